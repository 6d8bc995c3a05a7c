/- rod.Cut and the document's: two parts of a parcel. -/
import Derived.Test.YticjjikodignfaaDoorConcat
import Derived.Test.YticjjikodignfaaDoorCutMath
import Derived.Test.YticjjikodignfaaDoorRefArea
import Derived.Test.YticjjikodignfaaDoorTail
import Derived.OwnWalk
namespace Go.Proofs.YticjjikodignfaaDoor
open Go.RowKit

def PostC (w : World) (l k : List Pt) (err : Int) (e : Ending) (w' : World) : Prop := ∃ v u, e = .returned (.tuple #[v, u, .int .i64 err]) ∧ ∃ x : Later w, w' = x.val ∧ OwnP w' w.heap.size v l ∧ OwnP w' w.heap.size u k
/-- A call that returns two lists of posts of its own, and an error. -/
def GivesC (f : FuncId) (args : Array Value) (w : World) (l k : List Pt) (err : Int) : Prop := Calls Tryd.prog f args w (PostC w l k err)
theorem GivesC.calls {f : FuncId} {args : Array Value} {w : World} {l k : List Pt} {err : Int} (h : GivesC f args w l k err) :
    Calls Tryd.prog f args w fun e w' => ∃ v u, e = .returned (.tuple #[v, u, .int .i64 err]) ∧ ∃ x : Later w, w' = x.val ∧ OwnP w' w.heap.size v l ∧ OwnP w' w.heap.size u k := h

/-- A stretch of posts. -/
theorem Posts.sub {w : World} {b off n : Nat} {px py : Nat → Int} (h : Posts w b off n px py) (i m : Nat) (hm : i + m ≤ n) (qx qy : Nat → Int) (hx : ∀ j, j < m → qx j = px (i + j)) (hy : ∀ j, j < m → qy j = py (i + j)) : Posts w b (off + i * 2) m qx qy := by
  refine ⟨h.lt, fun j hj => ?_, fun j hj => ?_⟩
  · rw [hx j hj, ← h.x (i + j) (by omega)]; congr 2; omega
  · rw [hy j hj, ← h.y (i + j) (by omega)]; congr 2; omega
/-- Posts that a call has made. -/
theorem OwnP.at_pts {w : World} {base n n' cap : Nat} {A : Option Addr} {px py : Nat → Int} (h : OwnP w base (.slice A n' cap) (ptsOf n px py)) (h0 : 0 < n) (hs : n ≤ 4611686018427387904) : n' = n ∧ ∃ g, A = some ⟨g, 0, none⟩ ∧ Posts w g 0 n px py := by
  obtain ⟨e, hq⟩ := h.posts (by rw [ptsOf_length]; exact hs)
  rw [ptsOf_length] at e
  subst e
  obtain ⟨g, o, rfl, hp⟩ := hq.at_ h0
  obtain ⟨_, g', e2, _⟩ := h.at_ (by rw [ptsOf_length]; exact h0)
  simp only [Option.some.injEq, Addr.mk.injEq, and_true] at e2
  obtain ⟨rfl, rfl⟩ := e2
  exact ⟨rfl, g, rfl, hp.lt, fun i hi => by rw [hp.x i hi, hx_pts hi], fun i hi => by rw [hp.y i hi, hy_pts hi]⟩
theorem cutB_pts {n i k : Nat} (px py : Nat → Int) (hk : k < n) : ptsOf (n - k) (fun j => px (k + j)) (fun j => py (k + j)) ++ ptsOf (i + 1) px py = ptsOf (n - k + i + 1) (cutB n k px) (cutB n k py) := by
  apply List.ext_getElem?
  intro j
  rw [List.getElem?_append, ptsOf_length]
  rcases Nat.lt_or_ge j (n - k) with h | h
  · rw [if_pos h, ptsOf_get h, ptsOf_get (by omega)]
    unfold cutB
    rw [if_pos (by omega), if_pos (by omega)]
  · rw [if_neg (by omega)]
    rcases Nat.lt_or_ge j (n - k + i + 1) with h2 | h2
    · rw [ptsOf_get (by omega), ptsOf_get h2]
      unfold cutB
      rw [if_neg (by omega), if_neg (by omega), show k + j - n = j - (n - k) by omega]
    · rw [List.getElem?_eq_none (by rw [ptsOf_length]; omega), List.getElem?_eq_none (by rw [ptsOf_length]; omega)]

/-- The two parts are parcels, and their areas add up. -/
def cutOk (n i k : Nat) (px py : Nat → Int) : Bool :=
  validB (k - i + 1) (cutA i px) (cutA i py) && (validB (n - k + i + 1) (cutB n k px) (cutB n k py) && decide (absI (areaI (k - i + 1) (cutA i px) (cutA i py)) + absI (areaI (n - k + i + 1) (cutB n k px) (cutB n k py)) = absI (areaI n px py)))

set_option maxRecDepth 100000 in
set_option maxHeartbeats 6400000 in
theorem cut_near (b off n cap i k : Nat) (px py : Nat → Int) (w : World) (hc : n ≤ cap) (hm : cap ≤ maxLen) (hp : Posts w b off n px py) (hv : validB n px py = true) (hik : i < k) (hk : k < n) (hn : neighB n i k = false) (L K : List Pt) (E : Int)
    (hr0 : cutOk n i k px py = true → L = ptsOf (k - i + 1) (cutA i px) (cutA i py) ∧ K = ptsOf (n - k + i + 1) (cutB n k px) (cutB n k py) ∧ E = 0) (hr1 : cutOk n i k px py = false → L = [] ∧ K = [] ∧ E = 5) :
    GivesC 48 #[.slice (some ⟨b, off, none⟩) n cap, .int .i64 i, .int .i64 k] w L K E := by
  obtain ⟨n3, n40, hr⟩ := valid_bounds hv
  have V1 := Lib.hid hv
  have Hq : Hid (IsPosts w (some ⟨b, off, none⟩) n px py) := ⟨by omega, fun _ => ⟨b, off, rfl, hp⟩⟩
  have Hp := Lib.hid hp
  have Hr := Lib.hid hr
  have H0 := Lib.hid hr0
  have H1 := Lib.hid hr1
  have hm' : cap ≤ 9223372036854775807 := by unfold maxLen at hm; omega
  have hn2 : i + 2 ≤ k := by
    simp only [neighB, Bool.or_eq_false_iff, decide_eq_false_iff_not] at hn
    omega
  have HN := Lib.hid hn
  have PA := Lib.hid (hp.sub i (k - i + 1) (by omega) (cutA i px) (cutA i py) (fun j _ => rfl) (fun j _ => rfl))
  have PB := Lib.hid (hp.sub k (n - k) (by omega) (fun j => px (k + j)) (fun j => py (k + j)) (fun j _ => rfl) (fun j _ => rfl))
  have PC : Hid (Posts w b off (i + 1) px py) := ⟨hp.lt, fun j hj => hp.x j (by omega), fun j hj => hp.y j (by omega)⟩
  have RB := Lib.hid (cutB_pts (i := i) px py hk)
  clear hv hr hr0 hr1 hm hn
  clear hp
  generalize hna : k - i + 1 = na at *
  have CA : Hid (∀ x : Later w, GivesL 79 #[.slice (some ⟨b, off + i * 2, none⟩) (k + 1 - i) (cap - i)] x.val (ptsOf na (cutA i px) (cutA i py))) := by
    intro x
    rw [show k + 1 - i = na by omega]
    exact clone_any _ _ _ _ _ _ _ (by omega) (by omega) (PA.out.later x)
  have RA : Hid (∀ j, j < na → InRange (cutA i px j) (cutA i py j)) := fun j hj => Hr.out (i + j) (by omega)
  have RBB : Hid (∀ j, j < n - k + i + 1 → InRange (cutB n k px j) (cutB n k py j)) := fun j hj => by
    unfold cutB
    split
    · exact Hr.out _ (by omega)
    · exact Hr.out _ (by omega)
  have B1 := areaI_bd (n := na) (by omega) (by omega) RA.out
  have B2 := areaI_bd (n := n - k + i + 1) (by omega) (by omega) RBB.out
  have B3 := areaI_bd (n := n) (by omega) (by omega) Hr.out
  generalize hnb : n - k + i + 1 = nb at *
  generalize hS1 : areaI na (cutA i px) (cutA i py) = S1 at *
  generalize hS2 : areaI nb (cutB n k px) (cutB n k py) = S2 at *
  generalize hS3 : areaI n px py = S3 at *
  have HS1 := Lib.hid hS1
  have HS2 := Lib.hid hS2
  have HS3 := Lib.hid hS3
  have hOk : cutOk n i k px py = (validB na (cutA i px) (cutA i py) && (validB nb (cutB n k px) (cutB n k py) && decide (absI S1 + absI S2 = absI S3))) := by
    unfold cutOk
    rw [hna, hnb, hS1, hS2, hS3]
  have HOk := Lib.hid hOk
  clear hOk hS1 hS2 hS3
  have q11 : -1000000000000 ≤ S1 := by omega
  have q12 : S1 ≤ 1000000000000 := by omega
  have q21 : -1000000000000 ≤ S2 := by omega
  have q22 : S2 ≤ 1000000000000 := by omega
  have q31 : -1000000000000 ≤ S3 := by omega
  have q32 : S3 ≤ 1000000000000 := by omega
  obtain ⟨B11, B12⟩ := B1
  obtain ⟨B21, B22⟩ := B2
  obtain ⟨B31, B32⟩ := B3
  have a1 : 0 ≤ absI S1 ∧ absI S1 ≤ 400000000 := by unfold absI; omega
  have a2 : 0 ≤ absI S2 ∧ absI S2 ≤ 400000000 := by unfold absI; omega
  have a3 : 0 ≤ absI S3 ∧ absI S3 ≤ 400000000 := by unfold absI; omega
  generalize hT1 : absI S1 = T1 at *
  generalize hT2 : absI S2 = T2 at *
  generalize hT3 : absI S3 = T3 at *
  have HT1 := Lib.hid hT1
  have HT2 := Lib.hid hT2
  have HT3 := Lib.hid hT3
  clear hT1 hT2 hT3
  obtain ⟨a11, a12⟩ := a1
  obtain ⟨a21, a22⟩ := a2
  obtain ⟨a31, a32⟩ := a3
  have i1 : (i : Int) < k := by omega
  have i2 : (k : Int) < n := by omega
  have i3 : ¬ (k : Int) ≤ i := by omega
  have i4 : ¬ (n : Int) ≤ k := by omega
  go_enter Tryd.func48, Tryd.ntmps48
  go_wp2_with (first | (go_at_call 33; (first | (with_reducible show Calls _ _ _ (Later.val _) _; with_reducible refine Calls.mono (Later.call _ ((V1.out ▸ valid_any _ _ _ _ _ _ Hq.out))) ?_) | (with_reducible refine Calls.mono (Gives.calls ((V1.out ▸ valid_any _ _ _ _ _ _ Hq.out))) ?_)); rintro e w1 ⟨rfl, y1, rfl⟩) | (go_at_call 87; (first | (with_reducible show Calls _ _ _ (Later.val _) _; with_reducible refine Calls.mono (Later.call _ ((HN.out ▸ neighbours_any n i k _ (by omega) (by omega) (by omega) (by omega)))) ?_) | (with_reducible refine Calls.mono (Gives.calls ((HN.out ▸ neighbours_any n i k _ (by omega) (by omega) (by omega) (by omega)))) ?_)); rintro e w1 ⟨rfl, y2, rfl⟩) | (go_at_call 79; with_reducible refine Calls.mono (GivesL.calls (CA.out _)) ?_; rintro e w1 ⟨v, rfl, y3, rfl, ho1⟩; obtain ⟨A1, cap1, rfl⟩ := ho1.shape_n (ptsOf_length _ _ _); obtain ⟨_, ga, rfl, Pa⟩ := ho1.at_pts (by omega) (by omega)))
  refine wp_region_tail 0 7 (by kernel_rfl) (by kernel_rfl) ?_
  simp only [List.take_succ_cons, List.take_zero, List.drop_succ_cons, List.drop_zero]
  repeat (go_big_quiet_step ((fail)))
  refine wpQuiet_nil ?_
  intro y4
  go_wp2_with (first | (go_at_call 85; with_reducible refine Calls.mono (GivesL.calls (RB.out ▸ concat2_any _ _ b (off + k * 2) (n - k) (cap - k) b off (i + 1) cap _ _ _ _ _ (by omega) (by omega) (by omega) (by omega) (PB.out.later ⟨_, (by repeat (first | exact Below.refl _ _ | (with_reducible assumption) | apply below_later | apply below_alloc | apply below_drew | apply below_drewN))⟩) (PC.out.later ⟨_, (by repeat (first | exact Below.refl _ _ | (with_reducible assumption) | apply below_later | apply below_alloc | apply below_drew | apply below_drewN))⟩) (by simp) (by simp) (by simp))) ?_; rintro e w1 ⟨v, rfl, y5, rfl, ho2⟩; obtain ⟨A2, cap2, rfl⟩ := ho2.shape_n (ptsOf_length _ _ _); obtain ⟨_, gb, rfl, Pb⟩ := ho2.at_pts (by omega) (by omega)))
  refine calm_normal ?_
  have z2 := y2.size
  have z3 := y3.size
  have z4 := y4.size
  have Oa := (((ho1.later y4).alloc (.cells #[.slice (some ⟨b, off + k * 2, none⟩) (n - k) (cap - k), .slice (some ⟨b, off, none⟩) (i + 1) cap] 32)).later y5).mono z2
  have Ob := ho2.mono (base' := w.heap.size) (by simp only [World.size_alloc]; omega)
  have Pa' := Pa.later ⟨y5.val, (by repeat (first | exact Below.refl _ _ | (with_reducible assumption) | apply below_later | apply below_alloc | apply below_drew | apply below_drewN))⟩
  obtain ⟨x5, hx5⟩ : ∃ x : Later w, y5.val = x.val := later_of (by repeat (first | exact Below.refl _ _ | (with_reducible assumption) | apply below_later | apply below_alloc | apply below_drew | apply below_drewN))
  simp only [hx5] at Oa Ob Pa' Pb ⊢
  clear ho1 ho2 Pa z2 z3 z4
  obtain ⟨w5, hw5⟩ : ∃ w5 : World, w5 = x5.val := ⟨_, rfl⟩
  have HB5 : Below w.heap.size w w5 := by rw [hw5]; exact x5.ok
  have HX := Hp.out.later x5
  rw [← hw5] at Oa Ob Pa' Pb HX ⊢
  have OA := Lib.hid Oa
  have OB := Lib.hid Ob
  have va : Hid (∀ x : Later w5, Gives Tryd.prog 33 #[.slice (some ⟨ga, 0, none⟩) na cap1] x.val (.bool (validB na (cutA i px) (cutA i py)))) := fun x => valid_any _ _ _ _ _ _ ⟨by omega, fun _ => ⟨ga, 0, rfl, Pa'.later x⟩⟩
  have vb : Hid (∀ x : Later w5, Gives Tryd.prog 33 #[.slice (some ⟨gb, 0, none⟩) nb cap2] x.val (.bool (validB nb (cutB n k px) (cutB n k py)))) := fun x => valid_any _ _ _ _ _ _ ⟨by omega, fun _ => ⟨gb, 0, rfl, Pb.later x⟩⟩
  have sa : Hid (∀ x : Later w5, Gives Tryd.prog 62 #[.slice (some ⟨ga, 0, none⟩) na cap1] x.val (.int .i64 S1)) := fun x => HS1.out ▸ signedArea_any _ _ _ _ _ _ _ (by omega) (by omega) (Pa'.later x) RA.out
  have sb : Hid (∀ x : Later w5, Gives Tryd.prog 62 #[.slice (some ⟨gb, 0, none⟩) nb cap2] x.val (.int .i64 S2)) := fun x => HS2.out ▸ signedArea_any _ _ _ _ _ _ _ (by omega) (by omega) (Pb.later x) RBB.out
  have sc : Hid (∀ x : Later w5, Gives Tryd.prog 62 #[.slice (some ⟨b, off, none⟩) n cap] x.val (.int .i64 S3)) := fun x => HS3.out ▸ signedArea_any _ _ _ _ _ _ _ (by omega) (by omega) (HX.later x) Hr.out
  have ba : Hid (∀ x : Later w5, Gives Tryd.prog 61 #[.int .i64 S1] x.val (.int .i64 T1)) := fun x => HT1.out ▸ abs_any S1 _ q11 q12
  have bb : Hid (∀ x : Later w5, Gives Tryd.prog 61 #[.int .i64 S2] x.val (.int .i64 T2)) := fun x => HT2.out ▸ abs_any S2 _ q21 q22
  have bc : Hid (∀ x : Later w5, Gives Tryd.prog 61 #[.int .i64 S3] x.val (.int .i64 T3)) := fun x => HT3.out ▸ abs_any S3 _ q31 q32
  clear Oa Ob Pa' Pb hx5 HX hw5 HS1 HS2 HS3 HT1 HT2 HT3 RA RBB PA PB PC CA RB
  cases hva : validB na (cutA i px) (cutA i py)
  · obtain ⟨rfl, rfl, rfl⟩ := H1.out (by rw [HOk.out, hva]; rfl)
    rw [hva] at va
    have VA0 := Lib.hid (va.out ⟨w5, Below.refl _ _⟩)
    clear hva H0 H1
    go_wp2_with (first | (go_at_call 33; (first | (with_reducible show Calls _ _ _ (Later.val _) _; with_reducible refine Calls.mono (Later.call _ (VA0.out)) ?_) | (with_reducible refine Calls.mono (Gives.calls (VA0.out)) ?_)); rintro e w1 ⟨rfl, z1, rfl⟩))
    go_ret3
    exact ⟨_, _, rfl, ⟨_, (by repeat (first | exact Below.refl _ _ | (with_reducible assumption) | apply below_later | apply below_alloc | apply below_drew | apply below_drewN))⟩, rfl, OwnP.nil _ _, OwnP.nil _ _⟩
  · rw [hva] at va
    have VA0 := Lib.hid (va.out ⟨w5, Below.refl _ _⟩)
    cases hvb : validB nb (cutB n k px) (cutB n k py)
    · obtain ⟨rfl, rfl, rfl⟩ := H1.out (by rw [HOk.out, hva, hvb]; rfl)
      rw [hvb] at vb
      clear hva hvb H0 H1
      go_wp2_with (first | (go_at_call 33; (first | (with_reducible show Calls _ _ _ (Later.val _) _; with_reducible refine Calls.mono (Later.call _ (VA0.out)) ?_) | (with_reducible refine Calls.mono (Gives.calls (VA0.out)) ?_)); rintro e w1 ⟨rfl, z1, rfl⟩) | (go_at_call 33; (first | (with_reducible show Calls _ _ _ (Later.val _) _; with_reducible refine Calls.mono (Later.call _ (vb.out _)) ?_) | (with_reducible refine Calls.mono (Gives.calls (vb.out _)) ?_)); rintro e w1 ⟨rfl, z2, rfl⟩))
      go_ret3
      exact ⟨_, _, rfl, ⟨_, (by repeat (first | exact Below.refl _ _ | (with_reducible assumption) | apply below_later | apply below_alloc | apply below_drew | apply below_drewN))⟩, rfl, OwnP.nil _ _, OwnP.nil _ _⟩
    · rw [hvb] at vb
      by_cases hg : T1 + T2 = T3
      · obtain ⟨rfl, rfl, rfl⟩ := H0.out (by rw [HOk.out, hva, hvb]; simp [hg])
        clear hva hvb H0 H1
        subst hg
        go_wp2_with (first | (go_at_call 33; (first | (with_reducible show Calls _ _ _ (Later.val _) _; with_reducible refine Calls.mono (Later.call _ (VA0.out)) ?_) | (with_reducible refine Calls.mono (Gives.calls (VA0.out)) ?_)); rintro e w1 ⟨rfl, z1, rfl⟩) | (go_at_call 33; (first | (with_reducible show Calls _ _ _ (Later.val _) _; with_reducible refine Calls.mono (Later.call _ (vb.out _)) ?_) | (with_reducible refine Calls.mono (Gives.calls (vb.out _)) ?_)); rintro e w1 ⟨rfl, z2, rfl⟩) | (go_at_call 62; (first | (with_reducible show Calls _ _ _ (Later.val _) _; with_reducible refine Calls.mono (Later.call _ (sa.out _)) ?_) | (with_reducible refine Calls.mono (Gives.calls (sa.out _)) ?_)); rintro e w1 ⟨rfl, z3, rfl⟩) | (go_at_call 61; (first | (with_reducible show Calls _ _ _ (Later.val _) _; with_reducible refine Calls.mono (Later.call _ (ba.out _)) ?_) | (with_reducible refine Calls.mono (Gives.calls (ba.out _)) ?_)); rintro e w1 ⟨rfl, z4, rfl⟩) | (go_at_call 62; (first | (with_reducible show Calls _ _ _ (Later.val _) _; with_reducible refine Calls.mono (Later.call _ (sb.out _)) ?_) | (with_reducible refine Calls.mono (Gives.calls (sb.out _)) ?_)); rintro e w1 ⟨rfl, z5, rfl⟩) | (go_at_call 61; (first | (with_reducible show Calls _ _ _ (Later.val _) _; with_reducible refine Calls.mono (Later.call _ (bb.out _)) ?_) | (with_reducible refine Calls.mono (Gives.calls (bb.out _)) ?_)); rintro e w1 ⟨rfl, z6, rfl⟩) | (go_at_call 62; (first | (with_reducible show Calls _ _ _ (Later.val _) _; with_reducible refine Calls.mono (Later.call _ (sc.out _)) ?_) | (with_reducible refine Calls.mono (Gives.calls (sc.out _)) ?_)); rintro e w1 ⟨rfl, z7, rfl⟩) | (go_at_call 61; (first | (with_reducible show Calls _ _ _ (Later.val _) _; with_reducible refine Calls.mono (Later.call _ (bc.out _)) ?_) | (with_reducible refine Calls.mono (Gives.calls (bc.out _)) ?_)); rintro e w1 ⟨rfl, z8, rfl⟩))
        go_ret3
        exact ⟨_, _, rfl, ⟨_, (by repeat (first | exact Below.refl _ _ | (with_reducible assumption) | apply below_later | apply below_alloc | apply below_drew | apply below_drewN))⟩, rfl, own_later OA.out z8, own_later OB.out z8⟩
      · obtain ⟨rfl, rfl, rfl⟩ := H1.out (by rw [HOk.out, hva, hvb]; simp [hg])
        have hne : (T1 + T2 != T3) = true := by simpa using hg
        clear hva hvb hg H0 H1
        go_wp2_with (first | (go_at_call 33; (first | (with_reducible show Calls _ _ _ (Later.val _) _; with_reducible refine Calls.mono (Later.call _ (VA0.out)) ?_) | (with_reducible refine Calls.mono (Gives.calls (VA0.out)) ?_)); rintro e w1 ⟨rfl, z1, rfl⟩) | (go_at_call 33; (first | (with_reducible show Calls _ _ _ (Later.val _) _; with_reducible refine Calls.mono (Later.call _ (vb.out _)) ?_) | (with_reducible refine Calls.mono (Gives.calls (vb.out _)) ?_)); rintro e w1 ⟨rfl, z2, rfl⟩) | (go_at_call 62; (first | (with_reducible show Calls _ _ _ (Later.val _) _; with_reducible refine Calls.mono (Later.call _ (sa.out _)) ?_) | (with_reducible refine Calls.mono (Gives.calls (sa.out _)) ?_)); rintro e w1 ⟨rfl, z3, rfl⟩) | (go_at_call 61; (first | (with_reducible show Calls _ _ _ (Later.val _) _; with_reducible refine Calls.mono (Later.call _ (ba.out _)) ?_) | (with_reducible refine Calls.mono (Gives.calls (ba.out _)) ?_)); rintro e w1 ⟨rfl, z4, rfl⟩) | (go_at_call 62; (first | (with_reducible show Calls _ _ _ (Later.val _) _; with_reducible refine Calls.mono (Later.call _ (sb.out _)) ?_) | (with_reducible refine Calls.mono (Gives.calls (sb.out _)) ?_)); rintro e w1 ⟨rfl, z5, rfl⟩) | (go_at_call 61; (first | (with_reducible show Calls _ _ _ (Later.val _) _; with_reducible refine Calls.mono (Later.call _ (bb.out _)) ?_) | (with_reducible refine Calls.mono (Gives.calls (bb.out _)) ?_)); rintro e w1 ⟨rfl, z6, rfl⟩) | (go_at_call 62; (first | (with_reducible show Calls _ _ _ (Later.val _) _; with_reducible refine Calls.mono (Later.call _ (sc.out _)) ?_) | (with_reducible refine Calls.mono (Gives.calls (sc.out _)) ?_)); rintro e w1 ⟨rfl, z7, rfl⟩) | (go_at_call 61; (first | (with_reducible show Calls _ _ _ (Later.val _) _; with_reducible refine Calls.mono (Later.call _ (bc.out _)) ?_) | (with_reducible refine Calls.mono (Gives.calls (bc.out _)) ?_)); rintro e w1 ⟨rfl, z8, rfl⟩))
        go_ret3
        exact ⟨_, _, rfl, ⟨_, (by repeat (first | exact Below.refl _ _ | (with_reducible assumption) | apply below_later | apply below_alloc | apply below_drew | apply below_drewN))⟩, rfl, OwnP.nil _ _, OwnP.nil _ _⟩
end Go.Proofs.YticjjikodignfaaDoor
