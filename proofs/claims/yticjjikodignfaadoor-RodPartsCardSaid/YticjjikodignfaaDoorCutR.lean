/- The document's Cut, with right arguments. -/
import Derived.Test.YticjjikodignfaaDoorCutRef
namespace Go.Proofs.YticjjikodignfaaDoor
open Go.RowKit

theorem rvalid_any (A : Option Addr) (n cap : Nat) (px py : Nat → Int) (w : World) (hp : IsPosts w A n px py) : Gives Tryd.prog 32 #[.slice A n cap] w (.bool (validB n px py)) := rValid_eq n px py ▸ r_valid_any A n cap px py w hp

set_option maxRecDepth 100000 in
set_option maxHeartbeats 6400000 in
theorem r_cut_near (b off n cap i k : Nat) (px py : Nat → Int) (w : World) (hc : n ≤ cap) (hm : cap ≤ maxLen) (hp : Posts w b off n px py) (hv : validB n px py = true) (hik : i < k) (hk : k < n) (hn : neighB n i k = false) (L K : List Pt) (E : Int)
    (hr0 : cutOk n i k px py = true → L = ptsOf (k - i + 1) (cutA i px) (cutA i py) ∧ K = ptsOf (n - k + i + 1) (cutB n k px) (cutB n k py) ∧ E = 0) (hr1 : cutOk n i k px py = false → L = [] ∧ K = [] ∧ E = 5) :
    GivesC 49 #[.slice (some ⟨b, off, none⟩) n cap, .int .i64 i, .int .i64 k] w L K E := by
  obtain ⟨n3, n40, hr⟩ := valid_bounds hv
  have Hq : Hid (IsPosts w (some ⟨b, off, none⟩) n px py) := ⟨by omega, fun _ => ⟨b, off, rfl, hp⟩⟩
  have Hp := Lib.hid hp
  have Hr := Lib.hid hr
  have H0 := Lib.hid hr0
  have H1 := Lib.hid hr1
  have hm' : cap ≤ 9223372036854775807 := by unfold maxLen at hm; omega
  have hn2 : i + 2 ≤ k := by
    simp only [neighB, Bool.or_eq_false_iff, decide_eq_false_iff_not] at hn
    omega
  have HN := Lib.hid hn
  have PA := Lib.hid (hp.sub i (k - i + 1) (by omega) (cutA i px) (cutA i py) (fun j _ => rfl) (fun j _ => rfl))
  have PB := Lib.hid (hp.sub k (n - k) (by omega) (fun j => px (k + j)) (fun j => py (k + j)) (fun j _ => rfl) (fun j _ => rfl))
  have PC : Hid (Posts w b off (i + 1) px py) := ⟨hp.lt, fun j hj => hp.x j (by omega), fun j hj => hp.y j (by omega)⟩
  have RB := Lib.hid (cutB_pts (i := i) px py hk)
  clear hv hr hr0 hr1 hm hn
  clear hp
  generalize hna : k - i + 1 = na at *
  have RA : Hid (∀ j, j < na → InRange (cutA i px j) (cutA i py j)) := fun j hj => Hr.out (i + j) (by omega)
  have RBB : Hid (∀ j, j < n - k + i + 1 → InRange (cutB n k px j) (cutB n k py j)) := fun j hj => by
    unfold cutB
    split
    · exact Hr.out _ (by omega)
    · exact Hr.out _ (by omega)
  have B1 := areaI_bd (n := na) (by omega) (by omega) RA.out
  have B2 := areaI_bd (n := n - k + i + 1) (by omega) (by omega) RBB.out
  have B3 := areaI_bd (n := n) (by omega) (by omega) Hr.out
  generalize hnb : n - k + i + 1 = nb at *
  generalize hS1 : areaI na (cutA i px) (cutA i py) = S1 at *
  generalize hS2 : areaI nb (cutB n k px) (cutB n k py) = S2 at *
  generalize hS3 : areaI n px py = S3 at *
  have HS1 := Lib.hid hS1
  have HS2 := Lib.hid hS2
  have HS3 := Lib.hid hS3
  have hOk : cutOk n i k px py = (validB na (cutA i px) (cutA i py) && (validB nb (cutB n k px) (cutB n k py) && decide (absI S1 + absI S2 = absI S3))) := by
    unfold cutOk
    rw [hna, hnb, hS1, hS2, hS3]
  have HOk := Lib.hid hOk
  clear hOk hS1 hS2 hS3
  have q11 : -1000000000000 ≤ S1 := by omega
  have q12 : S1 ≤ 1000000000000 := by omega
  have q21 : -1000000000000 ≤ S2 := by omega
  have q22 : S2 ≤ 1000000000000 := by omega
  have q31 : -1000000000000 ≤ S3 := by omega
  have q32 : S3 ≤ 1000000000000 := by omega
  obtain ⟨B11, B12⟩ := B1
  obtain ⟨B21, B22⟩ := B2
  obtain ⟨B31, B32⟩ := B3
  have a1 : 0 ≤ absI S1 ∧ absI S1 ≤ 400000000 := by unfold absI; omega
  have a2 : 0 ≤ absI S2 ∧ absI S2 ≤ 400000000 := by unfold absI; omega
  have a3 : 0 ≤ absI S3 ∧ absI S3 ≤ 400000000 := by unfold absI; omega
  generalize hT1 : absI S1 = T1 at *
  generalize hT2 : absI S2 = T2 at *
  generalize hT3 : absI S3 = T3 at *
  have HT1 := Lib.hid hT1
  have HT2 := Lib.hid hT2
  have HT3 := Lib.hid hT3
  clear hT1 hT2 hT3
  obtain ⟨a11, a12⟩ := a1
  obtain ⟨a21, a22⟩ := a2
  obtain ⟨a31, a32⟩ := a3
  have i1 : (i : Int) < k := by omega
  have i2 : (k : Int) < n := by omega
  have i3 : ¬ (k : Int) ≤ i := by omega
  have i4 : ¬ (n : Int) ≤ k := by omega
  have hn3 : ¬ (k : Int) - i = 1 := by omega
  have nb3 : 3 ≤ nb := by
    have := HN.out
    simp only [neighB, Bool.or_eq_false_iff, Bool.and_eq_false_iff, decide_eq_false_iff_not] at this
    omega
  have hn4 : ¬ (k : Int) - i = (n : Int) - 1 := by
    have := HN.out
    simp only [neighB, Bool.or_eq_false_iff, Bool.and_eq_false_iff, decide_eq_false_iff_not] at this
    omega
  have e3 : ((k : Int) - i == 1) = false := by simpa using hn3
  have e4 : ((k : Int) - i == (n : Int) - 1) = false := by simpa using hn4
  clear hn3 hn4
  obtain ⟨i0, hi, hz0, hz1, hz2⟩ := info_parts infoXY
  have hown : OwnP (w.alloc (.cells #[] 37)) w.heap.size (.slice (some ⟨w.heap.size, 0, none⟩) 0 0) [] := World.ownsRow_made w #[] 0 (Nat.le_refl _) (by unfold maxLen; omega) rfl
  have hnews := Lib.hid (posts_news (PA.out.later ⟨w.alloc (.cells #[] 37), by repeat (first | exact Below.refl _ _ | (with_reducible assumption) | apply below_later | apply below_alloc | apply below_drew | apply below_drewN)⟩))
  have hlen : Hid ((cells2 (ptsOf na (cutA i px) (cutA i py))).length = (k + 1 - i) * 2) := by
    show _ = _
    rw [cells2_length, ptsOf_length]; omega
  have hkl := PA.out.lt
  go_enter Tryd.func49, Tryd.ntmps49
  go_wp2_with (at_builtin; (refine wpList_append_own _ rfl _ _ 32 rfl w.heap.size 37 i0 (.agg #[.int .i64 0, .int .i64 0]) 2 16 Tryd.underlying32 hi hz0 hz1 hz2 rfl (by decide) _ _ _ rfl hown ⟨b, off + i * 2, none⟩ (k + 1 - i) (cap - i) (cells2 (ptsOf na (cutA i px) (cutA i py))) rfl hlen.out hnews.out (cells2_one _) (by simp only [maxLen, List.length_nil]; omega) (by simp only [List.length_nil]; omega) (by simp) ?_); intro v1 w1 hown1 hg1 _)
  obtain ⟨x1, hx1⟩ := later_of (below_own (by repeat (first | exact Below.refl _ _ | (with_reducible assumption) | apply below_later | apply below_alloc | apply below_drew | apply below_drewN)) hown (Nat.le_refl _) hg1 : Below w.heap.size w w1)
  subst hx1
  have ho1 : OwnP x1.val w.heap.size v1 (ptsOf na (cutA i px) (cutA i py)) := by
    unfold OwnP
    rw [ptsOf_length]
    rw [List.length_nil, Nat.zero_add, show k + 1 - i = na by omega] at hown1
    exact hown1
  obtain ⟨A1, cap1, rfl⟩ := ho1.shape_n (ptsOf_length _ _ _)
  obtain ⟨_, ga, rfl, Pa⟩ := ho1.at_pts (by omega) (by omega)
  have HO1 := Lib.hid ho1
  have HPa := Lib.hid Pa
  clear hown1 hg1 hown hnews ho1 Pa
  have hs1 := x1.size
  have HO2 : Hid (OwnP (x1.val.alloc (.cells #[] 37)).drew x1.val.heap.size (.slice (some ⟨x1.val.heap.size, 0, none⟩) 0 0) []) := World.ownsRow_made x1.val #[] 0 (Nat.le_refl _) (by unfold maxLen; omega) rfl
  have HN2 := Lib.hid (posts_news (PB.out.later ⟨(x1.val.alloc (.cells #[] 37)).drew, by repeat (first | exact Below.refl _ _ | (with_reducible assumption) | apply below_later | apply below_alloc | apply below_drew | apply below_drewN)⟩))
  have hlen2 : Hid ((cells2 (ptsOf (n - k) (fun j => px (k + j)) (fun j => py (k + j)))).length = (n - k) * 2) := by
    show _ = _
    rw [cells2_length, ptsOf_length]
  have hlen3 : Hid ((cells2 (ptsOf (i + 1) px py)).length = (i + 1) * 2) := by
    show _ = _
    rw [cells2_length, ptsOf_length]
  have f1 : k ≤ n := by omega
  have f2 : ¬ cap = k := by omega
  have f3 : i + 1 ≤ cap := by omega
  have f4 : IntKind.i64.wrap ((i : Int) + 1) = (i : Int) + 1 := by rw [IntKind.wrap_i64]; omega
  have f5 : 0 ≤ (i : Int) + 1 := by omega
  have f6 : (i : Int) + 1 ≤ cap := by omega
  go_wp2
  go_region_law (first | (refine step_append_lies _ rfl _ _ 32 rfl x1.val.heap.size 37 i0 (.agg #[.int .i64 0, .int .i64 0]) 2 16 Tryd.underlying32 hi hz0 hz1 hz2 rfl (by decide) _ _ _ rfl HO2.out ⟨b, off + k * 2, none⟩ (n - k) (cap - k) (cells2 (ptsOf (n - k) (fun j => px (k + j)) (fun j => py (k + j)))) rfl hlen2.out HN2.out (cells2_one _) (by omega) (by simp only [maxLen, List.length_nil]; omega) (by simp only [List.length_nil]; omega) (by simp) _ rfl ?_; intro g1 cp1 w2 hown2 hg2 hat hlt; rw [List.length_nil, Nat.zero_add] at hown2; have hb2 : Below x1.val.heap.size x1.val w2 := below_own (by repeat (first | exact Below.refl _ _ | (with_reducible assumption) | apply below_later | apply below_alloc | apply below_drew | apply below_drewN)) HO2.out (Nat.le_refl _) hg2; have HO3 := Lib.hid hown2; have HB2 := Lib.hid hb2; have HN3 := Lib.hid (posts_news (PC.out.later ⟨w2, below_more x1.ok hb2⟩)); clear hown2 hg2 hat) | (refine step_append_lies _ rfl _ _ 32 rfl x1.val.heap.size 37 i0 (.agg #[.int .i64 0, .int .i64 0]) 2 16 Tryd.underlying32 hi hz0 hz1 hz2 rfl (by decide) _ _ _ rfl HO3.out ⟨b, off, none⟩ (i + 1) cap (cells2 (ptsOf (i + 1) px py)) rfl hlen3.out HN3.out (cells2_one _) (by omega) (by simp only [maxLen]; omega) (by omega) HB2.out.size _ rfl ?_; intro g3 cp3 w3 hown3 hg3 hat hlt; have hb3 : Below x1.val.heap.size x1.val w3 := below_own HB2.out HO3.out (Nat.le_refl _) hg3; have HO4 := Lib.hid hown3; have HB3 := Lib.hid hb3; clear hown3 hg3 hat))
  obtain ⟨y4, hy4⟩ := later_of HB3.out
  subst hy4
  have ho4 : OwnP y4.val x1.val.heap.size (.slice (some ⟨g3, 0, none⟩) nb cp3) (ptsOf nb (cutB n k px) (cutB n k py)) := by
    have h4 := HO4.out
    unfold OwnP
    rw [← cells2_append, ← cells2_append, List.nil_append, RB.out, show n - k + (i + 1) = nb by omega] at h4
    rw [ptsOf_length]
    exact h4
  obtain ⟨_, gb, egb, Pb⟩ := ho4.at_pts (by omega) (by omega)
  simp only [Option.some.injEq, Addr.mk.injEq, and_true] at egb
  subst egb
  have Ob := ho4.mono hs1
  have Oa := own_later HO1.out y4
  have Pa' := HPa.out.later y4
  obtain ⟨x5, hx5⟩ : ∃ x : Later w, y4.val = x.val := later_of (by repeat (first | exact Below.refl _ _ | (with_reducible assumption) | apply below_later | apply below_alloc | apply below_drew | apply below_drewN))
  rw [hx5] at Oa Ob Pa' Pb ⊢
  have enb : n - k + (i + 1) = nb := by omega
  try simp only [enb]
  clear HO4 HB3 HO3 HB2 HN3 HO1 HPa ho4 f1 f2 f3 f4 f5 f6 hs1 hlen2 hlen3 hlen HN2 HO2
  obtain ⟨w5, hw5⟩ : ∃ w5 : World, w5 = x5.val := ⟨_, rfl⟩
  have HB5 : Below w.heap.size w w5 := by rw [hw5]; exact x5.ok
  have HX := Hp.out.later x5
  rw [← hw5] at Oa Ob Pa' Pb HX ⊢
  have OA := Lib.hid Oa
  have OB := Lib.hid Ob
  have va : Hid (∀ x : Later w5, Gives Tryd.prog 32 #[.slice (some ⟨ga, 0, none⟩) na cap1] x.val (.bool (validB na (cutA i px) (cutA i py)))) := fun x => rvalid_any _ _ _ _ _ _ ⟨by omega, fun _ => ⟨ga, 0, rfl, Pa'.later x⟩⟩
  have vb : Hid (∀ x : Later w5, Gives Tryd.prog 32 #[.slice (some ⟨g3, 0, none⟩) nb cp3] x.val (.bool (validB nb (cutB n k px) (cutB n k py)))) := fun x => rvalid_any _ _ _ _ _ _ ⟨by omega, fun _ => ⟨g3, 0, rfl, Pb.later x⟩⟩
  have sa : Hid (∀ x : Later w5, Gives Tryd.prog 34 #[.slice (some ⟨ga, 0, none⟩) na cap1] x.val (.int .i64 T1)) := fun x => HT1.out ▸ HS1.out ▸ fan_eq (n := na) (cutA i px) (cutA i py) (by omega) ▸ r_space_any _ _ _ _ _ _ _ (by omega) (by omega) (Pa'.later x) RA.out
  have sb : Hid (∀ x : Later w5, Gives Tryd.prog 34 #[.slice (some ⟨g3, 0, none⟩) nb cp3] x.val (.int .i64 T2)) := fun x => HT2.out ▸ HS2.out ▸ fan_eq (n := nb) (cutB n k px) (cutB n k py) (by omega) ▸ r_space_any _ _ _ _ _ _ _ (by omega) (by omega) (Pb.later x) RBB.out
  have sc : Hid (∀ x : Later w5, Gives Tryd.prog 34 #[.slice (some ⟨b, off, none⟩) n cap] x.val (.int .i64 T3)) := fun x => HT3.out ▸ HS3.out ▸ fan_eq (n := n) px py (by omega) ▸ r_space_any _ _ _ _ _ _ _ (by omega) (by omega) (HX.later x) Hr.out
  clear Oa Ob Pa' Pb hx5 HX hw5 HS1 HS2 HS3 HT1 HT2 HT3 RA RBB PA PB PC RB
  cases hva : validB na (cutA i px) (cutA i py)
  · obtain ⟨rfl, rfl, rfl⟩ := H1.out (by rw [HOk.out, hva]; rfl)
    rw [hva] at va
    have VA0 := Lib.hid (va.out ⟨w5, Below.refl _ _⟩)
    clear hva H0 H1
    go_wp2_with (first | (go_at_call 32; (first | (with_reducible show Calls _ _ _ (Later.val _) _; with_reducible refine Calls.mono (Later.call _ (VA0.out)) ?_) | (with_reducible refine Calls.mono (Gives.calls (VA0.out)) ?_)); rintro e w1 ⟨rfl, z1, rfl⟩))
    go_ret3
    exact ⟨_, _, rfl, ⟨_, (by repeat (first | exact Below.refl _ _ | (with_reducible assumption) | apply below_later | apply below_alloc | apply below_drew | apply below_drewN))⟩, rfl, OwnP.nil _ _, OwnP.nil _ _⟩
  · rw [hva] at va
    have VA0 := Lib.hid (va.out ⟨w5, Below.refl _ _⟩)
    cases hvb : validB nb (cutB n k px) (cutB n k py)
    · obtain ⟨rfl, rfl, rfl⟩ := H1.out (by rw [HOk.out, hva, hvb]; rfl)
      rw [hvb] at vb
      clear hva hvb H0 H1
      go_wp2_with (first | (go_at_call 32; (first | (with_reducible show Calls _ _ _ (Later.val _) _; with_reducible refine Calls.mono (Later.call _ (VA0.out)) ?_) | (with_reducible refine Calls.mono (Gives.calls (VA0.out)) ?_)); rintro e w1 ⟨rfl, z1, rfl⟩) | (go_at_call 32; (first | (with_reducible show Calls _ _ _ (Later.val _) _; with_reducible refine Calls.mono (Later.call _ (vb.out _)) ?_) | (with_reducible refine Calls.mono (Gives.calls (vb.out _)) ?_)); rintro e w1 ⟨rfl, z2, rfl⟩))
      go_ret3
      exact ⟨_, _, rfl, ⟨_, (by repeat (first | exact Below.refl _ _ | (with_reducible assumption) | apply below_later | apply below_alloc | apply below_drew | apply below_drewN))⟩, rfl, OwnP.nil _ _, OwnP.nil _ _⟩
    · rw [hvb] at vb
      by_cases hg : T1 + T2 = T3
      · obtain ⟨rfl, rfl, rfl⟩ := H0.out (by rw [HOk.out, hva, hvb]; simp [hg])
        clear hva hvb H0 H1
        subst hg
        go_wp2_with (first | (go_at_call 32; (first | (with_reducible show Calls _ _ _ (Later.val _) _; with_reducible refine Calls.mono (Later.call _ (VA0.out)) ?_) | (with_reducible refine Calls.mono (Gives.calls (VA0.out)) ?_)); rintro e w1 ⟨rfl, z1, rfl⟩) | (go_at_call 32; (first | (with_reducible show Calls _ _ _ (Later.val _) _; with_reducible refine Calls.mono (Later.call _ (vb.out _)) ?_) | (with_reducible refine Calls.mono (Gives.calls (vb.out _)) ?_)); rintro e w1 ⟨rfl, z2, rfl⟩) | (go_at_call 34; (first | (with_reducible show Calls _ _ _ (Later.val _) _; with_reducible refine Calls.mono (Later.call _ (sa.out _)) ?_) | (with_reducible refine Calls.mono (Gives.calls (sa.out _)) ?_)); rintro e w1 ⟨rfl, z3, rfl⟩) | (go_at_call 34; (first | (with_reducible show Calls _ _ _ (Later.val _) _; with_reducible refine Calls.mono (Later.call _ (sb.out _)) ?_) | (with_reducible refine Calls.mono (Gives.calls (sb.out _)) ?_)); rintro e w1 ⟨rfl, z5, rfl⟩) | (go_at_call 34; (first | (with_reducible show Calls _ _ _ (Later.val _) _; with_reducible refine Calls.mono (Later.call _ (sc.out _)) ?_) | (with_reducible refine Calls.mono (Gives.calls (sc.out _)) ?_)); rintro e w1 ⟨rfl, z8, rfl⟩))
        go_ret3
        exact ⟨_, _, rfl, ⟨_, (by repeat (first | exact Below.refl _ _ | (with_reducible assumption) | apply below_later | apply below_alloc | apply below_drew | apply below_drewN))⟩, rfl, own_later OA.out z8, own_later OB.out z8⟩
      · obtain ⟨rfl, rfl, rfl⟩ := H1.out (by rw [HOk.out, hva, hvb]; simp [hg])
        have hne : (T1 + T2 != T3) = true := by simpa using hg
        clear hva hvb hg H0 H1
        go_wp2_with (first | (go_at_call 32; (first | (with_reducible show Calls _ _ _ (Later.val _) _; with_reducible refine Calls.mono (Later.call _ (VA0.out)) ?_) | (with_reducible refine Calls.mono (Gives.calls (VA0.out)) ?_)); rintro e w1 ⟨rfl, z1, rfl⟩) | (go_at_call 32; (first | (with_reducible show Calls _ _ _ (Later.val _) _; with_reducible refine Calls.mono (Later.call _ (vb.out _)) ?_) | (with_reducible refine Calls.mono (Gives.calls (vb.out _)) ?_)); rintro e w1 ⟨rfl, z2, rfl⟩) | (go_at_call 34; (first | (with_reducible show Calls _ _ _ (Later.val _) _; with_reducible refine Calls.mono (Later.call _ (sa.out _)) ?_) | (with_reducible refine Calls.mono (Gives.calls (sa.out _)) ?_)); rintro e w1 ⟨rfl, z3, rfl⟩) | (go_at_call 34; (first | (with_reducible show Calls _ _ _ (Later.val _) _; with_reducible refine Calls.mono (Later.call _ (sb.out _)) ?_) | (with_reducible refine Calls.mono (Gives.calls (sb.out _)) ?_)); rintro e w1 ⟨rfl, z5, rfl⟩) | (go_at_call 34; (first | (with_reducible show Calls _ _ _ (Later.val _) _; with_reducible refine Calls.mono (Later.call _ (sc.out _)) ?_) | (with_reducible refine Calls.mono (Gives.calls (sc.out _)) ?_)); rintro e w1 ⟨rfl, z8, rfl⟩))
        go_ret3
        exact ⟨_, _, rfl, ⟨_, (by repeat (first | exact Below.refl _ _ | (with_reducible assumption) | apply below_later | apply below_alloc | apply below_drew | apply below_drewN))⟩, rfl, OwnP.nil _ _, OwnP.nil _ _⟩
end Go.Proofs.YticjjikodignfaaDoor
