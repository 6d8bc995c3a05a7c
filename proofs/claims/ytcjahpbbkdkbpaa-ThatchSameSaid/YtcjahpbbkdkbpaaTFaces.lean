/- thatch's and the document's Needs and Faces: walked. -/
import Derived.Test.YtcjahpbbkdkbpaaTRidge
import Derived.Test.YtcjahpbbkdkbpaaTail
import Derived.Deep.RegionWith
namespace Go.Proofs.Ytcjahpbbkdkbpaa
open Go.RowKit

def ratP (n d : Nat) : Pt := ((loN n d : Nat), (loD n d : Nat))
/-- The ground under a face. -/
def grN (L H : Nat) (h : Bool) (j : Nat) : Nat := if h then (if j < 2 then (L - H) * H else H * H) else L * H
def kN (h : Bool) : Nat := if h then 4 else 2
def facesL (L H B C : Nat) (h : Bool) (k : Nat) : List Pt := (List.range k).map fun j => ratP (grN L H h j * C) B
theorem facesL_length (L H B C : Nat) (h : Bool) (k : Nat) : (facesL L H B C h k).length = k := by simp [facesL]
theorem facesL_succ (L H B C : Nat) (h : Bool) (k : Nat) : facesL L H B C h (k + 1) = facesL L H B C h k ++ [ratP (grN L H h k * C) B] := by simp [facesL, List.range_succ]
theorem grN_le {L H : Nat} {h : Bool} {j : Nat} (hL : L ≤ 400) (hH : H ≤ 200) : grN L H h j ≤ 160000 := by
  unfold grN
  split
  · split
    · exact Nat.le_trans (mul_le3 (m := 400) (n := 200) (by omega) hH) (by omega)
    · exact Nat.le_trans (mul_le3 (m := 200) (n := 200) hH hH) (by omega)
  · exact Nat.le_trans (mul_le3 (m := 400) (n := 200) hL hH) (by omega)
def PostF (w : World) (k : Nat) (l : List Pt) (e : Ending) (w' : World) : Prop := ∃ A cap, e = .returned (.tuple #[.slice A k cap, .int .i64 0]) ∧ ∃ x : Later w, w' = x.val ∧ IsPairs w' A k (hx l) (hy l)
set_option maxRecDepth 100000 in
theorem Faces_bad (l d a b c : Int) (h : Bool) (w : World) (hv : okRoof l d a b c = false) :
    Gives Try.prog 10 #[roofV l d a b c h] w (.tuple #[.slice none 0 0, .int .i64 80]) := by
  have VA := Lib.hid fun V => hv ▸ ValidRoof_any l d a b c h V
  unfold roofV at VA ⊢
  clear hv
  go_enter Try.func10, Try.ntmps10
  go_wp2_with (go_at_call 8; with_reducible refine Calls.mono (Gives.calls (VA.out _)) ?_; rintro e w1 ⟨rfl, z, rfl⟩)
  go_ret2
  exact ⟨rfl, later_of (by repeat (first | exact Below.refl _ _ | (with_reducible assumption) | apply below_later | apply below_alloc | apply below_drew | apply below_drewN))⟩
set_option maxRecDepth 100000 in
theorem rFaces_bad (l d a b c : Int) (h : Bool) (w : World) (hv : okRoof l d a b c = false) :
    Gives Try.prog 11 #[roofV l d a b c h] w (.tuple #[.slice none 0 0, .int .i64 80]) := by
  have VA := Lib.hid fun V => hv ▸ rValidRoof_any l d a b c h V
  unfold roofV at VA ⊢
  clear hv
  go_enter Try.func11, Try.ntmps11
  go_wp2_with (go_at_call 9; with_reducible refine Calls.mono (Gives.calls (VA.out _)) ?_; rintro e w1 ⟨rfl, z, rfl⟩)
  go_ret2
  exact ⟨rfl, later_of (by repeat (first | exact Below.refl _ _ | (with_reducible assumption) | apply below_later | apply below_alloc | apply below_drew | apply below_drewN))⟩
theorem pairs_new {V : World} {g n : Nat} {l : List Pt} {cs : Array Value} {t : TypeId} (hc : V.heap[g]? = some (.cells cs t (0, 0))) (hl : cs.toList = cells2 l) (hn : l.length = n) (hs : n ≤ 1000) : IsPairs V (some ⟨g, 0, none⟩) n (hx l) (hy l) := by
  refine ⟨by omega, fun _ => ⟨g, 0, rfl, get_lt hc, fun i hi => ?_⟩⟩
  have e1 : cs[0 + i * 2]? = some (.int .i64 (hx l i)) := by
    rw [Nat.zero_add, ← Array.getElem?_toList, hl]
    exact cells2_x l i (by omega)
  have e2 : cs[0 + i * 2 + 1]? = some (.int .i64 (hy l i)) := by
    rw [Nat.zero_add, ← Array.getElem?_toList, hl]
    exact cells2_y l i (by omega)
  exact ⟨cell_of_heap hc _ _ e1, cell_of_heap hc _ _ e2⟩
set_option maxRecDepth 100000 in
set_option maxHeartbeats 3200000 in
theorem Faces_gable (L D H A B C : Nat) (w : World) (R : Rf L D H A B C) (hv : okRoof L D A B C = true) :
    Calls Try.prog 10 #[roofV L D A B C false] w (PostF w 2 (facesL L H B C false 2)) := by
  have VA := Lib.hid fun V => hv ▸ ValidRoof_any L D A B C false V
  have hD : D ≤ 400 := by have := R.dl; have := R.l2; omega
  have hH : H ≤ 200 := by have := R.dh; omega
  have hm : L * H ≤ 160000 := grN_le (h := false) (j := 0) R.l2 hH
  have e1 := wrap_mul hm (by omega)
  obtain ⟨t1, t2⟩ := half_of R.dh hD
  have t3 : (D : Int) / 2 = (H : Int) := by have := R.dh; omega
  have SL := Lib.hid fun V => sloped_any L D A B C (L * H) false V hm R.b1 R.c1.2
  have HF : Hid (facesL L H B C false 2 = [(((loN (L * H * C) B : Nat) : Int), ((loD (L * H * C) B : Nat) : Int)), (((loN (L * H * C) B : Nat) : Int), ((loD (L * H * C) B : Nat) : Int))]) := rfl
  unfold ratV at SL
  unfold roofV at VA SL ⊢
  generalize facesL L H B C false 2 = fl at *
  generalize loN (L * H * C) B = r1 at *
  generalize loD (L * H * C) B = r2 at *
  generalize L * H = p at *
  clear hv R
  go_enter Try.func10, Try.ntmps10
  go_wp2_with (first
    | ((go_at_call 8; with_reducible refine Calls.mono (Gives.calls (VA.out _)) ?_; rintro e w1 ⟨rfl, z, rfl⟩); obtain ⟨⟨x0, x1, x2, x3, x4, x5⟩, lx⟩ := roof_at (w := w) (V := z.val) (l := L) (d := D) (a := A) (b := B) (c := C) (by repeat (first | exact Below.refl _ _ | (with_reducible assumption) | apply below_later | apply below_alloc | apply below_drew | apply below_drewN)))
    | (go_at_call 28; with_reducible refine Calls.mono (Gives.calls (SL.out _)) ?_; rintro e w1 ⟨rfl, z2, rfl⟩))
  refine bodyPost_ret (v := .tuple #[.slice _ 2 2, .int .i64 0]) (by simp [results, Try.results10, go_sem]; rfl) rfl ?_
  have hh : ((z2.val.alloc (.cells #[.int .i64 r1, .int .i64 r2] 27)).alloc (.cells #[.int .i64 r1, .int .i64 r2, .int .i64 r1, .int .i64 r2] 27)).heap[z2.val.heap.size + 1]? = some (.cells #[.int .i64 r1, .int .i64 r2, .int .i64 r1, .int .i64 r2] 27 (0, 0)) := by
    have h := World.alloc_heap_new (z2.val.alloc (.cells #[.int .i64 r1, .int .i64 r2] 27)) (.cells #[.int .i64 r1, .int .i64 r2, .int .i64 r1, .int .i64 r2] 27)
    rw [World.size_alloc] at h
    exact h
  exact ⟨_, 2, rfl, ⟨_, by repeat (first | exact Below.refl _ _ | (with_reducible assumption) | apply below_later | apply below_alloc | apply below_drew | apply below_drewN)⟩, rfl, pairs_new hh (by rw [HF.out]; rfl) (by rw [HF.out]; rfl) (by omega)⟩
theorem facesL_le (L H B C : Nat) (h : Bool) (k : Nat) (hk : k ≤ 4) : (facesL L H B C h k).length ≤ 4 := by rw [facesL_length]; exact hk
set_option maxRecDepth 100000 in
set_option maxHeartbeats 6400000 in
theorem rFaces_gable (L D H A B C : Nat) (w : World) (R : Rf L D H A B C) (hv : okRoof L D A B C = true) :
    Calls Try.prog 11 #[roofV L D A B C false] w (PostF w 2 (facesL L H B C false 2)) := by
  have VA := Lib.hid fun V => hv ▸ rValidRoof_any L D A B C false V
  have hD : D ≤ 400 := by have := R.dl; have := R.l2; omega
  have hH : H ≤ 200 := by have := R.dh; omega
  have hm0 : L * H ≤ 160000 := grN_le (h := false) (j := 0) R.l2 hH
  have hm1 : (L - H) * H ≤ 160000 := grN_le (h := true) (j := 0) R.l2 hH
  have hm2 : H * H ≤ 160000 := grN_le (h := true) (j := 2) R.l2 hH
  have e0 := wrap_mul hm0 (by omega)
  have e1 := wrap_mul hm1 (by omega)
  have e2 := wrap_mul hm2 (by omega)
  have s1 : IntKind.i64.wrap ((L : Int) - (H : Int)) = ((L - H : Nat) : Int) := by rw [show (L : Int) - (H : Int) = ((L - H : Nat) : Int) by have := R.dl; have := R.dh; omega]; exact i64_nat (by have := R.l2; omega)
  have b1 := R.l2
  obtain ⟨t1, t2⟩ := half_of R.dh hD
  have t3 : (D : Int) / 2 = (H : Int) := by have := R.dh; omega
  have RT := Lib.hid fun (j : Nat) (V : World) => rratio_any (grN L H false j * C) B V (by have : grN L H false j * C ≤ 160000 * 1000 := mul_le3 (grN_le R.l2 hH) R.c1.2; omega) R.b1.1 (by have := R.b1; omega)
  have GB := Lib.hid fun j => grN_le (L := L) (H := H) (h := false) (j := j) R.l2 hH
  have GM := Lib.hid fun j => wrap_mul (a := grN L H false j) (b := C) (m := 160000000) (mul_le3 (m := 160000) (n := 1000) (grN_le R.l2 hH) R.c1.2) (by omega)
  have FS := Lib.hid fun k => facesL_succ L H B C false k
  have FL := Lib.hid fun k => facesL_length L H B C false k
  have F0 : Hid (facesL L H B C false 0 = []) := rfl
  have LI : Hid (∀ (V : World) (g : Nat) (l : List Int), V.heap[g]? = some (.cells (cellsI l).toArray 3 (0, 0)) → l = (List.range 2).map (fun j => ((grN L H false j : Nat) : Int)) → IsInts V (some ⟨g, 0, none⟩) 2 fun j => ((grN L H false j : Nat) : Int)) := fun V g l hc hl => by
    have hlen : l.length = 2 := by rw [hl]; simp
    refine ⟨by omega, fun _ => ⟨g, 0, rfl, get_lt hc, fun i hi => ?_⟩⟩
    have e : (cellsI l).toArray[0 + i]? = some (.int .i64 ((grN L H false i : Nat) : Int)) := by
      rw [Nat.zero_add, List.getElem?_toArray, cellsI_get (by omega), hl]
      simp [List.getD_eq_getElem?_getD, hi]
    exact cell_of_heap hc _ _ e
  have HG : Hid ((List.range 2).map (fun j => ((grN L H false j : Nat) : Int)) = [((L * H : Nat) : Int), ((L * H : Nat) : Int)]) := rfl
  generalize facesL L H B C false = fl at *
  generalize grN L H false = gr at *
  generalize (L - H) * H = p1 at *
  generalize H * H = p2 at *
  generalize L * H = p0 at *
  generalize L - H = q at *
  clear hv
  unfold roofV at VA ⊢
  unfold ratV at RT
  obtain ⟨i0, hi0, hz0, hz1, hz2⟩ := info_ratio
  clear R
  go_enter Try.func11, Try.ntmps11
  go_wp2_with (first
      | ((go_at_call 9; with_reducible refine Calls.mono (Gives.calls (VA.out _)) ?_; rintro e w1 ⟨rfl, z, rfl⟩); obtain ⟨⟨x0, x1, x2, x3, x4, x5⟩, lx⟩ := roof_at (w := w) (V := z.val) (l := L) (d := D) (a := A) (b := B) (c := C) (by repeat (first | exact Below.refl _ _ | (with_reducible assumption) | apply below_later | apply below_alloc | apply below_drew | apply below_drewN))))
  have HBW : Hid (Below w.heap.size w z.val) := by show Below _ _ _; repeat (first | exact Below.refl _ _ | (with_reducible assumption) | apply below_later | apply below_alloc | apply below_drew | apply below_drewN)
  clear VA
  obtain ⟨b8, hb8⟩ : ∃ b8, w.heap.size = b8 := ⟨_, rfl⟩
  rw [hb8] at x0 x1 x2 x3 x4 x5 lx ⊢
  have HB8 := Lib.hid hb8
  clear hb8
  generalize z.val = Z0 at *
  have JI : Hid (IsInts (Z0.alloc (.cells #[.int .i64 p0, .int .i64 p0] 3)) (some ⟨Z0.heap.size, 0, none⟩) 2 fun j => ((gr j : Nat) : Int)) := LI.out _ _ [(p0 : Int), (p0 : Int)] (World.alloc_heap_new _ _) HG.out.symm
  obtain ⟨gb, hgb⟩ : ∃ gb, Z0.heap.size = gb := ⟨_, rfl⟩
  rw [hgb] at JI ⊢
  clear hgb
  obtain ⟨Z, hzb⟩ : ∃ Z, Z = Z0.alloc (.cells #[.int .i64 p0, .int .i64 p0] 3) := ⟨_, rfl⟩
  rw [← hzb] at JI ⊢
  have HBZ : Hid (Below w.heap.size w Z) := below_more HBW.out (hzb ▸ by repeat (first | exact Below.refl _ _ | (with_reducible assumption) | apply below_later | apply below_alloc | apply below_drew | apply below_drewN))
  have HX : Hid (∀ V, Below Z.heap.size Z V → (V.cell? ⟨b8, 3, none⟩ = some (.int .i64 B) ∧ V.cell? ⟨b8, 4, none⟩ = some (.int .i64 C)) ∧ b8 < V.heap.size) := fun V h => by
    have hb : Below Z0.heap.size Z0 Z := hzb ▸ by repeat (first | exact Below.refl _ _ | (with_reducible assumption) | apply below_later | apply below_alloc | apply below_drew | apply below_drewN)
    have hq := below_more hb h
    exact ⟨⟨(hq.cell (p := ⟨b8, 3, none⟩) lx).trans x3, (hq.cell (p := ⟨b8, 4, none⟩) lx).trans x4⟩, Nat.lt_of_lt_of_le lx hq.size⟩
  clear hzb x0 x1 x2 x3 x4 x5 lx LI
  go_loopw [6, 7] (fun u v wr => ∃ i : Nat, v = .int .i64 (i : Nat) ∧ i ≤ 2 ∧ Below Z.heap.size Z wr ∧ OwnQ 27 wr Z.heap.size u (fl i)) (fun _ v _ => 2 - (intOf v).toNat)
  case atStart => exact ⟨0, rfl, by omega, Below.refl _ _, by rw [F0.out]; exact OwnQ.nil _ _ _⟩
  case round =>
    obtain ⟨i, rfl, hi, hbl, ho⟩ := hrel
    have HBL := Lib.hid hbl
    have HO := Lib.hid ho
    obtain ⟨O, cO, eO⟩ := ho.shape_n (FL.out i)
    subst eO
    clear ho
    by_cases hlt : i < 2
    · have hlt' : (i : Int) < 2 := by omega
      obtain ⟨⟨y3, y4⟩, ly⟩ := HX.out wr hbl
      obtain ⟨g2, o2, hA, hp⟩ := (JI.out.below hbl).at_ (by omega)
      simp only [Option.some.injEq, Addr.mk.injEq, and_true] at hA
      obtain ⟨rfl, rfl⟩ := hA
      have cg := hp.at_ i hlt
      have lg := hp.lt
      rw [Nat.zero_add] at cg
      have gm := GM.out i
      have gb2 := GB.out i
      have RTi := Lib.hid fun V => RT.out i V
      have HN : Hid (fl (i + 1) = fl i ++ [(((loN (gr i * C) B : Nat) : Int), ((loD (gr i * C) B : Nat) : Int))]) := FS.out i
      have LN : Hid ((fl i).length = i) := FL.out i
      have LN1 : Hid ((fl (i + 1)).length = i + 1) := FL.out (i + 1)
      clear hp hbl
      generalize loN (gr i * C) B = r1 at *
      generalize loD (gr i * C) B = r2 at *
      generalize gr i * C = gc at *
      generalize gr i = gi at *
      have HOV : Hid (∀ y : Later wr, OwnQ 27 y.val Z.heap.size (.slice O i cO) (fl i)) := fun y => HO.out.later y
      have HBV : Hid (∀ y : Later wr, Below Z.heap.size Z y.val) := fun y => below_more HBL.out y.ok
      go_wp2_with fail
      refine wp_region_tail 1 13 (by kernel_rfl) (by kernel_rfl) ?_
      simp only [List.take_succ_cons, List.take_zero, List.drop_succ_cons, List.drop_zero]
      repeat (go_big_quiet_step ((go_at_call 29; (with_reducible refine Later.call _ (RTi.out _)))))
      refine wpQuiet_nil ?_
      intro y
      go_wp2_with (at_builtin; refine wpList_append_own_at _ rfl _ _ 32 rfl Z.heap.size 27 i0 (.agg #[.int .i64 0, .int .i64 0]) 2 16 Try.underlying32 hi0 hz0 hz1 hz2 rfl (by decide) _ _ _ rfl ((own_rowQ (HOV.out y) LN.out).alloc _) ⟨_, 0, none⟩ 1 1 [.int .i64 r1, .int .i64 r2] rfl rfl lit_news2 two_int ?g1 ?g2 ?g3 ?_)
      case g1 => unfold maxLen; omega
      case g2 => omega
      case g3 => have := (HBV.out y).size; simp only [World.size_alloc]; omega
      intro v6 w6 hown2 hgrow _ hat
      have hb6 : Below Z.heap.size Z w6 := below_own (w1 := y.val.alloc (.cells #[.int .i64 r1, .int .i64 r2] 27)) (below_alloc (HBV.out y)) ((own_rowQ (HOV.out y) LN.out).alloc _) (Nat.le_refl _) hgrow
      have HO6 : Hid (OwnQ 27 w6 Z.heap.size v6 (fl (i + 1))) := by
        show OwnQ _ _ _ _ _
        unfold OwnQ
        rw [LN1.out, HN.out, cells2_append]
        exact hown2
      have HB6 := Lib.hid hb6
      clear hown2 hgrow hat hb6
      go_wp2_with fail
      refine calm_normal ?_
      go_wp2_with fail
      first
        | (refine ⟨⟨i + 1, by go_num, by omega, HB6.out, HO6.out⟩, ?_⟩; simp [intOf]; omega)
        | (go_roundw
           case rel => exact ⟨i + 1, by go_num, by omega, HB6.out, HO6.out⟩
           case measure => simp [intOf]; omega)
    · obtain rfl : i = 2 := by omega
      clear hbl
      have HP := Lib.hid (HO.out.pairs (FL.out _) (by omega))
      go_wp2_with fail
      go_ret2
      exact ⟨_, _, rfl, ⟨_, below_more HBZ.out HBL.out⟩, rfl, HP.out⟩
set_option maxRecDepth 100000 in
set_option maxHeartbeats 6400000 in
theorem rFaces_hip (L D H A B C : Nat) (w : World) (R : Rf L D H A B C) (hv : okRoof L D A B C = true) :
    Calls Try.prog 11 #[roofV L D A B C true] w (PostF w 4 (facesL L H B C true 4)) := by
  have VA := Lib.hid fun V => hv ▸ rValidRoof_any L D A B C true V
  have hD : D ≤ 400 := by have := R.dl; have := R.l2; omega
  have hH : H ≤ 200 := by have := R.dh; omega
  have hm0 : L * H ≤ 160000 := grN_le (h := false) (j := 0) R.l2 hH
  have hm1 : (L - H) * H ≤ 160000 := grN_le (h := true) (j := 0) R.l2 hH
  have hm2 : H * H ≤ 160000 := grN_le (h := true) (j := 2) R.l2 hH
  have e0 := wrap_mul hm0 (by omega)
  have e1 := wrap_mul hm1 (by omega)
  have e2 := wrap_mul hm2 (by omega)
  have s1 : IntKind.i64.wrap ((L : Int) - (H : Int)) = ((L - H : Nat) : Int) := by rw [show (L : Int) - (H : Int) = ((L - H : Nat) : Int) by have := R.dl; have := R.dh; omega]; exact i64_nat (by have := R.l2; omega)
  have b1 := R.l2
  obtain ⟨t1, t2⟩ := half_of R.dh hD
  have t3 : (D : Int) / 2 = (H : Int) := by have := R.dh; omega
  have RT := Lib.hid fun (j : Nat) (V : World) => rratio_any (grN L H true j * C) B V (by have : grN L H true j * C ≤ 160000 * 1000 := mul_le3 (grN_le R.l2 hH) R.c1.2; omega) R.b1.1 (by have := R.b1; omega)
  have GB := Lib.hid fun j => grN_le (L := L) (H := H) (h := true) (j := j) R.l2 hH
  have GM := Lib.hid fun j => wrap_mul (a := grN L H true j) (b := C) (m := 160000000) (mul_le3 (m := 160000) (n := 1000) (grN_le R.l2 hH) R.c1.2) (by omega)
  have FS := Lib.hid fun k => facesL_succ L H B C true k
  have FL := Lib.hid fun k => facesL_length L H B C true k
  have F0 : Hid (facesL L H B C true 0 = []) := rfl
  have LI : Hid (∀ (V : World) (g : Nat) (l : List Int), V.heap[g]? = some (.cells (cellsI l).toArray 3 (0, 0)) → l = (List.range 4).map (fun j => ((grN L H true j : Nat) : Int)) → IsInts V (some ⟨g, 0, none⟩) 4 fun j => ((grN L H true j : Nat) : Int)) := fun V g l hc hl => by
    have hlen : l.length = 4 := by rw [hl]; simp
    refine ⟨by omega, fun _ => ⟨g, 0, rfl, get_lt hc, fun i hi => ?_⟩⟩
    have e : (cellsI l).toArray[0 + i]? = some (.int .i64 ((grN L H true i : Nat) : Int)) := by
      rw [Nat.zero_add, List.getElem?_toArray, cellsI_get (by omega), hl]
      simp [List.getD_eq_getElem?_getD, hi]
    exact cell_of_heap hc _ _ e
  have HG : Hid ((List.range 4).map (fun j => ((grN L H true j : Nat) : Int)) = [(((L - H) * H : Nat) : Int), (((L - H) * H : Nat) : Int), ((H * H : Nat) : Int), ((H * H : Nat) : Int)]) := rfl
  generalize facesL L H B C true = fl at *
  generalize grN L H true = gr at *
  generalize (L - H) * H = p1 at *
  generalize H * H = p2 at *
  generalize L * H = p0 at *
  generalize L - H = q at *
  clear hv
  unfold roofV at VA ⊢
  unfold ratV at RT
  obtain ⟨i0, hi0, hz0, hz1, hz2⟩ := info_ratio
  clear R
  go_enter Try.func11, Try.ntmps11
  go_wp2_with (first
      | ((go_at_call 9; with_reducible refine Calls.mono (Gives.calls (VA.out _)) ?_; rintro e w1 ⟨rfl, z, rfl⟩); obtain ⟨⟨x0, x1, x2, x3, x4, x5⟩, lx⟩ := roof_at (w := w) (V := z.val) (l := L) (d := D) (a := A) (b := B) (c := C) (by repeat (first | exact Below.refl _ _ | (with_reducible assumption) | apply below_later | apply below_alloc | apply below_drew | apply below_drewN))))
  have HBW : Hid (Below w.heap.size w z.val) := by show Below _ _ _; repeat (first | exact Below.refl _ _ | (with_reducible assumption) | apply below_later | apply below_alloc | apply below_drew | apply below_drewN)
  clear VA
  obtain ⟨b8, hb8⟩ : ∃ b8, w.heap.size = b8 := ⟨_, rfl⟩
  rw [hb8] at x0 x1 x2 x3 x4 x5 lx ⊢
  have HB8 := Lib.hid hb8
  clear hb8
  generalize z.val = Z0 at *
  have hh : ((Z0.alloc (.cells #[.int .i64 p0, .int .i64 p0] 3)).alloc (.cells #[.int .i64 p1, .int .i64 p1, .int .i64 p2, .int .i64 p2] 3)).heap[Z0.heap.size + 1]? = some (.cells #[.int .i64 p1, .int .i64 p1, .int .i64 p2, .int .i64 p2] 3 (0, 0)) := by
    have h := World.alloc_heap_new (Z0.alloc (.cells #[.int .i64 p0, .int .i64 p0] 3)) (.cells #[.int .i64 p1, .int .i64 p1, .int .i64 p2, .int .i64 p2] 3)
    rw [World.size_alloc] at h
    exact h
  have JI : Hid (IsInts ((Z0.alloc (.cells #[.int .i64 p0, .int .i64 p0] 3)).alloc (.cells #[.int .i64 p1, .int .i64 p1, .int .i64 p2, .int .i64 p2] 3)) (some ⟨Z0.heap.size + 1, 0, none⟩) 4 fun j => ((gr j : Nat) : Int)) := LI.out _ _ [(p1 : Int), (p1 : Int), (p2 : Int), (p2 : Int)] hh HG.out.symm
  clear hh
  obtain ⟨gb, hgb⟩ : ∃ gb, Z0.heap.size + 1 = gb := ⟨_, rfl⟩
  rw [hgb] at JI ⊢
  clear hgb
  obtain ⟨Z, hzb⟩ : ∃ Z, Z = (Z0.alloc (.cells #[.int .i64 p0, .int .i64 p0] 3)).alloc (.cells #[.int .i64 p1, .int .i64 p1, .int .i64 p2, .int .i64 p2] 3) := ⟨_, rfl⟩
  rw [← hzb] at JI ⊢
  have HBZ : Hid (Below w.heap.size w Z) := below_more HBW.out (hzb ▸ by repeat (first | exact Below.refl _ _ | (with_reducible assumption) | apply below_later | apply below_alloc | apply below_drew | apply below_drewN))
  have HX : Hid (∀ V, Below Z.heap.size Z V → (V.cell? ⟨b8, 3, none⟩ = some (.int .i64 B) ∧ V.cell? ⟨b8, 4, none⟩ = some (.int .i64 C)) ∧ b8 < V.heap.size) := fun V h => by
    have hb : Below Z0.heap.size Z0 Z := hzb ▸ by repeat (first | exact Below.refl _ _ | (with_reducible assumption) | apply below_later | apply below_alloc | apply below_drew | apply below_drewN)
    have hq := below_more hb h
    exact ⟨⟨(hq.cell (p := ⟨b8, 3, none⟩) lx).trans x3, (hq.cell (p := ⟨b8, 4, none⟩) lx).trans x4⟩, Nat.lt_of_lt_of_le lx hq.size⟩
  clear hzb x0 x1 x2 x3 x4 x5 lx LI
  go_loopw [6, 7] (fun u v wr => ∃ i : Nat, v = .int .i64 (i : Nat) ∧ i ≤ 4 ∧ Below Z.heap.size Z wr ∧ OwnQ 27 wr Z.heap.size u (fl i)) (fun _ v _ => 4 - (intOf v).toNat)
  case atStart => exact ⟨0, rfl, by omega, Below.refl _ _, by rw [F0.out]; exact OwnQ.nil _ _ _⟩
  case round =>
    obtain ⟨i, rfl, hi, hbl, ho⟩ := hrel
    have HBL := Lib.hid hbl
    have HO := Lib.hid ho
    obtain ⟨O, cO, eO⟩ := ho.shape_n (FL.out i)
    subst eO
    clear ho
    by_cases hlt : i < 4
    · have hlt' : (i : Int) < 4 := by omega
      obtain ⟨⟨y3, y4⟩, ly⟩ := HX.out wr hbl
      obtain ⟨g2, o2, hA, hp⟩ := (JI.out.below hbl).at_ (by omega)
      simp only [Option.some.injEq, Addr.mk.injEq, and_true] at hA
      obtain ⟨rfl, rfl⟩ := hA
      have cg := hp.at_ i hlt
      have lg := hp.lt
      rw [Nat.zero_add] at cg
      have gm := GM.out i
      have gb2 := GB.out i
      have RTi := Lib.hid fun V => RT.out i V
      have HN : Hid (fl (i + 1) = fl i ++ [(((loN (gr i * C) B : Nat) : Int), ((loD (gr i * C) B : Nat) : Int))]) := FS.out i
      have LN : Hid ((fl i).length = i) := FL.out i
      have LN1 : Hid ((fl (i + 1)).length = i + 1) := FL.out (i + 1)
      clear hp hbl
      generalize loN (gr i * C) B = r1 at *
      generalize loD (gr i * C) B = r2 at *
      generalize gr i * C = gc at *
      generalize gr i = gi at *
      have HOV : Hid (∀ y : Later wr, OwnQ 27 y.val Z.heap.size (.slice O i cO) (fl i)) := fun y => HO.out.later y
      have HBV : Hid (∀ y : Later wr, Below Z.heap.size Z y.val) := fun y => below_more HBL.out y.ok
      go_wp2_with fail
      refine wp_region_tail 1 13 (by kernel_rfl) (by kernel_rfl) ?_
      simp only [List.take_succ_cons, List.take_zero, List.drop_succ_cons, List.drop_zero]
      repeat (go_big_quiet_step ((go_at_call 29; (with_reducible refine Later.call _ (RTi.out _)))))
      refine wpQuiet_nil ?_
      intro y
      go_wp2_with (at_builtin; refine wpList_append_own_at _ rfl _ _ 32 rfl Z.heap.size 27 i0 (.agg #[.int .i64 0, .int .i64 0]) 2 16 Try.underlying32 hi0 hz0 hz1 hz2 rfl (by decide) _ _ _ rfl ((own_rowQ (HOV.out y) LN.out).alloc _) ⟨_, 0, none⟩ 1 1 [.int .i64 r1, .int .i64 r2] rfl rfl lit_news2 two_int ?g1 ?g2 ?g3 ?_)
      case g1 => unfold maxLen; omega
      case g2 => omega
      case g3 => have := (HBV.out y).size; simp only [World.size_alloc]; omega
      intro v6 w6 hown2 hgrow _ hat
      have hb6 : Below Z.heap.size Z w6 := below_own (w1 := y.val.alloc (.cells #[.int .i64 r1, .int .i64 r2] 27)) (below_alloc (HBV.out y)) ((own_rowQ (HOV.out y) LN.out).alloc _) (Nat.le_refl _) hgrow
      have HO6 : Hid (OwnQ 27 w6 Z.heap.size v6 (fl (i + 1))) := by
        show OwnQ _ _ _ _ _
        unfold OwnQ
        rw [LN1.out, HN.out, cells2_append]
        exact hown2
      have HB6 := Lib.hid hb6
      clear hown2 hgrow hat hb6
      go_wp2_with fail
      refine calm_normal ?_
      go_wp2_with fail
      first
        | (refine ⟨⟨i + 1, by go_num, by omega, HB6.out, HO6.out⟩, ?_⟩; simp [intOf]; omega)
        | (go_roundw
           case rel => exact ⟨i + 1, by go_num, by omega, HB6.out, HO6.out⟩
           case measure => simp [intOf]; omega)
    · obtain rfl : i = 4 := by omega
      clear hbl
      have HP := Lib.hid (HO.out.pairs (FL.out _) (by omega))
      go_wp2_with fail
      go_ret2
      exact ⟨_, _, rfl, ⟨_, below_more HBZ.out HBL.out⟩, rfl, HP.out⟩
end Go.Proofs.Ytcjahpbbkdkbpaa
