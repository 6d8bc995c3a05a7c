/- thatch's and the document's Ridge, Slant and Needs: walked. -/
import Derived.Test.YtcjahpbbkdkbpaaTArea
namespace Go.Proofs.Ytcjahpbbkdkbpaa
open Go.RowKit

theorem half_of {D H : Nat} (h : D = 2 * H) (hD : D ≤ 400) : IntKind.i64.wrap ((D : Int) / 2) = (H : Int) ∧ IntKind.i64.wrap ((D : Int).tdiv 2) = (H : Int) := by
  have e : (D : Int) / 2 = (H : Int) := by omega
  have e2 : (D : Int).tdiv 2 = (H : Int) := by rw [Int.tdiv_eq_ediv_of_nonneg (by omega)]; exact e
  rw [e, e2]
  exact ⟨i64_nat (by omega), i64_nat (by omega)⟩
theorem upN_scale {g x y : Nat} (hg : 1 ≤ g) (hy : 1 ≤ y) : upN (g * x) (g * y) = upN x y := by
  have key : ∀ k, upN (g * x) (g * y) ≤ k ↔ upN x y ≤ k := fun k => by
    rw [upN_le_iff (Nat.mul_pos hg hy), upN_le_iff hy, Nat.mul_left_comm]
    exact Nat.mul_le_mul_left_iff (by omega)
  have h1 := (key (upN x y)).2 (Nat.le_refl _)
  have h2 := (key (upN (g * x) (g * y))).1 (Nat.le_refl _)
  omega
theorem needs_same {n d s : Nat} (hd : 1 ≤ d) : upN (loN n d * s) (loD n d * 100) = upN (n * s) (d * 100) := by
  have hg : 1 ≤ Nat.gcd n d := Nat.gcd_pos_of_pos_right _ hd
  have e1 : Nat.gcd n d * loN n d = n := Nat.mul_div_cancel' (Nat.gcd_dvd_left n d)
  have e2 : Nat.gcd n d * loD n d = d := Nat.mul_div_cancel' (Nat.gcd_dvd_right n d)
  have h2 : 1 ≤ loD n d := by
    rcases Nat.eq_zero_or_pos (loD n d) with h | h
    · rw [h] at e2; omega
    · exact h
  have := upN_scale (g := Nat.gcd n d) (x := loN n d * s) (y := loD n d * 100) hg (by omega)
  rw [← this, ← Nat.mul_assoc, ← Nat.mul_assoc, e1, e2]
theorem wrap_mulc {a c m : Nat} (h : a * c ≤ m) (hm : m ≤ 1000000000000000) : IntKind.i64.wrap ((a : Int) * (c : Int)) = ((a * c : Nat) : Int) := wrap_mul h hm
/-- The length of a ridge. -/
def lenR (L D : Nat) (h : Bool) : Nat := if h then L - D else L
set_option maxRecDepth 100000 in
set_option maxHeartbeats 1600000 in
theorem Ridge_bad (l d a b c : Int) (h : Bool) (w : World) (hv : okRoof l d a b c = false) :
    Gives Try.prog 12 #[roofV l d a b c h] w (.tuple #[.int .i64 0, .agg #[.int .i64 0, .int .i64 0], .int .i64 80]) := by
  have VA := Lib.hid fun V => hv ▸ ValidRoof_any l d a b c h V
  unfold roofV at VA ⊢
  clear hv
  go_enter Try.func12, Try.ntmps12
  go_wp2_with ((go_at_call 8; with_reducible refine Calls.mono (Gives.calls (VA.out _)) ?_; rintro e w1 ⟨rfl, z, rfl⟩); obtain ⟨d0, d1, lz, fz0, fz1⟩ := res2_facts (w := w) (V := z.val) (by repeat (first | exact Below.refl _ _ | (with_reducible assumption) | apply below_later | apply below_alloc | apply below_drew | apply below_drewN)))
  have HBW : Hid (Below w.heap.size w z.val) := by show Below _ _ _; repeat (first | exact Below.refl _ _ | (with_reducible assumption) | apply below_later | apply below_alloc | apply below_drew | apply below_drewN)
  obtain ⟨r0, r1'⟩ := res_put (x := .int .i64 0) (y := .int .i64 0) d0 d1
  refine bodyPost_ret (v := .tuple #[.int .i64 0, .agg #[.int .i64 0, .int .i64 0], .int .i64 80]) (by simp [results, Try.results12, go_sem, r0, r1']) rfl ?_
  exact ⟨rfl, later_of ((HBW.out.setCell (by simp) _).setCell (by simp) _)⟩
set_option maxRecDepth 100000 in
set_option maxHeartbeats 1600000 in
theorem Ridge_ok (L D H A B C : Nat) (h : Bool) (w : World) (R : Rf L D H A B C) (hv : okRoof L D A B C = true) :
    Gives Try.prog 12 #[roofV L D A B C h] w (.tuple #[.int .i64 (lenR L D h : Nat), ratV (H * A) B, .int .i64 0]) := by
  have VA := Lib.hid fun V => hv ▸ ValidRoof_any L D A B C h V
  have hD : D ≤ 400 := by have := R.dl; have := R.l2; omega
  have hm : H * A ≤ 200000 := mul_le3 (m := 200) (n := 1000) (by have := R.dh; omega) R.a1.2
  have e1 := wrap_mul hm (by omega)
  obtain ⟨t1, t2⟩ := half_of R.dh hD
  have LO := Lib.hid fun V => Lowest_any (H * A) B V (by omega) R.b1.1 (by have := R.b1; omega)
  have HL : Hid (lenR L D true = L - D ∧ lenR L D false = L) := ⟨rfl, rfl⟩
  have s1 : IntKind.i64.wrap ((L : Int) - (D : Int)) = ((L - D : Nat) : Int) := by rw [show ((L : Int) - (D : Int)) = ((L - D : Nat) : Int) by have := R.dl; omega]; exact i64_nat (by have := R.l2; omega)
  have b1 := R.dl
  have b2 := R.l2
  unfold ratV at LO ⊢
  unfold roofV at VA ⊢
  generalize loN (H * A) B = r1 at *
  generalize loD (H * A) B = r2 at *
  generalize H * A = q at *
  generalize lenR L D = le at *
  have e5 : (L : Int) - (D : Int) = ((L - D : Nat) : Int) := by omega
  generalize L - D = LD at *
  clear hv R
  cases h
  all_goals
    go_enter Try.func12, Try.ntmps12
    go_wp2_with (first
      | ((go_at_call 8; with_reducible refine Calls.mono (Gives.calls (VA.out _)) ?_; rintro e w1 ⟨rfl, z, rfl⟩); obtain ⟨⟨x0, x1, x2, x3, x4, x5⟩, lx⟩ := roof_at (w := w) (V := z.val) (l := L) (d := D) (a := A) (b := B) (c := C) (by repeat (first | exact Below.refl _ _ | (with_reducible assumption) | apply below_later | apply below_alloc | apply below_drew | apply below_drewN))))
    go_at_call 34
    refine Calls.mono (Gives.calls (LO.out _)) ?_
    rintro e w1 ⟨rfl, z4, rfl⟩
    obtain ⟨d0, d1, lz, fz0, fz1⟩ := res2_facts (w := w) (V := z4.val) (by repeat (first | exact Below.refl _ _ | (with_reducible assumption) | apply below_later | apply below_alloc | apply below_drew | apply below_drewN))
    have HBW : Hid (Below w.heap.size w z4.val) := by show Below _ _ _; repeat (first | exact Below.refl _ _ | (with_reducible assumption) | apply below_later | apply below_alloc | apply below_drew | apply below_drewN)
    generalize z4.val = W5 at *
    go_wp2
    obtain ⟨r0, r1'⟩ := res_put (x := .int .i64 r1) (y := .int .i64 r2) d0 d1
    first
      | (refine bodyPost_ret (v := .tuple #[.int .i64 (L : Int), .agg #[.int .i64 r1, .int .i64 r2], .int .i64 0]) (by simp [results, Try.results12, go_sem, r0, r1']; done) rfl ?_; exact ⟨by rw [HL.out.2], later_of ((HBW.out.setCell (by simp) _).setCell (by simp) _)⟩)
      | (refine bodyPost_ret (v := .tuple #[.int .i64 (LD : Int), .agg #[.int .i64 r1, .int .i64 r2], .int .i64 0]) (by simp [results, Try.results12, go_sem, r0, r1', e5]; done) rfl ?_; exact ⟨by rw [HL.out.1], later_of ((HBW.out.setCell (by simp) _).setCell (by simp) _)⟩)
set_option maxRecDepth 100000 in
theorem Slant_bad (l d a b c : Int) (h : Bool) (w : World) (hv : okRoof l d a b c = false) :
    Gives Try.prog 14 #[roofV l d a b c h] w (.tuple #[.int .i64 0, .int .i64 80]) := by
  have VA := Lib.hid fun V => hv ▸ ValidRoof_any l d a b c h V
  unfold roofV at VA ⊢
  clear hv
  go_enter Try.func14, Try.ntmps14
  go_wp2_with (go_at_call 8; with_reducible refine Calls.mono (Gives.calls (VA.out _)) ?_; rintro e w1 ⟨rfl, z, rfl⟩)
  go_ret2
  exact ⟨rfl, later_of (by repeat (first | exact Below.refl _ _ | (with_reducible assumption) | apply below_later | apply below_alloc | apply below_drew | apply below_drewN))⟩
set_option maxRecDepth 100000 in
set_option maxHeartbeats 1600000 in
theorem Slant_ok (L D H A B C : Nat) (h : Bool) (w : World) (R : Rf L D H A B C) (hv : okRoof L D A B C = true) :
    Gives Try.prog 14 #[roofV L D A B C h] w (.tuple #[.int .i64 (upN (H * 12 * C) B : Nat), .int .i64 0]) := by
  have VA := Lib.hid fun V => hv ▸ ValidRoof_any L D A B C h V
  have hD : D ≤ 400 := by have := R.dl; have := R.l2; omega
  have hh : H * 12 ≤ 2400 := by have := R.dh; omega
  have hm : H * 12 * C ≤ 2400000 := mul_le3 (m := 2400) (n := 1000) hh R.c1.2
  have e1 : IntKind.i64.wrap ((H : Int) * 12) = ((H * 12 : Nat) : Int) := wrap_mul (a := H) (b := 12) hh (by omega)
  have e2 := wrap_mul hm (by omega)
  obtain ⟨t1, t2⟩ := half_of R.dh hD
  have LO := Lib.hid fun V => roundedUp_any (H * 12 * C) B V (by omega) R.b1.1 (by have := R.b1; omega)
  unfold roofV at VA ⊢
  have e3 : (H : Int) * 12 = ((H * 12 : Nat) : Int) := by omega
  generalize upN (H * 12 * C) B = r1 at *
  generalize H * 12 * C = q at *
  generalize H * 12 = p at *
  have e4 : (D : Int) / 2 = (H : Int) := by have := R.dh; omega
  clear hv R
  go_enter Try.func14, Try.ntmps14
  go_wp2_with (first
    | ((go_at_call 8; with_reducible refine Calls.mono (Gives.calls (VA.out _)) ?_; rintro e w1 ⟨rfl, z, rfl⟩); obtain ⟨⟨x0, x1, x2, x3, x4, x5⟩, lx⟩ := roof_at (w := w) (V := z.val) (l := L) (d := D) (a := A) (b := B) (c := C) (h := h) (by repeat (first | exact Below.refl _ _ | (with_reducible assumption) | apply below_later | apply below_alloc | apply below_drew | apply below_drewN)))
    | (go_at_call 35; with_reducible refine Calls.mono (Gives.calls (LO.out _)) ?_; rintro e w1 ⟨rfl, z2, rfl⟩))
  go_ret2
  exact ⟨rfl, later_of (by repeat (first | exact Below.refl _ _ | (with_reducible assumption) | apply below_later | apply below_alloc | apply below_drew | apply below_drewN))⟩
set_option maxRecDepth 100000 in
set_option maxHeartbeats 1600000 in
theorem rRidge_bad (l d a b c : Int) (h : Bool) (w : World) (hv : okRoof l d a b c = false) :
    Gives Try.prog 13 #[roofV l d a b c h] w (.tuple #[.int .i64 0, .agg #[.int .i64 0, .int .i64 0], .int .i64 80]) := by
  have VA := Lib.hid fun V => hv ▸ rValidRoof_any l d a b c h V
  unfold roofV at VA ⊢
  clear hv
  go_enter Try.func13, Try.ntmps13
  go_wp2_with ((go_at_call 9; with_reducible refine Calls.mono (Gives.calls (VA.out _)) ?_; rintro e w1 ⟨rfl, z, rfl⟩); obtain ⟨d0, d1, lz, fz0, fz1⟩ := res2_facts (w := w) (V := z.val) (by repeat (first | exact Below.refl _ _ | (with_reducible assumption) | apply below_later | apply below_alloc | apply below_drew | apply below_drewN)))
  have HBW : Hid (Below w.heap.size w z.val) := by show Below _ _ _; repeat (first | exact Below.refl _ _ | (with_reducible assumption) | apply below_later | apply below_alloc | apply below_drew | apply below_drewN)
  obtain ⟨r0, r1'⟩ := res_put (x := .int .i64 0) (y := .int .i64 0) d0 d1
  refine bodyPost_ret (v := .tuple #[.int .i64 0, .agg #[.int .i64 0, .int .i64 0], .int .i64 80]) (by simp [results, Try.results13, go_sem, r0, r1']) rfl ?_
  exact ⟨rfl, later_of ((HBW.out.setCell (by simp) _).setCell (by simp) _)⟩
set_option maxRecDepth 100000 in
set_option maxHeartbeats 1600000 in
theorem rRidge_ok (L D H A B C : Nat) (h : Bool) (w : World) (R : Rf L D H A B C) (hv : okRoof L D A B C = true) :
    Gives Try.prog 13 #[roofV L D A B C h] w (.tuple #[.int .i64 (lenR L D h : Nat), ratV (H * A) B, .int .i64 0]) := by
  have VA := Lib.hid fun V => hv ▸ rValidRoof_any L D A B C h V
  have hD : D ≤ 400 := by have := R.dl; have := R.l2; omega
  have hm : H * A ≤ 200000 := mul_le3 (m := 200) (n := 1000) (by have := R.dh; omega) R.a1.2
  have e1 := wrap_mul hm (by omega)
  obtain ⟨t1, t2⟩ := half_of R.dh hD
  have LO := Lib.hid fun V => rratio_any (H * A) B V (by omega) R.b1.1 (by have := R.b1; omega)
  have HL : Hid (lenR L D true = L - D ∧ lenR L D false = L) := ⟨rfl, rfl⟩
  have s1 : IntKind.i64.wrap ((L : Int) - (D : Int)) = ((L - D : Nat) : Int) := by rw [show ((L : Int) - (D : Int)) = ((L - D : Nat) : Int) by have := R.dl; omega]; exact i64_nat (by have := R.l2; omega)
  have b1 := R.dl
  have b2 := R.l2
  unfold ratV at LO ⊢
  unfold roofV at VA ⊢
  generalize loN (H * A) B = r1 at *
  generalize loD (H * A) B = r2 at *
  generalize H * A = q at *
  generalize lenR L D = le at *
  have e5 : (L : Int) - (D : Int) = ((L - D : Nat) : Int) := by omega
  generalize L - D = LD at *
  clear hv R
  cases h
  all_goals
    go_enter Try.func13, Try.ntmps13
    go_wp2_with (first
      | ((go_at_call 9; with_reducible refine Calls.mono (Gives.calls (VA.out _)) ?_; rintro e w1 ⟨rfl, z, rfl⟩); obtain ⟨⟨x0, x1, x2, x3, x4, x5⟩, lx⟩ := roof_at (w := w) (V := z.val) (l := L) (d := D) (a := A) (b := B) (c := C) (by repeat (first | exact Below.refl _ _ | (with_reducible assumption) | apply below_later | apply below_alloc | apply below_drew | apply below_drewN))))
    go_at_call 29
    refine Calls.mono (Gives.calls (LO.out _)) ?_
    rintro e w1 ⟨rfl, z4, rfl⟩
    obtain ⟨d0, d1, lz, fz0, fz1⟩ := res2_facts (w := w) (V := z4.val) (by repeat (first | exact Below.refl _ _ | (with_reducible assumption) | apply below_later | apply below_alloc | apply below_drew | apply below_drewN))
    have HBW : Hid (Below w.heap.size w z4.val) := by show Below _ _ _; repeat (first | exact Below.refl _ _ | (with_reducible assumption) | apply below_later | apply below_alloc | apply below_drew | apply below_drewN)
    generalize z4.val = W5 at *
    go_wp2
    obtain ⟨r0, r1'⟩ := res_put (x := .int .i64 r1) (y := .int .i64 r2) d0 d1
    first
      | (refine bodyPost_ret (v := .tuple #[.int .i64 (L : Int), .agg #[.int .i64 r1, .int .i64 r2], .int .i64 0]) (by simp [results, Try.results13, go_sem, r0, r1']; done) rfl ?_; exact ⟨by rw [HL.out.2], later_of ((HBW.out.setCell (by simp) _).setCell (by simp) _)⟩)
      | (refine bodyPost_ret (v := .tuple #[.int .i64 (LD : Int), .agg #[.int .i64 r1, .int .i64 r2], .int .i64 0]) (by simp [results, Try.results13, go_sem, r0, r1', e5]; done) rfl ?_; exact ⟨by rw [HL.out.1], later_of ((HBW.out.setCell (by simp) _).setCell (by simp) _)⟩)
set_option maxRecDepth 100000 in
theorem rSlant_bad (l d a b c : Int) (h : Bool) (w : World) (hv : okRoof l d a b c = false) :
    Gives Try.prog 15 #[roofV l d a b c h] w (.tuple #[.int .i64 0, .int .i64 80]) := by
  have VA := Lib.hid fun V => hv ▸ rValidRoof_any l d a b c h V
  unfold roofV at VA ⊢
  clear hv
  go_enter Try.func15, Try.ntmps15
  go_wp2_with (go_at_call 9; with_reducible refine Calls.mono (Gives.calls (VA.out _)) ?_; rintro e w1 ⟨rfl, z, rfl⟩)
  go_ret2
  exact ⟨rfl, later_of (by repeat (first | exact Below.refl _ _ | (with_reducible assumption) | apply below_later | apply below_alloc | apply below_drew | apply below_drewN))⟩
set_option maxRecDepth 100000 in
set_option maxHeartbeats 1600000 in
theorem rSlant_ok (L D H A B C : Nat) (h : Bool) (w : World) (R : Rf L D H A B C) (hv : okRoof L D A B C = true) :
    Gives Try.prog 15 #[roofV L D A B C h] w (.tuple #[.int .i64 (upN (H * 12 * C) B : Nat), .int .i64 0]) := by
  have VA := Lib.hid fun V => hv ▸ rValidRoof_any L D A B C h V
  have hD : D ≤ 400 := by have := R.dl; have := R.l2; omega
  have hh : H * 12 ≤ 2400 := by have := R.dh; omega
  have hm : H * 12 * C ≤ 2400000 := mul_le3 (m := 2400) (n := 1000) hh R.c1.2
  have e1 : IntKind.i64.wrap ((H : Int) * 12) = ((H * 12 : Nat) : Int) := wrap_mul (a := H) (b := 12) hh (by omega)
  have e2 := wrap_mul hm (by omega)
  obtain ⟨t1, t2⟩ := half_of R.dh hD
  have LO := Lib.hid fun V => rup_any (H * 12 * C) B V (by omega) R.b1.1 (by have := R.b1; omega)
  unfold roofV at VA ⊢
  have e3 : (H : Int) * 12 = ((H * 12 : Nat) : Int) := by omega
  generalize upN (H * 12 * C) B = r1 at *
  generalize H * 12 * C = q at *
  generalize H * 12 = p at *
  have e4 : (D : Int) / 2 = (H : Int) := by have := R.dh; omega
  clear hv R
  go_enter Try.func15, Try.ntmps15
  go_wp2_with (first
    | ((go_at_call 9; with_reducible refine Calls.mono (Gives.calls (VA.out _)) ?_; rintro e w1 ⟨rfl, z, rfl⟩); obtain ⟨⟨x0, x1, x2, x3, x4, x5⟩, lx⟩ := roof_at (w := w) (V := z.val) (l := L) (d := D) (a := A) (b := B) (c := C) (h := h) (by repeat (first | exact Below.refl _ _ | (with_reducible assumption) | apply below_later | apply below_alloc | apply below_drew | apply below_drewN)))
    | (go_at_call 36; with_reducible refine Calls.mono (Gives.calls (LO.out _)) ?_; rintro e w1 ⟨rfl, z2, rfl⟩))
  go_ret2
  exact ⟨rfl, later_of (by repeat (first | exact Below.refl _ _ | (with_reducible assumption) | apply below_later | apply below_alloc | apply below_drew | apply below_drewN))⟩
end Go.Proofs.Ytcjahpbbkdkbpaa
