/- thatch's and the document's Area, Ridge, Slant and Needs: walked. -/
import Derived.Test.YtcjahpbbkdkbpaaTRoof
import Derived.Test.YtcjahpbbkdkbpaaTOwn
namespace Go.Proofs.Ytcjahpbbkdkbpaa
open Go.RowKit

/-- A roof as described, in whole numbers; H is half of the width. -/
structure Rf (L D H A B C : Nat) : Prop where
  l1 : 2 ≤ L
  l2 : L ≤ 400
  dh : D = 2 * H
  h1 : 1 ≤ H
  dl : D ≤ L
  a1 : 1 ≤ A ∧ A ≤ 1000
  b1 : 1 ≤ B ∧ B ≤ 1000
  c1 : 1 ≤ C ∧ C ≤ 1000
theorem okRoof_nat {l d a b c : Int} (h : okRoof l d a b c = true) : ∃ L D H A B C : Nat, l = L ∧ d = D ∧ a = A ∧ b = B ∧ c = C ∧ Rf L D H A B C := by
  simp only [okRoof, okLen, Bool.and_eq_true, decide_eq_true_eq, okPit_iff, inI_iff] at h
  obtain ⟨⟨⟨⟨⟨l0, l1⟩, l2⟩, ⟨d0, d1⟩, d2⟩, hd⟩, ⟨a0, a1⟩, ⟨b0, b1⟩, ⟨c0, c1⟩, _⟩ := h
  rw [Int.tmod_eq_emod_of_nonneg (by omega)] at d2
  refine ⟨l.toNat, d.toNat, d.toNat / 2, a.toNat, b.toNat, c.toNat, by omega, by omega, by omega, by omega, by omega, ?_⟩
  constructor <;> omega
theorem mul_le3 {a b m n : Nat} (h1 : a ≤ m) (h2 : b ≤ n) : a * b ≤ m * n := Nat.mul_le_mul h1 h2
theorem wrap_mul {a b m : Nat} (h : a * b ≤ m) (hm : m ≤ 1000000000000000) : IntKind.i64.wrap ((a : Int) * (b : Int)) = ((a * b : Nat) : Int) := by rw [← Int.natCast_mul]; exact i64_nat (by omega)
theorem roof_at {w V : World} {l d a b c : Int} {h : Bool} (hb : Below (w.alloc (.cells #[.int .i64 l, .int .i64 d, .int .i64 a, .int .i64 b, .int .i64 c, .bool h] 25)).heap.size (w.alloc (.cells #[.int .i64 l, .int .i64 d, .int .i64 a, .int .i64 b, .int .i64 c, .bool h] 25)) V) :
    (V.cell? ⟨w.heap.size, 0, none⟩ = some (.int .i64 l) ∧ V.cell? ⟨w.heap.size, 1, none⟩ = some (.int .i64 d) ∧ V.cell? ⟨w.heap.size, 2, none⟩ = some (.int .i64 a) ∧ V.cell? ⟨w.heap.size, 3, none⟩ = some (.int .i64 b) ∧ V.cell? ⟨w.heap.size, 4, none⟩ = some (.int .i64 c) ∧ V.cell? ⟨w.heap.size, 5, none⟩ = some (.bool h)) ∧ w.heap.size < V.heap.size :=
  ⟨⟨box_at hb 0 _ rfl, box_at hb 1 _ rfl, box_at hb 2 _ rfl, box_at hb 3 _ rfl, box_at hb 4 _ rfl, box_at hb 5 _ rfl⟩, get_lt (res_cell hb)⟩
theorem res2_facts {w V : World} {o : Obj} {a b : Value} {t : TypeId} (hb : Below ((w.alloc o).alloc (.cells #[a, b] t)).heap.size ((w.alloc o).alloc (.cells #[a, b] t)) V) :
    V.cell? ⟨w.heap.size + 1, 0, none⟩ = some a ∧ V.cell? ⟨w.heap.size + 1, 1, none⟩ = some b ∧ w.heap.size + 1 < V.heap.size ∧ V.frozen? ⟨w.heap.size + 1, 0, none⟩ = false ∧ V.frozen? ⟨w.heap.size + 1, 1, none⟩ = false := by
  have h := res_facts (w := w.alloc o) hb
  rw [World.size_alloc] at h
  exact h
set_option maxRecDepth 100000 in
set_option maxHeartbeats 1600000 in
theorem sloped_any (L D A B C g : Nat) (h : Bool) (w : World) (hg : g ≤ 160000) (hB : 1 ≤ B ∧ B ≤ 1000) (hC : C ≤ 1000) :
    Gives Try.prog 28 #[roofV L D A B C h, .int .i64 g] w (ratV (g * C) B) := by
  have hm : g * C ≤ 160000000 := mul_le3 (m := 160000) (n := 1000) hg hC
  have e1 := wrap_mul hm (by omega)
  have LO := Lib.hid fun V => Lowest_any (g * C) B V (by omega) hB.1 (by omega)
  unfold ratV at LO ⊢
  unfold roofV
  generalize loN (g * C) B = r1 at *
  generalize loD (g * C) B = r2 at *
  generalize g * C = p at *
  go_enter Try.func28, Try.ntmps28
  go_wp2_with fail
  go_at_call 34
  refine Calls.mono (Gives.calls (LO.out _)) ?_
  rintro e w1 ⟨rfl, z4, rfl⟩
  obtain ⟨d0, d1, lz, fz0, fz1⟩ := res2_facts (w := w) (V := z4.val) (by repeat (first | exact Below.refl _ _ | (with_reducible assumption) | apply below_later | apply below_alloc | apply below_drew | apply below_drewN))
  have HBW : Hid (Below w.heap.size w z4.val) := by show Below _ _ _; repeat (first | exact Below.refl _ _ | (with_reducible assumption) | apply below_later | apply below_alloc | apply below_drew | apply below_drewN)
  generalize z4.val = W5 at *
  go_wp2
  obtain ⟨r0, r1'⟩ := res_put (x := .int .i64 r1) (y := .int .i64 r2) d0 d1
  refine bodyPost_ret (v := .agg #[.int .i64 r1, .int .i64 r2]) (by simp [results, Try.results28, go_sem, r0, r1']) rfl ?_
  exact ⟨rfl, later_of ((HBW.out.setCell (by simp) _).setCell (by simp) _)⟩
set_option maxRecDepth 100000 in
set_option maxHeartbeats 1600000 in
theorem Area_bad (l d a b c : Int) (h : Bool) (w : World) (hv : okRoof l d a b c = false) :
    Gives Try.prog 6 #[roofV l d a b c h] w (.tuple #[.agg #[.int .i64 0, .int .i64 0], .int .i64 80]) := by
  have VA := Lib.hid fun V => hv ▸ ValidRoof_any l d a b c h V
  unfold roofV at VA ⊢
  clear hv
  go_enter Try.func6, Try.ntmps6
  go_wp2_with ((go_at_call 8; with_reducible refine Calls.mono (Gives.calls (VA.out _)) ?_; rintro e w1 ⟨rfl, z, rfl⟩); obtain ⟨d0, d1, lz, fz0, fz1⟩ := res2_facts (w := w) (V := z.val) (by repeat (first | exact Below.refl _ _ | (with_reducible assumption) | apply below_later | apply below_alloc | apply below_drew | apply below_drewN)))
  have HBW : Hid (Below w.heap.size w z.val) := by show Below _ _ _; repeat (first | exact Below.refl _ _ | (with_reducible assumption) | apply below_later | apply below_alloc | apply below_drew | apply below_drewN)
  obtain ⟨r0, r1'⟩ := res_put (x := .int .i64 0) (y := .int .i64 0) d0 d1
  refine bodyPost_ret (v := .tuple #[.agg #[.int .i64 0, .int .i64 0], .int .i64 80]) (by simp [results, Try.results6, go_sem, r0, r1']) rfl ?_
  exact ⟨rfl, later_of ((HBW.out.setCell (by simp) _).setCell (by simp) _)⟩
set_option maxRecDepth 100000 in
set_option maxHeartbeats 1600000 in
theorem Area_ok (L D H A B C : Nat) (h : Bool) (w : World) (R : Rf L D H A B C) (hv : okRoof L D A B C = true) :
    Gives Try.prog 6 #[roofV L D A B C h] w (.tuple #[ratV (L * D * C) B, .int .i64 0]) := by
  have VA := Lib.hid fun V => hv ▸ ValidRoof_any L D A B C h V
  have hm : L * D ≤ 160000 := mul_le3 (m := 400) (n := 400) R.l2 (by have := R.dl; have := R.l2; omega)
  have e1 := wrap_mul hm (by omega)
  have SL := Lib.hid fun V => sloped_any L D A B C (L * D) h V hm R.b1 R.c1.2
  unfold ratV at SL ⊢
  unfold roofV at VA SL ⊢
  generalize loN (L * D * C) B = r1 at *
  generalize loD (L * D * C) B = r2 at *
  generalize L * D = p at *
  clear hv R
  go_enter Try.func6, Try.ntmps6
  go_wp2_with (first
    | ((go_at_call 8; with_reducible refine Calls.mono (Gives.calls (VA.out _)) ?_; rintro e w1 ⟨rfl, z, rfl⟩); obtain ⟨⟨x0, x1, x2, x3, x4, x5⟩, lx⟩ := roof_at (w := w) (V := z.val) (l := L) (d := D) (a := A) (b := B) (c := C) (h := h) (by repeat (first | exact Below.refl _ _ | (with_reducible assumption) | apply below_later | apply below_alloc | apply below_drew | apply below_drewN))))
  go_at_call 28
  refine Calls.mono (Gives.calls (SL.out _)) ?_
  rintro e w1 ⟨rfl, z4, rfl⟩
  obtain ⟨d0, d1, lz, fz0, fz1⟩ := res2_facts (w := w) (V := z4.val) (by repeat (first | exact Below.refl _ _ | (with_reducible assumption) | apply below_later | apply below_alloc | apply below_drew | apply below_drewN))
  have HBW : Hid (Below w.heap.size w z4.val) := by show Below _ _ _; repeat (first | exact Below.refl _ _ | (with_reducible assumption) | apply below_later | apply below_alloc | apply below_drew | apply below_drewN)
  generalize z4.val = W5 at *
  go_wp2
  obtain ⟨r0, r1'⟩ := res_put (x := .int .i64 r1) (y := .int .i64 r2) d0 d1
  refine bodyPost_ret (v := .tuple #[.agg #[.int .i64 r1, .int .i64 r2], .int .i64 0]) (by simp [results, Try.results6, go_sem, r0, r1']) rfl ?_
  exact ⟨rfl, later_of ((HBW.out.setCell (by simp) _).setCell (by simp) _)⟩
set_option maxRecDepth 100000 in
set_option maxHeartbeats 1600000 in
theorem rArea_bad (l d a b c : Int) (h : Bool) (w : World) (hv : okRoof l d a b c = false) :
    Gives Try.prog 7 #[roofV l d a b c h] w (.tuple #[.agg #[.int .i64 0, .int .i64 0], .int .i64 80]) := by
  have VA := Lib.hid fun V => hv ▸ rValidRoof_any l d a b c h V
  unfold roofV at VA ⊢
  clear hv
  go_enter Try.func7, Try.ntmps7
  go_wp2_with ((go_at_call 9; with_reducible refine Calls.mono (Gives.calls (VA.out _)) ?_; rintro e w1 ⟨rfl, z, rfl⟩); obtain ⟨d0, d1, lz, fz0, fz1⟩ := res2_facts (w := w) (V := z.val) (by repeat (first | exact Below.refl _ _ | (with_reducible assumption) | apply below_later | apply below_alloc | apply below_drew | apply below_drewN)))
  have HBW : Hid (Below w.heap.size w z.val) := by show Below _ _ _; repeat (first | exact Below.refl _ _ | (with_reducible assumption) | apply below_later | apply below_alloc | apply below_drew | apply below_drewN)
  obtain ⟨r0, r1'⟩ := res_put (x := .int .i64 0) (y := .int .i64 0) d0 d1
  refine bodyPost_ret (v := .tuple #[.agg #[.int .i64 0, .int .i64 0], .int .i64 80]) (by simp [results, Try.results7, go_sem, r0, r1']) rfl ?_
  exact ⟨rfl, later_of ((HBW.out.setCell (by simp) _).setCell (by simp) _)⟩
set_option maxRecDepth 100000 in
set_option maxHeartbeats 1600000 in
theorem rArea_ok (L D H A B C : Nat) (h : Bool) (w : World) (R : Rf L D H A B C) (hv : okRoof L D A B C = true) :
    Gives Try.prog 7 #[roofV L D A B C h] w (.tuple #[ratV (L * D * C) B, .int .i64 0]) := by
  have VA := Lib.hid fun V => hv ▸ rValidRoof_any L D A B C h V
  have hm : L * D ≤ 160000 := mul_le3 (m := 400) (n := 400) R.l2 (by have := R.dl; have := R.l2; omega)
  have hm2 : L * D * C ≤ 160000000 := mul_le3 (m := 160000) (n := 1000) hm R.c1.2
  have e1 := wrap_mul hm (by omega)
  have e2 := wrap_mul hm2 (by omega)
  have LO := Lib.hid fun V => rratio_any (L * D * C) B V (by omega) R.b1.1 (by have := R.b1; omega)
  unfold ratV at LO ⊢
  unfold roofV at VA ⊢
  generalize loN (L * D * C) B = r1 at *
  generalize loD (L * D * C) B = r2 at *
  generalize L * D * C = q at *
  generalize L * D = p at *
  clear hv R
  go_enter Try.func7, Try.ntmps7
  go_wp2_with (first
    | ((go_at_call 9; with_reducible refine Calls.mono (Gives.calls (VA.out _)) ?_; rintro e w1 ⟨rfl, z, rfl⟩); obtain ⟨⟨x0, x1, x2, x3, x4, x5⟩, lx⟩ := roof_at (w := w) (V := z.val) (l := L) (d := D) (a := A) (b := B) (c := C) (h := h) (by repeat (first | exact Below.refl _ _ | (with_reducible assumption) | apply below_later | apply below_alloc | apply below_drew | apply below_drewN))))
  go_at_call 29
  refine Calls.mono (Gives.calls (LO.out _)) ?_
  rintro e w1 ⟨rfl, z4, rfl⟩
  obtain ⟨d0, d1, lz, fz0, fz1⟩ := res2_facts (w := w) (V := z4.val) (by repeat (first | exact Below.refl _ _ | (with_reducible assumption) | apply below_later | apply below_alloc | apply below_drew | apply below_drewN))
  have HBW : Hid (Below w.heap.size w z4.val) := by show Below _ _ _; repeat (first | exact Below.refl _ _ | (with_reducible assumption) | apply below_later | apply below_alloc | apply below_drew | apply below_drewN)
  generalize z4.val = W5 at *
  go_wp2
  obtain ⟨r0, r1'⟩ := res_put (x := .int .i64 r1) (y := .int .i64 r2) d0 d1
  refine bodyPost_ret (v := .tuple #[.agg #[.int .i64 r1, .int .i64 r2], .int .i64 0]) (by simp [results, Try.results7, go_sem, r0, r1']) rfl ?_
  exact ⟨rfl, later_of ((HBW.out.setCell (by simp) _).setCell (by simp) _)⟩
end Go.Proofs.Ytcjahpbbkdkbpaa
