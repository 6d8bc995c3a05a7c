/- Two bytes, opened. -/
import Derived.Test.YticjjikodignfaaDoorLawCap
import Derived.OpenShut
namespace Go.Proofs.YticjjikodignfaaDoor
open Go.ChangeShapes Go.WideShapes Go.ChangeAt Go.RowKit Go.Deep

set_option maxRecDepth 100000 in
theorem open_u8x2 {H : Type} {enc : TypeId × Value → H} {W : World} {r : Reach} {base : Nat} {v : Value} {d : DataW H} {p : List MemPlace}
    (hval : Value.okWide Tryd.prog W r base 54 v) (h : DataW.Trod enc Tryd.prog W 0 (fun _ => true) true 54 v d p) :
    ∃ a b : Nat, v = .agg #[.int .u8 a, .int .u8 b] ∧ a < 256 ∧ b < 256 := by
  have hu : Tryd.prog.underlying 54 = some (.array 2 5) := Tryd.underlying54
  simp only [Value.okWide, hu] at hval
  obtain ⟨cs, rfl, hsz, _⟩ := hval
  obtain ⟨fuel, hf⟩ := h
  obtain ⟨xs, k, rfl, hx, hl, hn, hfd⟩ := DataW.trod_array hu hf
  have hc : Tryd.prog.cellsOf 54 = 2 := by kernel_rfl
  have c3 : Tryd.prog.cellsOf 5 = 1 := by kernel_rfl
  rw [hc] at hsz
  obtain ⟨cl⟩ := cs
  obtain ⟨v0, v1, rfl⟩ := list_two (l := cl) hsz
  obtain ⟨x0, x1, rfl⟩ := list_two (l := xs) hn
  have h0 := hfd 0 (by omega)
  have h1 := hfd 1 (by omega)
  rw [c3] at h0 h1
  have h0' : DataW.trod enc Tryd.prog W 0 (fun _ => true) true k 5 [v0] = some x0 := h0
  have h1' : DataW.trod enc Tryd.prog W 0 (fun _ => true) true k 5 [v1] = some x1 := h1
  obtain ⟨a, e0, _, w0⟩ := DataW.trod_int Tryd.underlying5 h0'
  obtain ⟨b, e1, _, w1⟩ := DataW.trod_int Tryd.underlying5 h1'
  simp only [List.cons.injEq, and_true] at e0 e1
  subst e0 e1
  obtain ⟨p1, p2⟩ := bounds_u8 w0
  obtain ⟨q1, q2⟩ := bounds_u8 w1
  obtain ⟨a, rfl⟩ : ∃ j : Nat, a = j := ⟨a.toNat, by omega⟩
  obtain ⟨b, rfl⟩ : ∃ j : Nat, b = j := ⟨b.toNat, by omega⟩
  exact ⟨a, b, rfl, by omega, by omega⟩
end Go.Proofs.YticjjikodignfaaDoor
