/- Three bytes, opened. -/
import Derived.Test.YtnjloomhhgilcaaWRot
import Derived.OpenShut
namespace Go.Proofs.Ytnjloomhhgilcaa
open Go.ChangeShapes Go.WideShapes Go.ChangeAt Go.RowKit Go.Deep

set_option maxRecDepth 100000 in
theorem open_u8x3 {H : Type} {enc : TypeId × Value → H} {W : World} {r : Reach} {base : Nat} {v : Value} {d : DataW H} {p : List MemPlace}
    (hval : Value.okWide Try.prog W r base 56 v) (h : DataW.Trod enc Try.prog W 0 (fun _ => true) true 56 v d p) :
    ∃ a b c : Int, v = .agg #[.int .u8 a, .int .u8 b, .int .u8 c] ∧ (0 ≤ a ∧ a ≤ 255) ∧ (0 ≤ b ∧ b ≤ 255) ∧ 0 ≤ c ∧ c ≤ 255 := by
  have hu : Try.prog.underlying 56 = some (.array 3 5) := Try.underlying56
  simp only [Value.okWide, hu] at hval
  obtain ⟨cs, rfl, hsz, _⟩ := hval
  obtain ⟨fuel, hf⟩ := h
  obtain ⟨xs, k, rfl, hx, hl, hn, hfd⟩ := DataW.trod_array hu hf
  have hc : Try.prog.cellsOf 56 = 3 := by kernel_rfl
  have c3 : Try.prog.cellsOf 5 = 1 := by kernel_rfl
  rw [hc] at hsz
  obtain ⟨cl⟩ := cs
  obtain ⟨v0, v1, v2, rfl⟩ := list_three (l := cl) hsz
  obtain ⟨x0, x1, x2, rfl⟩ := list_three (l := xs) hn
  have h0 := hfd 0 (by omega)
  have h1 := hfd 1 (by omega)
  have h2 := hfd 2 (by omega)
  rw [c3] at h0 h1 h2
  have h0' : DataW.trod enc Try.prog W 0 (fun _ => true) true k 5 [v0] = some x0 := h0
  have h1' : DataW.trod enc Try.prog W 0 (fun _ => true) true k 5 [v1] = some x1 := h1
  have h2' : DataW.trod enc Try.prog W 0 (fun _ => true) true k 5 [v2] = some x2 := h2
  obtain ⟨a, e0, _, w0⟩ := DataW.trod_int Try.underlying5 h0'
  obtain ⟨b, e1, _, w1⟩ := DataW.trod_int Try.underlying5 h1'
  obtain ⟨c, e2, _, w2⟩ := DataW.trod_int Try.underlying5 h2'
  simp only [List.cons.injEq, and_true] at e0 e1 e2
  subst e0 e1 e2
  exact ⟨a, b, c, rfl, bounds_u8 w0, bounds_u8 w1, bounds_u8 w2⟩
end Go.Proofs.Ytnjloomhhgilcaa
