/- Two bytes, opened. -/
import Derived.Test.YtbmfmdlpaidmjaaWRot
import Derived.OpenShut
namespace Go.Proofs.Ytbmfmdlpaidmjaa
open Go.ChangeShapes Go.WideShapes Go.ChangeAt Go.RowKit Go.Deep

set_option maxRecDepth 100000 in
theorem open_b2 {H : Type} {enc : TypeId × Value → H} {W : World} {r : Reach} {base : Nat} {v : Value} {d : DataW H} {p : List MemPlace}
    (hval : Value.okWide Try.prog W r base 77 v) (h : DataW.Trod enc Try.prog W 0 (fun _ => true) true 77 v d p) :
    ∃ a b : Int, v = .agg #[.int .u8 a, .int .u8 b] ∧ (0 ≤ a ∧ a ≤ 255) ∧ 0 ≤ b ∧ b ≤ 255 := by
  have hu : Try.prog.underlying 77 = some (.array 2 5) := Try.underlying77
  simp only [Value.okWide, hu] at hval
  obtain ⟨cs, rfl, hsz, _⟩ := hval
  obtain ⟨fuel, hf⟩ := h
  obtain ⟨xs, k, rfl, hx, hl, hn, hfd⟩ := DataW.trod_array hu hf
  have hc : Try.prog.cellsOf 77 = 2 := by kernel_rfl
  have c3 : Try.prog.cellsOf 5 = 1 := by kernel_rfl
  rw [hc] at hsz
  obtain ⟨cl⟩ := cs
  obtain ⟨v0, v1, rfl⟩ := list_two (l := cl) hsz
  obtain ⟨x0, x1, rfl⟩ := list_two (l := xs) hn
  have h0 := hfd 0 (by omega)
  have h1 := hfd 1 (by omega)
  rw [c3] at h0 h1
  have h0' : DataW.trod enc Try.prog W 0 (fun _ => true) true k 5 [v0] = some x0 := h0
  have h1' : DataW.trod enc Try.prog W 0 (fun _ => true) true k 5 [v1] = some x1 := h1
  obtain ⟨a, e0, _, w0⟩ := DataW.trod_int Try.underlying5 h0'
  obtain ⟨b, e1, _, w1⟩ := DataW.trod_int Try.underlying5 h1'
  simp only [List.cons.injEq, and_true] at e0 e1
  subst e0 e1
  exact ⟨a, b, rfl, bounds_u8 w0, bounds_u8 w1⟩
end Go.Proofs.Ytbmfmdlpaidmjaa
