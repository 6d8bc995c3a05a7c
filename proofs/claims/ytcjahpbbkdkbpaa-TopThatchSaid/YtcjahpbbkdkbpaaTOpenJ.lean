/- A job that comes in, opened (layer 8). -/
import Derived.Test.YtcjahpbbkdkbpaaTOpen
namespace Go.Proofs.Ytcjahpbbkdkbpaa
open Go.ChangeShapes Go.WideShapes Go.ChangeAt Go.RowKit Go.Deep
set_option maxRecDepth 100000 in
theorem open_job {H : Type} {enc : TypeId × Value → H} {W : World} {r : Reach} {base : Nat} {v : Value} {d : DataW H} {p : List MemPlace} (hb : ∀ b ∈ p, b.block < W.heap.size)
    (hval : Value.okWide Try.prog W r base 48 v) (h : DataW.Trod enc Try.prog W 0 (fun _ => true) true 48 v d p) :
    ∃ (A : Option Addr) (n cap : Nat) (f : Nat → Int) (u : Nat), v = .agg #[.slice A n cap, .int .u8 u] ∧ n ≤ cap ∧ cap ≤ maxLen ∧ (n ≤ 9223372036854775807 → IsInts W A n f) ∧ u ≤ 255 := by
  have hu : Try.prog.underlying 48 = some (.struct #[_, _]) := Try.underlying48
  simp only [Value.okWide, hu] at hval
  obtain ⟨cs, rfl, hsz, _⟩ := hval
  obtain ⟨fuel, hf⟩ := h
  obtain ⟨xs, k, rfl, hx, hl, hn, hfd⟩ := DataW.trod_struct hu hf
  have hp : p = xs.flatMap (·.2) := (Prod.mk.inj hx).2
  have hc : Try.prog.cellsOf 48 = 2 := by kernel_rfl
  have c3 : Try.prog.cellsOf 44 = 1 := by kernel_rfl
  have c4 : Try.prog.cellsOf 5 = 1 := by kernel_rfl
  rw [hc] at hsz
  obtain ⟨cl⟩ := cs
  obtain ⟨v0, v1, rfl⟩ := ls_two hsz
  obtain ⟨x0, x1, rfl⟩ := ls_two hn
  have h0 := hfd 0 _ rfl
  have h1 := hfd 1 _ rfl
  have h0' : DataW.trod enc Try.prog W 0 (fun _ => true) true k 44 (([v0, v1].drop 0).take (Try.prog.cellsOf 44)) = some x0 := h0
  have h1' : DataW.trod enc Try.prog W 0 (fun _ => true) true k 5 (([v0, v1].drop 1).take (Try.prog.cellsOf 5)) = some x1 := h1
  rw [c3] at h0'
  rw [c4] at h1'
  obtain ⟨A, n, cap, f, e0, q1, q2, q3, _⟩ := ints_of (fun y hy => hb y (by rw [hp]; exact List.mem_flatMap.2 ⟨x0, by simp, hy⟩)) h0'
  obtain ⟨a, e1, _, w1⟩ := DataW.trod_int Try.underlying5 h1'
  have e0' : [v0] = [Value.slice A n cap] := e0
  have e1' : [v1] = [Value.int .u8 a] := e1
  simp only [List.cons.injEq, and_true] at e0' e1'
  subst e0' e1'
  have w1' := bounds_u8 w1
  obtain ⟨u, rfl⟩ := Int.eq_ofNat_of_zero_le w1'.1
  exact ⟨A, n, cap, f, u, rfl, q1, q2, q3, by omega⟩
end Go.Proofs.Ytcjahpbbkdkbpaa
