/- A claim that comes in (layer 3), opened. -/
import Derived.Test.YtelfinjnbncnlaaSBoard
namespace Go.Proofs.Ytelfinjnbncnlaa
open Go.ChangeShapes Go.WideShapes Go.ChangeAt Go.RowKit Go.Deep
theorem open_claim3 {H : Type} {enc : TypeId × Value → H} {W : World} {r : Reach} {base : Nat} {v : Value} {d : DataW H} {p : List MemPlace} (hb : ∀ b ∈ p, b.block < W.heap.size)
    (hval : Value.okWide Try.prog W r base 27 v) (h : DataW.Trod enc Try.prog W 0 (fun _ => true) true 27 v d p) :
    ∃ (x y : Int) (A : Option Addr) (n cap : Nat) (f : Nat → Int), v = .agg #[.int .i64 x, .int .i64 y, .slice A n cap] ∧ ((Lit.int .i64 x).wf = true ∧ (Lit.int .i64 y).wf = true) ∧ n ≤ cap ∧ cap ≤ maxLen ∧ (n ≤ 9223372036854775807 → IsInts W A n f) ∧ ∀ i, i < n → (Lit.int .i64 (f i)).wf = true := by
  have hu : Try.prog.underlying 27 = some (.struct #[_, _, _]) := Try.underlying27
  simp only [Value.okWide, hu] at hval
  obtain ⟨cs, rfl, hsz, _⟩ := hval
  obtain ⟨fuel, hf⟩ := h
  obtain ⟨xs, k, rfl, hx, hl, hn, hfd⟩ := DataW.trod_struct hu hf
  have hp : p = xs.flatMap (·.2) := (Prod.mk.inj hx).2
  have hc : Try.prog.cellsOf 27 = 3 := by kernel_rfl
  have c3 : Try.prog.cellsOf 3 = 1 := by kernel_rfl
  have c4 : Try.prog.cellsOf 22 = 1 := by kernel_rfl
  rw [hc] at hsz
  obtain ⟨cl⟩ := cs
  obtain ⟨v0, l1, rfl, hl1⟩ := list_more (n := 2) hsz
  obtain ⟨v1, v2, rfl⟩ := list_two hl1
  obtain ⟨x0, m1, rfl, hm1⟩ := list_more (n := 2) hn
  obtain ⟨x1, x2, rfl⟩ := list_two hm1
  have h0 := hfd 0 _ rfl
  have h1 := hfd 1 _ rfl
  have h2 := hfd 2 _ rfl
  have h0' : DataW.trod enc Try.prog W 0 (fun _ => true) true k 3 (([v0, v1, v2].drop 0).take (Try.prog.cellsOf 3)) = some x0 := h0
  have h1' : DataW.trod enc Try.prog W 0 (fun _ => true) true k 3 (([v0, v1, v2].drop 1).take (Try.prog.cellsOf 3)) = some x1 := h1
  have h2' : DataW.trod enc Try.prog W 0 (fun _ => true) true k 22 (([v0, v1, v2].drop 2).take (Try.prog.cellsOf 22)) = some x2 := h2
  rw [c3] at h0' h1'
  rw [c4] at h2'
  obtain ⟨a, e0, _, w0⟩ := DataW.trod_int Try.underlying3 h0'
  obtain ⟨b, e1, _, w1⟩ := DataW.trod_int Try.underlying3 h1'
  obtain ⟨A, n, cap, f, e2, r⟩ := ints_of (fun y hy => hb y (by rw [hp]; exact List.mem_flatMap.2 ⟨x2, by simp, hy⟩)) h2'
  have e0' : [v0] = [Value.int .i64 a] := e0
  have e1' : [v1] = [Value.int .i64 b] := e1
  have e2' : [v2] = [Value.slice A n cap] := e2
  simp only [List.cons.injEq, and_true] at e0' e1' e2'
  subst e0' e1' e2'
  exact ⟨a, b, A, n, cap, f, rfl, ⟨w0, w1⟩, r⟩
end Go.Proofs.Ytelfinjnbncnlaa
