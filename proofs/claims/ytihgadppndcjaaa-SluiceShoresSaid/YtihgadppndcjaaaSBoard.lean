/- A board that comes in, and a list of whole numbers, opened. -/
import Derived.Test.YtihgadppndcjaaaSLaw
import Derived.Test.YtihgadppndcjaaaMap
import Derived.ChangeSlices
namespace Go.Proofs.Ytihgadppndcjaaa
open Go.ChangeShapes Go.WideShapes Go.ChangeAt Go.RowKit Go.Deep

theorem ints_of {H : Type} {enc : TypeId × Value → H} {W : World} {fuel : Nat} {cs : List Value} {x : DataW H × List MemPlace} (hb : ∀ b ∈ x.2, b.block < W.heap.size)
    (h : DataW.trod enc Try.prog W 0 (fun _ => true) true fuel 22 cs = some x) :
    ∃ A n cap f, cs = [.slice A n cap] ∧ n ≤ cap ∧ cap ≤ maxLen ∧ (n ≤ 9223372036854775807 → IsInts W A n f) ∧ ∀ i, i < n → (Lit.int .i64 (f i)).wf = true := by
  rcases open_ints Try.underlying22 Try.underlying3 (by kernel_rfl) h with ⟨rfl, rfl⟩ | ⟨a, len, cap, zs, rfl, _, hl, hc, hz, rfl, hcell, hwf⟩
  · exact ⟨none, 0, 0, fun _ => 0, rfl, by omega, by omega, fun _ => ⟨by omega, fun h => absurd h (by omega)⟩, fun i hi => absurd hi (by omega)⟩
  · rw [if_pos rfl] at hz
    refine ⟨some a, len, cap, fun i => zs.getD i 0, rfl, hl, hc, fun hs => ⟨hs, fun h0 => ?_⟩, fun i hi => hwf _ ?_⟩
    · have hc0 := hcell 0 (by omega)
      have hs : a.spot = none := by
        have e : a.add 0 = a := by simp [Addr.add]
        rw [e] at hc0
        cases hsp : a.spot with
        | none => rfl
        | some s =>
          exfalso
          unfold World.cell? at hc0
          split at hc0
          · simp [hsp] at hc0
          · cases hc0
      obtain ⟨b, off, spot⟩ := a
      obtain rfl : spot = none := hs
      have hrow : MemPlace.cell b off ∈ MemPlace.row ⟨b, off, none⟩ zs.length := by
        unfold MemPlace.row
        exact List.mem_map.2 ⟨0, List.mem_range.2 (by omega), rfl⟩
      exact ⟨b, off, rfl, hb _ hrow, fun i hi => by have := hcell i (by omega); rw [add_plain] at this; exact this⟩
    · show zs.getD i 0 ∈ zs
      rw [List.getD_eq_getElem?_getD, List.getElem?_eq_getElem (by omega), Option.getD_some]
      exact List.getElem_mem _

set_option maxRecDepth 100000 in
/-- A list of whole numbers, opened. -/
theorem open_list {H : Type} {enc : TypeId × Value → H} {W : World} {r : Reach} {base : Nat} {v : Value} {d : DataW H} {p : List MemPlace} (hb : ∀ b ∈ p, b.block < W.heap.size)
    (hval : Value.okWide Try.prog W r base 22 v) (h : DataW.Trod enc Try.prog W 0 (fun _ => true) true 22 v d p) :
    ∃ A n cap f, v = .slice A n cap ∧ n ≤ cap ∧ cap ≤ maxLen ∧ (n ≤ 9223372036854775807 → IsInts W A n f) ∧ ∀ i, i < n → (Lit.int .i64 (f i)).wf = true := by
  obtain ⟨A, n, cap, rfl⟩ := okWide_slice Try.underlying22 hval
  obtain ⟨fuel, hf⟩ := h
  obtain ⟨A', n', cap', f, e, h1⟩ := ints_of hb hf
  have e' : [Value.slice A n cap] = [.slice A' n' cap'] := e
  simp only [List.cons.injEq, Value.slice.injEq, and_true] at e'
  obtain ⟨rfl, rfl, rfl⟩ := e'
  exact ⟨A, n, cap, f, rfl, h1⟩

set_option maxRecDepth 100000 in
/-- A board, opened. -/
theorem open_board {H : Type} {enc : TypeId × Value → H} {W : World} {r : Reach} {base : Nat} {v : Value} {d : DataW H} {p : List MemPlace} (hb : ∀ b ∈ p, b.block < W.heap.size)
    (hval : Value.okWide Try.prog W r base 54 v) (h : DataW.Trod enc Try.prog W 0 (fun _ => true) true 54 v d p) :
    ∃ (x y : Int) (A : Option Addr) (n cap : Nat) (f : Nat → Int), v = .agg #[.int .i64 x, .int .i64 y, .slice A n cap] ∧ ((Lit.int .i64 x).wf = true ∧ (Lit.int .i64 y).wf = true) ∧ n ≤ cap ∧ cap ≤ maxLen ∧ (n ≤ 9223372036854775807 → IsInts W A n f) ∧ ∀ i, i < n → (Lit.int .i64 (f i)).wf = true := by
  have hu : Try.prog.underlying 54 = some (.struct #[_, _, _]) := Try.underlying54
  simp only [Value.okWide, hu] at hval
  obtain ⟨cs, rfl, hsz, _⟩ := hval
  obtain ⟨fuel, hf⟩ := h
  obtain ⟨xs, k, rfl, hx, hl, hn, hfd⟩ := DataW.trod_struct hu hf
  have hp : p = xs.flatMap (·.2) := (Prod.mk.inj hx).2
  have hc : Try.prog.cellsOf 54 = 3 := by kernel_rfl
  have c3 : Try.prog.cellsOf 3 = 1 := by kernel_rfl
  have c4 : Try.prog.cellsOf 22 = 1 := by kernel_rfl
  rw [hc] at hsz
  obtain ⟨cl⟩ := cs
  obtain ⟨v0, l1, rfl, hl1⟩ := list_more (n := 2) hsz
  obtain ⟨v1, v2, rfl⟩ := list_two hl1
  obtain ⟨x0, m1, rfl, hm1⟩ := list_more (n := 2) hn
  obtain ⟨x1, x2, rfl⟩ := list_two hm1
  have h0 := hfd 0 _ rfl
  have h1 := hfd 1 _ rfl
  have h2 := hfd 2 _ rfl
  have h0' : DataW.trod enc Try.prog W 0 (fun _ => true) true k 3 (([v0, v1, v2].drop 0).take (Try.prog.cellsOf 3)) = some x0 := h0
  have h1' : DataW.trod enc Try.prog W 0 (fun _ => true) true k 3 (([v0, v1, v2].drop 1).take (Try.prog.cellsOf 3)) = some x1 := h1
  have h2' : DataW.trod enc Try.prog W 0 (fun _ => true) true k 22 (([v0, v1, v2].drop 2).take (Try.prog.cellsOf 22)) = some x2 := h2
  rw [c3] at h0' h1'
  rw [c4] at h2'
  obtain ⟨a, e0, _, w0⟩ := DataW.trod_int Try.underlying3 h0'
  obtain ⟨b, e1, _, w1⟩ := DataW.trod_int Try.underlying3 h1'
  obtain ⟨A, n, cap, f, e2, r⟩ := ints_of (fun y hy => hb y (by rw [hp]; exact List.mem_flatMap.2 ⟨x2, by simp, hy⟩)) h2'
  have e0' : [v0] = [Value.int .i64 a] := e0
  have e1' : [v1] = [Value.int .i64 b] := e1
  have e2' : [v2] = [Value.slice A n cap] := e2
  simp only [List.cons.injEq, and_true] at e0' e1' e2'
  subst e0' e1' e2'
  exact ⟨a, b, A, n, cap, f, rfl, ⟨w0, w1⟩, r⟩
end Go.Proofs.Ytihgadppndcjaaa
