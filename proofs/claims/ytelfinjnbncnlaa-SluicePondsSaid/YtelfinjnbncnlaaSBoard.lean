/- A board that comes in, and a list of whole numbers, opened. -/
import Derived.Test.YtelfinjnbncnlaaSLaw
import Derived.Test.YtelfinjnbncnlaaMap
import Derived.ChangeSlices
namespace Go.Proofs.Ytelfinjnbncnlaa
open Go.ChangeShapes Go.WideShapes Go.ChangeAt Go.RowKit Go.Deep

theorem ints_of {H : Type} {enc : TypeId × Value → H} {W : World} {fuel : Nat} {cs : List Value} {x : DataW H × List MemPlace} (hb : ∀ b ∈ x.2, b.block < W.heap.size)
    (h : DataW.trod enc Try.prog W 0 (fun _ => true) true fuel 22 cs = some x) :
    ∃ A n cap f, cs = [.slice A n cap] ∧ n ≤ cap ∧ cap ≤ maxLen ∧ (n ≤ 9223372036854775807 → IsInts W A n f) ∧ ∀ i, i < n → (Lit.int .i64 (f i)).wf = true := by
  rcases open_ints Try.underlying22 Try.underlying3 (by kernel_rfl) h with ⟨rfl, rfl⟩ | ⟨a, len, cap, zs, rfl, _, hl, hc, hz, rfl, hcell, hwf⟩
  · exact ⟨none, 0, 0, fun _ => 0, rfl, by omega, by omega, fun _ => ⟨by omega, fun h => absurd h (by omega)⟩, fun i hi => absurd hi (by omega)⟩
  · rw [if_pos rfl] at hz
    refine ⟨some a, len, cap, fun i => zs.getD i 0, rfl, hl, hc, fun hs => ⟨hs, fun h0 => ?_⟩, fun i hi => hwf _ ?_⟩
    · have hc0 := hcell 0 (by omega)
      have hs : a.spot = none := by
        have e : a.add 0 = a := by simp [Addr.add]
        rw [e] at hc0
        cases hsp : a.spot with
        | none => rfl
        | some s =>
          exfalso
          unfold World.cell? at hc0
          split at hc0
          · simp [hsp] at hc0
          · cases hc0
      obtain ⟨b, off, spot⟩ := a
      obtain rfl : spot = none := hs
      have hrow : MemPlace.cell b off ∈ MemPlace.row ⟨b, off, none⟩ zs.length := by
        unfold MemPlace.row
        exact List.mem_map.2 ⟨0, List.mem_range.2 (by omega), rfl⟩
      exact ⟨b, off, rfl, hb _ hrow, fun i hi => by have := hcell i (by omega); rw [add_plain] at this; exact this⟩
    · show zs.getD i 0 ∈ zs
      rw [List.getD_eq_getElem?_getD, List.getElem?_eq_getElem (by omega), Option.getD_some]
      exact List.getElem_mem _

set_option maxRecDepth 100000 in
/-- A list of whole numbers, opened. -/
theorem open_list {H : Type} {enc : TypeId × Value → H} {W : World} {r : Reach} {base : Nat} {v : Value} {d : DataW H} {p : List MemPlace} (hb : ∀ b ∈ p, b.block < W.heap.size)
    (hval : Value.okWide Try.prog W r base 22 v) (h : DataW.Trod enc Try.prog W 0 (fun _ => true) true 22 v d p) :
    ∃ A n cap f, v = .slice A n cap ∧ n ≤ cap ∧ cap ≤ maxLen ∧ (n ≤ 9223372036854775807 → IsInts W A n f) ∧ ∀ i, i < n → (Lit.int .i64 (f i)).wf = true := by
  obtain ⟨A, n, cap, rfl⟩ := okWide_slice Try.underlying22 hval
  obtain ⟨fuel, hf⟩ := h
  obtain ⟨A', n', cap', f, e, h1⟩ := ints_of hb hf
  have e' : [Value.slice A n cap] = [.slice A' n' cap'] := e
  simp only [List.cons.injEq, Value.slice.injEq, and_true] at e'
  obtain ⟨rfl, rfl, rfl⟩ := e'
  exact ⟨A, n, cap, f, rfl, h1⟩

end Go.Proofs.Ytelfinjnbncnlaa
