/- A list of small whole numbers that comes in, opened. -/
import Derived.Test.YtjmjafpjfhgfdaaDOpen
import Derived.Test.YtjmjafpjfhgfdaaDAllLaw
namespace Go.Proofs.Ytjmjafpjfhgfdaa
open Go.ChangeShapes Go.WideShapes Go.ChangeAt Go.RowKit Go.Deep

theorem u8s_of {H : Type} {enc : TypeId × Value → H} {W : World} {fuel : Nat} {cs : List Value} {x : DataW H × List MemPlace} (hb : ∀ b ∈ x.2, b.block < W.heap.size)
    (h : DataW.trod enc Try.prog W 0 (fun _ => true) true fuel 58 cs = some x) :
    ∃ A n cap f, cs = [.slice A n cap] ∧ n ≤ cap ∧ cap ≤ maxLen ∧ IsU8s W A n f ∧ ∀ i, i < n → (Lit.int .u8 (f i)).wf = true := by
  rcases open_ints Try.underlying58 Try.underlying5 (by kernel_rfl) h with ⟨rfl, rfl⟩ | ⟨a, len, cap, zs, rfl, _, hl, hc, hz, rfl, hcell, hwf⟩
  · exact ⟨none, 0, 0, fun _ => 0, rfl, by omega, by omega, ⟨fun h => absurd h (by omega)⟩, fun i hi => absurd hi (by omega)⟩
  · rw [if_pos rfl] at hz
    refine ⟨some a, len, cap, fun i => zs.getD i 0, rfl, hl, hc, ⟨fun h0 => ?_⟩, fun i hi => hwf _ ?_⟩
    · have hc0 := hcell 0 (by omega)
      have hs : a.spot = none := by
        have e : a.add 0 = a := by simp [Addr.add]
        rw [e] at hc0
        cases hsp : a.spot with
        | none => rfl
        | some s =>
          exfalso
          unfold World.cell? at hc0
          split at hc0
          · simp [hsp] at hc0
          · cases hc0
      obtain ⟨b, off, spot⟩ := a
      obtain rfl : spot = none := hs
      have hrow : MemPlace.cell b off ∈ MemPlace.row ⟨b, off, none⟩ zs.length := by
        unfold MemPlace.row
        exact List.mem_map.2 ⟨0, List.mem_range.2 (by omega), rfl⟩
      exact ⟨b, off, rfl, hb _ hrow, fun i hi => by have := hcell i (by omega); rw [add_plain] at this; exact this⟩
    · show zs.getD i 0 ∈ zs
      rw [List.getD_eq_getElem?_getD, List.getElem?_eq_getElem (by omega), Option.getD_some]
      exact List.getElem_mem _
set_option maxRecDepth 100000 in
theorem open_u8s {H : Type} {enc : TypeId × Value → H} {W : World} {r : Reach} {base : Nat} {v : Value} {d : DataW H} {p : List MemPlace} (hb : ∀ b ∈ p, b.block < W.heap.size)
    (hval : Value.okWide Try.prog W r base 58 v) (h : DataW.Trod enc Try.prog W 0 (fun _ => true) true 58 v d p) :
    ∃ A n cap f, v = .slice A n cap ∧ n ≤ cap ∧ cap ≤ maxLen ∧ IsU8s W A n f ∧ ∀ i, i < n → (Lit.int .u8 (f i)).wf = true := by
  obtain ⟨A, n, cap, rfl⟩ := okWide_slice Try.underlying58 hval
  obtain ⟨fuel, hf⟩ := h
  obtain ⟨A', n', cap', f, e, h1⟩ := u8s_of hb hf
  have e' : [Value.slice A n cap] = [.slice A' n' cap'] := e
  simp only [List.cons.injEq, Value.slice.injEq, and_true] at e'
  obtain ⟨rfl, rfl, rfl⟩ := e'
  exact ⟨A, n, cap, f, rfl, h1⟩
theorem wf_u8 {i : Int} (h : (Lit.int .u8 i).wf = true) : 0 ≤ i ∧ i ≤ 255 := by
  simp only [Lit.wf, Bool.and_eq_true, decide_eq_true_eq] at h
  have e1 : IntKind.u8.min = 0 := by decide
  have e2 : IntKind.u8.max = 255 := by decide
  omega
end Go.Proofs.Ytjmjafpjfhgfdaa
