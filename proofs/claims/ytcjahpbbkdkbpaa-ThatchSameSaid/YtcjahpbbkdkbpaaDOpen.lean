/- What comes in, opened (layer 7): lists, lists of lists. -/
import Derived.Test.YtcjahpbbkdkbpaaSLaw
import Derived.Test.YtcjahpbbkdkbpaaDBase
import Derived.ChangeSlices
import Derived.Deep.Slices
import Derived.OpenShut
namespace Go.Proofs.Ytcjahpbbkdkbpaa
open Go.ChangeShapes Go.WideShapes Go.ChangeAt Go.RowKit Go.Deep

theorem ints_of {H : Type} {enc : TypeId × Value → H} {W : World} {fuel : Nat} {cs : List Value} {x : DataW H × List MemPlace} (hb : ∀ b ∈ x.2, b.block < W.heap.size)
    (h : DataW.trod enc Try.prog W 0 (fun _ => true) true fuel 44 cs = some x) :
    ∃ A n cap f, cs = [.slice A n cap] ∧ n ≤ cap ∧ cap ≤ maxLen ∧ (n ≤ 9223372036854775807 → IsInts W A n f) ∧ ∀ i, i < n → (Lit.int .i64 (f i)).wf = true := by
  rcases open_ints Try.underlying44 Try.underlying3 (by kernel_rfl) h with ⟨rfl, rfl⟩ | ⟨a, len, cap, zs, rfl, _, hl, hc, hz, rfl, hcell, hwf⟩
  · exact ⟨none, 0, 0, fun _ => 0, rfl, by omega, by omega, fun _ => ⟨by omega, fun h => absurd h (by omega)⟩, fun i hi => absurd hi (by omega)⟩
  · rw [if_pos rfl] at hz
    refine ⟨some a, len, cap, fun i => zs.getD i 0, rfl, hl, hc, fun hs => ⟨hs, fun h0 => ?_⟩, fun i hi => hwf _ ?_⟩
    · have hc0 := hcell 0 (by omega)
      have hs : a.spot = none := by
        have e : a.add 0 = a := by simp [Addr.add]
        rw [e] at hc0
        cases hsp : a.spot with
        | none => rfl
        | some s =>
          exfalso
          unfold World.cell? at hc0
          split at hc0
          · simp [hsp] at hc0
          · cases hc0
      obtain ⟨b, off, spot⟩ := a
      obtain rfl : spot = none := hs
      have hrow : MemPlace.cell b off ∈ MemPlace.row ⟨b, off, none⟩ zs.length := by
        unfold MemPlace.row
        exact List.mem_map.2 ⟨0, List.mem_range.2 (by omega), rfl⟩
      exact ⟨b, off, rfl, hb _ hrow, fun i hi => by have := hcell i (by omega); rw [add_plain] at this; exact this⟩
    · show zs.getD i 0 ∈ zs
      rw [List.getD_eq_getElem?_getD, List.getElem?_eq_getElem (by omega), Option.getD_some]
      exact List.getElem_mem _
set_option maxRecDepth 100000 in
/-- A list of whole numbers, opened. -/
theorem open_list {H : Type} {enc : TypeId × Value → H} {W : World} {r : Reach} {base : Nat} {v : Value} {d : DataW H} {p : List MemPlace} (hb : ∀ b ∈ p, b.block < W.heap.size)
    (hval : Value.okWide Try.prog W r base 44 v) (h : DataW.Trod enc Try.prog W 0 (fun _ => true) true 44 v d p) :
    ∃ A n cap f, v = .slice A n cap ∧ n ≤ cap ∧ cap ≤ maxLen ∧ (n ≤ 9223372036854775807 → IsInts W A n f) ∧ ∀ i, i < n → (Lit.int .i64 (f i)).wf = true := by
  obtain ⟨A, n, cap, rfl⟩ := okWide_slice Try.underlying44 hval
  obtain ⟨fuel, hf⟩ := h
  obtain ⟨A', n', cap', f, e, h1⟩ := ints_of hb hf
  have e' : [Value.slice A n cap] = [.slice A' n' cap'] := e
  simp only [List.cons.injEq, Value.slice.injEq, and_true] at e'
  obtain ⟨rfl, rfl, rfl⟩ := e'
  exact ⟨A, n, cap, f, rfl, h1⟩
theorem pick_lt {α : Type} [Inhabited α] {n : Nat} {P : Nat → α → Prop} (h : ∀ i, i < n → ∃ x, P i x) : ∃ f : Nat → α, ∀ i, i < n → P i (f i) := by
  classical
  exact ⟨fun i => if hi : i < n then Classical.choose (h i hi) else default, fun i hi => by
    show P i (if hi : i < n then _ else _)
    rw [dif_pos hi]
    exact Classical.choose_spec (h i hi)⟩
set_option maxRecDepth 100000 in
theorem open_lists {H : Type} {enc : TypeId × Value → H} {W : World} {r : Reach} {base : Nat} {v : Value} {d : DataW H} {p : List MemPlace} (hb : ∀ b ∈ p, b.block < W.heap.size)
    (hval : Value.okWide Try.prog W r base 58 v) (h : DataW.Trod enc Try.prog W 0 (fun _ => true) true 58 v d p) :
    ∃ (A : Option Addr) (n cap : Nat) (R : Nat → Row), v = .slice A n cap ∧ n ≤ cap ∧ cap ≤ maxLen ∧ IsTab W A n R := by
  have hc : Try.prog.cellsOf 44 = 1 := by kernel_rfl
  obtain ⟨A, n, cap, rfl⟩ := okWide_slice Try.underlying58 hval
  obtain ⟨fuel, hf⟩ := h
  rcases open_slice Try.underlying58 hf with ⟨h1, _⟩ | ⟨a, len, cap', m, k, D, Pl, h1, _, hl, hm, h5, h6, h7⟩
  · have e' : [Value.slice A n cap] = [.slice none 0 0] := h1
    simp only [List.cons.injEq, Value.slice.injEq, and_true] at e'
    obtain ⟨rfl, rfl, rfl⟩ := e'
    exact ⟨none, 0, 0, default, rfl, by omega, by omega, by omega, fun h => absurd h (by omega), fun i hi => absurd hi (by omega)⟩
  · rw [if_pos rfl] at h5
    subst h5
    have e' : [Value.slice A n cap] = [.slice (some a) len m] := h1
    simp only [List.cons.injEq, Value.slice.injEq, and_true] at e'
    obtain ⟨rfl, rfl, rfl⟩ := e'
    have h6' : p = _ := congrArg Prod.snd h6
    have each : ∀ i, i < cap → ∃ r : Row, W.cell? (a.add i) = some r.val ∧ IsInts W r.a r.n r.f ∧ r.n ≤ r.c := fun i hi => by
      obtain ⟨cs', q1, q2⟩ := h7 i hi
      rw [hc, Nat.mul_one] at q1
      obtain ⟨_, hlen, hcell⟩ := World.cells?_some q1
      obtain ⟨B, n', c', f, rfl, hn', hm', hi', _⟩ := ints_of (fun b hb' => hb b (by rw [h6']; exact List.mem_append_right _ (List.mem_flatMap.2 ⟨i, List.mem_range.2 hi, hb'⟩))) q2
      have hs : n' ≤ 9223372036854775807 := by unfold maxLen at hm'; omega
      refine ⟨⟨B, n', c', f⟩, ?_, hi' hs, hn'⟩
      have h0 := hcell 0 (by omega)
      have e0 : (a.add i).add 0 = a.add i := by simp [Addr.add]
      rw [e0] at h0
      exact h0
    obtain ⟨R, hR⟩ := pick_lt each
    have hsm : n ≤ 9223372036854775807 := by unfold maxLen at hm; omega
    refine ⟨some a, n, cap, R, rfl, by omega, by omega, hsm, fun h0 => ?_, fun i hi => (hR i (by omega)).2⟩
    have hs : a.spot = none := by
      have hc0 := (hR 0 (by omega)).1
      have e : a.add 0 = a := by simp [Addr.add]
      rw [e] at hc0
      cases hsp : a.spot with
      | none => rfl
      | some s =>
        exfalso
        unfold World.cell? at hc0
        split at hc0
        · simp [hsp] at hc0
        · cases hc0
    obtain ⟨b, off, spot⟩ := a
    obtain rfl : spot = none := hs
    have hrow : MemPlace.cell b off ∈ p := by
      rw [h6']
      refine List.mem_append_left _ ?_
      unfold MemPlace.row
      rw [hc]
      exact List.mem_map.2 ⟨0, List.mem_range.2 (by omega), rfl⟩
    refine ⟨b, off, rfl, hb _ hrow, fun i hi => ?_⟩
    have := (hR i (by omega)).1
    rw [add_plain] at this
    exact this
end Go.Proofs.Ytcjahpbbkdkbpaa
