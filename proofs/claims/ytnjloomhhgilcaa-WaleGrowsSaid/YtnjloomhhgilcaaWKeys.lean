/- The keys of a map of states, sorted; wale.After, whole. -/
import Derived.Test.YtnjloomhhgilcaaWBools
import Derived.Test.YtnjloomhhgilcaaShelf4
import Derived.Shelf.SlIterI.Nil
import Derived.Shelf.SortM.Plain
import Derived.Shelf.SortM.SortNone
import Derived.Shelf.AbstractIn
namespace Go.Proofs.Ytnjloomhhgilcaa
open Go.RowKit Go.Maps Go.Sort Go.Shelf

/-- The keys of a map that tells states, in their order. -/
theorem tells_sorted {n : Nat} {D : DataW Unit} {E : Nat → Bool} {ss : List Int} (ht : Tells D E) (hn : NatKeys D) (he : ∀ s, E s = true → s < n) (hp : ss.Perm (intKeys D)) : ss.mergeSort (fun x y => decide (x ≤ y)) = natZ ((List.range n).filter E) := by
  obtain ⟨es, rfl, hk⟩ := hn
  obtain ⟨es', e1, hpw⟩ := ht.1
  obtain rfl : es = es' := by simpa using e1
  have hnd : (natZ ((List.range n).filter E)).Nodup := by
    unfold natZ
    rw [List.Nodup, List.pairwise_map]
    exact List.Pairwise.imp (R := fun a b : Nat => a ≠ b) (fun {a b} h => by simp; omega) (List.Pairwise.filter _ List.nodup_range)
  have hmem : ∀ x, x ∈ natZ ((List.range n).filter E) ↔ Maps.has (DataW.map es) (.int .i64 x) = true := by
    intro x
    unfold natZ
    constructor
    · intro h
      obtain ⟨s, hs, rfl⟩ := List.mem_map.1 h
      have h2 := (List.mem_filter.1 hs).2
      have h3 := ht.2.1 s
      rw [h2] at h3
      exact h3
    · intro h
      have h' := h
      rw [has_eq, List.any_eq_true] at h'
      obtain ⟨p, hp1, hp2⟩ := h'
      obtain ⟨s, hs⟩ := hk p hp1
      have h4 := WideAt.sameKey_eq hp2
      rw [hs] at h4
      have hx : x = (s : Int) := by simp [kN] at h4; omega
      subst hx
      have h5 : E s = true := (ht.2.1 s).symm.trans h
      exact List.mem_map.2 ⟨s, List.mem_filter.2 ⟨List.mem_range.2 (he s h5), h5⟩, rfl⟩
  have hperm := perm_intKeys hpw (fun p hp => let ⟨s, e⟩ := hk p hp; ⟨(s : Int), e⟩) hnd hmem
  have h6 := mergeSort_of_perm_i (hp.trans hperm.symm)
  have h7 : (natZ ((List.range n).filter E)).mergeSort leI = natZ ((List.range n).filter E) := by
    refine List.mergeSort_of_pairwise ?_
    unfold natZ
    rw [List.pairwise_map]
    refine List.Pairwise.imp (R := fun a b : Nat => a < b) (fun {a b} h => by simp [leI]; omega) (List.Pairwise.filter _ List.pairwise_lt_range)
  exact h6.trans h7

theorem sortsA (m : Nat) : AnyZI.SortsIn Try.prog Try.sortedA_ren Fence.wide m :=
  ⟨fun blk off cap ss W hH hblk hsz => callsIn_wide.2 (AnyM.slices_Sort_int Try.sortA blk off cap ss W hH hblk hsz),
   fun p cap W => callsIn_wide.2 (AnyM.slices_Sort_int_none Try.sortA p cap W)⟩
theorem keys_any (w : World) (b : Nat) : Calls Try.prog 39 #[.map (some b)] w fun e w'' => e = .returned (.func (.func 60) #[] #[.pointer (some ⟨w.heap.size, 0, none⟩)]) ∧ w'' = w.alloc (.cells #[.map (some b)] 78) :=
  callsIn_wide.1 (AnyZI.keys_in Try.keysA Fence.wide 5 trivial rfl (some b) w)
set_option maxHeartbeats 1000000 in
theorem sorted_any (n : Nat) (w : World) (b nn : Nat) (D : DataW Unit) (E : Nat → Bool) (hown : w.ownsMap Try.prog 3 (plainElem Try.prog 4) b nn D) (hnn : nn ≤ 100) (ht : Tells D E) (hk : NatKeys D) (he : ∀ s, E s = true → s < n) :
    Calls Try.prog 38 #[.func (.func 60) #[] #[.pointer (some ⟨w.heap.size, 0, none⟩)]] (w.alloc (.cells #[.map (some b)] 78)) fun e w'' => ∃ v, e = .returned v ∧ ∃ x : Later w, w'' = x.val ∧ OwnI w'' w.heap.size v (natZ ((List.range n).filter E)) := by
  have hbl := map_lt hown
  have hsz := hown.size_le
  have hseq : SeqGives Fence.wide 2 Try.prog 60 #[.pointer (some ⟨w.heap.size, 0, none⟩)] encZ (fun ss => ss.Perm (intKeys D)) (Maps.size D) (w.alloc (.cells #[.map (some b)] 78)) :=
    AnyZI.keys_gives (ρ := Try.keysA_ren) { Try.keysA with } Fence.wide _ trivial rfl (by omega) w.heap.size b nn D _ (by simp) (by simp) (by
      obtain ⟨es, clock, hb, Ft, hs, hD⟩ := hown
      exact ⟨es, clock, (Below.heap_alloc _ _ b hbl).trans hb, Ft, hs, hD⟩)
  have cS := AnyZI.sorted_in Try.sortedA Fence.wide 5 trivial trivial trivial trivial rfl (by omega) (sortsA _) (enters_of Try.func59 (by kernel_rfl) rfl) 60 #[.pointer (some ⟨w.heap.size, 0, none⟩)] trivial (enters_of Try.func60 (by kernel_rfl) rfl) _ _ (by unfold maxLen; omega) (by omega) _ hseq
  change CallsIn _ _ Try.prog 38 _ _ _ at cS
  refine (callsIn_wide.1 cS).mono ?_
  rintro e w' ⟨v, ss, rfl, hS, hrow, hnil, hb⟩
  refine ⟨v, rfl, ⟨w', ((Below.refl _ _).alloc (Nat.le_refl _) _).trans (hb.mono (by simp))⟩, rfl, ?_⟩
  have e1 := tells_sorted ht hk he hS
  unfold OwnI
  rw [← e1, List.length_mergeSort]
  have h2 := ownsRow_base_a hrow (show w.heap.size ≤ _ by simp)
  exact h2
end Go.Proofs.Ytnjloomhhgilcaa
