/- What a function that ranges over iterators in a loop leaves behind: a mark for each range. -/
import Derived.Test.YtajfepogecakbaaDoorBoxes
import Derived.Sort.LoopGhostIn
namespace Go.Proofs.YtajfepogecakbaaDoor
open Go.RowKit

/-- The marks of ranges that have ended. -/
structure Marks (ds : List Deferred) (S : BSet) (w V : World) : Prop where
  at_ : ∀ d, d ∈ ds → ∃ D, d = { target := .collected D, args := #[] } ∧ V.heap[D]? = some (.deferred (some [])) ∧ ¬ S D ∧ w.heap.size ≤ D
  nodup : ds.Nodup
theorem Marks.nil (S : BSet) (w V : World) : Marks [] S w V := ⟨fun d h => absurd h (List.not_mem_nil), List.nodup_nil⟩
section
variable {ds : List Deferred} {S T : BSet} {w V V' : World}
theorem Marks.stab (h : Marks ds S w V) (ht : Takes S T V V') (ho : Only S V V') : Marks ds T w V' := by
  refine ⟨fun d hd => ?_, h.nodup⟩
  obtain ⟨D, e, h1, h2, h3⟩ := h.at_ d hd
  have l := lt_of_get h1
  refine ⟨D, e, (ho.block _ l h2).trans h1, fun k => ?_, h3⟩
  rcases ht.2 _ k with q | q
  · exact h2 q
  · omega
/-- Worlds in which no mark is touched. -/
theorem Marks.move (h : Marks ds S w V) (hT : ∀ b, b < V.heap.size → T b → S b) (hk : ∀ b, b < V.heap.size → ¬ S b → V.heap[b]? = some (.deferred (some [])) → V'.heap[b]? = V.heap[b]?) : Marks ds T w V' := by
  refine ⟨fun d hd => ?_, h.nodup⟩
  obtain ⟨D, e, h1, h2, h3⟩ := h.at_ d hd
  have l := lt_of_get h1
  exact ⟨D, e, (hk _ l h2 h1).trans h1, fun k => h2 (hT _ l k), h3⟩
theorem Marks.later (h : Marks ds S w V) (x : Later V) : Marks ds S w x.val := h.stab (Takes.refl _ _) (Only.later x)
theorem Marks.set (h : Marks ds S w V) {b j : Nat} {v : Value} {cs : Array Value} {t : TypeId} {z : Nat × Nat} (hb : V.heap[b]? = some (.cells cs t z)) : Marks ds S w (V.setCell ⟨b, j, none⟩ v) :=
  h.move (fun _ _ k => k) fun D _ _ hD => Below.heap_setCell _ _ _ _ fun (e : D = b) => by rw [e, hb] at hD; cases hD
theorem Marks.cons (h : Marks ds S w V) {D : Nat} (hS : S D) (hD : V.heap[D]? = some (.deferred (some []))) (hw : w.heap.size ≤ D) : Marks ({ target := .collected D, args := #[] } :: ds) (fun _ => False) w V := by
  refine ⟨fun d hd => ?_, List.nodup_cons.2 ⟨fun hd => ?_, h.nodup⟩⟩
  · rcases List.mem_cons.1 hd with rfl | hd
    · exact ⟨D, rfl, hD, fun k => k, hw⟩
    · obtain ⟨D', e, h1, _, h3⟩ := h.at_ d hd
      exact ⟨D', e, h1, fun k => k, h3⟩
  · obtain ⟨D', e, h1, h2, h3⟩ := h.at_ _ hd
    simp only [Deferred.mk.injEq, Target.collected.injEq, and_true] at e
    rw [← e] at h2
    exact h2 hS
end
/-- At the end the marks are taken away, one after the other. -/
theorem leaves_marks {F : Fence} {n : Nat} {P : Program} {fn : Func} {tmps : Array Value} {R : Ending → World → Prop} {w : World} : ∀ (ds : List Deferred) (V : World), Marks ds (fun _ => False) w V → Below w.heap.size w V →
    (∀ V', Below w.heap.size w V' → (∀ (b : Nat) (cs : Array Value) (t : TypeId) (z : Nat × Nat), V.heap[b]? = some (.cells cs t z) → V'.heap[b]? = some (.cells cs t z)) → LeavesIn F n P fn tmps R [] .returning V') → LeavesInM F n P fn tmps R ds .returning V
  | [], V, _, hb, hR => hR V hb fun _ _ _ _ h => h
  | d :: ds, V, hm, hb, hR => by
    obtain ⟨D, rfl, h1, _, h3⟩ := hm.at_ _ (List.mem_cons_self ..)
    refine ⟨by simp, .inl ⟨D, _, rfl, run_takeDeferred h1, ?_⟩⟩
    have nd := List.nodup_cons.1 hm.nodup
    refine leaves_marks ds _ ⟨fun e he => ?_, nd.2⟩ ((Only.putObj (S := fun b => b = D) (.deferred none) rfl).below hb (fun b e => by omega) hb.size) fun V' hV' hk => hR V' hV' fun b cs t z hc => hk b cs t z ?_
    · obtain ⟨D', e', k1, _, k3⟩ := hm.at_ e (List.mem_cons_of_mem _ he)
      refine ⟨D', e', (World.putObj_heap_other (fun q => ?_)).trans k1, fun k => k, k3⟩
      rw [q] at e'
      exact nd.1 (e' ▸ he)
    · refine (World.putObj_heap_other (fun q => ?_)).trans hc
      rw [q, h1] at hc
      cases hc
end Go.Proofs.YtajfepogecakbaaDoor
