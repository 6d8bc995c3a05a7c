/- What a walk that ranges over an iterator keeps of its own blocks. -/
import Derived.Test.YtajfepogecakbaaDoorNbrs
import Derived.Test.YtajfepogecakbaaDoorOwnI
namespace Go.Proofs.YtajfepogecakbaaDoor
open Go.RowKit

theorem lt_of_get {w : World} {b : Nat} {o : Obj} (h : w.heap[b]? = some o) : b < w.heap.size := (Array.getElem?_eq_some_iff.1 h).1
/-- The blocks of L lie as told, none of them is the iterator's; what was there at w lies as it lay. -/
structure Boxes (L : List (Nat × Obj)) (S : BSet) (w V : World) : Prop where
  at_ : ∀ p, p ∈ L → V.heap[p.1]? = some p.2 ∧ ¬ S p.1
  below : Below w.heap.size w V
  own : ∀ b, S b → w.heap.size ≤ b ∧ b < V.heap.size
section
variable {L : List (Nat × Obj)} {S T : BSet} {w V V' : World}
theorem Boxes.stab (h : Boxes L S w V) (ht : Takes S T V V') (ho : Only S V V') : Boxes L T w V' := by
  refine ⟨fun p hp => ?_, ho.below h.below (fun b hb => (h.own b hb).1) h.below.size, fun b hb => ?_⟩
  · obtain ⟨h1, h2⟩ := h.at_ p hp
    have l := lt_of_get h1
    refine ⟨(ho.block _ l h2).trans h1, fun k => ?_⟩
    rcases ht.2 _ k with q | q
    · exact h2 q
    · omega
  · have := ho.size
    have := h.below.size
    rcases ht.2 _ hb with q | q
    · have := h.own b q; omega
    · omega
theorem Boxes.later (h : Boxes L S w V) (x : Later V) : Boxes L S w x.val := h.stab (Takes.refl _ _) (Only.later x)
/-- Blocks of one's own are written, or made. -/
theorem Boxes.turn {L' : List (Nat × Obj)} (h : Boxes L S w V) (hb : Below w.heap.size w V') (hs : V.heap.size ≤ V'.heap.size) (ha : ∀ p, p ∈ L' → V'.heap[p.1]? = some p.2 ∧ ¬ S p.1) : Boxes L' S w V' :=
  ⟨ha, hb, fun b k => by have := h.own b k; omega⟩
theorem Boxes.get (h : Boxes L S w V) {b : Nat} {o : Obj} (hm : (b, o) ∈ L) : V.heap[b]? = some o := (h.at_ _ hm).1
theorem Boxes.no (h : Boxes L S w V) {b : Nat} {o : Obj} (hm : (b, o) ∈ L) : ¬ S b := (h.at_ _ hm).2
/-- One cell of one block is written. -/
theorem Boxes.set1 {b : Nat} {u v : Value} {t : TypeId} (h : Boxes ((b, .cells #[u] t (0, 0)) :: L) S w V) (hb : w.heap.size ≤ b) (hL : ∀ p, p ∈ L → p.1 ≠ b) : Boxes ((b, .cells #[v] t (0, 0)) :: L) S w (V.setCell ⟨b, 0, none⟩ v) := by
  refine h.turn (h.below.setCell (p := ⟨b, 0, none⟩) hb v) (KeepsWalks.setCell _ _ _).size fun p hp => ?_
  rcases List.mem_cons.1 hp with rfl | hp
  · exact ⟨one_setCell (h.get (List.mem_cons_self ..)), h.no (List.mem_cons_self ..)⟩
  · obtain ⟨h1, h2⟩ := h.at_ p (List.mem_cons_of_mem _ hp)
    exact ⟨(Below.heap_setCell V _ v _ (hL p hp)).trans h1, h2⟩
/-- The iterator's block D is put back. -/
theorem Boxes.put (h : Boxes L S w V) {D : Nat} (hD : S D) (o : Obj) : Boxes L S w (V.putObj D o) :=
  h.stab (Takes.refl _ _) (Only.putObj o hD)
end
theorem get_alloc (w : World) (o : Obj) (b : Nat) : (w.alloc o).heap[b]? = if b = w.heap.size then some o else w.heap[b]? := by
  by_cases h : b = w.heap.size
  · subst h; rw [if_pos rfl]; exact World.alloc_heap_new w o
  · rw [if_neg h]
    rcases Nat.lt_or_ge b w.heap.size with hl | hl
    · exact Below.heap_alloc w o b hl
    · rw [Array.getElem?_eq_none hl, Array.getElem?_eq_none]; simp; omega
/-- The k-th of a list (a name of its own: a walk leaves it as it stands). -/
def nthL (l : List Nat) (k : Nat) : Nat := l.getD k 0
theorem valsOf_at {l : List Nat} {k : Nat} (h : k < l.length) : (valsOf l).getD k #[] = #[Value.int .i64 (nthL l k : Nat)] := by
  rw [valsOf_get (List.getElem?_eq_getElem h), nthL, List.getD_eq_getElem?_getD, List.getElem?_eq_getElem h]; rfl
theorem nthL_at {l : List Nat} {k : Nat} (h : k < l.length) : l[k]? = some (nthL l k) := by
  rw [nthL, List.getD_eq_getElem?_getD, List.getElem?_eq_getElem h]; rfl
theorem valsOf_size {l : List Nat} {k : Nat} (h : k < (valsOf l).length) : ((valsOf l).getD k #[]).size = 1 := by
  rw [valsOf_at (by rwa [valsOf_length] at h)]; rfl
end Go.Proofs.YtajfepogecakbaaDoor
