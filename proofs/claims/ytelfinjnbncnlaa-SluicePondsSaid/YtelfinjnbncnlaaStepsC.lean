/- sluice.steps: what its search keeps in memory. -/
import Derived.Test.YtelfinjnbncnlaaQueue
import Derived.Test.YtelfinjnbncnlaaBfsMath
import Derived.Test.YtelfinjnbncnlaaRepeat
import Derived.Test.YtelfinjnbncnlaaSettle
namespace Go.Proofs.Ytelfinjnbncnlaa
open Go.RowKit

theorem lit_at {w : World} {v : Value} {t : TypeId} {sz : Nat} (h : w.heap.size = sz) : ∀ (j : Nat) (u : Value), [v][j]? = some u → (w.alloc (.cells #[v] t)).cell? ((⟨sz, 0, none⟩ : Addr).add j) = some u := by
  subst h; exact lit_news
theorem cellsI_nat (l : List Nat) (k : Nat) : cellsI (natN (l ++ [k])) = cellsI (natN l) ++ [.int .i64 (k : Int)] := by simp [cellsI, natN]
/-- The steps that are found, the queue, and the neighbours of the square that is under way. -/
structure SQ (VB V : World) (g c n : Nat) (o : List Int) (v : Value) (q : List Nat) (vN : Value) (l : List Nat) : Prop where
  below : Below VB.heap.size VB V
  out : OwnI V VB.heap.size (.slice (some ⟨g, 0, none⟩) n c) o
  que : tailRow V VB.heap.size 3 1 v q.length (cellsI (natN q))
  near : OwnI V VB.heap.size vN (natN l)
  d1 : ∀ t, v.ownBlock = some t → t ≠ g ∧ ∀ k, vN.ownBlock = some k → k ≠ t
  d2 : ∀ t, vN.ownBlock = some t → t ≠ g
section
variable {VB V : World} {g c n : Nat} {o : List Int} {v vN : Value} {q l : List Nat}
theorem SQ.to (h : SQ VB V g c n o v q vN l) {V' : World} (hb : Below V.heap.size V V') : SQ VB V' g c n o v q vN l :=
  ⟨below_more h.below hb, h.out.later ⟨V', hb⟩, tail_moved h.que fun t ht => hb.block _ (tail_lt h.que t ht).2, h.near.later ⟨V', hb⟩, h.d1, h.d2⟩
theorem SQ.put (h : SQ VB V g c n o v q vN l) (hl : o.length = n) (i : Nat) (x : Int) : SQ VB (V.setCell ⟨g, i, none⟩ (.int .i64 x)) g c n (o.set i x) v q vN l where
  below := h.below.setCell (p := ⟨g, i, none⟩) (own_lt h.out g rfl).1 _
  out := h.out.set hl i x
  que := tail_moved h.que fun t ht => Below.heap_setCell V _ _ t (h.d1 t ht).1
  near := h.near.far fun t ht e => h.d2 t ht e.symm
  d1 := h.d1
  d2 := h.d2
theorem SQ.push (h : SQ VB V g c n o v q vN l) {w5 : World} {v5 : Value} {ob : Obj} {k : Nat} (hg : (V.alloc ob).grownBy w5 v.ownBlock) (ho : tailRow w5 VB.heap.size 3 1 v5 (q.length + 1) (cellsI (natN q) ++ [.int .i64 k])) (hat : v5.ownBlock = v.ownBlock ∨ v5.ownBlock = some (V.heap.size + 1)) : SQ VB w5 g c n o v5 (q ++ [k]) vN l where
  below := (h.below.alloc h.below.size ob).grown hg (by have := h.below.size; simp; omega) fun k hk => (tail_lt h.que k hk).1
  out := World.ownsRow.kept (h.out.alloc ob) hg (.inr fun e2 => (h.d1 g (by rw [← e2]; rfl)).1 rfl)
  que := by rw [List.length_append, List.length_singleton, cellsI_nat]; exact ho
  near := World.ownsRow.kept (h.near.alloc ob) hg (by
    cases e : vN.ownBlock with
    | none => exact .inl rfl
    | some k => exact .inr fun e2 => (h.d1 k e2.symm).2 k e rfl)
  d1 t ht := by
    rcases hat with e | e
    · exact h.d1 t (by rw [← e]; exact ht)
    · rw [e] at ht
      have e3 : V.heap.size + 1 = t := by simpa using ht
      refine ⟨fun e4 => ?_, fun k hk e4 => ?_⟩
      · have := (own_lt h.out g rfl).2; omega
      · have := (own_lt h.near k hk).2; omega
  d2 := h.d2
/-- New neighbours. -/
theorem SQ.round (h : SQ VB V g c n o v q vN l) (x : Later V) {vM : Value} {m : List Nat} (hm : OwnI x.val V.heap.size vM (natN m)) : SQ VB x.val g c n o v q vM m where
  below := below_more h.below x.ok
  out := h.out.later x
  que := (h.to x.ok).que
  near := hm.mono h.below.size
  d1 t ht := ⟨(h.d1 t ht).1, fun k hk e => by have := (own_lt hm k hk).1; have := (tail_lt h.que t ht).2; omega⟩
  d2 t ht e := by have := (own_lt hm t ht).1; have := (own_lt h.out g rfl).2; omega
theorem SQ.drop (h : SQ VB V g c n o v q vN l) : SQ VB V g c n o v q (.slice none 0 0) [] :=
  ⟨h.below, h.out, h.que, OwnI.nil _ _, fun t ht => ⟨(h.d1 t ht).1, fun k hk => by simp [Value.ownBlock] at hk⟩, fun t ht => by simp [Value.ownBlock] at ht⟩
/-- The first square of the queue. -/
theorem SQ.head {a : Nat} (h : SQ VB V g c n o v (a :: q) vN l) : ∃ gq oq cq, v = .slice (some ⟨gq, oq, none⟩) (q.length + 1) cq ∧ q.length + 1 ≤ cq ∧ gq < V.heap.size ∧ V.cell? ⟨gq, oq, none⟩ = some (.int .i64 a) ∧ SQ VB V g c n o (.slice (some (if cq = 1 then ⟨gq, oq, none⟩ else ⟨gq, oq + 1, none⟩)) q.length (cq - 1)) q vN l := by
  have hq := h.que
  rw [List.length_cons] at hq
  obtain ⟨gq, oq, cq, rfl, h1, h2, h3, h4, h5, h6⟩ := tail_cells hq (by omega)
  refine ⟨gq, oq, cq, rfl, h1, h4, ?_, h.below, h.out, ?_, h.near, fun t ht => ?_, h.d2⟩
  · have := h6 0 (.int .i64 a) rfl
    simpa using this
  · have := tail_next hq (by omega) (by omega)
    simpa [natN, cellsI] using this
  · have e : t = gq := by
      by_cases c1 : cq = 1
      · rw [if_pos c1] at ht; simpa [Value.ownBlock, eq_comm] using ht
      · rw [if_neg c1] at ht; simpa [Value.ownBlock, eq_comm] using ht
    exact h.d1 t (by rw [e]; rfl)
end
/-- What steps answers. -/
def PostDi (w : World) (n : Nat) (nx : Nat → List Nat) (may : Nat → Bool) (src : List Nat) (e : Ending) (w' : World) : Prop :=
  ∃ v o, e = .returned v ∧ ∃ x : Later w, w' = x.val ∧ OwnI w' w.heap.size v o ∧ o.length = n ∧ Dist n nx may src fun i => o.getD i 0
end Go.Proofs.Ytelfinjnbncnlaa
