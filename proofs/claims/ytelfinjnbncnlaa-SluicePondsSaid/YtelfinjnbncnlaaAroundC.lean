/- The iterators of package bed: what they give out, whatever the rounds do. -/
import Derived.Test.YtelfinjnbncnlaaSeqRegion
import Derived.Test.YtelfinjnbncnlaaMap
import Derived.Deep.QuietTactic
import Derived.BigQuiet
import Derived.Outline
namespace Go.Proofs.Ytelfinjnbncnlaa
open Go.RowKit
attribute [local go_sem] Oper.semAt_some

theorem fm_split {α β : Type} (f : α → Option β) : ∀ (l : List α) (r : List α), (l ++ r).filterMap f = l.filterMap f ++ r.filterMap f := fun l r => List.filterMap_append
/-- How many are given out before place p. -/
def cntP (W H at_ p : Nat) : Nat := ((List.range p).filterMap (pickP W H at_)).length
theorem cntP_step {W H at_ p : Nat} : cntP W H at_ (p + 1) = cntP W H at_ p + if okP W H at_ p then 1 else 0 := by
  unfold cntP
  rw [List.range_succ, List.filterMap_append, List.length_append]
  unfold pickP
  cases h : okP W H at_ p <;> simp [h]
theorem range_split {p n : Nat} (h : p < n) : List.range n = List.range p ++ p :: (List.range (n - 1 - p)).map (fun j => p + 1 + j) := by
  apply List.ext_getElem
  · simp; omega
  · intro i h1 h2
    simp only [List.getElem_range, List.getElem_append, List.length_range]
    split
    · rfl
    · simp only [List.getElem_cons]
      split
      · omega
      · simp; omega
theorem aroundL_get {W H at_ p : Nat} (hp : p < 9) (hk : okP W H at_ p = true) : cntP W H at_ p < (aroundL W H at_).length ∧ (aroundL W H at_)[cntP W H at_ p]? = some (idP W at_ p) := by
  have e : aroundL W H at_ = (List.range p).filterMap (pickP W H at_) ++ (idP W at_ p :: ((List.range (9 - 1 - p)).map fun j => p + 1 + j).filterMap (pickP W H at_)) := by
    unfold aroundL
    rw [range_split hp, List.filterMap_append, List.filterMap_cons]
    have : pickP W H at_ p = some (idP W at_ p) := by unfold pickP; rw [if_pos hk]
    rw [this]
  unfold cntP
  rw [e]
  constructor
  · simp
  · rw [List.getElem?_append_right (Nat.le_refl _), Nat.sub_self]; rfl
/-- The values that are given out. -/
def valsOf (l : List Nat) : List (Array Value) := l.map fun (x : Nat) => #[Value.int .i64 x]
theorem valsOf_get {l : List Nat} {k x : Nat} (h : l[k]? = some x) : (valsOf l).getD k #[] = #[Value.int .i64 x] := by
  unfold valsOf
  rw [List.getD_eq_getElem?_getD, List.getElem?_map, h]; rfl
theorem valsOf_length (l : List Nat) : (valsOf l).length = l.length := by simp [valsOf]

theorem cell_of_heap {w : World} {b : Nat} {cs : Array Value} {t : TypeId} {z : Nat × Nat} (h : w.heap[b]? = some (.cells cs t z)) (i : Nat) (v : Value) (hi : cs[i]? = some v) : w.cell? ⟨b, i, none⟩ = some v := by
  simp [World.cell?, h, hi]

end Go.Proofs.Ytelfinjnbncnlaa
