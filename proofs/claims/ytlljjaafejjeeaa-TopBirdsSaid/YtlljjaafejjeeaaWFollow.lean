/- wale's follow, worth and isChange. -/
import Derived.Test.YtlljjaafejjeeaaWale
namespace Go.Proofs.Ytlljjaafejjeeaa
open Go.RowKit

theorem inS_true {m : Nat} {x : Int} (h : inS m x = true) : ∃ i : Nat, x = i ∧ i < m := by
  simp only [inS, decide_eq_true_eq] at h
  exact ⟨x.toNat, by omega, by omega⟩
theorem inS_nat {m i : Nat} (h : i < m) : inS m (i : Int) = true := by simp [inS, h]
theorem box2 (w : World) (a b : Value) (t : TypeId) : (w.alloc (.cells #[a, b] t)).cell? ⟨w.heap.size, 0, none⟩ = some a ∧ (w.alloc (.cells #[a, b] t)).cell? ⟨w.heap.size, 1, none⟩ = some b ∧ w.heap.size < (w.alloc (.cells #[a, b] t)).heap.size :=
  ⟨cell_of_heap (World.alloc_heap_new _ _) 0 _ rfl, cell_of_heap (World.alloc_heap_new _ _) 1 _ rfl, by simp⟩

theorem box3 (w : World) (a b c : Value) (t : TypeId) : (w.alloc (.cells #[a, b, c] t)).cell? ⟨w.heap.size, 0, none⟩ = some a ∧ (w.alloc (.cells #[a, b, c] t)).cell? ⟨w.heap.size, 1, none⟩ = some b ∧ (w.alloc (.cells #[a, b, c] t)).cell? ⟨w.heap.size, 2, none⟩ = some c ∧ w.heap.size < (w.alloc (.cells #[a, b, c] t)).heap.size :=
  ⟨cell_of_heap (World.alloc_heap_new _ _) 0 _ rfl, cell_of_heap (World.alloc_heap_new _ _) 1 _ rfl, cell_of_heap (World.alloc_heap_new _ _) 2 _ rfl, by simp⟩
/-- Where the first k of a list of changes lead. -/
def fol (m : Nat) (f t : Nat → Nat) (c : Nat → Int) (start : Nat) : Nat → Option Nat
  | 0 => some start
  | k + 1 => match fol m f t c start k with
    | none => none
    | some a => if inS m (c k) = true ∧ f (c k).toNat = a then some (t (c k).toNat) else none
def folV : Option Nat → Value
  | some a => .tuple #[.int .i64 (a : Nat), .bool true]
  | none => .tuple #[.int .i64 0, .bool false]
theorem fol_none {m : Nat} {f t : Nat → Nat} {c : Nat → Int} {start j : Nat} (h : fol m f t c start j = none) : ∀ k, j ≤ k → fol m f t c start k = none := by
  intro k
  induction k with
  | zero => intro hk; obtain rfl : j = 0 := by omega
            exact h
  | succ k ih =>
    intro hk
    by_cases e : j = k + 1
    · subst e; exact h
    · rw [fol, ih (by omega)]

theorem wor_bd {V : Nat → Int} {c : Nat → Nat} {m : Nat} (hv : ∀ i, i < m → -1000 ≤ V i ∧ V i ≤ 1000) : ∀ k : Nat, (∀ i, i < k → c i < m) → -(1000 * (k : Int)) ≤ wor V c k ∧ wor V c k ≤ 1000 * (k : Int) := by
  intro k
  induction k with
  | zero => intro _; simp [wor]
  | succ k ih =>
    intro h
    have h1 := ih fun i hi => h i (by omega)
    have h2 := hv _ (h k (by omega))
    unfold wor
    omega
end Go.Proofs.Ytlljjaafejjeeaa
