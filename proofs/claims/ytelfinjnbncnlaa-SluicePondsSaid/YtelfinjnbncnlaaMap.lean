/- Maps: a row of squares; which squares are within; what stands around a square. -/
import Derived.Test.YtelfinjnbncnlaaBase
namespace Go.Proofs.Ytelfinjnbncnlaa
open Go.RowKit

/-- n whole numbers from cell off of block b on. -/
structure Ints (w : World) (b off n : Nat) (f : Nat → Int) : Prop where
  lt : b < w.heap.size
  at_ : ∀ i, i < n → w.cell? ⟨b, off + i, none⟩ = some (.int .i64 (f i))
theorem Ints.later {w : World} {b off n : Nat} {f : Nat → Int} (h : Ints w b off n f) (x : Later w) : Ints x.val b off n f :=
  ⟨Nat.lt_of_lt_of_le h.lt x.size, fun i hi => (x.cell _ _ h.lt).trans (h.at_ i hi)⟩
/-- A slice that came in: n numbers, none of them at the nil slice. -/
structure IsInts (w : World) (A : Option Addr) (n : Nat) (f : Nat → Int) : Prop where
  small : n ≤ 9223372036854775807
  at_ : 0 < n → ∃ b off, A = some ⟨b, off, none⟩ ∧ Ints w b off n f
theorem IsInts.later {w : World} {A : Option Addr} {n : Nat} {f : Nat → Int} (h : IsInts w A n f) (x : Later w) : IsInts x.val A n f :=
  ⟨h.small, fun h0 => let ⟨b, off, e, hp⟩ := h.at_ h0; ⟨b, off, e, hp.later x⟩⟩

/-- All of the first n. -/
def allB (n : Nat) (p : Nat → Bool) : Bool := (List.range n).all p
theorem allB_true {n : Nat} {p : Nat → Bool} (h : ∀ i, i < n → p i = true) : allB n p = true := by
  unfold allB; rw [List.all_eq_true]; intro x hx; exact h x (List.mem_range.1 hx)
theorem allB_false {n k : Nat} {p : Nat → Bool} (hk : k < n) (h : p k = false) : allB n p = false := by
  unfold allB; rw [List.all_eq_false]; exact ⟨k, List.mem_range.2 hk, by rw [h]; decide⟩
theorem allB_iff {n : Nat} {p : Nat → Bool} : allB n p = true ↔ ∀ i, i < n → p i = true := by
  unfold allB; rw [List.all_eq_true]; exact ⟨fun h i hi => h i (List.mem_range.2 hi), fun h x hx => h x (List.mem_range.1 hx)⟩
theorem all_step {p : Nat → Bool} {k : Nat} (h : ∀ j, j < k → p j = true) (hk : p k = true) : ∀ j, j < k + 1 → p j = true := fun j hj => by
  rcases Nat.lt_or_ge j k with h1 | h1
  · exact h j h1
  · obtain rfl : j = k := by omega
    exact hk
/-- How many of the first n. -/
def cntB (n : Nat) (p : Nat → Bool) : Nat := ((List.range n).filter p).length
theorem cntB_succ (n : Nat) (p : Nat → Bool) : cntB (n + 1) p = cntB n p + if p n then 1 else 0 := by
  unfold cntB
  rw [List.range_succ, List.filter_append, List.length_append]
  cases h : p n <;> simp [h]
theorem cntB_le (n : Nat) (p : Nat → Bool) : cntB n p ≤ n := by
  have := List.length_filter_le p (List.range n)
  simpa [cntB] using this
theorem cntB_all {n : Nat} {p : Nat → Bool} : cntB n p = n ↔ allB n p = true := by
  induction n with
  | zero => simp [cntB, allB]
  | succ n ih =>
    rw [cntB_succ, allB_iff]
    have := cntB_le n p
    constructor
    · intro h
      have h1 : p n = true := by
        cases e : p n with
        | true => rfl
        | false => rw [e] at h; simp at h; omega
      rw [h1, if_pos rfl] at h
      exact all_step (allB_iff.1 (ih.1 (by omega))) h1
    · intro h
      rw [h n (by omega), if_pos rfl, ih.2 (allB_true fun i hi => h i (by omega))]

def sideB (n : Int) : Bool := decide (1 ≤ n) && decide (n ≤ 30)
def kindB (k : Int) : Bool := decide (1 ≤ k) && decide (k ≤ 4)
def insB (W H : Nat) (x y : Int) : Bool := decide (0 ≤ x ∧ x < W ∧ 0 ≤ y ∧ y < H)
theorem sideB_iff {n : Int} : sideB n = true ↔ 1 ≤ n ∧ n ≤ 30 := by simp [sideB]
theorem kindB_iff {n : Int} : kindB n = true ↔ 1 ≤ n ∧ n ≤ 4 := by simp [kindB]

/-- A map's value. -/
def mapV (W H : Int) (A : Option Addr) (n cap : Nat) : Value := .agg #[.int .i64 W, .int .i64 H, .slice A n cap]

section
variable (W H at_ : Nat)
def plX (p : Nat) : Int := (at_ : Int) % (W : Int) + (p : Int) % 3 - 1
def plY (p : Nat) : Int := (at_ : Int) / (W : Int) + (p : Int) / 3 - 1
def okP (p : Nat) : Bool := p != 4 && insB W H (plX W at_ p) (plY W at_ p)
def idP (p : Nat) : Nat := (plY W at_ p * W + plX W at_ p).toNat
def pickP (p : Nat) : Option Nat := if okP W H at_ p then some (idP W at_ p) else none
/-- The squares around, in their order. -/
def aroundL : List Nat := (List.range 9).filterMap (pickP W H at_)
def beside (near : Nat) : Bool := near % W == at_ % W || near / W == at_ / W
/-- The neighbours, in their order. -/
def nbrs : List Nat := (aroundL W H at_).filter (beside W at_)
end
end Go.Proofs.Ytelfinjnbncnlaa
