/- wale.Valid and what it calls; changes in memory. -/
import Derived.Test.YtlljjaafejjeeaaOwnI
import Derived.Test.YtlljjaafejjeeaaWaleMath
namespace Go.Proofs.Ytlljjaafejjeeaa
open Go.RowKit

/-- m changes from cell off of block b on. -/
structure Chs (w : World) (b off m : Nat) (F T V : Nat → Int) : Prop where
  lt : b < w.heap.size
  f : ∀ i, i < m → w.cell? ⟨b, off + i * 3, none⟩ = some (.int .i64 (F i))
  t : ∀ i, i < m → w.cell? ⟨b, off + i * 3 + 1, none⟩ = some (.int .i64 (T i))
  v : ∀ i, i < m → w.cell? ⟨b, off + i * 3 + 2, none⟩ = some (.int .i64 (V i))
theorem Chs.later {w : World} {b off m : Nat} {F T V : Nat → Int} (h : Chs w b off m F T V) (x : Later w) : Chs x.val b off m F T V :=
  ⟨Nat.lt_of_lt_of_le h.lt x.size, fun i hi => (x.cell _ _ h.lt).trans (h.f i hi), fun i hi => (x.cell _ _ h.lt).trans (h.t i hi), fun i hi => (x.cell _ _ h.lt).trans (h.v i hi)⟩
/-- A slice of changes. -/
structure IsChs (w : World) (A : Option Addr) (m : Nat) (F T V : Nat → Int) : Prop where
  small : m ≤ 9223372036854775807
  at_ : 0 < m → ∃ b off, A = some ⟨b, off, none⟩ ∧ Chs w b off m F T V
theorem IsChs.later {w : World} {A : Option Addr} {m : Nat} {F T V : Nat → Int} (h : IsChs w A m F T V) (x : Later w) : IsChs x.val A m F T V :=
  ⟨h.small, fun h0 => let ⟨b, off, e, hp⟩ := h.at_ h0; ⟨b, off, e, hp.later x⟩⟩

/-- Is it a state? -/
def inS (n x : Int) : Bool := decide (0 ≤ x ∧ x < n)
/-- Is a change as described? -/
def okC (n F T V : Int) : Bool := (inS n F && inS n T) && (decide (-1000 ≤ V) && decide (V ≤ 1000))
def validR (n : Int) (m : Nat) (F T V : Nat → Int) : Bool := (decide (1 ≤ n) && decide (n ≤ 8)) && (decide (m ≤ 40) && allB m fun i => okC n (F i) (T i) (V i))

theorem cell_of_heap {w : World} {b : Nat} {cs : Array Value} {t : TypeId} {z : Nat × Nat} (h : w.heap[b]? = some (.cells cs t z)) (i : Nat) (v : Value) (hi : cs[i]? = some v) : w.cell? ⟨b, i, none⟩ = some v := by
  simp [World.cell?, h, hi]
end Go.Proofs.Ytlljjaafejjeeaa
