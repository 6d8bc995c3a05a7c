/- Nests in memory; wader's areNests and closed, the document's Nests and closed: walked. -/
import Derived.Test.YtlljjaafejjeeaaKValid
namespace Go.Proofs.Ytlljjaafejjeeaa
open Go.RowKit

/-- m nests from cell off of block b on. -/
structure Nsts (w : World) (b off m : Nat) (X Y F T R : Nat → Int) : Prop where
  lt : b < w.heap.size
  x : ∀ i, i < m → w.cell? ⟨b, off + i * 5, none⟩ = some (.int .i64 (X i))
  y : ∀ i, i < m → w.cell? ⟨b, off + i * 5 + 1, none⟩ = some (.int .i64 (Y i))
  f : ∀ i, i < m → w.cell? ⟨b, off + i * 5 + 2, none⟩ = some (.int .i64 (F i))
  t : ∀ i, i < m → w.cell? ⟨b, off + i * 5 + 3, none⟩ = some (.int .i64 (T i))
  r : ∀ i, i < m → w.cell? ⟨b, off + i * 5 + 4, none⟩ = some (.int .i64 (R i))
theorem Nsts.later {w : World} {b off m : Nat} {X Y F T R : Nat → Int} (h : Nsts w b off m X Y F T R) (x : Later w) : Nsts x.val b off m X Y F T R :=
  ⟨Nat.lt_of_lt_of_le h.lt x.size, fun i hi => (x.cell _ _ h.lt).trans (h.x i hi), fun i hi => (x.cell _ _ h.lt).trans (h.y i hi), fun i hi => (x.cell _ _ h.lt).trans (h.f i hi), fun i hi => (x.cell _ _ h.lt).trans (h.t i hi), fun i hi => (x.cell _ _ h.lt).trans (h.r i hi)⟩
structure IsNsts (w : World) (A : Option Addr) (m : Nat) (X Y F T R : Nat → Int) : Prop where
  small : m ≤ 9223372036854775807
  at_ : 0 < m → ∃ b off, A = some ⟨b, off, none⟩ ∧ Nsts w b off m X Y F T R
theorem IsNsts.later {w : World} {A : Option Addr} {m : Nat} {X Y F T R : Nat → Int} (h : IsNsts w A m X Y F T R) (x : Later w) : IsNsts x.val A m X Y F T R :=
  ⟨h.small, fun h0 => let ⟨b, off, e, hp⟩ := h.at_ h0; ⟨b, off, e, hp.later x⟩⟩
theorem IsNsts.below {w V : World} {A : Option Addr} {m : Nat} {X Y F T R : Nat → Int} (h : IsNsts w A m X Y F T R) (hb : Below w.heap.size w V) : IsNsts V A m X Y F T R := h.later ⟨V, hb⟩
def dayB (x : Int) : Bool := decide (0 ≤ x) && decide (x ≤ 10000)
def placeB (x y : Int) : Bool := (decide (-1000 ≤ x) && decide (x ≤ 1000)) && (decide (-1000 ≤ y) && decide (y ≤ 1000))
/-- Is a nest as described? -/
def okN (x y f t r : Int) : Bool := placeB x y && (dayB f && (dayB t && (decide (f ≤ t) && (decide (0 ≤ r) && decide (r ≤ 100)))))
/-- Does a nest close a square on a day? -/
def shutB (x y f t r ax ay d : Int) : Bool := (decide (f ≤ d) && decide (d ≤ t)) && decide (awayZ x y ax ay ≤ r)
/-- Is one of m so? -/
def anyN (m : Nat) (p : Nat → Bool) : Bool := !allB m fun i => !p i
theorem anyN_iff {m : Nat} {p : Nat → Bool} : anyN m p = true ↔ ∃ i, i < m ∧ p i = true := by
  unfold anyN
  cases h : allB m fun i => !p i
  · simp only [Bool.not_false, true_iff]
    exact Classical.byContradiction fun hn => by
      have : (allB m fun i => !p i) = true := allB_iff.2 fun i hi => by
        cases e : p i
        · rfl
        · exact absurd ⟨i, hi, e⟩ hn
      rw [h] at this
      cases this
  · simp only [Bool.not_true, Bool.false_eq_true, false_iff]
    rintro ⟨i, hi, e⟩
    have := allB_iff.1 h i hi
    rw [e] at this
    cases this
theorem anyN_no {m : Nat} {p : Nat → Bool} (h : ∀ i, i < m → p i = false) : anyN m p = false := by
  cases e : anyN m p
  · rfl
  · obtain ⟨i, hi, hp⟩ := anyN_iff.1 e
    rw [h i hi] at hp
    cases hp
theorem box5 (w : World) (a b c d e : Value) (t : TypeId) : (w.alloc (.cells #[a, b, c, d, e] t)).cell? ⟨w.heap.size, 0, none⟩ = some a ∧ (w.alloc (.cells #[a, b, c, d, e] t)).cell? ⟨w.heap.size, 1, none⟩ = some b ∧ (w.alloc (.cells #[a, b, c, d, e] t)).cell? ⟨w.heap.size, 2, none⟩ = some c ∧ (w.alloc (.cells #[a, b, c, d, e] t)).cell? ⟨w.heap.size, 3, none⟩ = some d ∧ (w.alloc (.cells #[a, b, c, d, e] t)).cell? ⟨w.heap.size, 4, none⟩ = some e ∧ w.heap.size < (w.alloc (.cells #[a, b, c, d, e] t)).heap.size :=
  ⟨cell_of_heap (World.alloc_heap_new _ _) 0 _ rfl, cell_of_heap (World.alloc_heap_new _ _) 1 _ rfl, cell_of_heap (World.alloc_heap_new _ _) 2 _ rfl, cell_of_heap (World.alloc_heap_new _ _) 3 _ rfl, cell_of_heap (World.alloc_heap_new _ _) 4 _ rfl, by simp⟩
theorem awayZ_comm (x y u v : Int) : awayZ x y u v = awayZ u v x y := by unfold awayZ; omega
def nestsB (m : Nat) (X Y F T R : Nat → Int) : Bool := decide (m ≤ 50) && allB m fun i => okN (X i) (Y i) (F i) (T i) (R i)
theorem anyN_not (m : Nat) (p : Nat → Bool) : anyN m (fun i => !p i) = !allB m p := by
  unfold anyN
  congr 2
  funext i
  simp
/-- Is a square closed on a day? -/
def shutN (m : Nat) (X Y F T R : Nat → Int) (ax ay d : Int) : Bool := anyN m fun i => shutB (X i) (Y i) (F i) (T i) (R i) ax ay d
theorem nests_facts {m : Nat} {X Y F T R : Nat → Int} (h : nestsB m X Y F T R = true) : m ≤ 50 ∧ ∀ i, i < m → okN (X i) (Y i) (F i) (T i) (R i) = true := by
  unfold nestsB at h
  simp only [Bool.and_eq_true, decide_eq_true_eq] at h
  exact ⟨h.1, fun i hi => allB_iff.1 h.2 i hi⟩
theorem okN_place {x y f t r : Int} (h : okN x y f t r = true) : placeB x y = true := by
  unfold okN at h
  simp only [Bool.and_eq_true] at h
  exact h.1
end Go.Proofs.Ytlljjaafejjeeaa
