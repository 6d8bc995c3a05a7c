/- The document's own text of a number in three units. -/
import Derived.Test.YticjjikodignfaaDoorDec
namespace Go.Proofs.YticjjikodignfaaDoor
open Go.RowKit

def bA (l : UInt8) : ByteArray := ⟨#[l]⟩
theorem text_at (la lb lc : UInt8) (s0 s1 n : Int) (h0 : 1 ≤ s0) (h1 : 1 ≤ s1) (g0 : s0 ≤ 100000) (g1 : s1 ≤ 100000) (k : Nat) (hk : k < 3) :
    ∃ (l : UInt8) (s : Int), 1 ≤ s ∧ s ≤ 100000 ∧ (∀ w : World, (w.alloc (.cells #[.int .i64 s0, .int .i64 s1, .int .i64 1] 3)).cell? ⟨w.heap.size, k, none⟩ = some (.int .i64 s)) ∧
      (⟨#[la, lb, lc]⟩ : ByteArray).extract k (k + 1) = ⟨#[l]⟩ ∧
      restOf s0 s1 n (k + 1) = restOf s0 s1 n k % s ∧ wordsTo (bA la) (bA lb) (bA lc) s0 s1 n (k + 1) = wordsTo (bA la) (bA lb) (bA lc) s0 s1 n k ++ word (bA l) s (restOf s0 s1 n k) := by
  have hk' : k = 0 ∨ k = 1 ∨ k = 2 := by omega
  rcases hk' with rfl | rfl | rfl
  · exact ⟨la, s0, h0, g0, fun w => by simp, by apply ByteArray.ext; rw [ByteArray.data_extract]; simp, rfl, by simp [wordsTo, restOf]⟩
  · exact ⟨lb, s1, h1, g1, fun w => by simp, by apply ByteArray.ext; rw [ByteArray.data_extract]; simp, rfl, by simp [wordsTo, restOf]⟩
  · exact ⟨lc, 1, by omega, by omega, fun w => by simp, by apply ByteArray.ext; rw [ByteArray.data_extract]; simp, by simp [restOf], by simp [wordsTo, restOf]⟩

theorem join_snoc (ws : List (List UInt8)) (x : List UInt8) : Lib.join (ws ++ [x]) [32] = if ws = [] then x else Lib.join ws [32] ++ [32] ++ x := by
  cases ws with
  | nil => simp [Lib.join_one]
  | cons a r =>
    rw [List.cons_append, Lib.join_cons, Lib.join_cons, if_neg (by simp)]
    simp [Lib.joinTail]
theorem words_some (la lb lc : ByteArray) (s0 s1 n : Int) (k : Nat) : ∀ x ∈ wordsTo la lb lc s0 s1 n k, x ≠ [] := by
  have hw : ∀ (l : ByteArray) (s m : Int), ∀ x ∈ word l s m, x ≠ [] := by
    intro l s m x hx
    unfold word at hx
    split at hx
    · obtain rfl : x = Lib.itoa (m / s) ++ l.data.toList := by simpa using hx
      intro e
      have : Lib.itoa (m / s) = [] := (List.append_eq_nil_iff.1 e).1
      unfold Lib.itoa at this
      split at this
      · cases this
      · unfold Lib.decDigits at this
        split at this <;> simp at this
    · cases hx
  intro x hx
  match k with
  | 0 => cases hx
  | 1 => exact hw _ _ _ x hx
  | 2 =>
    simp only [wordsTo, List.mem_append] at hx
    rcases hx with hx | hx <;> exact hw _ _ _ x hx
  | _ + 3 =>
    simp only [wordsTo, List.mem_append] at hx
    rcases hx with (hx | hx) | hx <;> exact hw _ _ _ x hx
theorem join_empty {ws : List (List UInt8)} (h : ∀ x ∈ ws, x ≠ []) : Lib.join ws [32] = [] ↔ ws = [] := by
  cases ws with
  | nil => simp [Lib.join_nil]
  | cons a r =>
    rw [Lib.join_cons]
    have := h a (by simp)
    simp [this]
theorem words_none {la lb lc : ByteArray} {s0 s1 n : Int} (h0 : 1 ≤ s0) (h1 : 1 ≤ s1) (hn : 0 ≤ n) : wordsTo la lb lc s0 s1 n 3 = [] ↔ n = 0 := by
  simp only [wordsTo, word]
  constructor
  · intro h
    simp only [List.append_eq_nil_iff] at h
    obtain ⟨⟨e1, e2⟩, e3⟩ := h
    have f1 : n < s0 := by
      rcases Int.lt_or_le n s0 with h | h
      · exact h
      · rw [if_pos h] at e1; cases e1
    rw [Int.emod_eq_of_lt hn f1] at e2 e3
    have f2 : n < s1 := by
      rcases Int.lt_or_le n s1 with h | h
      · exact h
      · rw [if_pos h] at e2; cases e2
    rw [Int.emod_eq_of_lt hn f2] at e3
    rcases Int.lt_or_le n 1 with h | h
    · omega
    · rw [if_pos h] at e3; cases e3
  · rintro rfl
    have : (0 : Int) % s0 = 0 := Int.zero_emod _
    rw [this, Int.zero_emod, if_neg (by omega), if_neg (by omega), if_neg (by omega)]
    rfl

/-- The text so far. -/
def soFar (la lb lc : UInt8) (s0 s1 n : Int) (k : Nat) : List UInt8 := Lib.join (wordsTo (bA la) (bA lb) (bA lc) s0 s1 n k) [32]
theorem soFar_nil {la lb lc : UInt8} {s0 s1 n : Int} {k : Nat} : soFar la lb lc s0 s1 n k = [] ↔ wordsTo (bA la) (bA lb) (bA lc) s0 s1 n k = [] := join_empty (words_some _ _ _ _ _ _ _)
theorem dec_itoa {n : Int} (h : 0 ≤ n) : Lib.decDigits n.toNat = Lib.itoa n := by unfold Lib.itoa; rw [if_neg (by omega)]
theorem itoa_some {n : Int} (h : 0 ≤ n) : Lib.itoa n ≠ [] := by
  unfold Lib.itoa
  rw [if_neg (by omega)]
  unfold Lib.decDigits
  split <;> simp
end Go.Proofs.YticjjikodignfaaDoor
