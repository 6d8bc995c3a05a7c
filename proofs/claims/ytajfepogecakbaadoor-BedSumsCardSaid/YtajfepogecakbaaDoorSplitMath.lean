/- The words between one byte. -/
import Derived.Test.YtajfepogecakbaaDoorSeq
import Derived.Lib.IndexLaws
namespace Go.Proofs.YtajfepogecakbaaDoor
open Go.RowKit

/-- The pieces of a text between a byte. -/
def pieces (c : UInt8) : List UInt8 → List (List UInt8)
  | [] => [[]]
  | x :: r => if x = c then [] :: pieces c r else match pieces c r with
    | [] => [[x]]
    | p :: ps => (x :: p) :: ps
theorem pieces_ne (c : UInt8) : ∀ l, pieces c l ≠ []
  | [] => by simp [pieces]
  | x :: r => by
    unfold pieces
    split
    · simp
    · split <;> simp
theorem pieces_none {c : UInt8} : ∀ {l : List UInt8}, (∀ x ∈ l, x ≠ c) → pieces c l = [l]
  | [], _ => rfl
  | x :: r, h => by
    have ih := pieces_none (c := c) (l := r) fun y hy => h y (by simp [hy])
    unfold pieces
    rw [if_neg (h x (by simp)), ih]
theorem pieces_at {c : UInt8} : ∀ {a r : List UInt8}, (∀ x ∈ a, x ≠ c) → pieces c (a ++ c :: r) = a :: pieces c r
  | [], r, _ => by simp [pieces]
  | x :: a, r, h => by
    have ih := pieces_at (c := c) (a := a) (r := r) fun y hy => h y (by simp [hy])
    rw [List.cons_append]
    show (if x = c then [] :: pieces c (a ++ c :: r) else match pieces c (a ++ c :: r) with | [] => [[x]] | p :: ps => (x :: p) :: ps) = _
    rw [if_neg (h x (by simp)), ih]
theorem index_none {l : List UInt8} {c : UInt8} (h : Lib.indexByte l c < 0) : Lib.indexByte l c = -1 ∧ pieces c l = [l] := by
  have h1 := Lib.indexByte_ge l c
  have e : Lib.indexByte l c = -1 := by omega
  refine ⟨e, pieces_none fun x hx hc => ?_⟩
  obtain ⟨k, hk⟩ := List.getElem?_of_mem hx
  exact Lib.indexByte_none e k (hc ▸ hk)
theorem index_some {l : List UInt8} {c : UInt8} (h : 0 ≤ Lib.indexByte l c) : ∃ k : Nat, Lib.indexByte l c = k ∧ k < l.length ∧ pieces c l = l.take k :: pieces c (l.drop (k + 1)) := by
  obtain ⟨k, hk⟩ : ∃ k : Nat, Lib.indexByte l c = k := ⟨(Lib.indexByte l c).toNat, by omega⟩
  obtain ⟨h1, h2⟩ := Lib.indexByte_some hk
  obtain ⟨hl, he⟩ := List.getElem?_eq_some_iff.1 h1
  refine ⟨k, hk, hl, ?_⟩
  have e1 : l = l.take k ++ c :: l.drop (k + 1) := by
    rw [← he, List.getElem_cons_drop, List.take_append_drop]
  conv => lhs; rw [e1]
  refine pieces_at fun x hx hc => ?_
  obtain ⟨j, hj⟩ := List.getElem?_of_mem hx
  have hjl : j < k := by
    have := (List.getElem?_eq_some_iff.1 hj).1
    rw [List.length_take] at this
    omega
  rw [List.getElem?_take_of_lt hjl] at hj
  exact h2 j hjl (hc ▸ hj)
theorem bytes_take (l : List UInt8) (k : Nat) : (⟨l.toArray⟩ : ByteArray).extract 0 k = ⟨(l.take k).toArray⟩ := by
  apply ByteArray.ext
  rw [ByteArray.data_extract]
  simp
theorem bytes_drop (l : List UInt8) (k : Nat) (h : k ≤ l.length) : (⟨l.toArray⟩ : ByteArray).extract k l.length = ⟨(l.drop k).toArray⟩ := by
  apply ByteArray.ext
  rw [ByteArray.data_extract]
  simp
  rw [List.take_of_length_le (by simp)]
/-- The words of a text, as the iterator hands them. -/
def wordVals (l : List (List UInt8)) : List (Array Value) := l.map fun x => #[Value.string ⟨x.toArray⟩]
theorem wordVals_length (l : List (List UInt8)) : (wordVals l).length = l.length := by simp [wordVals]
theorem wordVals_get {l : List (List UInt8)} {k : Nat} {x : List UInt8} (h : l[k]? = some x) : (wordVals l).getD k #[] = #[Value.string ⟨x.toArray⟩] := by
  unfold wordVals
  rw [List.getD_eq_getElem?_getD, List.getElem?_map, h]; rfl
theorem drop_head {α : Type} {l : List α} {k : Nat} {x : α} {r : List α} (h : l.drop k = x :: r) : l[k]? = some x ∧ l.drop (k + 1) = r ∧ k < l.length := by
  have h1 : k < l.length := by
    rcases Nat.lt_or_ge k l.length with h' | h'
    · exact h'
    · rw [List.drop_eq_nil_of_le h'] at h; cases h
  rw [List.drop_eq_getElem_cons h1] at h
  obtain ⟨h2, h3⟩ := List.cons.inj h
  exact ⟨by rw [List.getElem?_eq_getElem h1, h2], h3, h1⟩
end Go.Proofs.YtajfepogecakbaaDoor
