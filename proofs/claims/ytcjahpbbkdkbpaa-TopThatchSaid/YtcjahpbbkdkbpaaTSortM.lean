/- Plain mathematics of sorting by insertion. -/
import Derived.Test.YtcjahpbbkdkbpaaBase
namespace Go.Proofs.Ytcjahpbbkdkbpaa

def at_ (l : List Int) (i : Nat) : Int := l.getD i 0
def swp (l : List Int) (j : Nat) : List Int := (l.set j (at_ l (j - 1))).set (j - 1) (at_ l j)
theorem at_set {l : List Int} {i j : Nat} {x : Int} (hi : i < l.length) : at_ (l.set i x) j = if j = i then x else at_ l j := by
  unfold at_
  rw [List.getD_eq_getElem?_getD, List.getElem?_set, List.getD_eq_getElem?_getD]
  by_cases e : i = j
  · subst e; rw [if_pos rfl, if_pos rfl, if_pos hi]; rfl
  · rw [if_neg e, if_neg (by omega)]
theorem swp_length (l : List Int) (j : Nat) : (swp l j).length = l.length := by simp [swp]
theorem swp_at {l : List Int} {j p : Nat} (h0 : 0 < j) (hj : j < l.length) : at_ (swp l j) p = if p = j - 1 then at_ l j else if p = j then at_ l (j - 1) else at_ l p := by
  unfold swp
  rw [at_set (by rw [List.length_set]; omega), at_set hj]
theorem swp_perm {l : List Int} {j : Nat} (h0 : 0 < j) (hj : j < l.length) : (swp l j).Perm l := by
  rw [List.perm_iff_count]
  intro a
  have e1 : at_ l (j - 1) = l[j - 1] := by simp [at_, List.getD_eq_getElem?_getD, List.getElem?_eq_getElem (show j - 1 < l.length by omega)]
  have e2 : at_ l j = l[j] := by simp [at_, List.getD_eq_getElem?_getD, List.getElem?_eq_getElem hj]
  have hj1 : j - 1 < l.length := by omega
  have hj2 : j - 1 < (l.set j (at_ l (j - 1))).length := by rw [List.length_set]; exact hj1
  have hne : (l.set j (at_ l (j - 1)))[j - 1]'hj2 = l[j - 1]'hj1 := by
    have hjne : j ≠ j - 1 := by omega
    exact List.getElem_set_ne hjne hj2
  unfold swp
  rw [List.count_set (by rw [List.length_set]; omega), List.count_set hj, hne, e1, e2]
  have c1 : (if l[j] == a then 1 else 0) ≤ l.count a := by
    split
    · rename_i h
      have : a ∈ l := by rw [← (by simpa using h : l[j] = a)]; exact List.getElem_mem _
      exact List.count_pos_iff.2 this
    · omega
  generalize (if l[j] == a then 1 else 0) = y at *
  generalize (if l[j - 1] == a then 1 else 0) = x at *
  omega
def Srt (kf : Int → Int) (l : List Int) (i : Nat) : Prop := ∀ p q, p < q → q < i → kf (at_ l q) ≤ kf (at_ l p)
def InvS (kf : Int → Int) (l : List Int) (i j : Nat) : Prop := ∀ p q, p < q → q ≤ i → q ≠ j → kf (at_ l q) ≤ kf (at_ l p)
theorem InvS.start {kf : Int → Int} {l : List Int} {i : Nat} (h : Srt kf l i) : InvS kf l i i := fun p q h1 h2 h3 => h p q h1 (by omega)
theorem InvS.step {kf : Int → Int} {l : List Int} {i j : Nat} (h : InvS kf l i j) (h0 : 0 < j) (hji : j ≤ i) (hi : i < l.length) (hlt : kf (at_ l (j - 1)) < kf (at_ l j)) : InvS kf (swp l j) i (j - 1) := by
  intro p q hpq hq hne
  rw [swp_at h0 (by omega), swp_at h0 (by omega), if_neg hne]
  by_cases hqj : q = j
  · subst hqj
    rw [if_pos rfl]
    by_cases hp : p = q - 1
    · rw [if_pos hp]; omega
    · rw [if_neg hp, if_neg (by omega)]
      exact h p (q - 1) (by omega) (by omega) (by omega)
  · rw [if_neg hqj]
    by_cases hp : p = j - 1
    · rw [if_pos hp]
      have : j < q := by omega
      exact h j q this hq hqj
    · rw [if_neg hp]
      by_cases hpj : p = j
      · rw [if_pos hpj]
        exact h (j - 1) q (by omega) hq hqj
      · rw [if_neg hpj]
        exact h p q hpq hq hqj
theorem InvS.stop {kf : Int → Int} {l : List Int} {i j : Nat} (h : InvS kf l i j) (hji : j ≤ i) (hs : j = 0 ∨ kf (at_ l j) ≤ kf (at_ l (j - 1))) : Srt kf l (i + 1) := by
  intro p q hpq hq
  by_cases hqj : q = j
  · subst hqj
    rcases hs with h0 | hs
    · omega
    · by_cases hp : p = q - 1
      · subst hp; exact hs
      · have := h p (q - 1) (by omega) (by omega) (by omega)
        omega
  · exact h p q hpq (by omega) hqj
theorem Srt.one (kf : Int → Int) (l : List Int) : Srt kf l 1 := fun p q h1 h2 => by omega
end Go.Proofs.Ytcjahpbbkdkbpaa
