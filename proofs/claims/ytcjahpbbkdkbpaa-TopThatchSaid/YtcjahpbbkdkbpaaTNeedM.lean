/- Plain mathematics of the neediest faces: of a sorted list the first ones, sorted by number, are an hour. -/
import Derived.Test.YtcjahpbbkdkbpaaTStepM
import Derived.Test.YtcjahpbbkdkbpaaTSortM
namespace Go.Proofs.Ytcjahpbbkdkbpaa
open Go.RowKit

/-- The faces that still need something, in their order. -/
def posL (lf : Nat → Nat) : Nat → List Int
  | 0 => []
  | n + 1 => posL lf n ++ if 0 < lf n then [(n : Int)] else []
theorem posL_length (lf : Nat → Nat) (n : Nat) : (posL lf n).length = cntN (fun c => decide (0 < lf c)) n := by
  induction n with
  | zero => rfl
  | succ n ih =>
    rw [posL, List.length_append, cntN_succ, ih]
    by_cases h : 0 < lf n <;> simp [h]
theorem mem_posL {lf : Nat → Nat} {n : Nat} {x : Int} : x ∈ posL lf n ↔ ∃ c : Nat, c < n ∧ 0 < lf c ∧ x = (c : Int) := by
  induction n with
  | zero => exact ⟨fun h => by simp [posL] at h, fun ⟨c, h, _⟩ => by omega⟩
  | succ n ih =>
    rw [posL, List.mem_append, ih]
    constructor
    · rintro (⟨c, h1, h2, h3⟩ | h)
      · exact ⟨c, by omega, h2, h3⟩
      · by_cases h0 : 0 < lf n
        · rw [if_pos h0] at h
          exact ⟨n, by omega, h0, by simpa using h⟩
        · rw [if_neg h0] at h
          cases h
    · rintro ⟨c, h1, h2, h3⟩
      by_cases e : c = n
      · subst e
        right
        rw [if_pos h2, h3]
        exact List.mem_singleton.2 rfl
      · exact .inl ⟨c, by omega, h2, h3⟩
theorem posL_nodup (lf : Nat → Nat) (n : Nat) : (posL lf n).Nodup := by
  induction n with
  | zero => exact List.nodup_nil
  | succ n ih =>
    rw [posL]
    by_cases h0 : 0 < lf n
    · rw [if_pos h0, List.nodup_append]
      refine ⟨ih, List.nodup_cons.2 ⟨by simp, List.nodup_nil⟩, fun x hx y hy => ?_⟩
      obtain ⟨c, h1, _, h3⟩ := mem_posL.1 hx
      have h4 : y = (n : Int) := by simpa using hy
      omega
    · rw [if_neg h0, List.append_nil]
      exact ih
theorem cnt_list {n : Nat} {l : List Int} (hn : l.Nodup) (h : ∀ x ∈ l, (0 : Int) ≤ x ∧ x < n) : cntN (fun c => decide ((c : Int) ∈ l)) n = l.length := by
  induction l with
  | nil => exact cntN_none fun m _ => by simp
  | cons a l ih =>
    obtain ⟨h1, h2⟩ := List.nodup_cons.1 hn
    obtain ⟨h3, h4⟩ := h a (by simp)
    obtain ⟨c, rfl⟩ : ∃ c : Nat, a = c := ⟨a.toNat, by omega⟩
    have e := ih h2 fun x hx => h x (by simp [hx])
    rw [List.length_cons, ← e]
    refine cntN_one (c := c) (by omega) (by simpa using h1) (by simp) fun m hm => ?_
    have : ¬ ((m : Int) = (c : Int)) := by omega
    simp [List.mem_cons, this]
theorem nodup_at {l : List Int} (hn : l.Nodup) {p q : Nat} (hq : q < l.length) (hpq : p < q) : at_ l p ≠ at_ l q := by
  have h1 := List.pairwise_iff_getElem.1 hn p q (by omega) hq hpq
  have e1 : at_ l p = l[p] := by simp [at_, List.getD_eq_getElem?_getD, List.getElem?_eq_getElem (show p < l.length by omega)]
  have e2 : at_ l q = l[q] := by simp [at_, List.getD_eq_getElem?_getD, List.getElem?_eq_getElem hq]
  rw [e1, e2]
  exact h1
theorem mem_at {l : List Int} {x : Int} : x ∈ l ↔ ∃ p, p < l.length ∧ at_ l p = x := by
  rw [List.mem_iff_getElem]
  constructor
  · rintro ⟨p, hp, e⟩
    exact ⟨p, hp, by rw [← e]; simp [at_, List.getD_eq_getElem?_getD, List.getElem?_eq_getElem hp]⟩
  · rintro ⟨p, hp, e⟩
    exact ⟨p, hp, by rw [← e]; simp [at_, List.getD_eq_getElem?_getD, List.getElem?_eq_getElem hp]⟩
theorem at_take {l : List Int} {m p : Nat} (h : p < m) : at_ (l.take m) p = at_ l p := by
  simp [at_, List.getD_eq_getElem?_getD, List.getElem?_take, h]
theorem hour_of {lf : Nat → Nat} {n h m : Nat} {l2 l4 : List Int} (hp : l2.Perm (posL lf n)) (hs : Srt (fun x => ((lf x.toNat : Nat) : Int)) l2 l2.length) (hm : m = min h l2.length) (hp4 : l4.Perm (l2.take m)) (hs4 : Srt (fun x => -x) l4 l4.length) :
    l4.length = m ∧ (∀ x ∈ l4, (0 : Int) ≤ x ∧ x < n) ∧ (∀ i, i + 1 < l4.length → at_ l4 i < at_ l4 (i + 1)) ∧ Hour lf n h (fun c => decide ((c : Int) ∈ l4)) := by
  have hlen : l4.length = m := by rw [hp4.length_eq, List.length_take]; omega
  have hnd2 : l2.Nodup := hp.nodup_iff.2 (posL_nodup lf n)
  have hnd4 : l4.Nodup := hp4.nodup_iff.2 (hnd2.sublist (List.take_sublist m l2))
  have hmem : ∀ x ∈ l4, ∃ p, p < m ∧ p < l2.length ∧ at_ l2 p = x := fun x hx => by
    obtain ⟨p, h1, h2⟩ := mem_at.1 (hp4.mem_iff.1 hx)
    rw [List.length_take] at h1
    exact ⟨p, by omega, by omega, by rw [← h2]; exact (at_take (by omega)).symm⟩
  have hin2 : ∀ x ∈ l4, ∃ c : Nat, c < n ∧ 0 < lf c ∧ x = (c : Int) := fun x hx => by
    obtain ⟨p, h1, h2, h3⟩ := hmem x hx
    exact mem_posL.1 (hp.mem_iff.1 (mem_at.2 ⟨p, h2, h3⟩))
  have hb : ∀ x ∈ l4, (0 : Int) ≤ x ∧ x < n := fun x hx => by
    obtain ⟨c, h1, _, h3⟩ := hin2 x hx
    omega
  refine ⟨hlen, hb, fun i hi => ?_, ⟨fun c hc hi => ?_, fun c d hc hd h1 h2 => ?_, ?_⟩⟩
  · have h1 : -(at_ l4 (i + 1)) ≤ -(at_ l4 i) := hs4 i (i + 1) (by omega) hi
    have h2 := nodup_at hnd4 hi (show i < i + 1 by omega)
    omega
  · obtain ⟨c', h1, h2, h3⟩ := hin2 (c : Int) (by simpa using hi)
    obtain rfl : c = c' := by omega
    exact h2
  · obtain ⟨p, p1, p2, p3⟩ := hmem (c : Int) (by simpa using h1)
    rcases Nat.eq_zero_or_pos (lf d) with h0 | h0
    · omega
    · obtain ⟨q, q1, q2⟩ := mem_at.1 (hp.mem_iff.2 (mem_posL.2 ⟨d, hd, h0, rfl⟩))
      have hq : m ≤ q := by
        rcases Nat.lt_or_ge q m with h3 | h3
        · exfalso
          have : (d : Int) ∈ l4 := hp4.mem_iff.2 (mem_at.2 ⟨q, by rw [List.length_take]; omega, by rw [at_take h3]; exact q2⟩)
          simp [this] at h2
        · exact h3
      have h3 := hs p q (by omega) q1
      simp only [p3, q2, Int.toNat_natCast] at h3
      omega
  · rw [cnt_list hnd4 hb, hlen, hm, hp.length_eq, posL_length]
end Go.Proofs.Ytcjahpbbkdkbpaa
