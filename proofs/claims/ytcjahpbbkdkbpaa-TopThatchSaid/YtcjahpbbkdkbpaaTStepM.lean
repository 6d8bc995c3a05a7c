/- Plain mathematics of work: an hour with the neediest faces takes one from the least number of hours. -/
import Derived.Test.YtcjahpbbkdkbpaaTWorkM
namespace Go.Proofs.Ytcjahpbbkdkbpaa
open Go.RowKit

/-- An hour: the faces that are worked on (inH), of those that need most, not more than there are hands. -/
structure Hour (l : Nat → Nat) (n h : Nat) (inH : Nat → Bool) : Prop where
  pos : ∀ c, c < n → inH c = true → 0 < l c
  most : ∀ c d, c < n → d < n → inH c = true → inH d = false → l d ≤ l c
  len : cntN inH n = min h (cntN (fun c => decide (0 < l c)) n)
def less (l : Nat → Nat) (inH : Nat → Bool) (c : Nat) : Nat := l c - (if inH c then 1 else 0)
theorem cntN_le_of {p q : Nat → Bool} {n : Nat} (h : ∀ c, c < n → p c = true → q c = true) : cntN p n ≤ cntN q n := by
  induction n with
  | zero => exact Nat.le_refl _
  | succ n ih =>
    rw [cntN_succ, cntN_succ]
    have h1 := ih fun c hc => h c (by omega)
    by_cases hp : p n = true
    · rw [if_pos hp, if_pos (h n (by omega) hp)]; omega
    · rw [if_neg hp]; omega
theorem cntN_all_eq {p q : Nat → Bool} {n : Nat} (h : ∀ c, c < n → p c = true → q c = true) (e : cntN p n = cntN q n) : ∀ c, c < n → q c = true → p c = true := by
  induction n with
  | zero => intro c hc; omega
  | succ n ih =>
    rw [cntN_succ, cntN_succ] at e
    have h1 := cntN_le_of (n := n) fun c hc => h c (by omega)
    intro c hc hq
    by_cases hp : p n = true
    · rw [if_pos hp, if_pos (h n (by omega) hp)] at e
      rcases Nat.lt_or_ge c n with h2 | h2
      · exact ih (fun c hc => h c (by omega)) (by omega) c h2 hq
      · obtain rfl : c = n := by omega
        exact hp
    · rw [if_neg hp] at e
      by_cases hqn : q n = true
      · rw [if_pos hqn] at e; omega
      · rw [if_neg hqn] at e
        rcases Nat.lt_or_ge c n with h2 | h2
        · exact ih (fun c hc => h c (by omega)) (by omega) c h2 hq
        · obtain rfl : c = n := by omega
          exact absurd hq hqn
theorem less_sum {l : Nat → Nat} {inH : Nat → Bool} {n : Nat} (h : ∀ c, c < n → inH c = true → 0 < l c) : addN (less l inH) n + cntN inH n = addN l n := by
  induction n with
  | zero => rfl
  | succ n ih =>
    rw [addN_succ, addN_succ, cntN_succ, ← ih fun c hc => h c (by omega)]
    unfold less
    by_cases hp : inH n = true
    · have := h n (by omega) hp
      rw [if_pos hp]; omega
    · rw [if_neg hp]; omega
theorem sum_ge {l : Nat → Nat} {p : Nat → Bool} {k n : Nat} (h : ∀ c, c < n → p c = true → k ≤ l c) : cntN p n * k ≤ addN l n := by
  induction n with
  | zero => simp [cntN]
  | succ n ih =>
    rw [cntN_succ, addN_succ, Nat.add_mul]
    have h1 := ih fun c hc => h c (by omega)
    by_cases hp : p n = true
    · have := h n (by omega) hp
      rw [if_pos hp]; omega
    · rw [if_neg hp]; omega
theorem sum_le_cnt {l : Nat → Nat} {p : Nat → Bool} {k n : Nat} (h : ∀ c, c < n → l c ≤ (if p c then k else 0)) : addN l n ≤ cntN p n * k := by
  induction n with
  | zero => simp [addN]
  | succ n ih =>
    rw [cntN_succ, addN_succ, Nat.add_mul]
    have h1 := ih fun c hc => h c (by omega)
    have h2 := h n (by omega)
    by_cases hp : p n = true
    · rw [if_pos hp] at h2 ⊢; omega
    · rw [if_neg hp] at h2 ⊢; omega
theorem hours_le_iff {l : Nat → Nat} {n h k : Nat} (hh : 1 ≤ h) : hoursN l n h ≤ k ↔ (∀ c, c < n → l c ≤ k) ∧ addN l n ≤ k * h := by
  unfold hoursN
  constructor
  · intro e
    exact ⟨fun c hc => by have := le_topF (g := l) hc; omega, (upN_le_iff hh).1 (by omega)⟩
  · rintro ⟨h1, h2⟩
    have a := topF_le (g := l) (k := n) h1
    have b := (upN_le_iff hh).2 h2
    omega
theorem hour_iff {l : Nat → Nat} {n h : Nat} {inH : Nat → Bool} (hh : 1 ≤ h) (H : Hour l n h inH) (k : Nat) : hoursN (less l inH) n h ≤ k ↔ hoursN l n h ≤ k + 1 := by
  rw [hours_le_iff hh, hours_le_iff hh]
  have hs := less_sum (n := n) H.pos
  have hlen := H.len
  constructor
  · rintro ⟨h1, h2⟩
    refine ⟨fun c hc => ?_, ?_⟩
    · have := h1 c hc
      unfold less at this
      split at this <;> omega
    · rw [Nat.add_mul]
      omega
  · rintro ⟨h1, h2⟩
    rw [Nat.add_mul, Nat.one_mul] at h2
    rcases Nat.lt_or_ge (cntN (fun c => decide (0 < l c)) n) h with hP | hP
    · have hall := cntN_all_eq (p := inH) (q := fun c => decide (0 < l c)) (n := n) (fun c hc hp => by simpa using H.pos c hc hp) (by omega)
      have hle : ∀ c, c < n → less l inH c ≤ (if inH c then k else 0) := fun c hc => by
        have := h1 c hc
        unfold less
        by_cases hp : inH c = true
        · rw [if_pos hp, if_pos hp]; omega
        · rw [if_neg hp, if_neg hp]
          rcases Nat.eq_zero_or_pos (l c) with h0 | h0
          · omega
          · exact absurd (hall c hc (by simpa using h0)) hp
      refine ⟨fun c hc => ?_, ?_⟩
      · have := hle c hc
        split at this <;> omega
      · have h3 := sum_le_cnt (p := inH) hle
        have h4 : cntN inH n * k ≤ h * k := Nat.mul_le_mul (by omega) (Nat.le_refl _)
        rw [Nat.mul_comm k h]
        omega
    · refine ⟨fun c hc => ?_, by omega⟩
      have h5 := h1 c hc
      unfold less
      by_cases hp : inH c = true
      · rw [if_pos hp]; omega
      · rw [if_neg hp]
        rcases Nat.lt_or_ge k (l c) with h6 | h6
        · exfalso
          have e : cntN (fun d => inH d || d == c) n = cntN inH n + 1 := cntN_one (c := c) hc (by simpa using hp) (by simp) fun m hm => by
            have : (m == c) = false := by simpa using hm
            simp [this]
          have h7 := sum_ge (l := l) (p := fun d => inH d || d == c) (k := k + 1) (n := n) fun d hd hpd => by
            simp only [Bool.or_eq_true, beq_iff_eq] at hpd
            rcases hpd with hpd | rfl
            · have := H.most d c hd hc hpd (by simpa using hp); omega
            · omega
          rw [e, show cntN inH n = h by omega, Nat.add_mul, Nat.mul_add, Nat.one_mul, Nat.mul_one] at h7
          rw [Nat.mul_comm h k] at h7
          omega
        · omega
theorem hour_step {l : Nat → Nat} {n h : Nat} {inH : Nat → Bool} (hh : 1 ≤ h) (H : Hour l n h inH) (h0 : 0 < hoursN l n h) : hoursN (less l inH) n h + 1 = hoursN l n h := by
  have a := (hour_iff hh H (hoursN (less l inH) n h)).1 (Nat.le_refl _)
  have b := (hour_iff hh H (hoursN l n h - 1)).2 (by omega)
  omega
theorem hours_zero {l : Nat → Nat} {n h : Nat} (hh : 1 ≤ h) (h0 : topF l n = 0) : hoursN l n h = 0 := by
  have : hoursN l n h ≤ 0 := (hours_le_iff hh).2 ⟨fun c hc => by have := le_topF (g := l) hc; omega, by
    have := addN_le (g := l) (b := 0) (k := n) fun c hc => by have := le_topF (g := l) hc; omega
    omega⟩
  omega
theorem hours_pos {l : Nat → Nat} {n h : Nat} (h0 : 0 < topF l n) : 0 < hoursN l n h := by unfold hoursN; omega
theorem cnt_pos {l : Nat → Nat} {n : Nat} (h0 : 0 < topF l n) : 0 < cntN (fun c => decide (0 < l c)) n := by
  induction n with
  | zero => simp [topF] at h0
  | succ n ih =>
    rw [topF_succ] at h0
    rw [cntN_succ]
    by_cases hp : 0 < l n
    · simp [hp]
    · have := ih (by omega)
      omega
end Go.Proofs.Ytcjahpbbkdkbpaa
