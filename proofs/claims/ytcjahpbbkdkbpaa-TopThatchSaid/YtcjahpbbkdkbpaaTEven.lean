/- For TopThatch: the pointer into the thin stretches, and sedgeref04's Has: walked. -/
import Derived.Test.YtcjahpbbkdkbpaaTThin
import Derived.Test.YtcjahpbbkdkbpaaTCoatF
namespace Go.Proofs.Ytcjahpbbkdkbpaa
open Go.RowKit

theorem thin_at {lay : Nat → Nat} {t S i p : Nat} {l : List (Nat × Nat)} (h : ThinI lay t S l) (hi : i < S) (hb : ∀ q, q < p → (l.getD q (0, 0)).2 < i) (he : p < l.length → i ≤ (l.getD p (0, 0)).2) :
    (decide (p < l.length) && decide ((l.getD p (0, 0)).1 ≤ i)) = decide (lay i < t) := by
  rw [Bool.eq_iff_iff, Bool.and_eq_true, decide_eq_true_eq, decide_eq_true_eq, decide_eq_true_eq, h.has i hi]
  constructor
  · rintro ⟨h1, h2⟩
    exact ⟨p, h1, h2, he h1⟩
  · rintro ⟨q, h1, h2, h3⟩
    have hq : p ≤ q := by
      rcases Nat.lt_or_ge q p with h4 | h4
      · have := hb q h4; omega
      · exact h4
    have hp : p < l.length := by omega
    rcases Nat.lt_or_ge p q with h4 | h4
    · have := h.before h4 h1
      have := he hp
      omega
    · obtain rfl : q = p := by omega
      exact ⟨h1, h2⟩
theorem thin_step {i p : Nat} {l : List (Nat × Nat)} (hb : ∀ q, q < p → (l.getD q (0, 0)).2 < i) (h : (l.getD p (0, 0)).2 < i) : ∀ q, q < p + 1 → (l.getD q (0, 0)).2 < i := fun q hq => by
  by_cases e : q = p
  · subst e; exact h
  · exact hb q (by omega)
theorem thin_next {i p : Nat} {l : List (Nat × Nat)} (hb : ∀ q, q < p → (l.getD q (0, 0)).2 < i) : ∀ q, q < p → (l.getD q (0, 0)).2 < i + 1 := fun q hq => by have := hb q hq; omega
set_option maxRecDepth 100000 in
set_option maxHeartbeats 1600000 in
theorem Has_any (A : Option Addr) (n cap x : Nat) (f : Nat → Nat) (w : World) (hp : IsInts w A n fun j => ((f j : Nat) : Int)) :
    Gives Try.prog 24 #[.slice A n cap, .int .i64 x] w (.bool (hasN f x n)) := by
  have HP := Lib.hid hp
  have hs := hp.small
  have HT : Hid (∀ k, k < n → f k = x → hasN f x n = true) := fun k hk e => hasN_iff.2 ⟨k, hk, e⟩
  have HF : Hid ((∀ k, k < n → f k ≠ x) → hasN f x n = false) := fun h => by
    cases hv : hasN f x n
    · rfl
    · obtain ⟨k, hk, e⟩ := hasN_iff.1 hv
      exact absurd e (h k hk)
  generalize hasN f x n = r at *
  clear hp
  go_enter Try.func24, Try.ntmps24
  go_wp2_with fail
  go_loopw [5] (fun u wr => ∃ k : Nat, u = .int .i64 (k : Nat) ∧ k ≤ n ∧ (∀ i, i < k → f i ≠ x) ∧ ∃ y : Later w, wr = y.val) (fun u _ => n - (intOf u).toNat)
  case atStart => exact ⟨0, rfl, by omega, fun i hi => by omega, later_of (by repeat (first | exact Below.refl _ _ | (with_reducible assumption) | apply below_later | apply below_alloc | apply below_drew | apply below_drewN))⟩
  case round =>
    obtain ⟨k, rfl, hk, hall, y, rfl⟩ := hrel
    have HALL := Lib.hid hall
    clear hall
    by_cases hlt : k < n
    · obtain ⟨b, off, hB, q⟩ := (HP.out.later y).at_ (by omega)
      subst hB
      have ck := q.at_ k hlt
      have lb := q.lt
      have HTk := Lib.hid (HT.out k hlt)
      have HNk : Hid (f k ≠ x → ∀ i, i < k + 1 → f i ≠ x) := fun h i hi => by
        by_cases e : i = k
        · subst e; exact h
        · exact HALL.out i (by omega)
      clear q
      generalize f k = fk at *
      by_cases e : fk = x
      · have g1 : ((fk : Int) == (x : Int)) = true := by simp [e]
        have HR := Lib.hid (HTk.out e)
        clear e
        go_wp2_with fail
        go_ret
        exact ⟨ret_bool HR.out.symm, later_of (by repeat (first | exact Below.refl _ _ | (with_reducible assumption) | apply below_later | apply below_alloc | apply below_drew | apply below_drewN))⟩
      · have g1 : ((fk : Int) == (x : Int)) = false := by simp; omega
        have HR := Lib.hid (HNk.out e)
        clear e
        go_wp2_with fail
        all_goals
          first
            | (refine ⟨⟨k + 1, by go_num, by omega, HR.out, later_of (by repeat (first | exact Below.refl _ _ | (with_reducible assumption) | apply below_later | apply below_alloc | apply below_drew | apply below_drewN))⟩, ?_⟩; simp [intOf]; omega)
            | (go_roundw
               case rel => exact ⟨k + 1, by go_num, by omega, HR.out, later_of (by repeat (first | exact Below.refl _ _ | (with_reducible assumption) | apply below_later | apply below_alloc | apply below_drew | apply below_drewN))⟩
               case measure => simp [intOf]; omega)
    · obtain rfl : k = n := by omega
      have HR := Lib.hid (HF.out HALL.out)
      go_wp2_with fail
      go_ret
      exact ⟨ret_bool HR.out.symm, later_of (by repeat (first | exact Below.refl _ _ | (with_reducible assumption) | apply below_later | apply below_alloc | apply below_drew | apply below_drewN))⟩
end Go.Proofs.Ytcjahpbbkdkbpaa
