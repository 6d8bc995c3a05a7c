/- Plain mathematics of work plans: how often a face occurs, and how many hours it takes at least. -/
import Derived.Test.YtcjahpbbkdkbpaaTAwake
namespace Go.Proofs.Ytcjahpbbkdkbpaa
open Go.RowKit

/-- How often a face occurs among the first of a row. -/
def rcnt (f : Nat → Int) (c q : Nat) : Nat := cntN (fun p => decide (f p = (c : Int))) q
def cW (R : Nat → Row) (c : Nat) (m : Nat) : Nat := addN (fun i => rcnt (R i).f c (R i).n) m
def hourB (h : Int) (n : Nat) (r : Row) : Bool := inI 1 r.n h && ascB r.n r.f n
def isW (g : Nat → Nat) (n : Nat) (h : Int) (m : Nat) (R : Nat → Row) : Bool := decide (m ≤ 2000) && (allB m (fun i => hourB h n (R i)) && allB n fun c => decide (g c = cW R c m))
theorem rcnt_succ (f : Nat → Int) (c q : Nat) : rcnt f c (q + 1) = rcnt f c q + (if f q = (c : Int) then 1 else 0) := by
  unfold rcnt
  rw [cntN_succ]
  by_cases h : f q = (c : Int) <;> simp [h]
theorem cW_succ (R : Nat → Row) (c m : Nat) : cW R c (m + 1) = cW R c m + rcnt (R m).f c (R m).n := rfl
theorem ascB_facts {k n : Nat} {f : Nat → Int} (h : ascB k f n = true) : (∀ i, i < k → 0 ≤ f i ∧ f i < n) ∧ ∀ i, i + 1 < k → f i < f (i + 1) := by
  have hA := allB_iff.1 h
  have hi : ∀ i, i < k → 0 ≤ f i ∧ f i < n ∧ (0 < i → f (i - 1) < f i) := fun i hi => by
    have h := hA i hi
    simp only [ascQ, Bool.and_eq_true, inI_iff, Bool.not_eq_true', Bool.and_eq_false_iff, decide_eq_false_iff_not] at h
    omega
  exact ⟨fun i h => by have := hi i h; omega, fun i h => by have := hi (i + 1) h; have h3 := this.2.2 (by omega); rw [Nat.add_sub_cancel] at h3; exact h3⟩
theorem asc_lt {k : Nat} {f : Nat → Int} (h : ∀ i, i + 1 < k → f i < f (i + 1)) {a b : Nat} (hab : a < b) (hb : b < k) : f a < f b := by
  induction b with
  | zero => omega
  | succ b ih =>
    have h1 := h b hb
    rcases Nat.lt_or_ge a b with h2 | h2
    · have := ih h2 (by omega)
      omega
    · obtain rfl : a = b := by omega
      exact h1
theorem rcnt_one {k : Nat} {f : Nat → Int} (h : ∀ i, i + 1 < k → f i < f (i + 1)) (c : Nat) : rcnt f c k ≤ 1 := by
  have key : ∀ q, q ≤ k → rcnt f c q ≤ 1 ∧ (rcnt f c q = 1 → ∃ p, p < q ∧ f p = (c : Int)) := by
    intro q
    induction q with
    | zero => intro _; exact ⟨Nat.zero_le _, fun h => by simp [rcnt, cntN] at h⟩
    | succ q ih =>
      intro hq
      obtain ⟨h1, h2⟩ := ih (by omega)
      rw [rcnt_succ]
      by_cases e : f q = (c : Int)
      · rw [if_pos e]
        have : rcnt f c q = 0 := by
          rcases Nat.lt_or_ge (rcnt f c q) 1 with h3 | h3
          · omega
          · obtain ⟨p, hp, ep⟩ := h2 (by omega)
            have := asc_lt h hp (by omega)
            omega
        exact ⟨by omega, fun _ => ⟨q, by omega, e⟩⟩
      · rw [if_neg e]
        exact ⟨by omega, fun h3 => by obtain ⟨p, hp, ep⟩ := h2 (by omega); exact ⟨p, by omega, ep⟩⟩
  exact (key k (Nat.le_refl _)).1
theorem rcnt_le (f : Nat → Int) (c q : Nat) : rcnt f c q ≤ q := cntN_le _ _
theorem rcnt_sum {k n : Nat} {f : Nat → Int} (h : ∀ i, i < k → 0 ≤ f i ∧ f i < n) : addN (fun c => rcnt f c k) n = k := by
  have e := count_both (fun c p => decide (f p = (c : Int))) n k
  have e2 : addN (fun m => cntN (fun i => decide (f m = (i : Int))) n) k = addN (fun _ => 1) k := by
    refine addN_congr fun p hp => ?_
    obtain ⟨h0, h1⟩ := h p hp
    have hc : cntN (fun i => decide (f p = (i : Int))) n = cntN (fun i => decide ((f p).toNat ≤ i) && decide (i ≤ (f p).toNat)) n := by
      refine cntN_congr fun i _ => ?_
      rw [Bool.eq_iff_iff]
      simp only [decide_eq_true_eq, Bool.and_eq_true]
      omega
    rw [hc, cntN_span (by omega) (by omega)]
    omega
  have e3 : addN (fun _ => 1) k = k := by
    induction k with
    | zero => rfl
    | succ k ih => rw [addN_succ, ih (fun i hi => h i (by omega)) (count_both _ n k) (addN_congr fun p hp => by
        obtain ⟨h0, h1⟩ := h p (by omega)
        have hc : cntN (fun i => decide (f p = (i : Int))) n = cntN (fun i => decide ((f p).toNat ≤ i) && decide (i ≤ (f p).toNat)) n := by
          refine cntN_congr fun i _ => ?_
          rw [Bool.eq_iff_iff]
          simp only [decide_eq_true_eq, Bool.and_eq_true]
          omega
        rw [hc, cntN_span (by omega) (by omega)]
        omega)]
  show addN (fun c => cntN (fun p => decide (f p = (c : Int))) k) n = k
  rw [e, e2, e3]
theorem hourB_facts {h : Int} {n : Nat} {r : Row} (e : hourB h n r = true) : 1 ≤ r.n ∧ (r.n : Int) ≤ h ∧ (∀ i, i < r.n → 0 ≤ r.f i ∧ r.f i < n) ∧ ∀ i, i + 1 < r.n → r.f i < r.f (i + 1) := by
  simp only [hourB, Bool.and_eq_true, inI_iff] at e
  obtain ⟨h1, h2⟩ := ascB_facts e.2
  exact ⟨by omega, by omega, h1, h2⟩
/-- No work plan has fewer hours. -/
theorem isW_hours {g : Nat → Nat} {n m h : Nat} {R : Nat → Row} (hh : 1 ≤ h) (e : isW g n h m R = true) : hoursN g n h ≤ m := by
  simp only [isW, Bool.and_eq_true, decide_eq_true_eq] at e
  obtain ⟨_, h1, h2⟩ := e
  have hv := fun i hi => hourB_facts ((allB_iff.1 h1) i hi)
  have hc : ∀ c, c < n → g c = cW R c m := fun c hc => by simpa using (allB_iff.1 h2) c hc
  have hcw : ∀ c, cW R c m ≤ m := fun c => by
    have := addN_le (g := fun i => rcnt (R i).f c (R i).n) (k := m) (b := 1) fun i hi => rcnt_one (hv i hi).2.2.2 c
    unfold cW
    omega
  have ht : topF g n ≤ m := topF_le fun i hi => by rw [hc i hi]; exact hcw i
  have hs : addN g n ≤ m * h := by
    have key : ∀ k, k ≤ m → addN (fun c => cW R c k) n = addN (fun i => (R i).n) k := by
      intro k
      induction k with
      | zero => intro _; exact addN_zero n
      | succ k ih =>
        intro hk
        rw [addN_succ, ← ih (by omega), ← rcnt_sum (n := n) (hv k (by omega)).2.2.1, ← addN_add]
        rfl
    rw [addN_congr hc, key m (Nat.le_refl _)]
    exact addN_le fun i hi => by have := (hv i hi).2.1; omega
  have hu := (upN_le_iff hh).2 hs
  unfold hoursN
  omega
end Go.Proofs.Ytcjahpbbkdkbpaa
