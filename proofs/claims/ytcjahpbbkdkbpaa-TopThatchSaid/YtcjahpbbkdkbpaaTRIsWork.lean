/- The document's IsWork: walked. -/
import Derived.Test.YtcjahpbbkdkbpaaTRHours
namespace Go.Proofs.Ytcjahpbbkdkbpaa
open Go.RowKit

theorem rcnt_mono (f : Nat → Int) (c : Nat) {a b : Nat} (h : a ≤ b) : rcnt f c a ≤ rcnt f c b := cntN_mono _ h
theorem cW_mono (R : Nat → Row) (c : Nat) {a b : Nat} (h : a ≤ b) : cW R c a ≤ cW R c b := by
  induction b with
  | zero => obtain rfl : a = 0 := by omega
            exact Nat.le_refl _
  | succ b ih =>
    by_cases e : a = b + 1
    · subst e; exact Nat.le_refl _
    · rw [cW_succ]; have := ih (by omega); omega
theorem isW_over {g : Nat → Nat} {n m c j q : Nat} {h : Int} {R : Nat → Row} (hc : c < n) (hj : j < m) (hq : q ≤ (R j).n) (ho : g c < cW R c j + rcnt (R j).f c q) : isW g n h m R = false := by
  have h1 := cW_mono R c (show j + 1 ≤ m by omega)
  rw [cW_succ] at h1
  have h2 := rcnt_mono (R j).f c hq
  unfold isW
  rw [allB_false (n := n) (p := fun c => decide (g c = cW R c m)) hc (by simp; omega), Bool.and_false, Bool.and_false]
end Go.Proofs.Ytcjahpbbkdkbpaa
