/- The document's own texts: decimal digits. -/
import Derived.Test.YticjjikodignfaaDoorRefText
namespace Go.Proofs.YticjjikodignfaaDoor
open Go.RowKit

theorem enc_digit (d : Nat) (h : d < 10) : Utf8.encode ((48 : Int) + d) = ⟨#[UInt8.ofNat (48 + d)]⟩ := by
  have : d = 0 ∨ d = 1 ∨ d = 2 ∨ d = 3 ∨ d = 4 ∨ d = 5 ∨ d = 6 ∨ d = 7 ∨ d = 8 ∨ d = 9 := by omega
  rcases this with rfl | rfl | rfl | rfl | rfl | rfl | rfl | rfl | rfl | rfl <;> rfl
theorem str_push (l : List UInt8) (b : UInt8) : (⟨l.toArray⟩ ++ ⟨#[b]⟩ : ByteArray) = ⟨(l ++ [b]).toArray⟩ := by
  apply ByteArray.ext
  simp [ByteArray.data_append]

set_option maxRecDepth 100000 in
set_option maxHeartbeats 3200000 in
theorem dec_step (n : Nat) (w : World) (h10 : ¬ n < 10) (hs : n ≤ 1000000000) (ih : ∀ w : World, Gives Tryd.prog 106 #[.int .i64 (n / 10 : Nat)] w (strV (Lib.decDigits (n / 10)))) :
    Gives Tryd.prog 106 #[.int .i64 n] w (strV (Lib.decDigits n)) := by
  have CI : Hid (∀ w, Gives Tryd.prog 106 #[.int .i64 ((n : Int) / 10)] w (.string ⟨(Lib.decDigits (n / 10)).toArray⟩)) := fun w => by
    rw [show ((n : Int) / 10) = ((n / 10 : Nat) : Int) by omega]
    exact ih w
  have hl := dec_len (n / 10) (n / 10) (Nat.le_refl _)
  have hR : Hid (Lib.decDigits n = Lib.decDigits (n / 10) ++ [UInt8.ofNat (48 + n % 10)]) := by
    show _ = _
    rw [Lib.decDigits, dif_neg h10]
  generalize Lib.decDigits (n / 10) = L at *
  have hL : L.length ≤ 100000001 := by omega
  have hd : n % 10 < 10 := by omega
  clear hl
  have cases : n % 10 = 0 ∨ n % 10 = 1 ∨ n % 10 = 2 ∨ n % 10 = 3 ∨ n % 10 = 4 ∨ n % 10 = 5 ∨ n % 10 = 6 ∨ n % 10 = 7 ∨ n % 10 = 8 ∨ n % 10 = 9 := by omega
  rcases cases with e | e | e | e | e | e | e | e | e | e
  · have em : (n : Int) % 10 = 0 := by omega
    have en : Utf8.encode 48 = ⟨#[48]⟩ := by rfl
    rw [e] at hR
    clear e hd
    go_enter Tryd.func106, Tryd.ntmps106
    go_wp2_with (go_at_call 106; with_reducible refine Calls.mono (Gives.calls (CI.out _)) ?_; rintro e w1 ⟨rfl, y, rfl⟩)
    go_ret
    exact ⟨by rw [hR.out]; show Ending.returned (.string (⟨L.toArray⟩ ++ ⟨#[48]⟩)) = _; rw [str_push]; rfl, later_of (by repeat (first | exact Below.refl _ _ | (with_reducible assumption) | apply below_later | apply below_alloc | apply below_drew | apply below_drewN))⟩
  · have em : (n : Int) % 10 = 1 := by omega
    have en : Utf8.encode 49 = ⟨#[49]⟩ := by rfl
    rw [e] at hR
    clear e hd
    go_enter Tryd.func106, Tryd.ntmps106
    go_wp2_with (go_at_call 106; with_reducible refine Calls.mono (Gives.calls (CI.out _)) ?_; rintro e w1 ⟨rfl, y, rfl⟩)
    go_ret
    exact ⟨by rw [hR.out]; show Ending.returned (.string (⟨L.toArray⟩ ++ ⟨#[49]⟩)) = _; rw [str_push]; rfl, later_of (by repeat (first | exact Below.refl _ _ | (with_reducible assumption) | apply below_later | apply below_alloc | apply below_drew | apply below_drewN))⟩
  · have em : (n : Int) % 10 = 2 := by omega
    have en : Utf8.encode 50 = ⟨#[50]⟩ := by rfl
    rw [e] at hR
    clear e hd
    go_enter Tryd.func106, Tryd.ntmps106
    go_wp2_with (go_at_call 106; with_reducible refine Calls.mono (Gives.calls (CI.out _)) ?_; rintro e w1 ⟨rfl, y, rfl⟩)
    go_ret
    exact ⟨by rw [hR.out]; show Ending.returned (.string (⟨L.toArray⟩ ++ ⟨#[50]⟩)) = _; rw [str_push]; rfl, later_of (by repeat (first | exact Below.refl _ _ | (with_reducible assumption) | apply below_later | apply below_alloc | apply below_drew | apply below_drewN))⟩
  · have em : (n : Int) % 10 = 3 := by omega
    have en : Utf8.encode 51 = ⟨#[51]⟩ := by rfl
    rw [e] at hR
    clear e hd
    go_enter Tryd.func106, Tryd.ntmps106
    go_wp2_with (go_at_call 106; with_reducible refine Calls.mono (Gives.calls (CI.out _)) ?_; rintro e w1 ⟨rfl, y, rfl⟩)
    go_ret
    exact ⟨by rw [hR.out]; show Ending.returned (.string (⟨L.toArray⟩ ++ ⟨#[51]⟩)) = _; rw [str_push]; rfl, later_of (by repeat (first | exact Below.refl _ _ | (with_reducible assumption) | apply below_later | apply below_alloc | apply below_drew | apply below_drewN))⟩
  · have em : (n : Int) % 10 = 4 := by omega
    have en : Utf8.encode 52 = ⟨#[52]⟩ := by rfl
    rw [e] at hR
    clear e hd
    go_enter Tryd.func106, Tryd.ntmps106
    go_wp2_with (go_at_call 106; with_reducible refine Calls.mono (Gives.calls (CI.out _)) ?_; rintro e w1 ⟨rfl, y, rfl⟩)
    go_ret
    exact ⟨by rw [hR.out]; show Ending.returned (.string (⟨L.toArray⟩ ++ ⟨#[52]⟩)) = _; rw [str_push]; rfl, later_of (by repeat (first | exact Below.refl _ _ | (with_reducible assumption) | apply below_later | apply below_alloc | apply below_drew | apply below_drewN))⟩
  · have em : (n : Int) % 10 = 5 := by omega
    have en : Utf8.encode 53 = ⟨#[53]⟩ := by rfl
    rw [e] at hR
    clear e hd
    go_enter Tryd.func106, Tryd.ntmps106
    go_wp2_with (go_at_call 106; with_reducible refine Calls.mono (Gives.calls (CI.out _)) ?_; rintro e w1 ⟨rfl, y, rfl⟩)
    go_ret
    exact ⟨by rw [hR.out]; show Ending.returned (.string (⟨L.toArray⟩ ++ ⟨#[53]⟩)) = _; rw [str_push]; rfl, later_of (by repeat (first | exact Below.refl _ _ | (with_reducible assumption) | apply below_later | apply below_alloc | apply below_drew | apply below_drewN))⟩
  · have em : (n : Int) % 10 = 6 := by omega
    have en : Utf8.encode 54 = ⟨#[54]⟩ := by rfl
    rw [e] at hR
    clear e hd
    go_enter Tryd.func106, Tryd.ntmps106
    go_wp2_with (go_at_call 106; with_reducible refine Calls.mono (Gives.calls (CI.out _)) ?_; rintro e w1 ⟨rfl, y, rfl⟩)
    go_ret
    exact ⟨by rw [hR.out]; show Ending.returned (.string (⟨L.toArray⟩ ++ ⟨#[54]⟩)) = _; rw [str_push]; rfl, later_of (by repeat (first | exact Below.refl _ _ | (with_reducible assumption) | apply below_later | apply below_alloc | apply below_drew | apply below_drewN))⟩
  · have em : (n : Int) % 10 = 7 := by omega
    have en : Utf8.encode 55 = ⟨#[55]⟩ := by rfl
    rw [e] at hR
    clear e hd
    go_enter Tryd.func106, Tryd.ntmps106
    go_wp2_with (go_at_call 106; with_reducible refine Calls.mono (Gives.calls (CI.out _)) ?_; rintro e w1 ⟨rfl, y, rfl⟩)
    go_ret
    exact ⟨by rw [hR.out]; show Ending.returned (.string (⟨L.toArray⟩ ++ ⟨#[55]⟩)) = _; rw [str_push]; rfl, later_of (by repeat (first | exact Below.refl _ _ | (with_reducible assumption) | apply below_later | apply below_alloc | apply below_drew | apply below_drewN))⟩
  · have em : (n : Int) % 10 = 8 := by omega
    have en : Utf8.encode 56 = ⟨#[56]⟩ := by rfl
    rw [e] at hR
    clear e hd
    go_enter Tryd.func106, Tryd.ntmps106
    go_wp2_with (go_at_call 106; with_reducible refine Calls.mono (Gives.calls (CI.out _)) ?_; rintro e w1 ⟨rfl, y, rfl⟩)
    go_ret
    exact ⟨by rw [hR.out]; show Ending.returned (.string (⟨L.toArray⟩ ++ ⟨#[56]⟩)) = _; rw [str_push]; rfl, later_of (by repeat (first | exact Below.refl _ _ | (with_reducible assumption) | apply below_later | apply below_alloc | apply below_drew | apply below_drewN))⟩
  · have em : (n : Int) % 10 = 9 := by omega
    have en : Utf8.encode 57 = ⟨#[57]⟩ := by rfl
    rw [e] at hR
    clear e hd
    go_enter Tryd.func106, Tryd.ntmps106
    go_wp2_with (go_at_call 106; with_reducible refine Calls.mono (Gives.calls (CI.out _)) ?_; rintro e w1 ⟨rfl, y, rfl⟩)
    go_ret
    exact ⟨by rw [hR.out]; show Ending.returned (.string (⟨L.toArray⟩ ++ ⟨#[57]⟩)) = _; rw [str_push]; rfl, later_of (by repeat (first | exact Below.refl _ _ | (with_reducible assumption) | apply below_later | apply below_alloc | apply below_drew | apply below_drewN))⟩
theorem dec_any : ∀ (m n : Nat) (w : World), n ≤ m → n ≤ 1000000000 → Gives Tryd.prog 106 #[.int .i64 n] w (strV (Lib.decDigits n)) := by
  have small : ∀ (n : Nat) (w : World), n < 10 → Gives Tryd.prog 106 #[.int .i64 n] w (strV (Lib.decDigits n)) := fun n w h => by
    rw [Lib.decDigits_one h]
    exact dec_small n w h
  intro m
  induction m with
  | zero => intro n w h _; exact small n w (by omega)
  | succ m ih =>
    intro n w h hs
    by_cases h10 : n < 10
    · exact small n w h10
    · exact dec_step n w h10 hs fun w => ih (n / 10) w (by omega) (by omega)
end Go.Proofs.YticjjikodignfaaDoor
