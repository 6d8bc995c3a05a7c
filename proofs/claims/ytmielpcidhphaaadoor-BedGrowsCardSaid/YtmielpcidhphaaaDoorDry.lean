/- Which squares a way may have. -/
import Derived.Test.YtmielpcidhphaaaDoorBedRef
import Derived.Test.YtmielpcidhphaaaDoorReedNear
namespace Go.Proofs.YtmielpcidhphaaaDoor
open Go.RowKit
attribute [local go_sem] Oper.semAt_some

/-- There is such a square, without water. -/
def dryB (n : Nat) (f : Nat → Int) (at_ : Int) : Bool := decide (0 ≤ at_) && (decide (at_ < (n : Int)) && decide (f at_.toNat ≠ 2))
theorem dryB_iff {n : Nat} {f : Nat → Int} {at_ : Int} : dryB n f at_ = true ↔ ∃ k : Nat, at_ = k ∧ k < n ∧ f k ≠ 2 := by
  unfold dryB
  simp only [Bool.and_eq_true, decide_eq_true_eq]
  constructor
  · rintro ⟨h1, h2, h3⟩; exact ⟨at_.toNat, by omega, by omega, h3⟩
  · rintro ⟨k, rfl, h2, h3⟩; exact ⟨by omega, by omega, by rw [Int.toNat_natCast]; exact h3⟩

set_option maxHeartbeats 800000 in
theorem dry_any (W H : Int) (n cap : Nat) (A : Option Addr) (f : Nat → Int) (at_ : Int) (w : World) (hn : n ≤ 1000) (hp : IsInts w A n f) :
    Gives Tryd.prog 89 #[.agg #[.int .i64 W, .int .i64 H, .slice A n cap], .int .i64 at_] w (.bool (dryB n f at_)) := by
  have HP := Lib.hid hp
  clear hp
  by_cases h0 : 0 ≤ at_
  · by_cases h1 : at_ < (n : Int)
    · obtain ⟨k, rfl⟩ : ∃ k : Nat, at_ = k := ⟨at_.toNat, by omega⟩
      obtain ⟨b, off, hA, p⟩ := HP.out.at_ (by omega)
      subst hA
      have lb := p.lt
      have c := p.at_ k (by omega)
      have FR : Hid (∀ w, Gives Tryd.prog 62 #[.int .i64 0, .int .i64 k, .int .i64 ((n : Int) - 1)] w (.bool true)) := fun w => (show (decide ((0 : Int) ≤ k) && decide ((k : Int) ≤ (n : Int) - 1)) = true by simp; omega) ▸ from_any 0 k ((n : Int) - 1) w
      clear p
      by_cases h2 : f k = 2
      · have HR : Hid (dryB n f (k : Nat) = false) := by show _ = _; unfold dryB; simp [h2]
        generalize dryB n f (k : Nat) = r at HR ⊢
        rw [h2] at c
        clear h2
        go_enter Tryd.func89, Tryd.ntmps89
        go_wp2_with (go_at_call 62; (first | (with_reducible show Calls _ _ _ (Later.val _) _; with_reducible refine Calls.mono (Later.call _ (FR.out _)) ?_) | (with_reducible refine Calls.mono (Gives.calls (FR.out _)) ?_)); rintro e w1 ⟨rfl, z, rfl⟩)
        go_ret
        exact ⟨ret_bool (by rw [HR.out]), later_of (by repeat (first | exact Below.refl _ _ | (with_reducible assumption) | apply below_later | apply below_alloc | apply below_drew | apply below_drewN))⟩
      · have HR : Hid (dryB n f (k : Nat) = true) := by show _ = _; unfold dryB; simp [h2]; omega
        generalize dryB n f (k : Nat) = r at HR ⊢
        have q : (f k != 2) = true := by simpa using h2
        clear h2
        go_enter Tryd.func89, Tryd.ntmps89
        go_wp2_with (go_at_call 62; (first | (with_reducible show Calls _ _ _ (Later.val _) _; with_reducible refine Calls.mono (Later.call _ (FR.out _)) ?_) | (with_reducible refine Calls.mono (Gives.calls (FR.out _)) ?_)); rintro e w1 ⟨rfl, z, rfl⟩)
        go_ret
        exact ⟨ret_bool (by rw [HR.out]), later_of (by repeat (first | exact Below.refl _ _ | (with_reducible assumption) | apply below_later | apply below_alloc | apply below_drew | apply below_drewN))⟩
    · have HR : Hid (dryB n f at_ = false) := by show _ = _; unfold dryB; simp [h1]
      generalize dryB n f at_ = r at HR ⊢
      have FR : Hid (∀ w, Gives Tryd.prog 62 #[.int .i64 0, .int .i64 at_, .int .i64 ((n : Int) - 1)] w (.bool false)) := fun w => (show (decide ((0 : Int) ≤ at_) && decide (at_ ≤ (n : Int) - 1)) = false by simp; omega) ▸ from_any 0 at_ ((n : Int) - 1) w
      go_enter Tryd.func89, Tryd.ntmps89
      go_wp2_with (go_at_call 62; (first | (with_reducible show Calls _ _ _ (Later.val _) _; with_reducible refine Calls.mono (Later.call _ (FR.out _)) ?_) | (with_reducible refine Calls.mono (Gives.calls (FR.out _)) ?_)); rintro e w1 ⟨rfl, z, rfl⟩)
      go_ret
      exact ⟨ret_bool (by rw [HR.out]), later_of (by repeat (first | exact Below.refl _ _ | (with_reducible assumption) | apply below_later | apply below_alloc | apply below_drew | apply below_drewN))⟩
  · have HR : Hid (dryB n f at_ = false) := by show _ = _; unfold dryB; simp [h0]
    generalize dryB n f at_ = r at HR ⊢
    have FR : Hid (∀ w, Gives Tryd.prog 62 #[.int .i64 0, .int .i64 at_, .int .i64 ((n : Int) - 1)] w (.bool false)) := fun w => (show (decide ((0 : Int) ≤ at_) && decide (at_ ≤ (n : Int) - 1)) = false by simp; omega) ▸ from_any 0 at_ ((n : Int) - 1) w
    go_enter Tryd.func89, Tryd.ntmps89
    go_wp2_with (go_at_call 62; (first | (with_reducible show Calls _ _ _ (Later.val _) _; with_reducible refine Calls.mono (Later.call _ (FR.out _)) ?_) | (with_reducible refine Calls.mono (Gives.calls (FR.out _)) ?_)); rintro e w1 ⟨rfl, z, rfl⟩)
    go_ret
    exact ⟨ret_bool (by rw [HR.out]), later_of (by repeat (first | exact Below.refl _ _ | (with_reducible assumption) | apply below_later | apply below_alloc | apply below_drew | apply below_drewN))⟩
set_option maxHeartbeats 800000 in
theorem rdry_any (W H : Int) (n cap : Nat) (A : Option Addr) (f : Nat → Int) (at_ : Int) (w : World) (hn : n ≤ 1000) (hp : IsInts w A n f) :
    Gives Tryd.prog 91 #[.agg #[.int .i64 W, .int .i64 H, .slice A n cap], .int .i64 at_] w (.bool (dryB n f at_)) := by
  have HP := Lib.hid hp
  clear hp
  by_cases h0 : 0 ≤ at_
  · by_cases h1 : at_ < (n : Int)
    · obtain ⟨k, rfl⟩ : ∃ k : Nat, at_ = k := ⟨at_.toNat, by omega⟩
      obtain ⟨b, off, hA, p⟩ := HP.out.at_ (by omega)
      subst hA
      have lb := p.lt
      have c := p.at_ k (by omega)
      have FR : Hid (∀ w, Gives Tryd.prog 62 #[.int .i64 0, .int .i64 k, .int .i64 ((n : Int) - 1)] w (.bool true)) := fun w => (show (decide ((0 : Int) ≤ k) && decide ((k : Int) ≤ (n : Int) - 1)) = true by simp; omega) ▸ from_any 0 k ((n : Int) - 1) w
      clear p
      by_cases h2 : f k = 2
      · have HR : Hid (dryB n f (k : Nat) = false) := by show _ = _; unfold dryB; simp [h2]
        generalize dryB n f (k : Nat) = r at HR ⊢
        rw [h2] at c
        clear h2
        go_enter Tryd.func91, Tryd.ntmps91
        go_wp2_with (go_at_call 62; (first | (with_reducible show Calls _ _ _ (Later.val _) _; with_reducible refine Calls.mono (Later.call _ (FR.out _)) ?_) | (with_reducible refine Calls.mono (Gives.calls (FR.out _)) ?_)); rintro e w1 ⟨rfl, z, rfl⟩)
        go_ret
        exact ⟨ret_bool (by rw [HR.out]), later_of (by repeat (first | exact Below.refl _ _ | (with_reducible assumption) | apply below_later | apply below_alloc | apply below_drew | apply below_drewN))⟩
      · have HR : Hid (dryB n f (k : Nat) = true) := by show _ = _; unfold dryB; simp [h2]; omega
        generalize dryB n f (k : Nat) = r at HR ⊢
        have q : (f k != 2) = true := by simpa using h2
        clear h2
        go_enter Tryd.func91, Tryd.ntmps91
        go_wp2_with (go_at_call 62; (first | (with_reducible show Calls _ _ _ (Later.val _) _; with_reducible refine Calls.mono (Later.call _ (FR.out _)) ?_) | (with_reducible refine Calls.mono (Gives.calls (FR.out _)) ?_)); rintro e w1 ⟨rfl, z, rfl⟩)
        go_ret
        exact ⟨ret_bool (by rw [HR.out]), later_of (by repeat (first | exact Below.refl _ _ | (with_reducible assumption) | apply below_later | apply below_alloc | apply below_drew | apply below_drewN))⟩
    · have HR : Hid (dryB n f at_ = false) := by show _ = _; unfold dryB; simp [h1]
      generalize dryB n f at_ = r at HR ⊢
      have FR : Hid (∀ w, Gives Tryd.prog 62 #[.int .i64 0, .int .i64 at_, .int .i64 ((n : Int) - 1)] w (.bool false)) := fun w => (show (decide ((0 : Int) ≤ at_) && decide (at_ ≤ (n : Int) - 1)) = false by simp; omega) ▸ from_any 0 at_ ((n : Int) - 1) w
      go_enter Tryd.func91, Tryd.ntmps91
      go_wp2_with (go_at_call 62; (first | (with_reducible show Calls _ _ _ (Later.val _) _; with_reducible refine Calls.mono (Later.call _ (FR.out _)) ?_) | (with_reducible refine Calls.mono (Gives.calls (FR.out _)) ?_)); rintro e w1 ⟨rfl, z, rfl⟩)
      go_ret
      exact ⟨ret_bool (by rw [HR.out]), later_of (by repeat (first | exact Below.refl _ _ | (with_reducible assumption) | apply below_later | apply below_alloc | apply below_drew | apply below_drewN))⟩
  · have HR : Hid (dryB n f at_ = false) := by show _ = _; unfold dryB; simp [h0]
    generalize dryB n f at_ = r at HR ⊢
    have FR : Hid (∀ w, Gives Tryd.prog 62 #[.int .i64 0, .int .i64 at_, .int .i64 ((n : Int) - 1)] w (.bool false)) := fun w => (show (decide ((0 : Int) ≤ at_) && decide (at_ ≤ (n : Int) - 1)) = false by simp; omega) ▸ from_any 0 at_ ((n : Int) - 1) w
    go_enter Tryd.func91, Tryd.ntmps91
    go_wp2_with (go_at_call 62; (first | (with_reducible show Calls _ _ _ (Later.val _) _; with_reducible refine Calls.mono (Later.call _ (FR.out _)) ?_) | (with_reducible refine Calls.mono (Gives.calls (FR.out _)) ?_)); rintro e w1 ⟨rfl, z, rfl⟩)
    go_ret
    exact ⟨ret_bool (by rw [HR.out]), later_of (by repeat (first | exact Below.refl _ _ | (with_reducible assumption) | apply below_later | apply below_alloc | apply below_drew | apply below_drewN))⟩
end Go.Proofs.YtmielpcidhphaaaDoor
