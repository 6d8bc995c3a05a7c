/- WalePlans: which rotations are valid, which lists are plans, and their worth. -/
import Derived.Test.YtnjloomhhgilcaaWRef
namespace Go.Proofs.Ytnjloomhhgilcaa
open Go.RowKit

theorem Long_any (n : Int) (m cap k capB : Nat) (A B : Option Addr) (w : World) : Gives Try.prog 7 #[.agg #[.int .i64 n, .slice A m cap], .slice B k capB] w (.bool (decide (60 < m) || decide (1100 < k))) := by
  by_cases h1 : 60 < m
  · have D : Hid ((decide (60 < m) || decide (1100 < k)) = true) := by show _ = _; simp [h1]
    go_enter Try.func7, Try.ntmps7
    go_wp2
    go_ret
    exact ⟨ret_bool (by first | (simp; done) | exact D.out.symm | (rw [D.out]; simp; try omega)), later_of (by repeat (first | exact Below.refl _ _ | (with_reducible assumption) | apply below_later | apply below_alloc | apply below_drew | apply below_drewN))⟩
  · by_cases h2 : 1100 < k
    · have D : Hid ((decide (60 < m) || decide (1100 < k)) = true) := by show _ = _; simp [h2]
      go_enter Try.func7, Try.ntmps7
      go_wp2
      go_ret
      exact ⟨ret_bool (by first | (simp; done) | exact D.out.symm | (rw [D.out]; simp; try omega)), later_of (by repeat (first | exact Below.refl _ _ | (with_reducible assumption) | apply below_later | apply below_alloc | apply below_drew | apply below_drewN))⟩
    · have D : Hid ((decide (60 < m) || decide (1100 < k)) = false) := by show _ = _; simp [h1, h2]
      go_enter Try.func7, Try.ntmps7
      go_wp2
      go_ret
      exact ⟨ret_bool (by first | (simp; done) | exact D.out.symm | (rw [D.out]; simp; try omega)), later_of (by repeat (first | exact Below.refl _ _ | (with_reducible assumption) | apply below_later | apply below_alloc | apply below_drew | apply below_drewN))⟩
theorem state_any (n s : Int) (m cap : Nat) (A : Option Addr) (w : World) : Gives Try.prog 13 #[.agg #[.int .i64 n, .slice A m cap], .int .i64 s] w (.bool (inS n s)) := by
  have HR : Hid (inS n s = (decide (0 ≤ s) && decide (s < n))) := by
    show inS n s = _
    unfold inS
    simp
  generalize inS n s = r at *
  by_cases h1 : 0 ≤ s <;> by_cases h2 : s < n
  all_goals
    go_enter Try.func13, Try.ntmps13
    go_wp2
    go_ret
    exact ⟨ret_bool (by rw [HR.out]; simp [h1, h2]), later_of (by repeat (first | exact Below.refl _ _ | (with_reducible assumption) | apply below_later | apply below_alloc | apply below_drew | apply below_drewN))⟩
theorem cpE_ne {n start : Int} {m k : Nat} {F T V : Nat → Int} (h : validR n m F T V = false ∨ inS n start = false ∨ 1000 < k) : (cpE n m F T V start k != 0) = true := by
  unfold cpE
  split
  · rfl
  · rw [if_neg]
    · rfl
    · rintro ⟨h1, h2⟩
      rcases h with h | h | h
      · contradiction
      · rw [h1] at h; cases h
      · omega
set_option maxRecDepth 100000 in
theorem IsPlan_bad (n start : Int) (m cap k capB : Nat) (A B : Option Addr) (F T V : Nat → Int) (w : World) (hm : m ≤ 1000) (hp : IsChs w A m F T V) (h : validR n m F T V = false ∨ inS n start = false ∨ 1000 < k) :
    Gives Try.prog 24 #[.int .i64 n, .slice A m cap, .int .i64 start, .slice B k capB] w (.tuple #[.bool false, .int .i64 (cpE n m F T V start k)]) := by
  have CP : Hid (∀ w', IsChs w' A m F T V → Gives Try.prog 44 #[.int .i64 n, .slice A m cap, .int .i64 start, .slice B k capB] w' (.int .i64 (cpE n m F T V start k))) := fun w' h => checkPlan_any n start m cap k capB A B F T V w' hm h
  have he := cpE_ne h
  have HP := Lib.hid hp
  clear hp h
  generalize cpE n m F T V start k = r at *
  go_enter Try.func24, Try.ntmps24
  go_wp2_with (go_at_call 44; (first | (with_reducible show Calls _ _ _ (Later.val _) _; with_reducible refine Calls.mono (Later.call _ (CP.out _ (HP.out.later ⟨_, by repeat (first | exact Below.refl _ _ | (with_reducible assumption) | apply below_later | apply below_alloc | apply below_drew | apply below_drewN)⟩))) ?_) | (with_reducible refine Calls.mono (Gives.calls (CP.out _ (HP.out.later ⟨_, by repeat (first | exact Below.refl _ _ | (with_reducible assumption) | apply below_later | apply below_alloc | apply below_drew | apply below_drewN)⟩))) ?_)); rintro e w1 ⟨rfl, z, rfl⟩)
  go_ret2
  exact ⟨rfl, later_of (by repeat (first | exact Below.refl _ _ | (with_reducible assumption) | apply below_later | apply below_alloc | apply below_drew | apply below_drewN))⟩
set_option maxRecDepth 100000 in
theorem Worth_bad (n start : Int) (m cap k capB : Nat) (A B : Option Addr) (F T V : Nat → Int) (w : World) (hm : m ≤ 1000) (hp : IsChs w A m F T V) (h : validR n m F T V = false ∨ inS n start = false ∨ 1000 < k) :
    Gives Try.prog 25 #[.int .i64 n, .slice A m cap, .int .i64 start, .slice B k capB] w (.tuple #[.int .i64 0, .int .i64 (cpE n m F T V start k)]) := by
  have CP : Hid (∀ w', IsChs w' A m F T V → Gives Try.prog 44 #[.int .i64 n, .slice A m cap, .int .i64 start, .slice B k capB] w' (.int .i64 (cpE n m F T V start k))) := fun w' h => checkPlan_any n start m cap k capB A B F T V w' hm h
  have he := cpE_ne h
  have HP := Lib.hid hp
  clear hp h
  generalize cpE n m F T V start k = r at *
  go_enter Try.func25, Try.ntmps25
  go_wp2_with (go_at_call 44; (first | (with_reducible show Calls _ _ _ (Later.val _) _; with_reducible refine Calls.mono (Later.call _ (CP.out _ (HP.out.later ⟨_, by repeat (first | exact Below.refl _ _ | (with_reducible assumption) | apply below_later | apply below_alloc | apply below_drew | apply below_drewN)⟩))) ?_) | (with_reducible refine Calls.mono (Gives.calls (CP.out _ (HP.out.later ⟨_, by repeat (first | exact Below.refl _ _ | (with_reducible assumption) | apply below_later | apply below_alloc | apply below_drew | apply below_drewN)⟩))) ?_)); rintro e w1 ⟨rfl, z, rfl⟩)
  go_ret2
  exact ⟨rfl, later_of (by repeat (first | exact Below.refl _ _ | (with_reducible assumption) | apply below_later | apply below_alloc | apply below_drew | apply below_drewN))⟩
theorem cpE_ok {n m k start : Nat} {f t : Nat → Nat} {V : Nat → Int} (R : Rot n m f t V) (hs : start < n) (hk : k ≤ 1000) : cpE n m (fun i => (f i : Int)) (fun i => (t i : Int)) V start k = 0 := by
  unfold cpE
  rw [rot_valid R, if_neg (by simp), if_pos ⟨inS_nat hs, hk⟩]
set_option maxRecDepth 100000 in
theorem IsPlan_ok (n m cap k capB start : Nat) (A B : Option Addr) (f t : Nat → Nat) (V : Nat → Int) (c : Nat → Int) (w : World) (hs : start < n) (hk : k ≤ 1000) (R : Rot n m f t V) (hp : IsChs w A m (fun i => (f i : Int)) (fun i => (t i : Int)) V) (hc : IsInts w B k c) :
    Gives Try.prog 24 #[.int .i64 n, .slice A m cap, .int .i64 start, .slice B k capB] w (.tuple #[.bool (fol m f t c start k).isSome, .int .i64 0]) := by
  have CP : Hid (∀ w', IsChs w' A m (fun i => (f i : Int)) (fun i => (t i : Int)) V → Gives Try.prog 44 #[.int .i64 n, .slice A m cap, .int .i64 start, .slice B k capB] w' (.int .i64 0)) := fun w' h => cpE_ok R hs hk ▸ checkPlan_any n start m cap k capB A B _ _ V w' (by have := R.m40; omega) h
  have FO : Hid (∀ w', IsChs w' A m (fun i => (f i : Int)) (fun i => (t i : Int)) V → IsInts w' B k c → Gives Try.prog 45 #[.agg #[.int .i64 n, .slice A m cap], .int .i64 start, .slice B k capB] w' (folV (fol m f t c start k))) := fun w' h1 h2 => follow_any n m cap k capB start A B f t V c w' (by have := R.m40; omega) (by omega) h1 h2
  have HP := Lib.hid hp
  have HC := Lib.hid hc
  clear hp hc R
  cases hf : fol m f t c start k with
  | none =>
    rw [hf] at FO
    have F1 : Hid (∀ w', IsChs w' A m (fun i => (f i : Int)) (fun i => (t i : Int)) V → IsInts w' B k c → Gives Try.prog 45 #[.agg #[.int .i64 n, .slice A m cap], .int .i64 start, .slice B k capB] w' (.tuple #[.int .i64 0, .bool false])) := FO.out
    clear FO hf
    go_enter Try.func24, Try.ntmps24
    go_wp2_with (first
      | (go_at_call 44; (first | (with_reducible show Calls _ _ _ (Later.val _) _; with_reducible refine Calls.mono (Later.call _ (CP.out _ (HP.out.later ⟨_, by repeat (first | exact Below.refl _ _ | (with_reducible assumption) | apply below_later | apply below_alloc | apply below_drew | apply below_drewN)⟩))) ?_) | (with_reducible refine Calls.mono (Gives.calls (CP.out _ (HP.out.later ⟨_, by repeat (first | exact Below.refl _ _ | (with_reducible assumption) | apply below_later | apply below_alloc | apply below_drew | apply below_drewN)⟩))) ?_)); rintro e w1 ⟨rfl, z, rfl⟩)
      | (go_at_call 45; (first | (with_reducible show Calls _ _ _ (Later.val _) _; with_reducible refine Calls.mono (Later.call _ (F1.out _ (HP.out.below (by repeat (first | exact Below.refl _ _ | (with_reducible assumption) | apply below_later | apply below_alloc | apply below_drew | apply below_drewN))) (HC.out.below (by repeat (first | exact Below.refl _ _ | (with_reducible assumption) | apply below_later | apply below_alloc | apply below_drew | apply below_drewN))))) ?_) | (with_reducible refine Calls.mono (Gives.calls (F1.out _ (HP.out.below (by repeat (first | exact Below.refl _ _ | (with_reducible assumption) | apply below_later | apply below_alloc | apply below_drew | apply below_drewN))) (HC.out.below (by repeat (first | exact Below.refl _ _ | (with_reducible assumption) | apply below_later | apply below_alloc | apply below_drew | apply below_drewN))))) ?_)); rintro e w1 ⟨rfl, z2, rfl⟩))
    go_ret2
    exact ⟨rfl, later_of (by repeat (first | exact Below.refl _ _ | (with_reducible assumption) | apply below_later | apply below_alloc | apply below_drew | apply below_drewN))⟩
  | some a =>
    rw [hf] at FO
    have F1 : Hid (∀ w', IsChs w' A m (fun i => (f i : Int)) (fun i => (t i : Int)) V → IsInts w' B k c → Gives Try.prog 45 #[.agg #[.int .i64 n, .slice A m cap], .int .i64 start, .slice B k capB] w' (.tuple #[.int .i64 (a : Nat), .bool true])) := FO.out
    clear FO hf
    go_enter Try.func24, Try.ntmps24
    go_wp2_with (first
      | (go_at_call 44; (first | (with_reducible show Calls _ _ _ (Later.val _) _; with_reducible refine Calls.mono (Later.call _ (CP.out _ (HP.out.later ⟨_, by repeat (first | exact Below.refl _ _ | (with_reducible assumption) | apply below_later | apply below_alloc | apply below_drew | apply below_drewN)⟩))) ?_) | (with_reducible refine Calls.mono (Gives.calls (CP.out _ (HP.out.later ⟨_, by repeat (first | exact Below.refl _ _ | (with_reducible assumption) | apply below_later | apply below_alloc | apply below_drew | apply below_drewN)⟩))) ?_)); rintro e w1 ⟨rfl, z, rfl⟩)
      | (go_at_call 45; (first | (with_reducible show Calls _ _ _ (Later.val _) _; with_reducible refine Calls.mono (Later.call _ (F1.out _ (HP.out.below (by repeat (first | exact Below.refl _ _ | (with_reducible assumption) | apply below_later | apply below_alloc | apply below_drew | apply below_drewN))) (HC.out.below (by repeat (first | exact Below.refl _ _ | (with_reducible assumption) | apply below_later | apply below_alloc | apply below_drew | apply below_drewN))))) ?_) | (with_reducible refine Calls.mono (Gives.calls (F1.out _ (HP.out.below (by repeat (first | exact Below.refl _ _ | (with_reducible assumption) | apply below_later | apply below_alloc | apply below_drew | apply below_drewN))) (HC.out.below (by repeat (first | exact Below.refl _ _ | (with_reducible assumption) | apply below_later | apply below_alloc | apply below_drew | apply below_drewN))))) ?_)); rintro e w1 ⟨rfl, z2, rfl⟩))
    go_ret2
    exact ⟨rfl, later_of (by repeat (first | exact Below.refl _ _ | (with_reducible assumption) | apply below_later | apply below_alloc | apply below_drew | apply below_drewN))⟩
set_option maxRecDepth 100000 in
theorem Worth_ok (n m cap k capB start : Nat) (A B : Option Addr) (f t : Nat → Nat) (V : Nat → Int) (c : Nat → Int) (w : World) (hs : start < n) (hk : k ≤ 1000) (R : Rot n m f t V) (hp : IsChs w A m (fun i => (f i : Int)) (fun i => (t i : Int)) V) (hc : IsInts w B k c) :
    Gives Try.prog 25 #[.int .i64 n, .slice A m cap, .int .i64 start, .slice B k capB] w (if (fol m f t c start k).isSome = true then .tuple #[.int .i64 (wor V (fun i => (c i).toNat) k), .int .i64 0] else .tuple #[.int .i64 0, .int .i64 5]) := by
  have CP : Hid (∀ w', IsChs w' A m (fun i => (f i : Int)) (fun i => (t i : Int)) V → Gives Try.prog 44 #[.int .i64 n, .slice A m cap, .int .i64 start, .slice B k capB] w' (.int .i64 0)) := fun w' h => cpE_ok R hs hk ▸ checkPlan_any n start m cap k capB A B _ _ V w' (by have := R.m40; omega) h
  have FO : Hid (∀ w', IsChs w' A m (fun i => (f i : Int)) (fun i => (t i : Int)) V → IsInts w' B k c → Gives Try.prog 45 #[.agg #[.int .i64 n, .slice A m cap], .int .i64 start, .slice B k capB] w' (folV (fol m f t c start k))) := fun w' h1 h2 => follow_any n m cap k capB start A B f t V c w' (by have := R.m40; omega) (by omega) h1 h2
  have HP := Lib.hid hp
  have HC := Lib.hid hc
  have HR := Lib.hid R
  clear hp hc R
  cases hf : fol m f t c start k with
  | none =>
    rw [hf] at FO
    have F1 : Hid (∀ w', IsChs w' A m (fun i => (f i : Int)) (fun i => (t i : Int)) V → IsInts w' B k c → Gives Try.prog 45 #[.agg #[.int .i64 n, .slice A m cap], .int .i64 start, .slice B k capB] w' (.tuple #[.int .i64 0, .bool false])) := FO.out
    clear FO hf
    rw [if_neg (by simp)]
    go_enter Try.func25, Try.ntmps25
    go_wp2_with (first
      | (go_at_call 44; (first | (with_reducible show Calls _ _ _ (Later.val _) _; with_reducible refine Calls.mono (Later.call _ (CP.out _ (HP.out.later ⟨_, by repeat (first | exact Below.refl _ _ | (with_reducible assumption) | apply below_later | apply below_alloc | apply below_drew | apply below_drewN)⟩))) ?_) | (with_reducible refine Calls.mono (Gives.calls (CP.out _ (HP.out.later ⟨_, by repeat (first | exact Below.refl _ _ | (with_reducible assumption) | apply below_later | apply below_alloc | apply below_drew | apply below_drewN)⟩))) ?_)); rintro e w1 ⟨rfl, z, rfl⟩)
      | (go_at_call 45; with_reducible refine Calls.mono (Gives.calls (F1.out _ (HP.out.below (by repeat (first | exact Below.refl _ _ | (with_reducible assumption) | apply below_later | apply below_alloc | apply below_drew | apply below_drewN))) (HC.out.below (by repeat (first | exact Below.refl _ _ | (with_reducible assumption) | apply below_later | apply below_alloc | apply below_drew | apply below_drewN))))) ?_; rintro e w1 ⟨rfl, z2, rfl⟩))
    go_ret2
    exact ⟨rfl, later_of (by repeat (first | exact Below.refl _ _ | (with_reducible assumption) | apply below_later | apply below_alloc | apply below_drew | apply below_drewN))⟩
  | some a =>
    rw [hf] at FO
    have F1 : Hid (∀ w', IsChs w' A m (fun i => (f i : Int)) (fun i => (t i : Int)) V → IsInts w' B k c → Gives Try.prog 45 #[.agg #[.int .i64 n, .slice A m cap], .int .i64 start, .slice B k capB] w' (.tuple #[.int .i64 (a : Nat), .bool true])) := FO.out
    have hin : ∀ i, i < k → c i = ((c i).toNat : Nat) ∧ (c i).toNat < m := fun i hi => by
      obtain ⟨x, hx, hm⟩ := inS_true (fol_in hf i hi)
      rw [hx, Int.toNat_natCast]
      exact ⟨rfl, hm⟩
    have WO : Hid (∀ w', IsChs w' A m (fun i => (f i : Int)) (fun i => (t i : Int)) V → IsInts w' B k c → Gives Try.prog 46 #[.agg #[.int .i64 n, .slice A m cap], .slice B k capB] w' (.int .i64 (wor V (fun i => (c i).toNat) k))) := fun w' h1 h2 => worth_any n m cap k capB A B f t V (fun i => (c i).toNat) w' (by have := HR.out.m40; omega) (by omega) HR.out.v h1 (h2.congr fun i hi => (hin i hi).1) fun i hi => (hin i hi).2
    clear FO hf hin
    rw [if_pos (show (some a).isSome = true from rfl)]
    generalize wor V (fun i => (c i).toNat) k = W0 at *
    go_enter Try.func25, Try.ntmps25
    go_wp2_with (first
      | (go_at_call 44; (first | (with_reducible show Calls _ _ _ (Later.val _) _; with_reducible refine Calls.mono (Later.call _ (CP.out _ (HP.out.later ⟨_, by repeat (first | exact Below.refl _ _ | (with_reducible assumption) | apply below_later | apply below_alloc | apply below_drew | apply below_drewN)⟩))) ?_) | (with_reducible refine Calls.mono (Gives.calls (CP.out _ (HP.out.later ⟨_, by repeat (first | exact Below.refl _ _ | (with_reducible assumption) | apply below_later | apply below_alloc | apply below_drew | apply below_drewN)⟩))) ?_)); rintro e w1 ⟨rfl, z, rfl⟩)
      | (go_at_call 45; with_reducible refine Calls.mono (Gives.calls (F1.out _ (HP.out.below (by repeat (first | exact Below.refl _ _ | (with_reducible assumption) | apply below_later | apply below_alloc | apply below_drew | apply below_drewN))) (HC.out.below (by repeat (first | exact Below.refl _ _ | (with_reducible assumption) | apply below_later | apply below_alloc | apply below_drew | apply below_drewN))))) ?_; rintro e w1 ⟨rfl, z2, rfl⟩)
      | (go_at_call 46; with_reducible refine Calls.mono (Gives.calls (WO.out _ (HP.out.below (by repeat (first | exact Below.refl _ _ | (with_reducible assumption) | apply below_later | apply below_alloc | apply below_drew | apply below_drewN))) (HC.out.below (by repeat (first | exact Below.refl _ _ | (with_reducible assumption) | apply below_later | apply below_alloc | apply below_drew | apply below_drewN))))) ?_; rintro e w1 ⟨rfl, z3, rfl⟩))
    go_ret2
    exact ⟨rfl, later_of (by repeat (first | exact Below.refl _ _ | (with_reducible assumption) | apply below_later | apply below_alloc | apply below_drew | apply below_drewN))⟩
end Go.Proofs.Ytnjloomhhgilcaa
