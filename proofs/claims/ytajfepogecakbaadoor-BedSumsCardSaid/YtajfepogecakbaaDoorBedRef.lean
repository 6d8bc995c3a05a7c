/- The document's own Valid of layer 2; which maps are large. -/
import Derived.Test.YtajfepogecakbaaDoorBedValid
namespace Go.Proofs.YtajfepogecakbaaDoor
open Go.RowKit

theorem large_any (W H : Int) (A : Option Addr) (n cap : Nat) (w : World) :
    Gives Tryd.prog 15 #[.agg #[.int .i64 W, .int .i64 H, .slice A n cap]] w (.bool (decide (1000 < n))) := by
  by_cases h : 1000 < n
  · have HD : Hid (decide (1000 < n) = true) := by show _ = _; simpa using h
    generalize decide (1000 < n) = d at HD ⊢
    have h' : (1000 : Int) < (n : Int) := by omega
    go_enter Tryd.func15, Tryd.ntmps15
    go_wp2
    go_ret
    exact ⟨ret_bool (by rw [HD.out]), later_of (by repeat (first | exact Below.refl _ _ | (with_reducible assumption) | apply below_later | apply below_alloc | apply below_drew | apply below_drewN))⟩
  · have HD : Hid (decide (1000 < n) = false) := by show _ = _; simpa using h
    generalize decide (1000 < n) = d at HD ⊢
    have h' : ¬ (1000 : Int) < (n : Int) := by omega
    go_enter Tryd.func15, Tryd.ntmps15
    go_wp2
    go_ret
    exact ⟨ret_bool (by rw [HD.out]), later_of (by repeat (first | exact Below.refl _ _ | (with_reducible assumption) | apply below_later | apply below_alloc | apply below_drew | apply below_drewN))⟩
theorem from_any (a n c : Int) (w : World) : Gives Tryd.prog 62 #[.int .i64 a, .int .i64 n, .int .i64 c] w (.bool (decide (a ≤ n) && decide (n ≤ c))) := by
  by_cases h1 : a ≤ n <;> by_cases h2 : n ≤ c
  all_goals
    have HD := Lib.hid (show (decide (a ≤ n) && decide (n ≤ c)) = (decide (a ≤ n) && decide (n ≤ c)) from rfl)
    generalize hr : (decide (a ≤ n) && decide (n ≤ c)) = r at HD ⊢
    have HR := Lib.hid hr
    clear hr HD
    go_enter Tryd.func62, Tryd.ntmps62
    go_wp2
    go_ret
    exact ⟨ret_bool (by rw [← HR.out]; simp [h1, h2]), later_of (by repeat (first | exact Below.refl _ _ | (with_reducible assumption) | apply below_later | apply below_alloc | apply below_drew | apply below_drewN))⟩
theorem fromSide (n : Int) (w : World) : Gives Tryd.prog 62 #[.int .i64 1, .int .i64 n, .int .i64 30] w (.bool (sideB n)) := from_any 1 n 30 w
theorem fromKind (n : Int) (w : World) : Gives Tryd.prog 62 #[.int .i64 1, .int .i64 n, .int .i64 4] w (.bool (kindB n)) := from_any 1 n 4 w

set_option maxRecDepth 100000 in
set_option maxHeartbeats 1600000 in
theorem rmvalid_any (W H : Int) (A : Option Addr) (n cap : Nat) (f : Nat → Int) (w : World) (hp : IsInts w A n f) :
    Gives Tryd.prog 20 #[.agg #[.int .i64 W, .int .i64 H, .slice A n cap]] w (.bool (validM W H n f)) := by
  have small := hp.small
  have HP := Lib.hid hp
  clear hp
  cases h1 : sideB W
  · have e : validM W H n f = false := by simp [validM, h1]
    have HE := Lib.hid e
    have S1 : Hid (∀ w, Gives Tryd.prog 62 #[.int .i64 1, .int .i64 W, .int .i64 30] w (.bool false)) := fun w => h1 ▸ fromSide _ w
    clear h1 e
    go_enter Tryd.func20, Tryd.ntmps20
    go_wp2_with (go_at_call 62; (first | (with_reducible show Calls _ _ _ (Later.val _) _; with_reducible refine Calls.mono (Later.call _ (S1.out _)) ?_) | (with_reducible refine Calls.mono (Gives.calls (S1.out _)) ?_)); rintro e w1 ⟨rfl, z, rfl⟩)
    go_ret
    exact ⟨ret_bool (by rw [HE.out]), later_of (by repeat (first | exact Below.refl _ _ | (with_reducible assumption) | apply below_later | apply below_alloc | apply below_drew | apply below_drewN))⟩
  · have S1 : Hid (∀ w, Gives Tryd.prog 62 #[.int .i64 1, .int .i64 W, .int .i64 30] w (.bool true)) := fun w => h1 ▸ fromSide _ w
    cases h2 : sideB H
    · have e : validM W H n f = false := by simp [validM, h2]
      have HE := Lib.hid e
      have S2 : Hid (∀ w, Gives Tryd.prog 62 #[.int .i64 1, .int .i64 H, .int .i64 30] w (.bool false)) := fun w => h2 ▸ fromSide _ w
      clear h1 h2 e
      go_enter Tryd.func20, Tryd.ntmps20
      go_wp2_with (first | (go_at_call 62; (first | (with_reducible show Calls _ _ _ (Later.val _) _; with_reducible refine Calls.mono (Later.call _ (S1.out _)) ?_) | (with_reducible refine Calls.mono (Gives.calls (S1.out _)) ?_)); rintro e w1 ⟨rfl, z, rfl⟩) | (go_at_call 62; (first | (with_reducible show Calls _ _ _ (Later.val _) _; with_reducible refine Calls.mono (Later.call _ (S2.out _)) ?_) | (with_reducible refine Calls.mono (Gives.calls (S2.out _)) ?_)); rintro e w1 ⟨rfl, z2, rfl⟩))
      go_ret
      exact ⟨ret_bool (by rw [HE.out]), later_of (by repeat (first | exact Below.refl _ _ | (with_reducible assumption) | apply below_later | apply below_alloc | apply below_drew | apply below_drewN))⟩
    · have S2 : Hid (∀ w, Gives Tryd.prog 62 #[.int .i64 1, .int .i64 H, .int .i64 30] w (.bool true)) := fun w => h2 ▸ fromSide _ w
      obtain ⟨w1, w2⟩ := sideB_iff.1 h1
      obtain ⟨w3, w4⟩ := sideB_iff.1 h2
      obtain ⟨x, rfl⟩ : ∃ x : Nat, W = x := ⟨W.toNat, by omega⟩
      obtain ⟨y, rfl⟩ : ∃ y : Nat, H = y := ⟨H.toNat, by omega⟩
      have hb : 0 ≤ (x : Int) * (y : Int) := Int.mul_nonneg (by omega) (by omega)
      have hb9 : (x : Int) * (y : Int) ≤ 900 := by
        have := Int.mul_le_mul w2 w4 (by omega) (by omega)
        omega
      by_cases hn : n = x * y
      · have hni : (n : Int) = (x : Int) * (y : Int) := by rw [hn, Int.natCast_mul]
        have hn9 : n ≤ 900 := by omega
        have h0 : 0 < n := by
          have := Nat.mul_le_mul (show 1 ≤ x by omega) (show 1 ≤ y by omega)
          omega
        obtain ⟨b, off, hA, p⟩ := HP.out.at_ h0
        subst hA
        have P := Lib.hid p
        have lb := p.lt
        have e : validM x y n f = allB n fun i => kindB (f i) := by simp [validM, h1, h2, hni]
        have HE := Lib.hid e
        have q : ((n : Int) != (x : Int) * (y : Int)) = false := by simp [hni]
        clear h1 h2 e hn hni p
        go_enter Tryd.func20, Tryd.ntmps20
        go_wp2_with (first | (go_at_call 62; (first | (with_reducible show Calls _ _ _ (Later.val _) _; with_reducible refine Calls.mono (Later.call _ (S1.out _)) ?_) | (with_reducible refine Calls.mono (Gives.calls (S1.out _)) ?_)); rintro e w1 ⟨rfl, z, rfl⟩) | (go_at_call 62; (first | (with_reducible show Calls _ _ _ (Later.val _) _; with_reducible refine Calls.mono (Later.call _ (S2.out _)) ?_) | (with_reducible refine Calls.mono (Gives.calls (S2.out _)) ?_)); rintro e w1 ⟨rfl, z2, rfl⟩))
        go_loopw [3] (fun v wr => ∃ k : Nat, k ≤ n ∧ v = .int .i64 k ∧ (∀ i, i < k → kindB (f i) = true) ∧ ∃ x' : Later (w.alloc (.cells #[.int .i64 x, .int .i64 y, .slice (some ⟨b, off, none⟩) n cap] 24)), wr = x'.val) (fun v _ => n - (intOf v).toNat)
        case atStart => exact ⟨0, by omega, rfl, fun i hi => absurd hi (by omega), later_of (by repeat (first | exact Below.refl _ _ | (with_reducible assumption) | apply below_later | apply below_alloc | apply below_drew | apply below_drewN))⟩
        case round =>
          obtain ⟨k, hk, rfl, hall, x', rfl⟩ := hrel
          have HALL := Lib.hid hall
          clear hall
          by_cases hlt : k < n
          · have c1 : x'.val.cell? ⟨b, off + k, none⟩ = some (.int .i64 (f k)) := (x'.cell b (off + k) (by simp; omega)).trans ((World.cell?_alloc_lt _ _ _ (by simpa using lb)).trans (P.out.at_ k hlt))
            cases hkb : kindB (f k)
            · have K1 : Hid (∀ w, Gives Tryd.prog 62 #[.int .i64 1, .int .i64 (f k), .int .i64 4] w (.bool false)) := fun w => hkb ▸ fromKind _ w
              have HF := Lib.hid (allB_false (p := fun i => kindB (f i)) hlt hkb)
              clear hkb
              go_wp2_with (go_at_call 62; (first | (with_reducible show Calls _ _ _ (Later.val _) _; with_reducible refine Calls.mono (Later.call _ (K1.out _)) ?_) | (with_reducible refine Calls.mono (Gives.calls (K1.out _)) ?_)); rintro e w1 ⟨rfl, z3, rfl⟩)
              go_ret
              exact ⟨ret_bool (by rw [HE.out, HF.out]), later_of (by repeat (first | exact Below.refl _ _ | (with_reducible assumption) | apply below_later | apply below_alloc | apply below_drew | apply below_drewN))⟩
            · have K1 : Hid (∀ w, Gives Tryd.prog 62 #[.int .i64 1, .int .i64 (f k), .int .i64 4] w (.bool true)) := fun w => hkb ▸ fromKind _ w
              have HN := Lib.hid (all_step (p := fun i => kindB (f i)) HALL.out hkb)
              clear hkb
              go_wp2_with (go_at_call 62; (first | (with_reducible show Calls _ _ _ (Later.val _) _; with_reducible refine Calls.mono (Later.call _ (K1.out _)) ?_) | (with_reducible refine Calls.mono (Gives.calls (K1.out _)) ?_)); rintro e w1 ⟨rfl, z3, rfl⟩)
              go_roundw
              case rel => exact ⟨k + 1, by omega, by go_num, HN.out, later_of (by repeat (first | exact Below.refl _ _ | (with_reducible assumption) | apply below_later | apply below_alloc | apply below_drew | apply below_drewN))⟩
              case measure => simp [intOf]; omega
          · obtain rfl : k = n := by omega
            go_wp2
            go_ret
            exact ⟨ret_bool (by rw [HE.out, allB_true HALL.out]), later_of (by repeat (first | exact Below.refl _ _ | (with_reducible assumption) | apply below_later | apply below_alloc | apply below_drew | apply below_drewN))⟩
      · have hn' : ((n : Int) != (x : Int) * (y : Int)) = true := by
          rw [← Int.natCast_mul]; simp; omega
        have e : validM x y n f = false := by
          have : ¬ (n : Int) = (x : Int) * (y : Int) := by rw [← Int.natCast_mul]; omega
          simp [validM, this]
        have HE := Lib.hid e
        clear h1 h2 e hn
        go_enter Tryd.func20, Tryd.ntmps20
        go_wp2_with (first | (go_at_call 62; (first | (with_reducible show Calls _ _ _ (Later.val _) _; with_reducible refine Calls.mono (Later.call _ (S1.out _)) ?_) | (with_reducible refine Calls.mono (Gives.calls (S1.out _)) ?_)); rintro e w1 ⟨rfl, z, rfl⟩) | (go_at_call 62; (first | (with_reducible show Calls _ _ _ (Later.val _) _; with_reducible refine Calls.mono (Later.call _ (S2.out _)) ?_) | (with_reducible refine Calls.mono (Gives.calls (S2.out _)) ?_)); rintro e w1 ⟨rfl, z2, rfl⟩))
        go_ret
        exact ⟨ret_bool (by rw [HE.out]), later_of (by repeat (first | exact Below.refl _ _ | (with_reducible assumption) | apply below_later | apply below_alloc | apply below_drew | apply below_drewN))⟩
end Go.Proofs.YtajfepogecakbaaDoor
