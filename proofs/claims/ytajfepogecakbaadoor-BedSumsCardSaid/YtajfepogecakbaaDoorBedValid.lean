/- bed.count, bed.Valid and bed.Count. -/
import Derived.Test.YtajfepogecakbaaDoorOwnI
import Derived.RegionTactic
import Derived.BigRegion
namespace Go.Proofs.YtajfepogecakbaaDoor
open Go.RowKit

def validM (W H : Int) (n : Nat) (f : Nat → Int) : Bool := sideB W && sideB H && decide ((n : Int) = W * H) && allB n fun i => kindB (f i)
theorem validM_iff {W H : Int} {n : Nat} {f : Nat → Int} : validM W H n f = true ↔ (1 ≤ W ∧ W ≤ 30) ∧ (1 ≤ H ∧ H ≤ 30) ∧ (n : Int) = W * H ∧ ∀ i, i < n → 1 ≤ f i ∧ f i ≤ 4 := by
  unfold validM
  rw [Bool.and_eq_true, Bool.and_eq_true, Bool.and_eq_true, sideB_iff, sideB_iff, decide_eq_true_eq, allB_iff]
  constructor
  · rintro ⟨⟨⟨h1, h2⟩, h3⟩, h4⟩; exact ⟨h1, h2, h3, fun i hi => kindB_iff.1 (h4 i hi)⟩
  · rintro ⟨h1, h2, h3, h4⟩; exact ⟨⟨⟨h1, h2⟩, h3⟩, fun i hi => kindB_iff.2 (h4 i hi)⟩

set_option maxRecDepth 100000 in
set_option maxHeartbeats 1600000 in
/-- How many squares have a kind that is asked for: of those that are valid. -/
theorem count_kind (W H n cap : Nat) (A : Option Addr) (f : Nat → Int) (w : World) (hW : W ≤ 30) (hH : H ≤ 30) (hn : n = W * H) (h0 : 0 < n) (hp : IsInts w A n f) :
    Gives Tryd.prog 60 #[.agg #[.int .i64 W, .int .i64 H, .slice A n cap], .func (.func 61) #[] #[]] w (.int .i64 (cntB n fun i => kindB (f i))) := by
  have hn9 : n ≤ 900 := by rw [hn]; exact Nat.mul_le_mul hW hH
  have hmul : (W : Int) * (H : Int) = (n : Int) := by rw [hn]; exact (Int.natCast_mul _ _).symm
  obtain ⟨b, off, rfl, p⟩ := hp.at_ h0
  have P := Lib.hid p
  have lb := p.lt
  have HM := Lib.hid hmul
  have HN := Lib.hid hn
  have hmb : (W : Int) * (H : Int) ≤ 900 := by rw [hmul]; omega
  have hm0 : 0 ≤ (W : Int) * (H : Int) := by rw [hmul]; omega
  clear p hp hmul hn
  go_enter Tryd.func60, Tryd.ntmps60
  go_wp2
  go_loopw [5, 12] (fun u v wr => ∃ k : Nat, k ≤ n ∧ u = .int .i64 (cntB k fun i => kindB (f i)) ∧ v = .int .i64 k ∧ ∃ x : Later (w.alloc (.cells #[.int .i64 W, .int .i64 H, .slice (some ⟨b, off, none⟩) n cap] 24)), wr = x.val) (fun _ v _ => n - (intOf v).toNat)
  case atStart => exact ⟨0, by omega, rfl, rfl, later_of (by repeat (first | exact Below.refl _ _ | (with_reducible assumption) | apply below_later | apply below_alloc | apply below_drew | apply below_drewN))⟩
  case round =>
    obtain ⟨k, hk, rfl, rfl, x, rfl⟩ := hrel
    have hc := cntB_le k fun i => kindB (f i)
    have HC : Hid (cntB (k + 1) (fun i => kindB (f i)) = cntB k (fun i => kindB (f i)) + if kindB (f k) then 1 else 0) := cntB_succ _ _
    generalize hcc : cntB k (fun i => kindB (f i)) = c at *
    have HCC := Lib.hid hcc
    clear hcc
    by_cases hlt : k < n
    · have hlt' : (k : Int) < (W : Int) * (H : Int) := by rw [HM.out]; omega
      have c1 : x.val.cell? ⟨b, off + k, none⟩ = some (.int .i64 (f k)) := (x.cell b (off + k) (by simp; omega)).trans ((cell_alloc1 lb).trans (P.out.at_ k hlt))
      cases hkb : kindB (f k)
      · rw [hkb] at HC
        have K1 : Hid (∀ w, Gives Tryd.prog 61 #[.int .i64 (f k)] w (.bool false)) := fun w => hkb ▸ isKind_any _ w
        clear hkb
        go_wp2_with (go_at_call 61; (first | (with_reducible show Calls _ _ _ (Later.val _) _; with_reducible refine Calls.mono (Later.call _ (K1.out _)) ?_) | (with_reducible refine Calls.mono (Gives.calls (K1.out _)) ?_)); rintro e w1 ⟨rfl, z, rfl⟩)
        go_roundw
        case rel => exact ⟨k + 1, by omega, by rw [HC.out]; rfl, by go_num, later_of (by repeat (first | exact Below.refl _ _ | (with_reducible assumption) | apply below_later | apply below_alloc | apply below_drew | apply below_drewN))⟩
        case measure => simp [intOf]; omega
      · rw [hkb] at HC
        have K1 : Hid (∀ w, Gives Tryd.prog 61 #[.int .i64 (f k)] w (.bool true)) := fun w => hkb ▸ isKind_any _ w
        clear hkb
        go_wp2_with (go_at_call 61; (first | (with_reducible show Calls _ _ _ (Later.val _) _; with_reducible refine Calls.mono (Later.call _ (K1.out _)) ?_) | (with_reducible refine Calls.mono (Gives.calls (K1.out _)) ?_)); rintro e w1 ⟨rfl, z, rfl⟩)
        go_roundw
        case rel => exact ⟨k + 1, by omega, by rw [HC.out]; go_num, by go_num, later_of (by repeat (first | exact Below.refl _ _ | (with_reducible assumption) | apply below_later | apply below_alloc | apply below_drew | apply below_drewN))⟩
        case measure => simp [intOf]; omega
    · obtain rfl : k = n := by omega
      have hlt' : ¬ (k : Int) < (W : Int) * (H : Int) := by rw [HM.out]; omega
      go_wp2
      go_ret
      exact ⟨ret_int (by rw [HCC.out]), later_of (by repeat (first | exact Below.refl _ _ | (with_reducible assumption) | apply below_later | apply below_alloc | apply below_drew | apply below_drewN))⟩

theorem cntB_eq {n : Nat} {p : Nat → Bool} : ((cntB n p : Nat) : Int) = (n : Int) ↔ allB n p = true := by
  rw [← cntB_all]; omega

set_option maxRecDepth 100000 in
set_option maxHeartbeats 1600000 in
theorem bvalid_any (W H : Int) (A : Option Addr) (n cap : Nat) (f : Nat → Int) (w : World) (hp : IsInts w A n f) :
    Gives Tryd.prog 19 #[.agg #[.int .i64 W, .int .i64 H, .slice A n cap]] w (.bool (validM W H n f)) := by
  have small := hp.small
  have HP := Lib.hid hp
  clear hp
  cases h1 : sideB W
  · have e : validM W H n f = false := by simp [validM, h1]
    have HE := Lib.hid e
    have S1 : Hid (∀ w, Gives Tryd.prog 59 #[.int .i64 W] w (.bool false)) := fun w => h1 ▸ isSide_any _ w
    clear h1 e
    go_enter Tryd.func19, Tryd.ntmps19
    go_wp2_with (go_at_call 59; (first | (with_reducible show Calls _ _ _ (Later.val _) _; with_reducible refine Calls.mono (Later.call _ (S1.out _)) ?_) | (with_reducible refine Calls.mono (Gives.calls (S1.out _)) ?_)); rintro e w1 ⟨rfl, z, rfl⟩)
    go_ret
    exact ⟨ret_bool (by rw [HE.out]), later_of (by repeat (first | exact Below.refl _ _ | (with_reducible assumption) | apply below_later | apply below_alloc | apply below_drew | apply below_drewN))⟩
  · have S1 : Hid (∀ w, Gives Tryd.prog 59 #[.int .i64 W] w (.bool true)) := fun w => h1 ▸ isSide_any _ w
    cases h2 : sideB H
    · have e : validM W H n f = false := by simp [validM, h2]
      have HE := Lib.hid e
      have S2 : Hid (∀ w, Gives Tryd.prog 59 #[.int .i64 H] w (.bool false)) := fun w => h2 ▸ isSide_any _ w
      clear h1 h2 e
      go_enter Tryd.func19, Tryd.ntmps19
      go_wp2_with (first | (go_at_call 59; (first | (with_reducible show Calls _ _ _ (Later.val _) _; with_reducible refine Calls.mono (Later.call _ (S1.out _)) ?_) | (with_reducible refine Calls.mono (Gives.calls (S1.out _)) ?_)); rintro e w1 ⟨rfl, z, rfl⟩) | (go_at_call 59; (first | (with_reducible show Calls _ _ _ (Later.val _) _; with_reducible refine Calls.mono (Later.call _ (S2.out _)) ?_) | (with_reducible refine Calls.mono (Gives.calls (S2.out _)) ?_)); rintro e w1 ⟨rfl, z2, rfl⟩))
      go_ret
      exact ⟨ret_bool (by rw [HE.out]), later_of (by repeat (first | exact Below.refl _ _ | (with_reducible assumption) | apply below_later | apply below_alloc | apply below_drew | apply below_drewN))⟩
    · have S2 : Hid (∀ w, Gives Tryd.prog 59 #[.int .i64 H] w (.bool true)) := fun w => h2 ▸ isSide_any _ w
      obtain ⟨w1, w2⟩ := sideB_iff.1 h1
      obtain ⟨w3, w4⟩ := sideB_iff.1 h2
      obtain ⟨x, rfl⟩ : ∃ x : Nat, W = x := ⟨W.toNat, by omega⟩
      obtain ⟨y, rfl⟩ : ∃ y : Nat, H = y := ⟨H.toNat, by omega⟩
      have hb : 0 ≤ (x : Int) * (y : Int) := Int.mul_nonneg (by omega) (by omega)
      have hb2 : (x : Int) * (y : Int) ≤ 900 := by
        have := Int.mul_le_mul w2 w4 (by omega) (by omega)
        omega
      by_cases hn : n = x * y
      · have hn' : ((n : Int) != (x : Int) * (y : Int)) = false := by
          rw [hn, Int.natCast_mul]; simp
        have hn1 : 0 < n := by
          have := Nat.mul_le_mul (show 1 ≤ x by omega) (show 1 ≤ y by omega)
          omega
        have C : Hid (∀ w', IsInts w' A n f → Gives Tryd.prog 60 #[.agg #[.int .i64 x, .int .i64 y, .slice A n cap], .func (.func 61) #[] #[]] w' (.int .i64 (cntB n fun i => kindB (f i)))) := fun w' h => count_kind x y n cap A f w' (by omega) (by omega) hn hn1 h
        have e : validM x y n f = allB n fun i => kindB (f i) := by
          have : (n : Int) = (x : Int) * (y : Int) := by rw [hn, Int.natCast_mul]
          simp [validM, h1, h2, this]
        have HE := Lib.hid e
        have E2 := Lib.hid (cntB_eq (n := n) (p := fun i => kindB (f i)))
        clear h1 h2 e hn
        generalize cntB n (fun i => kindB (f i)) = c at *
        generalize allB n (fun i => kindB (f i)) = al at *
        by_cases hcn : (c : Int) = (n : Int)
        · have q : ((c : Int) == (n : Int)) = true := by simpa using hcn
          have HA : Hid (al = true) := E2.out.1 hcn
          clear hcn E2
          go_enter Tryd.func19, Tryd.ntmps19
          go_wp2_with (first | (go_at_call 59; (first | (with_reducible show Calls _ _ _ (Later.val _) _; with_reducible refine Calls.mono (Later.call _ (S1.out _)) ?_) | (with_reducible refine Calls.mono (Gives.calls (S1.out _)) ?_)); rintro e w1 ⟨rfl, z, rfl⟩) | (go_at_call 59; (first | (with_reducible show Calls _ _ _ (Later.val _) _; with_reducible refine Calls.mono (Later.call _ (S2.out _)) ?_) | (with_reducible refine Calls.mono (Gives.calls (S2.out _)) ?_)); rintro e w1 ⟨rfl, z2, rfl⟩))
          first | (with_reducible show Code.wp _ _ _ _ (Later.val _); refine wp_region_later_at _ (by kernel_rfl) (by kernel_rfl) ?_) | refine wp_region_later (by kernel_rfl) (by kernel_rfl) ?_
          repeat (go_big_quiet_step ((go_at_call 60; (with_reducible refine Later.call _ (C.out _ (HP.out.later ⟨_, by repeat (first | exact Below.refl _ _ | (with_reducible assumption) | apply below_later | apply below_alloc | apply below_drew | apply below_drewN)⟩))))))
          refine wpQuiet_nil ?_
          intro y
          go_wp2
          go_ret
          exact ⟨ret_bool (by rw [HE.out, HA.out]), later_of (by repeat (first | exact Below.refl _ _ | (with_reducible assumption) | apply below_later | apply below_alloc | apply below_drew | apply below_drewN))⟩
        · have q : ((c : Int) == (n : Int)) = false := by simpa using hcn
          have HA : Hid (al = false) := by
            show _ = _
            cases al with
            | false => rfl
            | true => exact absurd (E2.out.2 rfl) hcn
          clear hcn E2
          go_enter Tryd.func19, Tryd.ntmps19
          go_wp2_with (first | (go_at_call 59; (first | (with_reducible show Calls _ _ _ (Later.val _) _; with_reducible refine Calls.mono (Later.call _ (S1.out _)) ?_) | (with_reducible refine Calls.mono (Gives.calls (S1.out _)) ?_)); rintro e w1 ⟨rfl, z, rfl⟩) | (go_at_call 59; (first | (with_reducible show Calls _ _ _ (Later.val _) _; with_reducible refine Calls.mono (Later.call _ (S2.out _)) ?_) | (with_reducible refine Calls.mono (Gives.calls (S2.out _)) ?_)); rintro e w1 ⟨rfl, z2, rfl⟩))
          first | (with_reducible show Code.wp _ _ _ _ (Later.val _); refine wp_region_later_at _ (by kernel_rfl) (by kernel_rfl) ?_) | refine wp_region_later (by kernel_rfl) (by kernel_rfl) ?_
          repeat (go_big_quiet_step ((go_at_call 60; (with_reducible refine Later.call _ (C.out _ (HP.out.later ⟨_, by repeat (first | exact Below.refl _ _ | (with_reducible assumption) | apply below_later | apply below_alloc | apply below_drew | apply below_drewN)⟩))))))
          refine wpQuiet_nil ?_
          intro y
          go_wp2
          go_ret
          exact ⟨ret_bool (by rw [HE.out, HA.out]), later_of (by repeat (first | exact Below.refl _ _ | (with_reducible assumption) | apply below_later | apply below_alloc | apply below_drew | apply below_drewN))⟩
      · have hn' : ((n : Int) != (x : Int) * (y : Int)) = true := by
          rw [← Int.natCast_mul]; simp; omega
        have e : validM x y n f = false := by
          have : ¬ (n : Int) = (x : Int) * (y : Int) := by rw [← Int.natCast_mul]; omega
          simp [validM, this]
        have HE := Lib.hid e
        clear h1 h2 e hn
        go_enter Tryd.func19, Tryd.ntmps19
        go_wp2_with (first | (go_at_call 59; (first | (with_reducible show Calls _ _ _ (Later.val _) _; with_reducible refine Calls.mono (Later.call _ (S1.out _)) ?_) | (with_reducible refine Calls.mono (Gives.calls (S1.out _)) ?_)); rintro e w1 ⟨rfl, z, rfl⟩) | (go_at_call 59; (first | (with_reducible show Calls _ _ _ (Later.val _) _; with_reducible refine Calls.mono (Later.call _ (S2.out _)) ?_) | (with_reducible refine Calls.mono (Gives.calls (S2.out _)) ?_)); rintro e w1 ⟨rfl, z2, rfl⟩))
        go_ret
        exact ⟨ret_bool (by rw [HE.out]), later_of (by repeat (first | exact Below.refl _ _ | (with_reducible assumption) | apply below_later | apply below_alloc | apply below_drew | apply below_drewN))⟩
end Go.Proofs.YtajfepogecakbaaDoor
