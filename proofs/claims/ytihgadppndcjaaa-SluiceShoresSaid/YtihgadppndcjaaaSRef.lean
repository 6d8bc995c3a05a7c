/- The law's own Buckets and Sum: walked. -/
import Derived.Test.YtihgadppndcjaaaSluiceFirst
namespace Go.Proofs.Ytihgadppndcjaaa
open Go.RowKit

set_option maxRecDepth 100000 in
set_option maxHeartbeats 1600000 in
theorem rbuckets_any (W H : Int) (A : Option Addr) (n cap : Nat) (f : Nat → Int) (w : World) (hp : IsInts w A n f) :
    Gives Try.prog 44 #[.int .i64 W, .int .i64 H, .slice A n cap] w (.bool (bucketsB W H n f)) := by
  have SW : Hid (∀ x w, Gives Try.prog 51 #[.int .i64 x, .int .i64 1, .int .i64 16] w (.bool (decide (1 ≤ x) && decide (x ≤ 16)))) := fun x w => within_any 1 x 16 w
  have SF : Hid (∀ x w, Gives Try.prog 51 #[.int .i64 x, .int .i64 0, .int .i64 100] w (.bool (numB 100 x))) := fun x w => by
    have h := within_any 0 x 100 w
    have e : numB 100 x = (decide (0 ≤ x) && decide (x ≤ 100)) := by unfold numB; exact Bool.decide_and ..
    rw [e]; exact h
  have HV : Hid (bucketsB W H n f = (sidesB W H && (decide ((n : Int) = W * H) && allB n fun i => numB 100 (f i)))) := rfl
  have HP := Lib.hid hp
  have small := hp.small
  clear hp
  by_cases hs : (1 ≤ W ∧ W ≤ 16) ∧ 1 ≤ H ∧ H ≤ 16
  · obtain ⟨⟨v1, v3⟩, v2, v4⟩ := hs
    have S1 : Hid (∀ w, Gives Try.prog 51 #[.int .i64 W, .int .i64 1, .int .i64 16] w (.bool true)) := fun w => by
      have h := SW.out W w
      rwa [decide_eq_true v1, decide_eq_true v3] at h
    have S2 : Hid (∀ w, Gives Try.prog 51 #[.int .i64 H, .int .i64 1, .int .i64 16] w (.bool true)) := fun w => by
      have h := SW.out H w
      rwa [decide_eq_true v2, decide_eq_true v4] at h
    have hsd : sidesB W H = true := by unfold sidesB; rw [decide_eq_true (And.intro v1 v2), decide_eq_true (And.intro v3 v4)]; rfl
    rw [hsd, Bool.true_and] at HV
    obtain ⟨W', hW'⟩ : ∃ x : Nat, W = x := ⟨W.toNat, by omega⟩
    obtain ⟨H', hH'⟩ : ∃ x : Nat, H = x := ⟨H.toNat, by omega⟩
    have hb : 0 ≤ W * H ∧ W * H ≤ 256 := by
      subst hW' hH'
      have := Nat.mul_le_mul (show W' ≤ 16 by omega) (show H' ≤ 16 by omega)
      rw [← Int.natCast_mul]; omega
    obtain ⟨hb1, hb2⟩ := hb
    clear SW hsd hW' hH'
    by_cases hc : (n : Int) = W * H
    · rw [decide_eq_true hc, Bool.true_and] at HV
      rw [HV.out]
      have q0 : ((n : Int) != W * H) = false := by rw [← hc]; simp
      clear HV hc
      go_enter Try.func44, Try.ntmps44
      go_wp2_with (first
        | (go_at_call 51; (first | (with_reducible show Calls _ _ _ (Later.val _) _; with_reducible refine Calls.mono (Later.call _ (S1.out _)) ?_) | (with_reducible refine Calls.mono (Gives.calls (S1.out _)) ?_)); rintro e w1 ⟨rfl, z, rfl⟩)
        | (go_at_call 51; (first | (with_reducible show Calls _ _ _ (Later.val _) _; with_reducible refine Calls.mono (Later.call _ (S2.out _)) ?_) | (with_reducible refine Calls.mono (Gives.calls (S2.out _)) ?_)); rintro e w1 ⟨rfl, z2, rfl⟩))
      go_loopw [7] (fun u wr => ∃ k : Nat, k ≤ n ∧ u = .int .i64 k ∧ (∀ j, j < k → numB 100 (f j) = true) ∧ ∃ x : Later w, wr = x.val) (fun u _ => n - (intOf u).toNat)
      case atStart => exact ⟨0, by omega, rfl, by omega, later_of (by repeat (first | exact Below.refl _ _ | (with_reducible assumption) | apply below_later | apply below_alloc | apply below_drew | apply below_drewN))⟩
      case round =>
        obtain ⟨k, hk, rfl, hall, x, rfl⟩ := hrel
        have HALL := Lib.hid hall
        clear hall
        by_cases hlt : k < n
        · obtain ⟨b, off, hA, p⟩ := (HP.out.later x).at_ (by omega)
          subst hA
          have ck := p.at_ k hlt
          have lb := p.lt
          clear p
          cases hF : numB 100 (f k)
          · have F := Lib.hid hF
            have S3 : Hid (∀ w, Gives Try.prog 51 #[.int .i64 (f k), .int .i64 0, .int .i64 100] w (.bool false)) := fun w => hF ▸ SF.out (f k) w
            clear hF
            generalize hfk : f k = y at *
            go_wp2_with (go_at_call 51; (first | (with_reducible show Calls _ _ _ (Later.val _) _; with_reducible refine Calls.mono (Later.call _ (S3.out _)) ?_) | (with_reducible refine Calls.mono (Gives.calls (S3.out _)) ?_)); rintro e w1 ⟨rfl, z3, rfl⟩)
            go_ret
            exact ⟨ret_bool (by symm; exact allB_false hlt (by rw [hfk]; exact F.out)), later_of (by repeat (first | exact Below.refl _ _ | (with_reducible assumption) | apply below_later | apply below_alloc | apply below_drew | apply below_drewN))⟩
          · have F := Lib.hid hF
            have S3 : Hid (∀ w, Gives Try.prog 51 #[.int .i64 (f k), .int .i64 0, .int .i64 100] w (.bool true)) := fun w => hF ▸ SF.out (f k) w
            clear hF
            go_wp2_with (go_at_call 51; (first | (with_reducible show Calls _ _ _ (Later.val _) _; with_reducible refine Calls.mono (Later.call _ (S3.out _)) ?_) | (with_reducible refine Calls.mono (Gives.calls (S3.out _)) ?_)); rintro e w1 ⟨rfl, z3, rfl⟩)
            go_roundw
            case rel => exact ⟨k + 1, by omega, by go_num, all_step HALL.out F.out, later_of (by repeat (first | exact Below.refl _ _ | (with_reducible assumption) | apply below_later | apply below_alloc | apply below_drew | apply below_drewN))⟩
            case measure => simp [intOf]; omega
        · obtain rfl : k = n := by omega
          go_wp2
          go_ret
          exact ⟨ret_bool (by symm; exact allB_true HALL.out), later_of (by repeat (first | exact Below.refl _ _ | (with_reducible assumption) | apply below_later | apply below_alloc | apply below_drew | apply below_drewN))⟩
    · rw [decide_eq_false hc, Bool.false_and] at HV
      rw [HV.out]
      have q0 : ((n : Int) != W * H) = true := by simpa using hc
      clear HV hc
      go_enter Try.func44, Try.ntmps44
      go_wp2_with (first
        | (go_at_call 51; (first | (with_reducible show Calls _ _ _ (Later.val _) _; with_reducible refine Calls.mono (Later.call _ (S1.out _)) ?_) | (with_reducible refine Calls.mono (Gives.calls (S1.out _)) ?_)); rintro e w1 ⟨rfl, z, rfl⟩)
        | (go_at_call 51; (first | (with_reducible show Calls _ _ _ (Later.val _) _; with_reducible refine Calls.mono (Later.call _ (S2.out _)) ?_) | (with_reducible refine Calls.mono (Gives.calls (S2.out _)) ?_)); rintro e w1 ⟨rfl, z2, rfl⟩))
      go_ret
      exact ⟨rfl, later_of (by repeat (first | exact Below.refl _ _ | (with_reducible assumption) | apply below_later | apply below_alloc | apply below_drew | apply below_drewN))⟩
  · have hsd : sidesB W H = false := by
      cases h : sidesB W H
      · rfl
      · unfold sidesB at h
        simp only [Bool.and_eq_true, decide_eq_true_eq] at h
        exact absurd ⟨⟨h.1.1, h.2.1⟩, h.1.2, h.2.2⟩ hs
    rw [hsd, Bool.false_and] at HV
    rw [HV.out]
    clear HV hsd
    by_cases hw : 1 ≤ W ∧ W ≤ 16
    · have S1 : Hid (∀ w, Gives Try.prog 51 #[.int .i64 W, .int .i64 1, .int .i64 16] w (.bool true)) := fun w => by
        have h := SW.out W w
        rwa [decide_eq_true hw.1, decide_eq_true hw.2] at h
      have S2 : Hid (∀ w, Gives Try.prog 51 #[.int .i64 H, .int .i64 1, .int .i64 16] w (.bool false)) := fun w => by
        have h := SW.out H w
        have e : (decide (1 ≤ H) && decide (H ≤ 16)) = false := by
          rw [← Bool.decide_and]; exact decide_eq_false fun q => hs ⟨hw, q⟩
        rwa [e] at h
      clear hs hw SW
      go_enter Try.func44, Try.ntmps44
      go_wp2_with (first
        | (go_at_call 51; (first | (with_reducible show Calls _ _ _ (Later.val _) _; with_reducible refine Calls.mono (Later.call _ (S1.out _)) ?_) | (with_reducible refine Calls.mono (Gives.calls (S1.out _)) ?_)); rintro e w1 ⟨rfl, z, rfl⟩)
        | (go_at_call 51; (first | (with_reducible show Calls _ _ _ (Later.val _) _; with_reducible refine Calls.mono (Later.call _ (S2.out _)) ?_) | (with_reducible refine Calls.mono (Gives.calls (S2.out _)) ?_)); rintro e w1 ⟨rfl, z2, rfl⟩))
      go_ret
      exact ⟨rfl, later_of (by repeat (first | exact Below.refl _ _ | (with_reducible assumption) | apply below_later | apply below_alloc | apply below_drew | apply below_drewN))⟩
    · have S1 : Hid (∀ w, Gives Try.prog 51 #[.int .i64 W, .int .i64 1, .int .i64 16] w (.bool false)) := fun w => by
        have h := SW.out W w
        have e : (decide (1 ≤ W) && decide (W ≤ 16)) = false := by
          rw [← Bool.decide_and]; exact decide_eq_false hw
        rwa [e] at h
      clear hs hw SW
      go_enter Try.func44, Try.ntmps44
      go_wp2_with (go_at_call 51; (first | (with_reducible show Calls _ _ _ (Later.val _) _; with_reducible refine Calls.mono (Later.call _ (S1.out _)) ?_) | (with_reducible refine Calls.mono (Gives.calls (S1.out _)) ?_)); rintro e w1 ⟨rfl, z, rfl⟩)
      go_ret
      exact ⟨rfl, later_of (by repeat (first | exact Below.refl _ _ | (with_reducible assumption) | apply below_later | apply below_alloc | apply below_drew | apply below_drewN))⟩
end Go.Proofs.Ytihgadppndcjaaa
