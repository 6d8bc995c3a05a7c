/- The document's own Format. -/
import Derived.Test.YtmielpcidhphaaaDoorBedFormat
import Derived.Test.YtmielpcidhphaaaDoorBedRef
namespace Go.Proofs.YtmielpcidhphaaaDoor
open Go.RowKit

theorem rformat_bad (W H : Int) (n cap : Nat) (A : Option Addr) (f : Nat → Int) (w : World) (hp : IsInts w A n f) (hv : validM W H n f = false) :
    Gives Tryd.prog 18 #[.agg #[.int .i64 W, .int .i64 H, .slice A n cap]] w (.tuple #[.string ⟨#[]⟩, .int .i64 20]) := by
  have V : Hid (∀ w', IsInts w' A n f → Gives Tryd.prog 20 #[.agg #[.int .i64 W, .int .i64 H, .slice A n cap]] w' (.bool false)) := fun w' h => hv ▸ rmvalid_any W H A n cap f w' h
  have HP := Lib.hid hp
  clear hp hv
  go_enter Tryd.func18, Tryd.ntmps18
  go_wp2_with (go_at_call 20; (first | (with_reducible show Calls _ _ _ (Later.val _) _; with_reducible refine Calls.mono (Later.call _ (V.out _ (HP.out.later ⟨_, by repeat (first | exact Below.refl _ _ | (with_reducible assumption) | apply below_later | apply below_alloc | apply below_drew | apply below_drewN)⟩))) ?_) | (with_reducible refine Calls.mono (Gives.calls (V.out _ (HP.out.later ⟨_, by repeat (first | exact Below.refl _ _ | (with_reducible assumption) | apply below_later | apply below_alloc | apply below_drew | apply below_drewN)⟩))) ?_)); rintro e w1 ⟨rfl, z, rfl⟩)
  go_ret2
  exact ⟨rfl, later_of (by repeat (first | exact Below.refl _ _ | (with_reducible assumption) | apply below_later | apply below_alloc | apply below_drew | apply below_drewN))⟩
theorem text_one (l : List UInt8) (c : UInt8) : ((⟨l.toArray⟩ : ByteArray) ++ ⟨#[c]⟩) = ⟨(l ++ [c]).toArray⟩ := by
  apply ByteArray.ext
  simp
theorem letter_of {k : Int} : k = 1 ∨ k = 2 ∨ k = 3 ∨ k = 4 → (k = 1 ∧ letterB k = 114) ∨ (k = 2 ∧ letterB k = 119) ∨ (k = 3 ∧ letterB k = 115) ∨ (k = 4 ∧ letterB k = 112) := by
  rintro (rfl | rfl | rfl | rfl) <;> decide

set_option maxRecDepth 100000 in
set_option maxHeartbeats 3200000 in
theorem rformat_ok (W H n cap : Nat) (A : Option Addr) (f : Nat → Int) (w : World) (hp : IsInts w A n f) (hv : validM W H n f = true) :
    Gives Tryd.prog 18 #[.agg #[.int .i64 W, .int .i64 H, .slice A n cap]] w (.tuple #[.string ⟨(fmtTo W f n).toArray⟩, .int .i64 0]) := by
  have V : Hid (∀ w', IsInts w' A n f → Gives Tryd.prog 20 #[.agg #[.int .i64 W, .int .i64 H, .slice A n cap]] w' (.bool true)) := fun w' h => hv ▸ rmvalid_any W H A n cap f w' h
  obtain ⟨⟨v1, v2⟩, ⟨v3, v4⟩, hn, hk4⟩ := validM_iff.1 hv
  have hn' : n = W * H := by rw [← Int.natCast_mul] at hn; omega
  have h0 : 0 < n := by
    have := Nat.mul_le_mul (show 1 ≤ W by omega) (show 1 ≤ H by omega)
    omega
  have hn9 : n ≤ 900 := by rw [hn']; exact Nat.mul_le_mul (show W ≤ 30 by omega) (show H ≤ 30 by omega)
  obtain ⟨b, off, rfl, p⟩ := hp.at_ h0
  have lb := p.lt
  have HP := Lib.hid hp
  have P := Lib.hid p
  have HK := Lib.hid hk4
  clear hp p hn hn' hv hk4
  go_enter Tryd.func18, Tryd.ntmps18
  go_wp2_with (go_at_call 20; (first | (with_reducible show Calls _ _ _ (Later.val _) _; with_reducible refine Calls.mono (Later.call _ (V.out _ (HP.out.later ⟨_, by repeat (first | exact Below.refl _ _ | (with_reducible assumption) | apply below_later | apply below_alloc | apply below_drew | apply below_drewN)⟩))) ?_) | (with_reducible refine Calls.mono (Gives.calls (V.out _ (HP.out.later ⟨_, by repeat (first | exact Below.refl _ _ | (with_reducible assumption) | apply below_later | apply below_alloc | apply below_drew | apply below_drewN)⟩))) ?_)); rintro e w1 ⟨rfl, z, rfl⟩)
  go_loopw [4, 5] (fun u v wr => ∃ k : Nat, k ≤ n ∧ u = .string ⟨(fmtTo W f k).toArray⟩ ∧ v = .int .i64 k ∧ ∃ x : Later (w.alloc (.cells #[.int .i64 W, .int .i64 H, .slice (some ⟨b, off, none⟩) n cap] 24)), wr = x.val) (fun _ v _ => n - (intOf v).toNat)
  case atStart => exact ⟨0, by omega, rfl, rfl, later_of (by repeat (first | exact Below.refl _ _ | (with_reducible assumption) | apply below_later | apply below_alloc | apply below_drew | apply below_drewN))⟩
  case round =>
    obtain ⟨k, hk, rfl, rfl, x, rfl⟩ := hrel
    have HS : Hid (fmtTo W f (k + 1) = fmtTo W f k ++ (if 0 < k ∧ k % W = 0 then [47] else []) ++ [letterB (f k)]) := rfl
    by_cases hlt : k < n
    · have ck := P.out.at_ k hlt
      have lx : b < x.val.heap.size := Nat.lt_of_lt_of_le (by simp; omega) x.size
      have lx2 : b < w.heap.size + 1 := by omega
      have lw : w.heap.size < x.val.heap.size := Nat.lt_of_lt_of_le (by simp) x.size
      have lf := letter_of (k := f k) (by have := HK.out k hlt; omega)
      have hlen := fmtTo_length W f k
      generalize fmtTo W f k = s at *
      generalize hfk : f k = v at *
      clear hfk
      by_cases hsep : 0 < k ∧ k % W = 0
      · rw [if_pos hsep] at HS
        obtain ⟨s1, s2⟩ := hsep
        have q1 : ((k : Int) % (W : Int) == 0) = true := by rw [← Int.natCast_emod, s2]; rfl
        have q2 : 0 < (k : Int) := by omega
        clear s2
        rcases lf with ⟨hv, hl⟩ | ⟨hv, hl⟩ | ⟨hv, hl⟩ | ⟨hv, hl⟩
        all_goals
          subst hv
          rw [hl] at HS
          clear hl
          go_wp2
          go_roundw
          case rel => exact ⟨k + 1, by omega, by rw [HS.out, text_one, text_one], by go_num, later_of (by repeat (first | exact Below.refl _ _ | (with_reducible assumption) | apply below_later | apply below_alloc | apply below_drew | apply below_drewN))⟩
          case measure => simp [intOf]; omega
      · rw [if_neg hsep, List.append_nil] at HS
        by_cases q0 : 0 < k
        · have q2 : 0 < (k : Int) := by omega
          have q1 : ((k : Int) % (W : Int) == 0) = false := by
            rw [← Int.natCast_emod]
            have : k % W ≠ 0 := fun h => hsep ⟨q0, h⟩
            simp; omega
          clear hsep
          rcases lf with ⟨hv, hl⟩ | ⟨hv, hl⟩ | ⟨hv, hl⟩ | ⟨hv, hl⟩
          all_goals
            subst hv
            rw [hl] at HS
            clear hl
            go_wp2
            go_roundw
            case rel => exact ⟨k + 1, by omega, by rw [HS.out, text_one], by go_num, later_of (by repeat (first | exact Below.refl _ _ | (with_reducible assumption) | apply below_later | apply below_alloc | apply below_drew | apply below_drewN))⟩
            case measure => simp [intOf]; omega
        · have q2 : ¬ 0 < (k : Int) := by omega
          clear hsep
          rcases lf with ⟨hv, hl⟩ | ⟨hv, hl⟩ | ⟨hv, hl⟩ | ⟨hv, hl⟩
          all_goals
            subst hv
            rw [hl] at HS
            clear hl
            go_wp2
            go_roundw
            case rel => exact ⟨k + 1, by omega, by rw [HS.out, text_one], by go_num, later_of (by repeat (first | exact Below.refl _ _ | (with_reducible assumption) | apply below_later | apply below_alloc | apply below_drew | apply below_drewN))⟩
            case measure => simp [intOf]; omega
    · obtain rfl : k = n := by omega
      go_wp2
      go_ret2
      exact ⟨rfl, later_of (by repeat (first | exact Below.refl _ _ | (with_reducible assumption) | apply below_later | apply below_alloc | apply below_drew | apply below_drewN))⟩
end Go.Proofs.YtmielpcidhphaaaDoor
