/- The document's own 'at'. -/
import Derived.Test.YtmielpcidhphaaaDoorRGrow
import Derived.Test.YtmielpcidhphaaaDoorWindows
namespace Go.Proofs.YtmielpcidhphaaaDoor
open Go.RowKit

/-- The kind of the square (x, y); 0 outside. -/
def atV (W H : Nat) (f : Nat → Int) (x y : Int) : Int := if insB W H x y = true then f (y * W + x).toNat else 0
set_option maxRecDepth 100000 in
set_option maxHeartbeats 1600000 in
theorem rat_any (W H n cap : Nat) (A : Option Addr) (f : Nat → Int) (x y : Int) (w : World) (hW1 : 1 ≤ W) (hW : W ≤ 30) (hH1 : 1 ≤ H) (hH : H ≤ 30) (hn : n = W * H) (hp : IsInts w A n f) :
    Gives Tryd.prog 82 #[.agg #[.int .i64 W, .int .i64 H, .slice A n cap], .int .i64 x, .int .i64 y] w (.int .i64 (atV W H f x y)) := by
  have h0 : 0 < n := by
    have := Nat.mul_le_mul hW1 hH1
    omega
  obtain ⟨b, off, rfl, p⟩ := hp.at_ h0
  have lb := p.lt
  have P := Lib.hid p
  clear p hp
  have HR : Hid (atV W H f x y = if insB W H x y = true then f (y * W + x).toNat else 0) := rfl
  generalize atV W H f x y = r at HR ⊢
  by_cases hx : decide ((0 : Int) ≤ x) && decide (x ≤ (W : Int) - 1)
  · have X1 : Hid (∀ w, Gives Tryd.prog 62 #[.int .i64 0, .int .i64 x, .int .i64 ((W : Int) - 1)] w (.bool true)) := fun w => hx ▸ from_any 0 x ((W : Int) - 1) w
    by_cases hy : decide ((0 : Int) ≤ y) && decide (y ≤ (H : Int) - 1)
    · have Y1 : Hid (∀ w, Gives Tryd.prog 62 #[.int .i64 0, .int .i64 y, .int .i64 ((H : Int) - 1)] w (.bool true)) := fun w => hy ▸ from_any 0 y ((H : Int) - 1) w
      simp only [Bool.and_eq_true, decide_eq_true_eq] at hx hy
      have hi : insB W H x y = true := by unfold insB; simp; omega
      obtain ⟨⟨⟨x0, x1⟩, y0, y1⟩, ⟨m0, m1⟩, t0, t1⟩ := at_bd hW hH hi
      rw [hi, if_pos rfl] at HR
      obtain ⟨j, hj⟩ : ∃ j : Nat, (j : Int) = y * W + x := ⟨(y * W + x).toNat, by omega⟩
      have jl : j < n := by rw [hn]; rw [← Int.natCast_mul] at t1; omega
      have e : (y * W + x).toNat = j := by omega
      have c : w.cell? ⟨b, off + j, none⟩ = some (.int .i64 (f j)) := P.out.at_ j jl
      rw [e] at HR
      have HJ := Lib.hid e
      have t2 : y * W + x < (n : Int) := by omega
      rw [← HJ.out] at c
      clear e hj hn hi hx hy
      go_enter Tryd.func82, Tryd.ntmps82
      go_wp2_with (first | (go_at_call 62; (first | (with_reducible show Calls _ _ _ (Later.val _) _; with_reducible refine Calls.mono (Later.call _ (X1.out _)) ?_) | (with_reducible refine Calls.mono (Gives.calls (X1.out _)) ?_)); rintro e w1 ⟨rfl, z, rfl⟩) | (go_at_call 62; (first | (with_reducible show Calls _ _ _ (Later.val _) _; with_reducible refine Calls.mono (Later.call _ (Y1.out _)) ?_) | (with_reducible refine Calls.mono (Gives.calls (Y1.out _)) ?_)); rintro e w1 ⟨rfl, z2, rfl⟩))
      go_ret
      exact ⟨ret_int (by rw [HR.out, HJ.out]), later_of (by repeat (first | exact Below.refl _ _ | (with_reducible assumption) | apply below_later | apply below_alloc | apply below_drew | apply below_drewN))⟩
    · have hy' : (decide ((0 : Int) ≤ y) && decide (y ≤ (H : Int) - 1)) = false := by simpa using hy
      have Y1 : Hid (∀ w, Gives Tryd.prog 62 #[.int .i64 0, .int .i64 y, .int .i64 ((H : Int) - 1)] w (.bool false)) := fun w => hy' ▸ from_any 0 y ((H : Int) - 1) w
      have hi : insB W H x y = false := by
        unfold insB
        rw [decide_eq_false_iff_not]
        rintro ⟨_, _, h3, h4⟩
        simp only [Bool.and_eq_true, decide_eq_true_eq] at hy
        omega
      rw [hi, if_neg (by simp)] at HR
      clear hi hx hy hy'
      go_enter Tryd.func82, Tryd.ntmps82
      go_wp2_with (first | (go_at_call 62; (first | (with_reducible show Calls _ _ _ (Later.val _) _; with_reducible refine Calls.mono (Later.call _ (X1.out _)) ?_) | (with_reducible refine Calls.mono (Gives.calls (X1.out _)) ?_)); rintro e w1 ⟨rfl, z, rfl⟩) | (go_at_call 62; (first | (with_reducible show Calls _ _ _ (Later.val _) _; with_reducible refine Calls.mono (Later.call _ (Y1.out _)) ?_) | (with_reducible refine Calls.mono (Gives.calls (Y1.out _)) ?_)); rintro e w1 ⟨rfl, z2, rfl⟩))
      go_ret
      exact ⟨ret_int (by rw [HR.out]), later_of (by repeat (first | exact Below.refl _ _ | (with_reducible assumption) | apply below_later | apply below_alloc | apply below_drew | apply below_drewN))⟩
  · have hx' : (decide ((0 : Int) ≤ x) && decide (x ≤ (W : Int) - 1)) = false := by simpa using hx
    have X1 : Hid (∀ w, Gives Tryd.prog 62 #[.int .i64 0, .int .i64 x, .int .i64 ((W : Int) - 1)] w (.bool false)) := fun w => hx' ▸ from_any 0 x ((W : Int) - 1) w
    have hi : insB W H x y = false := by
      unfold insB
      rw [decide_eq_false_iff_not]
      rintro ⟨h3, h4, _⟩
      simp only [Bool.and_eq_true, decide_eq_true_eq] at hx
      omega
    rw [hi, if_neg (by simp)] at HR
    clear hi hx hx'
    go_enter Tryd.func82, Tryd.ntmps82
    go_wp2_with (first | (go_at_call 62; (first | (with_reducible show Calls _ _ _ (Later.val _) _; with_reducible refine Calls.mono (Later.call _ (X1.out _)) ?_) | (with_reducible refine Calls.mono (Gives.calls (X1.out _)) ?_)); rintro e w1 ⟨rfl, z, rfl⟩))
    go_ret
    exact ⟨ret_int (by rw [HR.out]), later_of (by repeat (first | exact Below.refl _ _ | (with_reducible assumption) | apply below_later | apply below_alloc | apply below_drew | apply below_drewN))⟩
end Go.Proofs.YtmielpcidhphaaaDoor
