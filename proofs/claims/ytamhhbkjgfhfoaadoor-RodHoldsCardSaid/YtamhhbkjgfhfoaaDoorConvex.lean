/- rod.Convex, and the document's own Left, Convex. -/
import Derived.Test.YtamhhbkjgfhfoaaDoorWhere
import Derived.Test.YtamhhbkjgfhfoaaDoorRefArea
namespace Go.Proofs.YtamhhbkjgfhfoaaDoor
open Go.RowKit

theorem any_succ (k : Nat) (f : Nat → Bool) : anyB (k + 1) f = (anyB k f || f k) := by
  rw [Bool.eq_iff_iff, Bool.or_eq_true, anyB_iff, anyB_iff]
  constructor
  · rintro ⟨i, hi, h⟩
    rcases Nat.lt_or_ge i k with h1 | h1
    · exact .inl ⟨i, h1, h⟩
    · obtain rfl : i = k := by omega
      exact .inr h
  · rintro (⟨i, hi, h⟩ | h)
    · exact ⟨i, by omega, h⟩
    · exact ⟨k, by omega, h⟩
def upB (n : Nat) (px py : Nat → Int) (k : Nat) : Bool := decide (0 < bendI n px py k)
def downB (n : Nat) (px py : Nat → Int) (k : Nat) : Bool := decide (bendI n px py k < 0)
def convexB (n : Nat) (px py : Nat → Int) : Bool := !(anyB n (upB n px py) && anyB n (downB n px py))
def convexR (n : Nat) (px py : Nat → Int) : Value := if validB n px py then .tuple #[.bool (convexB n px py), .int .i64 0] else .tuple #[.bool false, .int .i64 10]

set_option maxRecDepth 100000 in
set_option maxHeartbeats 1600000 in
theorem convex_any (A : Option Addr) (n cap : Nat) (px py : Nat → Int) (w : World) (hp : IsPosts w A n px py) :
    Gives Tryd.prog 9 #[.slice A n cap] w (convexR n px py) := by
  unfold convexR
  have Hp := Lib.hid hp
  clear hp
  cases hv : validB n px py
  · go_enter Tryd.func9, Tryd.ntmps9
    go_wp2_with (first | (go_at_call 26; (first | (with_reducible show Calls _ _ _ (Later.val _) _; with_reducible refine Calls.mono (Later.call _ ((hv ▸ valid_any _ _ _ _ _ _ Hp.out))) ?_) | (with_reducible refine Calls.mono (Gives.calls ((hv ▸ valid_any _ _ _ _ _ _ Hp.out))) ?_)); rintro e w1 ⟨rfl, y1, rfl⟩))
    go_ret2
    exact ⟨rfl, later_of (by repeat (first | exact Below.refl _ _ | (with_reducible assumption) | apply below_later | apply below_alloc | apply below_drew | apply below_drewN))⟩
  · obtain ⟨h1, h2, h3⟩ := valid_bounds hv
    have H3 := Lib.hid h3
    have h4 : 2 ≤ n := by omega
    obtain ⟨b, off, rfl, hq⟩ := Hp.out.at_ (by omega)
    have Hq := Lib.hid hq
    clear hq h3
    go_enter Tryd.func9, Tryd.ntmps9
    go_wp2_with (first | (go_at_call 26; (first | (with_reducible show Calls _ _ _ (Later.val _) _; with_reducible refine Calls.mono (Later.call _ ((hv ▸ valid_any _ _ _ _ _ _ Hp.out))) ?_) | (with_reducible refine Calls.mono (Gives.calls ((hv ▸ valid_any _ _ _ _ _ _ Hp.out))) ?_)); rintro e w1 ⟨rfl, y1, rfl⟩))
    go_loopw [4, 5, 12] (fun u v c wr => ∃ k : Nat, k ≤ n ∧ c = .int .i64 k ∧ u = .bool (anyB k (upB n px py)) ∧ v = .bool (anyB k (downB n px py)) ∧ ∃ x : Later w, wr = x.val) (fun _ _ c _ => n - (intOf c).toNat)
    case atStart => exact ⟨0, by omega, rfl, rfl, rfl, later_of (by repeat (first | exact Below.refl _ _ | (with_reducible assumption) | apply below_later | apply below_alloc | apply below_drew | apply below_drewN))⟩
    case round =>
      obtain ⟨k, hk, rfl, rfl, rfl, x, rfl⟩ := hrel
      by_cases hlt : k < n
      · have E1 : Hid (anyB (k + 1) (upB n px py) = (anyB k (upB n px py) || upB n px py k)) := any_succ _ _
        have E2 : Hid (anyB (k + 1) (downB n px py) = (anyB k (downB n px py) || downB n px py k)) := any_succ _ _
        generalize anyB k (upB n px py) = L at *
        generalize anyB k (downB n px py) = R at *
        cases L <;> cases R <;> by_cases g1 : 0 < bendI n px py k <;> by_cases g2 : bendI n px py k < 0
        all_goals first
          | (exfalso; omega)
          | (have U : Hid (upB n px py k = decide (0 < bendI n px py k)) := rfl
             have D : Hid (downB n px py k = decide (bendI n px py k < 0)) := rfl
             go_wp2_with (first | (go_at_call 27; (first | (with_reducible show Calls _ _ _ (Later.val _) _; with_reducible refine Calls.mono (Later.call _ (bend_any _ _ _ _ _ _ _ _ h4 h2 hlt (Hq.out.later _) H3.out)) ?_) | (with_reducible refine Calls.mono (Gives.calls (bend_any _ _ _ _ _ _ _ _ h4 h2 hlt (Hq.out.later _) H3.out)) ?_)); rintro e w1 ⟨rfl, q, rfl⟩))
             go_roundw
             case rel => exact ⟨k + 1, by omega, by go_num, by rw [E1.out, U.out]; simp [g1], by rw [E2.out, D.out]; simp [g2], later_of (by repeat (first | exact Below.refl _ _ | (with_reducible assumption) | apply below_later | apply below_alloc | apply below_drew | apply below_drewN))⟩
             case measure => simp [intOf]; omega)
      · obtain rfl : k = n := by omega
        have E : Hid (convexB k px py = !(anyB k (upB k px py) && anyB k (downB k px py))) := rfl
        generalize anyB k (upB k px py) = L at *
        generalize anyB k (downB k px py) = R at *
        cases L <;> cases R
        all_goals
          go_wp2
          go_ret2
          exact ⟨by rw [E.out]; rfl, later_of (by repeat (first | exact Below.refl _ _ | (with_reducible assumption) | apply below_later | apply below_alloc | apply below_drew | apply below_drewN))⟩

def turnI (n : Nat) (px py : Nat → Int) (k : Nat) : Int := crossI (px k) (py k) (px (nx n k)) (py (nx n k)) (px (nx2 n k)) (py (nx2 n k))
theorem turn_bend {n k : Nat} (px py : Nat → Int) (hk : k < n) (h2 : 2 ≤ n) : turnI n px py k = bendI n px py (nx n k) := by
  unfold turnI bendI
  rw [pv_nx hk, nx2_nx hk h2]
theorem any_shift {n : Nat} (f g : Nat → Bool) (h : ∀ k, k < n → g k = f (nx n k)) : anyB n g = anyB n f := by
  rw [Bool.eq_iff_iff, anyB_iff, anyB_iff]
  constructor
  · rintro ⟨k, hk, e⟩
    exact ⟨nx n k, nx_lt k (by omega), by rw [← h k hk, e]⟩
  · rintro ⟨k, hk, e⟩
    have hpv : pv n k < n := pv_lt k (by omega)
    exact ⟨pv n k, hpv, by rw [h _ hpv, nx_pv hk, e]⟩
def turnUp (n : Nat) (px py : Nat → Int) (k : Nat) : Bool := decide (0 < turnI n px py k)
def turnDown (n : Nat) (px py : Nat → Int) (k : Nat) : Bool := decide (turnI n px py k < 0)
theorem convex_eq {n : Nat} (px py : Nat → Int) (h2 : 2 ≤ n) : (!(anyB n (turnUp n px py) && anyB n (turnDown n px py))) = convexB n px py := by
  unfold convexB
  rw [any_shift (upB n px py) (turnUp n px py) fun k hk => by rw [turnUp, turn_bend px py hk h2]; rfl, any_shift (downB n px py) (turnDown n px py) fun k hk => by rw [turnDown, turn_bend px py hk h2]; rfl]

end Go.Proofs.YtamhhbkjgfhfoaaDoor
