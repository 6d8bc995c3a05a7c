/- rod.Area, rod.Border, rod.Inside, and what they call. -/
import Derived.Test.YtamhhbkjgfhfoaaDoorValid
namespace Go.Proofs.YtamhhbkjgfhfoaaDoor
open Go.RowKit

set_option maxHeartbeats 400000 in
theorem gcd_any (a b : Nat) (w : World) (ha : a ≤ 100000) (hb : b ≤ 100000) : Gives Tryd.prog 48 #[.int .i64 a, .int .i64 b] w (.int .i64 (Nat.gcd a b)) := by
  go_enter Tryd.func48, Tryd.ntmps48
  go_wp2
  go_loopw [0, 1] (fun u v wr => ∃ c d : Nat, c ≤ 100000 ∧ d ≤ 100000 ∧ Hid (Nat.gcd c d = Nat.gcd a b) ∧ u = .int .i64 c ∧ v = .int .i64 d ∧ ∃ x : Later w, wr = x.val) (fun _ v _ => (intOf v).toNat)
  case atStart => exact ⟨a, b, ha, hb, rfl, rfl, rfl, later_of (by repeat (first | exact Below.refl _ _ | (with_reducible assumption) | apply below_later | apply below_alloc | apply below_drew | apply below_drewN))⟩
  case round =>
    obtain ⟨c, d, hc, hd, Hg, rfl, rfl, x, rfl⟩ := hrel
    by_cases h : d = 0
    · subst h
      go_wp2
      go_ret
      exact ⟨ret_int (by have := Hg.out; rw [Nat.gcd_zero_right] at this; rw [this]), later_of (by repeat (first | exact Below.refl _ _ | (with_reducible assumption) | apply below_later | apply below_alloc | apply below_drew | apply below_drewN))⟩
    · have h1 : 1 ≤ (d : Int) := by omega
      have h2 : ((d : Int) != 0) = true := by simp; omega
      have h3 : c % d < d := Nat.mod_lt _ (by omega)
      have e : (c : Int) % (d : Int) = ((c % d : Nat) : Int) := (Int.natCast_emod c d).symm
      have Hh := Lib.hid h
      clear h
      go_wp2_with fail
      first | (with_reducible show Code.wp _ _ _ _ (Later.val _); refine wp_region_later_at _ (by kernel_rfl) (by kernel_rfl) ?_) | refine wp_region_later (by kernel_rfl) (by kernel_rfl) ?_
      repeat (go_big_quiet_step ((fail)))
      refine wpQuiet_nil ?_
      intro z
      go_wp2
      go_roundw
      case rel => exact ⟨d, c % d, hd, by omega, by have := Hg.out; unfold Hid; rw [← this, Nat.gcd_comm c d, Nat.gcd_rec d c, Nat.gcd_comm], rfl, rfl, later_of (by repeat (first | exact Below.refl _ _ | (with_reducible assumption) | apply below_later | apply below_alloc | apply below_drew | apply below_drewN))⟩
      case measure => simp [intOf]; omega

def borderI (n : Nat) (px py : Nat → Int) : Int := sumN n fun k => (Nat.gcd (px (nx n k) - px k).natAbs (py (nx n k) - py k).natAbs : Nat)
theorem absI_nat (n : Int) : absI n = (n.natAbs : Nat) := by unfold absI; omega
theorem gcd_bd {a b m : Nat} (ha : a ≤ m) (hb : b ≤ m) : Nat.gcd a b ≤ m := by
  rcases Nat.eq_zero_or_pos a with h | h
  · subst h; rw [Nat.gcd_zero_left]; exact hb
  · exact Nat.le_trans (Nat.le_of_dvd h (Nat.gcd_dvd_left a b)) ha

set_option maxRecDepth 100000 in
set_option maxHeartbeats 1600000 in
theorem borderPosts_any (b off n cap : Nat) (px py : Nat → Int) (w : World) (h0 : 0 < n) (hn : n ≤ 40) (hp : Posts w b off n px py) (hr : ∀ i, i < n → InRange (px i) (py i)) :
    Gives Tryd.prog 34 #[.slice (some ⟨b, off, none⟩) n cap] w (.int .i64 (borderI n px py)) := by
  have hl := hp.lt
  have hg : ∀ k, k < n → -(2000 : Int) ≤ ((Nat.gcd (px (nx n k) - px k).natAbs (py (nx n k) - py k).natAbs : Nat) : Int) ∧ ((Nat.gcd (px (nx n k) - px k).natAbs (py (nx n k) - py k).natAbs : Nat) : Int) ≤ 2000 := fun k hk => by
    have r1 := hr k hk
    have r2 := hr _ (nx_lt (n := n) k h0)
    unfold InRange at r1 r2
    have := gcd_bd (a := (px (nx n k) - px k).natAbs) (b := (py (nx n k) - py k).natAbs) (m := 2000) (by omega) (by omega)
    omega
  have Hg := Lib.hid hg
  have Hb : Hid (∀ k, k ≤ n → -80000 ≤ sumN k (fun k => ((Nat.gcd (px (nx n k) - px k).natAbs (py (nx n k) - py k).natAbs : Nat) : Int)) ∧ sumN k (fun k => ((Nat.gcd (px (nx n k) - px k).natAbs (py (nx n k) - py k).natAbs : Nat) : Int)) ≤ 80000) := fun k hk =>
    sumN_bd 2000 _ k (fun i hi => hg i (by omega)) (by omega) _ (by omega)
  have Hr := Lib.hid hr
  clear hr hg
  go_enter Tryd.func34, Tryd.ntmps34
  go_wp2
  go_loopw [3, 9] (fun s v wr => ∃ k : Nat, k ≤ n ∧ v = .int .i64 k ∧ s = .int .i64 (sumN k fun k => ((Nat.gcd (px (nx n k) - px k).natAbs (py (nx n k) - py k).natAbs : Nat) : Int)) ∧ ∃ x : Later w, wr = x.val) (fun _ v _ => n - (intOf v).toNat)
  case atStart => exact ⟨0, by omega, rfl, rfl, later_of (by repeat (first | exact Below.refl _ _ | (with_reducible assumption) | apply below_later | apply below_alloc | apply below_drew | apply below_drewN))⟩
  case round =>
    obtain ⟨k, hk, rfl, rfl, x, rfl⟩ := hrel
    by_cases hlt : k < n
    · have hb' : b < x.val.heap.size := Nat.lt_of_lt_of_le hl x.size
      have hp' := hp.later x
      have c1 := hp'.x k hlt
      have c2 := hp'.y k hlt
      have hnx := nx_lt (n := n) k h0
      have c3 := hp'.x _ hnx
      have c4 := hp'.y _ hnx
      have e1 := nx_eq n k
      have r1 := Hr.out k hlt
      have r2 := Hr.out _ hnx
      unfold InRange at r1 r2
      obtain ⟨b1, b2, b3, b4⟩ := r1
      obtain ⟨b5, b6, b7, b8⟩ := r2
      have hb1 := Hb.out k hk
      have hb2 := Hb.out (k + 1) hlt
      simp only [sumN] at hb2
      obtain ⟨q1, q2⟩ := hb1
      obtain ⟨q3, q4⟩ := hb2
      have ga : (px (nx n k) - px k).natAbs ≤ 2000 := by omega
      have gb : (py (nx n k) - py k).natAbs ≤ 2000 := by omega
      have A1 := Lib.hid (absI_nat (px (nx n k) - px k))
      have A2 := Lib.hid (absI_nat (py (nx n k) - py k))
      generalize hS : sumN k (fun k => ((Nat.gcd (px (nx n k) - px k).natAbs (py (nx n k) - py k).natAbs : Nat) : Int)) = S at *
      have HS := Lib.hid hS
      clear hS hp'
      go_wp2_with fail
      go_region
      all_goals
        go_wp2_with fail
        first | (with_reducible show Code.wp _ _ _ _ (Later.val _); refine wp_region_later_at _ (by kernel_rfl) (by kernel_rfl) ?_) | refine wp_region_later (by kernel_rfl) (by kernel_rfl) ?_
        repeat (go_big_quiet_step ((first | (go_at_call 33; with_reducible refine Later.call _ (abs_any _ _ (by omega) (by omega))) | (go_at_call 48; rw [A1.out, A2.out]; with_reducible refine Later.call _ (gcd_any _ _ _ (by omega) (by omega))))))
        refine wpQuiet_nil ?_
        intro z
        go_wp2
        go_roundw
        case rel => exact ⟨k + 1, by omega, by go_num, by simp only [sumN]; rw [HS.out], later_of (by repeat (first | exact Below.refl _ _ | (with_reducible assumption) | apply below_later | apply below_alloc | apply below_drew | apply below_drewN))⟩
        case measure => simp [intOf]; omega
    · obtain rfl : k = n := by omega
      go_wp2
      go_ret
      exact ⟨rfl, later_of (by repeat (first | exact Below.refl _ _ | (with_reducible assumption) | apply below_later | apply below_alloc | apply below_drew | apply below_drewN))⟩

/-- A number and an error code. -/
def numErr (v e : Int) : Value := .tuple #[.int .i64 v, .int .i64 e]
theorem valid_bounds {n : Nat} {px py : Nat → Int} (h : validB n px py = true) : 3 ≤ n ∧ n ≤ 40 ∧ ∀ i, i < n → InRange (px i) (py i) := by
  simp only [validB, Bool.and_eq_true, decide_eq_true_eq] at h
  exact ⟨h.1.1.1, h.1.1.2, ranged_of_B h.1.2⟩
theorem areaI_bd {n : Nat} {px py : Nat → Int} (h0 : 0 < n) (hn : n ≤ 40) (hr : ∀ i, i < n → InRange (px i) (py i)) : -400000000 ≤ areaI n px py ∧ areaI n px py ≤ 400000000 :=
  sumN_bd 8000000 _ n (fun i hi => crossI_bd zero_inRange (hr i (by omega)) (hr _ (nx_lt _ h0))) (by omega) _ (by omega)
theorem borderI_bd {n : Nat} {px py : Nat → Int} (h0 : 0 < n) (hn : n ≤ 40) (hr : ∀ i, i < n → InRange (px i) (py i)) : -80000 ≤ borderI n px py ∧ borderI n px py ≤ 80000 :=
  sumN_bd 2000 _ n (fun k hk => by
    have r1 := hr k hk
    have r2 := hr _ (nx_lt (n := n) k h0)
    unfold InRange at r1 r2
    have := gcd_bd (a := (px (nx n k) - px k).natAbs) (b := (py (nx n k) - py k).natAbs) (m := 2000) (by omega) (by omega)
    omega) (by omega) _ (by omega)

def areaR (n : Nat) (px py : Nat → Int) : Value := if validB n px py then .tuple #[.int .i64 (absI (areaI n px py)), .int .i64 0] else .tuple #[.int .i64 0, .int .i64 10]
def borderR (n : Nat) (px py : Nat → Int) : Value := if validB n px py then .tuple #[.int .i64 (borderI n px py), .int .i64 0] else .tuple #[.int .i64 0, .int .i64 10]
def insideR (n : Nat) (px py : Nat → Int) : Value := if validB n px py then .tuple #[.int .i64 (((absI (areaI n px py)) - borderI n px py + 2).tdiv 2), .int .i64 0] else .tuple #[.int .i64 0, .int .i64 10]

set_option maxHeartbeats 400000 in
theorem area_any (A : Option Addr) (n cap : Nat) (px py : Nat → Int) (w : World) (hp : IsPosts w A n px py) :
    Gives Tryd.prog 13 #[.slice A n cap] w (areaR n px py) := by
  unfold areaR
  have Hp := Lib.hid hp
  clear hp
  cases hv : validB n px py
  · go_enter Tryd.func13, Tryd.ntmps13
    go_wp2_with (first | (go_at_call 26; (first | (with_reducible show Calls _ _ _ (Later.val _) _; with_reducible refine Calls.mono (Later.call _ (valid_any _ _ _ _ _ _ Hp.out)) ?_) | (with_reducible refine Calls.mono (Gives.calls (valid_any _ _ _ _ _ _ Hp.out)) ?_)); rintro e w1 ⟨rfl, y1, rfl⟩))
    go_ret2
    exact ⟨rfl, later_of (by repeat (first | exact Below.refl _ _ | (with_reducible assumption) | apply below_later | apply below_alloc | apply below_drew | apply below_drewN))⟩
  · obtain ⟨h1, h2, h3⟩ := valid_bounds hv
    have H3 := Lib.hid h3
    obtain ⟨q1, q2⟩ := areaI_bd (by omega) h2 h3
    obtain ⟨b, off, rfl, hq⟩ := Hp.out.at_ (by omega)
    have Hq := Lib.hid hq
    clear hq h3
    go_enter Tryd.func13, Tryd.ntmps13
    go_wp2_with (first | (go_at_call 26; (first | (with_reducible show Calls _ _ _ (Later.val _) _; with_reducible refine Calls.mono (Later.call _ (valid_any _ _ _ _ _ _ Hp.out)) ?_) | (with_reducible refine Calls.mono (Gives.calls (valid_any _ _ _ _ _ _ Hp.out)) ?_)); rintro e w1 ⟨rfl, y1, rfl⟩) | (go_at_call 28; (first | (with_reducible show Calls _ _ _ (Later.val _) _; with_reducible refine Calls.mono (Later.call _ (signedArea_any _ _ _ _ _ _ _ (by omega) (by omega) (Hq.out.later _) H3.out)) ?_) | (with_reducible refine Calls.mono (Gives.calls (signedArea_any _ _ _ _ _ _ _ (by omega) (by omega) (Hq.out.later _) H3.out)) ?_)); rintro e w1 ⟨rfl, y2, rfl⟩) | (go_at_call 33; (first | (with_reducible show Calls _ _ _ (Later.val _) _; with_reducible refine Calls.mono (Later.call _ (abs_any _ _ (by omega) (by omega))) ?_) | (with_reducible refine Calls.mono (Gives.calls (abs_any _ _ (by omega) (by omega))) ?_)); rintro e w1 ⟨rfl, y3, rfl⟩))
    go_ret2
    exact ⟨rfl, later_of (by repeat (first | exact Below.refl _ _ | (with_reducible assumption) | apply below_later | apply below_alloc | apply below_drew | apply below_drewN))⟩

set_option maxHeartbeats 400000 in
theorem border_any (A : Option Addr) (n cap : Nat) (px py : Nat → Int) (w : World) (hp : IsPosts w A n px py) :
    Gives Tryd.prog 14 #[.slice A n cap] w (borderR n px py) := by
  unfold borderR
  have Hp := Lib.hid hp
  clear hp
  cases hv : validB n px py
  · go_enter Tryd.func14, Tryd.ntmps14
    go_wp2_with (first | (go_at_call 26; (first | (with_reducible show Calls _ _ _ (Later.val _) _; with_reducible refine Calls.mono (Later.call _ (valid_any _ _ _ _ _ _ Hp.out)) ?_) | (with_reducible refine Calls.mono (Gives.calls (valid_any _ _ _ _ _ _ Hp.out)) ?_)); rintro e w1 ⟨rfl, y1, rfl⟩))
    go_ret2
    exact ⟨rfl, later_of (by repeat (first | exact Below.refl _ _ | (with_reducible assumption) | apply below_later | apply below_alloc | apply below_drew | apply below_drewN))⟩
  · obtain ⟨h1, h2, h3⟩ := valid_bounds hv
    have H3 := Lib.hid h3
    obtain ⟨b, off, rfl, hq⟩ := Hp.out.at_ (by omega)
    have Hq := Lib.hid hq
    clear hq h3
    go_enter Tryd.func14, Tryd.ntmps14
    go_wp2_with (first | (go_at_call 26; (first | (with_reducible show Calls _ _ _ (Later.val _) _; with_reducible refine Calls.mono (Later.call _ (valid_any _ _ _ _ _ _ Hp.out)) ?_) | (with_reducible refine Calls.mono (Gives.calls (valid_any _ _ _ _ _ _ Hp.out)) ?_)); rintro e w1 ⟨rfl, y1, rfl⟩) | (go_at_call 34; (first | (with_reducible show Calls _ _ _ (Later.val _) _; with_reducible refine Calls.mono (Later.call _ (borderPosts_any _ _ _ _ _ _ _ (by omega) (by omega) (Hq.out.later _) H3.out)) ?_) | (with_reducible refine Calls.mono (Gives.calls (borderPosts_any _ _ _ _ _ _ _ (by omega) (by omega) (Hq.out.later _) H3.out)) ?_)); rintro e w1 ⟨rfl, y2, rfl⟩))
    go_ret2
    exact ⟨rfl, later_of (by repeat (first | exact Below.refl _ _ | (with_reducible assumption) | apply below_later | apply below_alloc | apply below_drew | apply below_drewN))⟩

end Go.Proofs.YtamhhbkjgfhfoaaDoor
