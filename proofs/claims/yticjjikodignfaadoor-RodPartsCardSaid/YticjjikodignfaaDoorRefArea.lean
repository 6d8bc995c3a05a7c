/- The document's own Space, Border, Inside. -/
import Derived.Test.YticjjikodignfaaDoorGeo
namespace Go.Proofs.YticjjikodignfaaDoor
open Go.RowKit

theorem int_val {a b : Int} (h : a = b) : Value.int .i64 a = Value.int .i64 b := by rw [h]

set_option maxHeartbeats 1600000 in
theorem r_divisor_any (a b : Int) (w : World) (a1 : -100000 ≤ a) (a2 : a ≤ 100000) (b1 : -100000 ≤ b) (b2 : b ≤ 100000) :
    Gives Tryd.prog 72 #[.int .i64 a, .int .i64 b] w (.int .i64 (Nat.gcd a.natAbs b.natAbs)) := by
  by_cases ha : 0 ≤ a <;> by_cases hb : 0 ≤ b
  all_goals
    go_enter Tryd.func72, Tryd.ntmps72
    go_wp2
    go_loopw [0, 1] (fun u v wr => ∃ c d : Nat, c ≤ 100000 ∧ d ≤ 100000 ∧ Hid (Nat.gcd c d = Nat.gcd a.natAbs b.natAbs) ∧ u = .int .i64 c ∧ v = .int .i64 d ∧ ∃ x : Later w, wr = x.val) (fun _ v _ => (intOf v).toNat)
    case atStart => exact ⟨a.natAbs, b.natAbs, by omega, by omega, rfl, int_val (by omega), int_val (by omega), later_of (by repeat (first | exact Below.refl _ _ | (with_reducible assumption) | apply below_later | apply below_alloc | apply below_drew | apply below_drewN))⟩
    case round =>
      obtain ⟨c, d, hc, hd, Hg, rfl, rfl, x, rfl⟩ := hrel
      by_cases h : d = 0
      · subst h
        go_wp2
        go_ret
        exact ⟨ret_int (by have := Hg.out; rw [Nat.gcd_zero_right] at this; rw [this]), later_of (by repeat (first | exact Below.refl _ _ | (with_reducible assumption) | apply below_later | apply below_alloc | apply below_drew | apply below_drewN))⟩
      · have h1 : 1 ≤ (d : Int) := by omega
        have h2 : ((d : Int) != 0) = true := by simp; omega
        have h3 : c % d < d := Nat.mod_lt _ (by omega)
        have e : (c : Int) % (d : Int) = ((c % d : Nat) : Int) := (Int.natCast_emod c d).symm
        have Hh := Lib.hid h
        clear h
        go_wp2_with fail
        first | (with_reducible show Code.wp _ _ _ _ (Later.val _); refine wp_region_later_at _ (by kernel_rfl) (by kernel_rfl) ?_) | refine wp_region_later (by kernel_rfl) (by kernel_rfl) ?_
        repeat (go_big_quiet_step ((fail)))
        refine wpQuiet_nil ?_
        intro z
        go_wp2
        go_roundw
        case rel => exact ⟨d, c % d, hd, by omega, by have := Hg.out; unfold Hid; rw [← this, Nat.gcd_comm c d, Nat.gcd_rec d c, Nat.gcd_comm], rfl, rfl, later_of (by repeat (first | exact Below.refl _ _ | (with_reducible assumption) | apply below_later | apply below_alloc | apply below_drew | apply below_drewN))⟩
        case measure => simp [intOf]; omega

def fanI (n : Nat) (px py : Nat → Int) : Int := sumN (n - 2) fun t => crossI (px 0) (py 0) (px (t + 1)) (py (t + 1)) (px (t + 2)) (py (t + 2))

set_option maxRecDepth 100000 in
set_option maxHeartbeats 800000 in
theorem r_twice_any (b off n cap : Nat) (px py : Nat → Int) (w : World) (h0 : 3 ≤ n) (hn : n ≤ 40) (hp : Posts w b off n px py) (hr : ∀ i, i < n → InRange (px i) (py i)) :
    Gives Tryd.prog 71 #[.slice (some ⟨b, off, none⟩) n cap] w (.int .i64 (fanI n px py)) := by
  have hl := hp.lt
  have Hr := Lib.hid hr
  have c1 : w.cell? ⟨b, off, none⟩ = some (.int .i64 (px 0)) := by simpa using hp.x 0 (by omega)
  have c2 : w.cell? ⟨b, off + 1, none⟩ = some (.int .i64 (py 0)) := by simpa using hp.y 0 (by omega)
  have r1 := hr 0 (by omega)
  have Hb : Hid (∀ k, k + 2 ≤ n → -400000000 ≤ sumN k (fun t => crossI (px 0) (py 0) (px (t + 1)) (py (t + 1)) (px (t + 2)) (py (t + 2))) ∧ sumN k (fun t => crossI (px 0) (py 0) (px (t + 1)) (py (t + 1)) (px (t + 2)) (py (t + 2))) ≤ 400000000) := fun k hk =>
    sumN_bd 8000000 _ k (fun i hi => crossI_bd r1 (hr (i + 1) (by omega)) (hr (i + 2) (by omega))) (by omega) _ (by omega)
  clear hr
  go_enter Tryd.func71, Tryd.ntmps71
  go_wp2
  go_loopw [3, 4] (fun s v wr => ∃ k : Nat, k + 2 ≤ n ∧ v = .int .i64 ((k + 1 : Nat) : Int) ∧ s = .int .i64 (sumN k fun t => crossI (px 0) (py 0) (px (t + 1)) (py (t + 1)) (px (t + 2)) (py (t + 2))) ∧ ∃ x : Later w, wr = x.val) (fun _ v _ => n - (intOf v).toNat)
  case atStart => exact ⟨0, by omega, rfl, rfl, later_of (by repeat (first | exact Below.refl _ _ | (with_reducible assumption) | apply below_later | apply below_alloc | apply below_drew | apply below_drewN))⟩
  case round =>
    obtain ⟨k, hk, rfl, rfl, x, rfl⟩ := hrel
    have ec : ((k + 1 : Nat) : Int) = (k : Int) + 1 := by omega
    rw [ec]
    by_cases hlt : k + 2 < n
    · have c3 := hp.x (k + 1) (by omega)
      have c4 := hp.y (k + 1) (by omega)
      have c5 := hp.x (k + 1 + 1) (by omega)
      have c6 := hp.y (k + 1 + 1) (by omega)
      have r2 := Hr.out (k + 1) (by omega)
      have r3 := Hr.out (k + 2) (by omega)
      have hb1 := Hb.out k hk
      have hb2 : -400000000 ≤ sumN k (fun t => crossI (px 0) (py 0) (px (t + 1)) (py (t + 1)) (px (t + 2)) (py (t + 2))) + crossI (px 0) (py 0) (px (k + 1)) (py (k + 1)) (px (k + 1 + 1)) (py (k + 1 + 1)) ∧ sumN k (fun t => crossI (px 0) (py 0) (px (t + 1)) (py (t + 1)) (px (t + 2)) (py (t + 2))) + crossI (px 0) (py 0) (px (k + 1)) (py (k + 1)) (px (k + 1 + 1)) (py (k + 1 + 1)) ≤ 400000000 := Hb.out (k + 1) (by omega)
      obtain ⟨q1, q2⟩ := hb1
      obtain ⟨q3, q4⟩ := hb2
      generalize hS : sumN k (fun t => crossI (px 0) (py 0) (px (t + 1)) (py (t + 1)) (px (t + 2)) (py (t + 2))) = S at *
      have HS := Lib.hid hS
      clear hS
      go_wp2_with fail
      first | (with_reducible show Code.wp _ _ _ _ (Later.val _); refine wp_region_later_at _ (by kernel_rfl) (by kernel_rfl) ?_) | refine wp_region_later (by kernel_rfl) (by kernel_rfl) ?_
      repeat (go_big_quiet_step ((first | (go_at_call 78; (with_reducible refine Later.call _ (r_turn_any _ _ _ _ _ _ _ (by assumption) (by assumption) (by assumption)))))))
      refine wpQuiet_nil ?_
      intro y
      go_wp2
      go_roundw
      case rel => exact ⟨k + 1, by omega, by go_num, by simp only [sumN]; rw [HS.out], later_of (by repeat (first | exact Below.refl _ _ | (with_reducible assumption) | apply below_later | apply below_alloc | apply below_drew | apply below_drewN))⟩
      case measure => simp [intOf]; omega
    · obtain ⟨m, rfl⟩ : ∃ m, n = m + 2 := ⟨n - 2, by omega⟩
      obtain rfl : m = k := by omega
      go_wp2
      go_ret
      exact ⟨rfl, later_of (by repeat (first | exact Below.refl _ _ | (with_reducible assumption) | apply below_later | apply below_alloc | apply below_drew | apply below_drewN))⟩

theorem fanI_bd {n : Nat} {px py : Nat → Int} (h0 : 3 ≤ n) (hn : n ≤ 40) (hr : ∀ i, i < n → InRange (px i) (py i)) : -400000000 ≤ fanI n px py ∧ fanI n px py ≤ 400000000 :=
  sumN_bd 8000000 _ (n - 2) (fun i hi => crossI_bd (hr 0 (by omega)) (hr (i + 1) (by omega)) (hr (i + 2) (by omega))) (by omega) _ (by omega)

set_option maxHeartbeats 800000 in
theorem r_space_any (b off n cap : Nat) (px py : Nat → Int) (w : World) (h0 : 3 ≤ n) (hn : n ≤ 40) (hp : Posts w b off n px py) (hr : ∀ i, i < n → InRange (px i) (py i)) :
    Gives Tryd.prog 34 #[.slice (some ⟨b, off, none⟩) n cap] w (.int .i64 (absI (fanI n px py))) := by
  obtain ⟨q1, q2⟩ := fanI_bd h0 hn hr
  have Hr := Lib.hid hr
  have Hp := Lib.hid hp
  clear hr hp
  have HA : Hid (absI (fanI n px py) = max (fanI n px py) (-(fanI n px py))) := by show _ = _; unfold absI; omega
  go_enter Tryd.func34, Tryd.ntmps34
  go_wp2_with (first | (go_at_call 71; (first | (with_reducible show Calls _ _ _ (Later.val _) _; with_reducible refine Calls.mono (Later.call _ (r_twice_any _ _ _ _ _ _ _ (by assumption) (by assumption) (by first | exact Hp.out | exact Hp.out.later _) Hr.out)) ?_) | (with_reducible refine Calls.mono (Gives.calls (r_twice_any _ _ _ _ _ _ _ (by assumption) (by assumption) (by first | exact Hp.out | exact Hp.out.later _) Hr.out)) ?_)); rintro e w1 ⟨rfl, y1, rfl⟩))
  all_goals
    go_ret
    exact ⟨ret_int (by rw [HA.out]; omega), later_of (by repeat (first | exact Below.refl _ _ | (with_reducible assumption) | apply below_later | apply below_alloc | apply below_drew | apply below_drewN))⟩

set_option maxRecDepth 100000 in
set_option maxHeartbeats 1600000 in
theorem r_border_any (b off n cap : Nat) (px py : Nat → Int) (w : World) (h0 : 0 < n) (hn : n ≤ 40) (hp : Posts w b off n px py) (hr : ∀ i, i < n → InRange (px i) (py i)) :
    Gives Tryd.prog 35 #[.slice (some ⟨b, off, none⟩) n cap] w (.int .i64 (borderI n px py)) := by
  have hl := hp.lt
  have hg : ∀ k, k < n → -(2000 : Int) ≤ ((Nat.gcd (px (nx n k) - px k).natAbs (py (nx n k) - py k).natAbs : Nat) : Int) ∧ ((Nat.gcd (px (nx n k) - px k).natAbs (py (nx n k) - py k).natAbs : Nat) : Int) ≤ 2000 := fun k hk => by
    have r1 := hr k hk
    have r2 := hr _ (nx_lt (n := n) k h0)
    unfold InRange at r1 r2
    have := gcd_bd (a := (px (nx n k) - px k).natAbs) (b := (py (nx n k) - py k).natAbs) (m := 2000) (by omega) (by omega)
    omega
  have Hb : Hid (∀ k, k ≤ n → -80000 ≤ sumN k (fun k => ((Nat.gcd (px (nx n k) - px k).natAbs (py (nx n k) - py k).natAbs : Nat) : Int)) ∧ sumN k (fun k => ((Nat.gcd (px (nx n k) - px k).natAbs (py (nx n k) - py k).natAbs : Nat) : Int)) ≤ 80000) := fun k hk =>
    sumN_bd 2000 _ k (fun i hi => hg i (by omega)) (by omega) _ (by omega)
  have Hr := Lib.hid hr
  clear hr hg
  go_enter Tryd.func35, Tryd.ntmps35
  go_wp2
  go_loopw [3, 4] (fun s v wr => ∃ k : Nat, k ≤ n ∧ v = .int .i64 k ∧ s = .int .i64 (sumN k fun k => ((Nat.gcd (px (nx n k) - px k).natAbs (py (nx n k) - py k).natAbs : Nat) : Int)) ∧ ∃ x : Later w, wr = x.val) (fun _ v _ => n - (intOf v).toNat)
  case atStart => exact ⟨0, by omega, rfl, rfl, later_of (by repeat (first | exact Below.refl _ _ | (with_reducible assumption) | apply below_later | apply below_alloc | apply below_drew | apply below_drewN))⟩
  case round =>
    obtain ⟨k, hk, rfl, rfl, x, rfl⟩ := hrel
    by_cases hlt : k < n
    · have hb' : b < x.val.heap.size := Nat.lt_of_lt_of_le hl x.size
      have hp' := hp.later x
      have c1 := hp'.x k hlt
      have c2 := hp'.y k hlt
      have hnx := nx_lt (n := n) k h0
      have c3 := hp'.x _ hnx
      have c4 := hp'.y _ hnx
      have e1 := nx_eq n k
      have r1 := Hr.out k hlt
      have r2 := Hr.out _ hnx
      unfold InRange at r1 r2
      obtain ⟨b1, b2, b3, b4⟩ := r1
      obtain ⟨b5, b6, b7, b8⟩ := r2
      have hb1 := Hb.out k hk
      have hb2 := Hb.out (k + 1) hlt
      simp only [sumN] at hb2
      obtain ⟨q1, q2⟩ := hb1
      obtain ⟨q3, q4⟩ := hb2
      generalize hS : sumN k (fun k => ((Nat.gcd (px (nx n k) - px k).natAbs (py (nx n k) - py k).natAbs : Nat) : Int)) = S at *
      have HS := Lib.hid hS
      clear hS hp'
      go_wp2_with fail
      first | (with_reducible show Code.wp _ _ _ _ (Later.val _); refine wp_region_later_at _ (by kernel_rfl) (by kernel_rfl) ?_) | refine wp_region_later (by kernel_rfl) (by kernel_rfl) ?_
      repeat (go_big_quiet_step ((first | (go_at_call 72; (with_reducible refine Later.call _ (r_divisor_any _ _ _ (by omega) (by omega) (by omega) (by omega)))))))
      refine wpQuiet_nil ?_
      intro z
      go_wp2
      go_roundw
      case rel => exact ⟨k + 1, by omega, by go_num, by simp only [sumN]; rw [HS.out], later_of (by repeat (first | exact Below.refl _ _ | (with_reducible assumption) | apply below_later | apply below_alloc | apply below_drew | apply below_drewN))⟩
      case measure => simp [intOf]; omega
    · obtain rfl : k = n := by omega
      go_wp2
      go_ret
      exact ⟨rfl, later_of (by repeat (first | exact Below.refl _ _ | (with_reducible assumption) | apply below_later | apply below_alloc | apply below_drew | apply below_drewN))⟩

set_option maxHeartbeats 800000 in
theorem r_inside_any (b off n cap : Nat) (px py : Nat → Int) (w : World) (h0 : 3 ≤ n) (hn : n ≤ 40) (hp : Posts w b off n px py) (hr : ∀ i, i < n → InRange (px i) (py i)) :
    Gives Tryd.prog 36 #[.slice (some ⟨b, off, none⟩) n cap] w (.int .i64 (((absI (fanI n px py)) - borderI n px py + 2).tdiv 2)) := by
  obtain ⟨q1, q2⟩ := fanI_bd h0 hn hr
  obtain ⟨q3, q4⟩ := borderI_bd (by omega) hn hr
  have q5 : 0 ≤ absI (fanI n px py) := by unfold absI; omega
  have q6 : absI (fanI n px py) ≤ 400000000 := by unfold absI; omega
  have Hr := Lib.hid hr
  have Hp := Lib.hid hp
  clear hr hp
  go_enter Tryd.func36, Tryd.ntmps36
  go_wp2_with (first | (go_at_call 34; (first | (with_reducible show Calls _ _ _ (Later.val _) _; with_reducible refine Calls.mono (Later.call _ (r_space_any _ _ _ _ _ _ _ (by assumption) (by assumption) (by first | exact Hp.out | exact Hp.out.later _) Hr.out)) ?_) | (with_reducible refine Calls.mono (Gives.calls (r_space_any _ _ _ _ _ _ _ (by assumption) (by assumption) (by first | exact Hp.out | exact Hp.out.later _) Hr.out)) ?_)); rintro e w1 ⟨rfl, y1, rfl⟩) | (go_at_call 35; (first | (with_reducible show Calls _ _ _ (Later.val _) _; with_reducible refine Calls.mono (Later.call _ (r_border_any _ _ _ _ _ _ _ (by omega) (by assumption) (by first | exact Hp.out | exact Hp.out.later _) Hr.out)) ?_) | (with_reducible refine Calls.mono (Gives.calls (r_border_any _ _ _ _ _ _ _ (by omega) (by assumption) (by first | exact Hp.out | exact Hp.out.later _) Hr.out)) ?_)); rintro e w1 ⟨rfl, y2, rfl⟩))
  go_ret
  exact ⟨rfl, later_of (by repeat (first | exact Below.refl _ _ | (with_reducible assumption) | apply below_later | apply below_alloc | apply below_drew | apply below_drewN))⟩

theorem fan_step (ax ay bx b_y cx cy : Int) : crossI ax ay bx b_y cx cy = crossI 0 0 bx b_y cx cy + crossI 0 0 ax ay bx b_y - crossI 0 0 ax ay cx cy := by unfold crossI; grind

/-- The fan from the first post says the sum over all sides. -/
theorem fan_eq {n : Nat} (px py : Nat → Int) (h0 : 3 ≤ n) : fanI n px py = areaI n px py := by
  obtain ⟨m, rfl⟩ : ∃ m, n = m + 2 := ⟨n - 2, by omega⟩
  have key : ∀ k, k ≤ m → sumN k (fun t => crossI (px 0) (py 0) (px (t + 1)) (py (t + 1)) (px (t + 2)) (py (t + 2)))
      = sumN (k + 1) (fun t => crossI 0 0 (px t) (py t) (px (t + 1)) (py (t + 1))) - crossI 0 0 (px 0) (py 0) (px (k + 1)) (py (k + 1)) := by
    intro k
    induction k with
    | zero => intro _; simp only [sumN]; omega
    | succ k ih =>
      intro hk
      have := ih (by omega)
      simp only [sumN] at this ⊢
      rw [this]
      have e := fan_step (px 0) (py 0) (px (k + 1)) (py (k + 1)) (px (k + 2)) (py (k + 2))
      have e2 : k + 1 + 1 = k + 2 := rfl
      rw [e, e2]
      omega
  have h := key m (Nat.le_refl _)
  have hs : ∀ k, k ≤ m + 1 → sumN k (fun t => crossI 0 0 (px t) (py t) (px (nx (m + 2) t)) (py (nx (m + 2) t))) = sumN k (fun t => crossI 0 0 (px t) (py t) (px (t + 1)) (py (t + 1))) := by
    intro k
    induction k with
    | zero => intro _; rfl
    | succ k ih =>
      intro hk
      simp only [sumN]
      rw [ih (by omega)]
      rcases nx_cases (show k < m + 2 by omega) with ⟨_, e⟩ | ⟨e, _⟩
      · rw [e]
      · omega
  unfold fanI areaI
  rw [show m + 2 - 2 = m by omega, h]
  show _ = sumN (m + 1) _ + crossI 0 0 (px (m + 1)) (py (m + 1)) (px (nx (m + 2) (m + 1))) (py (nx (m + 2) (m + 1)))
  rw [hs (m + 1) (Nat.le_refl _)]
  rcases nx_cases (show m + 1 < m + 2 by omega) with ⟨e, _⟩ | ⟨_, e⟩
  · omega
  · rw [e]
    have : crossI 0 0 (px (m + 1)) (py (m + 1)) (px 0) (py 0) = - crossI 0 0 (px 0) (py 0) (px (m + 1)) (py (m + 1)) := by unfold crossI; grind
    rw [this]
    omega
end Go.Proofs.YticjjikodignfaaDoor
