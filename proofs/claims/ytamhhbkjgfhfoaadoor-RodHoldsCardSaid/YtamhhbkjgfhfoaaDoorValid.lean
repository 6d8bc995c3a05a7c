/- rod.Valid, and what it calls. -/
import Derived.Test.YtamhhbkjgfhfoaaDoorAround
namespace Go.Proofs.YtamhhbkjgfhfoaaDoor
open Go.RowKit

def backB (n : Nat) (px py : Nat → Int) (k : Nat) : Bool :=
  decide (crossI (px k) (py k) (px (pv n k)) (py (pv n k)) (px (nx n k)) (py (nx n k)) = 0) && decide (0 < dotI (px k) (py k) (px (pv n k)) (py (pv n k)) (px (nx n k)) (py (nx n k)))
def noBackB (n : Nat) (px py : Nat → Int) : Bool := allB n fun k => !backB n px py k

set_option maxRecDepth 100000 in
set_option maxHeartbeats 1600000 in
theorem noSideTurnsBack_any (b off n cap : Nat) (px py : Nat → Int) (w : World) (h2 : 2 ≤ n) (hn : n ≤ 40) (hp : Posts w b off n px py) (hr : ∀ i, i < n → InRange (px i) (py i)) :
    Gives Tryd.prog 42 #[.slice (some ⟨b, off, none⟩) n cap] w (.bool (noBackB n px py)) := by
  have Hp := Lib.hid hp
  have Hr := Lib.hid hr
  clear hp hr
  go_enter Tryd.func42, Tryd.ntmps42
  go_wp2
  go_loopw [9] (fun v wr => ∃ k : Nat, k ≤ n ∧ v = .int .i64 k ∧ (∀ j, j < k → (!backB n px py j) = true) ∧ ∃ x : Later w, wr = x.val) (fun v _ => n - (intOf v).toNat)
  case atStart => exact ⟨0, by omega, rfl, by omega, later_of (by repeat (first | exact Below.refl _ _ | (with_reducible assumption) | apply below_later | apply below_alloc | apply below_drew | apply below_drewN))⟩
  case round =>
    obtain ⟨k, hk, rfl, hj, x, rfl⟩ := hrel
    have Hj := Lib.hid hj
    clear hj
    by_cases hlt : k < n
    · have r1 := Hr.out _ (pv_lt (n := n) k (by omega))
      have r2 := Hr.out k hlt
      have r3 := Hr.out _ (nx_lt (n := n) k (by omega))
      by_cases c0 : crossI (px k) (py k) (px (pv n k)) (py (pv n k)) (px (nx n k)) (py (nx n k)) = 0
      · have C0 := Lib.hid c0
        have c1 : (crossI (px k) (py k) (px (pv n k)) (py (pv n k)) (px (nx n k)) (py (nx n k)) == 0) = true := by simpa using c0
        clear c0
        by_cases d0 : 0 < dotI (px k) (py k) (px (pv n k)) (py (pv n k)) (px (nx n k)) (py (nx n k))
        · have D0 := Lib.hid d0
          go_wp2_with (first | (go_at_call 44; (first | (with_reducible show Calls _ _ _ (Later.val _) _; with_reducible refine Calls.mono (Later.call _ (around_any _ _ _ _ _ _ _ _ h2 hn hlt (Hp.out.later _))) ?_) | (with_reducible refine Calls.mono (Gives.calls (around_any _ _ _ _ _ _ _ _ h2 hn hlt (Hp.out.later _))) ?_)); rintro e w1 ⟨rfl, y1, rfl⟩) | (go_at_call 39; (first | (with_reducible show Calls _ _ _ (Later.val _) _; with_reducible refine Calls.mono (Later.call _ (cross_any _ _ _ _ _ _ _ (by assumption) (by assumption) (by assumption))) ?_) | (with_reducible refine Calls.mono (Gives.calls (cross_any _ _ _ _ _ _ _ (by assumption) (by assumption) (by assumption))) ?_)); rintro e w1 ⟨rfl, y2, rfl⟩) | (go_at_call 60; (first | (with_reducible show Calls _ _ _ (Later.val _) _; with_reducible refine Calls.mono (Later.call _ (dot_any _ _ _ _ _ _ _ (by assumption) (by assumption) (by assumption))) ?_) | (with_reducible refine Calls.mono (Gives.calls (dot_any _ _ _ _ _ _ _ (by assumption) (by assumption) (by assumption))) ?_)); rintro e w1 ⟨rfl, y3, rfl⟩))
          go_ret
          exact ⟨ret_bool (by symm; exact allB_false hlt (by simp [backB, C0.out, D0.out])), later_of (by repeat (first | exact Below.refl _ _ | (with_reducible assumption) | apply below_later | apply below_alloc | apply below_drew | apply below_drewN))⟩
        · have D0 := Lib.hid d0
          go_wp2_with (first | (go_at_call 44; (first | (with_reducible show Calls _ _ _ (Later.val _) _; with_reducible refine Calls.mono (Later.call _ (around_any _ _ _ _ _ _ _ _ h2 hn hlt (Hp.out.later _))) ?_) | (with_reducible refine Calls.mono (Gives.calls (around_any _ _ _ _ _ _ _ _ h2 hn hlt (Hp.out.later _))) ?_)); rintro e w1 ⟨rfl, y1, rfl⟩) | (go_at_call 39; (first | (with_reducible show Calls _ _ _ (Later.val _) _; with_reducible refine Calls.mono (Later.call _ (cross_any _ _ _ _ _ _ _ (by assumption) (by assumption) (by assumption))) ?_) | (with_reducible refine Calls.mono (Gives.calls (cross_any _ _ _ _ _ _ _ (by assumption) (by assumption) (by assumption))) ?_)); rintro e w1 ⟨rfl, y2, rfl⟩) | (go_at_call 60; (first | (with_reducible show Calls _ _ _ (Later.val _) _; with_reducible refine Calls.mono (Later.call _ (dot_any _ _ _ _ _ _ _ (by assumption) (by assumption) (by assumption))) ?_) | (with_reducible refine Calls.mono (Gives.calls (dot_any _ _ _ _ _ _ _ (by assumption) (by assumption) (by assumption))) ?_)); rintro e w1 ⟨rfl, y3, rfl⟩))
          go_roundw
          case rel => exact ⟨k + 1, by omega, by go_num, all_step Hj.out (by simp [backB, D0.out]), later_of (by repeat (first | exact Below.refl _ _ | (with_reducible assumption) | apply below_later | apply below_alloc | apply below_drew | apply below_drewN))⟩
          case measure => simp [intOf]; omega
      · have C0 := Lib.hid c0
        have c1 : (crossI (px k) (py k) (px (pv n k)) (py (pv n k)) (px (nx n k)) (py (nx n k)) == 0) = false := by simpa using c0
        clear c0
        go_wp2_with (first | (go_at_call 44; (first | (with_reducible show Calls _ _ _ (Later.val _) _; with_reducible refine Calls.mono (Later.call _ (around_any _ _ _ _ _ _ _ _ h2 hn hlt (Hp.out.later _))) ?_) | (with_reducible refine Calls.mono (Gives.calls (around_any _ _ _ _ _ _ _ _ h2 hn hlt (Hp.out.later _))) ?_)); rintro e w1 ⟨rfl, y1, rfl⟩) | (go_at_call 39; (first | (with_reducible show Calls _ _ _ (Later.val _) _; with_reducible refine Calls.mono (Later.call _ (cross_any _ _ _ _ _ _ _ (by assumption) (by assumption) (by assumption))) ?_) | (with_reducible refine Calls.mono (Gives.calls (cross_any _ _ _ _ _ _ _ (by assumption) (by assumption) (by assumption))) ?_)); rintro e w1 ⟨rfl, y2, rfl⟩))
        go_roundw
        case rel => exact ⟨k + 1, by omega, by go_num, all_step Hj.out (by simp [backB, C0.out]), later_of (by repeat (first | exact Below.refl _ _ | (with_reducible assumption) | apply below_later | apply below_alloc | apply below_drew | apply below_drewN))⟩
        case measure => simp [intOf]; omega
    · go_wp2
      go_ret
      exact ⟨ret_bool (by symm; exact allB_true fun i hi => Hj.out i (by omega)), later_of (by repeat (first | exact Below.refl _ _ | (with_reducible assumption) | apply below_later | apply below_alloc | apply below_drew | apply below_drewN))⟩

def neighB (n i k : Nat) : Bool := decide (k = i + 1) || (decide (i = 0) && decide (k + 1 = n))

set_option maxHeartbeats 400000 in
theorem neighbours_any (n i k : Nat) (w : World) (h0 : 1 ≤ n) (hn : n ≤ 100) (hi : i ≤ 100) (hk : k ≤ 100) : Gives Tryd.prog 61 #[.int .i64 n, .int .i64 i, .int .i64 k] w (.bool (neighB n i k)) := by
  by_cases h1 : k = i + 1
  · have e1 : ((k : Int) == (i : Int) + 1) = true := by simp; omega
    have H1 := Lib.hid h1
    clear h1
    go_enter Tryd.func61, Tryd.ntmps61
    go_wp2
    go_ret
    exact ⟨ret_bool (by simp [neighB, H1.out]), later_of (by repeat (first | exact Below.refl _ _ | (with_reducible assumption) | apply below_later | apply below_alloc | apply below_drew | apply below_drewN))⟩
  · have e1 : ((k : Int) == (i : Int) + 1) = false := by simp; omega
    by_cases h2 : i = 0
    · subst h2
      have e1 : ((k : Int) == 1) = false := by simp; omega
      by_cases h3 : k + 1 = n
      · have e3 : ((k : Int) == (n : Int) - 1) = true := by simp; omega
        have H1 := Lib.hid h1
        have H3 := Lib.hid h3
        clear h3 h1
        go_enter Tryd.func61, Tryd.ntmps61
        go_wp2
        go_ret
        exact ⟨ret_bool (by simp [neighB, H3.out]), later_of (by repeat (first | exact Below.refl _ _ | (with_reducible assumption) | apply below_later | apply below_alloc | apply below_drew | apply below_drewN))⟩
      · have e3 : ((k : Int) == (n : Int) - 1) = false := by simp; omega
        have H1 := Lib.hid h1
        have H3 := Lib.hid h3
        clear h3 h1
        go_enter Tryd.func61, Tryd.ntmps61
        go_wp2
        go_ret
        exact ⟨ret_bool (by have := H1.out; have := H3.out; simp [neighB]; omega), later_of (by repeat (first | exact Below.refl _ _ | (with_reducible assumption) | apply below_later | apply below_alloc | apply below_drew | apply below_drewN))⟩
    · have e2 : ((i : Int) == 0) = false := by simp; omega
      have H1 := Lib.hid h1
      have H2 := Lib.hid h2
      clear h1 h2
      go_enter Tryd.func61, Tryd.ntmps61
      go_wp2
      go_ret
      exact ⟨ret_bool (by have := H1.out; have := H2.out; simp [neighB]; omega), later_of (by repeat (first | exact Below.refl _ _ | (with_reducible assumption) | apply below_later | apply below_alloc | apply below_drew | apply below_drewN))⟩

def sideMeetB (n : Nat) (px py : Nat → Int) (i k : Nat) : Bool := meetB (px i) (py i) (px (i + 1)) (py (i + 1)) (px k) (py k) (px (nx n k)) (py (nx n k))
def apartB (n : Nat) (px py : Nat → Int) : Bool := allB n fun k => allB k fun i => neighB n i k || !sideMeetB n px py i k

set_option maxRecDepth 100000 in
set_option maxHeartbeats 1600000 in
theorem sidesKeepApart_any (b off n cap : Nat) (px py : Nat → Int) (w : World) (h2 : 2 ≤ n) (hn : n ≤ 40) (hp : Posts w b off n px py) (hr : ∀ i, i < n → InRange (px i) (py i)) :
    Gives Tryd.prog 43 #[.slice (some ⟨b, off, none⟩) n cap] w (.bool (apartB n px py)) := by
  have hl := hp.lt
  have Hr := Lib.hid hr
  clear hr
  go_enter Tryd.func43, Tryd.ntmps43
  go_wp2
  go_loopw [9] (fun v wr => ∃ k : Nat, k ≤ n ∧ v = .int .i64 k ∧ (∀ j, j < k → (allB j fun i => neighB n i j || !sideMeetB n px py i j) = true) ∧ ∃ x : Later w, wr = x.val) (fun v _ => n - (intOf v).toNat)
  case atStart => exact ⟨0, by omega, rfl, by omega, later_of (by repeat (first | exact Below.refl _ _ | (with_reducible assumption) | apply below_later | apply below_alloc | apply below_drew | apply below_drewN))⟩
  case round =>
    obtain ⟨k, hk, rfl, hj, x, rfl⟩ := hrel
    have Hj := Lib.hid hj
    clear hj
    by_cases hlt : k < n
    · go_wp2
      go_loopw [13] (fun v wr => ∃ i : Nat, i ≤ k ∧ v = .int .i64 i ∧ (∀ j, j < i → (neighB n j k || !sideMeetB n px py j k) = true) ∧ ∃ x : Later w, wr = x.val) (fun v _ => k - (intOf v).toNat)
      case atStart => exact ⟨0, by omega, rfl, by omega, later_of (by repeat (first | exact Below.refl _ _ | (with_reducible assumption) | apply below_later | apply below_alloc | apply below_drew | apply below_drewN))⟩
      case round =>
        obtain ⟨i, hi, rfl, hj, y, rfl⟩ := hrel
        have Hi := Lib.hid hj
        clear hj
        by_cases hit : i < k
        · have c1 := hp.x k hlt
          have c2 := hp.y k hlt
          have c3 := hp.x i (by omega)
          have c4 := hp.y i (by omega)
          have c5 := hp.x (i + 1) (by omega)
          have c6 := hp.y (i + 1) (by omega)
          have hnx := nx_lt (n := n) k (by omega)
          have c7 := hp.x _ hnx
          have c8 := hp.y _ hnx
          have r1 := Hr.out k hlt
          have r2 := Hr.out i (by omega)
          have r3 := Hr.out (i + 1) (by omega)
          have r4 := Hr.out _ hnx
          have e1 := nx_eq n k
          cases hg : neighB n i k
          · have Hg := Lib.hid hg
            cases hm : meetB (px i) (py i) (px (i + 1)) (py (i + 1)) (px k) (py k) (px (nx n k)) (py (nx n k))
            · have Hm := Lib.hid hm
              go_wp2_with fail
              first | (with_reducible show Code.wp _ _ _ _ (Later.val _); refine wp_region_later_at _ (by kernel_rfl) (by kernel_rfl) ?_) | refine wp_region_later (by kernel_rfl) (by kernel_rfl) ?_
              repeat (go_big_quiet_step ((first | (go_at_call 61; (with_reducible refine Later.call _ (neighbours_any _ _ _ _ (by omega) (by omega) (by omega) (by omega)))) | (go_at_call 62; (with_reducible refine Later.call _ (sidesMeet_any _ _ _ _ _ _ _ _ _ (by assumption) (by assumption) (by assumption) (by assumption)))))))
              refine wpQuiet_nil ?_
              intro z
              go_wp2
              go_roundw
              case rel => exact ⟨i + 1, by omega, by go_num, all_step Hi.out (by simp [sideMeetB, Hm.out]), later_of (by repeat (first | exact Below.refl _ _ | (with_reducible assumption) | apply below_later | apply below_alloc | apply below_drew | apply below_drewN))⟩
              case measure => simp [intOf]; omega
            · have Hm := Lib.hid hm
              go_wp2_with fail
              first | (with_reducible show Code.wp _ _ _ _ (Later.val _); refine wp_region_later_at _ (by kernel_rfl) (by kernel_rfl) ?_) | refine wp_region_later (by kernel_rfl) (by kernel_rfl) ?_
              repeat (go_big_quiet_step ((first | (go_at_call 61; (with_reducible refine Later.call _ (neighbours_any _ _ _ _ (by omega) (by omega) (by omega) (by omega)))) | (go_at_call 62; (with_reducible refine Later.call _ (sidesMeet_any _ _ _ _ _ _ _ _ _ (by assumption) (by assumption) (by assumption) (by assumption)))))))
              refine wpQuiet_nil ?_
              intro z
              go_wp2
              go_ret
              exact ⟨ret_bool (by symm; exact allB_false hlt (allB_false hit (by simp [sideMeetB, Hm.out, Hg.out]))), later_of (by repeat (first | exact Below.refl _ _ | (with_reducible assumption) | apply below_later | apply below_alloc | apply below_drew | apply below_drewN))⟩
          · have Hg := Lib.hid hg
            go_wp2_with fail
            first | (with_reducible show Code.wp _ _ _ _ (Later.val _); refine wp_region_later_at _ (by kernel_rfl) (by kernel_rfl) ?_) | refine wp_region_later (by kernel_rfl) (by kernel_rfl) ?_
            repeat (go_big_quiet_step ((first | (go_at_call 61; (with_reducible refine Later.call _ (neighbours_any _ _ _ _ (by omega) (by omega) (by omega) (by omega)))))))
            refine wpQuiet_nil ?_
            intro z
            go_wp2
            go_roundw
            case rel => exact ⟨i + 1, by omega, by go_num, all_step Hi.out (by simp [Hg.out]), later_of (by repeat (first | exact Below.refl _ _ | (with_reducible assumption) | apply below_later | apply below_alloc | apply below_drew | apply below_drewN))⟩
            case measure => simp [intOf]; omega
        · obtain rfl : i = k := by omega
          go_wp2
          go_roundw
          case rel => exact ⟨i + 1, by omega, by go_num, all_step Hj.out (allB_true Hi.out), later_of (by repeat (first | exact Below.refl _ _ | (with_reducible assumption) | apply below_later | apply below_alloc | apply below_drew | apply below_drewN))⟩
          case measure => simp [intOf]; omega
    · go_wp2
      go_ret
      exact ⟨ret_bool (by symm; exact allB_true fun i hi => Hj.out i (by omega)), later_of (by repeat (first | exact Below.refl _ _ | (with_reducible assumption) | apply below_later | apply below_alloc | apply below_drew | apply below_drewN))⟩

def validB (n : Nat) (px py : Nat → Int) : Bool :=
  decide (3 ≤ n) && decide (n ≤ 40) && rangedB n px py && (diffB n px py && noBackB n px py && apartB n px py)

theorem inRange_of_B {x y : Int} (h : (inR x && inR y) = true) : InRange x y := by
  simp only [inR, Bool.and_eq_true, decide_eq_true_eq] at h
  unfold InRange
  omega
theorem ranged_of_B {n : Nat} {px py : Nat → Int} (h : rangedB n px py = true) : ∀ i, i < n → InRange (px i) (py i) := fun i hi => inRange_of_B (allB_iff.1 h i hi)

/-- A slice that came in: n posts, none of them at the nil slice. -/
structure IsPosts (w : World) (A : Option Addr) (n : Nat) (px py : Nat → Int) : Prop where
  small : n ≤ 4611686018427387904
  at_ : 0 < n → ∃ b off, A = some ⟨b, off, none⟩ ∧ Posts w b off n px py
theorem IsPosts.later {w : World} {A : Option Addr} {n : Nat} {px py : Nat → Int} (h : IsPosts w A n px py) (x : Later w) : IsPosts x.val A n px py :=
  ⟨h.small, fun h0 => let ⟨b, off, e, hp⟩ := h.at_ h0; ⟨b, off, e, hp.later x⟩⟩

set_option maxRecDepth 100000 in
set_option maxHeartbeats 1600000 in
theorem valid_any (A : Option Addr) (n cap : Nat) (px py : Nat → Int) (w : World) (hp : IsPosts w A n px py) :
    Gives Tryd.prog 26 #[.slice A n cap] w (.bool (validB n px py)) := by
  have hs := hp.small
  by_cases h3 : n < 3
  · have H3 := Lib.hid h3
    have g : (n : Int) < 3 := by omega
    clear hp
    go_enter Tryd.func26, Tryd.ntmps26
    go_wp2
    go_ret
    exact ⟨ret_bool (by have := H3.out; simp [validB]; omega), later_of (by repeat (first | exact Below.refl _ _ | (with_reducible assumption) | apply below_later | apply below_alloc | apply below_drew | apply below_drewN))⟩
  · by_cases h4 : 40 < n
    · have H4 := Lib.hid h4
      have g : (40 : Int) < (n : Int) := by omega
      have g' : ¬ (n : Int) < 3 := by omega
      clear hp
      go_enter Tryd.func26, Tryd.ntmps26
      go_wp2
      go_ret
      exact ⟨ret_bool (by have := H4.out; simp [validB]; omega), later_of (by repeat (first | exact Below.refl _ _ | (with_reducible assumption) | apply below_later | apply below_alloc | apply below_drew | apply below_drewN))⟩
    · obtain ⟨b, off, rfl, hq⟩ := hp.at_ (by omega)
      have Hq := Lib.hid hq
      clear hp hq
      have g : ¬ (40 : Int) < (n : Int) := by omega
      have g' : ¬ (n : Int) < 3 := by omega
      have E : validB n px py = (rangedB n px py && (diffB n px py && noBackB n px py && apartB n px py)) := by
        have e1 : decide (3 ≤ n) = true := by simp; omega
        have e2 : decide (n ≤ 40) = true := by simp; omega
        simp only [validB, e1, e2, Bool.true_and]
      rw [E]
      clear E
      cases hr : rangedB n px py
      · go_enter Tryd.func26, Tryd.ntmps26
        go_wp2_with (first | (go_at_call 15; (first | (with_reducible show Calls _ _ _ (Later.val _) _; with_reducible refine Calls.mono (Later.call _ (allInRange_any _ _ _ _ _ _ _ (by omega) Hq.out)) ?_) | (with_reducible refine Calls.mono (Gives.calls (allInRange_any _ _ _ _ _ _ _ (by omega) Hq.out)) ?_)); rintro e w1 ⟨rfl, y1, rfl⟩))
        go_ret
        exact ⟨rfl, later_of (by repeat (first | exact Below.refl _ _ | (with_reducible assumption) | apply below_later | apply below_alloc | apply below_drew | apply below_drewN))⟩
      · have Hr := Lib.hid (ranged_of_B hr)
        cases hd : diffB n px py <;> cases hb : noBackB n px py <;> cases ha : apartB n px py
        all_goals
          go_enter Tryd.func26, Tryd.ntmps26
          go_wp2_with (first | (go_at_call 15; (first | (with_reducible show Calls _ _ _ (Later.val _) _; with_reducible refine Calls.mono (Later.call _ (allInRange_any _ _ _ _ _ _ _ (by omega) (Hq.out))) ?_) | (with_reducible refine Calls.mono (Gives.calls (allInRange_any _ _ _ _ _ _ _ (by omega) (Hq.out))) ?_)); rintro e w1 ⟨rfl, y1, rfl⟩) | (go_at_call 41; (first | (with_reducible show Calls _ _ _ (Later.val _) _; with_reducible refine Calls.mono (Later.call _ (cornersDiffer_any _ _ _ _ _ _ _ (by omega) (Hq.out.later _))) ?_) | (with_reducible refine Calls.mono (Gives.calls (cornersDiffer_any _ _ _ _ _ _ _ (by omega) (Hq.out.later _))) ?_)); rintro e w1 ⟨rfl, y2, rfl⟩) | (go_at_call 42; (first | (with_reducible show Calls _ _ _ (Later.val _) _; with_reducible refine Calls.mono (Later.call _ (noSideTurnsBack_any _ _ _ _ _ _ _ (by omega) (by omega) (Hq.out.later _) Hr.out)) ?_) | (with_reducible refine Calls.mono (Gives.calls (noSideTurnsBack_any _ _ _ _ _ _ _ (by omega) (by omega) (Hq.out.later _) Hr.out)) ?_)); rintro e w1 ⟨rfl, y3, rfl⟩) | (go_at_call 43; (first | (with_reducible show Calls _ _ _ (Later.val _) _; with_reducible refine Calls.mono (Later.call _ (sidesKeepApart_any _ _ _ _ _ _ _ (by omega) (by omega) (Hq.out.later _) Hr.out)) ?_) | (with_reducible refine Calls.mono (Gives.calls (sidesKeepApart_any _ _ _ _ _ _ _ (by omega) (by omega) (Hq.out.later _) Hr.out)) ?_)); rintro e w1 ⟨rfl, y4, rfl⟩))
          go_ret
          exact ⟨rfl, later_of (by repeat (first | exact Below.refl _ _ | (with_reducible assumption) | apply below_later | apply below_alloc | apply below_drew | apply below_drewN))⟩
end Go.Proofs.YtamhhbkjgfhfoaaDoor
