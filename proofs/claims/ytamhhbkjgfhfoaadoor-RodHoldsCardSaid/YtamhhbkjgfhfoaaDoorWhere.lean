/- rod.Where, rod.Left, rod.Convex, and what they call. -/
import Derived.Test.YtamhhbkjgfhfoaaDoorArea
import Derived.Deep.DeepCutAuto
namespace Go.Proofs.YtamhhbkjgfhfoaaDoor
open Go.RowKit

def anyB (n : Nat) (p : Nat → Bool) : Bool := !allB n fun i => !p i
theorem anyB_true {n k : Nat} {p : Nat → Bool} (hk : k < n) (h : p k = true) : anyB n p = true := by
  unfold anyB
  rw [allB_false hk (by rw [h]; rfl)]
  rfl
theorem anyB_false {n : Nat} {p : Nat → Bool} (h : ∀ i, i < n → p i = false) : anyB n p = false := by
  unfold anyB
  rw [allB_true fun i hi => by rw [h i hi]; rfl]
  rfl
theorem anyB_iff {n : Nat} {p : Nat → Bool} : anyB n p = true ↔ ∃ i, i < n ∧ p i = true := by
  constructor
  · intro h
    cases hc : allB n (fun i => !p i) with
    | true => unfold anyB at h; rw [hc] at h; cases h
    | false =>
      apply Classical.byContradiction
      intro hn
      have : allB n (fun i => !p i) = true := allB_true fun i hi => by
        cases hp : p i with
        | false => rfl
        | true => exact absurd ⟨i, hi, hp⟩ hn
      rw [hc] at this
      cases this
  · rintro ⟨i, hi, h⟩
    exact anyB_true hi h
theorem none_step {p : Nat → Bool} {k : Nat} (h : ∀ j, j < k → p j = false) (hk : p k = false) : ∀ j, j < k + 1 → p j = false := fun j hj => by
  rcases Nat.lt_or_ge j k with h1 | h1
  · exact h j h1
  · obtain rfl : j = k := by omega
    exact hk

def sideB (n : Nat) (px py : Nat → Int) (ax ay : Int) (i : Nat) : Bool := onSideB (px i) (py i) (px (nx n i)) (py (nx n i)) ax ay

set_option maxRecDepth 100000 in
set_option maxHeartbeats 800000 in
theorem onBorder_any (b off n cap : Nat) (px py : Nat → Int) (ax ay : Int) (w : World) (h0 : 0 < n) (hn : n ≤ 40) (hp : Posts w b off n px py) (hr : ∀ i, i < n → InRange (px i) (py i)) (ha : InRange ax ay) :
    Gives Tryd.prog 30 #[.slice (some ⟨b, off, none⟩) n cap, .agg #[.int .i64 ax, .int .i64 ay]] w (.bool (anyB n (sideB n px py ax ay))) := by
  have Hr := Lib.hid hr
  have Hp := Lib.hid hp
  clear hr hp
  have Bz : Below w.heap.size w (w.alloc (.cells #[.int .i64 ax, .int .i64 ay] 34)) := below_alloc (Below.refl _ _)
  have Hz := Lib.hid (Hp.out.later ⟨_, Bz⟩)
  have c5 : (w.alloc (.cells #[.int .i64 ax, .int .i64 ay] 34)).cell? ⟨w.heap.size, 0, none⟩ = some (.int .i64 ax) := by simp
  have c6 : (w.alloc (.cells #[.int .i64 ax, .int .i64 ay] 34)).cell? ⟨w.heap.size, 1, none⟩ = some (.int .i64 ay) := by simp
  have l5 : w.heap.size < (w.alloc (.cells #[.int .i64 ax, .int .i64 ay] 34)).heap.size := by simp
  go_enter Tryd.func30, Tryd.ntmps30
  go_wp2
  generalize w.alloc (.cells #[.int .i64 ax, .int .i64 ay] 34) = z at *
  go_loopw [8] (fun v wr => ∃ k : Nat, k ≤ n ∧ v = .int .i64 k ∧ (∀ j, j < k → sideB n px py ax ay j = false) ∧ ∃ x : Later z, wr = x.val) (fun v _ => n - (intOf v).toNat)
  case atStart => exact ⟨0, by omega, rfl, by omega, later_of (by repeat (first | exact Below.refl _ _ | (with_reducible assumption) | apply below_later | apply below_alloc | apply below_drew | apply below_drewN))⟩
  case round =>
    obtain ⟨k, hk, rfl, hj, x, rfl⟩ := hrel
    have Hj := Lib.hid hj
    clear hj
    by_cases hlt : k < n
    · have hl := Hz.out.lt
      have hnx := nx_lt (n := n) k h0
      have e1 := nx_eq n k
      have c1 := Hz.out.x k hlt
      have c2 := Hz.out.y k hlt
      have c3 := Hz.out.x _ hnx
      have c4 := Hz.out.y _ hnx
      have r1 := Hr.out k hlt
      have r2 := Hr.out _ hnx
      cases ho : onSideB (px k) (py k) (px (nx n k)) (py (nx n k)) ax ay
      · have Ho := Lib.hid ho
        go_wp2_with fail
        first | (with_reducible show Code.wp _ _ _ _ (Later.val _); refine wp_region_later_at _ (by kernel_rfl) (by kernel_rfl) ?_) | refine wp_region_later (by kernel_rfl) (by kernel_rfl) ?_
        repeat (go_big_quiet_step ((first | (go_at_call 46; (with_reducible refine Later.call _ ((Ho.out ▸ onSide_any _ _ _ _ _ _ _ (by assumption) (by assumption) (by assumption))))))))
        refine wpQuiet_nil ?_
        intro z
        go_wp2
        go_roundw
        case rel => exact ⟨k + 1, by omega, by go_num, none_step Hj.out Ho.out, later_of (by repeat (first | exact Below.refl _ _ | (with_reducible assumption) | apply below_later | apply below_alloc | apply below_drew | apply below_drewN))⟩
        case measure => simp [intOf]; omega
      · have Ho := Lib.hid ho
        go_wp2_with fail
        first | (with_reducible show Code.wp _ _ _ _ (Later.val _); refine wp_region_later_at _ (by kernel_rfl) (by kernel_rfl) ?_) | refine wp_region_later (by kernel_rfl) (by kernel_rfl) ?_
        repeat (go_big_quiet_step ((first | (go_at_call 46; (with_reducible refine Later.call _ ((Ho.out ▸ onSide_any _ _ _ _ _ _ _ (by assumption) (by assumption) (by assumption))))))))
        refine wpQuiet_nil ?_
        intro z
        go_wp2
        go_ret
        exact ⟨ret_bool (by symm; exact anyB_true hlt Ho.out), later_of (by repeat (first | exact Below.refl _ _ | (with_reducible assumption) | apply below_later | apply below_alloc | apply below_drew | apply below_drewN))⟩
    · obtain rfl : k = n := by omega
      go_wp2
      go_ret
      exact ⟨ret_bool (by symm; exact anyB_false Hj.out), later_of (by repeat (first | exact Below.refl _ _ | (with_reducible assumption) | apply below_later | apply below_alloc | apply below_drew | apply below_drewN))⟩

def parB : Nat → (Nat → Bool) → Bool
  | 0, _ => false
  | k + 1, f => if f k then !(parB k f) else parB k f
def passB (lx ly hx hy ax ay : Int) : Bool := decide (ly ≤ ay) && (decide (ay < hy) && decide (0 < crossI lx ly hx hy ax ay))
def stepB (n : Nat) (px py : Nat → Int) (ax ay : Int) (k : Nat) : Bool :=
  if py (nx n k) < py k then passB (px (nx n k)) (py (nx n k)) (px k) (py k) ax ay else passB (px k) (py k) (px (nx n k)) (py (nx n k)) ax ay
theorem passB_1 {lx ly hx hy ax ay : Int} (h : ¬ ly ≤ ay) : passB lx ly hx hy ax ay = false := by simp [passB, h]
theorem passB_2 {lx ly hx hy ax ay : Int} (h : ¬ ay < hy) : passB lx ly hx hy ax ay = false := by simp [passB, h]
theorem passB_3 {lx ly hx hy ax ay : Int} (h : ¬ 0 < crossI lx ly hx hy ax ay) : passB lx ly hx hy ax ay = false := by simp [passB, h]
theorem passB_4 {lx ly hx hy ax ay : Int} (h1 : ly ≤ ay) (h2 : ay < hy) (h3 : 0 < crossI lx ly hx hy ax ay) : passB lx ly hx hy ax ay = true := by simp [passB, h1, h2, h3]
theorem stepB_1 {n : Nat} {px py : Nat → Int} {ax ay : Int} {k : Nat} (h : py (nx n k) < py k) {v : Bool} (e : passB (px (nx n k)) (py (nx n k)) (px k) (py k) ax ay = v) : stepB n px py ax ay k = v := by rw [stepB, if_pos h, e]
theorem stepB_2 {n : Nat} {px py : Nat → Int} {ax ay : Int} {k : Nat} (h : ¬ py (nx n k) < py k) {v : Bool} (e : passB (px k) (py k) (px (nx n k)) (py (nx n k)) ax ay = v) : stepB n px py ax ay k = v := by rw [stepB, if_neg h, e]
theorem below_set {w w1 : World} {p : Addr} {u : Value} (h : Below w.heap.size w w1) (hp : w.heap.size ≤ p.block) : Below w.heap.size w (w1.setCell p u) := h.setCell hp u

set_option maxRecDepth 100000 in
set_option maxHeartbeats 1600000 in
theorem encloses_any (b off n cap : Nat) (px py : Nat → Int) (ax ay : Int) (w : World) (h0 : 0 < n) (hn : n ≤ 40) (hp : Posts w b off n px py) (hr : ∀ i, i < n → InRange (px i) (py i)) (ha : InRange ax ay) :
    Gives Tryd.prog 31 #[.slice (some ⟨b, off, none⟩) n cap, .agg #[.int .i64 ax, .int .i64 ay]] w (.bool (parB n (stepB n px py ax ay))) := by
  have Hr := Lib.hid hr
  have Hp := Lib.hid hp
  clear hr hp
  have Bz : Below w.heap.size w (w.alloc (.cells #[.int .i64 ax, .int .i64 ay] 34)) := below_alloc (Below.refl _ _)
  have Hz := Lib.hid (Hp.out.later ⟨_, Bz⟩)
  have c5 : (w.alloc (.cells #[.int .i64 ax, .int .i64 ay] 34)).cell? ⟨w.heap.size, 0, none⟩ = some (.int .i64 ax) := by simp
  have c6 : (w.alloc (.cells #[.int .i64 ax, .int .i64 ay] 34)).cell? ⟨w.heap.size, 1, none⟩ = some (.int .i64 ay) := by simp
  have l5 : w.heap.size < (w.alloc (.cells #[.int .i64 ax, .int .i64 ay] 34)).heap.size := by simp
  go_enter Tryd.func31, Tryd.ntmps31
  go_wp2
  generalize w.alloc (.cells #[.int .i64 ax, .int .i64 ay] 34) = z at *
  go_loopw [5, 11] (fun u v wr => ∃ k : Nat, k ≤ n ∧ v = .int .i64 k ∧ u = .bool (parB k (stepB n px py ax ay)) ∧ ∃ x : Later z, wr = x.val) (fun _ v _ => n - (intOf v).toNat)
  case atStart => exact ⟨0, by omega, rfl, rfl, later_of (by repeat (first | exact Below.refl _ _ | (with_reducible assumption) | apply below_later | apply below_alloc | apply below_drew | apply below_drewN))⟩
  case round =>
    obtain ⟨k, hk, rfl, rfl, x, rfl⟩ := hrel
    by_cases hlt : k < n
    · have hnx := nx_lt (n := n) k h0
      have e1 := nx_eq n k
      have Hx := Lib.hid (Hz.out.later x)
      have hl := Hx.out.lt
      have c1 := Hx.out.x k hlt
      have c2 := Hx.out.y k hlt
      have c3 := Hx.out.x _ hnx
      have c4 := Hx.out.y _ hnx
      have r1 := Hr.out k hlt
      have r2 := Hr.out _ hnx
      have d5 := (x.cell _ _ l5).trans c5
      have d6 := (x.cell _ _ l5).trans c6
      have l6 := x.lt _ l5
      generalize hP : parB k (stepB n px py ax ay) = P
      have HP := Lib.hid hP
      clear hP
      go_wp2_with fail
      go_cut [7, 8] (fun s7 s8 wx => ∃ B1 B2 : Nat, s7 = .pointer (some ⟨B1, 0, none⟩) ∧ s8 = .pointer (some ⟨B2, 0, none⟩) ∧ B1 ≠ B2 ∧ (w.heap.size < B1 ∧ w.heap.size < B2) ∧
        (B1 < wx.heap.size ∧ wx.cell? ⟨B1, 0, none⟩ = some (.int .i64 (px k)) ∧ wx.cell? ⟨B1, 1, none⟩ = some (.int .i64 (py k))) ∧
        (B2 < wx.heap.size ∧ wx.cell? ⟨B2, 0, none⟩ = some (.int .i64 (px (nx n k))) ∧ wx.cell? ⟨B2, 1, none⟩ = some (.int .i64 (py (nx n k)))) ∧
        (wx.cell? ⟨w.heap.size, 0, none⟩ = some (.int .i64 ax) ∧ wx.cell? ⟨w.heap.size, 1, none⟩ = some (.int .i64 ay)) ∧ Below z.heap.size z wx ∧ z.heap.size ≤ B1 ∧ z.heap.size ≤ B2 ∧ (wx.frozen? ⟨B1, 0, none⟩ = false ∧ wx.frozen? ⟨B1, 1, none⟩ = false ∧ wx.frozen? ⟨B2, 0, none⟩ = false ∧ wx.frozen? ⟨B2, 1, none⟩ = false))
      case first =>
        go_region
        all_goals
          go_wp2_with fail
          go_meet
          have hzx := x.size
          exact ⟨_, _, rfl, rfl, by omega, by omega, ⟨by simp; try omega, by simp [go_sem], by simp [go_sem]⟩, ⟨by simp; try omega, by simp [go_sem], by simp [go_sem]⟩, ⟨(Below.cell (w := x.val) (below_alloc (below_alloc (Below.refl _ _))) l6).trans d5, (Below.cell (w := x.val) (below_alloc (below_alloc (Below.refl _ _))) l6).trans d6⟩, (by repeat (first | exact Below.refl _ _ | (with_reducible assumption) | apply below_later | apply below_alloc | apply below_drew | apply below_drewN)), by omega, by omega, ⟨by simp [go_sem], by simp [go_sem], by simp [go_sem], by simp [go_sem]⟩⟩
      case rest =>
        obtain ⟨B1, B2, rfl, rfl, hne, ⟨hb1, hb2⟩, ⟨l1, f1, f2⟩, ⟨l2, f3, f4⟩, ⟨f5, f6⟩, hz, hz1, hz2, z1, z2, z3, z4⟩ := hcut
        have n1 : B2 ≠ B1 := fun e => hne e.symm
        have n2 : w.heap.size ≠ B1 := by omega
        have n3 : w.heap.size ≠ B2 := by omega
        have n4 : B1 ≠ w.heap.size := by omega
        have n5 : B2 ≠ w.heap.size := by omega
        by_cases hs : py (nx n k) < py k
        · skip
          by_cases g1 : py (nx n k) ≤ ay
          · by_cases g2 : ay < py k
            · by_cases g3 : 0 < crossI (px (nx n k)) (py (nx n k)) (px k) (py k) ax ay
              · skip
                have HF := Lib.hid (show stepB n px py ax ay k = true from stepB_1 hs (passB_4 g1 g2 g3))
                go_wp2_with (first | (go_at_call 39; (first | (with_reducible show Calls _ _ _ (Later.val _) _; with_reducible refine Calls.mono (Later.call _ (cross_any _ _ _ _ _ _ _ (by assumption) (by assumption) (by assumption))) ?_) | (with_reducible refine Calls.mono (Gives.calls (cross_any _ _ _ _ _ _ _ (by assumption) (by assumption) (by assumption))) ?_)); rintro e w1 ⟨rfl, q, rfl⟩))
                go_roundw
                case rel => exact ⟨k + 1, by omega, by go_num, by simp only [parB]; rw [HF.out, HP.out]; rfl, later_of (by repeat (first | exact Below.refl _ _ | (with_reducible assumption) | apply below_later | apply below_set _ (by assumption)))⟩
                case measure => simp [intOf]; omega
              · skip
                have HF := Lib.hid (show stepB n px py ax ay k = false from stepB_1 hs (passB_3 g3))
                go_wp2_with (first | (go_at_call 39; (first | (with_reducible show Calls _ _ _ (Later.val _) _; with_reducible refine Calls.mono (Later.call _ (cross_any _ _ _ _ _ _ _ (by assumption) (by assumption) (by assumption))) ?_) | (with_reducible refine Calls.mono (Gives.calls (cross_any _ _ _ _ _ _ _ (by assumption) (by assumption) (by assumption))) ?_)); rintro e w1 ⟨rfl, q, rfl⟩))
                go_roundw
                case rel => exact ⟨k + 1, by omega, by go_num, by simp only [parB]; rw [HF.out, HP.out]; rfl, later_of (by repeat (first | exact Below.refl _ _ | (with_reducible assumption) | apply below_later | apply below_set _ (by assumption)))⟩
                case measure => simp [intOf]; omega
            · skip
              have HF := Lib.hid (show stepB n px py ax ay k = false from stepB_1 hs (passB_2 g2))
              go_wp2_with (first | (go_at_call 39; (first | (with_reducible show Calls _ _ _ (Later.val _) _; with_reducible refine Calls.mono (Later.call _ (cross_any _ _ _ _ _ _ _ (by assumption) (by assumption) (by assumption))) ?_) | (with_reducible refine Calls.mono (Gives.calls (cross_any _ _ _ _ _ _ _ (by assumption) (by assumption) (by assumption))) ?_)); rintro e w1 ⟨rfl, q, rfl⟩))
              go_roundw
              case rel => exact ⟨k + 1, by omega, by go_num, by simp only [parB]; rw [HF.out, HP.out]; rfl, later_of (by repeat (first | exact Below.refl _ _ | (with_reducible assumption) | apply below_later | apply below_set _ (by assumption)))⟩
              case measure => simp [intOf]; omega
          · skip
            have HF := Lib.hid (show stepB n px py ax ay k = false from stepB_1 hs (passB_1 g1))
            go_wp2_with (first | (go_at_call 39; (first | (with_reducible show Calls _ _ _ (Later.val _) _; with_reducible refine Calls.mono (Later.call _ (cross_any _ _ _ _ _ _ _ (by assumption) (by assumption) (by assumption))) ?_) | (with_reducible refine Calls.mono (Gives.calls (cross_any _ _ _ _ _ _ _ (by assumption) (by assumption) (by assumption))) ?_)); rintro e w1 ⟨rfl, q, rfl⟩))
            go_roundw
            case rel => exact ⟨k + 1, by omega, by go_num, by simp only [parB]; rw [HF.out, HP.out]; rfl, later_of (by repeat (first | exact Below.refl _ _ | (with_reducible assumption) | apply below_later | apply below_set _ (by assumption)))⟩
            case measure => simp [intOf]; omega
        · skip
          by_cases g1 : py k ≤ ay
          · by_cases g2 : ay < py (nx n k)
            · by_cases g3 : 0 < crossI (px k) (py k) (px (nx n k)) (py (nx n k)) ax ay
              · skip
                have HF := Lib.hid (show stepB n px py ax ay k = true from stepB_2 hs (passB_4 g1 g2 g3))
                go_wp2_with (first | (go_at_call 39; (first | (with_reducible show Calls _ _ _ (Later.val _) _; with_reducible refine Calls.mono (Later.call _ (cross_any _ _ _ _ _ _ _ (by assumption) (by assumption) (by assumption))) ?_) | (with_reducible refine Calls.mono (Gives.calls (cross_any _ _ _ _ _ _ _ (by assumption) (by assumption) (by assumption))) ?_)); rintro e w1 ⟨rfl, q, rfl⟩))
                go_roundw
                case rel => exact ⟨k + 1, by omega, by go_num, by simp only [parB]; rw [HF.out, HP.out]; rfl, later_of (by repeat (first | exact Below.refl _ _ | (with_reducible assumption) | apply below_later | apply below_set _ (by assumption)))⟩
                case measure => simp [intOf]; omega
              · skip
                have HF := Lib.hid (show stepB n px py ax ay k = false from stepB_2 hs (passB_3 g3))
                go_wp2_with (first | (go_at_call 39; (first | (with_reducible show Calls _ _ _ (Later.val _) _; with_reducible refine Calls.mono (Later.call _ (cross_any _ _ _ _ _ _ _ (by assumption) (by assumption) (by assumption))) ?_) | (with_reducible refine Calls.mono (Gives.calls (cross_any _ _ _ _ _ _ _ (by assumption) (by assumption) (by assumption))) ?_)); rintro e w1 ⟨rfl, q, rfl⟩))
                go_roundw
                case rel => exact ⟨k + 1, by omega, by go_num, by simp only [parB]; rw [HF.out, HP.out]; rfl, later_of (by repeat (first | exact Below.refl _ _ | (with_reducible assumption) | apply below_later | apply below_set _ (by assumption)))⟩
                case measure => simp [intOf]; omega
            · skip
              have HF := Lib.hid (show stepB n px py ax ay k = false from stepB_2 hs (passB_2 g2))
              go_wp2_with (first | (go_at_call 39; (first | (with_reducible show Calls _ _ _ (Later.val _) _; with_reducible refine Calls.mono (Later.call _ (cross_any _ _ _ _ _ _ _ (by assumption) (by assumption) (by assumption))) ?_) | (with_reducible refine Calls.mono (Gives.calls (cross_any _ _ _ _ _ _ _ (by assumption) (by assumption) (by assumption))) ?_)); rintro e w1 ⟨rfl, q, rfl⟩))
              go_roundw
              case rel => exact ⟨k + 1, by omega, by go_num, by simp only [parB]; rw [HF.out, HP.out]; rfl, later_of (by repeat (first | exact Below.refl _ _ | (with_reducible assumption) | apply below_later | apply below_set _ (by assumption)))⟩
              case measure => simp [intOf]; omega
          · skip
            have HF := Lib.hid (show stepB n px py ax ay k = false from stepB_2 hs (passB_1 g1))
            go_wp2_with (first | (go_at_call 39; (first | (with_reducible show Calls _ _ _ (Later.val _) _; with_reducible refine Calls.mono (Later.call _ (cross_any _ _ _ _ _ _ _ (by assumption) (by assumption) (by assumption))) ?_) | (with_reducible refine Calls.mono (Gives.calls (cross_any _ _ _ _ _ _ _ (by assumption) (by assumption) (by assumption))) ?_)); rintro e w1 ⟨rfl, q, rfl⟩))
            go_roundw
            case rel => exact ⟨k + 1, by omega, by go_num, by simp only [parB]; rw [HF.out, HP.out]; rfl, later_of (by repeat (first | exact Below.refl _ _ | (with_reducible assumption) | apply below_later | apply below_set _ (by assumption)))⟩
            case measure => simp [intOf]; omega
    · obtain rfl : k = n := by omega
      go_wp2
      go_ret
      exact ⟨rfl, later_of (by repeat (first | exact Below.refl _ _ | (with_reducible assumption) | apply below_later | apply below_alloc | apply below_drew | apply below_drewN))⟩

def whereI (n : Nat) (px py : Nat → Int) (ax ay : Int) : Int := if (inR ax && inR ay) = true then (if anyB n (sideB n px py ax ay) = true then 0 else if parB n (stepB n px py ax ay) = true then 1 else -1) else -1
def whereR (n : Nat) (px py : Nat → Int) (ax ay : Int) : Value := if validB n px py then .tuple #[.int .i64 (whereI n px py ax ay), .int .i64 0] else .tuple #[.int .i64 0, .int .i64 10]

set_option maxHeartbeats 1600000 in
theorem where_any (A : Option Addr) (n cap : Nat) (px py : Nat → Int) (ax ay : Int) (w : World) (hp : IsPosts w A n px py) :
    Gives Tryd.prog 11 #[.slice A n cap, .agg #[.int .i64 ax, .int .i64 ay]] w (whereR n px py ax ay) := by
  unfold whereR
  have Bz : Below w.heap.size w (w.alloc (.cells #[.int .i64 ax, .int .i64 ay] 34)) := below_alloc (Below.refl _ _)
  have Hp := Lib.hid (hp.later ⟨_, Bz⟩)
  clear hp
  cases hv : validB n px py
  · go_enter Tryd.func11, Tryd.ntmps11
    go_wp2_with (first | (go_at_call 26; (first | (with_reducible show Calls _ _ _ (Later.val _) _; with_reducible refine Calls.mono (Later.call _ ((hv ▸ valid_any _ _ _ _ _ _ Hp.out))) ?_) | (with_reducible refine Calls.mono (Gives.calls ((hv ▸ valid_any _ _ _ _ _ _ Hp.out))) ?_)); rintro e w1 ⟨rfl, y1, rfl⟩))
    go_ret2
    exact ⟨rfl, later_of (by repeat (first | exact Below.refl _ _ | (with_reducible assumption) | apply below_later | apply below_alloc | apply below_drew | apply below_drewN))⟩
  · obtain ⟨h1, h2, h3⟩ := valid_bounds hv
    have H3 := Lib.hid h3
    have h4 : 0 < n := by omega
    obtain ⟨b, off, rfl, hq⟩ := Hp.out.at_ (by omega)
    have Hq := Lib.hid hq
    clear hq h3
    cases hi : (inR ax && inR ay)
    · have HW : Hid (whereI n px py ax ay = -1) := by show _ = _; rw [whereI, hi]; rfl
      have Hi := Lib.hid hi
      clear hi
      go_enter Tryd.func11, Tryd.ntmps11
      go_wp2_with (first | (go_at_call 26; (first | (with_reducible show Calls _ _ _ (Later.val _) _; with_reducible refine Calls.mono (Later.call _ ((hv ▸ valid_any _ _ _ _ _ _ Hp.out))) ?_) | (with_reducible refine Calls.mono (Gives.calls ((hv ▸ valid_any _ _ _ _ _ _ Hp.out))) ?_)); rintro e w1 ⟨rfl, y1, rfl⟩) | (go_at_call 29; (first | (with_reducible show Calls _ _ _ (Later.val _) _; with_reducible refine Calls.mono (Later.call _ ((Hi.out ▸ inRange_any _ _ _))) ?_) | (with_reducible refine Calls.mono (Gives.calls ((Hi.out ▸ inRange_any _ _ _))) ?_)); rintro e w1 ⟨rfl, y2, rfl⟩))
      go_ret2
      exact ⟨by rw [HW.out]; rfl, later_of (by repeat (first | exact Below.refl _ _ | (with_reducible assumption) | apply below_later | apply below_alloc | apply below_drew | apply below_drewN))⟩
    · have ha := inRange_of_B hi
      have Hi := Lib.hid hi
      cases ho : anyB n (sideB n px py ax ay)
      · have Ho := Lib.hid ho
        cases he : parB n (stepB n px py ax ay)
        · have He := Lib.hid he
          have HW : Hid (whereI n px py ax ay = -1) := by show _ = _; rw [whereI, hi, ho, he]; rfl
          clear hi ho he
          go_enter Tryd.func11, Tryd.ntmps11
          go_wp2_with (first | (go_at_call 26; (first | (with_reducible show Calls _ _ _ (Later.val _) _; with_reducible refine Calls.mono (Later.call _ ((hv ▸ valid_any _ _ _ _ _ _ Hp.out))) ?_) | (with_reducible refine Calls.mono (Gives.calls ((hv ▸ valid_any _ _ _ _ _ _ Hp.out))) ?_)); rintro e w1 ⟨rfl, y1, rfl⟩) | (go_at_call 29; (first | (with_reducible show Calls _ _ _ (Later.val _) _; with_reducible refine Calls.mono (Later.call _ ((Hi.out ▸ inRange_any _ _ _))) ?_) | (with_reducible refine Calls.mono (Gives.calls ((Hi.out ▸ inRange_any _ _ _))) ?_)); rintro e w1 ⟨rfl, y2, rfl⟩) | (go_at_call 30; (first | (with_reducible show Calls _ _ _ (Later.val _) _; with_reducible refine Calls.mono (Later.call _ ((Ho.out ▸ onBorder_any _ _ _ _ _ _ _ _ _ h4 h2 (Hq.out.later _) H3.out ha))) ?_) | (with_reducible refine Calls.mono (Gives.calls ((Ho.out ▸ onBorder_any _ _ _ _ _ _ _ _ _ h4 h2 (Hq.out.later _) H3.out ha))) ?_)); rintro e w1 ⟨rfl, y3, rfl⟩) | (go_at_call 31; (first | (with_reducible show Calls _ _ _ (Later.val _) _; with_reducible refine Calls.mono (Later.call _ ((He.out ▸ encloses_any _ _ _ _ _ _ _ _ _ h4 h2 (Hq.out.later _) H3.out ha))) ?_) | (with_reducible refine Calls.mono (Gives.calls ((He.out ▸ encloses_any _ _ _ _ _ _ _ _ _ h4 h2 (Hq.out.later _) H3.out ha))) ?_)); rintro e w1 ⟨rfl, y4, rfl⟩))
          go_ret2
          exact ⟨by rw [HW.out]; rfl, later_of (by repeat (first | exact Below.refl _ _ | (with_reducible assumption) | apply below_later | apply below_alloc | apply below_drew | apply below_drewN))⟩
        · have He := Lib.hid he
          have HW : Hid (whereI n px py ax ay = 1) := by show _ = _; rw [whereI, hi, ho, he]; rfl
          clear hi ho he
          go_enter Tryd.func11, Tryd.ntmps11
          go_wp2_with (first | (go_at_call 26; (first | (with_reducible show Calls _ _ _ (Later.val _) _; with_reducible refine Calls.mono (Later.call _ ((hv ▸ valid_any _ _ _ _ _ _ Hp.out))) ?_) | (with_reducible refine Calls.mono (Gives.calls ((hv ▸ valid_any _ _ _ _ _ _ Hp.out))) ?_)); rintro e w1 ⟨rfl, y1, rfl⟩) | (go_at_call 29; (first | (with_reducible show Calls _ _ _ (Later.val _) _; with_reducible refine Calls.mono (Later.call _ ((Hi.out ▸ inRange_any _ _ _))) ?_) | (with_reducible refine Calls.mono (Gives.calls ((Hi.out ▸ inRange_any _ _ _))) ?_)); rintro e w1 ⟨rfl, y2, rfl⟩) | (go_at_call 30; (first | (with_reducible show Calls _ _ _ (Later.val _) _; with_reducible refine Calls.mono (Later.call _ ((Ho.out ▸ onBorder_any _ _ _ _ _ _ _ _ _ h4 h2 (Hq.out.later _) H3.out ha))) ?_) | (with_reducible refine Calls.mono (Gives.calls ((Ho.out ▸ onBorder_any _ _ _ _ _ _ _ _ _ h4 h2 (Hq.out.later _) H3.out ha))) ?_)); rintro e w1 ⟨rfl, y3, rfl⟩) | (go_at_call 31; (first | (with_reducible show Calls _ _ _ (Later.val _) _; with_reducible refine Calls.mono (Later.call _ ((He.out ▸ encloses_any _ _ _ _ _ _ _ _ _ h4 h2 (Hq.out.later _) H3.out ha))) ?_) | (with_reducible refine Calls.mono (Gives.calls ((He.out ▸ encloses_any _ _ _ _ _ _ _ _ _ h4 h2 (Hq.out.later _) H3.out ha))) ?_)); rintro e w1 ⟨rfl, y4, rfl⟩))
          go_ret2
          exact ⟨by rw [HW.out]; rfl, later_of (by repeat (first | exact Below.refl _ _ | (with_reducible assumption) | apply below_later | apply below_alloc | apply below_drew | apply below_drewN))⟩
      · have Ho := Lib.hid ho
        have HW : Hid (whereI n px py ax ay = 0) := by show _ = _; rw [whereI, hi, ho]; rfl
        clear hi ho
        go_enter Tryd.func11, Tryd.ntmps11
        go_wp2_with (first | (go_at_call 26; (first | (with_reducible show Calls _ _ _ (Later.val _) _; with_reducible refine Calls.mono (Later.call _ ((hv ▸ valid_any _ _ _ _ _ _ Hp.out))) ?_) | (with_reducible refine Calls.mono (Gives.calls ((hv ▸ valid_any _ _ _ _ _ _ Hp.out))) ?_)); rintro e w1 ⟨rfl, y1, rfl⟩) | (go_at_call 29; (first | (with_reducible show Calls _ _ _ (Later.val _) _; with_reducible refine Calls.mono (Later.call _ ((Hi.out ▸ inRange_any _ _ _))) ?_) | (with_reducible refine Calls.mono (Gives.calls ((Hi.out ▸ inRange_any _ _ _))) ?_)); rintro e w1 ⟨rfl, y2, rfl⟩) | (go_at_call 30; (first | (with_reducible show Calls _ _ _ (Later.val _) _; with_reducible refine Calls.mono (Later.call _ ((Ho.out ▸ onBorder_any _ _ _ _ _ _ _ _ _ h4 h2 (Hq.out.later _) H3.out ha))) ?_) | (with_reducible refine Calls.mono (Gives.calls ((Ho.out ▸ onBorder_any _ _ _ _ _ _ _ _ _ h4 h2 (Hq.out.later _) H3.out ha))) ?_)); rintro e w1 ⟨rfl, y3, rfl⟩))
        go_ret2
        exact ⟨by rw [HW.out]; rfl, later_of (by repeat (first | exact Below.refl _ _ | (with_reducible assumption) | apply below_later | apply below_alloc | apply below_drew | apply below_drewN))⟩

def leftR (n : Nat) (px py : Nat → Int) : Value := if validB n px py then .tuple #[.bool (decide (0 < areaI n px py)), .int .i64 0] else .tuple #[.bool false, .int .i64 10]

set_option maxHeartbeats 800000 in
theorem left_any (A : Option Addr) (n cap : Nat) (px py : Nat → Int) (w : World) (hp : IsPosts w A n px py) :
    Gives Tryd.prog 10 #[.slice A n cap] w (leftR n px py) := by
  unfold leftR
  have Hp := Lib.hid hp
  clear hp
  cases hv : validB n px py
  · go_enter Tryd.func10, Tryd.ntmps10
    go_wp2_with (first | (go_at_call 26; (first | (with_reducible show Calls _ _ _ (Later.val _) _; with_reducible refine Calls.mono (Later.call _ ((hv ▸ valid_any _ _ _ _ _ _ Hp.out))) ?_) | (with_reducible refine Calls.mono (Gives.calls ((hv ▸ valid_any _ _ _ _ _ _ Hp.out))) ?_)); rintro e w1 ⟨rfl, y1, rfl⟩))
    go_ret2
    exact ⟨rfl, later_of (by repeat (first | exact Below.refl _ _ | (with_reducible assumption) | apply below_later | apply below_alloc | apply below_drew | apply below_drewN))⟩
  · obtain ⟨h1, h2, h3⟩ := valid_bounds hv
    have H3 := Lib.hid h3
    have h4 : 0 < n := by omega
    obtain ⟨b, off, rfl, hq⟩ := Hp.out.at_ (by omega)
    have Hq := Lib.hid hq
    clear hq h3
    go_enter Tryd.func10, Tryd.ntmps10
    go_wp2_with (first | (go_at_call 26; (first | (with_reducible show Calls _ _ _ (Later.val _) _; with_reducible refine Calls.mono (Later.call _ ((hv ▸ valid_any _ _ _ _ _ _ Hp.out))) ?_) | (with_reducible refine Calls.mono (Gives.calls ((hv ▸ valid_any _ _ _ _ _ _ Hp.out))) ?_)); rintro e w1 ⟨rfl, y1, rfl⟩) | (go_at_call 28; (first | (with_reducible show Calls _ _ _ (Later.val _) _; with_reducible refine Calls.mono (Later.call _ (signedArea_any _ _ _ _ _ _ _ h4 h2 (Hq.out.later _) H3.out)) ?_) | (with_reducible refine Calls.mono (Gives.calls (signedArea_any _ _ _ _ _ _ _ h4 h2 (Hq.out.later _) H3.out)) ?_)); rintro e w1 ⟨rfl, y2, rfl⟩))
    go_ret2
    exact ⟨rfl, later_of (by repeat (first | exact Below.refl _ _ | (with_reducible assumption) | apply below_later | apply below_alloc | apply below_drew | apply below_drewN))⟩
end Go.Proofs.YtamhhbkjgfhfoaaDoor
