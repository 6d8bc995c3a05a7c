/- The document's own Where. -/
import Derived.Test.YtjjplihdohedjaaDoorConvex
import Derived.Deep.DeepCutAuto
namespace Go.Proofs.YtjjplihdohedjaaDoor
open Go.RowKit

set_option maxRecDepth 100000 in
set_option maxHeartbeats 6400000 in
theorem r_where_any (b off n cap : Nat) (px py : Nat → Int) (ax ay : Int) (w : World) (h0 : 0 < n) (hn : n ≤ 40) (hp : Posts w b off n px py) (hr : ∀ i, i < n → InRange (px i) (py i)) (ha : InRange ax ay) :
    Gives Tryd.prog 76 #[.slice (some ⟨b, off, none⟩) n cap, .agg #[.int .i64 ax, .int .i64 ay]] w (.int .i64 (whereI n px py ax ay)) := by
  have Hr := Lib.hid hr
  have Hp := Lib.hid hp
  clear hr hp
  have Hi := Lib.hid (show (inR ax && inR ay) = true by unfold InRange at ha; simp [inR]; omega)
  have Bz : Below w.heap.size w (w.alloc (.cells #[.int .i64 ax, .int .i64 ay] 37)) := below_alloc (Below.refl _ _)
  have Hz := Lib.hid (Hp.out.later ⟨_, Bz⟩)
  have c5 : (w.alloc (.cells #[.int .i64 ax, .int .i64 ay] 37)).cell? ⟨w.heap.size, 0, none⟩ = some (.int .i64 ax) := by simp
  have c6 : (w.alloc (.cells #[.int .i64 ax, .int .i64 ay] 37)).cell? ⟨w.heap.size, 1, none⟩ = some (.int .i64 ay) := by simp
  have l5 : w.heap.size < (w.alloc (.cells #[.int .i64 ax, .int .i64 ay] 37)).heap.size := by simp
  go_enter Tryd.func76, Tryd.ntmps76
  go_wp2_with (first | (go_at_call 64; (first | (with_reducible show Calls _ _ _ (Later.val _) _; with_reducible refine Calls.mono (Later.call _ ((Hi.out ▸ r_ranged_any _ _ _))) ?_) | (with_reducible refine Calls.mono (Gives.calls ((Hi.out ▸ r_ranged_any _ _ _))) ?_)); rintro e w1 ⟨rfl, y1, rfl⟩))
  generalize w.alloc (.cells #[.int .i64 ax, .int .i64 ay] 37) = z at *
  go_loopw [5, 6] (fun u v wr => ∃ k : Nat, k ≤ n ∧ v = .int .i64 k ∧ u = .bool (parB k (stepB n px py ax ay)) ∧ (∀ j, j < k → sideB n px py ax ay j = false) ∧ ∃ x : Later z, wr = x.val) (fun _ v _ => n - (intOf v).toNat)
  case atStart => exact ⟨0, by omega, rfl, rfl, by omega, later_of (by repeat (first | exact Below.refl _ _ | (with_reducible assumption) | apply below_later | apply below_alloc | apply below_drew | apply below_drewN))⟩
  case round =>
    obtain ⟨k, hk, rfl, rfl, hj, x, rfl⟩ := hrel
    have Hj := Lib.hid hj
    clear hj
    by_cases hlt : k < n
    · have hnx := nx_lt (n := n) k h0
      have e1 := nx_eq n k
      have Hx := Lib.hid (Hz.out.later x)
      have hl := Hx.out.lt
      have c1 := Hx.out.x k hlt
      have c2 := Hx.out.y k hlt
      have c3 := Hx.out.x _ hnx
      have c4 := Hx.out.y _ hnx
      have r1 := Hr.out k hlt
      have r2 := Hr.out _ hnx
      have d5 := (x.cell _ _ l5).trans c5
      have d6 := (x.cell _ _ l5).trans c6
      have l6 := x.lt _ l5
      generalize hP : parB k (stepB n px py ax ay) = P
      have HP := Lib.hid hP
      clear hP
      go_wp2_with fail
      go_cut [7, 8] (fun s7 s8 wx => ∃ B1 B2 : Nat, s7 = .pointer (some ⟨B1, 0, none⟩) ∧ s8 = .pointer (some ⟨B2, 0, none⟩) ∧ B1 ≠ B2 ∧ (w.heap.size < B1 ∧ w.heap.size < B2) ∧
        (B1 < wx.heap.size ∧ wx.cell? ⟨B1, 0, none⟩ = some (.int .i64 (px k)) ∧ wx.cell? ⟨B1, 1, none⟩ = some (.int .i64 (py k))) ∧
        (B2 < wx.heap.size ∧ wx.cell? ⟨B2, 0, none⟩ = some (.int .i64 (px (nx n k))) ∧ wx.cell? ⟨B2, 1, none⟩ = some (.int .i64 (py (nx n k)))) ∧
        (wx.cell? ⟨w.heap.size, 0, none⟩ = some (.int .i64 ax) ∧ wx.cell? ⟨w.heap.size, 1, none⟩ = some (.int .i64 ay)) ∧ Below z.heap.size z wx ∧ z.heap.size ≤ B1 ∧ z.heap.size ≤ B2 ∧ (wx.frozen? ⟨B1, 0, none⟩ = false ∧ wx.frozen? ⟨B1, 1, none⟩ = false ∧ wx.frozen? ⟨B2, 0, none⟩ = false ∧ wx.frozen? ⟨B2, 1, none⟩ = false))
      case first =>
        go_region
        all_goals
          go_wp2_with fail
          go_meet
          have hzx := x.size
          exact ⟨_, _, rfl, rfl, by omega, by omega, ⟨by simp; try omega, by simp [go_sem], by simp [go_sem]⟩, ⟨by simp; try omega, by simp [go_sem], by simp [go_sem]⟩, ⟨(Below.cell (w := x.val) (below_alloc (below_alloc (Below.refl _ _))) l6).trans d5, (Below.cell (w := x.val) (below_alloc (below_alloc (Below.refl _ _))) l6).trans d6⟩, (by repeat (first | exact Below.refl _ _ | (with_reducible assumption) | apply below_later | apply below_alloc | apply below_drew | apply below_drewN)), by omega, by omega, ⟨by simp [go_sem], by simp [go_sem], by simp [go_sem], by simp [go_sem]⟩⟩
      case rest =>
        obtain ⟨B1, B2, rfl, rfl, hne, ⟨hb1, hb2⟩, ⟨l1, f1, f2⟩, ⟨l2, f3, f4⟩, ⟨f5, f6⟩, hz, hz1, hz2, z1, z2, z3, z4⟩ := hcut
        have n1 : B2 ≠ B1 := fun e => hne e.symm
        have Bw : Below w.heap.size w wc := below_more Bz hz
        have n6 : w.heap.size < wc.heap.size := by have := hz.size; omega
        have n2 : w.heap.size ≠ B1 := by omega
        have n3 : w.heap.size ≠ B2 := by omega
        have n4 : B1 ≠ w.heap.size := by omega
        have n5 : B2 ≠ w.heap.size := by omega
        cases ho : sideB n px py ax ay k
        · have Ho := Lib.hid ho
          have On := Lib.hid (show onB ax ay (px k) (py k) (px (nx n k)) (py (nx n k)) = false by rw [onB_eq]; exact ho)
          clear ho
          by_cases hs : py (nx n k) < py k
          · skip
            by_cases g1 : py (nx n k) ≤ ay
            · by_cases g2 : ay < py k
              · by_cases g3 : 0 < crossI (px (nx n k)) (py (nx n k)) (px k) (py k) ax ay
                · skip
                  have HF := Lib.hid (show stepB n px py ax ay k = true from stepB_1 hs (passB_4 g1 g2 g3))
                  go_wp2_with (first | (go_at_call 65; (first | (with_reducible show Calls _ _ _ (Later.val _) _; with_reducible refine Calls.mono (Later.call _ ((On.out ▸ r_on_any _ _ _ _ _ _ _ ha r1 r2))) ?_) | (with_reducible refine Calls.mono (Gives.calls ((On.out ▸ r_on_any _ _ _ _ _ _ _ ha r1 r2))) ?_)); rintro e w1 ⟨rfl, q, rfl⟩) | (go_at_call 78; (first | (with_reducible show Calls _ _ _ (Later.val _) _; with_reducible refine Calls.mono (Later.call _ (r_turn_any _ _ _ _ _ _ _ (by assumption) (by assumption) (by assumption))) ?_) | (with_reducible refine Calls.mono (Gives.calls (r_turn_any _ _ _ _ _ _ _ (by assumption) (by assumption) (by assumption))) ?_)); rintro e w1 ⟨rfl, q2, rfl⟩))
                  go_roundw
                  case rel => exact ⟨k + 1, by omega, by go_num, by simp only [parB]; rw [HF.out, HP.out]; rfl, none_step Hj.out Ho.out, later_of (by repeat (first | exact Below.refl _ _ | (with_reducible assumption) | apply below_later | apply below_set _ (by assumption)))⟩
                  case measure => simp [intOf]; omega
                · skip
                  have HF := Lib.hid (show stepB n px py ax ay k = false from stepB_1 hs (passB_3 g3))
                  go_wp2_with (first | (go_at_call 65; (first | (with_reducible show Calls _ _ _ (Later.val _) _; with_reducible refine Calls.mono (Later.call _ ((On.out ▸ r_on_any _ _ _ _ _ _ _ ha r1 r2))) ?_) | (with_reducible refine Calls.mono (Gives.calls ((On.out ▸ r_on_any _ _ _ _ _ _ _ ha r1 r2))) ?_)); rintro e w1 ⟨rfl, q, rfl⟩) | (go_at_call 78; (first | (with_reducible show Calls _ _ _ (Later.val _) _; with_reducible refine Calls.mono (Later.call _ (r_turn_any _ _ _ _ _ _ _ (by assumption) (by assumption) (by assumption))) ?_) | (with_reducible refine Calls.mono (Gives.calls (r_turn_any _ _ _ _ _ _ _ (by assumption) (by assumption) (by assumption))) ?_)); rintro e w1 ⟨rfl, q2, rfl⟩))
                  go_roundw
                  case rel => exact ⟨k + 1, by omega, by go_num, by simp only [parB]; rw [HF.out, HP.out]; rfl, none_step Hj.out Ho.out, later_of (by repeat (first | exact Below.refl _ _ | (with_reducible assumption) | apply below_later | apply below_set _ (by assumption)))⟩
                  case measure => simp [intOf]; omega
              · skip
                have HF := Lib.hid (show stepB n px py ax ay k = false from stepB_1 hs (passB_2 g2))
                go_wp2_with (first | (go_at_call 65; (first | (with_reducible show Calls _ _ _ (Later.val _) _; with_reducible refine Calls.mono (Later.call _ ((On.out ▸ r_on_any _ _ _ _ _ _ _ ha r1 r2))) ?_) | (with_reducible refine Calls.mono (Gives.calls ((On.out ▸ r_on_any _ _ _ _ _ _ _ ha r1 r2))) ?_)); rintro e w1 ⟨rfl, q, rfl⟩) | (go_at_call 78; (first | (with_reducible show Calls _ _ _ (Later.val _) _; with_reducible refine Calls.mono (Later.call _ (r_turn_any _ _ _ _ _ _ _ (by assumption) (by assumption) (by assumption))) ?_) | (with_reducible refine Calls.mono (Gives.calls (r_turn_any _ _ _ _ _ _ _ (by assumption) (by assumption) (by assumption))) ?_)); rintro e w1 ⟨rfl, q2, rfl⟩))
                go_roundw
                case rel => exact ⟨k + 1, by omega, by go_num, by simp only [parB]; rw [HF.out, HP.out]; rfl, none_step Hj.out Ho.out, later_of (by repeat (first | exact Below.refl _ _ | (with_reducible assumption) | apply below_later | apply below_set _ (by assumption)))⟩
                case measure => simp [intOf]; omega
            · skip
              have HF := Lib.hid (show stepB n px py ax ay k = false from stepB_1 hs (passB_1 g1))
              go_wp2_with (first | (go_at_call 65; (first | (with_reducible show Calls _ _ _ (Later.val _) _; with_reducible refine Calls.mono (Later.call _ ((On.out ▸ r_on_any _ _ _ _ _ _ _ ha r1 r2))) ?_) | (with_reducible refine Calls.mono (Gives.calls ((On.out ▸ r_on_any _ _ _ _ _ _ _ ha r1 r2))) ?_)); rintro e w1 ⟨rfl, q, rfl⟩) | (go_at_call 78; (first | (with_reducible show Calls _ _ _ (Later.val _) _; with_reducible refine Calls.mono (Later.call _ (r_turn_any _ _ _ _ _ _ _ (by assumption) (by assumption) (by assumption))) ?_) | (with_reducible refine Calls.mono (Gives.calls (r_turn_any _ _ _ _ _ _ _ (by assumption) (by assumption) (by assumption))) ?_)); rintro e w1 ⟨rfl, q2, rfl⟩))
              go_roundw
              case rel => exact ⟨k + 1, by omega, by go_num, by simp only [parB]; rw [HF.out, HP.out]; rfl, none_step Hj.out Ho.out, later_of (by repeat (first | exact Below.refl _ _ | (with_reducible assumption) | apply below_later | apply below_set _ (by assumption)))⟩
              case measure => simp [intOf]; omega
          · skip
            by_cases g1 : py k ≤ ay
            · by_cases g2 : ay < py (nx n k)
              · by_cases g3 : 0 < crossI (px k) (py k) (px (nx n k)) (py (nx n k)) ax ay
                · skip
                  have HF := Lib.hid (show stepB n px py ax ay k = true from stepB_2 hs (passB_4 g1 g2 g3))
                  go_wp2_with (first | (go_at_call 65; (first | (with_reducible show Calls _ _ _ (Later.val _) _; with_reducible refine Calls.mono (Later.call _ ((On.out ▸ r_on_any _ _ _ _ _ _ _ ha r1 r2))) ?_) | (with_reducible refine Calls.mono (Gives.calls ((On.out ▸ r_on_any _ _ _ _ _ _ _ ha r1 r2))) ?_)); rintro e w1 ⟨rfl, q, rfl⟩) | (go_at_call 78; (first | (with_reducible show Calls _ _ _ (Later.val _) _; with_reducible refine Calls.mono (Later.call _ (r_turn_any _ _ _ _ _ _ _ (by assumption) (by assumption) (by assumption))) ?_) | (with_reducible refine Calls.mono (Gives.calls (r_turn_any _ _ _ _ _ _ _ (by assumption) (by assumption) (by assumption))) ?_)); rintro e w1 ⟨rfl, q2, rfl⟩))
                  go_roundw
                  case rel => exact ⟨k + 1, by omega, by go_num, by simp only [parB]; rw [HF.out, HP.out]; rfl, none_step Hj.out Ho.out, later_of (by repeat (first | exact Below.refl _ _ | (with_reducible assumption) | apply below_later | apply below_set _ (by assumption)))⟩
                  case measure => simp [intOf]; omega
                · skip
                  have HF := Lib.hid (show stepB n px py ax ay k = false from stepB_2 hs (passB_3 g3))
                  go_wp2_with (first | (go_at_call 65; (first | (with_reducible show Calls _ _ _ (Later.val _) _; with_reducible refine Calls.mono (Later.call _ ((On.out ▸ r_on_any _ _ _ _ _ _ _ ha r1 r2))) ?_) | (with_reducible refine Calls.mono (Gives.calls ((On.out ▸ r_on_any _ _ _ _ _ _ _ ha r1 r2))) ?_)); rintro e w1 ⟨rfl, q, rfl⟩) | (go_at_call 78; (first | (with_reducible show Calls _ _ _ (Later.val _) _; with_reducible refine Calls.mono (Later.call _ (r_turn_any _ _ _ _ _ _ _ (by assumption) (by assumption) (by assumption))) ?_) | (with_reducible refine Calls.mono (Gives.calls (r_turn_any _ _ _ _ _ _ _ (by assumption) (by assumption) (by assumption))) ?_)); rintro e w1 ⟨rfl, q2, rfl⟩))
                  go_roundw
                  case rel => exact ⟨k + 1, by omega, by go_num, by simp only [parB]; rw [HF.out, HP.out]; rfl, none_step Hj.out Ho.out, later_of (by repeat (first | exact Below.refl _ _ | (with_reducible assumption) | apply below_later | apply below_set _ (by assumption)))⟩
                  case measure => simp [intOf]; omega
              · skip
                have HF := Lib.hid (show stepB n px py ax ay k = false from stepB_2 hs (passB_2 g2))
                go_wp2_with (first | (go_at_call 65; (first | (with_reducible show Calls _ _ _ (Later.val _) _; with_reducible refine Calls.mono (Later.call _ ((On.out ▸ r_on_any _ _ _ _ _ _ _ ha r1 r2))) ?_) | (with_reducible refine Calls.mono (Gives.calls ((On.out ▸ r_on_any _ _ _ _ _ _ _ ha r1 r2))) ?_)); rintro e w1 ⟨rfl, q, rfl⟩) | (go_at_call 78; (first | (with_reducible show Calls _ _ _ (Later.val _) _; with_reducible refine Calls.mono (Later.call _ (r_turn_any _ _ _ _ _ _ _ (by assumption) (by assumption) (by assumption))) ?_) | (with_reducible refine Calls.mono (Gives.calls (r_turn_any _ _ _ _ _ _ _ (by assumption) (by assumption) (by assumption))) ?_)); rintro e w1 ⟨rfl, q2, rfl⟩))
                go_roundw
                case rel => exact ⟨k + 1, by omega, by go_num, by simp only [parB]; rw [HF.out, HP.out]; rfl, none_step Hj.out Ho.out, later_of (by repeat (first | exact Below.refl _ _ | (with_reducible assumption) | apply below_later | apply below_set _ (by assumption)))⟩
                case measure => simp [intOf]; omega
            · skip
              have HF := Lib.hid (show stepB n px py ax ay k = false from stepB_2 hs (passB_1 g1))
              go_wp2_with (first | (go_at_call 65; (first | (with_reducible show Calls _ _ _ (Later.val _) _; with_reducible refine Calls.mono (Later.call _ ((On.out ▸ r_on_any _ _ _ _ _ _ _ ha r1 r2))) ?_) | (with_reducible refine Calls.mono (Gives.calls ((On.out ▸ r_on_any _ _ _ _ _ _ _ ha r1 r2))) ?_)); rintro e w1 ⟨rfl, q, rfl⟩) | (go_at_call 78; (first | (with_reducible show Calls _ _ _ (Later.val _) _; with_reducible refine Calls.mono (Later.call _ (r_turn_any _ _ _ _ _ _ _ (by assumption) (by assumption) (by assumption))) ?_) | (with_reducible refine Calls.mono (Gives.calls (r_turn_any _ _ _ _ _ _ _ (by assumption) (by assumption) (by assumption))) ?_)); rintro e w1 ⟨rfl, q2, rfl⟩))
              go_roundw
              case rel => exact ⟨k + 1, by omega, by go_num, by simp only [parB]; rw [HF.out, HP.out]; rfl, none_step Hj.out Ho.out, later_of (by repeat (first | exact Below.refl _ _ | (with_reducible assumption) | apply below_later | apply below_set _ (by assumption)))⟩
              case measure => simp [intOf]; omega
        · have Ho := Lib.hid ho
          have On := Lib.hid (show onB ax ay (px k) (py k) (px (nx n k)) (py (nx n k)) = true by rw [onB_eq]; exact ho)
          clear ho
          go_wp2_with (first | (go_at_call 65; (first | (with_reducible show Calls _ _ _ (Later.val _) _; with_reducible refine Calls.mono (Later.call _ ((On.out ▸ r_on_any _ _ _ _ _ _ _ ha r1 r2))) ?_) | (with_reducible refine Calls.mono (Gives.calls ((On.out ▸ r_on_any _ _ _ _ _ _ _ ha r1 r2))) ?_)); rintro e w1 ⟨rfl, q, rfl⟩))
          go_ret
          exact ⟨ret_int (by rw [whereI, if_pos Hi.out, if_pos (anyB_true hlt Ho.out)]), later_of (by repeat (first | exact Below.refl _ _ | (with_reducible assumption) | apply below_later | apply below_alloc | apply below_drew | apply below_drewN))⟩
    · obtain rfl : k = n := by omega
      have Ha := Lib.hid (anyB_false Hj.out)
      cases hP : parB k (stepB k px py ax ay)
      all_goals
        have HP := Lib.hid hP
        go_wp2
        go_ret
        exact ⟨ret_int (by rw [whereI, if_pos Hi.out, Ha.out, HP.out]; rfl), later_of (by repeat (first | exact Below.refl _ _ | (with_reducible assumption) | apply below_later | apply below_alloc | apply below_drew | apply below_drewN))⟩

set_option maxHeartbeats 800000 in
theorem r_where_out (A : Option Addr) (n cap : Nat) (px py : Nat → Int) (ax ay : Int) (w : World) (hi : (inR ax && inR ay) = false) :
    Gives Tryd.prog 76 #[.slice A n cap, .agg #[.int .i64 ax, .int .i64 ay]] w (.int .i64 (whereI n px py ax ay)) := by
  have HW : Hid (whereI n px py ax ay = -1) := by show _ = _; rw [whereI, hi]; rfl
  have Hi := Lib.hid hi
  clear hi
  go_enter Tryd.func76, Tryd.ntmps76
  go_wp2_with (first | (go_at_call 64; (first | (with_reducible show Calls _ _ _ (Later.val _) _; with_reducible refine Calls.mono (Later.call _ ((Hi.out ▸ r_ranged_any _ _ _))) ?_) | (with_reducible refine Calls.mono (Gives.calls ((Hi.out ▸ r_ranged_any _ _ _))) ?_)); rintro e w1 ⟨rfl, y1, rfl⟩))
  go_ret
  exact ⟨ret_int HW.out.symm, later_of (by repeat (first | exact Below.refl _ _ | (with_reducible assumption) | apply below_later | apply below_alloc | apply below_drew | apply below_drewN))⟩

set_option maxHeartbeats 6400000 in
theorem r_Where_any (A : Option Addr) (n cap : Nat) (px py : Nat → Int) (ax ay : Int) (w : World) (hp : IsPosts w A n px py) :
    Gives Tryd.prog 38 #[.slice A n cap, .agg #[.int .i64 ax, .int .i64 ay]] w (whereR n px py ax ay) := by
  unfold whereR
  have Bz : Below w.heap.size w (w.alloc (.cells #[.int .i64 ax, .int .i64 ay] 37)) := below_alloc (Below.refl _ _)
  have Hp := Lib.hid (hp.later ⟨_, Bz⟩)
  clear hp
  have V := Lib.hid (rValid_eq n px py)
  cases hv : validB n px py
  · have HV := Lib.hid (V.out.trans hv)
    go_enter Tryd.func38, Tryd.ntmps38
    go_wp2_with (first | (go_at_call 32; (first | (with_reducible show Calls _ _ _ (Later.val _) _; with_reducible refine Calls.mono (Later.call _ ((HV.out ▸ r_valid_any _ _ _ _ _ _ Hp.out))) ?_) | (with_reducible refine Calls.mono (Gives.calls ((HV.out ▸ r_valid_any _ _ _ _ _ _ Hp.out))) ?_)); rintro e w1 ⟨rfl, y1, rfl⟩))
    go_ret2
    exact ⟨rfl, later_of (by repeat (first | exact Below.refl _ _ | (with_reducible assumption) | apply below_later | apply below_alloc | apply below_drew | apply below_drewN))⟩
  · obtain ⟨h1, h2, h3⟩ := valid_bounds hv
    have HV := Lib.hid (V.out.trans hv)
    have H3 := Lib.hid h3
    have h4 : 0 < n := by omega
    obtain ⟨b, off, rfl, hq⟩ := Hp.out.at_ (by omega)
    have Hq := Lib.hid hq
    clear hq h3
    cases hi : (inR ax && inR ay)
    · go_enter Tryd.func38, Tryd.ntmps38
      go_wp2_with (first | (go_at_call 32; (first | (with_reducible show Calls _ _ _ (Later.val _) _; with_reducible refine Calls.mono (Later.call _ ((HV.out ▸ r_valid_any _ _ _ _ _ _ Hp.out))) ?_) | (with_reducible refine Calls.mono (Gives.calls ((HV.out ▸ r_valid_any _ _ _ _ _ _ Hp.out))) ?_)); rintro e w1 ⟨rfl, y1, rfl⟩) | (go_at_call 76; (first | (with_reducible show Calls _ _ _ (Later.val _) _; with_reducible refine Calls.mono (Later.call _ (r_where_out _ _ _ px py _ _ _ hi)) ?_) | (with_reducible refine Calls.mono (Gives.calls (r_where_out _ _ _ px py _ _ _ hi)) ?_)); rintro e w1 ⟨rfl, y2, rfl⟩))
      go_ret2
      exact ⟨rfl, later_of (by repeat (first | exact Below.refl _ _ | (with_reducible assumption) | apply below_later | apply below_alloc | apply below_drew | apply below_drewN))⟩
    · have ha := inRange_of_B hi
      go_enter Tryd.func38, Tryd.ntmps38
      go_wp2_with (first | (go_at_call 32; (first | (with_reducible show Calls _ _ _ (Later.val _) _; with_reducible refine Calls.mono (Later.call _ ((HV.out ▸ r_valid_any _ _ _ _ _ _ Hp.out))) ?_) | (with_reducible refine Calls.mono (Gives.calls ((HV.out ▸ r_valid_any _ _ _ _ _ _ Hp.out))) ?_)); rintro e w1 ⟨rfl, y1, rfl⟩) | (go_at_call 76; (first | (with_reducible show Calls _ _ _ (Later.val _) _; with_reducible refine Calls.mono (Later.call _ (r_where_any _ _ _ _ px py _ _ _ h4 h2 (Hq.out.later _) H3.out ha)) ?_) | (with_reducible refine Calls.mono (Gives.calls (r_where_any _ _ _ _ px py _ _ _ h4 h2 (Hq.out.later _) H3.out ha)) ?_)); rintro e w1 ⟨rfl, y2, rfl⟩))
      go_ret2
      exact ⟨rfl, later_of (by repeat (first | exact Below.refl _ _ | (with_reducible assumption) | apply below_later | apply below_alloc | apply below_drew | apply below_drewN))⟩
end Go.Proofs.YtjjplihdohedjaaDoor
