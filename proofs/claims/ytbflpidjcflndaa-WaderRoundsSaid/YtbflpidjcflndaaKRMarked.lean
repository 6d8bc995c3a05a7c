/- The document's Marked: walked. -/
import Derived.Test.YtbflpidjcflndaaKMarked
namespace Go.Proofs.Ytbflpidjcflndaa
open Go.RowKit

set_option maxRecDepth 100000 in
set_option maxHeartbeats 3200000 in
theorem RMarked_bad (f s a : Int) (w : World) (h : badC f s a = true) : Gives Try.prog 38 #[.int .i64 f, .int .i64 s, .int .i64 a] w (.tuple #[.agg #[.int .i64 0, .int .i64 0], .int .i64 0, .int .i64 2]) := by
  have C1 := Lib.hid fun w' => rfrom_any 0 f 1000000 w'
  have C2 := Lib.hid fun w' => rfrom_any 0 s 1000000 w'
  have C3 : Hid (∀ (m0 : Int) w', m0 = min f s → Gives Try.prog 49 #[.int .i64 0, .int .i64 a, .int .i64 m0] w' (.bool (decide (0 ≤ a) && decide (a ≤ min f s)))) := fun m0 w' h => h ▸ rfrom_any 0 a m0 w'
  unfold badC at h
  generalize (decide (0 ≤ f) && decide (f ≤ 1000000)) = r1 at *
  generalize (decide (0 ≤ s) && decide (s ≤ 1000000)) = r2 at *
  generalize (decide (0 ≤ a) && decide (a ≤ min f s)) = r3 at *
  obtain ⟨c0, c1, l0⟩ := box2 w (.int .i64 0) (.int .i64 0) 46
  have HX := Lib.hid fun (V : World) (h : Below (w.alloc (.cells #[.int .i64 0, .int .i64 0] 46)).heap.size (w.alloc (.cells #[.int .i64 0, .int .i64 0] 46)) V) => res_facts h
  rcases r1 with _ | _
  · clear h
    go_enter Try.func38, Try.ntmps38
    go_wp2_with (first | (go_at_call 49; with_reducible refine Calls.mono (Gives.calls (C1.out _)) ?_; rintro e w1 ⟨rfl, z, rfl⟩) | (go_at_call 49; with_reducible refine Calls.mono (Gives.calls (C2.out _)) ?_; rintro e w1 ⟨rfl, z2, rfl⟩) | ((go_at_call 49; with_reducible refine Calls.mono (Gives.calls (C3.out _ _ (by omega))) ?_; rintro e w1 ⟨rfl, z3, rfl⟩); obtain ⟨c2, c3, l2, f2, f3⟩ := HX.out z3.val (by repeat (first | exact Below.refl _ _ | (with_reducible assumption) | apply below_later | apply below_alloc | apply below_drew | apply below_drewN))))
    have r0 := res_put (x := .int .i64 0) (y := .int .i64 0) (HX.out z.val (by repeat (first | exact Below.refl _ _ | (with_reducible assumption) | apply below_later | apply below_alloc | apply below_drew | apply below_drewN))).1 (HX.out z.val (by repeat (first | exact Below.refl _ _ | (with_reducible assumption) | apply below_later | apply below_alloc | apply below_drew | apply below_drewN))).2.1
    refine bodyPost_ret (v := .tuple #[.agg #[.int .i64 0, .int .i64 0], .int .i64 0, .int .i64 2]) (by simp [results, Try.results38, go_sem, r0.1, r0.2]) rfl ?_
    exact ⟨rfl, later_of (((show Below w.heap.size w z.val by repeat (first | exact Below.refl _ _ | (with_reducible assumption) | apply below_later | apply below_alloc | apply below_drew | apply below_drewN)).setCell (by simp) _).setCell (by simp) _)⟩
  rcases r2 with _ | _
  · clear h
    go_enter Try.func38, Try.ntmps38
    go_wp2_with (first | (go_at_call 49; with_reducible refine Calls.mono (Gives.calls (C1.out _)) ?_; rintro e w1 ⟨rfl, z, rfl⟩) | (go_at_call 49; with_reducible refine Calls.mono (Gives.calls (C2.out _)) ?_; rintro e w1 ⟨rfl, z2, rfl⟩) | ((go_at_call 49; with_reducible refine Calls.mono (Gives.calls (C3.out _ _ (by omega))) ?_; rintro e w1 ⟨rfl, z3, rfl⟩); obtain ⟨c2, c3, l2, f2, f3⟩ := HX.out z3.val (by repeat (first | exact Below.refl _ _ | (with_reducible assumption) | apply below_later | apply below_alloc | apply below_drew | apply below_drewN))))
    have r0 := res_put (x := .int .i64 0) (y := .int .i64 0) (HX.out z2.val (by repeat (first | exact Below.refl _ _ | (with_reducible assumption) | apply below_later | apply below_alloc | apply below_drew | apply below_drewN))).1 (HX.out z2.val (by repeat (first | exact Below.refl _ _ | (with_reducible assumption) | apply below_later | apply below_alloc | apply below_drew | apply below_drewN))).2.1
    refine bodyPost_ret (v := .tuple #[.agg #[.int .i64 0, .int .i64 0], .int .i64 0, .int .i64 2]) (by simp [results, Try.results38, go_sem, r0.1, r0.2]) rfl ?_
    exact ⟨rfl, later_of (((show Below w.heap.size w z2.val by repeat (first | exact Below.refl _ _ | (with_reducible assumption) | apply below_later | apply below_alloc | apply below_drew | apply below_drewN)).setCell (by simp) _).setCell (by simp) _)⟩
  rcases r3 with _ | _
  · clear h
    go_enter Try.func38, Try.ntmps38
    go_wp2_with (first | (go_at_call 49; with_reducible refine Calls.mono (Gives.calls (C1.out _)) ?_; rintro e w1 ⟨rfl, z, rfl⟩) | (go_at_call 49; with_reducible refine Calls.mono (Gives.calls (C2.out _)) ?_; rintro e w1 ⟨rfl, z2, rfl⟩) | ((go_at_call 49; with_reducible refine Calls.mono (Gives.calls (C3.out _ _ (by omega))) ?_; rintro e w1 ⟨rfl, z3, rfl⟩); obtain ⟨c2, c3, l2, f2, f3⟩ := HX.out z3.val (by repeat (first | exact Below.refl _ _ | (with_reducible assumption) | apply below_later | apply below_alloc | apply below_drew | apply below_drewN))))
    all_goals
      have r0 := res_put (x := .int .i64 0) (y := .int .i64 0) (HX.out z3.val (by repeat (first | exact Below.refl _ _ | (with_reducible assumption) | apply below_later | apply below_alloc | apply below_drew | apply below_drewN))).1 (HX.out z3.val (by repeat (first | exact Below.refl _ _ | (with_reducible assumption) | apply below_later | apply below_alloc | apply below_drew | apply below_drewN))).2.1
      refine bodyPost_ret (v := .tuple #[.agg #[.int .i64 0, .int .i64 0], .int .i64 0, .int .i64 2]) (by simp [results, Try.results38, go_sem, r0.1, r0.2]) rfl ?_
      exact ⟨rfl, later_of (((show Below w.heap.size w z3.val by repeat (first | exact Below.refl _ _ | (with_reducible assumption) | apply below_later | apply below_alloc | apply below_drew | apply below_drewN)).setCell (by simp) _).setCell (by simp) _)⟩
  · cases h
set_option maxRecDepth 100000 in
set_option maxHeartbeats 3200000 in
theorem RMarked_none (f s : Int) (w : World) (h : badC f s 0 = false) : Gives Try.prog 38 #[.int .i64 f, .int .i64 s, .int .i64 0] w (.tuple #[.agg #[.int .i64 0, .int .i64 0], .int .i64 0, .int .i64 5]) := by
  have C1 := Lib.hid fun w' => rfrom_any 0 f 1000000 w'
  have C2 := Lib.hid fun w' => rfrom_any 0 s 1000000 w'
  have C3 : Hid (∀ (m0 : Int) w', m0 = min f s → Gives Try.prog 49 #[.int .i64 0, .int .i64 0, .int .i64 m0] w' (.bool (decide ((0 : Int) ≤ 0) && decide (0 ≤ min f s)))) := fun m0 w' h => h ▸ rfrom_any 0 0 m0 w'
  unfold badC at h
  generalize (decide (0 ≤ f) && decide (f ≤ 1000000)) = r1 at *
  generalize (decide (0 ≤ s) && decide (s ≤ 1000000)) = r2 at *
  generalize (decide ((0 : Int) ≤ 0) && decide (0 ≤ min f s)) = r3 at *
  rcases r1 with _ | _
  · cases h
  rcases r2 with _ | _
  · cases h
  rcases r3 with _ | _
  · cases h
  clear h
  obtain ⟨c0, c1, l0⟩ := box2 w (.int .i64 0) (.int .i64 0) 46
  have HX := Lib.hid fun (V : World) (h : Below (w.alloc (.cells #[.int .i64 0, .int .i64 0] 46)).heap.size (w.alloc (.cells #[.int .i64 0, .int .i64 0] 46)) V) => res_facts h
  go_enter Try.func38, Try.ntmps38
  go_wp2_with (first | (go_at_call 49; with_reducible refine Calls.mono (Gives.calls (C1.out _)) ?_; rintro e w1 ⟨rfl, z, rfl⟩) | (go_at_call 49; with_reducible refine Calls.mono (Gives.calls (C2.out _)) ?_; rintro e w1 ⟨rfl, z2, rfl⟩) | ((go_at_call 49; with_reducible refine Calls.mono (Gives.calls (C3.out _ _ (by omega))) ?_; rintro e w1 ⟨rfl, z3, rfl⟩); obtain ⟨c2, c3, l2, f2, f3⟩ := HX.out z3.val (by repeat (first | exact Below.refl _ _ | (with_reducible assumption) | apply below_later | apply below_alloc | apply below_drew | apply below_drewN))))
  all_goals
    have r0 := res_put (x := .int .i64 0) (y := .int .i64 0) (HX.out z3.val (by repeat (first | exact Below.refl _ _ | (with_reducible assumption) | apply below_later | apply below_alloc | apply below_drew | apply below_drewN))).1 (HX.out z3.val (by repeat (first | exact Below.refl _ _ | (with_reducible assumption) | apply below_later | apply below_alloc | apply below_drew | apply below_drewN))).2.1
    refine bodyPost_ret (v := .tuple #[.agg #[.int .i64 0, .int .i64 0], .int .i64 0, .int .i64 5]) (by simp [results, Try.results38, go_sem, r0.1, r0.2]) rfl ?_
    exact ⟨rfl, later_of (((show Below w.heap.size w z3.val by repeat (first | exact Below.refl _ _ | (with_reducible assumption) | apply below_later | apply below_alloc | apply below_drew | apply below_drewN)).setCell (by simp) _).setCell (by simp) _)⟩
set_option maxRecDepth 100000 in
set_option maxHeartbeats 6400000 in
theorem RMarked_ok (f s : Int) (a : Nat) (w : World) (h : badC f s a = false) (ha : 1 ≤ a) : Gives Try.prog 38 #[.int .i64 f, .int .i64 s, .int .i64 a] w (.tuple #[.agg #[.int .i64 (lowN (f * s) a), .int .i64 (lowD (f * s) a)], .int .i64 (markN f s a), .int .i64 0]) := by
  have C1 := Lib.hid fun w' => rfrom_any 0 f 1000000 w'
  have C2 := Lib.hid fun w' => rfrom_any 0 s 1000000 w'
  have C3 : Hid (∀ (m0 : Int) w', m0 = min f s → Gives Try.prog 49 #[.int .i64 0, .int .i64 (a : Nat), .int .i64 m0] w' (.bool (decide (0 ≤ (a : Int)) && decide ((a : Int) ≤ min f s)))) := fun m0 w' h => h ▸ rfrom_any 0 a m0 w'
  unfold badC at h
  simp only [Bool.not_eq_false', Bool.and_eq_true, decide_eq_true_eq] at h
  obtain ⟨⟨f0, f1⟩, ⟨s0, s1⟩, a0, a1⟩ := h
  rw [decide_eq_true f0, decide_eq_true f1] at C1
  rw [decide_eq_true s0, decide_eq_true s1] at C2
  rw [decide_eq_true a0, decide_eq_true a1] at C3
  have C1' : Hid (∀ w', Gives Try.prog 49 #[.int .i64 0, .int .i64 f, .int .i64 1000000] w' (.bool true)) := C1.out
  have C2' : Hid (∀ w', Gives Try.prog 49 #[.int .i64 0, .int .i64 s, .int .i64 1000000] w' (.bool true)) := C2.out
  have C3' : Hid (∀ (m0 : Int) w', m0 = min f s → Gives Try.prog 49 #[.int .i64 0, .int .i64 (a : Nat), .int .i64 m0] w' (.bool true)) := C3.out
  obtain ⟨c0, c1, l0⟩ := box2 w (.int .i64 0) (.int .i64 0) 46
  have HX := Lib.hid fun (V : World) (h : Below (w.alloc (.cells #[.int .i64 0, .int .i64 0] 46)).heap.size (w.alloc (.cells #[.int .i64 0, .int .i64 0] 46)) V) => res_facts h
  have m1 : 1 ≤ f * s := by
    have := Int.mul_le_mul (show 1 ≤ f by omega) (show 1 ≤ s by omega) (by omega) (by omega : (0 : Int) ≤ f)
    omega
  have m2 := (mul_bd (a := f) (b := s) 1000000 1000000 (by omega) f1 (by omega) s1).2
  have m3 : 0 ≤ (f + 1) * (s + 1) := Int.mul_nonneg (by omega) (by omega)
  have m4 := (mul_bd (a := f + 1) (b := s + 1) 1000001 1000001 (by omega) (by omega) (by omega) (by omega)).2
  have MN : Hid (markN f s a = ((f + 1) * (s + 1)) / ((a : Int) + 1) - 1) := rfl
  have HD : Hid (lowN (f * s) a = (f * s).tdiv ((Nat.gcd (f * s).natAbs a : Nat) : Int) ∧ lowD (f * s) a = ((a / Nat.gcd (f * s).natAbs a : Nat) : Int)) := ⟨rfl, rfl⟩
  generalize lowN (f * s) a = r1 at *
  generalize lowD (f * s) a = r2 at *
  have u1 : IntKind.i64.wrap (f * s) = f * s := IntWalk.i64_in _ ⟨by omega, by omega⟩
  have u2 : IntKind.i64.wrap ((f + 1) * (s + 1)) = (f + 1) * (s + 1) := IntWalk.i64_in _ ⟨by omega, by omega⟩
  have u3 : IntKind.i64.wrap ((a : Int) + 1) = (a : Int) + 1 := IntWalk.i64_in _ ⟨by omega, by omega⟩
  have u4 : IntKind.i64.wrap (f + 1) = f + 1 := IntWalk.i64_in _ ⟨by omega, by omega⟩
  have u5 : IntKind.i64.wrap (s + 1) = s + 1 := IntWalk.i64_in _ ⟨by omega, by omega⟩
  have d0 : ((a : Int) + 1 == 0) = false := by simp; omega
  have d1 : ((a : Int) + 1) ≠ 0 := by omega
  have e0 : ((a : Int) == 0) = false := by simp; omega
  have hq : ((f + 1) * (s + 1)).tdiv ((a : Int) + 1) = (f + 1) * (s + 1) / ((a : Int) + 1) := Int.tdiv_eq_ediv_of_nonneg m3
  have q1 : 0 ≤ (f + 1) * (s + 1) / ((a : Int) + 1) := Int.ediv_nonneg m3 (by omega)
  have q2 : (f + 1) * (s + 1) / ((a : Int) + 1) ≤ (f + 1) * (s + 1) := Int.ediv_le_self _ m3
  obtain ⟨q0, hq0⟩ : ∃ q0, (f + 1) * (s + 1) / ((a : Int) + 1) = q0 := ⟨_, rfl⟩
  have HQ := Lib.hid hq0
  have u6 : IntKind.i64.wrap ((f + 1) * (s + 1) / ((a : Int) + 1)) = q0 := by rw [hq0]; exact IntWalk.i64_in _ ⟨by omega, by omega⟩
  have u7 : IntKind.i64.wrap (q0 - 1) = q0 - 1 := IntWalk.i64_in _ ⟨by omega, by omega⟩
  have u8 : IntKind.i64.wrap (((f + 1) * (s + 1)).tdiv ((a : Int) + 1)) = q0 := by rw [hq, hq0]; exact IntWalk.i64_in _ ⟨by omega, by omega⟩
  clear hq0 hq q1 q2 C1 C2 C3
  obtain ⟨p0, hp0⟩ : ∃ p0 : Nat, f * s = (p0 : Nat) := ⟨(f * s).toNat, by omega⟩
  go_enter Try.func38, Try.ntmps38
  go_wp2_with (first | (go_at_call 49; with_reducible refine Calls.mono (Gives.calls (C1'.out _)) ?_; rintro e w1 ⟨rfl, z, rfl⟩) | (go_at_call 49; with_reducible refine Calls.mono (Gives.calls (C2'.out _)) ?_; rintro e w1 ⟨rfl, z2, rfl⟩) | (go_at_call 49; with_reducible refine Calls.mono (Gives.calls (C3'.out _ _ (by omega))) ?_; rintro e w1 ⟨rfl, z3, rfl⟩))
  obtain ⟨c2, c3, l2, f2, f3⟩ := HX.out z3.val (by repeat (first | exact Below.refl _ _ | (with_reducible assumption) | apply below_later | apply below_alloc | apply below_drew | apply below_drewN))
  have HB2 : Hid (Below w.heap.size w z3.val) := by show Below _ _ _; repeat (first | exact Below.refl _ _ | (with_reducible assumption) | apply below_later | apply below_alloc | apply below_drew | apply below_drewN)
  generalize z3.val = Z at *
  go_loopw [9, 10] (fun u v wr => ∃ x y : Nat, u = .int .i64 (x : Nat) ∧ v = .int .i64 (y : Nat) ∧ x ≤ 1000000000000 ∧ y ≤ 1000000 ∧ Nat.gcd x y = Nat.gcd (f * s).natAbs a ∧ (y = 0 → 0 < x) ∧ ∃ z : Later Z, wr = z.val) (fun _ v _ => (intOf v).toNat)
  case atStart => exact ⟨p0, a, rfl, rfl, by omega, by omega, by rw [hp0]; rfl, by omega, later_of (by repeat (first | exact Below.refl _ _ | (with_reducible assumption) | apply below_later | apply below_alloc | apply below_drew | apply below_drewN))⟩
  case round =>
    obtain ⟨x, y, rfl, rfl, hx, hy, hg, h0, z, rfl⟩ := hrel
    have HG := Lib.hid hg
    have HP0 := Lib.hid hp0
    clear hg hp0
    by_cases hy0 : y = 0
    · subst hy0
      have hx0 := h0 rfl
      have HA : Hid (Nat.gcd (f * s).natAbs a = x) := by show _ = _; rw [← HG.out, Nat.gcd_zero_right]
      have t1 := tdiv_bd2 (a := f * s) (g := x) ⟨by omega, by omega⟩
      have t2 := tdiv_bd2 (a := (a : Int)) (g := x) (by omega)
      have HD1 : Hid ((f * s).tdiv (x : Int) = r1) := by show _ = _; rw [HD.out.1, HA.out]
      have HD2 : Hid ((a : Int).tdiv (x : Int) = r2) := by show _ = _; rw [HD.out.2, HA.out]; rfl
      have e3 : (x : Int) ≠ 0 := by omega
      have e4 : (f * s) / (x : Int) = r1 := by rw [← HD1.out, Int.tdiv_eq_ediv_of_nonneg (by omega)]
      have e5 : (a : Int) / (x : Int) = r2 := by rw [← HD2.out, Int.tdiv_eq_ediv_of_nonneg (by omega)]
      have v1 : IntKind.i64.wrap ((f * s) / (x : Int)) = r1 := by rw [e4]; rw [HD1.out] at t1; exact IntWalk.i64_in _ ⟨by omega, by omega⟩
      have v2 : IntKind.i64.wrap ((a : Int) / (x : Int)) = r2 := by rw [e5]; rw [HD2.out] at t2; exact IntWalk.i64_in _ ⟨by omega, by omega⟩
      have v3 : IntKind.i64.wrap ((f * s).tdiv (x : Int)) = r1 := by rw [HD1.out]; rw [HD1.out] at t1; exact IntWalk.i64_in _ ⟨by omega, by omega⟩
      have v4 : IntKind.i64.wrap ((a : Int).tdiv (x : Int)) = r2 := by rw [HD2.out]; rw [HD2.out] at t2; exact IntWalk.i64_in _ ⟨by omega, by omega⟩
      have c4 := (z.cell _ 0 l2).trans c2
      have c5 := (z.cell _ 1 l2).trans c3
      have l4 := z.lt _ l2
      have f4 := (z.frozen _ 0 l2).trans f2
      have f5 := (z.frozen _ 1 l2).trans f3
      clear e4 e5 t1 t2 h0 HG HD HA c2 c3 l2 f2 f3 c0 c1 l0
      go_wp2_with fail
      have HB3 : Hid (Below w.heap.size w z.val) := below_later HB2.out
      generalize z.val = Z2 at *
      go_cut [7, 8] (fun s7 s8 wx => s7 = .int .i64 (q0 - 1) ∧ s8 = .int .i64 0 ∧ (wx.cell? ⟨w.heap.size, 0, none⟩ = some (.int .i64 r1) ∧ wx.cell? ⟨w.heap.size, 1, none⟩ = some (.int .i64 r2)) ∧ Below w.heap.size w wx)
      case first =>
        go_region
        go_wp2_with fail
        go_meet
        have r0 := res_put (x := .int .i64 r1) (y := .int .i64 r2) c4 c5
        have hb2 := HB3.out
        exact ⟨by first | rfl | rw [u8, u7] | rw [u6, u7], rfl, by first | exact r0 | (rw [v3, v4]; exact r0) | (rw [v1, v2]; exact r0), below_drew ((hb2.setCell (Nat.le_refl _) _).setCell (Nat.le_refl _) _)⟩
      case rest =>
        obtain ⟨rfl, rfl, ⟨r5, r6⟩, hb⟩ := hcut
        have HB := Lib.hid hb
        clear hb
        go_wp2_with fail
        refine bodyPost_ret (v := .tuple #[.agg #[.int .i64 r1, .int .i64 r2], .int .i64 (q0 - 1), .int .i64 0]) (by simp [results, Try.results38, go_sem, r5, r6]) rfl ?_
        exact ⟨by rw [MN.out, HQ.out], later_of HB.out⟩
    · have hy1 : (y : Int) ≠ 0 := by omega
      have hy2 : ((y : Int) != 0) = true := by simp; omega
      have hm : ((x : Int) % (y : Int)) = ((x % y : Nat) : Int) := by omega
      have HM := Lib.hid hm
      clear hm
      go_wp2_with fail
      refine wp_region_later (by kernel_rfl) (by kernel_rfl) ?_
      repeat (go_big_quiet_step ((fail)))
      refine wpQuiet_nil ?_
      intro q
      go_wp2
      go_roundw
      case rel => exact ⟨y, x % y, rfl, by rw [HM.out], by omega, by have := Nat.mod_lt x (show 0 < y by omega); omega, gcd_step.trans HG.out, fun _ => by omega, later_of (by repeat (first | exact Below.refl _ _ | (with_reducible assumption) | apply below_later | apply below_alloc | apply below_drew | apply below_drewN))⟩
      case measure =>
        have := Nat.mod_lt x (show 0 < y by omega)
        have := HM.out
        simp [intOf]; omega
end Go.Proofs.Ytbflpidjcflndaa
