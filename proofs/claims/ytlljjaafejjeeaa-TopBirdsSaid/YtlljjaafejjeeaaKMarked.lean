/- wader.Marked and the document's Marked: walked. -/
import Derived.Test.YtlljjaafejjeeaaKLow
namespace Go.Proofs.Ytlljjaafejjeeaa
open Go.RowKit

def badC (f s a : Int) : Bool := !((decide (0 ≤ f) && decide (f ≤ 1000000)) && ((decide (0 ≤ s) && decide (s ≤ 1000000)) && (decide (0 ≤ a) && decide (a ≤ min f s))))
theorem res_put {V : World} {g : Nat} {a b x y : Value} (h0 : V.cell? ⟨g, 0, none⟩ = some a) (h1 : V.cell? ⟨g, 1, none⟩ = some b) :
    ((V.setCell ⟨g, 0, none⟩ x).setCell ⟨g, 1, none⟩ y).cell? ⟨g, 0, none⟩ = some x ∧ ((V.setCell ⟨g, 0, none⟩ x).setCell ⟨g, 1, none⟩ y).cell? ⟨g, 1, none⟩ = some y := by
  constructor <;> simp [go_sem, h0, h1]
theorem res_facts {w V : World} {a b : Value} {t : TypeId} (hb : Below (w.alloc (.cells #[a, b] t)).heap.size (w.alloc (.cells #[a, b] t)) V) :
    V.cell? ⟨w.heap.size, 0, none⟩ = some a ∧ V.cell? ⟨w.heap.size, 1, none⟩ = some b ∧ w.heap.size < V.heap.size ∧ V.frozen? ⟨w.heap.size, 0, none⟩ = false ∧ V.frozen? ⟨w.heap.size, 1, none⟩ = false := by
  have hr : V.heap[w.heap.size]? = some (.cells #[a, b] t) := (hb.block _ (by simp)).trans (World.alloc_heap_new _ _)
  exact ⟨cell_of_heap hr 0 _ rfl, cell_of_heap hr 1 _ rfl, get_lt hr, by simp [World.frozen?, hr], by simp [World.frozen?, hr]⟩
set_option maxRecDepth 100000 in
set_option maxHeartbeats 3200000 in
theorem Marked_bad (f s a : Int) (w : World) (h : badC f s a = true) : Gives Try.prog 19 #[.int .i64 f, .int .i64 s, .int .i64 a] w (.tuple #[.agg #[.int .i64 0, .int .i64 0], .int .i64 0, .int .i64 2]) := by
  have C1 := Lib.hid fun w' => isCatch_any f w'
  have C2 := Lib.hid fun w' => isCatch_any s w'
  unfold badC at h
  generalize (decide (0 ≤ f) && decide (f ≤ 1000000)) = r1 at *
  generalize (decide (0 ≤ s) && decide (s ≤ 1000000)) = r2 at *
  obtain ⟨c0, c1, l0⟩ := box2 w (.int .i64 0) (.int .i64 0) 48
  have HX := Lib.hid fun (V : World) (h : Below (w.alloc (.cells #[.int .i64 0, .int .i64 0] 48)).heap.size (w.alloc (.cells #[.int .i64 0, .int .i64 0] 48)) V) => res_facts h
  rcases r1 with _ | _
  · clear h
    go_enter Try.func19, Try.ntmps19
    go_wp2_with (first | (go_at_call 33; with_reducible refine Calls.mono (Gives.calls (C1.out _)) ?_; rintro e w1 ⟨rfl, z, rfl⟩) | (go_at_call 33; with_reducible refine Calls.mono (Gives.calls (C2.out _)) ?_; rintro e w1 ⟨rfl, z2, rfl⟩))
    have r0 := res_put (x := .int .i64 0) (y := .int .i64 0) (HX.out z.val (by repeat (first | exact Below.refl _ _ | (with_reducible assumption) | apply below_later | apply below_alloc | apply below_drew | apply below_drewN))).1 (HX.out z.val (by repeat (first | exact Below.refl _ _ | (with_reducible assumption) | apply below_later | apply below_alloc | apply below_drew | apply below_drewN))).2.1
    refine bodyPost_ret (v := .tuple #[.agg #[.int .i64 0, .int .i64 0], .int .i64 0, .int .i64 2]) (by simp [results, Try.results19, go_sem, r0.1, r0.2]) rfl ?_
    exact ⟨rfl, later_of (((show Below w.heap.size w z.val by repeat (first | exact Below.refl _ _ | (with_reducible assumption) | apply below_later | apply below_alloc | apply below_drew | apply below_drewN)).setCell (by simp) _).setCell (by simp) _)⟩
  rcases r2 with _ | _
  · clear h
    go_enter Try.func19, Try.ntmps19
    go_wp2_with (first | (go_at_call 33; with_reducible refine Calls.mono (Gives.calls (C1.out _)) ?_; rintro e w1 ⟨rfl, z, rfl⟩) | (go_at_call 33; with_reducible refine Calls.mono (Gives.calls (C2.out _)) ?_; rintro e w1 ⟨rfl, z2, rfl⟩))
    have r0 := res_put (x := .int .i64 0) (y := .int .i64 0) (HX.out z2.val (by repeat (first | exact Below.refl _ _ | (with_reducible assumption) | apply below_later | apply below_alloc | apply below_drew | apply below_drewN))).1 (HX.out z2.val (by repeat (first | exact Below.refl _ _ | (with_reducible assumption) | apply below_later | apply below_alloc | apply below_drew | apply below_drewN))).2.1
    refine bodyPost_ret (v := .tuple #[.agg #[.int .i64 0, .int .i64 0], .int .i64 0, .int .i64 2]) (by simp [results, Try.results19, go_sem, r0.1, r0.2]) rfl ?_
    exact ⟨rfl, later_of (((show Below w.heap.size w z2.val by repeat (first | exact Below.refl _ _ | (with_reducible assumption) | apply below_later | apply below_alloc | apply below_drew | apply below_drewN)).setCell (by simp) _).setCell (by simp) _)⟩
  have h2 : ¬ (0 ≤ a ∧ a ≤ min f s) := by
    intro ⟨h3, h4⟩
    simp only [Bool.true_and, Bool.not_eq_true', Bool.and_eq_false_iff, decide_eq_false_iff_not] at h
    omega
  clear h
  by_cases h3 : a < 0
  · clear h2
    go_enter Try.func19, Try.ntmps19
    go_wp2_with (first | (go_at_call 33; with_reducible refine Calls.mono (Gives.calls (C1.out _)) ?_; rintro e w1 ⟨rfl, z, rfl⟩) | (go_at_call 33; with_reducible refine Calls.mono (Gives.calls (C2.out _)) ?_; rintro e w1 ⟨rfl, z2, rfl⟩))
    have r0 := res_put (x := .int .i64 0) (y := .int .i64 0) (HX.out z2.val (by repeat (first | exact Below.refl _ _ | (with_reducible assumption) | apply below_later | apply below_alloc | apply below_drew | apply below_drewN))).1 (HX.out z2.val (by repeat (first | exact Below.refl _ _ | (with_reducible assumption) | apply below_later | apply below_alloc | apply below_drew | apply below_drewN))).2.1
    refine bodyPost_ret (v := .tuple #[.agg #[.int .i64 0, .int .i64 0], .int .i64 0, .int .i64 2]) (by simp [results, Try.results19, go_sem, r0.1, r0.2]) rfl ?_
    exact ⟨rfl, later_of (((show Below w.heap.size w z2.val by repeat (first | exact Below.refl _ _ | (with_reducible assumption) | apply below_later | apply below_alloc | apply below_drew | apply below_drewN)).setCell (by simp) _).setCell (by simp) _)⟩
  · have h4 : a > min f s := by omega
    go_enter Try.func19, Try.ntmps19
    go_wp2_with (first | (go_at_call 33; with_reducible refine Calls.mono (Gives.calls (C1.out _)) ?_; rintro e w1 ⟨rfl, z, rfl⟩) | (go_at_call 33; with_reducible refine Calls.mono (Gives.calls (C2.out _)) ?_; rintro e w1 ⟨rfl, z2, rfl⟩))
    all_goals
      have r0 := res_put (x := .int .i64 0) (y := .int .i64 0) (HX.out z2.val (by repeat (first | exact Below.refl _ _ | (with_reducible assumption) | apply below_later | apply below_alloc | apply below_drew | apply below_drewN))).1 (HX.out z2.val (by repeat (first | exact Below.refl _ _ | (with_reducible assumption) | apply below_later | apply below_alloc | apply below_drew | apply below_drewN))).2.1
      refine bodyPost_ret (v := .tuple #[.agg #[.int .i64 0, .int .i64 0], .int .i64 0, .int .i64 2]) (by simp [results, Try.results19, go_sem, r0.1, r0.2]) rfl ?_
      exact ⟨rfl, later_of (((show Below w.heap.size w z2.val by repeat (first | exact Below.refl _ _ | (with_reducible assumption) | apply below_later | apply below_alloc | apply below_drew | apply below_drewN)).setCell (by simp) _).setCell (by simp) _)⟩
set_option maxRecDepth 100000 in
set_option maxHeartbeats 3200000 in
theorem Marked_none (f s : Int) (w : World) (h : badC f s 0 = false) : Gives Try.prog 19 #[.int .i64 f, .int .i64 s, .int .i64 0] w (.tuple #[.agg #[.int .i64 0, .int .i64 0], .int .i64 0, .int .i64 5]) := by
  have C1 := Lib.hid fun w' => isCatch_any f w'
  have C2 := Lib.hid fun w' => isCatch_any s w'
  unfold badC at h
  simp only [Bool.not_eq_false', Bool.and_eq_true, decide_eq_true_eq] at h
  obtain ⟨⟨f0, f1⟩, ⟨s0, s1⟩, a0, a1⟩ := h
  rw [decide_eq_true f0, decide_eq_true f1] at C1
  rw [decide_eq_true s0, decide_eq_true s1] at C2
  obtain ⟨c0, c1, l0⟩ := box2 w (.int .i64 0) (.int .i64 0) 48
  have HX := Lib.hid fun (V : World) (h : Below (w.alloc (.cells #[.int .i64 0, .int .i64 0] 48)).heap.size (w.alloc (.cells #[.int .i64 0, .int .i64 0] 48)) V) => res_facts h
  have C1' : Hid (∀ w', Gives Try.prog 33 #[.int .i64 f] w' (.bool true)) := C1.out
  have C2' : Hid (∀ w', Gives Try.prog 33 #[.int .i64 s] w' (.bool true)) := C2.out
  clear C1 C2
  go_enter Try.func19, Try.ntmps19
  go_wp2_with (first | (go_at_call 33; with_reducible refine Calls.mono (Gives.calls (C1'.out _)) ?_; rintro e w1 ⟨rfl, z, rfl⟩) | (go_at_call 33; with_reducible refine Calls.mono (Gives.calls (C2'.out _)) ?_; rintro e w1 ⟨rfl, z2, rfl⟩))
  all_goals
    have r0 := res_put (x := .int .i64 0) (y := .int .i64 0) (HX.out z2.val (by repeat (first | exact Below.refl _ _ | (with_reducible assumption) | apply below_later | apply below_alloc | apply below_drew | apply below_drewN))).1 (HX.out z2.val (by repeat (first | exact Below.refl _ _ | (with_reducible assumption) | apply below_later | apply below_alloc | apply below_drew | apply below_drewN))).2.1
    refine bodyPost_ret (v := .tuple #[.agg #[.int .i64 0, .int .i64 0], .int .i64 0, .int .i64 5]) (by simp [results, Try.results19, go_sem, r0.1, r0.2]) rfl ?_
    exact ⟨rfl, later_of (((show Below w.heap.size w z2.val by repeat (first | exact Below.refl _ _ | (with_reducible assumption) | apply below_later | apply below_alloc | apply below_drew | apply below_drewN)).setCell (by simp) _).setCell (by simp) _)⟩
/-- How many birds two catches tell. -/
def markN (f s a : Int) : Int := ((f + 1) * (s + 1)) / (a + 1) - 1
set_option maxRecDepth 100000 in
set_option maxHeartbeats 3200000 in
theorem Marked_ok (f s : Int) (a : Nat) (w : World) (h : badC f s a = false) (ha : 1 ≤ a) : Gives Try.prog 19 #[.int .i64 f, .int .i64 s, .int .i64 a] w (.tuple #[.agg #[.int .i64 (lowN (f * s) a), .int .i64 (lowD (f * s) a)], .int .i64 (markN f s a), .int .i64 0]) := by
  have C1 := Lib.hid fun w' => isCatch_any f w'
  have C2 := Lib.hid fun w' => isCatch_any s w'
  unfold badC at h
  simp only [Bool.not_eq_false', Bool.and_eq_true, decide_eq_true_eq] at h
  obtain ⟨⟨f0, f1⟩, ⟨s0, s1⟩, a0, a1⟩ := h
  rw [decide_eq_true f0, decide_eq_true f1] at C1
  rw [decide_eq_true s0, decide_eq_true s1] at C2
  obtain ⟨c0, c1, l0⟩ := box2 w (.int .i64 0) (.int .i64 0) 48
  have HX := Lib.hid fun (V : World) (h : Below (w.alloc (.cells #[.int .i64 0, .int .i64 0] 48)).heap.size (w.alloc (.cells #[.int .i64 0, .int .i64 0] 48)) V) => res_facts h
  have C1' : Hid (∀ w', Gives Try.prog 33 #[.int .i64 f] w' (.bool true)) := C1.out
  have C2' : Hid (∀ w', Gives Try.prog 33 #[.int .i64 s] w' (.bool true)) := C2.out
  have m1 : 1 ≤ f * s := by
    have := Int.mul_le_mul (show 1 ≤ f by omega) (show 1 ≤ s by omega) (by omega) (by omega : (0 : Int) ≤ f)
    omega
  have m2 := (mul_bd (a := f) (b := s) 1000000 1000000 (by omega) f1 (by omega) s1).2
  have m3 : 0 ≤ (f + 1) * (s + 1) := Int.mul_nonneg (by omega) (by omega)
  have m4 := (mul_bd (a := f + 1) (b := s + 1) 1000001 1000001 (by omega) (by omega) (by omega) (by omega)).2
  have LO := Lib.hid fun w' => klowest_any (f * s) a w' ⟨m1, by omega⟩ ha (by omega)
  have MN : Hid (markN f s a = ((f + 1) * (s + 1)) / ((a : Int) + 1) - 1) := rfl
  have u1 : IntKind.i64.wrap (f * s) = f * s := IntWalk.i64_in _ ⟨by omega, by omega⟩
  have u2 : IntKind.i64.wrap ((f + 1) * (s + 1)) = (f + 1) * (s + 1) := IntWalk.i64_in _ ⟨by omega, by omega⟩
  have u3 : IntKind.i64.wrap ((a : Int) + 1) = (a : Int) + 1 := IntWalk.i64_in _ ⟨by omega, by omega⟩
  have u4 : IntKind.i64.wrap (f + 1) = f + 1 := IntWalk.i64_in _ ⟨by omega, by omega⟩
  have u5 : IntKind.i64.wrap (s + 1) = s + 1 := IntWalk.i64_in _ ⟨by omega, by omega⟩
  have d0 : ((a : Int) + 1 == 0) = false := by simp; omega
  have d1 : ((a : Int) + 1) ≠ 0 := by omega
  have e0 : ((a : Int) == 0) = false := by simp; omega
  have hq : ((f + 1) * (s + 1)).tdiv ((a : Int) + 1) = (f + 1) * (s + 1) / ((a : Int) + 1) := Int.tdiv_eq_ediv_of_nonneg m3
  have q1 : 0 ≤ (f + 1) * (s + 1) / ((a : Int) + 1) := Int.ediv_nonneg m3 (by omega)
  have q2 : (f + 1) * (s + 1) / ((a : Int) + 1) ≤ (f + 1) * (s + 1) := Int.ediv_le_self _ m3
  have h4 : ¬ ((a : Int) > min f s) := by omega
  clear C1 C2
  go_enter Try.func19, Try.ntmps19
  go_wp2_with (first | (go_at_call 33; with_reducible refine Calls.mono (Gives.calls (C1'.out _)) ?_; rintro e w1 ⟨rfl, z, rfl⟩) | (go_at_call 33; with_reducible refine Calls.mono (Gives.calls (C2'.out _)) ?_; rintro e w1 ⟨rfl, z2, rfl⟩))
  have r2 := HX.out z2.val (by repeat (first | exact Below.refl _ _ | (with_reducible assumption) | apply below_later | apply below_alloc | apply below_drew | apply below_drewN))
  obtain ⟨c2, c3, l2, f2, f3⟩ := r2
  obtain ⟨q0, hq0⟩ : ∃ q0, (f + 1) * (s + 1) / ((a : Int) + 1) = q0 := ⟨_, rfl⟩
  have HQ := Lib.hid hq0
  have u6 : IntKind.i64.wrap ((f + 1) * (s + 1) / ((a : Int) + 1)) = q0 := by rw [hq0]; exact IntWalk.i64_in _ ⟨by omega, by omega⟩
  have u7 : IntKind.i64.wrap (q0 - 1) = q0 - 1 := IntWalk.i64_in _ ⟨by omega, by omega⟩
  have u8 : IntKind.i64.wrap (((f + 1) * (s + 1)).tdiv ((a : Int) + 1)) = q0 := by rw [hq, hq0]; exact IntWalk.i64_in _ ⟨by omega, by omega⟩
  clear hq0 hq q1 q2
  have HB2 : Hid (Below w.heap.size w z2.val) := by show Below _ _ _; repeat (first | exact Below.refl _ _ | (with_reducible assumption) | apply below_later | apply below_alloc | apply below_drew | apply below_drewN)
  generalize z2.val = Z at *
  go_cut [7, 8] (fun s7 s8 wx => s7 = .int .i64 (q0 - 1) ∧ s8 = .int .i64 0 ∧ (wx.cell? ⟨w.heap.size, 0, none⟩ = some (.int .i64 (lowN (f * s) a)) ∧ wx.cell? ⟨w.heap.size, 1, none⟩ = some (.int .i64 (lowD (f * s) a))) ∧ Below w.heap.size w wx)
  case first =>
    go_region_with (go_at_call 34; refine Calls.mono (LO.out _) ?_; rintro e w1 ⟨rfl, y, rfl⟩; have c4 := (y.cell _ 0 l2).trans c2; have c5 := (y.cell _ 1 l2).trans c3; have l4 := y.lt _ l2; have f4 := (y.frozen _ 0 l2).trans f2; have f5 := (y.frozen _ 1 l2).trans f3)
    go_wp2_with fail
    go_meet
    have r0 := res_put (x := .int .i64 (lowN (f * s) a)) (y := .int .i64 (lowD (f * s) a)) c4 c5
    have hb2 := HB2.out
    exact ⟨by first | rfl | rw [u8, u7] | rw [u6, u7], rfl, r0, ((show Below w.heap.size w y.val by repeat (first | exact Below.refl _ _ | (with_reducible assumption) | apply below_later | apply below_alloc | apply below_drew | apply below_drewN)).setCell (Nat.le_refl _) _).setCell (Nat.le_refl _) _⟩
  case rest =>
    obtain ⟨rfl, rfl, ⟨r0, r1⟩, hb⟩ := hcut
    have HB := Lib.hid hb
    clear hb
    go_wp2_with fail
    refine bodyPost_ret (v := .tuple #[.agg #[.int .i64 (lowN (f * s) a), .int .i64 (lowD (f * s) a)], .int .i64 (q0 - 1), .int .i64 0]) (by simp [results, Try.results19, go_sem, r0, r1]) rfl ?_
    exact ⟨by rw [MN.out, HQ.out], later_of HB.out⟩
end Go.Proofs.Ytlljjaafejjeeaa
