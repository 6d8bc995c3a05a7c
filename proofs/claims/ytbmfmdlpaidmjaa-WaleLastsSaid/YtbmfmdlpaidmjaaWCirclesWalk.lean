/- WaleCircles, walked. -/
import Derived.Test.YtbmfmdlpaidmjaaWShare2
namespace Go.Proofs.Ytbmfmdlpaidmjaa
open Go.RowKit

set_option maxRecDepth 100000 in
set_option maxHeartbeats 3200000 in
theorem circles_law (n s : Int) (m cap k capB : Nat) (A B : Option Addr) (F T V : Nat → Int) (c : Nat → Int) (w : World) (hp : m ≤ 60 → IsChs w A m F T V) (hc : k ≤ 9223372036854775807 → IsInts w B k c) :
    Gives Try.prog 6 #[.agg #[.int .i64 n, .slice A m cap], .slice B k capB, .int .i64 s] w (.bool true) := by
  have FL : Hid (∀ w, Gives Try.prog 12 #[] w (.bool true)) := first_law
  have LO : Hid (∀ w, Gives Try.prog 11 #[.agg #[.int .i64 n, .slice A m cap], .slice B k capB] w (.bool (decide (60 < m) || decide (1100 < k)))) := fun w => Long_any n m cap k capB A B w
  obtain ⟨c0, c1, l0⟩ := box2 w (.int .i64 n) (.slice A m cap) 24
  have hb : Below w.heap.size w (w.alloc (.cells #[.int .i64 n, .slice A m cap] 24)) := (Below.refl _ _).alloc (Nat.le_refl _) _
  have HB := Lib.hid hb
  cases hlong : (decide (60 < m) || decide (1100 < k))
  case true =>
    rw [hlong] at LO
    clear hlong hp hc hb c0 c1 l0
    go_enter Try.func6, Try.ntmps6
    go_wp2_with (first | (go_at_call 11; with_reducible refine Calls.mono (Gives.calls (LO.out _)) ?_; rintro e w1 ⟨rfl, z, rfl⟩) | (go_at_call 12; with_reducible refine Calls.mono (Gives.calls (FL.out _)) ?_; rintro e w1 ⟨rfl, z2, rfl⟩))
    go_ret
    exact ⟨rfl, later_of (by repeat (first | exact Below.refl _ _ | (with_reducible assumption) | apply below_later | apply below_alloc | apply below_drew | apply below_drewN))⟩
  case false =>
    rw [hlong] at LO
    simp only [Bool.or_eq_false_iff, decide_eq_false_iff_not] at hlong
    have hm60 : m ≤ 60 := by omega
    have hk11 : k ≤ 1100 := by omega
    have hpZ : IsChs (w.alloc (.cells #[.int .i64 n, .slice A m cap] 24)) A m F T V := (hp hm60).below hb
    have hcZ : IsInts (w.alloc (.cells #[.int .i64 n, .slice A m cap] 24)) B k c := (hc (by omega)).below hb
    clear hlong hp hc hb
    cases hv : validR n m F T V
    case false =>
      have IC := Lib.hid fun (w' : World) (h : IsChs w' A m F T V) => IsCircle_bad n m cap k capB A B F T V w' (by omega) h hv
      have MO := Lib.hid fun (w' : World) (h : IsChs w' A m F T V) => MeanOf_bad n m cap k capB A B F T V w' (by omega) h hv
      have SH := Lib.hid fun (w' : World) (h : IsChs w' A m F T V) => Share_bad n s m cap k capB A B F T V w' (by omega) h hv
      have VR : Hid (∀ w', IsChs w' A m F T V → Gives Try.prog 16 #[.int .i64 n, .slice A m cap] w' (.bool false)) := fun w' h => hv ▸ rvalid_any n A m cap F T V w' (by omega) h
      have HP := Lib.hid hpZ
      clear hpZ hcZ hv
      go_enter Try.func6, Try.ntmps6
      go_wp2_with (go_at_call 11; with_reducible refine Calls.mono (Gives.calls (LO.out _)) ?_; rintro e w1 ⟨rfl, z, rfl⟩)
      have d0 := (z.cell _ 0 l0).trans c0
      have d1 := (z.cell _ 1 l0).trans c1
      have l1 := z.lt _ l0
      have HPZ := Lib.hid (HP.out.later z)
      have HBZ : Hid (Below w.heap.size w z.val) := below_later HB.out
      clear c0 c1 l0 HP HB
      obtain ⟨b8, hb8⟩ : ∃ b8, w.heap.size = b8 := ⟨_, rfl⟩
      rw [hb8] at d0 d1 l1 ⊢
      clear hb8
      generalize z.val = Z at *
      go_wp2_with (first | (go_at_call 33; (first | (with_reducible show Calls _ _ _ (Later.val _) _; with_reducible refine Calls.mono (Later.call _ (IC.out _ (HPZ.out.below (by repeat (first | exact Below.refl _ _ | (with_reducible assumption) | apply below_later | apply below_alloc | apply below_drew | apply below_drewN))))) ?_) | (with_reducible refine Calls.mono (Gives.calls (IC.out _ (HPZ.out.below (by repeat (first | exact Below.refl _ _ | (with_reducible assumption) | apply below_later | apply below_alloc | apply below_drew | apply below_drewN))))) ?_)); rintro e w1 ⟨rfl, y1, rfl⟩) | (go_at_call 34; (first | (with_reducible show Calls _ _ _ (Later.val _) _; with_reducible refine Calls.mono (Later.call _ (MO.out _ (HPZ.out.below (by repeat (first | exact Below.refl _ _ | (with_reducible assumption) | apply below_later | apply below_alloc | apply below_drew | apply below_drewN))))) ?_) | (with_reducible refine Calls.mono (Gives.calls (MO.out _ (HPZ.out.below (by repeat (first | exact Below.refl _ _ | (with_reducible assumption) | apply below_later | apply below_alloc | apply below_drew | apply below_drewN))))) ?_)); rintro e w1 ⟨rfl, y2, rfl⟩))
      go_at_call 35
      refine Calls.mono (Gives.calls (SH.out _ (HPZ.out.below (by repeat (first | exact Below.refl _ _ | (with_reducible assumption) | apply below_later | apply below_alloc | apply below_drew | apply below_drewN))))) ?_
      rintro e w1 ⟨rfl, y3, rfl⟩
      obtain ⟨m0, m1, lm⟩ := box2 y2.val (.int .i64 0) (.int .i64 0) 50
      have k0 := (y3.cell _ 0 lm).trans m0
      have k1 := (y3.cell _ 1 lm).trans m1
      have k2 := y3.lt _ lm
      have hb3 : Below Z.heap.size Z y3.val := by repeat (first | exact Below.refl _ _ | (with_reducible assumption) | apply below_later | apply below_alloc | apply below_drew | apply below_drewN)
      have k3 := (hb3.cell (p := ⟨b8, 0, none⟩) l1).trans d0
      have k4 := (hb3.cell (p := ⟨b8, 1, none⟩) l1).trans d1
      have k5 := Nat.lt_of_lt_of_le l1 hb3.size
      obtain ⟨p0, p1, lp⟩ := box2 y3.val (.int .i64 0) (.int .i64 0) 50
      have hb4 : Below y3.val.heap.size y3.val (y3.val.alloc (.cells #[.int .i64 0, .int .i64 0] 50)) := (Below.refl _ _).alloc (Nat.le_refl _) _
      have j0 := (hb4.cell (p := ⟨y2.val.heap.size, 0, none⟩) k2).trans k0
      have j1 := (hb4.cell (p := ⟨y2.val.heap.size, 1, none⟩) k2).trans k1
      have j2 := Nat.lt_of_lt_of_le k2 hb4.size
      have j3 := (hb4.cell (p := ⟨b8, 0, none⟩) k5).trans k3
      have j4 := (hb4.cell (p := ⟨b8, 1, none⟩) k5).trans k4
      have j5 := Nat.lt_of_lt_of_le k5 hb4.size
      have HB3 := Lib.hid hb3
      have HB4 := Lib.hid hb4
      clear m0 m1 lm hb3 hb4
      have J := Lib.hid (show _ ∧ _ ∧ _ ∧ _ ∧ _ ∧ _ ∧ _ ∧ _ ∧ _ from ⟨j0, j1, j2, j3, j4, j5, p0, p1, lp⟩)
      clear j0 j1 j2 j3 j4 j5 p0 p1 lp k0 k1
      go_wp2_with fail
      obtain ⟨j0, j1, j2, j3, j4, j5, p0, p1, lp⟩ := J.out
      have HU : Hid (Below Z.heap.size Z (y3.val.alloc (.cells #[.int .i64 0, .int .i64 0] 50))) := below_more HB3.out HB4.out
      clear J HB3 HB4 k2 k3 k4 k5
      obtain ⟨b9, hb9⟩ : ∃ b9, y2.val.heap.size = b9 := ⟨_, rfl⟩
      obtain ⟨b11, hb11⟩ : ∃ b11, y3.val.heap.size = b11 := ⟨_, rfl⟩
      rw [hb9] at j0 j1 j2 ⊢
      rw [hb11] at p0 p1 lp ⊢
      clear hb9 hb11
      generalize y3.val.alloc (.cells #[.int .i64 0, .int .i64 0] 50) = U at *
      have HPU : Hid (IsChs U A m F T V) := HPZ.out.below HU.out
      have HBU : Hid (Below w.heap.size w U) := below_more HBZ.out HU.out
      clear HPZ HBZ d0 d1 l1
      go_wp2_with (first | (go_at_call 16; (first | (with_reducible show Calls _ _ _ (Later.val _) _; with_reducible refine Calls.mono (Later.call _ (VR.out _ (HPU.out.below (by repeat (first | exact Below.refl _ _ | (with_reducible assumption) | apply below_later | apply below_alloc | apply below_drew | apply below_drewN))))) ?_) | (with_reducible refine Calls.mono (Gives.calls (VR.out _ (HPU.out.below (by repeat (first | exact Below.refl _ _ | (with_reducible assumption) | apply below_later | apply below_alloc | apply below_drew | apply below_drewN))))) ?_)); rintro e w1 ⟨rfl, y4, rfl⟩) | (go_at_call 12; with_reducible refine Calls.mono (Gives.calls (FL.out _)) ?_; rintro e w1 ⟨rfl, y6, rfl⟩))
      go_ret
      exact ⟨rfl, ⟨_, below_more HBU.out (by repeat (first | exact Below.refl _ _ | (with_reducible assumption) | apply below_later | apply below_alloc | apply below_drew | apply below_drewN))⟩, rfl⟩
    case true =>
      obtain ⟨N, f, t, rfl, R, hft⟩ := valid_rot hv
      have HP : Hid (IsChs (w.alloc (.cells #[.int .i64 N, .slice A m cap] 24)) A m (fun i => (f i : Int)) (fun i => (t i : Int)) V) := hpZ.congr hft
      have HC := Lib.hid hcZ
      have hn8 := R.n8
      have VR : Hid (∀ w', IsChs w' A m (fun i => (f i : Int)) (fun i => (t i : Int)) V → Gives Try.prog 16 #[.int .i64 N, .slice A m cap] w' (.bool true)) := fun w' h => rot_valid R ▸ rvalid_any N A m cap _ _ V w' (by omega) h
      have SA0 := fun (w' : World) => state_any N s m cap A w'
      have IC0 := fun (w' : World) (h : IsChs w' A m (fun i => (f i : Int)) (fun i => (t i : Int)) V) (h2 : IsInts w' B k c) => IsCircle_ok N m cap k capB A B f t V c w' (by omega) R h h2
      have RC0 := fun (w' : World) (h : IsChs w' A m (fun i => (f i : Int)) (fun i => (t i : Int)) V) (h2 : IsInts w' B k c) => riscircle_any N m cap k capB A B f t V c w' (by omega) R h h2
      clear hv hpZ hcZ hft
      cases hcb : circB m f t c k
      case false =>
        rw [hcb] at IC0 RC0
        have IC := Lib.hid IC0
        have RC := Lib.hid RC0
        have MO := Lib.hid fun (w' : World) (h : IsChs w' A m (fun i => (f i : Int)) (fun i => (t i : Int)) V) (h2 : IsInts w' B k c) => MeanOf_none N m cap k capB A B f t V c w' (by omega) R h h2 hcb
        have RS : Hid (∀ w' : World, IsChs w' A m (fun i => (f i : Int)) (fun i => (t i : Int)) V → IsInts w' B k c → Gives Try.prog 37 #[.slice A m cap, .slice B k capB, .int .i64 s] w' (.bool true) ∨ True) := fun _ _ _ => .inr trivial
        clear IC0 RC0
        cases hs : inS N s
        case false =>
          rw [hs] at SA0
          have SA := Lib.hid SA0
          have SH := Lib.hid fun (w' : World) (h : IsChs w' A m (fun i => (f i : Int)) (fun i => (t i : Int)) V) (_ : IsInts w' B k c) => Share_arg N m cap k capB s A B f t V w' R h hs
          clear hs hcb R SA0 RS
          go_enter Try.func6, Try.ntmps6
          go_wp2_with (go_at_call 11; with_reducible refine Calls.mono (Gives.calls (LO.out _)) ?_; rintro e w1 ⟨rfl, z, rfl⟩)
          have d0 := (z.cell _ 0 l0).trans c0
          have d1 := (z.cell _ 1 l0).trans c1
          have l1 := z.lt _ l0
          have HPZ := Lib.hid (HP.out.later z)
          have HCZ := Lib.hid (HC.out.later z)
          have HBZ : Hid (Below w.heap.size w z.val) := below_later HB.out
          clear c0 c1 l0 HP HB
          obtain ⟨b8, hb8⟩ : ∃ b8, w.heap.size = b8 := ⟨_, rfl⟩
          rw [hb8] at d0 d1 l1 ⊢
          clear hb8
          generalize z.val = Z at *
          go_wp2_with (first | (go_at_call 33; (first | (with_reducible show Calls _ _ _ (Later.val _) _; with_reducible refine Calls.mono (Later.call _ (IC.out _ (HPZ.out.below (by repeat (first | exact Below.refl _ _ | (with_reducible assumption) | apply below_later | apply below_alloc | apply below_drew | apply below_drewN))) (HCZ.out.below (by repeat (first | exact Below.refl _ _ | (with_reducible assumption) | apply below_later | apply below_alloc | apply below_drew | apply below_drewN))))) ?_) | (with_reducible refine Calls.mono (Gives.calls (IC.out _ (HPZ.out.below (by repeat (first | exact Below.refl _ _ | (with_reducible assumption) | apply below_later | apply below_alloc | apply below_drew | apply below_drewN))) (HCZ.out.below (by repeat (first | exact Below.refl _ _ | (with_reducible assumption) | apply below_later | apply below_alloc | apply below_drew | apply below_drewN))))) ?_)); rintro e w1 ⟨rfl, y1, rfl⟩) | (go_at_call 34; (first | (with_reducible show Calls _ _ _ (Later.val _) _; with_reducible refine Calls.mono (Later.call _ (MO.out _ (HPZ.out.below (by repeat (first | exact Below.refl _ _ | (with_reducible assumption) | apply below_later | apply below_alloc | apply below_drew | apply below_drewN))) (HCZ.out.below (by repeat (first | exact Below.refl _ _ | (with_reducible assumption) | apply below_later | apply below_alloc | apply below_drew | apply below_drewN))))) ?_) | (with_reducible refine Calls.mono (Gives.calls (MO.out _ (HPZ.out.below (by repeat (first | exact Below.refl _ _ | (with_reducible assumption) | apply below_later | apply below_alloc | apply below_drew | apply below_drewN))) (HCZ.out.below (by repeat (first | exact Below.refl _ _ | (with_reducible assumption) | apply below_later | apply below_alloc | apply below_drew | apply below_drewN))))) ?_)); rintro e w1 ⟨rfl, y2, rfl⟩))
          go_at_call 35
          refine Calls.mono (Gives.calls (SH.out _ (HPZ.out.below (by repeat (first | exact Below.refl _ _ | (with_reducible assumption) | apply below_later | apply below_alloc | apply below_drew | apply below_drewN))) (HCZ.out.below (by repeat (first | exact Below.refl _ _ | (with_reducible assumption) | apply below_later | apply below_alloc | apply below_drew | apply below_drewN))))) ?_
          rintro e w1 ⟨rfl, y3, rfl⟩
          obtain ⟨m0, m1, lm⟩ := box2 y2.val (.int .i64 0) (.int .i64 0) 50
          have k0 := (y3.cell _ 0 lm).trans m0
          have k1 := (y3.cell _ 1 lm).trans m1
          have k2 := y3.lt _ lm
          have hb3 : Below Z.heap.size Z y3.val := by repeat (first | exact Below.refl _ _ | (with_reducible assumption) | apply below_later | apply below_alloc | apply below_drew | apply below_drewN)
          have k3 := (hb3.cell (p := ⟨b8, 0, none⟩) l1).trans d0
          have k4 := (hb3.cell (p := ⟨b8, 1, none⟩) l1).trans d1
          have k5 := Nat.lt_of_lt_of_le l1 hb3.size
          obtain ⟨p0, p1, lp⟩ := box2 y3.val (.int .i64 0) (.int .i64 0) 50
          have hb4 : Below y3.val.heap.size y3.val (y3.val.alloc (.cells #[.int .i64 0, .int .i64 0] 50)) := (Below.refl _ _).alloc (Nat.le_refl _) _
          have j0 := (hb4.cell (p := ⟨y2.val.heap.size, 0, none⟩) k2).trans k0
          have j1 := (hb4.cell (p := ⟨y2.val.heap.size, 1, none⟩) k2).trans k1
          have j2 := Nat.lt_of_lt_of_le k2 hb4.size
          have j3 := (hb4.cell (p := ⟨b8, 0, none⟩) k5).trans k3
          have j4 := (hb4.cell (p := ⟨b8, 1, none⟩) k5).trans k4
          have j5 := Nat.lt_of_lt_of_le k5 hb4.size
          have HB3 := Lib.hid hb3
          have HB4 := Lib.hid hb4
          clear m0 m1 lm hb3 hb4
          have J := Lib.hid (show _ ∧ _ ∧ _ ∧ _ ∧ _ ∧ _ ∧ _ ∧ _ ∧ _ from ⟨j0, j1, j2, j3, j4, j5, p0, p1, lp⟩)
          clear j0 j1 j2 j3 j4 j5 p0 p1 lp k0 k1
          go_wp2_with fail
          obtain ⟨j0, j1, j2, j3, j4, j5, p0, p1, lp⟩ := J.out
          have HU : Hid (Below Z.heap.size Z (y3.val.alloc (.cells #[.int .i64 0, .int .i64 0] 50))) := below_more HB3.out HB4.out
          clear J HB3 HB4 k2 k3 k4 k5
          obtain ⟨b9, hb9⟩ : ∃ b9, y2.val.heap.size = b9 := ⟨_, rfl⟩
          obtain ⟨b11, hb11⟩ : ∃ b11, y3.val.heap.size = b11 := ⟨_, rfl⟩
          rw [hb9] at j0 j1 j2 ⊢
          rw [hb11] at p0 p1 lp ⊢
          clear hb9 hb11
          generalize y3.val.alloc (.cells #[.int .i64 0, .int .i64 0] 50) = U at *
          have HPU : Hid (IsChs U A m (fun i => (f i : Int)) (fun i => (t i : Int)) V) := HPZ.out.below HU.out
          have HCU : Hid (IsInts U B k c) := HCZ.out.below HU.out
          have HBU : Hid (Below w.heap.size w U) := below_more HBZ.out HU.out
          clear HPZ HBZ d0 d1 l1
          go_wp2_with (first | (go_at_call 16; (first | (with_reducible show Calls _ _ _ (Later.val _) _; with_reducible refine Calls.mono (Later.call _ (VR.out _ (HPU.out.below (by repeat (first | exact Below.refl _ _ | (with_reducible assumption) | apply below_later | apply below_alloc | apply below_drew | apply below_drewN))))) ?_) | (with_reducible refine Calls.mono (Gives.calls (VR.out _ (HPU.out.below (by repeat (first | exact Below.refl _ _ | (with_reducible assumption) | apply below_later | apply below_alloc | apply below_drew | apply below_drewN))))) ?_)); rintro e w1 ⟨rfl, y4, rfl⟩) | (go_at_call 36; (first | (with_reducible show Calls _ _ _ (Later.val _) _; with_reducible refine Calls.mono (Later.call _ (RC.out _ (HPU.out.below (by repeat (first | exact Below.refl _ _ | (with_reducible assumption) | apply below_later | apply below_alloc | apply below_drew | apply below_drewN))) (HCU.out.below (by repeat (first | exact Below.refl _ _ | (with_reducible assumption) | apply below_later | apply below_alloc | apply below_drew | apply below_drewN))))) ?_) | (with_reducible refine Calls.mono (Gives.calls (RC.out _ (HPU.out.below (by repeat (first | exact Below.refl _ _ | (with_reducible assumption) | apply below_later | apply below_alloc | apply below_drew | apply below_drewN))) (HCU.out.below (by repeat (first | exact Below.refl _ _ | (with_reducible assumption) | apply below_later | apply below_alloc | apply below_drew | apply below_drewN))))) ?_)); rintro e w1 ⟨rfl, y5, rfl⟩) | (go_at_call 17; (first | (with_reducible show Calls _ _ _ (Later.val _) _; with_reducible refine Calls.mono (Later.call _ (SA.out _)) ?_) | (with_reducible refine Calls.mono (Gives.calls (SA.out _)) ?_)); rintro e w1 ⟨rfl, y6, rfl⟩))
          first | (with_reducible show Code.wp _ _ _ _ (Later.val _); refine wp_region_later_at _ (by kernel_rfl) (by kernel_rfl) ?_) | refine wp_region_later (by kernel_rfl) (by kernel_rfl) ?_
          repeat (go_big_quiet_step ((fail)))
          refine wpQuiet_nil ?_
          intro y7
          go_wp2_with (go_at_call 12; (first | (with_reducible show Calls _ _ _ (Later.val _) _; with_reducible refine Calls.mono (Later.call _ (FL.out _)) ?_) | (with_reducible refine Calls.mono (Gives.calls (FL.out _)) ?_)); rintro e w1 ⟨rfl, y8, rfl⟩)
          go_ret
          exact ⟨rfl, ⟨_, below_more HBU.out (by repeat (first | exact Below.refl _ _ | (with_reducible assumption) | apply below_later | apply below_alloc | apply below_drew | apply below_drewN))⟩, rfl⟩
        case true =>
          rw [hs] at SA0
          have SA := Lib.hid SA0
          obtain ⟨s, rfl, hsN⟩ := inS_true hs
          have SH := Lib.hid fun (w' : World) (h : IsChs w' A m (fun i => (f i : Int)) (fun i => (t i : Int)) V) (h2 : IsInts w' B k c) => Share_none N m cap k capB s A B f t V c w' (by omega) hsN R h h2 hcb
          clear hs hcb R SA0 RS
          go_enter Try.func6, Try.ntmps6
          go_wp2_with (go_at_call 11; with_reducible refine Calls.mono (Gives.calls (LO.out _)) ?_; rintro e w1 ⟨rfl, z, rfl⟩)
          have d0 := (z.cell _ 0 l0).trans c0
          have d1 := (z.cell _ 1 l0).trans c1
          have l1 := z.lt _ l0
          have HPZ := Lib.hid (HP.out.later z)
          have HCZ := Lib.hid (HC.out.later z)
          have HBZ : Hid (Below w.heap.size w z.val) := below_later HB.out
          clear c0 c1 l0 HP HB
          obtain ⟨b8, hb8⟩ : ∃ b8, w.heap.size = b8 := ⟨_, rfl⟩
          rw [hb8] at d0 d1 l1 ⊢
          clear hb8
          generalize z.val = Z at *
          go_wp2_with (first | (go_at_call 33; (first | (with_reducible show Calls _ _ _ (Later.val _) _; with_reducible refine Calls.mono (Later.call _ (IC.out _ (HPZ.out.below (by repeat (first | exact Below.refl _ _ | (with_reducible assumption) | apply below_later | apply below_alloc | apply below_drew | apply below_drewN))) (HCZ.out.below (by repeat (first | exact Below.refl _ _ | (with_reducible assumption) | apply below_later | apply below_alloc | apply below_drew | apply below_drewN))))) ?_) | (with_reducible refine Calls.mono (Gives.calls (IC.out _ (HPZ.out.below (by repeat (first | exact Below.refl _ _ | (with_reducible assumption) | apply below_later | apply below_alloc | apply below_drew | apply below_drewN))) (HCZ.out.below (by repeat (first | exact Below.refl _ _ | (with_reducible assumption) | apply below_later | apply below_alloc | apply below_drew | apply below_drewN))))) ?_)); rintro e w1 ⟨rfl, y1, rfl⟩) | (go_at_call 34; (first | (with_reducible show Calls _ _ _ (Later.val _) _; with_reducible refine Calls.mono (Later.call _ (MO.out _ (HPZ.out.below (by repeat (first | exact Below.refl _ _ | (with_reducible assumption) | apply below_later | apply below_alloc | apply below_drew | apply below_drewN))) (HCZ.out.below (by repeat (first | exact Below.refl _ _ | (with_reducible assumption) | apply below_later | apply below_alloc | apply below_drew | apply below_drewN))))) ?_) | (with_reducible refine Calls.mono (Gives.calls (MO.out _ (HPZ.out.below (by repeat (first | exact Below.refl _ _ | (with_reducible assumption) | apply below_later | apply below_alloc | apply below_drew | apply below_drewN))) (HCZ.out.below (by repeat (first | exact Below.refl _ _ | (with_reducible assumption) | apply below_later | apply below_alloc | apply below_drew | apply below_drewN))))) ?_)); rintro e w1 ⟨rfl, y2, rfl⟩))
          go_at_call 35
          refine Calls.mono (Gives.calls (SH.out _ (HPZ.out.below (by repeat (first | exact Below.refl _ _ | (with_reducible assumption) | apply below_later | apply below_alloc | apply below_drew | apply below_drewN))) (HCZ.out.below (by repeat (first | exact Below.refl _ _ | (with_reducible assumption) | apply below_later | apply below_alloc | apply below_drew | apply below_drewN))))) ?_
          rintro e w1 ⟨rfl, y3, rfl⟩
          obtain ⟨m0, m1, lm⟩ := box2 y2.val (.int .i64 0) (.int .i64 0) 50
          have k0 := (y3.cell _ 0 lm).trans m0
          have k1 := (y3.cell _ 1 lm).trans m1
          have k2 := y3.lt _ lm
          have hb3 : Below Z.heap.size Z y3.val := by repeat (first | exact Below.refl _ _ | (with_reducible assumption) | apply below_later | apply below_alloc | apply below_drew | apply below_drewN)
          have k3 := (hb3.cell (p := ⟨b8, 0, none⟩) l1).trans d0
          have k4 := (hb3.cell (p := ⟨b8, 1, none⟩) l1).trans d1
          have k5 := Nat.lt_of_lt_of_le l1 hb3.size
          obtain ⟨p0, p1, lp⟩ := box2 y3.val (.int .i64 0) (.int .i64 0) 50
          have hb4 : Below y3.val.heap.size y3.val (y3.val.alloc (.cells #[.int .i64 0, .int .i64 0] 50)) := (Below.refl _ _).alloc (Nat.le_refl _) _
          have j0 := (hb4.cell (p := ⟨y2.val.heap.size, 0, none⟩) k2).trans k0
          have j1 := (hb4.cell (p := ⟨y2.val.heap.size, 1, none⟩) k2).trans k1
          have j2 := Nat.lt_of_lt_of_le k2 hb4.size
          have j3 := (hb4.cell (p := ⟨b8, 0, none⟩) k5).trans k3
          have j4 := (hb4.cell (p := ⟨b8, 1, none⟩) k5).trans k4
          have j5 := Nat.lt_of_lt_of_le k5 hb4.size
          have HB3 := Lib.hid hb3
          have HB4 := Lib.hid hb4
          clear m0 m1 lm hb3 hb4
          have J := Lib.hid (show _ ∧ _ ∧ _ ∧ _ ∧ _ ∧ _ ∧ _ ∧ _ ∧ _ from ⟨j0, j1, j2, j3, j4, j5, p0, p1, lp⟩)
          clear j0 j1 j2 j3 j4 j5 p0 p1 lp k0 k1
          go_wp2_with fail
          obtain ⟨j0, j1, j2, j3, j4, j5, p0, p1, lp⟩ := J.out
          have HU : Hid (Below Z.heap.size Z (y3.val.alloc (.cells #[.int .i64 0, .int .i64 0] 50))) := below_more HB3.out HB4.out
          clear J HB3 HB4 k2 k3 k4 k5
          obtain ⟨b9, hb9⟩ : ∃ b9, y2.val.heap.size = b9 := ⟨_, rfl⟩
          obtain ⟨b11, hb11⟩ : ∃ b11, y3.val.heap.size = b11 := ⟨_, rfl⟩
          rw [hb9] at j0 j1 j2 ⊢
          rw [hb11] at p0 p1 lp ⊢
          clear hb9 hb11
          generalize y3.val.alloc (.cells #[.int .i64 0, .int .i64 0] 50) = U at *
          have HPU : Hid (IsChs U A m (fun i => (f i : Int)) (fun i => (t i : Int)) V) := HPZ.out.below HU.out
          have HCU : Hid (IsInts U B k c) := HCZ.out.below HU.out
          have HBU : Hid (Below w.heap.size w U) := below_more HBZ.out HU.out
          clear HPZ HBZ d0 d1 l1
          go_wp2_with (first | (go_at_call 16; (first | (with_reducible show Calls _ _ _ (Later.val _) _; with_reducible refine Calls.mono (Later.call _ (VR.out _ (HPU.out.below (by repeat (first | exact Below.refl _ _ | (with_reducible assumption) | apply below_later | apply below_alloc | apply below_drew | apply below_drewN))))) ?_) | (with_reducible refine Calls.mono (Gives.calls (VR.out _ (HPU.out.below (by repeat (first | exact Below.refl _ _ | (with_reducible assumption) | apply below_later | apply below_alloc | apply below_drew | apply below_drewN))))) ?_)); rintro e w1 ⟨rfl, y4, rfl⟩) | (go_at_call 36; (first | (with_reducible show Calls _ _ _ (Later.val _) _; with_reducible refine Calls.mono (Later.call _ (RC.out _ (HPU.out.below (by repeat (first | exact Below.refl _ _ | (with_reducible assumption) | apply below_later | apply below_alloc | apply below_drew | apply below_drewN))) (HCU.out.below (by repeat (first | exact Below.refl _ _ | (with_reducible assumption) | apply below_later | apply below_alloc | apply below_drew | apply below_drewN))))) ?_) | (with_reducible refine Calls.mono (Gives.calls (RC.out _ (HPU.out.below (by repeat (first | exact Below.refl _ _ | (with_reducible assumption) | apply below_later | apply below_alloc | apply below_drew | apply below_drewN))) (HCU.out.below (by repeat (first | exact Below.refl _ _ | (with_reducible assumption) | apply below_later | apply below_alloc | apply below_drew | apply below_drewN))))) ?_)); rintro e w1 ⟨rfl, y5, rfl⟩) | (go_at_call 17; (first | (with_reducible show Calls _ _ _ (Later.val _) _; with_reducible refine Calls.mono (Later.call _ (SA.out _)) ?_) | (with_reducible refine Calls.mono (Gives.calls (SA.out _)) ?_)); rintro e w1 ⟨rfl, y6, rfl⟩))
          first | (with_reducible show Code.wp _ _ _ _ (Later.val _); refine wp_region_later_at _ (by kernel_rfl) (by kernel_rfl) ?_) | refine wp_region_later (by kernel_rfl) (by kernel_rfl) ?_
          repeat (go_big_quiet_step ((fail)))
          refine wpQuiet_nil ?_
          intro y7
          go_wp2_with (go_at_call 12; (first | (with_reducible show Calls _ _ _ (Later.val _) _; with_reducible refine Calls.mono (Later.call _ (FL.out _)) ?_) | (with_reducible refine Calls.mono (Gives.calls (FL.out _)) ?_)); rintro e w1 ⟨rfl, y8, rfl⟩)
          go_ret
          exact ⟨rfl, ⟨_, below_more HBU.out (by repeat (first | exact Below.refl _ _ | (with_reducible assumption) | apply below_later | apply below_alloc | apply below_drew | apply below_drewN))⟩, rfl⟩
      case true =>
        obtain ⟨hk0, hcn, _, _⟩ := circ_facts hcb
        rw [hcb] at IC0 RC0
        have IC := Lib.hid IC0
        have RC := Lib.hid RC0
        have MO := Lib.hid fun (w' : World) (h : IsChs w' A m (fun i => (f i : Int)) (fun i => (t i : Int)) V) (h2 : IsInts w' B k c) => MeanOf_ok N m cap k capB A B f t V c w' (by omega) R h h2 hcb
        have RM := Lib.hid fun (w' : World) (h : IsChs w' A m (fun i => (f i : Int)) (fun i => (t i : Int)) V) (h2 : IsInts w' B k c) => rmeanof_any m cap k capB A B f t V (fun i => (c i).toNat) w' (by omega) hk0 (by omega) R.v h (h2.congr fun i hi => (hcn i hi).1) fun i hi => (hcn i hi).2
        clear IC0 RC0
        cases hs : inS N s
        case false =>
          rw [hs] at SA0
          have SA := Lib.hid SA0
          have SH := Lib.hid fun (w' : World) (h : IsChs w' A m (fun i => (f i : Int)) (fun i => (t i : Int)) V) (_ : IsInts w' B k c) => Share_arg N m cap k capB s A B f t V w' R h hs
          clear hs hcb R SA0 hcn
          generalize lowN (wor V (fun i => (c i).toNat) k) k = r1 at *
          generalize lowD (wor V (fun i => (c i).toNat) k) k = r2 at *
          go_enter Try.func6, Try.ntmps6
          go_wp2_with (go_at_call 11; with_reducible refine Calls.mono (Gives.calls (LO.out _)) ?_; rintro e w1 ⟨rfl, z, rfl⟩)
          have d0 := (z.cell _ 0 l0).trans c0
          have d1 := (z.cell _ 1 l0).trans c1
          have l1 := z.lt _ l0
          have HPZ := Lib.hid (HP.out.later z)
          have HCZ := Lib.hid (HC.out.later z)
          have HBZ : Hid (Below w.heap.size w z.val) := below_later HB.out
          clear c0 c1 l0 HP HB
          obtain ⟨b8, hb8⟩ : ∃ b8, w.heap.size = b8 := ⟨_, rfl⟩
          rw [hb8] at d0 d1 l1 ⊢
          clear hb8
          generalize z.val = Z at *
          go_wp2_with (first | (go_at_call 33; (first | (with_reducible show Calls _ _ _ (Later.val _) _; with_reducible refine Calls.mono (Later.call _ (IC.out _ (HPZ.out.below (by repeat (first | exact Below.refl _ _ | (with_reducible assumption) | apply below_later | apply below_alloc | apply below_drew | apply below_drewN))) (HCZ.out.below (by repeat (first | exact Below.refl _ _ | (with_reducible assumption) | apply below_later | apply below_alloc | apply below_drew | apply below_drewN))))) ?_) | (with_reducible refine Calls.mono (Gives.calls (IC.out _ (HPZ.out.below (by repeat (first | exact Below.refl _ _ | (with_reducible assumption) | apply below_later | apply below_alloc | apply below_drew | apply below_drewN))) (HCZ.out.below (by repeat (first | exact Below.refl _ _ | (with_reducible assumption) | apply below_later | apply below_alloc | apply below_drew | apply below_drewN))))) ?_)); rintro e w1 ⟨rfl, y1, rfl⟩) | (go_at_call 34; (first | (with_reducible show Calls _ _ _ (Later.val _) _; with_reducible refine Calls.mono (Later.call _ (MO.out _ (HPZ.out.below (by repeat (first | exact Below.refl _ _ | (with_reducible assumption) | apply below_later | apply below_alloc | apply below_drew | apply below_drewN))) (HCZ.out.below (by repeat (first | exact Below.refl _ _ | (with_reducible assumption) | apply below_later | apply below_alloc | apply below_drew | apply below_drewN))))) ?_) | (with_reducible refine Calls.mono (Gives.calls (MO.out _ (HPZ.out.below (by repeat (first | exact Below.refl _ _ | (with_reducible assumption) | apply below_later | apply below_alloc | apply below_drew | apply below_drewN))) (HCZ.out.below (by repeat (first | exact Below.refl _ _ | (with_reducible assumption) | apply below_later | apply below_alloc | apply below_drew | apply below_drewN))))) ?_)); rintro e w1 ⟨rfl, y2, rfl⟩))
          go_at_call 35
          refine Calls.mono (Gives.calls (SH.out _ (HPZ.out.below (by repeat (first | exact Below.refl _ _ | (with_reducible assumption) | apply below_later | apply below_alloc | apply below_drew | apply below_drewN))) (HCZ.out.below (by repeat (first | exact Below.refl _ _ | (with_reducible assumption) | apply below_later | apply below_alloc | apply below_drew | apply below_drewN))))) ?_
          rintro e w1 ⟨rfl, y3, rfl⟩
          obtain ⟨m0, m1, lm⟩ := box2 y2.val (.int .i64 r1) (.int .i64 r2) 50
          have k0 := (y3.cell _ 0 lm).trans m0
          have k1 := (y3.cell _ 1 lm).trans m1
          have k2 := y3.lt _ lm
          have hb3 : Below Z.heap.size Z y3.val := by repeat (first | exact Below.refl _ _ | (with_reducible assumption) | apply below_later | apply below_alloc | apply below_drew | apply below_drewN)
          have k3 := (hb3.cell (p := ⟨b8, 0, none⟩) l1).trans d0
          have k4 := (hb3.cell (p := ⟨b8, 1, none⟩) l1).trans d1
          have k5 := Nat.lt_of_lt_of_le l1 hb3.size
          obtain ⟨p0, p1, lp⟩ := box2 y3.val (.int .i64 0) (.int .i64 0) 50
          have hb4 : Below y3.val.heap.size y3.val (y3.val.alloc (.cells #[.int .i64 0, .int .i64 0] 50)) := (Below.refl _ _).alloc (Nat.le_refl _) _
          have j0 := (hb4.cell (p := ⟨y2.val.heap.size, 0, none⟩) k2).trans k0
          have j1 := (hb4.cell (p := ⟨y2.val.heap.size, 1, none⟩) k2).trans k1
          have j2 := Nat.lt_of_lt_of_le k2 hb4.size
          have j3 := (hb4.cell (p := ⟨b8, 0, none⟩) k5).trans k3
          have j4 := (hb4.cell (p := ⟨b8, 1, none⟩) k5).trans k4
          have j5 := Nat.lt_of_lt_of_le k5 hb4.size
          have HB3 := Lib.hid hb3
          have HB4 := Lib.hid hb4
          clear m0 m1 lm hb3 hb4
          have J := Lib.hid (show _ ∧ _ ∧ _ ∧ _ ∧ _ ∧ _ ∧ _ ∧ _ ∧ _ from ⟨j0, j1, j2, j3, j4, j5, p0, p1, lp⟩)
          clear j0 j1 j2 j3 j4 j5 p0 p1 lp k0 k1
          go_wp2_with fail
          obtain ⟨j0, j1, j2, j3, j4, j5, p0, p1, lp⟩ := J.out
          have HU : Hid (Below Z.heap.size Z (y3.val.alloc (.cells #[.int .i64 0, .int .i64 0] 50))) := below_more HB3.out HB4.out
          clear J HB3 HB4 k2 k3 k4 k5
          obtain ⟨b9, hb9⟩ : ∃ b9, y2.val.heap.size = b9 := ⟨_, rfl⟩
          obtain ⟨b11, hb11⟩ : ∃ b11, y3.val.heap.size = b11 := ⟨_, rfl⟩
          rw [hb9] at j0 j1 j2 ⊢
          rw [hb11] at p0 p1 lp ⊢
          clear hb9 hb11
          generalize y3.val.alloc (.cells #[.int .i64 0, .int .i64 0] 50) = U at *
          have HPU : Hid (IsChs U A m (fun i => (f i : Int)) (fun i => (t i : Int)) V) := HPZ.out.below HU.out
          have HCU : Hid (IsInts U B k c) := HCZ.out.below HU.out
          have HBU : Hid (Below w.heap.size w U) := below_more HBZ.out HU.out
          clear HPZ HBZ d0 d1 l1
          go_wp2_with (first | (go_at_call 16; (first | (with_reducible show Calls _ _ _ (Later.val _) _; with_reducible refine Calls.mono (Later.call _ (VR.out _ (HPU.out.below (by repeat (first | exact Below.refl _ _ | (with_reducible assumption) | apply below_later | apply below_alloc | apply below_drew | apply below_drewN))))) ?_) | (with_reducible refine Calls.mono (Gives.calls (VR.out _ (HPU.out.below (by repeat (first | exact Below.refl _ _ | (with_reducible assumption) | apply below_later | apply below_alloc | apply below_drew | apply below_drewN))))) ?_)); rintro e w1 ⟨rfl, y4, rfl⟩) | (go_at_call 36; (first | (with_reducible show Calls _ _ _ (Later.val _) _; with_reducible refine Calls.mono (Later.call _ (RC.out _ (HPU.out.below (by repeat (first | exact Below.refl _ _ | (with_reducible assumption) | apply below_later | apply below_alloc | apply below_drew | apply below_drewN))) (HCU.out.below (by repeat (first | exact Below.refl _ _ | (with_reducible assumption) | apply below_later | apply below_alloc | apply below_drew | apply below_drewN))))) ?_) | (with_reducible refine Calls.mono (Gives.calls (RC.out _ (HPU.out.below (by repeat (first | exact Below.refl _ _ | (with_reducible assumption) | apply below_later | apply below_alloc | apply below_drew | apply below_drewN))) (HCU.out.below (by repeat (first | exact Below.refl _ _ | (with_reducible assumption) | apply below_later | apply below_alloc | apply below_drew | apply below_drewN))))) ?_)); rintro e w1 ⟨rfl, y5, rfl⟩) | (go_at_call 17; (first | (with_reducible show Calls _ _ _ (Later.val _) _; with_reducible refine Calls.mono (Later.call _ (SA.out _)) ?_) | (with_reducible refine Calls.mono (Gives.calls (SA.out _)) ?_)); rintro e w1 ⟨rfl, y6, rfl⟩))
          first | (with_reducible show Code.wp _ _ _ _ (Later.val _); refine wp_region_later_at _ (by kernel_rfl) (by kernel_rfl) ?_) | refine wp_region_later (by kernel_rfl) (by kernel_rfl) ?_
          repeat (go_big_quiet_step ((fail)))
          refine wpQuiet_nil ?_
          intro y7
          go_wp2_with fail
          first | (with_reducible show Code.wp _ _ _ _ (Later.val _); refine wp_region_later_at _ (by kernel_rfl) (by kernel_rfl) ?_) | refine wp_region_later (by kernel_rfl) (by kernel_rfl) ?_
          repeat (go_big_quiet_step ((first | (go_at_call 38; (with_reducible refine Later.call _ (RM.out _ (HPU.out.below (by repeat (first | exact Below.refl _ _ | (with_reducible assumption) | apply below_later | apply below_alloc | apply below_drew | apply below_drewN))) (HCU.out.below (by repeat (first | exact Below.refl _ _ | (with_reducible assumption) | apply below_later | apply below_alloc | apply below_drew | apply below_drewN)))))) | (go_at_call 12; (with_reducible refine Later.call _ (FL.out _))))))
          refine wpQuiet_nil ?_
          intro y9
          go_wp2
          go_ret
          exact ⟨rfl, ⟨_, below_more HBU.out (by repeat (first | exact Below.refl _ _ | (with_reducible assumption) | apply below_later | apply below_alloc | apply below_drew | apply below_drewN))⟩, rfl⟩
        case true =>
          rw [hs] at SA0
          have SA := Lib.hid SA0
          obtain ⟨s, rfl, hsN⟩ := inS_true hs
          have SH := Lib.hid fun (w' : World) (h : IsChs w' A m (fun i => (f i : Int)) (fun i => (t i : Int)) V) (h2 : IsInts w' B k c) => Share_ok N m cap k capB s A B f t V c w' (by omega) hsN R h h2 hcb
          have RS := Lib.hid fun (w' : World) (h : IsChs w' A m (fun i => (f i : Int)) (fun i => (t i : Int)) V) (h2 : IsInts w' B k c) => rshare_any N m cap k capB s A B f t V (fun i => (c i).toNat) w' hk0 (by omega) (by omega) R h (h2.congr fun i hi => (hcn i hi).1) fun i hi => (hcn i hi).2
          clear hs hcb R SA0 hcn
          generalize lowN (wor V (fun i => (c i).toNat) k) k = r1 at *
          generalize lowD (wor V (fun i => (c i).toNat) k) k = r2 at *
          generalize lowN (cntF f (fun i => (c i).toNat) s k) k = q1 at *
          generalize lowD (cntF f (fun i => (c i).toNat) s k) k = q2 at *
          go_enter Try.func6, Try.ntmps6
          go_wp2_with (go_at_call 11; with_reducible refine Calls.mono (Gives.calls (LO.out _)) ?_; rintro e w1 ⟨rfl, z, rfl⟩)
          have d0 := (z.cell _ 0 l0).trans c0
          have d1 := (z.cell _ 1 l0).trans c1
          have l1 := z.lt _ l0
          have HPZ := Lib.hid (HP.out.later z)
          have HCZ := Lib.hid (HC.out.later z)
          have HBZ : Hid (Below w.heap.size w z.val) := below_later HB.out
          clear c0 c1 l0 HP HB
          obtain ⟨b8, hb8⟩ : ∃ b8, w.heap.size = b8 := ⟨_, rfl⟩
          rw [hb8] at d0 d1 l1 ⊢
          clear hb8
          generalize z.val = Z at *
          go_wp2_with (first | (go_at_call 33; (first | (with_reducible show Calls _ _ _ (Later.val _) _; with_reducible refine Calls.mono (Later.call _ (IC.out _ (HPZ.out.below (by repeat (first | exact Below.refl _ _ | (with_reducible assumption) | apply below_later | apply below_alloc | apply below_drew | apply below_drewN))) (HCZ.out.below (by repeat (first | exact Below.refl _ _ | (with_reducible assumption) | apply below_later | apply below_alloc | apply below_drew | apply below_drewN))))) ?_) | (with_reducible refine Calls.mono (Gives.calls (IC.out _ (HPZ.out.below (by repeat (first | exact Below.refl _ _ | (with_reducible assumption) | apply below_later | apply below_alloc | apply below_drew | apply below_drewN))) (HCZ.out.below (by repeat (first | exact Below.refl _ _ | (with_reducible assumption) | apply below_later | apply below_alloc | apply below_drew | apply below_drewN))))) ?_)); rintro e w1 ⟨rfl, y1, rfl⟩) | (go_at_call 34; (first | (with_reducible show Calls _ _ _ (Later.val _) _; with_reducible refine Calls.mono (Later.call _ (MO.out _ (HPZ.out.below (by repeat (first | exact Below.refl _ _ | (with_reducible assumption) | apply below_later | apply below_alloc | apply below_drew | apply below_drewN))) (HCZ.out.below (by repeat (first | exact Below.refl _ _ | (with_reducible assumption) | apply below_later | apply below_alloc | apply below_drew | apply below_drewN))))) ?_) | (with_reducible refine Calls.mono (Gives.calls (MO.out _ (HPZ.out.below (by repeat (first | exact Below.refl _ _ | (with_reducible assumption) | apply below_later | apply below_alloc | apply below_drew | apply below_drewN))) (HCZ.out.below (by repeat (first | exact Below.refl _ _ | (with_reducible assumption) | apply below_later | apply below_alloc | apply below_drew | apply below_drewN))))) ?_)); rintro e w1 ⟨rfl, y2, rfl⟩))
          go_at_call 35
          refine Calls.mono (Gives.calls (SH.out _ (HPZ.out.below (by repeat (first | exact Below.refl _ _ | (with_reducible assumption) | apply below_later | apply below_alloc | apply below_drew | apply below_drewN))) (HCZ.out.below (by repeat (first | exact Below.refl _ _ | (with_reducible assumption) | apply below_later | apply below_alloc | apply below_drew | apply below_drewN))))) ?_
          rintro e w1 ⟨rfl, y3, rfl⟩
          obtain ⟨m0, m1, lm⟩ := box2 y2.val (.int .i64 r1) (.int .i64 r2) 50
          have k0 := (y3.cell _ 0 lm).trans m0
          have k1 := (y3.cell _ 1 lm).trans m1
          have k2 := y3.lt _ lm
          have hb3 : Below Z.heap.size Z y3.val := by repeat (first | exact Below.refl _ _ | (with_reducible assumption) | apply below_later | apply below_alloc | apply below_drew | apply below_drewN)
          have k3 := (hb3.cell (p := ⟨b8, 0, none⟩) l1).trans d0
          have k4 := (hb3.cell (p := ⟨b8, 1, none⟩) l1).trans d1
          have k5 := Nat.lt_of_lt_of_le l1 hb3.size
          obtain ⟨p0, p1, lp⟩ := box2 y3.val (.int .i64 q1) (.int .i64 q2) 50
          have hb4 : Below y3.val.heap.size y3.val (y3.val.alloc (.cells #[.int .i64 q1, .int .i64 q2] 50)) := (Below.refl _ _).alloc (Nat.le_refl _) _
          have j0 := (hb4.cell (p := ⟨y2.val.heap.size, 0, none⟩) k2).trans k0
          have j1 := (hb4.cell (p := ⟨y2.val.heap.size, 1, none⟩) k2).trans k1
          have j2 := Nat.lt_of_lt_of_le k2 hb4.size
          have j3 := (hb4.cell (p := ⟨b8, 0, none⟩) k5).trans k3
          have j4 := (hb4.cell (p := ⟨b8, 1, none⟩) k5).trans k4
          have j5 := Nat.lt_of_lt_of_le k5 hb4.size
          have HB3 := Lib.hid hb3
          have HB4 := Lib.hid hb4
          clear m0 m1 lm hb3 hb4
          have J := Lib.hid (show _ ∧ _ ∧ _ ∧ _ ∧ _ ∧ _ ∧ _ ∧ _ ∧ _ from ⟨j0, j1, j2, j3, j4, j5, p0, p1, lp⟩)
          clear j0 j1 j2 j3 j4 j5 p0 p1 lp k0 k1
          go_wp2_with fail
          obtain ⟨j0, j1, j2, j3, j4, j5, p0, p1, lp⟩ := J.out
          have HU : Hid (Below Z.heap.size Z (y3.val.alloc (.cells #[.int .i64 q1, .int .i64 q2] 50))) := below_more HB3.out HB4.out
          clear J HB3 HB4 k2 k3 k4 k5
          obtain ⟨b9, hb9⟩ : ∃ b9, y2.val.heap.size = b9 := ⟨_, rfl⟩
          obtain ⟨b11, hb11⟩ : ∃ b11, y3.val.heap.size = b11 := ⟨_, rfl⟩
          rw [hb9] at j0 j1 j2 ⊢
          rw [hb11] at p0 p1 lp ⊢
          clear hb9 hb11
          generalize y3.val.alloc (.cells #[.int .i64 q1, .int .i64 q2] 50) = U at *
          have HPU : Hid (IsChs U A m (fun i => (f i : Int)) (fun i => (t i : Int)) V) := HPZ.out.below HU.out
          have HCU : Hid (IsInts U B k c) := HCZ.out.below HU.out
          have HBU : Hid (Below w.heap.size w U) := below_more HBZ.out HU.out
          clear HPZ HBZ d0 d1 l1
          go_wp2_with (first | (go_at_call 16; (first | (with_reducible show Calls _ _ _ (Later.val _) _; with_reducible refine Calls.mono (Later.call _ (VR.out _ (HPU.out.below (by repeat (first | exact Below.refl _ _ | (with_reducible assumption) | apply below_later | apply below_alloc | apply below_drew | apply below_drewN))))) ?_) | (with_reducible refine Calls.mono (Gives.calls (VR.out _ (HPU.out.below (by repeat (first | exact Below.refl _ _ | (with_reducible assumption) | apply below_later | apply below_alloc | apply below_drew | apply below_drewN))))) ?_)); rintro e w1 ⟨rfl, y4, rfl⟩) | (go_at_call 36; (first | (with_reducible show Calls _ _ _ (Later.val _) _; with_reducible refine Calls.mono (Later.call _ (RC.out _ (HPU.out.below (by repeat (first | exact Below.refl _ _ | (with_reducible assumption) | apply below_later | apply below_alloc | apply below_drew | apply below_drewN))) (HCU.out.below (by repeat (first | exact Below.refl _ _ | (with_reducible assumption) | apply below_later | apply below_alloc | apply below_drew | apply below_drewN))))) ?_) | (with_reducible refine Calls.mono (Gives.calls (RC.out _ (HPU.out.below (by repeat (first | exact Below.refl _ _ | (with_reducible assumption) | apply below_later | apply below_alloc | apply below_drew | apply below_drewN))) (HCU.out.below (by repeat (first | exact Below.refl _ _ | (with_reducible assumption) | apply below_later | apply below_alloc | apply below_drew | apply below_drewN))))) ?_)); rintro e w1 ⟨rfl, y5, rfl⟩) | (go_at_call 17; (first | (with_reducible show Calls _ _ _ (Later.val _) _; with_reducible refine Calls.mono (Later.call _ (SA.out _)) ?_) | (with_reducible refine Calls.mono (Gives.calls (SA.out _)) ?_)); rintro e w1 ⟨rfl, y6, rfl⟩))
          first | (with_reducible show Code.wp _ _ _ _ (Later.val _); refine wp_region_later_at _ (by kernel_rfl) (by kernel_rfl) ?_) | refine wp_region_later (by kernel_rfl) (by kernel_rfl) ?_
          repeat (go_big_quiet_step (((go_at_call 37; (with_reducible refine Later.call _ (RS.out _ (HPU.out.below (by repeat (first | exact Below.refl _ _ | (with_reducible assumption) | apply below_later | apply below_alloc | apply below_drew | apply below_drewN))) (HCU.out.below (by repeat (first | exact Below.refl _ _ | (with_reducible assumption) | apply below_later | apply below_alloc | apply below_drew | apply below_drewN)))))))))
          refine wpQuiet_nil ?_
          intro y7
          go_wp2_with fail
          first | (with_reducible show Code.wp _ _ _ _ (Later.val _); refine wp_region_later_at _ (by kernel_rfl) (by kernel_rfl) ?_) | refine wp_region_later (by kernel_rfl) (by kernel_rfl) ?_
          repeat (go_big_quiet_step ((first | (go_at_call 38; (with_reducible refine Later.call _ (RM.out _ (HPU.out.below (by repeat (first | exact Below.refl _ _ | (with_reducible assumption) | apply below_later | apply below_alloc | apply below_drew | apply below_drewN))) (HCU.out.below (by repeat (first | exact Below.refl _ _ | (with_reducible assumption) | apply below_later | apply below_alloc | apply below_drew | apply below_drewN)))))) | (go_at_call 12; (with_reducible refine Later.call _ (FL.out _))))))
          refine wpQuiet_nil ?_
          intro y9
          go_wp2
          go_ret
          exact ⟨rfl, ⟨_, below_more HBU.out (by repeat (first | exact Below.refl _ _ | (with_reducible assumption) | apply below_later | apply below_alloc | apply below_drew | apply below_drewN))⟩, rfl⟩
end Go.Proofs.Ytbmfmdlpaidmjaa
