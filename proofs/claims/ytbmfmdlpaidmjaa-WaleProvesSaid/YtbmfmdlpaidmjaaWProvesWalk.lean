/- WaleProves, walked. -/
import Derived.Test.YtbmfmdlpaidmjaaWProves2
namespace Go.Proofs.Ytbmfmdlpaidmjaa
open Go.RowKit

set_option maxRecDepth 100000 in
set_option maxHeartbeats 6400000 in
theorem proves_law (n N D : Int) (m cap k hc : Nat) (A B : Option Addr) (F T V : Nat → Int) (H : Nat → Int) (w : World) (hp : m ≤ 60 → IsChs w A m F T V) (hh : k ≤ 9223372036854775807 → IsInts w B k H) :
    Gives Try.prog 7 #[.agg #[.int .i64 n, .slice A m cap], .agg #[.slice B k hc, .int .i64 N, .int .i64 D]] w (.bool true) := by
  have FL : Hid (∀ w, Gives Try.prog 12 #[] w (.bool true)) := first_law
  have LO : Hid (∀ w, Gives Try.prog 11 #[.agg #[.int .i64 n, .slice A m cap], .slice none 0 0] w (.bool (decide (60 < m) || decide (1100 < 0)))) := fun w => Long_any n m cap 0 0 A none w
  obtain ⟨c0, c1, l0⟩ := box2 w (.int .i64 n) (.slice A m cap) 24
  obtain ⟨e0, e1, e2, e3⟩ := box3 (w.alloc (.cells #[.int .i64 n, .slice A m cap] 24)) (.slice B k hc) (.int .i64 N) (.int .i64 D) 70
  have hb1 : Below w.heap.size w (w.alloc (.cells #[.int .i64 n, .slice A m cap] 24)) := (Below.refl _ _).alloc (Nat.le_refl _) _
  have hb2 : Below (w.alloc (.cells #[.int .i64 n, .slice A m cap] 24)).heap.size (w.alloc (.cells #[.int .i64 n, .slice A m cap] 24)) ((w.alloc (.cells #[.int .i64 n, .slice A m cap] 24)).alloc (.cells #[.slice B k hc, .int .i64 N, .int .i64 D] 70)) := (Below.refl _ _).alloc (Nat.le_refl _) _
  have a0 := (hb2.cell (p := ⟨w.heap.size, 0, none⟩) l0).trans c0
  have a1 := (hb2.cell (p := ⟨w.heap.size, 1, none⟩) l0).trans c1
  have a2 := Nat.lt_of_lt_of_le l0 hb2.size
  rw [World.size_alloc] at e0 e1 e2 e3
  have HB := Lib.hid (below_more hb1 hb2)
  clear c0 c1 l0
  by_cases hm60 : 60 < m
  · have LO2 : Hid (∀ w, Gives Try.prog 11 #[.agg #[.int .i64 n, .slice A m cap], .slice none 0 0] w (.bool true)) := fun w => by have h := LO.out w; rw [decide_eq_true hm60] at h; exact h
    clear LO hp hh hb1 hb2 e0 e1 e2 e3 a0 a1 a2
    go_enter Try.func7, Try.ntmps7
    go_wp2_with (first | (go_at_call 11; with_reducible refine Calls.mono (Gives.calls (LO2.out _)) ?_; rintro e w1 ⟨rfl, z, rfl⟩) | (go_at_call 12; with_reducible refine Calls.mono (Gives.calls (FL.out _)) ?_; rintro e w1 ⟨rfl, z2, rfl⟩))
    go_ret
    exact ⟨rfl, later_of (by repeat (first | exact Below.refl _ _ | (with_reducible assumption) | apply below_later | apply below_alloc | apply below_drew | apply below_drewN))⟩
  have LO2 : Hid (∀ w, Gives Try.prog 11 #[.agg #[.int .i64 n, .slice A m cap], .slice none 0 0] w (.bool false)) := fun w => by have h := LO.out w; rw [decide_eq_false hm60] at h; exact h
  by_cases hk20 : 20 < k
  · clear LO hp hh hb1 hb2
    go_enter Try.func7, Try.ntmps7
    go_wp2_with (first | (go_at_call 11; with_reducible refine Calls.mono (Gives.calls (LO2.out _)) ?_; rintro e w1 ⟨rfl, z, rfl⟩) | (go_at_call 12; with_reducible refine Calls.mono (Gives.calls (FL.out _)) ?_; rintro e w1 ⟨rfl, z2, rfl⟩))
    go_ret
    exact ⟨rfl, later_of (by repeat (first | exact Below.refl _ _ | (with_reducible assumption) | apply below_later | apply below_alloc | apply below_drew | apply below_drewN))⟩
  have hpW := (hp (by omega)).below (below_more hb1 hb2)
  have hhW := (hh (by omega)).below (below_more hb1 hb2)
  clear LO hp hh hb1 hb2
  cases hv : validR n m F T V
  case false =>
    have PB := Lib.hid fun (w' : World) (h : IsChs w' A m F T V) => Proves_bad n N D m cap k hc A B F T V w' (by omega) h hv
    have VR : Hid (∀ w', IsChs w' A m F T V → Gives Try.prog 16 #[.int .i64 n, .slice A m cap] w' (.bool false)) := fun w' h => hv ▸ rvalid_any n A m cap F T V w' (by omega) h
    have HP := Lib.hid hpW
    have HH := Lib.hid hhW
    clear hpW hhW hv
    go_enter Try.func7, Try.ntmps7
    go_wp2_with (first | (go_at_call 11; with_reducible refine Calls.mono (Gives.calls (LO2.out _)) ?_; rintro e w1 ⟨rfl, z, rfl⟩))
    have d0 := (z.cell _ 0 a2).trans a0
    have d1 := (z.cell _ 1 a2).trans a1
    have d2 := z.lt _ a2
    have d3 := (z.cell _ 0 e3).trans e0
    have d4 := (z.cell _ 1 e3).trans e1
    have d5 := (z.cell _ 2 e3).trans e2
    have d6 := z.lt _ e3
    have HPZ := Lib.hid (HP.out.later z)
    have HHZ := Lib.hid (HH.out.later z)
    have HBZ : Hid (Below w.heap.size w z.val) := below_later HB.out
    clear a0 a1 a2 e0 e1 e2 e3 HP HH HB
    obtain ⟨b8, hb8⟩ : ∃ b8, w.heap.size = b8 := ⟨_, rfl⟩
    rw [hb8] at d0 d1 d2 d3 d4 d5 d6 ⊢
    clear hb8
    generalize z.val = Z at *
    go_wp2_with (first | (go_at_call 39; (first | (with_reducible show Calls _ _ _ (Later.val _) _; with_reducible refine Calls.mono (Later.call _ (PB.out _ (HPZ.out.below (by repeat (first | exact Below.refl _ _ | (with_reducible assumption) | apply below_later | apply below_alloc | apply below_drew | apply below_drewN))))) ?_) | (with_reducible refine Calls.mono (Gives.calls (PB.out _ (HPZ.out.below (by repeat (first | exact Below.refl _ _ | (with_reducible assumption) | apply below_later | apply below_alloc | apply below_drew | apply below_drewN))))) ?_)); rintro e w1 ⟨rfl, y1, rfl⟩) | (go_at_call 16; (first | (with_reducible show Calls _ _ _ (Later.val _) _; with_reducible refine Calls.mono (Later.call _ (VR.out _ (HPZ.out.below (by repeat (first | exact Below.refl _ _ | (with_reducible assumption) | apply below_later | apply below_alloc | apply below_drew | apply below_drewN))))) ?_) | (with_reducible refine Calls.mono (Gives.calls (VR.out _ (HPZ.out.below (by repeat (first | exact Below.refl _ _ | (with_reducible assumption) | apply below_later | apply below_alloc | apply below_drew | apply below_drewN))))) ?_)); rintro e w1 ⟨rfl, y2, rfl⟩) | (go_at_call 12; with_reducible refine Calls.mono (Gives.calls (FL.out _)) ?_; rintro e w1 ⟨rfl, y3, rfl⟩))
    go_ret
    exact ⟨rfl, ⟨_, below_more HBZ.out (by repeat (first | exact Below.refl _ _ | (with_reducible assumption) | apply below_later | apply below_alloc | apply below_drew | apply below_drewN))⟩, rfl⟩
  case true =>
    obtain ⟨M, f, t, rfl, R, hft⟩ := valid_rot hv
    have HP : Hid (IsChs ((w.alloc (.cells #[.int .i64 M, .slice A m cap] 24)).alloc (.cells #[.slice B k hc, .int .i64 N, .int .i64 D] 70)) A m (fun i => (f i : Int)) (fun i => (t i : Int)) V) := hpW.congr hft
    have HH := Lib.hid hhW
    have hn1 := R.n1
    have hn8 := R.n8
    have VR : Hid (∀ w', IsChs w' A m (fun i => (f i : Int)) (fun i => (t i : Int)) V → Gives Try.prog 16 #[.int .i64 M, .slice A m cap] w' (.bool true)) := fun w' h => rot_valid R ▸ rvalid_any M A m cap _ _ V w' (by omega) h
    have u1 : IntKind.i64.wrap (-1000 * (M : Int)) = -1000 * (M : Int) := IntWalk.i64_in _ ⟨by omega, by omega⟩
    have u2 : IntKind.i64.wrap (1000 * (M : Int)) = 1000 * (M : Int) := IntWalk.i64_in _ ⟨by omega, by omega⟩
    obtain ⟨o0, ho0⟩ : ∃ o0, (!(decide ((k : Int) = (M : Int)) && canB M N D)) = o0 := ⟨_, rfl⟩
    have HO : Hid (o0 = true ↔ ¬((k : Int) = M ∧ 1 ≤ D ∧ D ≤ M ∧ -1000 * (M : Int) ≤ N ∧ N ≤ 1000 * (M : Int))) := by
      show _ ↔ _
      rw [← ho0]
      unfold canB
      simp only [Bool.not_eq_true', Bool.and_eq_false_iff, decide_eq_false_iff_not]
      omega
    have HA : Hid (argB M k H N D = !(o0 || !(allB k fun i => okH (H i)))) := by
      show _ = _
      unfold argB
      rw [← ho0]
      cases decide ((k : Int) = (M : Int)) <;> cases canB M N D <;> cases (allB k fun i => okH (H i)) <;> rfl
    have PA := Lib.hid fun (w' : World) (h : IsChs w' A m (fun i => (f i : Int)) (fun i => (t i : Int)) V) (h2 : IsInts w' B k H) (ha : argB M k H N D = false) => Proves_arg M m cap k hc N D A B f t V H w' (by omega) R h h2 ha
    have PO := Lib.hid fun (w' : World) (h : IsChs w' A m (fun i => (f i : Int)) (fun i => (t i : Int)) V) (h2 : IsInts w' B k H) (ha : argB M k H N D = true) => Proves_ok M m cap k hc N D A B f t V H w' R h h2 ha
    have RP := Lib.hid fun (w' : World) (h : IsChs w' A m (fun i => (f i : Int)) (fun i => (t i : Int)) V) (h2 : IsInts w' B k H) (ha : argB M k H N D = true) => rproves_any M m cap k hc N D A B f t V H w' R h h2 ha
    clear hpW hhW hv hft R ho0
    generalize allB m (stepOk f t V H N D) = res at *
    cases ha : argB M k H N D
    case false =>
      go_enter Try.func7, Try.ntmps7
      go_wp2_with (first | (go_at_call 11; with_reducible refine Calls.mono (Gives.calls (LO2.out _)) ?_; rintro e w1 ⟨rfl, z, rfl⟩))
      have d0 := (z.cell _ 0 a2).trans a0
      have d1 := (z.cell _ 1 a2).trans a1
      have d2 := z.lt _ a2
      have d3 := (z.cell _ 0 e3).trans e0
      have d4 := (z.cell _ 1 e3).trans e1
      have d5 := (z.cell _ 2 e3).trans e2
      have d6 := z.lt _ e3
      have HPZ := Lib.hid (HP.out.later z)
      have HHZ := Lib.hid (HH.out.later z)
      have HBZ : Hid (Below w.heap.size w z.val) := below_later HB.out
      clear a0 a1 a2 e0 e1 e2 e3 HP HH HB
      obtain ⟨b8, hb8⟩ : ∃ b8, w.heap.size = b8 := ⟨_, rfl⟩
      rw [hb8] at d0 d1 d2 d3 d4 d5 d6 ⊢
      clear hb8
      generalize z.val = Z at *
      go_wp2_with (first | (go_at_call 39; (first | (with_reducible show Calls _ _ _ (Later.val _) _; with_reducible refine Calls.mono (Later.call _ (PA.out _ (HPZ.out.below (by repeat (first | exact Below.refl _ _ | (with_reducible assumption) | apply below_later | apply below_alloc | apply below_drew | apply below_drewN))) (HHZ.out.below (by repeat (first | exact Below.refl _ _ | (with_reducible assumption) | apply below_later | apply below_alloc | apply below_drew | apply below_drewN))) ha)) ?_) | (with_reducible refine Calls.mono (Gives.calls (PA.out _ (HPZ.out.below (by repeat (first | exact Below.refl _ _ | (with_reducible assumption) | apply below_later | apply below_alloc | apply below_drew | apply below_drewN))) (HHZ.out.below (by repeat (first | exact Below.refl _ _ | (with_reducible assumption) | apply below_later | apply below_alloc | apply below_drew | apply below_drewN))) ha)) ?_)); rintro e w1 ⟨rfl, y1, rfl⟩) | (go_at_call 16; (first | (with_reducible show Calls _ _ _ (Later.val _) _; with_reducible refine Calls.mono (Later.call _ (VR.out _ (HPZ.out.below (by repeat (first | exact Below.refl _ _ | (with_reducible assumption) | apply below_later | apply below_alloc | apply below_drew | apply below_drewN))))) ?_) | (with_reducible refine Calls.mono (Gives.calls (VR.out _ (HPZ.out.below (by repeat (first | exact Below.refl _ _ | (with_reducible assumption) | apply below_later | apply below_alloc | apply below_drew | apply below_drewN))))) ?_)); rintro e w1 ⟨rfl, y2, rfl⟩))
      all_goals
        have HY : Hid (Below Z.heap.size Z y2.val) := by show Below _ _ _; repeat (first | exact Below.refl _ _ | (with_reducible assumption) | apply below_later | apply below_alloc | apply below_drew | apply below_drewN)
        have j0 := (HY.out.cell (p := ⟨b8, 0, none⟩) d2).trans d0
        have j1 := (HY.out.cell (p := ⟨b8, 1, none⟩) d2).trans d1
        have j2 := Nat.lt_of_lt_of_le d2 HY.out.size
        have j3 := (HY.out.cell (p := ⟨b8 + 1, 0, none⟩) d6).trans d3
        have j4 := (HY.out.cell (p := ⟨b8 + 1, 1, none⟩) d6).trans d4
        have j5 := (HY.out.cell (p := ⟨b8 + 1, 2, none⟩) d6).trans d5
        have j6 := Nat.lt_of_lt_of_le d6 HY.out.size
        have HPY : Hid (IsChs y2.val A m (fun i => (f i : Int)) (fun i => (t i : Int)) V) := HPZ.out.below HY.out
        have HHY : Hid (IsInts y2.val B k H) := HHZ.out.below HY.out
        have HBY : Hid (Below w.heap.size w y2.val) := below_more HBZ.out HY.out
        clear d0 d1 d2 d3 d4 d5 d6 HPZ HHZ HBZ HY
        generalize y2.val = Y at *
        go_loopw [7, 8] (fun u v wr => ∃ j : Nat, v = .int .i64 (j : Nat) ∧ j ≤ k ∧ u = .bool (o0 || !(allB j fun i => okH (H i))) ∧ ∃ x : Later Y, wr = x.val) (fun _ v _ => k - (intOf v).toNat)
        case atStart =>
          refine ⟨0, rfl, by omega, ?_, later_of (by repeat (first | exact Below.refl _ _ | (with_reducible assumption) | apply below_later | apply below_alloc | apply below_drew | apply below_drewN))⟩
          congr 1
          rw [show (o0 || !(allB 0 fun i => okH (H i))) = o0 by (rw [show (allB 0 fun i => okH (H i)) = true from rfl]; simp)]
          first
            | exact (HO.out.2 (by omega)).symm
            | (rw [Bool.eq_iff_iff, HO.out]; simp only [Bool.or_eq_true, decide_eq_true_eq]; omega)
        case round =>
          obtain ⟨j, rfl, hj, rfl, x, rfl⟩ := hrel
          have i0 := (x.cell _ 0 j2).trans j0
          have i1 := (x.cell _ 1 j2).trans j1
          have i2 := x.lt _ j2
          have i3 := (x.cell _ 0 j6).trans j3
          have i4 := (x.cell _ 1 j6).trans j4
          have i5 := (x.cell _ 2 j6).trans j5
          have i6 := x.lt _ j6
          by_cases hlt : j < k
          · obtain ⟨bb, oo, hB, q⟩ := (HHY.out.later x).at_ (by omega)
            rw [hB] at i3 ⊢
            have cj := q.at_ j hlt
            have lq := q.lt
            have HS : Hid ((allB (j + 1) fun i => okH (H i)) = ((allB j fun i => okH (H i)) && okH (H j))) := allB_succ j _
            have HK : Hid (okH (H j) = (decide (-1000000 ≤ H j) && decide (H j ≤ 1000000))) := rfl
            generalize (allB j fun i => okH (H i)) = aj at *
            generalize okH (H j) = kj at *
            generalize H j = h0 at *
            clear q hB
            generalize hoj : (o0 || !aj) = oj at *
            have HOJ := Lib.hid hoj
            clear hoj
            cases oj
            · by_cases g1 : h0 < -1000000
              · have HN : Hid ((o0 || !(allB (j + 1) fun i => okH (H i))) = true) := by
                  show _ = _
                  rw [HS.out, show kj = false by rw [HK.out]; simp; omega]
                  simp
                go_wp2_with fail
                go_roundw
                case rel => exact ⟨j + 1, by go_num, by omega, by rw [HN.out], later_of (by repeat (first | exact Below.refl _ _ | (with_reducible assumption) | apply below_later | apply below_alloc | apply below_drew | apply below_drewN))⟩
                case measure => simp [intOf]; omega
              · by_cases g2 : 1000000 < h0
                · have HN : Hid ((o0 || !(allB (j + 1) fun i => okH (H i))) = true) := by
                    show _ = _
                    rw [HS.out, show kj = false by rw [HK.out]; simp; omega]
                    simp
                  go_wp2_with fail
                  go_roundw
                  case rel => exact ⟨j + 1, by go_num, by omega, by rw [HN.out]; try simp; try omega, later_of (by repeat (first | exact Below.refl _ _ | (with_reducible assumption) | apply below_later | apply below_alloc | apply below_drew | apply below_drewN))⟩
                  case measure => simp [intOf]; omega
                · have HN : Hid ((o0 || !(allB (j + 1) fun i => okH (H i))) = false) := by
                    show _ = _
                    rw [HS.out, show kj = true by rw [HK.out]; simp; omega, Bool.and_true]
                    exact HOJ.out
                  go_wp2_with fail
                  go_roundw
                  case rel => exact ⟨j + 1, by go_num, by omega, by rw [HN.out]; try simp; try omega, later_of (by repeat (first | exact Below.refl _ _ | (with_reducible assumption) | apply below_later | apply below_alloc | apply below_drew | apply below_drewN))⟩
                  case measure => simp [intOf]; omega
            · have HN : Hid ((o0 || !(allB (j + 1) fun i => okH (H i))) = true) := by
                show _ = _
                rw [HS.out]
                have := HOJ.out
                cases o0 <;> simp_all
              go_wp2_with fail
              go_roundw
              case rel => exact ⟨j + 1, by go_num, by omega, by rw [HN.out], later_of (by repeat (first | exact Below.refl _ _ | (with_reducible assumption) | apply below_later | apply below_alloc | apply below_drew | apply below_drewN))⟩
              case measure => simp [intOf]; omega
          · obtain rfl : j = k := by omega
            have hoj : (o0 || !(allB j fun i => okH (H i))) = true := by
              have h := ha
              rw [HA.out] at h
              cases hx : (o0 || !(allB j fun i => okH (H i))) with
              | true => rfl
              | false => rw [hx] at h; cases h
            rw [hoj]
            go_wp2_with (first | (go_at_call 12; with_reducible refine Calls.mono (Gives.calls (FL.out _)) ?_; rintro e w1 ⟨rfl, y3, rfl⟩))
            go_ret
            exact ⟨rfl, ⟨_, below_more HBY.out (by repeat (first | exact Below.refl _ _ | (with_reducible assumption) | apply below_later | apply below_alloc | apply below_drew | apply below_drewN))⟩, rfl⟩
    case true =>
      go_enter Try.func7, Try.ntmps7
      go_wp2_with (first | (go_at_call 11; with_reducible refine Calls.mono (Gives.calls (LO2.out _)) ?_; rintro e w1 ⟨rfl, z, rfl⟩))
      have d0 := (z.cell _ 0 a2).trans a0
      have d1 := (z.cell _ 1 a2).trans a1
      have d2 := z.lt _ a2
      have d3 := (z.cell _ 0 e3).trans e0
      have d4 := (z.cell _ 1 e3).trans e1
      have d5 := (z.cell _ 2 e3).trans e2
      have d6 := z.lt _ e3
      have HPZ := Lib.hid (HP.out.later z)
      have HHZ := Lib.hid (HH.out.later z)
      have HBZ : Hid (Below w.heap.size w z.val) := below_later HB.out
      clear a0 a1 a2 e0 e1 e2 e3 HP HH HB
      obtain ⟨b8, hb8⟩ : ∃ b8, w.heap.size = b8 := ⟨_, rfl⟩
      rw [hb8] at d0 d1 d2 d3 d4 d5 d6 ⊢
      clear hb8
      generalize z.val = Z at *
      go_wp2_with (first | (go_at_call 39; (first | (with_reducible show Calls _ _ _ (Later.val _) _; with_reducible refine Calls.mono (Later.call _ (PO.out _ (HPZ.out.below (by repeat (first | exact Below.refl _ _ | (with_reducible assumption) | apply below_later | apply below_alloc | apply below_drew | apply below_drewN))) (HHZ.out.below (by repeat (first | exact Below.refl _ _ | (with_reducible assumption) | apply below_later | apply below_alloc | apply below_drew | apply below_drewN))) ha)) ?_) | (with_reducible refine Calls.mono (Gives.calls (PO.out _ (HPZ.out.below (by repeat (first | exact Below.refl _ _ | (with_reducible assumption) | apply below_later | apply below_alloc | apply below_drew | apply below_drewN))) (HHZ.out.below (by repeat (first | exact Below.refl _ _ | (with_reducible assumption) | apply below_later | apply below_alloc | apply below_drew | apply below_drewN))) ha)) ?_)); rintro e w1 ⟨rfl, y1, rfl⟩) | (go_at_call 16; (first | (with_reducible show Calls _ _ _ (Later.val _) _; with_reducible refine Calls.mono (Later.call _ (VR.out _ (HPZ.out.below (by repeat (first | exact Below.refl _ _ | (with_reducible assumption) | apply below_later | apply below_alloc | apply below_drew | apply below_drewN))))) ?_) | (with_reducible refine Calls.mono (Gives.calls (VR.out _ (HPZ.out.below (by repeat (first | exact Below.refl _ _ | (with_reducible assumption) | apply below_later | apply below_alloc | apply below_drew | apply below_drewN))))) ?_)); rintro e w1 ⟨rfl, y2, rfl⟩))
      all_goals
        have HY : Hid (Below Z.heap.size Z y2.val) := by show Below _ _ _; repeat (first | exact Below.refl _ _ | (with_reducible assumption) | apply below_later | apply below_alloc | apply below_drew | apply below_drewN)
        have j0 := (HY.out.cell (p := ⟨b8, 0, none⟩) d2).trans d0
        have j1 := (HY.out.cell (p := ⟨b8, 1, none⟩) d2).trans d1
        have j2 := Nat.lt_of_lt_of_le d2 HY.out.size
        have j3 := (HY.out.cell (p := ⟨b8 + 1, 0, none⟩) d6).trans d3
        have j4 := (HY.out.cell (p := ⟨b8 + 1, 1, none⟩) d6).trans d4
        have j5 := (HY.out.cell (p := ⟨b8 + 1, 2, none⟩) d6).trans d5
        have j6 := Nat.lt_of_lt_of_le d6 HY.out.size
        have HPY : Hid (IsChs y2.val A m (fun i => (f i : Int)) (fun i => (t i : Int)) V) := HPZ.out.below HY.out
        have HHY : Hid (IsInts y2.val B k H) := HHZ.out.below HY.out
        have HBY : Hid (Below w.heap.size w y2.val) := below_more HBZ.out HY.out
        clear d0 d1 d2 d3 d4 d5 d6 HPZ HHZ HBZ HY
        generalize y2.val = Y at *
        go_loopw [7, 8] (fun u v wr => ∃ j : Nat, v = .int .i64 (j : Nat) ∧ j ≤ k ∧ u = .bool (o0 || !(allB j fun i => okH (H i))) ∧ ∃ x : Later Y, wr = x.val) (fun _ v _ => k - (intOf v).toNat)
        case atStart =>
          refine ⟨0, rfl, by omega, ?_, later_of (by repeat (first | exact Below.refl _ _ | (with_reducible assumption) | apply below_later | apply below_alloc | apply below_drew | apply below_drewN))⟩
          congr 1
          rw [show (o0 || !(allB 0 fun i => okH (H i))) = o0 by (rw [show (allB 0 fun i => okH (H i)) = true from rfl]; simp)]
          first
            | exact (HO.out.2 (by omega)).symm
            | (rw [Bool.eq_iff_iff, HO.out]; simp only [Bool.or_eq_true, decide_eq_true_eq]; omega)
        case round =>
          obtain ⟨j, rfl, hj, rfl, x, rfl⟩ := hrel
          have i0 := (x.cell _ 0 j2).trans j0
          have i1 := (x.cell _ 1 j2).trans j1
          have i2 := x.lt _ j2
          have i3 := (x.cell _ 0 j6).trans j3
          have i4 := (x.cell _ 1 j6).trans j4
          have i5 := (x.cell _ 2 j6).trans j5
          have i6 := x.lt _ j6
          by_cases hlt : j < k
          · obtain ⟨bb, oo, hB, q⟩ := (HHY.out.later x).at_ (by omega)
            rw [hB] at i3 ⊢
            have cj := q.at_ j hlt
            have lq := q.lt
            have HS : Hid ((allB (j + 1) fun i => okH (H i)) = ((allB j fun i => okH (H i)) && okH (H j))) := allB_succ j _
            have HK : Hid (okH (H j) = (decide (-1000000 ≤ H j) && decide (H j ≤ 1000000))) := rfl
            generalize (allB j fun i => okH (H i)) = aj at *
            generalize okH (H j) = kj at *
            generalize H j = h0 at *
            clear q hB
            generalize hoj : (o0 || !aj) = oj at *
            have HOJ := Lib.hid hoj
            clear hoj
            cases oj
            · by_cases g1 : h0 < -1000000
              · have HN : Hid ((o0 || !(allB (j + 1) fun i => okH (H i))) = true) := by
                  show _ = _
                  rw [HS.out, show kj = false by rw [HK.out]; simp; omega]
                  simp
                go_wp2_with fail
                go_roundw
                case rel => exact ⟨j + 1, by go_num, by omega, by rw [HN.out], later_of (by repeat (first | exact Below.refl _ _ | (with_reducible assumption) | apply below_later | apply below_alloc | apply below_drew | apply below_drewN))⟩
                case measure => simp [intOf]; omega
              · by_cases g2 : 1000000 < h0
                · have HN : Hid ((o0 || !(allB (j + 1) fun i => okH (H i))) = true) := by
                    show _ = _
                    rw [HS.out, show kj = false by rw [HK.out]; simp; omega]
                    simp
                  go_wp2_with fail
                  go_roundw
                  case rel => exact ⟨j + 1, by go_num, by omega, by rw [HN.out]; try simp; try omega, later_of (by repeat (first | exact Below.refl _ _ | (with_reducible assumption) | apply below_later | apply below_alloc | apply below_drew | apply below_drewN))⟩
                  case measure => simp [intOf]; omega
                · have HN : Hid ((o0 || !(allB (j + 1) fun i => okH (H i))) = false) := by
                    show _ = _
                    rw [HS.out, show kj = true by rw [HK.out]; simp; omega, Bool.and_true]
                    exact HOJ.out
                  go_wp2_with fail
                  go_roundw
                  case rel => exact ⟨j + 1, by go_num, by omega, by rw [HN.out]; try simp; try omega, later_of (by repeat (first | exact Below.refl _ _ | (with_reducible assumption) | apply below_later | apply below_alloc | apply below_drew | apply below_drewN))⟩
                  case measure => simp [intOf]; omega
            · have HN : Hid ((o0 || !(allB (j + 1) fun i => okH (H i))) = true) := by
                show _ = _
                rw [HS.out]
                have := HOJ.out
                cases o0 <;> simp_all
              go_wp2_with fail
              go_roundw
              case rel => exact ⟨j + 1, by go_num, by omega, by rw [HN.out], later_of (by repeat (first | exact Below.refl _ _ | (with_reducible assumption) | apply below_later | apply below_alloc | apply below_drew | apply below_drewN))⟩
              case measure => simp [intOf]; omega
          · obtain rfl : j = k := by omega
            have hoj : (o0 || !(allB j fun i => okH (H i))) = false := by
              have h := ha
              rw [HA.out] at h
              cases hx : (o0 || !(allB j fun i => okH (H i))) with
              | false => rfl
              | true => rw [hx] at h; cases h
            rw [hoj]
            go_wp2_with (first | (go_at_call 40; (first | (with_reducible show Calls _ _ _ (Later.val _) _; with_reducible refine Calls.mono (Later.call _ (RP.out _ (HPY.out.below (by repeat (first | exact Below.refl _ _ | (with_reducible assumption) | apply below_later | apply below_alloc | apply below_drew | apply below_drewN))) (HHY.out.below (by repeat (first | exact Below.refl _ _ | (with_reducible assumption) | apply below_later | apply below_alloc | apply below_drew | apply below_drewN))) ha)) ?_) | (with_reducible refine Calls.mono (Gives.calls (RP.out _ (HPY.out.below (by repeat (first | exact Below.refl _ _ | (with_reducible assumption) | apply below_later | apply below_alloc | apply below_drew | apply below_drewN))) (HHY.out.below (by repeat (first | exact Below.refl _ _ | (with_reducible assumption) | apply below_later | apply below_alloc | apply below_drew | apply below_drewN))) ha)) ?_)); rintro e w1 ⟨rfl, y4, rfl⟩) | (go_at_call 12; with_reducible refine Calls.mono (Gives.calls (FL.out _)) ?_; rintro e w1 ⟨rfl, y3, rfl⟩))
            go_ret
            exact ⟨rfl, ⟨_, below_more HBY.out (by repeat (first | exact Below.refl _ _ | (with_reducible assumption) | apply below_later | apply below_alloc | apply below_drew | apply below_drewN))⟩, rfl⟩
end Go.Proofs.Ytbmfmdlpaidmjaa
