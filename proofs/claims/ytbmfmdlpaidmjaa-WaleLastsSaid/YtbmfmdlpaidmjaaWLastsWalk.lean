/- WaleLasts, walked. -/
import Derived.Test.YtbmfmdlpaidmjaaWLastsMath
import Derived.Test.YtbmfmdlpaidmjaaWCirclesWalk
import Derived.Deep.DeepCutAuto
namespace Go.Proofs.Ytbmfmdlpaidmjaa
open Go.RowKit

theorem natZ_get (l : List Nat) (i : Nat) : (natZ l).getD i 0 = ((l.getD i 0 : Nat) : Int) := by
  simp only [natZ, List.getD_eq_getElem?_getD, List.getElem?_map]
  cases l[i]? <;> rfl
theorem own_nat {w : World} {base n cap : Nat} {A : Option Addr} {l : List Nat} (h : OwnI w base (.slice A n cap) (natZ l)) (hl : l.length ≤ 1000000) : n = l.length ∧ IsInts w A n fun i => ((l.getD i 0 : Nat) : Int) := by
  obtain ⟨e, hi⟩ := h.ints (by rw [natZ_length]; omega)
  rw [natZ_length] at e
  exact ⟨e, hi.congr fun i _ => natZ_get l i⟩
set_option maxRecDepth 100000 in
set_option maxHeartbeats 12800000 in
theorem lasts_law (n : Int) (m cap : Nat) (v0 v1 : Int) (A : Option Addr) (F T V : Nat → Int) (w : World) (hp : m ≤ 60 → IsChs w A m F T V)
    (a0 : 0 ≤ v0) (a0' : v0 ≤ 255) (a1 : 0 ≤ v1) (a1' : v1 ≤ 255) :
    Gives Try.prog 9 #[.agg #[.int .i64 n, .slice A m cap], .agg #[.int .u8 v0, .int .u8 v1]] w (.bool true) := by
  have FL : Hid (∀ w, Gives Try.prog 12 #[] w (.bool true)) := first_law
  obtain ⟨c0, c1, l0⟩ := box2 w (.int .i64 n) (.slice A m cap) 24
  obtain ⟨e0, e1, e3⟩ := box2 (w.alloc (.cells #[.int .i64 n, .slice A m cap] 24)) (.int .u8 v0) (.int .u8 v1) 77
  have hb1 : Below w.heap.size w (w.alloc (.cells #[.int .i64 n, .slice A m cap] 24)) := (Below.refl _ _).alloc (Nat.le_refl _) _
  have hb2 : Below (w.alloc (.cells #[.int .i64 n, .slice A m cap] 24)).heap.size (w.alloc (.cells #[.int .i64 n, .slice A m cap] 24)) ((w.alloc (.cells #[.int .i64 n, .slice A m cap] 24)).alloc (.cells #[.int .u8 v0, .int .u8 v1] 77)) := (Below.refl _ _).alloc (Nat.le_refl _) _
  have r0 := (hb2.cell (p := ⟨w.heap.size, 0, none⟩) l0).trans c0
  have r1 := (hb2.cell (p := ⟨w.heap.size, 1, none⟩) l0).trans c1
  have r2 := Nat.lt_of_lt_of_le l0 hb2.size
  rw [World.size_alloc] at e0 e1 e3
  have HB := Lib.hid (below_more hb1 hb2)
  clear c0 c1 l0
  by_cases hm40 : 40 < m
  · have VR := Lib.hid fun w' => rvalid_long n A m cap w' hm40
    clear hp hb1 hb2
    go_enter Try.func9, Try.ntmps9
    go_wp2_with (first | (go_at_call 16; with_reducible refine Calls.mono (Gives.calls (VR.out _)) ?_; rintro e w1 ⟨rfl, z, rfl⟩) | (go_at_call 12; with_reducible refine Calls.mono (Gives.calls (FL.out _)) ?_; rintro e w1 ⟨rfl, z2, rfl⟩))
    go_ret
    exact ⟨rfl, later_of (by repeat (first | exact Below.refl _ _ | (with_reducible assumption) | apply below_later | apply below_alloc | apply below_drew | apply below_drewN))⟩
  have hpW := (hp (by omega)).below (below_more hb1 hb2)
  clear hp hb1 hb2
  cases hv : validR n m F T V
  case false =>
    have VR : Hid (∀ w', IsChs w' A m F T V → Gives Try.prog 16 #[.int .i64 n, .slice A m cap] w' (.bool false)) := fun w' h => hv ▸ rvalid_any n A m cap F T V w' (by omega) h
    have HP := Lib.hid hpW
    clear hpW hv
    go_enter Try.func9, Try.ntmps9
    go_wp2_with (first | (go_at_call 16; (first | (with_reducible show Calls _ _ _ (Later.val _) _; with_reducible refine Calls.mono (Later.call _ (VR.out _ (HP.out.below (by repeat (first | exact Below.refl _ _ | (with_reducible assumption) | apply below_later | apply below_alloc | apply below_drew | apply below_drewN))))) ?_) | (with_reducible refine Calls.mono (Gives.calls (VR.out _ (HP.out.below (by repeat (first | exact Below.refl _ _ | (with_reducible assumption) | apply below_later | apply below_alloc | apply below_drew | apply below_drewN))))) ?_)); rintro e w1 ⟨rfl, z, rfl⟩) | (go_at_call 12; with_reducible refine Calls.mono (Gives.calls (FL.out _)) ?_; rintro e w1 ⟨rfl, z2, rfl⟩))
    go_ret
    exact ⟨rfl, later_of (by repeat (first | exact Below.refl _ _ | (with_reducible assumption) | apply below_later | apply below_alloc | apply below_drew | apply below_drewN))⟩
  case true =>
    obtain ⟨N, f, t, rfl, R, hft⟩ := valid_rot hv
    have HP : Hid (IsChs ((w.alloc (.cells #[.int .i64 N, .slice A m cap] 24)).alloc (.cells #[.int .u8 v0, .int .u8 v1] 77)) A m (fun i => (f i : Int)) (fun i => (t i : Int)) V) := hpW.congr hft
    have HR := Lib.hid R
    have hn1 := R.n1
    have hn8 := R.n8
    have VR : Hid (∀ w', IsChs w' A m (fun i => (f i : Int)) (fun i => (t i : Int)) V → Gives Try.prog 16 #[.int .i64 N, .slice A m cap] w' (.bool true)) := fun w' h => rot_valid R ▸ rvalid_any N A m cap _ _ V w' (by omega) h
    obtain ⟨s, hs, es⟩ : ∃ s : Nat, s < N ∧ v0 % (N : Int) = s := ⟨(v0 % (N : Int)).toNat, by have := Int.emod_lt_of_pos v0 (show (0 : Int) < N by omega); have := Int.emod_nonneg v0 (show (N : Int) ≠ 0 by omega); omega, by have := Int.emod_nonneg v0 (show (N : Int) ≠ 0 by omega); omega⟩
    obtain ⟨y, hy, ey⟩ : ∃ y : Nat, y < 101 ∧ v1 % 101 = y := ⟨(v1 % 101).toNat, by omega, by omega⟩
    have EN := Lib.hid fun (w' : World) (h : IsChs w' A m (fun i => (f i : Int)) (fun i => (t i : Int)) V) => Ends_ok N m cap A f t V w' R h
    have AF := Lib.hid fun (w' : World) (h : IsChs w' A m (fun i => (f i : Int)) (fun i => (t i : Int)) V) => After_ok N m cap s y A f t V w' hs (by omega) R h
    obtain ⟨ls1, ls2⟩ := lasts R hs (show y ≤ 100 by omega)
    have LS1 := Lib.hid ls1
    have LS2 := Lib.hid ls2
    have CI := Lib.hid (circle_iff R)
    have CB := Lib.hid (bestC_ok R N (Nat.le_refl _)).1
    have CN := Lib.hid fun (h0 : (bestC N m f t V N).length = 0) (w' : World) (h : IsChs w' A m (fun i => (f i : Int)) (fun i => (t i : Int)) V) => Circle_none N m cap A f t V w' R h h0
    have CS := Lib.hid fun (h0 : (bestC N m f t V N).length ≠ 0) (w' : World) (h : IsChs w' A m (fun i => (f i : Int)) (fun i => (t i : Int)) V) => Circle_some N m cap A f t V w' R h h0
    have HEL := Lib.hid (List.length_filter_le (endS N m f t V) (List.range N))
    have HSE : Hid (endS N m f t V s = decide (s ∈ (List.range N).filter (endS N m f t V))) := by
      show _ = _
      rw [Bool.eq_iff_iff, decide_eq_true_iff, List.mem_filter, List.mem_range]
      simp [hs]
    clear hpW hv hft R ls1 ls2
    generalize hel : (List.range N).filter (endS N m f t V) = ends at *
    generalize endS N m f t V s = bs at *
    generalize (List.range N).filter (endsB m f t s y) = l2 at *
    go_enter Try.func9, Try.ntmps9
    go_upto_region 3 with (first | (go_at_call 16; with_reducible refine Calls.mono (Gives.calls (VR.out _ HP.out)) ?_; rintro e w1 ⟨rfl, z, rfl⟩))
    have d0 := (z.cell _ 0 r2).trans r0
    have d1 := (z.cell _ 1 r2).trans r1
    have d2 := z.lt _ r2
    have d3 := (z.cell _ 0 e3).trans e0
    have d4 := (z.cell _ 1 e3).trans e1
    have d6 := z.lt _ e3
    have HPZ := Lib.hid (HP.out.later z)
    have HBZ : Hid (Below w.heap.size w z.val) := below_later HB.out
    clear r0 r1 r2 e0 e1 e3 HP HB VR
    obtain ⟨b8, hb8⟩ : ∃ b8, w.heap.size = b8 := ⟨_, rfl⟩
    rw [hb8] at d0 d1 d2 d3 d4 d6 ⊢
    clear hb8
    generalize z.val = Z at *
    obtain ⟨K, hK⟩ : ∃ K, (bestC N m f t V N).length = K := ⟨_, rfl⟩
    obtain ⟨L1, hL1⟩ : ∃ L, ends.length = L := ⟨_, rfl⟩
    have HL1 := Lib.hid hL1
    obtain ⟨e, CC, HE⟩ : ∃ e : Int, Hid (∀ w', IsChs w' A m (fun i => (f i : Int)) (fun i => (t i : Int)) V → Calls Try.prog 41 #[.int .i64 N, .slice A m cap] w' fun e' w'' => ∃ B cc, e' = .returned (.tuple #[.slice B K cc, .int .i64 e]) ∧ ∃ X : Later w', w'' = X.val ∧ (K ≠ 0 → IsInts w'' B K fun i => (((bestC N m f t V N).getD i 0 : Nat) : Int))) ∧
        Hid ((K = 0 ∧ e = 5 ∧ L1 = N) ∨ (K ≠ 0 ∧ e = 0 ∧ L1 < N)) := by
      have hle := HEL.out
      rw [List.length_range, hL1] at hle
      have hci := CI.out
      rw [hK, hL1] at hci
      by_cases h : K = 0
      · refine ⟨5, fun w' h2 => ?_, .inl ⟨h, rfl, by omega⟩⟩
        refine (CN.out (hK.trans h) w' h2).calls.mono ?_
        rintro e w1 ⟨rfl, z, rfl⟩
        exact ⟨none, 0, by rw [h], z, rfl, fun h3 => absurd h h3⟩
      · refine ⟨0, fun w' h2 => ?_, .inr ⟨h, rfl, hci.1 h⟩⟩
        refine (CS.out (by rw [hK]; exact h) w' h2).mono ?_
        rintro e w1 ⟨B, c, rfl, z, rfl, ho⟩
        rw [hK] at ho ⊢
        exact ⟨B, c, rfl, z, rfl, fun _ => ho⟩
    have CB2 : Hid (K ≠ 0 → circB m f t (fun x => (((bestC N m f t V N).getD x 0 : Nat) : Int)) K = true) := fun h => by
      have := CB.out (by rw [hK]; exact h)
      rw [hK] at this
      exact this
    clear CN CS CI CB HEL hK hL1
    generalize bestC N m f t V N = bc at *
    go_upto_region 5 with (first
      | (go_at_call 27; refine Calls.mono (EN.out _ HPZ.out) ?_; rintro e w1 ⟨v3, rfl, z1, rfl, ho1⟩; have HO1 := Lib.hid ho1; clear ho1; have t0 := (z1.cell _ 0 d2).trans d0; have t1 := (z1.cell _ 1 d2).trans d1; have t2 := z1.lt _ d2)
      | (go_at_call 41; refine Calls.mono (CC.out _ (HPZ.out.below (by repeat (first | exact Below.refl _ _ | (with_reducible assumption) | apply below_later | apply below_alloc | apply below_drew | apply below_drewN)))) ?_; rintro e w1 ⟨B, cc, rfl, z2, rfl, hi2⟩; have HI2 := Lib.hid hi2; clear hi2))
    have HBz : Hid (Below Z.heap.size Z z2.val) := by show Below _ _ _; repeat (first | exact Below.refl _ _ | (with_reducible assumption) | apply below_later | apply below_alloc | apply below_drew | apply below_drewN)
    obtain ⟨A1, c1, rfl⟩ := HO1.out.shape_n (n := L1) (by rw [natZ_length]; exact HL1.out)
    have HM : Hid (IsInts z2.val A1 L1 fun i => ((ends.getD i 0 : Nat) : Int)) := by
      have h := (own_nat (HO1.out.later z2) (by rw [HL1.out]; rcases HE.out with ⟨_, _, h⟩ | ⟨_, _, h⟩ <;> omega)).2
      exact h
    have i0 := (HBz.out.cell (p := ⟨b8, 0, none⟩) d2).trans d0
    have i1 := (HBz.out.cell (p := ⟨b8, 1, none⟩) d2).trans d1
    have i2 := Nat.lt_of_lt_of_le d2 HBz.out.size
    have i3 := (HBz.out.cell (p := ⟨b8 + 1, 0, none⟩) d6).trans d3
    have i4 := (HBz.out.cell (p := ⟨b8 + 1, 1, none⟩) d6).trans d4
    have i6 := Nat.lt_of_lt_of_le d6 HBz.out.size
    have HPW := Lib.hid (HPZ.out.below HBz.out)
    have HBW : Hid (Below w.heap.size w z2.val) := below_more HBZ.out HBz.out
    have HL1N : Hid (L1 ≤ 8) := by
      show _ ≤ _
      rcases HE.out with ⟨_, _, h⟩ | ⟨_, _, h⟩ <;> omega
    clear t0 t1 t2 d0 d1 d2 d3 d4 d6 HPZ HBZ HBz HO1 EN CC
    generalize z2.val = W at *
    have hl18 := HL1N.out
    go_cut [60] (fun s60 wx => s60 = .bool false ∧ wx = W)
    case first =>
      as_aux_lemma =>
        rcases HE.out with ⟨-, rfl, rfl⟩ | ⟨-, rfl, hlt⟩
        · go_wp2_with fail
          go_meet
          exact ⟨rfl, rfl⟩
        · have q0 : decide ((L1 : Int) < (N : Int)) = true := decide_eq_true (by omega)
          go_wp2_with fail
          go_meet
          exact ⟨rfl, rfl⟩
    case rest =>
      obtain ⟨rfl, ew⟩ := hcut
      have ew' := ew.symm
      subst ew'
      clear ew
      go_wp2_with fail
      first | (with_reducible show Code.wp _ _ _ _ (Later.val _); refine wp_region_later_at _ (by kernel_rfl) (by kernel_rfl) ?_) | refine wp_region_later (by kernel_rfl) (by kernel_rfl) ?_
      repeat (go_big_quiet_step ((fail)))
      refine wpQuiet_nil ?_
      intro y1
      go_wp2_with fail
      simp only [es, ey]
      have g0 := (y1.cell _ 0 i2).trans i0
      have g1 := (y1.cell _ 1 i2).trans i1
      have g2 := y1.lt _ i2
      have HPY := Lib.hid (HPW.out.later y1)
      have HBY : Hid (Below w.heap.size w y1.val) := below_more HBW.out y1.ok
      have HMY := Lib.hid (HM.out.later y1)
      have HIY : Hid (K ≠ 0 → IsInts y1.val B K fun i => ((bc.getD i 0 : Nat) : Int)) := fun h => (HI2.out h).later y1
      clear i0 i1 i2 i3 i4 i6 es ey HPW HBW HM HI2
      generalize y1.val = Y at *
      go_upto_region 9 with (go_at_call 22; refine Calls.mono (AF.out _ HPY.out) ?_; rintro e w1 ⟨v4, rfl, z3, rfl, ho4⟩; have HO4 := Lib.hid ho4; clear ho4)
      obtain ⟨L2, hL2⟩ : ∃ L, l2.length = L := ⟨_, rfl⟩
      obtain ⟨A4, c4, rfl⟩ := HO4.out.shape_n (n := L2) (by rw [natZ_length]; exact hL2)
      rw [hL2] at LS1 LS2
      have k0 := (z3.cell _ 0 g2).trans g0
      have k1 := (z3.cell _ 1 g2).trans g1
      have k2 := z3.lt _ g2
      have HPX := Lib.hid (HPY.out.later z3)
      have HBX : Hid (Below w.heap.size w z3.val) := below_more HBY.out z3.ok
      have HMX := Lib.hid (HMY.out.later z3)
      have HIX : Hid (K ≠ 0 → IsInts z3.val B K fun i => ((bc.getD i 0 : Nat) : Int)) := fun h => (HIY.out h).later z3
      clear g0 g1 g2 HPY HBY HMY HIY AF hL2 HO4
      generalize z3.val = X at *
      go_wp2_with fail
      go_loopw [12, 13] (fun u v wr => ∃ j : Nat, v = .int .i64 (j : Nat) ∧ j ≤ L1 ∧ u = .bool (decide (s ∈ ends.take j)) ∧ ∃ x : Later X, wr = x.val) (fun _ v _ => L1 - (intOf v).toNat)
      case atStart => exact ⟨0, rfl, by omega, by simp, later_of (by repeat (first | exact Below.refl _ _ | (with_reducible assumption) | apply below_later | apply below_alloc | apply below_drew | apply below_drewN))⟩
      case round =>
        obtain ⟨j, rfl, hj, rfl, x, rfl⟩ := hrel
        by_cases hlt : j < L1
        · as_aux_lemma =>
            obtain ⟨q, hq⟩ : ∃ q, ends[j]? = some q := ⟨_, List.getElem?_eq_getElem (by rw [HL1.out]; exact hlt)⟩
            have HT : Hid (decide (s ∈ ends.take (j + 1)) = (decide (s ∈ ends.take j) || decide (s = q))) := by
              show _ = _
              rw [List.take_add_one, hq, Bool.eq_iff_iff]
              simp
            obtain ⟨bm, om, hA1, pm⟩ := (HMX.out.later x).at_ (by omega)
            rw [hA1]
            have cm := pm.at_ j hlt
            rw [show ends.getD j 0 = q by rw [List.getD_eq_getElem?_getD, hq]; rfl] at cm
            have lm := pm.lt
            clear pm hA1 hq
            generalize decide (s ∈ ends.take j) = b at *
            cases b
            · by_cases e : q = s
              · subst e
                go_wp2_with fail
                go_roundw
                case rel => exact ⟨j + 1, by go_num, by omega, by rw [HT.out]; simp, later_of (by repeat (first | exact Below.refl _ _ | (with_reducible assumption) | apply below_later | apply below_alloc | apply below_drew | apply below_drewN))⟩
                case measure => simp [intOf]; omega
              · have q1 : ((q : Int) == (s : Int)) = false := by rw [beq_eq_false_iff_ne]; omega
                go_wp2_with fail
                go_roundw
                case rel => exact ⟨j + 1, by go_num, by omega, by rw [HT.out, decide_eq_false (show ¬ s = q from fun h => e h.symm)]; rfl, later_of (by repeat (first | exact Below.refl _ _ | (with_reducible assumption) | apply below_later | apply below_alloc | apply below_drew | apply below_drewN))⟩
                case measure => simp [intOf]; omega
            · go_wp2_with fail
              go_roundw
              case rel => exact ⟨j + 1, by go_num, by omega, by rw [HT.out]; rfl, later_of (by repeat (first | exact Below.refl _ _ | (with_reducible assumption) | apply below_later | apply below_alloc | apply below_drew | apply below_drewN))⟩
              case measure => simp [intOf]; omega
        · obtain rfl : j = L1 := by omega
          rw [show ends.take j = ends by rw [← HL1.out, List.take_length], ← HSE.out]
          have m0 := (x.cell _ 0 k2).trans k0
          have m1 := (x.cell _ 1 k2).trans k1
          have m2 := x.lt _ k2
          have HPQ := Lib.hid (HPX.out.later x)
          have HBQ : Hid (Below w.heap.size w x.val) := below_more HBX.out x.ok
          have HIQ : Hid (K ≠ 0 → IsInts x.val B K fun i => ((bc.getD i 0 : Nat) : Int)) := fun h => (HIX.out h).later x
          clear k0 k1 k2 HPX HBX HIX HMX HSE HL1 HL1N
          generalize x.val = Q at *
          go_upto_region 14 with fail
          go_cut [120] (fun s120 wx => s120 = .bool false ∧ wx = Q)
          case first =>
            as_aux_lemma =>
              cases bs
              · have q0 : ((L2 : Int) == 0) = false := by
                  have := LS1.out rfl
                  rw [beq_eq_false_iff_ne]
                  omega
                go_wp2_with fail
                go_meet
                exact ⟨rfl, rfl⟩
              · by_cases hny : N ≤ y
                · have q0 : L2 = 0 := LS2.out rfl hny
                  subst q0
                  have q1 : decide ((N : Int) ≤ (y : Int)) = true := decide_eq_true (by omega)
                  go_wp2_with fail
                  go_meet
                  exact ⟨rfl, rfl⟩
                · have q1 : decide ((N : Int) ≤ (y : Int)) = false := decide_eq_false (by omega)
                  go_wp2_with fail
                  go_meet
                  exact ⟨rfl, rfl⟩
          case rest =>
            obtain ⟨rfl, ew⟩ := hcut
            have ew' := ew.symm
            subst ew'
            clear ew
            rcases HE.out with ⟨hK0, rfl, -⟩ | ⟨hK0, rfl, -⟩
            · subst hK0
              go_wp2_with (first | (go_at_call 12; (first | (with_reducible show Calls _ _ _ (Later.val _) _; with_reducible refine Calls.mono (Later.call _ (FL.out _)) ?_) | (with_reducible refine Calls.mono (Gives.calls (FL.out _)) ?_)); rintro e w1 ⟨rfl, z9, rfl⟩))
              go_ret
              exact ⟨rfl, ⟨_, below_more HBQ.out (by repeat (first | exact Below.refl _ _ | (with_reducible assumption) | apply below_later | apply below_alloc | apply below_drew | apply below_drewN))⟩, rfl⟩
            · have HC := Lib.hid (HIQ.out hK0)
              have hcb := CB2.out hK0
              obtain ⟨hk0, hcn, _, hdf⟩ := circ_facts hcb
              have hbm : ∀ i, i < K → bc.getD i 0 < m := fun i hi => by have := (hcn i hi).2; rwa [Int.toNat_natCast] at this
              have HK8 : Hid (K ≤ 1000) := by
                show _ ≤ _
                have h1 := nodup_small N ((List.range K).map fun i => f (bc.getD i 0)) (by
                  rw [List.Nodup, List.pairwise_map]
                  refine List.Pairwise.imp_of_mem (R := fun a b : Nat => a < b) (fun {a b} _ hb' hab => ?_) List.pairwise_lt_range
                  unfold diffB at hdf
                  rw [allB_iff] at hdf
                  have h2 := hdf b (List.mem_range.1 hb')
                  rw [allB_iff] at h2
                  have h3 := h2 a hab
                  simpa using h3) (fun x hx => by
                    obtain ⟨a, ha, rfl⟩ := List.mem_map.1 hx
                    exact HR.out.f _ (hbm a (List.mem_range.1 ha)))
                simp at h1
                omega
              have HSA : Hid (sumS f (fun i => bc.getD i 0) K N = K) := sumS_all f _ N K fun i hi => HR.out.f _ (hbm i hi)
              have HC1 : Hid (∀ r, cntF f (fun i => bc.getD i 0) r K = 0 ∨ cntF f (fun i => bc.getD i 0) r K = 1) := fun r => by
                simp only [Int.toNat_natCast] at hdf
                have := (cntF_one f (fun i => bc.getD i 0) r K hdf).1
                omega
              have SH : Hid (∀ r, r < N → ∀ w', IsChs w' A m (fun i => (f i : Int)) (fun i => (t i : Int)) V → IsInts w' B K (fun i => ((bc.getD i 0 : Nat) : Int)) → Gives Try.prog 35 #[.int .i64 N, .slice A m cap, .slice B K cc, .int .i64 r] w' (.tuple #[.agg #[.int .i64 (lowN (cntF f (fun i => bc.getD i 0) r K) K), .int .i64 (lowD (cntF f (fun i => bc.getD i 0) r K) K)], .int .i64 0])) := fun r hr w' h1 h2 => by
                have := Share_ok N m cap K cc r A B f t V _ w' (by have := HK8.out; omega) hr HR.out h1 h2 hcb
                simp only [Int.toNat_natCast] at this
                exact this
              have hkk := HK8.out
              clear hcb hdf hcn hbm HIQ CB2 HR LS1 LS2 HE
              generalize hp9 : (fun i => bc.getD i 0) = pp at *
              go_wp2_with fail
              go_loopw [14, 15] (fun u v wr => ∃ r : Nat, v = .int .i64 (r : Nat) ∧ r ≤ N ∧ u = .int .i64 (sumS f pp K r : Nat) ∧ sumS f pp K r ≤ r ∧ ∃ x : Later Q, wr = x.val) (fun _ v _ => N - (intOf v).toNat)
              case atStart => exact ⟨0, rfl, by omega, rfl, by simp [sumS], later_of (by repeat (first | exact Below.refl _ _ | (with_reducible assumption) | apply below_later | apply below_alloc | apply below_drew | apply below_drewN))⟩
              case round =>
                obtain ⟨r, rfl, hr, rfl, hsr, x, rfl⟩ := hrel
                by_cases hlt : r < N
                · as_aux_lemma =>
                    have t0 := (x.cell _ 0 m2).trans m0
                    have t1 := (x.cell _ 1 m2).trans m1
                    have t2 := x.lt _ m2
                    have SH1 := Lib.hid (SH.out r hlt)
                    have HS1 : Hid (sumS f pp K (r + 1) = sumS f pp K r + cntF f pp r K) := rfl
                    rcases HC1.out r with hc | hc
                    · rw [hc, (low_zero K hk0).1, (low_zero K hk0).2] at SH1
                      rw [hc] at HS1
                      have SH2 : Hid (∀ w', IsChs w' A m (fun i => (f i : Int)) (fun i => (t i : Int)) V → IsInts w' B K (fun i => ((bc.getD i 0 : Nat) : Int)) → Gives Try.prog 35 #[.int .i64 N, .slice A m cap, .slice B K cc, .int .i64 r] w' (.tuple #[.agg #[.int .i64 0, .int .i64 1], .int .i64 0])) := SH1.out
                      clear SH SH1 HC1 hc HSA
                      generalize sumS f pp K r = S at *
                      have u1 : IntKind.i64.wrap (S : Int) = (S : Int) := IntWalk.i64_in _ ⟨by omega, by omega⟩
                      go_wp2_with (first | (go_at_call 35; (first | (with_reducible show Calls _ _ _ (Later.val _) _; with_reducible refine Calls.mono (Later.call _ (SH2.out _ (HPQ.out.below (by repeat (first | exact Below.refl _ _ | (with_reducible assumption) | apply below_later | apply below_alloc | apply below_drew | apply below_drewN))) (HC.out.later ⟨_, by repeat (first | exact Below.refl _ _ | (with_reducible assumption) | apply below_later | apply below_alloc | apply below_drew | apply below_drewN)⟩))) ?_) | (with_reducible refine Calls.mono (Gives.calls (SH2.out _ (HPQ.out.below (by repeat (first | exact Below.refl _ _ | (with_reducible assumption) | apply below_later | apply below_alloc | apply below_drew | apply below_drewN))) (HC.out.later ⟨_, by repeat (first | exact Below.refl _ _ | (with_reducible assumption) | apply below_later | apply below_alloc | apply below_drew | apply below_drewN)⟩))) ?_)); rintro e w1 ⟨rfl, z5, rfl⟩))
                      go_roundw
                      case rel => exact ⟨r + 1, by go_num, by omega, by rw [HS1.out]; go_num, by rw [HS1.out]; omega, later_of (by repeat (first | exact Below.refl _ _ | (with_reducible assumption) | apply below_later | apply below_alloc | apply below_drew | apply below_drewN))⟩
                      case measure => simp [intOf]; omega
                    · rw [hc, (low_one K).1, (low_one K).2] at SH1
                      rw [hc] at HS1
                      have SH2 : Hid (∀ w', IsChs w' A m (fun i => (f i : Int)) (fun i => (t i : Int)) V → IsInts w' B K (fun i => ((bc.getD i 0 : Nat) : Int)) → Gives Try.prog 35 #[.int .i64 N, .slice A m cap, .slice B K cc, .int .i64 r] w' (.tuple #[.agg #[.int .i64 1, .int .i64 K], .int .i64 0])) := SH1.out
                      clear SH SH1 HC1 hc HSA
                      generalize sumS f pp K r = S at *
                      have u1 : IntKind.i64.wrap ((S : Int) + 1) = ((S + 1 : Nat) : Int) := by rw [IntWalk.i64_in _ ⟨by omega, by omega⟩]; omega
                      go_wp2_with (first | (go_at_call 35; (first | (with_reducible show Calls _ _ _ (Later.val _) _; with_reducible refine Calls.mono (Later.call _ (SH2.out _ (HPQ.out.below (by repeat (first | exact Below.refl _ _ | (with_reducible assumption) | apply below_later | apply below_alloc | apply below_drew | apply below_drewN))) (HC.out.later ⟨_, by repeat (first | exact Below.refl _ _ | (with_reducible assumption) | apply below_later | apply below_alloc | apply below_drew | apply below_drewN)⟩))) ?_) | (with_reducible refine Calls.mono (Gives.calls (SH2.out _ (HPQ.out.below (by repeat (first | exact Below.refl _ _ | (with_reducible assumption) | apply below_later | apply below_alloc | apply below_drew | apply below_drewN))) (HC.out.later ⟨_, by repeat (first | exact Below.refl _ _ | (with_reducible assumption) | apply below_later | apply below_alloc | apply below_drew | apply below_drewN)⟩))) ?_)); rintro e w1 ⟨rfl, z5, rfl⟩))
                      go_roundw
                      case rel => exact ⟨r + 1, by go_num, by omega, by rw [HS1.out]; go_num, by rw [HS1.out]; omega, later_of (by repeat (first | exact Below.refl _ _ | (with_reducible assumption) | apply below_later | apply below_alloc | apply below_drew | apply below_drewN))⟩
                      case measure => simp [intOf]; omega
                · obtain rfl : r = N := by omega
                  rw [HSA.out]
                  have t0 := (x.cell _ 0 m2).trans m0
                  have t2 := x.lt _ m2
                  have q9 : ((K : Int) == (K : Int)) = true := by simp
                  go_wp2_with (first | (go_at_call 12; (first | (with_reducible show Calls _ _ _ (Later.val _) _; with_reducible refine Calls.mono (Later.call _ (FL.out _)) ?_) | (with_reducible refine Calls.mono (Gives.calls (FL.out _)) ?_)); rintro e w1 ⟨rfl, z9, rfl⟩))
                  go_ret
                  exact ⟨rfl, ⟨_, below_more HBQ.out (by repeat (first | exact Below.refl _ _ | (with_reducible assumption) | apply below_later | apply below_alloc | apply below_drew | apply below_drewN))⟩, rfl⟩
end Go.Proofs.Ytbmfmdlpaidmjaa
