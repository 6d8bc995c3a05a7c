/- WaleGrows, walked. -/
import Derived.Test.YtnjloomhhgilcaaWGrowsMath
import Derived.Test.YtnjloomhhgilcaaWSame
import Derived.Test.YtnjloomhhgilcaaWProves2
import Derived.Deep.DeepCutAuto
namespace Go.Proofs.Ytnjloomhhgilcaa
open Go.RowKit

theorem natZ_getD (l : List Nat) (i : Nat) : (natZ l).getD i 0 = ((l.getD i 0 : Nat) : Int) := by
  simp only [natZ, List.getD_eq_getElem?_getD, List.getElem?_map]
  cases l[i]? <;> rfl
theorem own_ints_nat {w : World} {base n cap : Nat} {A : Option Addr} {l : List Nat} (h : OwnI w base (.slice A n cap) (natZ l)) (hl : l.length ≤ 1000000) : n = l.length ∧ IsInts w A n fun i => ((l.getD i 0 : Nat) : Int) := by
  obtain ⟨e, hi⟩ := h.ints (by rw [natZ_length]; omega)
  rw [natZ_length] at e
  exact ⟨e, hi.congr fun i _ => natZ_getD l i⟩
set_option maxRecDepth 100000 in
set_option maxHeartbeats 0 in
theorem grows_law (n : Int) (m cap k capB : Nat) (v0 v1 v2 : Int) (A B : Option Addr) (F T V : Nat → Int) (c : Nat → Int) (w : World) (hp : m ≤ 60 → IsChs w A m F T V) (hc : k ≤ 9223372036854775807 → IsInts w B k c)
    (a0 : 0 ≤ v0) (a0' : v0 ≤ 255) (a1 : 0 ≤ v1) (a1' : v1 ≤ 255) (a2 : 0 ≤ v2) (a2' : v2 ≤ 255) :
    Gives Try.prog 5 #[.agg #[.int .i64 n, .slice A m cap], .agg #[.int .u8 v0, .int .u8 v1, .int .u8 v2], .slice B k capB] w (.bool true) := by
  have FL : Hid (∀ w, Gives Try.prog 8 #[] w (.bool true)) := first_law
  obtain ⟨c0, c1, l0⟩ := box2 w (.int .i64 n) (.slice A m cap) 24
  obtain ⟨e0, e1, e2, e3⟩ := box3 (w.alloc (.cells #[.int .i64 n, .slice A m cap] 24)) (.int .u8 v0) (.int .u8 v1) (.int .u8 v2) 56
  have hb1 : Below w.heap.size w (w.alloc (.cells #[.int .i64 n, .slice A m cap] 24)) := (Below.refl _ _).alloc (Nat.le_refl _) _
  have hb2 : Below (w.alloc (.cells #[.int .i64 n, .slice A m cap] 24)).heap.size (w.alloc (.cells #[.int .i64 n, .slice A m cap] 24)) ((w.alloc (.cells #[.int .i64 n, .slice A m cap] 24)).alloc (.cells #[.int .u8 v0, .int .u8 v1, .int .u8 v2] 56)) := (Below.refl _ _).alloc (Nat.le_refl _) _
  have r0 := (hb2.cell (p := ⟨w.heap.size, 0, none⟩) l0).trans c0
  have r1 := (hb2.cell (p := ⟨w.heap.size, 1, none⟩) l0).trans c1
  have r2 := Nat.lt_of_lt_of_le l0 hb2.size
  rw [World.size_alloc] at e0 e1 e2 e3
  have HB := Lib.hid (below_more hb1 hb2)
  clear c0 c1 l0
  by_cases hk60 : 60 < k
  · clear hp hc hb1 hb2 r0 r1 r2 e0 e1 e2 e3
    go_enter Try.func5, Try.ntmps5
    go_wp2_with (first | (go_at_call 8; with_reducible refine Calls.mono (Gives.calls (FL.out _)) ?_; rintro e w1 ⟨rfl, z2, rfl⟩))
    go_ret
    exact ⟨rfl, later_of (by repeat (first | exact Below.refl _ _ | (with_reducible assumption) | apply below_later | apply below_alloc | apply below_drew | apply below_drewN))⟩
  by_cases hm40 : 40 < m
  · have VR := Lib.hid fun w' => rvalid_long n A m cap w' hm40
    clear hp hc hb1 hb2
    go_enter Try.func5, Try.ntmps5
    go_wp2_with (first | (go_at_call 12; with_reducible refine Calls.mono (Gives.calls (VR.out _)) ?_; rintro e w1 ⟨rfl, z, rfl⟩) | (go_at_call 8; with_reducible refine Calls.mono (Gives.calls (FL.out _)) ?_; rintro e w1 ⟨rfl, z2, rfl⟩))
    go_ret
    exact ⟨rfl, later_of (by repeat (first | exact Below.refl _ _ | (with_reducible assumption) | apply below_later | apply below_alloc | apply below_drew | apply below_drewN))⟩
  have hpW := (hp (by omega)).below (below_more hb1 hb2)
  have hcW := (hc (by omega)).below (below_more hb1 hb2)
  clear hp hc hb1 hb2
  cases hv : validR n m F T V
  case false =>
    have VR : Hid (∀ w', IsChs w' A m F T V → Gives Try.prog 12 #[.int .i64 n, .slice A m cap] w' (.bool false)) := fun w' h => hv ▸ rvalid_any n A m cap F T V w' (by omega) h
    have HP := Lib.hid hpW
    clear hpW hcW hv
    go_enter Try.func5, Try.ntmps5
    go_wp2_with (first | (go_at_call 12; (first | (with_reducible show Calls _ _ _ (Later.val _) _; with_reducible refine Calls.mono (Later.call _ (VR.out _ (HP.out.below (by repeat (first | exact Below.refl _ _ | (with_reducible assumption) | apply below_later | apply below_alloc | apply below_drew | apply below_drewN))))) ?_) | (with_reducible refine Calls.mono (Gives.calls (VR.out _ (HP.out.below (by repeat (first | exact Below.refl _ _ | (with_reducible assumption) | apply below_later | apply below_alloc | apply below_drew | apply below_drewN))))) ?_)); rintro e w1 ⟨rfl, z, rfl⟩) | (go_at_call 8; with_reducible refine Calls.mono (Gives.calls (FL.out _)) ?_; rintro e w1 ⟨rfl, z2, rfl⟩))
    go_ret
    exact ⟨rfl, later_of (by repeat (first | exact Below.refl _ _ | (with_reducible assumption) | apply below_later | apply below_alloc | apply below_drew | apply below_drewN))⟩
  case true =>
    obtain ⟨N, f, t, rfl, R, hft⟩ := valid_rot hv
    have HP : Hid (IsChs ((w.alloc (.cells #[.int .i64 N, .slice A m cap] 24)).alloc (.cells #[.int .u8 v0, .int .u8 v1, .int .u8 v2] 56)) A m (fun i => (f i : Int)) (fun i => (t i : Int)) V) := hpW.congr hft
    have HC := Lib.hid hcW
    have HR := Lib.hid R
    have hn1 := R.n1
    have hn8 := R.n8
    have VR : Hid (∀ w', IsChs w' A m (fun i => (f i : Int)) (fun i => (t i : Int)) V → Gives Try.prog 12 #[.int .i64 N, .slice A m cap] w' (.bool true)) := fun w' h => rot_valid R ▸ rvalid_any N A m cap _ _ V w' (by omega) h
    have BE := Lib.hid fun (s y : Nat) (hs : s < N) (hy : y ≤ 100) (w' : World) (h : IsChs w' A m (fun i => (f i : Int)) (fun i => (t i : Int)) V) => Best_ok N m cap s y A f t V w' hs hy R h
    have AF := Lib.hid fun (s y : Nat) (hs : s < N) (hy : y ≤ 100) (w' : World) (h : IsChs w' A m (fun i => (f i : Int)) (fun i => (t i : Int)) V) => After_ok N m cap s y A f t V w' hs hy R h
    obtain ⟨s, hs, es⟩ : ∃ s : Nat, s < N ∧ v0 % (N : Int) = s := ⟨(v0 % (N : Int)).toNat, by have := Int.emod_lt_of_pos v0 (show (0 : Int) < N by omega); have := Int.emod_nonneg v0 (show (N : Int) ≠ 0 by omega); omega, by have := Int.emod_nonneg v0 (show (N : Int) ≠ 0 by omega); omega⟩
    obtain ⟨x, hx, ex⟩ : ∃ x : Nat, x < 40 ∧ v1 % 40 = x := ⟨(v1 % 40).toNat, by omega, by omega⟩
    obtain ⟨y, hy, ey⟩ : ∃ y : Nat, y < 40 ∧ v2 % 40 = y := ⟨(v2 % 40).toNat, by omega, by omega⟩
    clear hpW hcW hv hft R
    go_enter Try.func5, Try.ntmps5
    go_wp2_with (first | (go_at_call 12; with_reducible refine Calls.mono (Gives.calls (VR.out _ HP.out)) ?_; rintro e w1 ⟨rfl, z, rfl⟩))
    have d0 := (z.cell _ 0 r2).trans r0
    have d1 := (z.cell _ 1 r2).trans r1
    have d2 := z.lt _ r2
    have d3 := (z.cell _ 0 e3).trans e0
    have d4 := (z.cell _ 1 e3).trans e1
    have d5 := (z.cell _ 2 e3).trans e2
    have d6 := z.lt _ e3
    have HPZ := Lib.hid (HP.out.later z)
    have HCZ := Lib.hid (HC.out.later z)
    have HBZ : Hid (Below w.heap.size w z.val) := below_later HB.out
    clear r0 r1 r2 e0 e1 e2 e3 HP HC HB VR
    obtain ⟨b8, hb8⟩ : ∃ b8, w.heap.size = b8 := ⟨_, rfl⟩
    rw [hb8] at d0 d1 d2 d3 d4 d5 d6 ⊢
    clear hb8
    generalize z.val = Z at *
    first | (with_reducible show Code.wp _ _ _ _ (Later.val _); refine wp_region_later_at _ (by kernel_rfl) (by kernel_rfl) ?_) | refine wp_region_later (by kernel_rfl) (by kernel_rfl) ?_
    repeat (go_big_quiet_step ((fail)))
    refine wpQuiet_nil ?_
    intro y1
    go_wp2_with fail
    simp only [es, ex, ey]
    clear d3 d4 d5 d6 es ex ey
    have HBY : Hid (Below w.heap.size w y1.val) := by show Below _ _ _; exact below_more HBZ.out y1.ok
    have HPY := Lib.hid (HPZ.out.later y1)
    have HCY := Lib.hid (HCZ.out.later y1)
    have g0 := (y1.cell _ 0 d2).trans d0
    have g1 := (y1.cell _ 1 d2).trans d1
    have g2 := y1.lt _ d2
    clear HPZ HCZ HBZ d0 d1 d2
    generalize y1.val = Y at *
    have hW0b := wrow_small HR.out x (by omega) s hs
    have PF := Lib.hid fun h => plan_fol HR.out x s hs h
    have PN := Lib.hid fun (h : (wrow N m f t V x).getD s 0 = nope) (w' : World) (h2 : IsChs w' A m (fun i => (f i : Int)) (fun i => (t i : Int)) V) => Plan_none N m cap s x A f t V w' hs (by omega) HR.out h2 h
    have PS := Lib.hid fun (h : (wrow N m f t V x).getD s 0 ≠ nope) (w' : World) (h2 : IsChs w' A m (fun i => (f i : Int)) (fun i => (t i : Int)) V) => Plan_some N m cap s x A f t V w' hs (by omega) HR.out h2 h
    have BE1 := Lib.hid (BE.out s x hs (by omega))
    obtain ⟨W0, hW0⟩ : ∃ W0, (wrow N m f t V x).getD s 0 = W0 := ⟨_, rfl⟩
    obtain ⟨a, e, B1, P1, HE⟩ : ∃ a e : Int, Hid (∀ w', IsChs w' A m (fun i => (f i : Int)) (fun i => (t i : Int)) V → Gives Try.prog 9 #[.int .i64 N, .slice A m cap, .int .i64 s, .int .i64 x] w' (.tuple #[.int .i64 a, .int .i64 e])) ∧
        Hid (∀ w', IsChs w' A m (fun i => (f i : Int)) (fun i => (t i : Int)) V → Calls Try.prog 10 #[.int .i64 N, .slice A m cap, .int .i64 s, .int .i64 x] w' fun e' w'' => ∃ v, e' = .returned (.tuple #[v, .int .i64 e]) ∧ ∃ X : Later w', w'' = X.val ∧ (W0 ≠ nope → OwnI w'' w'.heap.size v (natZ (planL N m f t V x s)))) ∧
        Hid ((W0 = nope ∧ e = 5) ∨ (W0 ≠ nope ∧ e = 0 ∧ a = W0)) := by
      by_cases h : W0 = nope
      · refine ⟨0, 5, fun w' h2 => ?_, fun w' h2 => ?_, .inl ⟨h, rfl⟩⟩
        · have := BE1.out w' h2
          rw [if_pos (hW0.trans h)] at this
          exact this
        · refine (PN.out (hW0.trans h) w' h2).calls.mono ?_
          rintro e w1 ⟨rfl, z, rfl⟩
          exact ⟨_, rfl, z, rfl, fun h3 => absurd h h3⟩
      · refine ⟨W0, 0, fun w' h2 => ?_, fun w' h2 => ?_, .inr ⟨h, rfl, rfl⟩⟩
        · have := BE1.out w' h2
          rw [hW0, if_neg h] at this
          exact this
        · refine (PS.out (by rw [hW0]; exact h) w' h2).mono ?_
          rintro e w1 ⟨v, rfl, z, rfl, ho⟩
          exact ⟨v, rfl, z, rfl, fun _ => ho⟩
    clear BE1 PN PS
    go_upto_region 6 with (first | (go_at_call 9; with_reducible refine Calls.mono (Gives.calls (B1.out _ (HPY.out.below (by repeat (first | exact Below.refl _ _ | (with_reducible assumption) | apply below_later | apply below_alloc | apply below_drew | apply below_drewN))))) ?_; rintro e w1 ⟨rfl, z2, rfl⟩) | (go_at_call 10; refine Calls.mono (P1.out _ (HPY.out.below (by repeat (first | exact Below.refl _ _ | (with_reducible assumption) | apply below_later | apply below_alloc | apply below_drew | apply below_drewN)))) ?_; rintro e w1 ⟨v, rfl, z3, rfl, ho⟩; have HO := Lib.hid ho; clear ho))
    have HBZ3 : Hid (Below Y.heap.size Y z3.val) := by show Below _ _ _; repeat (first | exact Below.refl _ _ | (with_reducible assumption) | apply below_later | apply below_alloc | apply below_drew | apply below_drewN)
    have HPW := Lib.hid (HPY.out.below HBZ3.out)
    have HCW := Lib.hid (HCY.out.below HBZ3.out)
    have HBW : Hid (Below w.heap.size w z3.val) := below_more HBY.out HBZ3.out
    have j0 := (HBZ3.out.cell (p := ⟨b8, 0, none⟩) g2).trans g0
    have j1 := (HBZ3.out.cell (p := ⟨b8, 1, none⟩) g2).trans g1
    have j2 := Nat.lt_of_lt_of_le g2 HBZ3.out.size
    have HO2 : Hid (W0 ≠ nope → OwnI z3.val z2.val.heap.size v (natZ (planL N m f t V x s))) := HO.out
    clear HO HPY HCY HBY HBZ3 g0 g1 g2 B1 P1
    obtain ⟨b9, hb9⟩ : ∃ b9, z2.val.heap.size = b9 := ⟨_, rfl⟩
    rw [hb9] at HO2
    clear hb9
    generalize z3.val = W at *
    go_cut [87] (fun s87 wx => s87 = .bool false ∧ wx = W)
    case first =>
      as_aux_lemma =>
        rcases HE.out with ⟨-, rfl⟩ | ⟨-, rfl, -⟩
        · go_wp2_with fail
          go_meet
          exact ⟨rfl, rfl⟩
        · go_wp2_with fail
          go_meet
          exact ⟨rfl, rfl⟩
    case rest =>
      focus
        obtain ⟨rfl, ew⟩ := hcut
        have ew' := ew.symm
        subst ew'
        clear ew
        go_upto_if 89 with fail
        go_cut [14, 15, 16, 17, 18, 19] (fun s14 s15 s16 s17 s18 s19 wx => Below W.heap.size W wx)
        case first =>
          as_aux_lemma =>
            rcases HE.out with ⟨-, rfl⟩ | ⟨hno, rfl, ha⟩
            · go_wp2_with fail
              go_meet
              exact Below.refl _ _
            · have ho := HO2.out hno
              have HWb : Hid (-40000 ≤ W0 ∧ W0 ≤ 40000) := by
                rw [hW0] at hW0b
                have := hW0b.resolve_left hno
                show _ ∧ _
                omega
              obtain ⟨pf1, pf2⟩ := PF.out (by rw [hW0]; exact hno)
              rw [hW0] at pf2
              have hlen := planL_length (n := N) (m := m) (f := f) (t := t) (V := V) x s
              have PH := Lib.hid fun (x' : Nat) (h : x = x' + 1) => plan_head HR.out (y := x') hs (by rw [← h, hW0]; exact hno)
              obtain ⟨l, hl⟩ : ∃ l, planL N m f t V x s = l := ⟨_, rfl⟩
              have HPH : Hid (∀ x', x = x' + 1 → l.getD 0 0 < m ∧ (wrow N m f t V x').getD (t (l.getD 0 0)) 0 ≠ nope ∧ (wrow N m f t V x').getD (t (l.getD 0 0)) 0 + V (l.getD 0 0) = W0) := fun x' h => by
                have := PH.out x' h
                rw [← h, hW0, hl] at this
                exact this
              rw [hl] at ho pf1 pf2 hlen
              obtain ⟨C, pc, rfl⟩ := ho.shape_n (n := x) (by rw [natZ_length, hlen])
              have HCI := Lib.hid (own_ints_nat ho (by omega)).2
              have IP : Hid (∀ w', IsChs w' A m (fun i => (f i : Int)) (fun i => (t i : Int)) V → IsInts w' C x (fun i => ((l.getD i 0 : Nat) : Int)) → Gives Try.prog 24 #[.int .i64 N, .slice A m cap, .int .i64 s, .slice C x pc] w' (.tuple #[.bool true, .int .i64 0])) := fun w' h1 h2 => pf1 ▸ IsPlan_ok N m cap x pc s A C f t V _ w' hs (by omega) HR.out h1 h2
              have WO : Hid (∀ w', IsChs w' A m (fun i => (f i : Int)) (fun i => (t i : Int)) V → IsInts w' C x (fun i => ((l.getD i 0 : Nat) : Int)) → Gives Try.prog 25 #[.int .i64 N, .slice A m cap, .int .i64 s, .slice C x pc] w' (.tuple #[.int .i64 W0, .int .i64 0])) := fun w' h1 h2 => by
                have := Worth_ok N m cap x pc s A C f t V _ w' hs (by omega) HR.out h1 h2
                rw [if_pos pf1] at this
                simp only [Int.toNat_natCast] at this
                rw [pf2] at this
                exact this
              have q1 : (W0 != W0) = false := by simp
              have q2 : ((x : Int) != (x : Int)) = false := by simp
              have ha' := ha.symm
              subst ha'
              clear ha
              clear pf1 pf2 PH hl hlen ho PF HO2 HE hno hW0b
              rcases x with _ | x'
              · go_wp2_with (first | (go_at_call 24; (first | (with_reducible show Calls _ _ _ (Later.val _) _; with_reducible refine Calls.mono (Later.call _ (IP.out _ (HPW.out.below (by repeat (first | exact Below.refl _ _ | (with_reducible assumption) | apply below_later | apply below_alloc | apply below_drew | apply below_drewN))) (HCI.out.below (by repeat (first | exact Below.refl _ _ | (with_reducible assumption) | apply below_later | apply below_alloc | apply below_drew | apply below_drewN))))) ?_) | (with_reducible refine Calls.mono (Gives.calls (IP.out _ (HPW.out.below (by repeat (first | exact Below.refl _ _ | (with_reducible assumption) | apply below_later | apply below_alloc | apply below_drew | apply below_drewN))) (HCI.out.below (by repeat (first | exact Below.refl _ _ | (with_reducible assumption) | apply below_later | apply below_alloc | apply below_drew | apply below_drewN))))) ?_)); rintro e w1 ⟨rfl, y5, rfl⟩) | (go_at_call 25; (first | (with_reducible show Calls _ _ _ (Later.val _) _; with_reducible refine Calls.mono (Later.call _ (WO.out _ (HPW.out.below (by repeat (first | exact Below.refl _ _ | (with_reducible assumption) | apply below_later | apply below_alloc | apply below_drew | apply below_drewN))) (HCI.out.below (by repeat (first | exact Below.refl _ _ | (with_reducible assumption) | apply below_later | apply below_alloc | apply below_drew | apply below_drewN))))) ?_) | (with_reducible refine Calls.mono (Gives.calls (WO.out _ (HPW.out.below (by repeat (first | exact Below.refl _ _ | (with_reducible assumption) | apply below_later | apply below_alloc | apply below_drew | apply below_drewN))) (HCI.out.below (by repeat (first | exact Below.refl _ _ | (with_reducible assumption) | apply below_later | apply below_alloc | apply below_drew | apply below_drewN))))) ?_)); rintro e w1 ⟨rfl, y6, rfl⟩))
                go_meet
                show Below _ _ _
                repeat (first | exact Below.refl _ _ | (with_reducible assumption) | apply below_later | apply below_alloc | apply below_drew | apply below_drewN)
              · obtain ⟨h1, h2, h3⟩ := HPH.out x' rfl
                have B2 : Hid (∀ w', IsChs w' A m (fun i => (f i : Int)) (fun i => (t i : Int)) V → Gives Try.prog 9 #[.int .i64 N, .slice A m cap, .int .i64 (t (l.getD 0 0)), .int .i64 x'] w' (.tuple #[.int .i64 ((wrow N m f t V x').getD (t (l.getD 0 0)) 0), .int .i64 0])) := fun w' h => by
                  have := BE.out (t (l.getD 0 0)) x' (HR.out.t _ h1) (by omega) w' h
                  rw [if_neg h2] at this
                  exact this
                have u1 : IntKind.i64.wrap (((x' + 1 : Nat) : Int) - 1) = (x' : Int) := by rw [IntWalk.i64_in _ ⟨by omega, by omega⟩]; omega
                obtain ⟨i0, hi0⟩ : ∃ i0, l.getD 0 0 = i0 := ⟨_, rfl⟩
                rw [hi0] at h1 h3 B2
                have u2 : IntKind.i64.wrap ((wrow N m f t V x').getD (t i0) 0 + V i0) = W0 := by have := HWb.out; rw [h3]; exact IntWalk.i64_in _ ⟨by omega, by omega⟩
                obtain ⟨ba, oa, rfl, p⟩ := HPW.out.at_ (by omega)
                obtain ⟨bc, oc, rfl, pC⟩ := HCI.out.at_ (by omega)
                have cC := pC.at_ 0 (by omega)
                rw [hi0, Nat.add_zero] at cC
                have lC := pC.lt
                have ct := p.t i0 h1
                have cv := p.v i0 h1
                have lp := p.lt
                have q3 : decide ((0 : Int) < ((x' + 1 : Nat) : Int)) = true := by first | (simp; done) | (simp; omega)
                clear p pC h3 hi0
                generalize (wrow N m f t V x').getD (t i0) 0 = W1 at *
                go_wp2_with (first | (go_at_call 24; (first | (with_reducible show Calls _ _ _ (Later.val _) _; with_reducible refine Calls.mono (Later.call _ (IP.out _ (HPW.out.below (by repeat (first | exact Below.refl _ _ | (with_reducible assumption) | apply below_later | apply below_alloc | apply below_drew | apply below_drewN))) (HCI.out.below (by repeat (first | exact Below.refl _ _ | (with_reducible assumption) | apply below_later | apply below_alloc | apply below_drew | apply below_drewN))))) ?_) | (with_reducible refine Calls.mono (Gives.calls (IP.out _ (HPW.out.below (by repeat (first | exact Below.refl _ _ | (with_reducible assumption) | apply below_later | apply below_alloc | apply below_drew | apply below_drewN))) (HCI.out.below (by repeat (first | exact Below.refl _ _ | (with_reducible assumption) | apply below_later | apply below_alloc | apply below_drew | apply below_drewN))))) ?_)); rintro e w1 ⟨rfl, y5, rfl⟩) | (go_at_call 25; (first | (with_reducible show Calls _ _ _ (Later.val _) _; with_reducible refine Calls.mono (Later.call _ (WO.out _ (HPW.out.below (by repeat (first | exact Below.refl _ _ | (with_reducible assumption) | apply below_later | apply below_alloc | apply below_drew | apply below_drewN))) (HCI.out.below (by repeat (first | exact Below.refl _ _ | (with_reducible assumption) | apply below_later | apply below_alloc | apply below_drew | apply below_drewN))))) ?_) | (with_reducible refine Calls.mono (Gives.calls (WO.out _ (HPW.out.below (by repeat (first | exact Below.refl _ _ | (with_reducible assumption) | apply below_later | apply below_alloc | apply below_drew | apply below_drewN))) (HCI.out.below (by repeat (first | exact Below.refl _ _ | (with_reducible assumption) | apply below_later | apply below_alloc | apply below_drew | apply below_drewN))))) ?_)); rintro e w1 ⟨rfl, y6, rfl⟩))
                first | (with_reducible show Code.wp _ _ _ _ (Later.val _); refine wp_region_later_at _ (by kernel_rfl) (by kernel_rfl) ?_) | refine wp_region_later (by kernel_rfl) (by kernel_rfl) ?_
                repeat (go_big_quiet_step ((first | (go_at_call 9; (with_reducible refine Later.call _ (B2.out _ (HPW.out.below (by repeat (first | exact Below.refl _ _ | (with_reducible assumption) | apply below_later | apply below_alloc | apply below_drew | apply below_drewN)))))))))
                refine wpQuiet_nil ?_
                intro y7
                go_wp2_with fail
                first | (with_reducible show Code.wp _ _ _ _ (Later.val _); refine wp_region_later_at _ (by kernel_rfl) (by kernel_rfl) ?_) | refine wp_region_later (by kernel_rfl) (by kernel_rfl) ?_
                repeat (go_big_quiet_step ((fail)))
                refine wpQuiet_nil ?_
                intro y8
                go_wp2_with fail
                go_meet
                show Below _ _ _
                repeat (first | exact Below.refl _ _ | (with_reducible assumption) | apply below_later | apply below_alloc | apply below_drew | apply below_drewN)
        case rest =>
          focus
            have HX := Lib.hid hcut
            have g0 := (HX.out.cell (p := ⟨b8, 0, none⟩) j2).trans j0
            have g1 := (HX.out.cell (p := ⟨b8, 1, none⟩) j2).trans j1
            have g2 := Nat.lt_of_lt_of_le j2 HX.out.size
            have HPX := Lib.hid (HPW.out.below HX.out)
            have HCX := Lib.hid (HCW.out.below HX.out)
            have HBX : Hid (Below w.heap.size w wc) := below_more HBW.out HX.out
            clear hcut HX j0 j1 j2 HPW HCW HBW HO2 PF HE hW0 hW0b
            have RI0 := fun (w' : World) (h : IsChs w' A m (fun i => (f i : Int)) (fun i => (t i : Int)) V) (h2 : IsInts w' B k c) => risplan_any m cap k capB s A B f t V c w' (by omega) (by omega) h h2
            obtain ⟨p0, hp0⟩ : ∃ p0, (fol m f t c s k).isSome = p0 := ⟨_, rfl⟩
            rw [hp0] at RI0
            have RI := Lib.hid RI0
            have HP0 := Lib.hid hp0
            clear RI0 hp0
            go_upto_if 171 with (first | (go_at_call 26; (first | (with_reducible show Calls _ _ _ (Later.val _) _; with_reducible refine Calls.mono (Later.call _ (RI.out _ HPX.out HCX.out)) ?_) | (with_reducible refine Calls.mono (Gives.calls (RI.out _ HPX.out HCX.out)) ?_)); rintro e w1 ⟨rfl, z1, rfl⟩))
            go_cut [20, 21] (fun s20 s21 wx => Below wc.heap.size wc wx)
            case first =>
              as_aux_lemma =>
                rcases p0 with _ | _
                · go_wp2_with fail
                  go_meet
                  show Below _ _ _
                  repeat (first | exact Below.refl _ _ | (with_reducible assumption) | apply below_later | apply below_alloc | apply below_drew | apply below_drewN)
                · have h0 := HP0.out
                  obtain ⟨h1, h2⟩ := fol_upper HR.out k c s (by omega) hs h0
                  obtain ⟨aa, haa⟩ := Option.isSome_iff_exists.1 h0
                  have hin : ∀ i, i < k → c i = ((c i).toNat : Nat) ∧ (c i).toNat < m := fun i hi => by
                    obtain ⟨x, hx, hm⟩ := inS_true (fol_in haa i hi)
                    rw [hx, Int.toNat_natCast]
                    exact ⟨rfl, hm⟩
                  have RW : Hid (∀ w', IsChs w' A m (fun i => (f i : Int)) (fun i => (t i : Int)) V → IsInts w' B k c → Gives Try.prog 27 #[.slice A m cap, .slice B k capB] w' (.int .i64 (wor V (fun i => (c i).toNat) k))) := fun w' h1 h2 => rworth_any m cap k capB A B f t V (fun i => (c i).toNat) w' (by omega) (by omega) HR.out.v h1 (h2.congr fun i hi => (hin i hi).1) fun i hi => (hin i hi).2
                  have B2 : Hid (∀ w', IsChs w' A m (fun i => (f i : Int)) (fun i => (t i : Int)) V → Gives Try.prog 9 #[.int .i64 N, .slice A m cap, .int .i64 s, .int .i64 k] w' (.tuple #[.int .i64 ((wrow N m f t V k).getD s 0), .int .i64 0])) := fun w' h => by
                    have := BE.out s k hs (by omega) w' h
                    rw [if_neg h1] at this
                    exact this
                  clear hin haa h0 h1
                  generalize (wrow N m f t V k).getD s 0 = W2 at *
                  generalize wor V (fun i => (c i).toNat) k = W3 at *
                  have q1 : decide (W2 < W3) = false := by simp; omega
                  go_wp2_with (first | (go_at_call 9; (first | (with_reducible show Calls _ _ _ (Later.val _) _; with_reducible refine Calls.mono (Later.call _ (B2.out _ (HPX.out.below (by repeat (first | exact Below.refl _ _ | (with_reducible assumption) | apply below_later | apply below_alloc | apply below_drew | apply below_drewN))))) ?_) | (with_reducible refine Calls.mono (Gives.calls (B2.out _ (HPX.out.below (by repeat (first | exact Below.refl _ _ | (with_reducible assumption) | apply below_later | apply below_alloc | apply below_drew | apply below_drewN))))) ?_)); rintro e w1 ⟨rfl, z2, rfl⟩) | (go_at_call 27; (first | (with_reducible show Calls _ _ _ (Later.val _) _; with_reducible refine Calls.mono (Later.call _ (RW.out _ (HPX.out.below (by repeat (first | exact Below.refl _ _ | (with_reducible assumption) | apply below_later | apply below_alloc | apply below_drew | apply below_drewN))) (HCX.out.below (by repeat (first | exact Below.refl _ _ | (with_reducible assumption) | apply below_later | apply below_alloc | apply below_drew | apply below_drewN))))) ?_) | (with_reducible refine Calls.mono (Gives.calls (RW.out _ (HPX.out.below (by repeat (first | exact Below.refl _ _ | (with_reducible assumption) | apply below_later | apply below_alloc | apply below_drew | apply below_drewN))) (HCX.out.below (by repeat (first | exact Below.refl _ _ | (with_reducible assumption) | apply below_later | apply below_alloc | apply below_drew | apply below_drewN))))) ?_)); rintro e w1 ⟨rfl, z3, rfl⟩))
                  go_meet
                  show Below _ _ _
                  repeat (first | exact Below.refl _ _ | (with_reducible assumption) | apply below_later | apply below_alloc | apply below_drew | apply below_drewN)
            case rest =>
              focus
                have HX := Lib.hid hcut
                have j0 := (HX.out.cell (p := ⟨b8, 0, none⟩) g2).trans g0
                have j1 := (HX.out.cell (p := ⟨b8, 1, none⟩) g2).trans g1
                have j2 := Nat.lt_of_lt_of_le g2 HX.out.size
                have HPU := Lib.hid (HPX.out.below HX.out)
                have HBU : Hid (Below w.heap.size w wc) := below_more HBX.out HX.out
                clear hcut HX g0 g1 g2 HPX HCX HBX HP0
                generalize wc = U0 at *
                have AF1 := Lib.hid (AF.out s x hs (by omega))
                have AF2 := Lib.hid (AF.out s (x + y) hs (by omega))
                obtain ⟨xy, hxy⟩ : ∃ xy, x + y = xy := ⟨_, rfl⟩
                have u3 : IntKind.i64.wrap ((x : Int) + (y : Int)) = (xy : Int) := by rw [IntWalk.i64_in _ ⟨by omega, by omega⟩]; omega
                have HML : Hid (((List.range N).filter (endsB m f t s x)).length ≤ 8) := by
                  show _ ≤ _
                  have := List.length_filter_le (endsB m f t s x) (List.range N)
                  simp only [List.length_range] at this
                  omega
                have HEL : Hid (((List.range N).filter (endsB m f t s (x + y))).length ≤ 8) := by
                  show _ ≤ _
                  have := List.length_filter_le (endsB m f t s (x + y)) (List.range N)
                  simp only [List.length_range] at this
                  omega
                have HANY : Hid (∀ q, (((List.range N).filter (endsB m f t s x)).any fun p => endsB m f t p y q) = endsB m f t s (x + y) q) := fun q => ends_all fun r hr => endsB_lt HR.out hs x r hr
                have HLT : Hid (∀ p ∈ (List.range N).filter (endsB m f t s x), p < N) := fun p hp => List.mem_range.1 (List.mem_filter.1 hp).1
                obtain ⟨mids, hmids⟩ : ∃ l, (List.range N).filter (endsB m f t s x) = l := ⟨_, rfl⟩
                rw [hmids] at AF1 HML HANY HLT
                clear hmids
                obtain ⟨E9, hE9⟩ : ∃ E, endsB m f t s (x + y) = E := ⟨_, rfl⟩
                rw [hE9, hxy] at AF2
                rw [hE9] at HEL HANY
                clear hE9 hxy
                go_upto_region 22 with (go_at_call 11; refine Calls.mono (AF1.out _ (HPU.out.below (by repeat (first | exact Below.refl _ _ | (with_reducible assumption) | apply below_later | apply below_alloc | apply below_drew | apply below_drewN)))) ?_; rintro e w1 ⟨v3, rfl, z1, rfl, ho1⟩; have HO1 := Lib.hid ho1; clear ho1)
                go_upto_region 25 with (go_at_call 11; refine Calls.mono (AF2.out _ (HPU.out.below (by repeat (first | exact Below.refl _ _ | (with_reducible assumption) | apply below_later | apply below_alloc | apply below_drew | apply below_drewN)))) ?_; rintro e w1 ⟨v4, rfl, z2, rfl, ho2⟩; have HO2 := Lib.hid ho2; clear ho2)
                have HBz : Hid (Below U0.heap.size U0 z2.val) := by show Below _ _ _; repeat (first | exact Below.refl _ _ | (with_reducible assumption) | apply below_later | apply below_alloc | apply below_drew | apply below_drewN)
                obtain ⟨A1, c1, rfl⟩ := HO1.out.shape_n (n := mids.length) (natZ_length _)
                obtain ⟨A2, c2, rfl⟩ := HO2.out.shape_n (n := ((List.range N).filter E9).length) (natZ_length _)
                have HM : Hid (IsInts z2.val A1 mids.length fun i => ((mids.getD i 0 : Nat) : Int)) := (own_ints_nat (HO1.out.later z2) (by have := HML.out; omega)).2
                have HE2 : Hid (IsInts z2.val A2 ((List.range N).filter E9).length fun i => ((((List.range N).filter E9).getD i 0 : Nat) : Int)) := (own_ints_nat HO2.out (by have := HEL.out; omega)).2
                have i0 := (HBz.out.cell (p := ⟨b8, 0, none⟩) j2).trans j0
                have i1 := (HBz.out.cell (p := ⟨b8, 1, none⟩) j2).trans j1
                have i2 := Nat.lt_of_lt_of_le j2 HBz.out.size
                have HPV := Lib.hid (HPU.out.below HBz.out)
                have HBV : Hid (Below w.heap.size w z2.val) := below_more HBU.out HBz.out
                clear j0 j1 j2 HPU HBU HBz HO1 HO2 AF1 AF2 u3
                obtain ⟨n1, hn1l⟩ : ∃ n1, mids.length = n1 := ⟨_, rfl⟩
                have HN1 := Lib.hid hn1l
                rw [hn1l] at HML HM ⊢
                clear hn1l
                obtain ⟨n2, hn2l⟩ : ∃ n2, ((List.range N).filter E9).length = n2 := ⟨_, rfl⟩
                have HN2 := Lib.hid hn2l
                rw [hn2l] at HEL HE2 ⊢
                clear hn2l
                have hn1b := HML.out
                have hn2b := HEL.out
                generalize z2.val = U at *
                have MK : ∀ w', (Instr.makeSlice 62 (.int .i64 (N : Int)) (.int .i64 (N : Int))).run Try.prog w' = .ok (.slice (some ⟨w'.heap.size, 0, none⟩) N N) (w'.alloc (.cells (madeCells #[Value.bool false] N) 4)) := fun w' => make_bools w' N (by omega)
                have M1 := Lib.hid (made_ownB U N U.heap.size (Nat.le_refl _) (by omega))
                have HB3 : Hid (Below U.heap.size U (U.alloc (.cells (madeCells #[Value.bool false] N) 4))) := (Below.refl _ _).alloc (Nat.le_refl _) _
                go_wp2_with fail
                go_loopw [25] (fun v wr => ∃ j : Nat, v = .int .i64 (j : Nat) ∧ j ≤ n1 ∧ Below U.heap.size U wr ∧ OwnB wr U.heap.size (.slice (some ⟨U.heap.size, 0, none⟩) N N) N (fun q => (mids.take j).any fun p => endsB m f t p y q)) (fun v _ => n1 - (intOf v).toNat)
                case atStart => exact ⟨0, rfl, by omega, HB3.out, M1.out.congr fun i _ => by simp⟩
                case round =>
                  as_aux_lemma =>
                    obtain ⟨j, rfl, hj, hbl, hob⟩ := hrel
                    have HBL := Lib.hid hbl
                    have HOB := Lib.hid hob
                    clear hbl hob M1 HB3 MK
                    generalize wr = X at *
                    have o0 := (HBL.out.cell (p := ⟨b8, 0, none⟩) i2).trans i0
                    have o1 := (HBL.out.cell (p := ⟨b8, 1, none⟩) i2).trans i1
                    have o2 := Nat.lt_of_lt_of_le i2 HBL.out.size
                    by_cases hlt : j < n1
                    · obtain ⟨q, hq⟩ : ∃ q, mids[j]? = some q := ⟨_, List.getElem?_eq_getElem (by rw [HN1.out]; exact hlt)⟩
                      have hqN : q < N := HLT.out q (List.mem_of_getElem? hq)
                      obtain ⟨bm, om, hA1, pm⟩ := (show IsInts X A1 n1 _ from HM.out.later ⟨X, HBL.out⟩).at_ (by omega)
                      rw [hA1]
                      have cm := pm.at_ j hlt
                      rw [show mids.getD j 0 = q by rw [List.getD_eq_getElem?_getD, hq]; rfl] at cm
                      have lm := pm.lt
                      have AF3 := Lib.hid (AF.out q y hqN (by omega) )
                      have HPX := Lib.hid (HPV.out.below HBL.out)
                      have HTK : Hid (∀ r, r < N → ((mids.take (j + 1)).any fun p => endsB m f t p y r) = (((mids.take j).any fun p => endsB m f t p y r) || decide (r ∈ (List.range N).filter (endsB m f t q y)))) := fun r hr => by
                        rw [List.take_add_one, hq, List.any_append]
                        congr 1
                        rw [Bool.eq_iff_iff, decide_eq_true_iff, List.mem_filter, List.mem_range]
                        simp [hr]
                      have HL2 : Hid (((List.range N).filter (endsB m f t q y)).length ≤ 8) := by
                        show _ ≤ _
                        have := List.length_filter_le (endsB m f t q y) (List.range N)
                        simp only [List.length_range] at this
                        omega
                      have HLT2 : Hid (∀ p ∈ (List.range N).filter (endsB m f t q y), p < N) := fun p hp => List.mem_range.1 (List.mem_filter.1 hp).1
                      obtain ⟨l2, hl2⟩ : ∃ l, (List.range N).filter (endsB m f t q y) = l := ⟨_, rfl⟩
                      rw [hl2] at AF3 HTK HL2 HLT2
                      clear hl2 pm hq
                      obtain ⟨E, hE⟩ : ∃ E, (fun r => (mids.take j).any fun p => endsB m f t p y r) = E := ⟨_, rfl⟩
                      have HEE : Hid (∀ r, ((mids.take j).any fun p => endsB m f t p y r) = E r) := fun r => congrFun hE r
                      rw [hE] at HOB
                      clear hE
                      go_wp2_with fail
                      go_cut [26, 27] (fun s26 s27 wx => s27 = .int .i64 0 ∧ Below X.heap.size X wx ∧ OwnI wx X.heap.size s26 (natZ l2))
                      case first =>
                        as_aux_lemma =>
                          go_region_with (go_at_call 11; refine Calls.mono (AF3.out _ (HPX.out.below (by repeat (first | exact Below.refl _ _ | (with_reducible assumption) | apply below_later | apply below_alloc | apply below_drew | apply below_drewN)))) ?_; rintro e w1 ⟨v5, rfl, z5, rfl, ho5⟩; have HO5 := Lib.hid ho5; clear ho5)
                          all_goals
                            go_wp2_with fail
                            go_meet
                            exact ⟨rfl, by show Below _ _ _; repeat (first | exact Below.refl _ _ | (with_reducible assumption) | apply below_later | apply below_alloc | apply below_drew | apply below_drewN), HO5.out⟩
                      case rest =>
                        focus
                          obtain ⟨rfl, hbx, ho5⟩ := hcut
                          have HBX := Lib.hid hbx
                          obtain ⟨A5, c5, rfl⟩ := ho5.shape_n (n := l2.length) (natZ_length _)
                          have HO5 := Lib.hid ho5
                          have lU : U.heap.size < X.heap.size := (HOB.out.cell (i := 0) (by omega)).2.2
                          have HBLw : Hid (Below U.heap.size U wc) := below_more HBL.out HBX.out
                          have HOBw : Hid (OwnB wc U.heap.size (.slice (some ⟨U.heap.size, 0, none⟩) N N) N E) := HOB.out.below HBX.out
                          have hl2 := HL2.out
                          clear hbx ho5 o0 o1 o2 cm lm HBX HOB HPX AF3 HBL
                          obtain ⟨n5, hn5⟩ : ∃ n5, l2.length = n5 := ⟨_, rfl⟩
                          have HN5 := Lib.hid hn5
                          rw [hn5] at HO5 hl2 ⊢
                          clear hn5
                          obtain ⟨bX, hbX⟩ : ∃ b, X.heap.size = b := ⟨_, rfl⟩
                          rw [hbX] at HO5 lU
                          clear hbX
                          generalize wc = Q at *
                          go_wp2_with fail
                          go_loopw [28] (fun v wr => ∃ kk : Nat, v = .int .i64 (kk : Nat) ∧ kk ≤ n5 ∧ Below U.heap.size U wr ∧ OwnI wr bX (.slice A5 n5 c5) (natZ l2) ∧ OwnB wr U.heap.size (.slice (some ⟨U.heap.size, 0, none⟩) N N) N (fun r => E r || decide (r ∈ l2.take kk))) (fun v _ => n5 - (intOf v).toNat)
                          case atStart => exact ⟨0, rfl, by omega, HBLw.out, HO5.out, HOBw.out.congr fun i _ => by simp⟩
                          case round =>
                            as_aux_lemma =>
                              obtain ⟨kk, rfl, hkk, hb2, ho2, hob2⟩ := hrel
                              have HB2 := Lib.hid hb2
                              have HOI := Lib.hid ho2
                              have HOB2 := Lib.hid hob2
                              clear hb2 ho2 hob2 HBLw HOBw HO5
                              generalize wr = X2 at *
                              by_cases hlk : kk < n5
                              · obtain ⟨r, hr⟩ : ∃ r, l2[kk]? = some r := ⟨_, List.getElem?_eq_getElem (by rw [HN5.out]; exact hlk)⟩
                                have hrN : r < N := HLT2.out r (List.mem_of_getElem? hr)
                                have HTT : Hid (∀ i, (if i = r then true else E i || decide (i ∈ l2.take kk)) = (E i || decide (i ∈ l2.take (kk + 1)))) := fun i => by
                                  rw [List.take_add_one, hr]
                                  by_cases e : i = r
                                  · subst e; simp
                                  · simp [e]
                                obtain ⟨g5, pc5, e5, hg1, hg2, _⟩ := HOI.out.form (n := n5) (by rw [natZ_length, HN5.out]) (by omega)
                                have HOI2 := HOI.out
                                simp only [Value.slice.injEq] at e5
                                obtain ⟨rfl, -, rfl⟩ := e5
                                have cq := (HOI2.cell (by rw [natZ_length, HN5.out]) hlk).1
                                rw [show (natZ l2).getD kk 0 = (r : Int) by rw [natZ_getD, List.getD_eq_getElem?_getD, hr]; rfl] at cq
                                obtain ⟨_, f1, f2⟩ := HOB2.out.cell hrN
                                have f3 := (HOB2.out.cell hrN).1
                                have f4 := f1 r
                                have HF : Hid (OwnI (X2.setCell ⟨U.heap.size, r, none⟩ (.bool true)) bX (.slice (some ⟨g5, 0, none⟩) n5 c5) (natZ l2)) := HOI2.far fun g hg => by simp [Value.ownBlock] at hg; subst hg; simp only [ne_eq]; omega
                                clear f1 hr HOI2
                                go_wp2_with fail
                                go_roundw
                                case rel => exact ⟨kk + 1, by go_num, by omega, HB2.out.setCell (by simp) _, HF.out, (HOB2.out.set r true).congr fun i _ => HTT.out i⟩
                                case measure => simp [intOf]; omega
                              · obtain rfl : kk = n5 := by omega
                                go_wp2_with fail
                                go_roundw
                                case rel => exact ⟨j + 1, by go_num, by omega, HB2.out, HOB2.out.congr fun i hi => by rw [HTK.out i hi, HEE.out i, show l2.take kk = l2 by rw [← HN5.out, List.take_length]]⟩
                                case measure => simp [intOf]; omega
                    · obtain rfl : j = n1 := by omega
                      have HPX := Lib.hid (HPV.out.below HBL.out)
                      have HBX : Hid (Below w.heap.size w X) := below_more HBV.out HBL.out
                      have HOF : Hid (OwnB X U.heap.size (.slice (some ⟨U.heap.size, 0, none⟩) N N) N E9) := HOB.out.congr fun i _ => by
                        rw [← HANY.out i]
                        congr 1
                        rw [← HN1.out, List.take_length]
                      have HEX : Hid (IsInts X A2 n2 fun i => ((((List.range N).filter E9).getD i 0 : Nat) : Int)) := HE2.out.later ⟨X, HBL.out⟩
                      have SI := Lib.hid fun (C : Option Addr) (cc : Nat) (w' : World) (h1 : IsInts w' C n2 fun i => ((((List.range N).filter E9).getD i 0 : Nat) : Int)) (h2 : IsInts w' A2 n2 fun i => ((((List.range N).filter E9).getD i 0 : Nat) : Int)) => same_ints C A2 n2 cc c2 _ _ w' (by omega) h1 h2 fun _ _ => rfl
                      obtain ⟨i9, hi0, hz0, hz1, hz2⟩ := info_int
                      clear HOB HBL HANY HPV HBV HM HE2 i0 i1 i2 BE AF HR
                      go_wp2_with fail
                      go_loopw [29, 30] (fun u v wr => ∃ r : Nat, v = .int .i64 (r : Nat) ∧ r ≤ N ∧ Below X.heap.size X wr ∧ OwnI wr X.heap.size u (natZ ((List.range r).filter E9))) (fun _ v _ => N - (intOf v).toNat)
                      case atStart => exact ⟨0, rfl, by omega, Below.refl _ _, OwnI.nil _ _⟩
                      case round =>
                        as_aux_lemma =>
                          obtain ⟨r, rfl, hrn, hb2, ho2⟩ := hrel
                          have HB2 := Lib.hid hb2
                          have HO2 := Lib.hid ho2
                          clear hb2 ho2
                          generalize wr = Z2 at *
                          have p0 := (HB2.out.cell (p := ⟨b8, 0, none⟩) o2).trans o0
                          have p2 := Nat.lt_of_lt_of_le o2 HB2.out.size
                          by_cases hlr : r < N
                          · obtain ⟨q0, _, q2⟩ := (HOF.out.below HB2.out).cell hlr
                            have HF : Hid ((List.range (r + 1)).filter E9 = (List.range r).filter E9 ++ if E9 r = true then [r] else []) := by
                              show _ = _
                              rw [List.range_succ, List.filter_append]
                              congr 1
                              cases h : E9 r <;> simp [List.filter, h]
                            have HLF : Hid (((List.range r).filter E9).length ≤ r) := by
                              show _ ≤ _
                              have := List.length_filter_le E9 (List.range r)
                              simpa using this
                            cases hE : E9 r
                            case false =>
                              rw [hE] at q0
                              have HF2 : Hid ((List.range (r + 1)).filter E9 = (List.range r).filter E9) := by show _ = _; rw [HF.out, hE]; simp
                              clear hE
                              go_wp2_with fail
                              go_roundw
                              case rel => exact ⟨r + 1, by go_num, by omega, HB2.out, by rw [HF2.out]; exact HO2.out⟩
                              case measure => simp [intOf]; omega
                            case true =>
                              rw [hE] at q0
                              have HF2 : Hid ((List.range (r + 1)).filter E9 = (List.range r).filter E9 ++ [r]) := by show _ = _; rw [HF.out, hE]; simp
                              clear hE
                              obtain ⟨l, hl⟩ : ∃ l, (List.range r).filter E9 = l := ⟨_, rfl⟩
                              rw [hl] at HF2 HO2 HLF
                              clear hl HF
                              go_wp2_with (at_builtin; refine wpList_append_own_at _ rfl _ _ 30 rfl X.heap.size 3 i9 (.int .i64 0) 1 8 Try.underlying30 hi0 hz0 hz1 hz2 rfl (by decide) _ _ _ rfl ((own_row HO2.out (natZ_length l)).alloc _) ⟨_, 0, none⟩ 1 1 [.int .i64 (r : Nat)] rfl rfl lit_news one_int ?g1 ?g2 ?g3 ?_)
                              case g1 => have := HLF.out; unfold maxLen; omega
                              case g2 => have := HLF.out; omega
                              case g3 => have := HB2.out.size; simp only [World.size_alloc]; omega
                              intro v6 w6 hown2 hgrow _ hat
                              have hb6 : Below X.heap.size X w6 := below_own (w1 := Z2.alloc (.cells #[.int .i64 (r : Nat)] 3)) (below_alloc HB2.out) ((own_row HO2.out (natZ_length l)).alloc _) (Nat.le_refl _) hgrow
                              have HO6 : Hid (OwnI w6 X.heap.size v6 (natZ (l ++ [r]))) := by
                                show OwnI _ _ _ _
                                unfold OwnI
                                rw [natZ_length, List.length_append, cellsI_nat]
                                exact hown2
                              have HB6 := Lib.hid hb6
                              clear hown2 hgrow hat hb6
                              go_wp2_with fail
                              go_roundw
                              case rel => exact ⟨r + 1, by go_num, by omega, HB6.out, by rw [HF2.out]; exact HO6.out⟩
                              case measure => simp [intOf]; omega
                          · obtain rfl : r = N := by omega
                            obtain ⟨A6, c6, rfl⟩ := HO2.out.shape_n (n := n2) (by rw [natZ_length, HN2.out])
                            have HS6 := Lib.hid (own_ints_nat HO2.out (by rw [HN2.out]; omega)).2
                            have HE6 := Lib.hid (HEX.out.later ⟨Z2, HB2.out⟩)
                            clear HO2
                            go_wp2_with (first | (go_at_call 14; (first | (with_reducible show Calls _ _ _ (Later.val _) _; with_reducible refine Calls.mono (Later.call _ (SI.out _ _ _ HS6.out HE6.out)) ?_) | (with_reducible refine Calls.mono (Gives.calls (SI.out _ _ _ HS6.out HE6.out)) ?_)); rintro e w1 ⟨rfl, z8, rfl⟩) | (go_at_call 8; with_reducible refine Calls.mono (Gives.calls (FL.out _)) ?_; rintro e w1 ⟨rfl, z9, rfl⟩))
                            go_ret
                            exact ⟨rfl, ⟨_, below_more HBX.out (below_more HB2.out (by repeat (first | exact Below.refl _ _ | (with_reducible assumption) | apply below_later | apply below_alloc | apply below_drew | apply below_drewN)))⟩, rfl⟩
end Go.Proofs.Ytnjloomhhgilcaa
