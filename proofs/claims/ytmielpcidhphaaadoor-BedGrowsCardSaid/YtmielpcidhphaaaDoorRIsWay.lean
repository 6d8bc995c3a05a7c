/- The document's own IsWay. -/
import Derived.Test.YtmielpcidhphaaaDoorIsWay
import Derived.Test.YtmielpcidhphaaaDoorRefNbrs
namespace Go.Proofs.YtmielpcidhphaaaDoor
open Go.RowKit

theorem natL_nth {l : List Nat} {j : Nat} (h : j < l.length) : (natL l).getD j 0 = ((nthL l j : Nat) : Int) := by
  rw [List.getD_eq_getElem?_getD, natL, List.getElem?_map, nthL_at h]; rfl
theorem hasN_step {l : List Nat} {j b : Nat} (h : j < l.length) : hasN (l.take (j + 1)) b = (hasN (l.take j) b || decide (nthL l j = b)) := by
  unfold hasN
  rw [List.take_add_one, nthL_at h, Option.toList_some, List.any_append]
  simp
theorem nbr4_len (W H i : Nat) : (nbr4 W H i).length ≤ 4 := by
  unfold nbr4
  simp only [List.length_append]
  have a : ∀ (p : Prop) [Decidable p] (x : Nat), (if p then [x] else []).length ≤ 1 := fun p _ x => by split <;> simp
  have := a (0 < i / W) (i - W)
  have := a (0 < i % W) (i - 1)
  have := a (i % W + 1 < W) (i + 1)
  have := a (i / W + 1 < H) (i + W)
  omega

set_option maxRecDepth 100000 in
set_option maxHeartbeats 3200000 in
theorem rIsWay_any (W H : Int) (n cap m c2 : Nat) (A B : Option Addr) (f g : Nat → Int) (w : World) (hp : IsInts w A n f) (hl : IsInts w B m g) (hm : m ≤ 1000) :
    Gives Tryd.prog 50 #[.agg #[.int .i64 W, .int .i64 H, .slice A n cap], .slice B m c2] w (.tuple #[.bool (wayV W H n f m g), .int .i64 (wayE W H n f)]) := by
  have HP := Lib.hid hp
  have HLL := Lib.hid hl
  clear hp hl
  cases hv : validM W H n f
  · have V : Hid (∀ w', IsInts w' A n f → Gives Tryd.prog 20 #[.agg #[.int .i64 W, .int .i64 H, .slice A n cap]] w' (.bool false)) := fun w' h => hv ▸ rmvalid_any W H A n cap f w' h
    have e1 : wayV W H n f m g = false := by unfold wayV; rw [hv]; rfl
    have e2 : wayE W H n f = 20 := by unfold wayE; rw [hv, if_neg (by simp)]
    rw [e1, e2]
    clear e1 e2 hv
    go_enter Tryd.func50, Tryd.ntmps50
    go_wp2_with (go_at_call 20; (first | (with_reducible show Calls _ _ _ (Later.val _) _; with_reducible refine Calls.mono (Later.call _ (V.out _ (HP.out.later ⟨_, by repeat (first | exact Below.refl _ _ | (with_reducible assumption) | apply below_later | apply below_alloc | apply below_drew | apply below_drewN)⟩))) ?_) | (with_reducible refine Calls.mono (Gives.calls (V.out _ (HP.out.later ⟨_, by repeat (first | exact Below.refl _ _ | (with_reducible assumption) | apply below_later | apply below_alloc | apply below_drew | apply below_drewN)⟩))) ?_)); rintro e w1 ⟨rfl, z, rfl⟩)
    go_ret2
    exact ⟨rfl, later_of (by repeat (first | exact Below.refl _ _ | (with_reducible assumption) | apply below_later | apply below_alloc | apply below_drew | apply below_drewN))⟩
  · have V : Hid (∀ w', IsInts w' A n f → Gives Tryd.prog 20 #[.agg #[.int .i64 W, .int .i64 H, .slice A n cap]] w' (.bool true)) := fun w' h => hv ▸ rmvalid_any W H A n cap f w' h
    obtain ⟨⟨v1, v2⟩, ⟨v3, v4⟩, hn, _⟩ := validM_iff.1 hv
    obtain ⟨W, rfl⟩ : ∃ x : Nat, W = x := ⟨W.toNat, by omega⟩
    obtain ⟨H, rfl⟩ : ∃ y : Nat, H = y := ⟨H.toNat, by omega⟩
    have hn' : n = W * H := by rw [← Int.natCast_mul] at hn; omega
    have hn9 : n ≤ 900 := by rw [hn']; exact Nat.mul_le_mul (show W ≤ 30 by omega) (show H ≤ 30 by omega)
    have e1 : wayV W H n f m g = (allB m (okAt W H n f g) && decide (0 < m)) := by unfold wayV; rw [hv, Int.toNat_natCast, Int.toNat_natCast]; rfl
    have e2 : wayE W H n f = 0 := by unfold wayE; rw [hv, if_pos rfl]
    rw [e2]
    have HE := Lib.hid e1
    generalize wayV W H n f m g = r at HE ⊢
    have DR : Hid (∀ (k : Int) (w : World), IsInts w A n f → Gives Tryd.prog 91 #[.agg #[.int .i64 W, .int .i64 H, .slice A n cap], .int .i64 k] w (.bool (dryB n f k))) := fun k w h => rdry_any W H n cap A f k w (by omega) h
    have AN : Hid (∀ (a : Nat) (w : World), a < n → GivesI 73 #[.agg #[.int .i64 W, .int .i64 H, .slice A n cap], .int .i64 a] w (natL (nbr4 W H a))) := fun a w h => rnbr_any W H a n cap A w (by omega) (by omega) (by omega) (by rw [← hn']; exact h)
    have NE : Hid (∀ a, a < n → nbrs W H a = nbr4 W H a) := fun a h => nbrs_eq (by omega) (by rw [← hn']; exact h)
    clear e1 e2 hv hn hn'
    go_enter Tryd.func50, Tryd.ntmps50
    go_wp2_with (go_at_call 20; (first | (with_reducible show Calls _ _ _ (Later.val _) _; with_reducible refine Calls.mono (Later.call _ (V.out _ (HP.out.later ⟨_, by repeat (first | exact Below.refl _ _ | (with_reducible assumption) | apply below_later | apply below_alloc | apply below_drew | apply below_drewN)⟩))) ?_) | (with_reducible refine Calls.mono (Gives.calls (V.out _ (HP.out.later ⟨_, by repeat (first | exact Below.refl _ _ | (with_reducible assumption) | apply below_later | apply below_alloc | apply below_drew | apply below_drewN)⟩))) ?_)); rintro e w1 ⟨rfl, z, rfl⟩)
    go_loopw [6] (fun u wr => ∃ k : Nat, k ≤ m ∧ u = .int .i64 k ∧ (∀ i, i < k → okAt W H n f g i = true) ∧ ∃ x : Later (w.alloc (.cells #[.int .i64 W, .int .i64 H, .slice A n cap] 24)), wr = x.val) (fun v _ => m - (intOf v).toNat)
    case atStart => exact ⟨0, by omega, rfl, fun i hi => absurd hi (by omega), later_of (by repeat (first | exact Below.refl _ _ | (with_reducible assumption) | apply below_later | apply below_alloc | apply below_drew | apply below_drewN))⟩
    case round =>
      obtain ⟨k, hk, rfl, hall, x, rfl⟩ := hrel
      have HALL := Lib.hid hall
      clear hall
      by_cases hlt : k < m
      · obtain ⟨bb, oo, hB, q⟩ := HLL.out.at_ (by omega)
        subst hB
        have lq := q.lt
        have lq2 : bb < w.heap.size + 1 := by omega
        have ck := q.at_ k hlt
        have ck1 := q.at_ (k - 1) (by omega)
        have d1 := DR.out (g k)
        have PREV : Hid (0 < k → ∃ p : Nat, g (k - 1) = p ∧ p < n) := fun h0 => by
          have := HALL.out (k - 1) (by omega)
          unfold okAt at this
          rw [Bool.and_eq_true] at this
          obtain ⟨p, e, h, _⟩ := dryB_iff.1 this.1
          exact ⟨p, e, h⟩
        have HOK : Hid (okAt W H n f g k = (dryB n f (g k) && (decide (k = 0) || hasN (nbrs W H (g (k - 1)).toNat) (g k).toNat))) := rfl
        clear q
        cases hd : dryB n f (g k)
        · rw [hd] at d1
          have D1 := Lib.hid d1
          have HF := Lib.hid (allB_false (p := okAt W H n f g) hlt (by rw [HOK.out, hd]; rfl))
          clear d1 hd ck1
          go_wp2_with fail
          first | (with_reducible show Code.wp _ _ _ _ (Later.val _); refine wp_region_later_at _ (by kernel_rfl) (by kernel_rfl) ?_) | refine wp_region_later (by kernel_rfl) (by kernel_rfl) ?_
          repeat (go_big_quiet_step ((first | (go_at_call 91; (with_reducible refine Later.call _ (D1.out _ (HP.out.later ⟨_, by repeat (first | exact Below.refl _ _ | (with_reducible assumption) | apply below_later | apply below_alloc | apply below_drew | apply below_drewN)⟩)))))))
          refine wpQuiet_nil ?_
          intro y
          go_wp2
          go_ret2
          exact ⟨by rw [HE.out, HF.out]; rfl, later_of (by repeat (first | exact Below.refl _ _ | (with_reducible assumption) | apply below_later | apply below_alloc | apply below_drew | apply below_drewN))⟩
        · rw [hd] at d1
          have D1 := Lib.hid d1
          obtain ⟨gk, hgk, hgn, _⟩ := dryB_iff.1 hd
          have HOK2 : Hid (okAt W H n f g k = (decide (k = 0) || hasN (nbrs W H (g (k - 1)).toNat) (g k).toNat)) := by show _ = _; rw [HOK.out, hd, Bool.true_and]
          clear d1 hd HOK
          by_cases h0 : k = 0
          · subst h0
            have HN := Lib.hid (all_step (p := okAt W H n f g) HALL.out (by rw [HOK2.out]; rfl))
            have ck0 : w.cell? ⟨bb, oo, none⟩ = some (.int .i64 (g 0)) := ck
            clear ck1 hgk ck
            go_wp2_with fail
            first | (with_reducible show Code.wp _ _ _ _ (Later.val _); refine wp_region_later_at _ (by kernel_rfl) (by kernel_rfl) ?_) | refine wp_region_later (by kernel_rfl) (by kernel_rfl) ?_
            repeat (go_big_quiet_step ((first | (go_at_call 91; (with_reducible refine Later.call _ (D1.out _ (HP.out.later ⟨_, by repeat (first | exact Below.refl _ _ | (with_reducible assumption) | apply below_later | apply below_alloc | apply below_drew | apply below_drewN)⟩)))))))
            refine wpQuiet_nil ?_
            intro y
            go_wp2
            go_roundw
            case rel => exact ⟨1, by omega, rfl, HN.out, later_of (by repeat (first | exact Below.refl _ _ | (with_reducible assumption) | apply below_later | apply below_alloc | apply below_drew | apply below_drewN))⟩
            case measure => simp [intOf]; omega
          · obtain ⟨p, hp1, hpn⟩ := PREV.out (by omega)
            have hk1 : ((k : Int) - 1).toNat = k - 1 := by omega
            have hk2 : (1 : Int) ≤ (k : Int) := by omega
            have hk3 : ((k : Int) == 0) = false := by simp; omega
            have hk4 : 0 < k := by omega
            have hk5 : IntKind.i64.wrap ((k : Int) - 1) = (k : Int) - 1 := IntWalk.i64_in _ (by omega)
            have N1 := Lib.hid (fun w => AN.out p w hpn)
            have HOK3 : Hid (okAt W H n f g k = hasN (nbr4 W H p) gk) := by show _ = _; rw [HOK2.out, hp1, hgk, decide_eq_false h0, Bool.false_or, Int.toNat_natCast, Int.toNat_natCast, NE.out p hpn]
            rw [hp1] at ck1
            rw [hgk] at ck D1
            have hsub : k - 1 < m := by omega
            have l4 := nbr4_len W H p
            clear hp1 hgk HOK2 h0
            generalize nbr4 W H p = L at *
            go_wp2_with fail
            first | (with_reducible show Code.wp _ _ _ _ (Later.val _); refine wp_region_later_at _ (by kernel_rfl) (by kernel_rfl) ?_) | refine wp_region_later (by kernel_rfl) (by kernel_rfl) ?_
            repeat (go_big_quiet_step ((first | (go_at_call 91; (with_reducible refine Later.call _ (D1.out _ (HP.out.later ⟨_, by repeat (first | exact Below.refl _ _ | (with_reducible assumption) | apply below_later | apply below_alloc | apply below_drew | apply below_drewN)⟩)))))))
            refine wpQuiet_nil ?_
            intro y
            go_wp2_with fail
            first | (with_reducible show Code.wp _ _ _ _ (Later.val _); refine wp_region_tail_at _ 0 6 (by kernel_rfl) (by kernel_rfl) ?_) | refine wp_region_tail 0 6 (by kernel_rfl) (by kernel_rfl) ?_
            simp only [List.take_succ_cons, List.take_zero, List.drop_succ_cons, List.drop_zero]
            repeat (go_big_quiet_step ((fail)))
            refine wpQuiet_nil ?_
            intro y2
            go_wp2_with (go_at_call 73; refine Calls.mono (GivesI.calls (N1.out _)) ?_; rintro e w1 ⟨v, rfl, z2, rfl, ho⟩; obtain ⟨A3, cap3, rfl⟩ := ho.shape_n (n := L.length) (natL_length _))
            refine calm_normal ?_
            have zi := (ho.ints (by rw [natL_length]; omega)).2
            have ZI := Lib.hid zi
            have HBZ : Hid (Below (w.alloc (.cells #[.int .i64 W, .int .i64 H, .slice A n cap] 24)).heap.size (w.alloc (.cells #[.int .i64 W, .int .i64 H, .slice A n cap] 24)) z2.val) := below_more y2.ok z2.ok
            have cz : z2.val.cell? ⟨bb, oo + k, none⟩ = some (.int .i64 gk) := (HBZ.out.cell (p := ⟨bb, oo + k, none⟩) (by simp; omega)).trans ((World.cell?_alloc_lt _ _ _ lq).trans ck)
            have lz : bb < z2.val.heap.size := Nat.lt_of_lt_of_le (by simp; omega) HBZ.out.size
            clear zi ho ck ck1
            go_wp2
            go_loopw [7, 9] (fun u v wr => ∃ j : Nat, j ≤ L.length ∧ u = .bool (hasN (L.take j) gk) ∧ v = .int .i64 j ∧ ∃ y : Later z2.val, wr = y.val) (fun _ v _ => L.length - (intOf v).toNat)
            case atStart => exact ⟨0, by omega, rfl, rfl, ⟨z2.val, Below.refl _ _⟩, rfl⟩
            case round =>
              obtain ⟨j, hj, rfl, rfl, y, rfl⟩ := hrel
              by_cases hlj : j < L.length
              · have HST := Lib.hid (hasN_step (b := gk) hlj)
                obtain ⟨g3, o3, hA3, q3⟩ := ZI.out.at_ (by omega)
                subst hA3
                have l3 := q3.lt
                have c3 := q3.at_ j hlj
                rw [natL_nth hlj] at c3
                generalize nthL L j = nj at *
                have cy := (y.cell bb (oo + k) lz).trans cz
                have c3y := (y.cell g3 (o3 + j) l3).trans c3
                have ly : g3 < y.val.heap.size := Nat.lt_of_lt_of_le l3 y.size
                have ly2 : bb < y.val.heap.size := Nat.lt_of_lt_of_le lz y.size
                clear q3
                cases hb : hasN (L.take j) gk
                · rw [hb, Bool.false_or] at HST
                  clear hb
                  by_cases he : nj = gk
                  · subst he
                    rw [decide_eq_true rfl] at HST
                    go_wp2_with fail
                    refine wp_region_later (by kernel_rfl) (by kernel_rfl) ?_
                    repeat (go_big_quiet_step ((fail)))
                    refine wpQuiet_nil ?_
                    intro y3
                    go_wp2
                    go_roundw
                    case rel => exact ⟨j + 1, by omega, by rw [HST.out], by go_num, later_of (by repeat (first | exact Below.refl _ _ | (with_reducible assumption) | apply below_later | apply below_alloc | apply below_drew | apply below_drewN))⟩
                    case measure => simp [intOf]; omega
                  · rw [decide_eq_false he] at HST
                    have q5 : ((nj : Int) == (gk : Int)) = false := by simp; omega
                    clear he
                    go_wp2_with fail
                    refine wp_region_later (by kernel_rfl) (by kernel_rfl) ?_
                    repeat (go_big_quiet_step ((fail)))
                    refine wpQuiet_nil ?_
                    intro y3
                    go_wp2
                    go_roundw
                    case rel => exact ⟨j + 1, by omega, by rw [HST.out], by go_num, later_of (by repeat (first | exact Below.refl _ _ | (with_reducible assumption) | apply below_later | apply below_alloc | apply below_drew | apply below_drewN))⟩
                    case measure => simp [intOf]; omega
                · rw [hb, Bool.true_or] at HST
                  clear hb
                  go_wp2_with fail
                  refine wp_region_later (by kernel_rfl) (by kernel_rfl) ?_
                  repeat (go_big_quiet_step ((fail)))
                  refine wpQuiet_nil ?_
                  intro y3
                  go_wp2
                  go_roundw
                  case rel => exact ⟨j + 1, by omega, by rw [HST.out], by go_num, later_of (by repeat (first | exact Below.refl _ _ | (with_reducible assumption) | apply below_later | apply below_alloc | apply below_drew | apply below_drewN))⟩
                  case measure => simp [intOf]; omega
              · obtain rfl : j = L.length := by omega
                have e6 : L.take L.length = L := List.take_length
                rw [e6]
                clear e6
                cases hh : hasN L gk
                · have HF := Lib.hid (allB_false (p := okAt W H n f g) hlt (by rw [HOK3.out, hh]))
                  clear hh
                  go_wp2
                  go_ret2
                  exact ⟨by rw [HE.out, HF.out]; rfl, later_of (by have := HBZ.out; repeat (first | exact Below.refl _ _ | (with_reducible assumption) | apply below_later | apply below_alloc | apply below_drew | apply below_drewN))⟩
                · have HN := Lib.hid (all_step (p := okAt W H n f g) HALL.out (by rw [HOK3.out, hh]))
                  clear hh
                  go_wp2
                  go_roundw
                  case rel => exact ⟨k + 1, by omega, by go_num, HN.out, ⟨y.val, below_more HBZ.out y.ok⟩, rfl⟩
                  case measure => simp [intOf]; omega
      · obtain rfl : k = m := by omega
        have HA := Lib.hid (allB_true (p := okAt W H n f g) HALL.out)
        by_cases h0 : 0 < k
        · go_wp2
          go_ret2
          exact ⟨by rw [HE.out, HA.out]; simp [h0], later_of (by repeat (first | exact Below.refl _ _ | (with_reducible assumption) | apply below_later | apply below_alloc | apply below_drew | apply below_drewN))⟩
        · obtain rfl : k = 0 := by omega
          go_wp2
          go_ret2
          exact ⟨by rw [HE.out, HA.out]; simp, later_of (by repeat (first | exact Below.refl _ _ | (with_reducible assumption) | apply below_later | apply below_alloc | apply below_drew | apply below_drewN))⟩
end Go.Proofs.YtmielpcidhphaaaDoor
