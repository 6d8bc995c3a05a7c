/- bed.IsWay. -/
import Derived.Test.YtmielpcidhphaaaDoorDry
import Derived.IntWalk
import Derived.Test.YtmielpcidhphaaaDoorAreN
namespace Go.Proofs.YtmielpcidhphaaaDoor
open Go.RowKit

/-- May square i of a list follow the one before? -/
def okAt (W H n : Nat) (f g : Nat → Int) (i : Nat) : Bool := dryB n f (g i) && (decide (i = 0) || hasN (nbrs W H (g (i - 1)).toNat) (g i).toNat)
/-- What IsWay answers. -/
def wayV (W H : Int) (n : Nat) (f : Nat → Int) (m : Nat) (g : Nat → Int) : Bool := validM W H n f && (allB m (okAt W.toNat H.toNat n f g) && decide (0 < m))
def wayE (W H : Int) (n : Nat) (f : Nat → Int) : Int := if validM W H n f = true then 0 else 20

set_option maxRecDepth 100000 in
set_option maxHeartbeats 3200000 in
theorem isWay_any (W H : Int) (n cap m c2 : Nat) (A B : Option Addr) (f g : Nat → Int) (w : World) (hp : IsInts w A n f) (hl : IsInts w B m g) (hm : m ≤ 1000) :
    Gives Tryd.prog 49 #[.agg #[.int .i64 W, .int .i64 H, .slice A n cap], .slice B m c2] w (.tuple #[.bool (wayV W H n f m g), .int .i64 (wayE W H n f)]) := by
  have HP := Lib.hid hp
  have HLL := Lib.hid hl
  clear hp hl
  cases hv : validM W H n f
  · have V : Hid (∀ w', IsInts w' A n f → Gives Tryd.prog 19 #[.agg #[.int .i64 W, .int .i64 H, .slice A n cap]] w' (.bool false)) := fun w' h => hv ▸ bvalid_any W H A n cap f w' h
    have e1 : wayV W H n f m g = false := by unfold wayV; rw [hv]; rfl
    have e2 : wayE W H n f = 20 := by unfold wayE; rw [hv, if_neg (by simp)]
    rw [e1, e2]
    clear e1 e2 hv
    go_enter Tryd.func49, Tryd.ntmps49
    go_wp2_with (go_at_call 19; (first | (with_reducible show Calls _ _ _ (Later.val _) _; with_reducible refine Calls.mono (Later.call _ (V.out _ (HP.out.later ⟨_, by repeat (first | exact Below.refl _ _ | (with_reducible assumption) | apply below_later | apply below_alloc | apply below_drew | apply below_drewN)⟩))) ?_) | (with_reducible refine Calls.mono (Gives.calls (V.out _ (HP.out.later ⟨_, by repeat (first | exact Below.refl _ _ | (with_reducible assumption) | apply below_later | apply below_alloc | apply below_drew | apply below_drewN)⟩))) ?_)); rintro e w1 ⟨rfl, z, rfl⟩)
    go_ret2
    exact ⟨rfl, later_of (by repeat (first | exact Below.refl _ _ | (with_reducible assumption) | apply below_later | apply below_alloc | apply below_drew | apply below_drewN))⟩
  · have V : Hid (∀ w', IsInts w' A n f → Gives Tryd.prog 19 #[.agg #[.int .i64 W, .int .i64 H, .slice A n cap]] w' (.bool true)) := fun w' h => hv ▸ bvalid_any W H A n cap f w' h
    obtain ⟨⟨v1, v2⟩, ⟨v3, v4⟩, hn, _⟩ := validM_iff.1 hv
    obtain ⟨W, rfl⟩ : ∃ x : Nat, W = x := ⟨W.toNat, by omega⟩
    obtain ⟨H, rfl⟩ : ∃ y : Nat, H = y := ⟨H.toNat, by omega⟩
    have hn' : n = W * H := by rw [← Int.natCast_mul] at hn; omega
    have hn9 : n ≤ 900 := by rw [hn']; exact Nat.mul_le_mul (show W ≤ 30 by omega) (show H ≤ 30 by omega)
    have e1 : wayV W H n f m g = (allB m (okAt W H n f g) && decide (0 < m)) := by unfold wayV; rw [hv, Int.toNat_natCast, Int.toNat_natCast]; rfl
    have e2 : wayE W H n f = 0 := by unfold wayE; rw [hv, if_pos rfl]
    rw [e2]
    have HE := Lib.hid e1
    generalize wayV W H n f m g = r at HE ⊢
    have DR : Hid (∀ (k : Int) (w : World), IsInts w A n f → Gives Tryd.prog 89 #[.agg #[.int .i64 W, .int .i64 H, .slice A n cap], .int .i64 k] w (.bool (dryB n f k))) := fun k w h => dry_any W H n cap A f k w (by omega) h
    have AN : Hid (∀ (a b : Nat) (w : World), a < n → Gives Tryd.prog 94 #[.agg #[.int .i64 W, .int .i64 H, .slice A n cap], .int .i64 a, .int .i64 b] w (.bool (hasN (nbrs W H a) b))) := fun a b w h => areN_any W H a n cap b A w (by omega) (by omega) (by omega) (by rw [← hn']; exact h)
    clear e1 e2 hv hn hn'
    go_enter Tryd.func49, Tryd.ntmps49
    go_wp2_with (go_at_call 19; (first | (with_reducible show Calls _ _ _ (Later.val _) _; with_reducible refine Calls.mono (Later.call _ (V.out _ (HP.out.later ⟨_, by repeat (first | exact Below.refl _ _ | (with_reducible assumption) | apply below_later | apply below_alloc | apply below_drew | apply below_drewN)⟩))) ?_) | (with_reducible refine Calls.mono (Gives.calls (V.out _ (HP.out.later ⟨_, by repeat (first | exact Below.refl _ _ | (with_reducible assumption) | apply below_later | apply below_alloc | apply below_drew | apply below_drewN)⟩))) ?_)); rintro e w1 ⟨rfl, z, rfl⟩)
    go_loopw [13] (fun u wr => ∃ k : Nat, k ≤ m ∧ u = .int .i64 k ∧ (∀ i, i < k → okAt W H n f g i = true) ∧ ∃ x : Later (w.alloc (.cells #[.int .i64 W, .int .i64 H, .slice A n cap] 24)), wr = x.val) (fun v _ => m - (intOf v).toNat)
    case atStart => exact ⟨0, by omega, rfl, fun i hi => absurd hi (by omega), later_of (by repeat (first | exact Below.refl _ _ | (with_reducible assumption) | apply below_later | apply below_alloc | apply below_drew | apply below_drewN))⟩
    case round =>
      obtain ⟨k, hk, rfl, hall, x, rfl⟩ := hrel
      have HALL := Lib.hid hall
      clear hall
      by_cases hlt : k < m
      · obtain ⟨bb, oo, hB, q⟩ := HLL.out.at_ (by omega)
        subst hB
        have lq := q.lt
        have lq2 : bb < w.heap.size + 1 := by omega
        have ck := q.at_ k hlt
        have ck1 := q.at_ (k - 1) (by omega)
        have d1 := DR.out (g k)
        have PREV : Hid (0 < k → ∃ p : Nat, g (k - 1) = p ∧ p < n) := fun h0 => by
          have := HALL.out (k - 1) (by omega)
          unfold okAt at this
          rw [Bool.and_eq_true] at this
          obtain ⟨p, e, h, _⟩ := dryB_iff.1 this.1
          exact ⟨p, e, h⟩
        have HOK : Hid (okAt W H n f g k = (dryB n f (g k) && (decide (k = 0) || hasN (nbrs W H (g (k - 1)).toNat) (g k).toNat))) := rfl
        clear q
        cases hd : dryB n f (g k)
        · rw [hd] at d1
          have D1 := Lib.hid d1
          have HF := Lib.hid (allB_false (p := okAt W H n f g) hlt (by rw [HOK.out, hd]; rfl))
          clear d1 hd ck1
          go_wp2_with fail
          first | (with_reducible show Code.wp _ _ _ _ (Later.val _); refine wp_region_later_at _ (by kernel_rfl) (by kernel_rfl) ?_) | refine wp_region_later (by kernel_rfl) (by kernel_rfl) ?_
          repeat (go_big_quiet_step ((first | (go_at_call 89; (with_reducible refine Later.call _ (D1.out _ (HP.out.later ⟨_, by repeat (first | exact Below.refl _ _ | (with_reducible assumption) | apply below_later | apply below_alloc | apply below_drew | apply below_drewN)⟩)))))))
          refine wpQuiet_nil ?_
          intro y
          go_wp2
          go_ret2
          exact ⟨by rw [HE.out, HF.out]; rfl, later_of (by repeat (first | exact Below.refl _ _ | (with_reducible assumption) | apply below_later | apply below_alloc | apply below_drew | apply below_drewN))⟩
        · rw [hd] at d1
          have D1 := Lib.hid d1
          obtain ⟨gk, hgk, hgn, _⟩ := dryB_iff.1 hd
          have HOK2 : Hid (okAt W H n f g k = (decide (k = 0) || hasN (nbrs W H (g (k - 1)).toNat) (g k).toNat)) := by show _ = _; rw [HOK.out, hd, Bool.true_and]
          clear d1 hd HOK
          by_cases h0 : k = 0
          · subst h0
            have HN := Lib.hid (all_step (p := okAt W H n f g) HALL.out (by rw [HOK2.out]; rfl))
            have ck0 : w.cell? ⟨bb, oo, none⟩ = some (.int .i64 (g 0)) := ck
            clear ck1 hgk ck
            go_wp2_with fail
            first | (with_reducible show Code.wp _ _ _ _ (Later.val _); refine wp_region_later_at _ (by kernel_rfl) (by kernel_rfl) ?_) | refine wp_region_later (by kernel_rfl) (by kernel_rfl) ?_
            repeat (go_big_quiet_step ((first | (go_at_call 89; (with_reducible refine Later.call _ (D1.out _ (HP.out.later ⟨_, by repeat (first | exact Below.refl _ _ | (with_reducible assumption) | apply below_later | apply below_alloc | apply below_drew | apply below_drewN)⟩)))))))
            refine wpQuiet_nil ?_
            intro y
            go_wp2
            go_roundw
            case rel => exact ⟨1, by omega, rfl, HN.out, later_of (by repeat (first | exact Below.refl _ _ | (with_reducible assumption) | apply below_later | apply below_alloc | apply below_drew | apply below_drewN))⟩
            case measure => simp [intOf]; omega
          · obtain ⟨p, hp1, hpn⟩ := PREV.out (by omega)
            have hk1 : ((k : Int) - 1).toNat = k - 1 := by omega
            have hk2 : (1 : Int) ≤ (k : Int) := by omega
            have hk3 : decide ((0 : Int) < (k : Int)) = true := by simp; omega
            have hk4 : 0 < k := by omega
            have hk5 : IntKind.i64.wrap ((k : Int) - 1) = (k : Int) - 1 := IntWalk.i64_in _ (by omega)
            have N1 := AN.out p gk
            have HOK3 : Hid (okAt W H n f g k = hasN (nbrs W H p) gk) := by show _ = _; rw [HOK2.out, hp1, hgk, decide_eq_false h0, Bool.false_or, Int.toNat_natCast, Int.toNat_natCast]
            rw [hp1] at ck1
            rw [hgk] at ck D1
            have hsub : k - 1 < m := by omega
            clear hp1 hgk HOK2
            cases hh : hasN (nbrs W H p) gk
            · rw [hh] at N1
              have N2 := Lib.hid (fun w => N1 w hpn)
              have HF := Lib.hid (allB_false (p := okAt W H n f g) hlt (by rw [HOK3.out, hh]))
              clear N1 hh
              go_wp2_with fail
              first | (with_reducible show Code.wp _ _ _ _ (Later.val _); refine wp_region_later_at _ (by kernel_rfl) (by kernel_rfl) ?_) | refine wp_region_later (by kernel_rfl) (by kernel_rfl) ?_
              repeat (go_big_quiet_step ((first | (go_at_call 89; (with_reducible refine Later.call _ (D1.out _ (HP.out.later ⟨_, by repeat (first | exact Below.refl _ _ | (with_reducible assumption) | apply below_later | apply below_alloc | apply below_drew | apply below_drewN)⟩)))) | (go_at_call 94; (with_reducible refine Later.call _ (N2.out _))))))
              refine wpQuiet_nil ?_
              intro y
              go_wp2
              go_ret2
              exact ⟨by rw [HE.out, HF.out]; rfl, later_of (by repeat (first | exact Below.refl _ _ | (with_reducible assumption) | apply below_later | apply below_alloc | apply below_drew | apply below_drewN))⟩
            · rw [hh] at N1
              have N2 := Lib.hid (fun w => N1 w hpn)
              have HN := Lib.hid (all_step (p := okAt W H n f g) HALL.out (by rw [HOK3.out, hh]))
              clear N1 hh
              go_wp2_with fail
              first | (with_reducible show Code.wp _ _ _ _ (Later.val _); refine wp_region_later_at _ (by kernel_rfl) (by kernel_rfl) ?_) | refine wp_region_later (by kernel_rfl) (by kernel_rfl) ?_
              repeat (go_big_quiet_step ((first | (go_at_call 89; (with_reducible refine Later.call _ (D1.out _ (HP.out.later ⟨_, by repeat (first | exact Below.refl _ _ | (with_reducible assumption) | apply below_later | apply below_alloc | apply below_drew | apply below_drewN)⟩)))) | (go_at_call 94; (with_reducible refine Later.call _ (N2.out _))))))
              refine wpQuiet_nil ?_
              intro y
              go_wp2
              go_roundw
              case rel => exact ⟨k + 1, by omega, by go_num, HN.out, later_of (by repeat (first | exact Below.refl _ _ | (with_reducible assumption) | apply below_later | apply below_alloc | apply below_drew | apply below_drewN))⟩
              case measure => simp [intOf]; omega
      · obtain rfl : k = m := by omega
        have HA := Lib.hid (allB_true (p := okAt W H n f g) HALL.out)
        by_cases h0 : 0 < k
        · go_wp2
          go_ret2
          exact ⟨by rw [HE.out, HA.out]; simp [h0], later_of (by repeat (first | exact Below.refl _ _ | (with_reducible assumption) | apply below_later | apply below_alloc | apply below_drew | apply below_drewN))⟩
        · obtain rfl : k = 0 := by omega
          go_wp2
          go_ret2
          exact ⟨by rw [HE.out, HA.out]; simp, later_of (by repeat (first | exact Below.refl _ _ | (with_reducible assumption) | apply below_later | apply below_alloc | apply below_drew | apply below_drewN))⟩
end Go.Proofs.YtmielpcidhphaaaDoor
