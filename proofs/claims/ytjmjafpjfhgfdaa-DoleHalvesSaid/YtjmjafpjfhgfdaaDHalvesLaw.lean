/- The law of halves: walked. -/
import Derived.Test.YtjmjafpjfhgfdaaDTwo
import Derived.Test.YtjmjafpjfhgfdaaDRef
namespace Go.Proofs.Ytjmjafpjfhgfdaa
open Go.RowKit

theorem ints_nil (w : World) (f : Nat → Int) : IsInts w none 0 f := ⟨by omega, fun h => absurd h (by omega)⟩
set_option maxRecDepth 100000 in
set_option maxHeartbeats 6400000 in
theorem halves_law (A S : Option Addr) (k cap m cS : Nat) (R : Nat → Row) (c : Nat → Int) (w : World) (hp : IsTab w A k R) (hc : IsInts w S m c) :
    Gives Try.prog 8 #[.slice S m cS, .slice A k cap] w (.bool true) := by
  have FL := Lib.hid first_law
  have LG := Lib.hid fun (V : World) (h : Below w.heap.size w V) => Long_any k cap A R V (hp.below h)
  cases hl : longB k R
  case true =>
    rw [hl] at LG
    clear hp hc hl
    go_enter Try.func8, Try.ntmps8
    go_wp2_with (first | (go_at_call 13; with_reducible refine Calls.mono (Gives.calls (LG.out _ (by repeat (first | exact Below.refl _ _ | (with_reducible assumption) | apply below_later | apply below_alloc | apply below_drew | apply below_drewN)))) ?_; rintro e w1 ⟨rfl, z, rfl⟩) | (go_at_call 14; with_reducible refine Calls.mono (Gives.calls (FL.out _)) ?_; rintro e w1 ⟨rfl, z2, rfl⟩))
    go_ret
    exact ⟨rfl, later_of (by repeat (first | exact Below.refl _ _ | (with_reducible assumption) | apply below_later | apply below_alloc | apply below_drew | apply below_drewN))⟩
  case false =>
    rw [hl] at LG
    obtain ⟨hk, hr⟩ := long_facts hl
    clear hl
    by_cases hm : 20 < m
    · have e1 : decide ((20 : Int) < (m : Int)) = true := by simp; omega
      clear hp hc hr
      go_enter Try.func8, Try.ntmps8
      go_wp2_with (first | (go_at_call 13; with_reducible refine Calls.mono (Gives.calls (LG.out _ (by repeat (first | exact Below.refl _ _ | (with_reducible assumption) | apply below_later | apply below_alloc | apply below_drew | apply below_drewN)))) ?_; rintro e w1 ⟨rfl, z, rfl⟩) | (go_at_call 14; with_reducible refine Calls.mono (Gives.calls (FL.out _)) ?_; rintro e w1 ⟨rfl, z2, rfl⟩))
      go_ret
      exact ⟨rfl, later_of (by repeat (first | exact Below.refl _ _ | (with_reducible assumption) | apply below_later | apply below_alloc | apply below_drew | apply below_drewN))⟩
    · have e1 : decide ((20 : Int) < (m : Int)) = false := by simp; omega
      have RR := Lib.hid fun (V : World) (h : Below w.heap.size w V) => rrow_any m cS S c V (by omega) (hc.below h)
      have RV := Lib.hid fun (V : World) (h : Below w.heap.size w V) => rvalid_any k cap A R V (fun i hi => by have := hr i hi; omega) (hp.below h)
      cases hv : tabB k R
      case false =>
        have TW := Lib.hid fun (V : World) (h : Below w.heap.size w V) => Two_bad k cap A R V (hp.below h) hv
        rw [hv] at RV
        clear hv
        cases hrow : rowB m c
        case false =>
          have HB := Lib.hid fun (V : World) (h : Below w.heap.size w V) => Halves_bad m cS S c V (fun _ => hc.below h) hrow
          rw [hrow] at RR
          clear hp hc hr hrow
          go_enter Try.func8, Try.ntmps8
          go_wp2_with (first
            | (go_at_call 13; with_reducible refine Calls.mono (Gives.calls (LG.out _ (by repeat (first | exact Below.refl _ _ | (with_reducible assumption) | apply below_later | apply below_alloc | apply below_drew | apply below_drewN)))) ?_; rintro e w1 ⟨rfl, z, rfl⟩)
            | (go_at_call 14; with_reducible refine Calls.mono (Gives.calls (FL.out _)) ?_; rintro e w1 ⟨rfl, z1, rfl⟩)
            | (go_at_call 43; with_reducible refine Calls.mono (Gives.calls (RR.out _ (by repeat (first | exact Below.refl _ _ | (with_reducible assumption) | apply below_later | apply below_alloc | apply below_drew | apply below_drewN)))) ?_; rintro e w1 ⟨rfl, z2, rfl⟩)
            | (go_at_call 42; with_reducible refine Calls.mono (Gives.calls (HB.out _ (by repeat (first | exact Below.refl _ _ | (with_reducible assumption) | apply below_later | apply below_alloc | apply below_drew | apply below_drewN)))) ?_; rintro e w1 ⟨rfl, z3, rfl⟩)
            | (go_at_call 45; with_reducible refine Calls.mono (Gives.calls (TW.out _ (by repeat (first | exact Below.refl _ _ | (with_reducible assumption) | apply below_later | apply below_alloc | apply below_drew | apply below_drewN)))) ?_; rintro e w1 ⟨rfl, y1, rfl⟩)
            | (go_at_call 21; with_reducible refine Calls.mono (Gives.calls (RV.out _ (by repeat (first | exact Below.refl _ _ | (with_reducible assumption) | apply below_later | apply below_alloc | apply below_drew | apply below_drewN)))) ?_; rintro e w1 ⟨rfl, y2, rfl⟩)
            | (go_at_call 14; with_reducible refine Calls.mono (Gives.calls (FL.out _)) ?_; rintro e w1 ⟨rfl, y9, rfl⟩))
          go_ret
          exact ⟨rfl, later_of (by repeat (first | exact Below.refl _ _ | (with_reducible assumption) | apply below_later | apply below_alloc | apply below_drew | apply below_drewN))⟩
        case true =>
          have HB : Hid (∀ V, Below w.heap.size w V → Calls Try.prog 42 #[.slice S m cS] V fun e w' => ∃ v, e = .returned (.tuple #[v, .int .i64 (leastH m c), .int .i64 0]) ∧ ∃ y : Later V, w' = y.val ∧ OwnBl w' V.heap.size v (partB m (setH m c))) := fun V h => Halves_ok m cS S c V (hc.below h) hrow
          obtain ⟨hm12, hvv⟩ := rowB_iff.1 hrow
          have RH : Hid (∀ V, Below w.heap.size w V → Calls Try.prog 44 #[.slice S m cS] V fun e w' => ∃ v, e = .returned (.tuple #[v, .int .i64 (leastH m c)]) ∧ ∃ y : Later V, w' = y.val ∧ OwnBl w' V.heap.size v (partB m (setH m c))) := fun V h => rHalves_any m cS S c V hm12 hvv (hc.below h)
          have LP := Lib.hid (partB_length m (setH m c))
          rw [hrow] at RR
          generalize partB m (setH m c) = pl at *
          generalize leastH m c = le at *
          clear hp hc hr hrow hvv hm12
          have g0 : (le != le) = false := by simp
          have g1 : ((m : Int) != (m : Int)) = false := by simp
          go_enter Try.func8, Try.ntmps8
          go_wp2_with (first
            | (go_at_call 13; with_reducible refine Calls.mono (Gives.calls (LG.out _ (by repeat (first | exact Below.refl _ _ | (with_reducible assumption) | apply below_later | apply below_alloc | apply below_drew | apply below_drewN)))) ?_; rintro e w1 ⟨rfl, z, rfl⟩)
            | (go_at_call 14; with_reducible refine Calls.mono (Gives.calls (FL.out _)) ?_; rintro e w1 ⟨rfl, z1, rfl⟩)
            | (go_at_call 43; with_reducible refine Calls.mono (Gives.calls (RR.out _ (by repeat (first | exact Below.refl _ _ | (with_reducible assumption) | apply below_later | apply below_alloc | apply below_drew | apply below_drewN)))) ?_; rintro e w1 ⟨rfl, z2, rfl⟩)
            | (go_at_call 42; with_reducible refine Calls.mono (HB.out _ (by repeat (first | exact Below.refl _ _ | (with_reducible assumption) | apply below_later | apply below_alloc | apply below_drew | apply below_drewN))) ?_; rintro e w1 ⟨v, rfl, z3, rfl, ho⟩; obtain ⟨P, cP, rfl⟩ := ho.shape_n LP.out; have IP := Lib.hid (ho.bls LP.out); clear ho)
            | (go_at_call 44; with_reducible refine Calls.mono (RH.out _ (by repeat (first | exact Below.refl _ _ | (with_reducible assumption) | apply below_later | apply below_alloc | apply below_drew | apply below_drewN))) ?_; rintro e w1 ⟨v, rfl, z4, rfl, ho⟩; obtain ⟨P2, cP2, rfl⟩ := ho.shape_n LP.out; have IP2 := Lib.hid (ho.bls LP.out); clear ho))
          have HBZ : Hid (Below w.heap.size w z4.val) := by show Below _ _ _; repeat (first | exact Below.refl _ _ | (with_reducible assumption) | apply below_later | apply below_alloc | apply below_drew | apply below_drewN)
          have JP : Hid (IsBls z4.val P m pl) := IP.out.below (by repeat (first | exact Below.refl _ _ | (with_reducible assumption) | apply below_later | apply below_alloc | apply below_drew | apply below_drewN))
          have JP2 := IP2
          clear IP IP2 HB RH LG
          generalize z4.val = Z at *
          go_loopw [10] (fun u wr => ∃ i : Nat, u = .int .i64 (i : Nat) ∧ i ≤ m ∧ ∃ x : Later Z, wr = x.val) (fun u _ => m - (intOf u).toNat)
          case atStart => exact ⟨0, rfl, by omega, later_of (by repeat (first | exact Below.refl _ _ | (with_reducible assumption) | apply below_later | apply below_alloc | apply below_drew | apply below_drewN))⟩
          case round =>
            obtain ⟨i, rfl, hi, x, rfl⟩ := hrel
            by_cases hlt : i < m
            · obtain ⟨g1, e1, l1, p1⟩ := (JP.out.below x.ok).at_ (by omega)
              obtain ⟨g2, e2, l2, p2⟩ := (JP2.out.below x.ok).at_ (by omega)
              have a1 := p1 i hlt
              have a2 := p2 i hlt
              have H1 := Lib.hid e1
              have H2 := Lib.hid e2
              rw [e1, e2]
              clear p1 p2 e1 e2
              generalize pl.getD i true = px at *
              have g3 : (px != px) = false := by simp
              go_wp2_with fail
              refine wp_region_later (by kernel_rfl) (by kernel_rfl) ?_
              repeat (go_big_quiet_step ((fail)))
              refine wpQuiet_nil ?_
              intro y
              go_wp2_with fail
              try rw [← H1.out]
              try rw [← H2.out]
              first
                | (refine ⟨⟨i + 1, by go_num, by omega, later_of (by repeat (first | exact Below.refl _ _ | (with_reducible assumption) | apply below_later | apply below_alloc | apply below_drew | apply below_drewN))⟩, ?_⟩; simp [intOf]; omega)
                | (go_roundw
                   case rel => exact ⟨i + 1, by go_num, by omega, later_of (by repeat (first | exact Below.refl _ _ | (with_reducible assumption) | apply below_later | apply below_alloc | apply below_drew | apply below_drewN))⟩
                   case measure => simp [intOf]; omega)
            · obtain rfl : i = m := by omega
              have HBX : Hid (Below w.heap.size w x.val) := below_more HBZ.out x.ok
              clear JP JP2
              generalize x.val = X at *
              go_wp2_with (first
                | (go_at_call 45; with_reducible refine Calls.mono (Gives.calls (TW.out _ (below_more HBX.out (by repeat (first | exact Below.refl _ _ | (with_reducible assumption) | apply below_later | apply below_alloc | apply below_drew | apply below_drewN))))) ?_; rintro e w1 ⟨rfl, y1, rfl⟩)
                | (go_at_call 21; with_reducible refine Calls.mono (Gives.calls (RV.out _ (below_more HBX.out (by repeat (first | exact Below.refl _ _ | (with_reducible assumption) | apply below_later | apply below_alloc | apply below_drew | apply below_drewN))))) ?_; rintro e w1 ⟨rfl, y2, rfl⟩)
                | (go_at_call 14; with_reducible refine Calls.mono (Gives.calls (FL.out _)) ?_; rintro e w1 ⟨rfl, y9, rfl⟩))
              go_ret
              exact ⟨rfl, later_of (below_more HBX.out (by repeat (first | exact Below.refl _ _ | (with_reducible assumption) | apply below_later | apply below_alloc | apply below_drew | apply below_drewN)))⟩
      case true =>
        have W := tabB_iff.1 hv
        rw [hv] at RV
        clear hv
        by_cases hk2 : k = 2
        · subst hk2
          have hn12 := W.n12
          have TW : Hid (∀ V, Below w.heap.size w V → Calls Try.prog 45 #[.slice A 2 cap] V fun e w' => ∃ v, e = .returned (.tuple #[v, .int .i64 0]) ∧ ∃ x : Later V, w' = x.val ∧ OwnI w' V.heap.size v (twoL (R 0).n (R 0).f (R 1).f)) := fun V h => Two_ok cap _ A R V (hp.below h) W
          have RT := Lib.hid fun (V : World) (h : Below w.heap.size w V) => rTwo_any cap _ A R V (hp.below h) W
          have LT : Hid ((twoL (R 0).n (R 0).f (R 1).f).length = (R 0).n) := listN_length _ _
          have SI := Lib.hid fun w' A1 c1 B1 c2 (h1 : IsInts w' A1 (R 0).n fun i => (twoL (R 0).n (R 0).f (R 1).f).getD i 0) (h2 : IsInts w' B1 (R 0).n fun i => (twoL (R 0).n (R 0).f (R 1).f).getD i 0) => same_ints A1 B1 (R 0).n c1 c2 _ _ w' (by omega) h1 h2 fun _ _ => rfl
          generalize twoL (R 0).n (R 0).f (R 1).f = t at *
          clear W
          generalize (R 0).n = n at *
          cases hrow : rowB m c
          case false =>
            have HB := Lib.hid fun (V : World) (h : Below w.heap.size w V) => Halves_bad m cS S c V (fun _ => hc.below h) hrow
            rw [hrow] at RR
            clear hp hc hr hrow
            go_enter Try.func8, Try.ntmps8
            go_wp2_with (first
              | (go_at_call 13; with_reducible refine Calls.mono (Gives.calls (LG.out _ (by repeat (first | exact Below.refl _ _ | (with_reducible assumption) | apply below_later | apply below_alloc | apply below_drew | apply below_drewN)))) ?_; rintro e w1 ⟨rfl, z, rfl⟩)
              | (go_at_call 14; with_reducible refine Calls.mono (Gives.calls (FL.out _)) ?_; rintro e w1 ⟨rfl, z1, rfl⟩)
              | (go_at_call 43; with_reducible refine Calls.mono (Gives.calls (RR.out _ (by repeat (first | exact Below.refl _ _ | (with_reducible assumption) | apply below_later | apply below_alloc | apply below_drew | apply below_drewN)))) ?_; rintro e w1 ⟨rfl, z2, rfl⟩)
              | (go_at_call 42; with_reducible refine Calls.mono (Gives.calls (HB.out _ (by repeat (first | exact Below.refl _ _ | (with_reducible assumption) | apply below_later | apply below_alloc | apply below_drew | apply below_drewN)))) ?_; rintro e w1 ⟨rfl, z3, rfl⟩)
              | (go_at_call 45; with_reducible refine Calls.mono (TW.out _ (by repeat (first | exact Below.refl _ _ | (with_reducible assumption) | apply below_later | apply below_alloc | apply below_drew | apply below_drewN))) ?_; rintro e w1 ⟨v, rfl, y1, rfl, ho⟩; obtain ⟨O, cO, rfl⟩ := ho.shape_n LT.out; have IO := Lib.hid (ho.ints (by rw [LT.out]; omega)).2; clear ho)
              | (go_at_call 21; with_reducible refine Calls.mono (Gives.calls (RV.out _ (by repeat (first | exact Below.refl _ _ | (with_reducible assumption) | apply below_later | apply below_alloc | apply below_drew | apply below_drewN)))) ?_; rintro e w1 ⟨rfl, y2, rfl⟩)
              | (go_at_call 46; with_reducible refine Calls.mono (GivesI.calls (RT.out _ (by repeat (first | exact Below.refl _ _ | (with_reducible assumption) | apply below_later | apply below_alloc | apply below_drew | apply below_drewN)))) ?_; rintro e w1 ⟨v, rfl, y3, rfl, ho⟩; obtain ⟨O2, cO2, rfl⟩ := ho.shape_n LT.out; have IO2 := Lib.hid (ho.ints (by rw [LT.out]; omega)).2; clear ho)
              | (go_at_call 23; with_reducible refine Calls.mono (Gives.calls (SI.out _ _ _ _ _ (IO.out.below (by repeat (first | exact Below.refl _ _ | (with_reducible assumption) | apply below_later | apply below_alloc | apply below_drew | apply below_drewN))) (IO2.out.below (by repeat (first | exact Below.refl _ _ | (with_reducible assumption) | apply below_later | apply below_alloc | apply below_drew | apply below_drewN))))) ?_; rintro e w1 ⟨rfl, y4, rfl⟩)
              | (go_at_call 14; with_reducible refine Calls.mono (Gives.calls (FL.out _)) ?_; rintro e w1 ⟨rfl, y9, rfl⟩))
            go_ret
            exact ⟨rfl, later_of (by repeat (first | exact Below.refl _ _ | (with_reducible assumption) | apply below_later | apply below_alloc | apply below_drew | apply below_drewN))⟩
          case true =>
            have HB : Hid (∀ V, Below w.heap.size w V → Calls Try.prog 42 #[.slice S m cS] V fun e w' => ∃ v, e = .returned (.tuple #[v, .int .i64 (leastH m c), .int .i64 0]) ∧ ∃ y : Later V, w' = y.val ∧ OwnBl w' V.heap.size v (partB m (setH m c))) := fun V h => Halves_ok m cS S c V (hc.below h) hrow
            obtain ⟨hm12, hvv⟩ := rowB_iff.1 hrow
            have RH : Hid (∀ V, Below w.heap.size w V → Calls Try.prog 44 #[.slice S m cS] V fun e w' => ∃ v, e = .returned (.tuple #[v, .int .i64 (leastH m c)]) ∧ ∃ y : Later V, w' = y.val ∧ OwnBl w' V.heap.size v (partB m (setH m c))) := fun V h => rHalves_any m cS S c V hm12 hvv (hc.below h)
            have LP := Lib.hid (partB_length m (setH m c))
            rw [hrow] at RR
            generalize partB m (setH m c) = pl at *
            generalize leastH m c = le at *
            clear hp hc hr hrow hvv hm12
            have g0 : (le != le) = false := by simp
            have g1 : ((m : Int) != (m : Int)) = false := by simp
            go_enter Try.func8, Try.ntmps8
            go_wp2_with (first
              | (go_at_call 13; with_reducible refine Calls.mono (Gives.calls (LG.out _ (by repeat (first | exact Below.refl _ _ | (with_reducible assumption) | apply below_later | apply below_alloc | apply below_drew | apply below_drewN)))) ?_; rintro e w1 ⟨rfl, z, rfl⟩)
              | (go_at_call 14; with_reducible refine Calls.mono (Gives.calls (FL.out _)) ?_; rintro e w1 ⟨rfl, z1, rfl⟩)
              | (go_at_call 43; with_reducible refine Calls.mono (Gives.calls (RR.out _ (by repeat (first | exact Below.refl _ _ | (with_reducible assumption) | apply below_later | apply below_alloc | apply below_drew | apply below_drewN)))) ?_; rintro e w1 ⟨rfl, z2, rfl⟩)
              | (go_at_call 42; with_reducible refine Calls.mono (HB.out _ (by repeat (first | exact Below.refl _ _ | (with_reducible assumption) | apply below_later | apply below_alloc | apply below_drew | apply below_drewN))) ?_; rintro e w1 ⟨v, rfl, z3, rfl, ho⟩; obtain ⟨P, cP, rfl⟩ := ho.shape_n LP.out; have IP := Lib.hid (ho.bls LP.out); clear ho)
              | (go_at_call 44; with_reducible refine Calls.mono (RH.out _ (by repeat (first | exact Below.refl _ _ | (with_reducible assumption) | apply below_later | apply below_alloc | apply below_drew | apply below_drewN))) ?_; rintro e w1 ⟨v, rfl, z4, rfl, ho⟩; obtain ⟨P2, cP2, rfl⟩ := ho.shape_n LP.out; have IP2 := Lib.hid (ho.bls LP.out); clear ho))
            have HBZ : Hid (Below w.heap.size w z4.val) := by show Below _ _ _; repeat (first | exact Below.refl _ _ | (with_reducible assumption) | apply below_later | apply below_alloc | apply below_drew | apply below_drewN)
            have JP : Hid (IsBls z4.val P m pl) := IP.out.below (by repeat (first | exact Below.refl _ _ | (with_reducible assumption) | apply below_later | apply below_alloc | apply below_drew | apply below_drewN))
            have JP2 := IP2
            clear IP IP2 HB RH LG
            generalize z4.val = Z at *
            go_loopw [10] (fun u wr => ∃ i : Nat, u = .int .i64 (i : Nat) ∧ i ≤ m ∧ ∃ x : Later Z, wr = x.val) (fun u _ => m - (intOf u).toNat)
            case atStart => exact ⟨0, rfl, by omega, later_of (by repeat (first | exact Below.refl _ _ | (with_reducible assumption) | apply below_later | apply below_alloc | apply below_drew | apply below_drewN))⟩
            case round =>
              obtain ⟨i, rfl, hi, x, rfl⟩ := hrel
              by_cases hlt : i < m
              · obtain ⟨g1, e1, l1, p1⟩ := (JP.out.below x.ok).at_ (by omega)
                obtain ⟨g2, e2, l2, p2⟩ := (JP2.out.below x.ok).at_ (by omega)
                have a1 := p1 i hlt
                have a2 := p2 i hlt
                have H1 := Lib.hid e1
                have H2 := Lib.hid e2
                rw [e1, e2]
                clear p1 p2 e1 e2
                generalize pl.getD i true = px at *
                have g3 : (px != px) = false := by simp
                go_wp2_with fail
                refine wp_region_later (by kernel_rfl) (by kernel_rfl) ?_
                repeat (go_big_quiet_step ((fail)))
                refine wpQuiet_nil ?_
                intro y
                go_wp2_with fail
                try rw [← H1.out]
                try rw [← H2.out]
                first
                  | (refine ⟨⟨i + 1, by go_num, by omega, later_of (by repeat (first | exact Below.refl _ _ | (with_reducible assumption) | apply below_later | apply below_alloc | apply below_drew | apply below_drewN))⟩, ?_⟩; simp [intOf]; omega)
                  | (go_roundw
                     case rel => exact ⟨i + 1, by go_num, by omega, later_of (by repeat (first | exact Below.refl _ _ | (with_reducible assumption) | apply below_later | apply below_alloc | apply below_drew | apply below_drewN))⟩
                     case measure => simp [intOf]; omega)
              · obtain rfl : i = m := by omega
                have HBX : Hid (Below w.heap.size w x.val) := below_more HBZ.out x.ok
                clear JP JP2
                generalize x.val = X at *
                go_wp2_with (first
                  | (go_at_call 45; with_reducible refine Calls.mono (TW.out _ (below_more HBX.out (by repeat (first | exact Below.refl _ _ | (with_reducible assumption) | apply below_later | apply below_alloc | apply below_drew | apply below_drewN)))) ?_; rintro e w1 ⟨v, rfl, y1, rfl, ho⟩; obtain ⟨O, cO, rfl⟩ := ho.shape_n LT.out; have IO := Lib.hid (ho.ints (by rw [LT.out]; omega)).2; clear ho)
                  | (go_at_call 21; with_reducible refine Calls.mono (Gives.calls (RV.out _ (below_more HBX.out (by repeat (first | exact Below.refl _ _ | (with_reducible assumption) | apply below_later | apply below_alloc | apply below_drew | apply below_drewN))))) ?_; rintro e w1 ⟨rfl, y2, rfl⟩)
                  | (go_at_call 46; with_reducible refine Calls.mono (GivesI.calls (RT.out _ (below_more HBX.out (by repeat (first | exact Below.refl _ _ | (with_reducible assumption) | apply below_later | apply below_alloc | apply below_drew | apply below_drewN))))) ?_; rintro e w1 ⟨v, rfl, y3, rfl, ho⟩; obtain ⟨O2, cO2, rfl⟩ := ho.shape_n LT.out; have IO2 := Lib.hid (ho.ints (by rw [LT.out]; omega)).2; clear ho)
                  | (go_at_call 23; with_reducible refine Calls.mono (Gives.calls (SI.out _ _ _ _ _ (IO.out.below (by repeat (first | exact Below.refl _ _ | (with_reducible assumption) | apply below_later | apply below_alloc | apply below_drew | apply below_drewN))) (IO2.out.below (by repeat (first | exact Below.refl _ _ | (with_reducible assumption) | apply below_later | apply below_alloc | apply below_drew | apply below_drewN))))) ?_; rintro e w1 ⟨rfl, y4, rfl⟩)
                  | (go_at_call 14; with_reducible refine Calls.mono (Gives.calls (FL.out _)) ?_; rintro e w1 ⟨rfl, y9, rfl⟩))
                go_ret
                exact ⟨rfl, later_of (below_more HBX.out (by repeat (first | exact Below.refl _ _ | (with_reducible assumption) | apply below_later | apply below_alloc | apply below_drew | apply below_drewN)))⟩
        · have TW := Lib.hid fun (V : World) (h : Below w.heap.size w V) => Two_arg k cap _ A R V (hp.below h) W hk2
          have e9 : ((k : Int) != 2) = true := by simp; omega
          clear W hk2
          cases hrow : rowB m c
          case false =>
            have HB := Lib.hid fun (V : World) (h : Below w.heap.size w V) => Halves_bad m cS S c V (fun _ => hc.below h) hrow
            rw [hrow] at RR
            clear hp hc hr hrow
            go_enter Try.func8, Try.ntmps8
            go_wp2_with (first
              | (go_at_call 13; with_reducible refine Calls.mono (Gives.calls (LG.out _ (by repeat (first | exact Below.refl _ _ | (with_reducible assumption) | apply below_later | apply below_alloc | apply below_drew | apply below_drewN)))) ?_; rintro e w1 ⟨rfl, z, rfl⟩)
              | (go_at_call 14; with_reducible refine Calls.mono (Gives.calls (FL.out _)) ?_; rintro e w1 ⟨rfl, z1, rfl⟩)
              | (go_at_call 43; with_reducible refine Calls.mono (Gives.calls (RR.out _ (by repeat (first | exact Below.refl _ _ | (with_reducible assumption) | apply below_later | apply below_alloc | apply below_drew | apply below_drewN)))) ?_; rintro e w1 ⟨rfl, z2, rfl⟩)
              | (go_at_call 42; with_reducible refine Calls.mono (Gives.calls (HB.out _ (by repeat (first | exact Below.refl _ _ | (with_reducible assumption) | apply below_later | apply below_alloc | apply below_drew | apply below_drewN)))) ?_; rintro e w1 ⟨rfl, z3, rfl⟩)
              | (go_at_call 45; with_reducible refine Calls.mono (Gives.calls (TW.out _ (by repeat (first | exact Below.refl _ _ | (with_reducible assumption) | apply below_later | apply below_alloc | apply below_drew | apply below_drewN)))) ?_; rintro e w1 ⟨rfl, y1, rfl⟩)
              | (go_at_call 21; with_reducible refine Calls.mono (Gives.calls (RV.out _ (by repeat (first | exact Below.refl _ _ | (with_reducible assumption) | apply below_later | apply below_alloc | apply below_drew | apply below_drewN)))) ?_; rintro e w1 ⟨rfl, y2, rfl⟩)
              | (go_at_call 14; with_reducible refine Calls.mono (Gives.calls (FL.out _)) ?_; rintro e w1 ⟨rfl, y9, rfl⟩))
            go_ret
            exact ⟨rfl, later_of (by repeat (first | exact Below.refl _ _ | (with_reducible assumption) | apply below_later | apply below_alloc | apply below_drew | apply below_drewN))⟩
          case true =>
            have HB : Hid (∀ V, Below w.heap.size w V → Calls Try.prog 42 #[.slice S m cS] V fun e w' => ∃ v, e = .returned (.tuple #[v, .int .i64 (leastH m c), .int .i64 0]) ∧ ∃ y : Later V, w' = y.val ∧ OwnBl w' V.heap.size v (partB m (setH m c))) := fun V h => Halves_ok m cS S c V (hc.below h) hrow
            obtain ⟨hm12, hvv⟩ := rowB_iff.1 hrow
            have RH : Hid (∀ V, Below w.heap.size w V → Calls Try.prog 44 #[.slice S m cS] V fun e w' => ∃ v, e = .returned (.tuple #[v, .int .i64 (leastH m c)]) ∧ ∃ y : Later V, w' = y.val ∧ OwnBl w' V.heap.size v (partB m (setH m c))) := fun V h => rHalves_any m cS S c V hm12 hvv (hc.below h)
            have LP := Lib.hid (partB_length m (setH m c))
            rw [hrow] at RR
            generalize partB m (setH m c) = pl at *
            generalize leastH m c = le at *
            clear hp hc hr hrow hvv hm12
            have g0 : (le != le) = false := by simp
            have g1 : ((m : Int) != (m : Int)) = false := by simp
            go_enter Try.func8, Try.ntmps8
            go_wp2_with (first
              | (go_at_call 13; with_reducible refine Calls.mono (Gives.calls (LG.out _ (by repeat (first | exact Below.refl _ _ | (with_reducible assumption) | apply below_later | apply below_alloc | apply below_drew | apply below_drewN)))) ?_; rintro e w1 ⟨rfl, z, rfl⟩)
              | (go_at_call 14; with_reducible refine Calls.mono (Gives.calls (FL.out _)) ?_; rintro e w1 ⟨rfl, z1, rfl⟩)
              | (go_at_call 43; with_reducible refine Calls.mono (Gives.calls (RR.out _ (by repeat (first | exact Below.refl _ _ | (with_reducible assumption) | apply below_later | apply below_alloc | apply below_drew | apply below_drewN)))) ?_; rintro e w1 ⟨rfl, z2, rfl⟩)
              | (go_at_call 42; with_reducible refine Calls.mono (HB.out _ (by repeat (first | exact Below.refl _ _ | (with_reducible assumption) | apply below_later | apply below_alloc | apply below_drew | apply below_drewN))) ?_; rintro e w1 ⟨v, rfl, z3, rfl, ho⟩; obtain ⟨P, cP, rfl⟩ := ho.shape_n LP.out; have IP := Lib.hid (ho.bls LP.out); clear ho)
              | (go_at_call 44; with_reducible refine Calls.mono (RH.out _ (by repeat (first | exact Below.refl _ _ | (with_reducible assumption) | apply below_later | apply below_alloc | apply below_drew | apply below_drewN))) ?_; rintro e w1 ⟨v, rfl, z4, rfl, ho⟩; obtain ⟨P2, cP2, rfl⟩ := ho.shape_n LP.out; have IP2 := Lib.hid (ho.bls LP.out); clear ho))
            have HBZ : Hid (Below w.heap.size w z4.val) := by show Below _ _ _; repeat (first | exact Below.refl _ _ | (with_reducible assumption) | apply below_later | apply below_alloc | apply below_drew | apply below_drewN)
            have JP : Hid (IsBls z4.val P m pl) := IP.out.below (by repeat (first | exact Below.refl _ _ | (with_reducible assumption) | apply below_later | apply below_alloc | apply below_drew | apply below_drewN))
            have JP2 := IP2
            clear IP IP2 HB RH LG
            generalize z4.val = Z at *
            go_loopw [10] (fun u wr => ∃ i : Nat, u = .int .i64 (i : Nat) ∧ i ≤ m ∧ ∃ x : Later Z, wr = x.val) (fun u _ => m - (intOf u).toNat)
            case atStart => exact ⟨0, rfl, by omega, later_of (by repeat (first | exact Below.refl _ _ | (with_reducible assumption) | apply below_later | apply below_alloc | apply below_drew | apply below_drewN))⟩
            case round =>
              obtain ⟨i, rfl, hi, x, rfl⟩ := hrel
              by_cases hlt : i < m
              · obtain ⟨g1, e1, l1, p1⟩ := (JP.out.below x.ok).at_ (by omega)
                obtain ⟨g2, e2, l2, p2⟩ := (JP2.out.below x.ok).at_ (by omega)
                have a1 := p1 i hlt
                have a2 := p2 i hlt
                have H1 := Lib.hid e1
                have H2 := Lib.hid e2
                rw [e1, e2]
                clear p1 p2 e1 e2
                generalize pl.getD i true = px at *
                have g3 : (px != px) = false := by simp
                go_wp2_with fail
                refine wp_region_later (by kernel_rfl) (by kernel_rfl) ?_
                repeat (go_big_quiet_step ((fail)))
                refine wpQuiet_nil ?_
                intro y
                go_wp2_with fail
                try rw [← H1.out]
                try rw [← H2.out]
                first
                  | (refine ⟨⟨i + 1, by go_num, by omega, later_of (by repeat (first | exact Below.refl _ _ | (with_reducible assumption) | apply below_later | apply below_alloc | apply below_drew | apply below_drewN))⟩, ?_⟩; simp [intOf]; omega)
                  | (go_roundw
                     case rel => exact ⟨i + 1, by go_num, by omega, later_of (by repeat (first | exact Below.refl _ _ | (with_reducible assumption) | apply below_later | apply below_alloc | apply below_drew | apply below_drewN))⟩
                     case measure => simp [intOf]; omega)
              · obtain rfl : i = m := by omega
                have HBX : Hid (Below w.heap.size w x.val) := below_more HBZ.out x.ok
                clear JP JP2
                generalize x.val = X at *
                go_wp2_with (first
                  | (go_at_call 45; with_reducible refine Calls.mono (Gives.calls (TW.out _ (below_more HBX.out (by repeat (first | exact Below.refl _ _ | (with_reducible assumption) | apply below_later | apply below_alloc | apply below_drew | apply below_drewN))))) ?_; rintro e w1 ⟨rfl, y1, rfl⟩)
                  | (go_at_call 21; with_reducible refine Calls.mono (Gives.calls (RV.out _ (below_more HBX.out (by repeat (first | exact Below.refl _ _ | (with_reducible assumption) | apply below_later | apply below_alloc | apply below_drew | apply below_drewN))))) ?_; rintro e w1 ⟨rfl, y2, rfl⟩)
                  | (go_at_call 14; with_reducible refine Calls.mono (Gives.calls (FL.out _)) ?_; rintro e w1 ⟨rfl, y9, rfl⟩))
                go_ret
                exact ⟨rfl, later_of (below_more HBX.out (by repeat (first | exact Below.refl _ _ | (with_reducible assumption) | apply below_later | apply below_alloc | apply below_drew | apply below_drewN)))⟩
end Go.Proofs.Ytjmjafpjfhgfdaa
