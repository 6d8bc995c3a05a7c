/- The law of turns: walked. -/
import Derived.Test.YtjmjafpjfhgfdaaDTurnsM
import Derived.Test.YtjmjafpjfhgfdaaDBig
import Derived.Test.YtjmjafpjfhgfdaaDFirst
import Derived.Test.YtjmjafpjfhgfdaaDEnviesLaw
namespace Go.Proofs.Ytjmjafpjfhgfdaa
open Go.RowKit

set_option maxRecDepth 100000 in
set_option maxHeartbeats 6400000 in
theorem turns_law (A S : Option Addr) (k cap m cS : Nat) (R : Nat → Row) (s : Nat → Int) (w : World) (hm : m ≤ 9223372036854775807) (hp : IsTab w A k R) (hs : IsInts w S m s) :
    Gives Try.prog 10 #[.slice A k cap, .slice S m cS] w (.bool true) := by
  have FL := Lib.hid first_law
  have LG := Lib.hid fun (V : World) (h : Below w.heap.size w V) => Long_any k cap A R V (hp.below h)
  cases hl : longB k R
  case true =>
    rw [hl] at LG
    clear hp hs hl
    go_enter Try.func10, Try.ntmps10
    go_wp2_with (first | (go_at_call 13; with_reducible refine Calls.mono (Gives.calls (LG.out _ (by repeat (first | exact Below.refl _ _ | (with_reducible assumption) | apply below_later | apply below_alloc | apply below_drew | apply below_drewN)))) ?_; rintro e w1 ⟨rfl, z, rfl⟩) | (go_at_call 14; with_reducible refine Calls.mono (Gives.calls (FL.out _)) ?_; rintro e w1 ⟨rfl, z2, rfl⟩))
    go_ret
    exact ⟨rfl, later_of (by repeat (first | exact Below.refl _ _ | (with_reducible assumption) | apply below_later | apply below_alloc | apply below_drew | apply below_drewN))⟩
  case false =>
    rw [hl] at LG
    obtain ⟨hk, hr⟩ := long_facts hl
    clear hl
    have WH := Lib.hid fun (V : World) (h : Below w.heap.size w V) => why_big k cap m cS A S R s V (fun i hi => by have := hr i hi; omega) hm (hp.below h) (hs.below h)
    by_cases hE : errE k R m s = 0
    · obtain ⟨W, hmn, hin⟩ := errE_ok hE
      have hk6 := W.k6
      have hn12 := W.n12
      rw [hE] at WH
      have CI : Hid (∀ V, Below w.heap.size w V → Calls Try.prog 35 #[.slice A k cap, .slice S m cS] V fun e w' => ∃ A9 c9, e = .returned (.tuple #[.slice A9 (circA (envT R s m) k).length c9, .int .i64 0]) ∧ (∃ x : Later V, w' = x.val) ∧ IsInts w' A9 (circA (envT R s m) k).length (zl (circA (envT R s m) k)) ∧ (circA (envT R s m) k).length ≤ c9) := fun V h => Circle_ok k cap m cS A S R s V (hp.below h) (hs.below h) hE
      have EN : Hid (∀ V, Below w.heap.size w V → Calls Try.prog 26 #[.slice A k cap, .slice S m cS] V fun e w' => ∃ v, e = .returned (.tuple #[v, .int .i64 0]) ∧ ∃ x : Later V, w' = x.val ∧ OwnQ w' V.heap.size v (prsT (envT R s m) k k)) := fun V h => Envies_ok k cap m cS A S R s V (hp.below h) (hs.below h) hE
      by_cases hne : circA (envT R s m) k = []
      · rw [hne] at CI
        generalize prsT (envT R s m) k k = Q at *
        obtain ⟨q, hq⟩ : ∃ q, Q.length = q := ⟨_, rfl⟩
        have HQ := Lib.hid hq
        clear hp hs hr hE W hmn hin hne hq
        have e0 : Hid (([] : List Nat).length = 0) := rfl
        by_cases hq0 : q = 0
        all_goals
          (have d0 : decide ((q : Int) = 0) = decide (q = 0) := by simp
           go_enter Try.func10, Try.ntmps10
           go_wp2_with (first
             | (go_at_call 13; with_reducible refine Calls.mono (Gives.calls (LG.out _ (by repeat (first | exact Below.refl _ _ | (with_reducible assumption) | apply below_later | apply below_alloc | apply below_drew | apply below_drewN)))) ?_; rintro e w1 ⟨rfl, z, rfl⟩)
             | (go_at_call 19; with_reducible refine Calls.mono (Gives.calls (WH.out _ (by repeat (first | exact Below.refl _ _ | (with_reducible assumption) | apply below_later | apply below_alloc | apply below_drew | apply below_drewN)))) ?_; rintro e w1 ⟨rfl, z1, rfl⟩)
             | (go_at_call 35; with_reducible refine Calls.mono (CI.out _ (by repeat (first | exact Below.refl _ _ | (with_reducible assumption) | apply below_later | apply below_alloc | apply below_drew | apply below_drewN))) ?_; rintro e w1 ⟨O, cO, rfl, ⟨z2, rfl⟩, ho, hc9⟩; rw [e0.out]; clear ho hc9)
             | (go_at_call 26; with_reducible refine Calls.mono (EN.out _ (by repeat (first | exact Below.refl _ _ | (with_reducible assumption) | apply below_later | apply below_alloc | apply below_drew | apply below_drewN))) ?_; rintro e w1 ⟨v, rfl, z3, rfl, ho⟩; obtain ⟨O2, cO2, rfl⟩ := ho.shape_n HQ.out; clear ho)
             | (go_at_call 14; with_reducible refine Calls.mono (Gives.calls (FL.out _)) ?_; rintro e w1 ⟨rfl, z4, rfl⟩))
           go_ret
           exact ⟨rfl, later_of (by repeat (first | exact Below.refl _ _ | (with_reducible assumption) | apply below_later | apply below_alloc | apply below_drew | apply below_drewN))⟩)
      · have T := turns_ok hE hne
        generalize circA (envT R s m) k = l at *
        have hl2 := T.two
        have hlk := T.len
        obtain ⟨hm0, hl0⟩ := turn_needs W (by omega) T.cir
        have TU : Hid (∀ V L cL, Below w.heap.size w V → l.length ≤ cL → IsInts V L l.length (zl l) → Calls Try.prog 36 #[.slice A k cap, .slice S m cS, .slice L l.length cL] V fun e w' => ∃ v, e = .returned (.tuple #[v, .int .i64 0]) ∧ ∃ x : Later V, w' = x.val ∧ OwnI w' V.heap.size v (listN (aft l s) m)) := fun V L cL h hc hi => Turn_ok k cap m cS l.length cL A S L R s (zl l) V (by omega) hc (hp.below h) (hs.below h) hi hE T.cir
        have BE : Hid (∀ V O cO, Below w.heap.size w V → IsInts V O m (aft l s) → Gives Try.prog 47 #[.slice A k cap, .slice O m cO, .slice S m cS] V (.tuple #[.bool true, .int .i64 0])) := fun V O cO h hi => T.bet ▸ Better_ok k cap m cO cS A O S R (aft l s) s V (hp.below h) hi (hs.below h) T.err hE
        have WO : Hid (∀ V, Below w.heap.size w V → Calls Try.prog 16 #[.slice A k cap, .slice S m cS] V fun e w' => ∃ v, e = .returned (.tuple #[v, .int .i64 0]) ∧ ∃ x : Later V, w' = x.val ∧ OwnI w' V.heap.size v (listN (ownW R s m) k)) := fun V h => Worths_ok k cap m cS A S R s V (hp.below h) (hs.below h) hE
        have WA : Hid (∀ V O cO, Below w.heap.size w V → IsInts V O m (aft l s) → Calls Try.prog 16 #[.slice A k cap, .slice O m cO] V fun e w' => ∃ v, e = .returned (.tuple #[v, .int .i64 0]) ∧ ∃ x : Later V, w' = x.val ∧ OwnI w' V.heap.size v (listN (ownW R (aft l s) m) k)) := fun V O cO h hi => Worths_ok k cap m cO A O R (aft l s) V (hp.below h) hi T.err
        have LT : Hid ((listN (aft l s) m).length = m) := listN_length _ _
        have IT : Hid (∀ V O, IsInts V O m (fun i => (listN (aft l s) m).getD i 0) → IsInts V O m (aft l s)) := fun V O h => h.congr fun i hi => listN_get hi
        have L1 : Hid ((listN (ownW R s m) k).length = k) := listN_length _ _
        have L2 : Hid ((listN (ownW R (aft l s) m) k).length = k) := listN_length _ _
        have G1 : Hid (∀ i, i < k → (listN (ownW R s m) k).getD i 0 = ownW R s m i) := fun i hi => listN_get hi
        have G2 : Hid (∀ i, i < k → (listN (ownW R (aft l s) m) k).getD i 0 = ownW R (aft l s) m i) := fun i hi => listN_get hi
        have UP := Lib.hid T.up
        have LTK := Lib.hid T.lt
        have ZL : Hid (∀ p, zl l p = (l.getD p 0 : Nat)) := fun p => rfl
        have hq0 := T.some
        generalize prsT (envT R s m) k k = Q at *
        obtain ⟨q, hq⟩ : ∃ q, Q.length = q := ⟨_, rfl⟩
        have HQ := Lib.hid hq
        rw [hq] at hq0
        clear hp hs hr hE W hmn hin hne hq T
        generalize listN (aft l s) m = LA at *
        generalize listN (ownW R s m) k = X at *
        generalize listN (ownW R (aft l s) m) k = Y at *
        generalize ownW R s m = fx at *
        generalize ownW R (aft l s) m = fy at *
        generalize aft l s = fa at *
        generalize zl l = c at *
        generalize l.length = n at *
        have d0 : decide ((q : Int) = 0) = false := by simp; omega
        have d1 : decide ((n : Int) = 0) = false := by simp; omega
        have d2 : ((q : Int) == 0) = false := by simp; omega
        have d3 : ((n : Int) == 0) = false := by simp; omega
        have d4 : ((k : Int) != (k : Int)) = false := by simp
        have k9 : k ≤ 9223372036854775807 := by omega
        go_enter Try.func10, Try.ntmps10
        go_wp2_with (first
          | (go_at_call 13; with_reducible refine Calls.mono (Gives.calls (LG.out _ (by repeat (first | exact Below.refl _ _ | (with_reducible assumption) | apply below_later | apply below_alloc | apply below_drew | apply below_drewN)))) ?_; rintro e w1 ⟨rfl, z, rfl⟩)
          | (go_at_call 19; with_reducible refine Calls.mono (Gives.calls (WH.out _ (by repeat (first | exact Below.refl _ _ | (with_reducible assumption) | apply below_later | apply below_alloc | apply below_drew | apply below_drewN)))) ?_; rintro e w1 ⟨rfl, z1, rfl⟩)
          | (go_at_call 35; with_reducible refine Calls.mono (CI.out _ (by repeat (first | exact Below.refl _ _ | (with_reducible assumption) | apply below_later | apply below_alloc | apply below_drew | apply below_drewN))) ?_; rintro e w1 ⟨O, cO, rfl, ⟨z2, rfl⟩, ho, hc9⟩; have IC := Lib.hid ho; have HC9 := Lib.hid hc9; clear ho hc9)
          | (go_at_call 26; with_reducible refine Calls.mono (EN.out _ (by repeat (first | exact Below.refl _ _ | (with_reducible assumption) | apply below_later | apply below_alloc | apply below_drew | apply below_drewN))) ?_; rintro e w1 ⟨v, rfl, z3, rfl, ho⟩; obtain ⟨O2, cO2, rfl⟩ := ho.shape_n HQ.out; clear ho)
          | (go_at_call 36; with_reducible refine Calls.mono (TU.out _ _ _ (by repeat (first | exact Below.refl _ _ | (with_reducible assumption) | apply below_later | apply below_alloc | apply below_drew | apply below_drewN)) HC9.out (IC.out.below (by repeat (first | exact Below.refl _ _ | (with_reducible assumption) | apply below_later | apply below_alloc | apply below_drew | apply below_drewN)))) ?_; rintro e w1 ⟨v, rfl, z4, rfl, ho⟩; obtain ⟨T1, cT1, rfl⟩ := ho.shape_n LT.out; have IA := Lib.hid (IT.out _ _ (ho.ints (by rw [LT.out]; omega)).2); clear ho)
          | (go_at_call 47; with_reducible refine Calls.mono (Gives.calls (BE.out _ _ _ (by repeat (first | exact Below.refl _ _ | (with_reducible assumption) | apply below_later | apply below_alloc | apply below_drew | apply below_drewN)) (IA.out.below (by repeat (first | exact Below.refl _ _ | (with_reducible assumption) | apply below_later | apply below_alloc | apply below_drew | apply below_drewN))))) ?_; rintro e w1 ⟨rfl, z5, rfl⟩)
          | (go_at_call 16; with_reducible refine Calls.mono (WO.out _ (by repeat (first | exact Below.refl _ _ | (with_reducible assumption) | apply below_later | apply below_alloc | apply below_drew | apply below_drewN))) ?_; rintro e w1 ⟨v, rfl, z6, rfl, ho⟩; obtain ⟨X1, cX1, rfl⟩ := ho.shape_n L1.out; have IX := Lib.hid (ho.ints (by rw [L1.out]; omega)).2; clear ho)
          | (go_at_call 16; with_reducible refine Calls.mono (WA.out _ _ _ (by repeat (first | exact Below.refl _ _ | (with_reducible assumption) | apply below_later | apply below_alloc | apply below_drew | apply below_drewN)) (IA.out.below (by repeat (first | exact Below.refl _ _ | (with_reducible assumption) | apply below_later | apply below_alloc | apply below_drew | apply below_drewN)))) ?_; rintro e w1 ⟨v, rfl, z7, rfl, ho⟩; obtain ⟨Y1, cY1, rfl⟩ := ho.shape_n L2.out; have IY := Lib.hid (ho.ints (by rw [L2.out]; omega)).2; clear ho)
          | (go_at_call 14; with_reducible refine Calls.mono (Gives.calls (FL.out _)) ?_; rintro e w1 ⟨rfl, z8, rfl⟩))
        have HBZ : Hid (Below w.heap.size w z7.val) := by show Below _ _ _; repeat (first | exact Below.refl _ _ | (with_reducible assumption) | apply below_later | apply below_alloc | apply below_drew | apply below_drewN)
        have JC : Hid (IsInts z7.val O n c) := IC.out.below (by repeat (first | exact Below.refl _ _ | (with_reducible assumption) | apply below_later | apply below_alloc | apply below_drew | apply below_drewN))
        have JX : Hid (IsInts z7.val X1 k fun i => X.getD i 0) := IX.out.below (by repeat (first | exact Below.refl _ _ | (with_reducible assumption) | apply below_later | apply below_alloc | apply below_drew | apply below_drewN))
        have JY : Hid (IsInts z7.val Y1 k fun i => Y.getD i 0) := IY.out
        clear IC IX IY IA CI EN TU BE WO WA WH LG
        generalize z7.val = Z at *
        go_loopw [15] (fun u wr => ∃ i : Nat, u = .int .i64 (i : Nat) ∧ i ≤ n ∧ ∃ x : Later Z, wr = x.val) (fun u _ => n - (intOf u).toNat)
        case atStart => exact ⟨0, rfl, by omega, later_of (by repeat (first | exact Below.refl _ _ | (with_reducible assumption) | apply below_later | apply below_alloc | apply below_drew | apply below_drewN))⟩
        case round =>
          obtain ⟨i, rfl, hi, x, rfl⟩ := hrel
          by_cases hlt : i < n
          · obtain ⟨b1, o1, e1, p1⟩ := (JC.out.below x.ok).at_ (by omega)
            obtain ⟨b2, o2, e2, p2⟩ := (JX.out.below x.ok).at_ (by omega)
            obtain ⟨b3, o3, e3, p3⟩ := (JY.out.below x.ok).at_ (by omega)
            have hg := LTK.out i hlt
            have c1 := p1.at_ i hlt
            rw [ZL.out i] at c1
            have c2 := p2.at_ _ hg
            have c3 := p3.at_ _ hg
            simp only [G1.out _ hg] at c2
            simp only [G2.out _ hg] at c3
            have hup := UP.out i hlt
            have l1 := p1.lt
            have l2 := p2.lt
            have l3 := p3.lt
            have H1 := Lib.hid e1
            have H2 := Lib.hid e2
            have H3 := Lib.hid e3
            rw [e1, e2, e3]
            clear p1 p2 p3 e1 e2 e3
            generalize l.getD i 0 = g at *
            generalize fx g = ux at *
            generalize fy g = uy at *
            have q1 : decide ((g : Int) < 0) = false := by simp
            have q2 : decide ((k : Int) ≤ (g : Int)) = false := by simp; omega
            have q3 : decide (uy ≤ ux) = false := by simp; omega
            have q4 : ¬ (g : Int) < 0 := by omega
            have q6 : decide (k ≤ g) = false := by simp; omega
            have q7 : ¬ k ≤ g := by omega
            have q8 : (g : Int) < (k : Int) := by omega
            have q9 : ¬ uy ≤ ux := by omega
            have q5 : ¬ (k : Int) ≤ (g : Int) := by omega
            go_wp2_with fail
            refine wp_region_later (by kernel_rfl) (by kernel_rfl) ?_
            repeat (go_big_quiet_step ((fail)))
            refine wpQuiet_nil ?_
            intro y
            go_wp2_with fail
            try rw [← H1.out]
            try rw [← H2.out]
            try rw [← H3.out]
            first
              | (go_roundw
                 case rel => exact ⟨i + 1, by go_num, by omega, later_of (by repeat (first | exact Below.refl _ _ | (with_reducible assumption) | apply below_later | apply below_alloc | apply below_drew | apply below_drewN))⟩
                 case measure => simp [intOf]; omega)
              | (refine ⟨⟨i + 1, by go_num, by omega, later_of (by repeat (first | exact Below.refl _ _ | (with_reducible assumption) | apply below_later | apply below_alloc | apply below_drew | apply below_drewN))⟩, ?_⟩; simp [intOf]; omega)
          · obtain rfl : i = n := by omega
            go_wp2_with (go_at_call 14; with_reducible refine Calls.mono (Gives.calls (FL.out _)) ?_; rintro e w1 ⟨rfl, z9, rfl⟩)
            go_ret
            exact ⟨rfl, later_of (below_more HBZ.out (by repeat (first | exact Below.refl _ _ | (with_reducible assumption) | apply below_later | apply below_alloc | apply below_drew | apply below_drewN)))⟩
    · generalize errE k R m s = E at *
      have e2 : (E != 0) = true := by simpa using hE
      clear hp hs hr hE
      go_enter Try.func10, Try.ntmps10
      go_wp2_with (first
        | (go_at_call 13; with_reducible refine Calls.mono (Gives.calls (LG.out _ (by repeat (first | exact Below.refl _ _ | (with_reducible assumption) | apply below_later | apply below_alloc | apply below_drew | apply below_drewN)))) ?_; rintro e w1 ⟨rfl, z, rfl⟩)
        | (go_at_call 19; with_reducible refine Calls.mono (Gives.calls (WH.out _ (by repeat (first | exact Below.refl _ _ | (with_reducible assumption) | apply below_later | apply below_alloc | apply below_drew | apply below_drewN)))) ?_; rintro e w1 ⟨rfl, z3, rfl⟩)
        | (go_at_call 14; with_reducible refine Calls.mono (Gives.calls (FL.out _)) ?_; rintro e w1 ⟨rfl, z9, rfl⟩))
      go_ret
      exact ⟨rfl, later_of (by repeat (first | exact Below.refl _ _ | (with_reducible assumption) | apply below_later | apply below_alloc | apply below_drew | apply below_drewN))⟩
end Go.Proofs.Ytjmjafpjfhgfdaa
