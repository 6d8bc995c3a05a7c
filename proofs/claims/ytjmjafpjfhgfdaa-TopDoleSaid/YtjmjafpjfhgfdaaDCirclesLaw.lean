/- The document's Circle; the law of circles: walked. -/
import Derived.Test.YtjmjafpjfhgfdaaDRCircle
import Derived.Test.YtjmjafpjfhgfdaaDRPick
import Derived.Test.YtjmjafpjfhgfdaaDFirst
import Derived.Test.YtjmjafpjfhgfdaaDPicksLaw
namespace Go.Proofs.Ytjmjafpjfhgfdaa
open Go.RowKit

set_option maxRecDepth 100000 in
set_option maxHeartbeats 3200000 in
theorem rCircle_any (k cap n m cS : Nat) (A S : Option Addr) (R : Nat → Row) (s : Nat → Int) (w : World) (hmn : m ≤ n) (W : Vals k n R) (hp : IsTab w A k R) (hs : IsInts w S m s) :
    Calls Try.prog 37 #[.slice A k cap, .slice S m cS] w (PostD w (circA (envT R s m) k)) := by
  have hk6 := W.k6
  have FR := Lib.hid (rfrom_any k cap n m cS A S R s w hmn W hp hs)
  generalize envT R s m = E at *
  have SC := Lib.hid (circA_scan E k)
  generalize circA E k = res at *
  have FC : Hid (∀ (x : Nat) (P : Option Addr) (cP : Nat) (V : World), x < k → Below w.heap.size w V → IsInts V P 1 (zl [x]) → Calls Try.prog 63 #[.slice A k cap, .slice S m cS, .slice P 1 cP] V fun e w' => ∃ A c, e = .returned (.slice A (circF E k k [x]).length c) ∧ (∃ y : Later V, w' = y.val) ∧ IsInts w' A (circF E k k [x]).length (zl (circF E k k [x]))) := fun x P cP V hx hV hi => FR.out k [x] P cP V hV (Path.one hx) (by simp) hi
  have GD : Hid (∀ x, (fun c => circF E k k [c]) x = circF E k k [x]) := fun _ => rfl
  generalize (fun c => circF E k k [c]) = G at *
  clear hp hs W FR
  go_enter Try.func37, Try.ntmps37
  go_wp2_with fail
  go_loopw [5] (fun u wr => ∃ x : Nat, u = .int .i64 (x : Nat) ∧ x ≤ k ∧ scanF G (k - x) x = res ∧ ∃ y : Later w, wr = y.val) (fun u _ => k - (intOf u).toNat)
  case atStart => exact ⟨0, rfl, by omega, SC.out.symm, later_of (by repeat (first | exact Below.refl _ _ | (with_reducible assumption) | apply below_later | apply below_alloc | apply below_drew | apply below_drewN))⟩
  case round =>
    obtain ⟨x, rfl, hxk, hsc, y, rfl⟩ := hrel
    have HSC := Lib.hid hsc
    clear hsc
    have HBW : Hid (Below w.heap.size w y.val) := y.ok
    have XV : Hid (∀ U, Below y.val.heap.size y.val U → ∃ y' : Later w, U = y'.val) := fun U h => ⟨⟨U, below_more y.ok h⟩, rfl⟩
    by_cases hlt : x < k
    · have LI : Hid (∀ U : World, IsInts (U.alloc (.cells #[.int .i64 (x : Nat)] 3)) (some ⟨U.heap.size, 0, none⟩) 1 (zl [x])) := fun U => (lit_ints1 U x)
      have FCx := Lib.hid fun P cP V h hi => FC.out x P cP V hlt h hi
      have GDx := Lib.hid (GD.out x)
      have hkx : k - x = (k - (x + 1)) + 1 := by omega
      have HKX := Lib.hid hkx
      have hg : decide ((x : Int) < (k : Int)) = true := by simp; omega
      clear hkx
      generalize circF E k k [x] = lq at *
      by_cases hq : lq = []
      · have HN : Hid (scanF G (k - (x + 1)) (x + 1) = res) := by
          show _ = _
          rw [← HSC.out, HKX.out, scan_skip]
          rw [GDx.out, hq]
        subst hq
        go_wp2_with (go_at_call 63; with_reducible refine Calls.mono (FCx.out _ _ _ (below_more HBW.out (by repeat (first | exact Below.refl _ _ | (with_reducible assumption) | apply below_later | apply below_alloc | apply below_drew | apply below_drewN))) (LI.out _)) ?_; rintro e w1 ⟨A9, c9, rfl, ⟨z, rfl⟩, hi9⟩; clear hi9)
        first
          | (refine ⟨⟨x + 1, by go_num, by omega, HN.out, XV.out _ (by repeat (first | exact Below.refl _ _ | (with_reducible assumption) | apply below_later | apply below_alloc | apply below_drew | apply below_drewN))⟩, ?_⟩; simp [intOf]; omega)
          | (go_roundw
             case rel => exact ⟨x + 1, by go_num, by omega, HN.out, XV.out _ (by repeat (first | exact Below.refl _ _ | (with_reducible assumption) | apply below_later | apply below_alloc | apply below_drew | apply below_drewN))⟩
             case measure => simp [intOf]; omega)
      · have hlq : 0 < lq.length := by cases lq with
          | nil => exact absurd rfl hq
          | cons a l => simp
        have HRR : Hid (res = lq) := by
          show _ = _
          rw [← HSC.out, HKX.out, scan_take (by rw [GDx.out]; exact hq)]
          exact GDx.out
        have hgl : decide ((0 : Int) < (lq.length : Int)) = true := by simp; omega
        have hgl2 : decide (0 < lq.length) = true := by simp; omega
        clear hq
        generalize hln : lq.length = ln at *
        have HLN := Lib.hid hln
        clear hln
        go_wp2_with (go_at_call 63; with_reducible refine Calls.mono (FCx.out _ _ _ (below_more HBW.out (by repeat (first | exact Below.refl _ _ | (with_reducible assumption) | apply below_later | apply below_alloc | apply below_drew | apply below_drewN))) (LI.out _)) ?_; rintro e w1 ⟨A9, c9, rfl, ⟨z, rfl⟩, hi9⟩; have HI9 := Lib.hid hi9; clear hi9)
        go_ret
        rw [HRR.out]
        exact ⟨A9, c9, by rw [HLN.out]; rfl, later_of (below_more HBW.out (by repeat (first | exact Below.refl _ _ | (with_reducible assumption) | apply below_later | apply below_alloc | apply below_drew | apply below_drewN))), by rw [HLN.out]; exact HI9.out⟩
    · obtain rfl : x = k := by omega
      have HR3 : Hid (res = []) := by
        show _ = _
        rw [← HSC.out, Nat.sub_self]
        rfl
      go_wp2_with fail
      go_ret
      rw [HR3.out]
      exact ⟨none, 0, rfl, later_of HBW.out, ⟨by simp, fun h => absurd h (by simp)⟩⟩
theorem circA_len (E : Nat → Nat → Bool) (k : Nat) : (circA E k).length ≤ k := by
  by_cases h : circA E k = []
  · rw [h]
    exact Nat.zero_le _
  · exact (circA_cyc h).1.len
set_option maxRecDepth 100000 in
set_option maxHeartbeats 6400000 in
theorem circles_law (A S L : Option Addr) (k cap m cS l cL : Nat) (R : Nat → Row) (s c : Nat → Int) (w : World) (hcL : l ≤ cL) (hp : IsTab w A k R) (hs : IsInts w S m s) (hc : IsInts w L l c) :
    Gives Try.prog 6 #[.slice A k cap, .slice S m cS, .slice L l cL] w (.bool true) := by
  have FL := Lib.hid first_law
  have LG := Lib.hid fun (V : World) (h : Below w.heap.size w V) => Long_any k cap A R V (hp.below h)
  cases hl : longB k R
  case true =>
    rw [hl] at LG
    clear hp hs hc hl
    go_enter Try.func6, Try.ntmps6
    go_wp2_with (first | (go_at_call 13; with_reducible refine Calls.mono (Gives.calls (LG.out _ (by repeat (first | exact Below.refl _ _ | (with_reducible assumption) | apply below_later | apply below_alloc | apply below_drew | apply below_drewN)))) ?_; rintro e w1 ⟨rfl, z, rfl⟩) | (go_at_call 14; with_reducible refine Calls.mono (Gives.calls (FL.out _)) ?_; rintro e w1 ⟨rfl, z2, rfl⟩))
    go_ret
    exact ⟨rfl, later_of (by repeat (first | exact Below.refl _ _ | (with_reducible assumption) | apply below_later | apply below_alloc | apply below_drew | apply below_drewN))⟩
  case false =>
    rw [hl] at LG
    obtain ⟨hk, hr⟩ := long_facts hl
    clear hl
    by_cases hm : 30 < m
    · have e1 : decide ((30 : Int) < (m : Int)) = true := by simp; omega
      clear hp hs hc hr
      go_enter Try.func6, Try.ntmps6
      go_wp2_with (first | (go_at_call 13; with_reducible refine Calls.mono (Gives.calls (LG.out _ (by repeat (first | exact Below.refl _ _ | (with_reducible assumption) | apply below_later | apply below_alloc | apply below_drew | apply below_drewN)))) ?_; rintro e w1 ⟨rfl, z, rfl⟩) | (go_at_call 14; with_reducible refine Calls.mono (Gives.calls (FL.out _)) ?_; rintro e w1 ⟨rfl, z2, rfl⟩))
      go_ret
      exact ⟨rfl, later_of (by repeat (first | exact Below.refl _ _ | (with_reducible assumption) | apply below_later | apply below_alloc | apply below_drew | apply below_drewN))⟩
    · have e1 : decide ((30 : Int) < (m : Int)) = false := by simp; omega
      by_cases hl9 : 20 < l
      · have e2 : decide ((20 : Int) < (l : Int)) = true := by simp; omega
        clear hp hs hc hr
        go_enter Try.func6, Try.ntmps6
        go_wp2_with (first | (go_at_call 13; with_reducible refine Calls.mono (Gives.calls (LG.out _ (by repeat (first | exact Below.refl _ _ | (with_reducible assumption) | apply below_later | apply below_alloc | apply below_drew | apply below_drewN)))) ?_; rintro e w1 ⟨rfl, z, rfl⟩) | (go_at_call 14; with_reducible refine Calls.mono (Gives.calls (FL.out _)) ?_; rintro e w1 ⟨rfl, z2, rfl⟩))
        go_ret
        exact ⟨rfl, later_of (by repeat (first | exact Below.refl _ _ | (with_reducible assumption) | apply below_later | apply below_alloc | apply below_drew | apply below_drewN))⟩
      · have e2 : decide ((20 : Int) < (l : Int)) = false := by simp; omega
        have WH := Lib.hid fun (V : World) (h : Below w.heap.size w V) => why_any k cap m cS A S R s V (fun i hi => by have := hr i hi; omega) (by omega) (hp.below h) (hs.below h)
        by_cases hE : errE k R m s = 0
        · obtain ⟨W, hmn, hin⟩ := errE_ok hE
          have CI : Hid (∀ V, Below w.heap.size w V → Calls Try.prog 35 #[.slice A k cap, .slice S m cS] V fun e w' => ∃ A9 c9, e = .returned (.tuple #[.slice A9 (circA (envT R s m) k).length c9, .int .i64 0]) ∧ (∃ x : Later V, w' = x.val) ∧ IsInts w' A9 (circA (envT R s m) k).length (zl (circA (envT R s m) k)) ∧ (circA (envT R s m) k).length ≤ c9) := fun V h => Circle_ok k cap m cS A S R s V (hp.below h) (hs.below h) hE
          have RC : Hid (∀ V, Below w.heap.size w V → Calls Try.prog 37 #[.slice A k cap, .slice S m cS] V fun e w' => ∃ A9 c9, e = .returned (.slice A9 (circA (envT R s m) k).length c9) ∧ (∃ x : Later V, w' = x.val) ∧ IsInts w' A9 (circA (envT R s m) k).length (zl (circA (envT R s m) k))) := fun V h => rCircle_any k cap (R 0).n m cS A S R s V (by omega) W (hp.below h) (hs.below h)
          have IC := Lib.hid fun (V : World) (h : Below w.heap.size w V) => rIsCircle_any k cap (R 0).n m cS l cL A S L R s c V (by omega) (by omega) W (hp.below h) (hs.below h) (hc.below h)
          have hk6 := W.k6
          have hcl := circA_len (envT R s m) k
          have SI := Lib.hid fun (n : Nat) (f : Nat → Int) (w' : World) A1 c1 B1 c2 (hn : n ≤ 1000000) (h1 : IsInts w' A1 n f) (h2 : IsInts w' B1 n f) => same_ints A1 B1 n c1 c2 _ _ w' hn h1 h2 fun _ _ => rfl
          rw [hE] at WH
          cases hci : cirB (envT R s m) k c l
          case false =>
            have TU := Lib.hid fun (V : World) (h : Below w.heap.size w V) => Turn_arg k cap m cS l cL A S L R s c V (by omega) hcL (hp.below h) (hs.below h) (hc.below h) hE hci
            rw [hci] at IC
            generalize circA (envT R s m) k = P at *
            have SI1 := Lib.hid (SI.out P.length (zl P))
            generalize zl P = f at *
            generalize P.length = n at *
            clear hp hs hc hr hE W hmn hin hci SI
            have hn9 : n ≤ 1000000 := by omega
            go_enter Try.func6, Try.ntmps6
            go_wp2_with (first
              | (go_at_call 13; with_reducible refine Calls.mono (Gives.calls (LG.out _ (by repeat (first | exact Below.refl _ _ | (with_reducible assumption) | apply below_later | apply below_alloc | apply below_drew | apply below_drewN)))) ?_; rintro e w1 ⟨rfl, z, rfl⟩)
              | (go_at_call 14; with_reducible refine Calls.mono (Gives.calls (FL.out _)) ?_; rintro e w1 ⟨rfl, z2, rfl⟩)
              | (go_at_call 35; with_reducible refine Calls.mono (CI.out _ (by repeat (first | exact Below.refl _ _ | (with_reducible assumption) | apply below_later | apply below_alloc | apply below_drew | apply below_drewN))) ?_; rintro e w1 ⟨O, cO, rfl, ⟨z3, rfl⟩, ho, _⟩; have IO := Lib.hid ho; clear ho)
              | (go_at_call 36; with_reducible refine Calls.mono (Gives.calls (TU.out _ (by repeat (first | exact Below.refl _ _ | (with_reducible assumption) | apply below_later | apply below_alloc | apply below_drew | apply below_drewN)))) ?_; rintro e w1 ⟨rfl, z4, rfl⟩)
              | (go_at_call 19; with_reducible refine Calls.mono (Gives.calls (WH.out _ (by repeat (first | exact Below.refl _ _ | (with_reducible assumption) | apply below_later | apply below_alloc | apply below_drew | apply below_drewN)))) ?_; rintro e w1 ⟨rfl, z5, rfl⟩)
              | (go_at_call 37; with_reducible refine Calls.mono (RC.out _ (by repeat (first | exact Below.refl _ _ | (with_reducible assumption) | apply below_later | apply below_alloc | apply below_drew | apply below_drewN))) ?_; rintro e w1 ⟨O2, cO2, rfl, ⟨z6, rfl⟩, ho⟩; have IO2 := Lib.hid ho; clear ho)
              | (go_at_call 23; with_reducible refine Calls.mono (Gives.calls (SI1.out _ _ _ _ _ hn9 (IO.out.below (by repeat (first | exact Below.refl _ _ | (with_reducible assumption) | apply below_later | apply below_alloc | apply below_drew | apply below_drewN))) (IO2.out.below (by repeat (first | exact Below.refl _ _ | (with_reducible assumption) | apply below_later | apply below_alloc | apply below_drew | apply below_drewN))))) ?_; rintro e w1 ⟨rfl, z7, rfl⟩)
              | (go_at_call 38; with_reducible refine Calls.mono (Gives.calls (IC.out _ (by repeat (first | exact Below.refl _ _ | (with_reducible assumption) | apply below_later | apply below_alloc | apply below_drew | apply below_drewN)))) ?_; rintro e w1 ⟨rfl, z8, rfl⟩))
            go_ret
            exact ⟨rfl, later_of (by repeat (first | exact Below.refl _ _ | (with_reducible assumption) | apply below_later | apply below_alloc | apply below_drew | apply below_drewN))⟩
          case true =>
            obtain ⟨hd, _, _, _⟩ := cir_dif hci
            obtain ⟨hm0, hl0⟩ := turn_needs W (by omega) hci
            have LT : Hid ((listN (fun j => turnTo c l (s j) l) m).length = m) := listN_length _ _
            have TU : Hid (∀ V, Below w.heap.size w V → Calls Try.prog 36 #[.slice A k cap, .slice S m cS, .slice L l cL] V fun e w' => ∃ v, e = .returned (.tuple #[v, .int .i64 0]) ∧ ∃ x : Later V, w' = x.val ∧ OwnI w' V.heap.size v (listN (fun j => turnTo c l (s j) l) m)) := fun V h => Turn_ok k cap m cS l cL A S L R s c V (by omega) hcL (hp.below h) (hs.below h) (hc.below h) hE hci
            have RT : Hid (∀ V, Below w.heap.size w V → GivesI 39 #[.slice S m cS, .slice L l cL] V (listN (fun j => turnTo c l (s j) l) m)) := fun V h => by
              have h1 := rTurn_any m cS l cL S L s c V hm0 (by omega) hl0 (by omega) (hs.below h) (hc.below h)
              have h2 : (fun j => rturnTo c l (s j) l) = fun j => turnTo c l (s j) l := funext fun j => (turn_same hd).symm
              rw [h2] at h1
              exact h1
            rw [hci] at IC
            generalize circA (envT R s m) k = P at *
            generalize listN (fun j => turnTo c l (s j) l) m = T at *
            have SI1 := Lib.hid (SI.out P.length (zl P))
            have SI2 := Lib.hid (SI.out m (fun i => T.getD i 0))
            generalize zl P = f at *
            generalize P.length = n at *
            clear hp hs hc hr hE W hmn hin hci SI hd
            have hn9 : n ≤ 1000000 := by omega
            have hm9 : m ≤ 1000000 := by omega
            go_enter Try.func6, Try.ntmps6
            go_wp2_with (first
              | (go_at_call 13; with_reducible refine Calls.mono (Gives.calls (LG.out _ (by repeat (first | exact Below.refl _ _ | (with_reducible assumption) | apply below_later | apply below_alloc | apply below_drew | apply below_drewN)))) ?_; rintro e w1 ⟨rfl, z, rfl⟩)
              | (go_at_call 14; with_reducible refine Calls.mono (Gives.calls (FL.out _)) ?_; rintro e w1 ⟨rfl, z2, rfl⟩)
              | (go_at_call 35; with_reducible refine Calls.mono (CI.out _ (by repeat (first | exact Below.refl _ _ | (with_reducible assumption) | apply below_later | apply below_alloc | apply below_drew | apply below_drewN))) ?_; rintro e w1 ⟨O, cO, rfl, ⟨z3, rfl⟩, ho, _⟩; have IO := Lib.hid ho; clear ho)
              | (go_at_call 36; with_reducible refine Calls.mono (TU.out _ (by repeat (first | exact Below.refl _ _ | (with_reducible assumption) | apply below_later | apply below_alloc | apply below_drew | apply below_drewN))) ?_; rintro e w1 ⟨v, rfl, z4, rfl, ho⟩; obtain ⟨T1, cT1, rfl⟩ := ho.shape_n LT.out; have IT := Lib.hid (ho.ints (by rw [LT.out]; omega)).2; clear ho)
              | (go_at_call 19; with_reducible refine Calls.mono (Gives.calls (WH.out _ (by repeat (first | exact Below.refl _ _ | (with_reducible assumption) | apply below_later | apply below_alloc | apply below_drew | apply below_drewN)))) ?_; rintro e w1 ⟨rfl, z5, rfl⟩)
              | (go_at_call 37; with_reducible refine Calls.mono (RC.out _ (by repeat (first | exact Below.refl _ _ | (with_reducible assumption) | apply below_later | apply below_alloc | apply below_drew | apply below_drewN))) ?_; rintro e w1 ⟨O2, cO2, rfl, ⟨z6, rfl⟩, ho⟩; have IO2 := Lib.hid ho; clear ho)
              | (go_at_call 23; with_reducible refine Calls.mono (Gives.calls (SI1.out _ _ _ _ _ hn9 (IO.out.below (by repeat (first | exact Below.refl _ _ | (with_reducible assumption) | apply below_later | apply below_alloc | apply below_drew | apply below_drewN))) (IO2.out.below (by repeat (first | exact Below.refl _ _ | (with_reducible assumption) | apply below_later | apply below_alloc | apply below_drew | apply below_drewN))))) ?_; rintro e w1 ⟨rfl, z7, rfl⟩)
              | (go_at_call 38; with_reducible refine Calls.mono (Gives.calls (IC.out _ (by repeat (first | exact Below.refl _ _ | (with_reducible assumption) | apply below_later | apply below_alloc | apply below_drew | apply below_drewN)))) ?_; rintro e w1 ⟨rfl, z8, rfl⟩)
              | (go_at_call 39; with_reducible refine Calls.mono (GivesI.calls (RT.out _ (by repeat (first | exact Below.refl _ _ | (with_reducible assumption) | apply below_later | apply below_alloc | apply below_drew | apply below_drewN)))) ?_; rintro e w1 ⟨v2, rfl, z9, rfl, ho⟩; obtain ⟨T2, cT2, rfl⟩ := ho.shape_n LT.out; have IT2 := Lib.hid (ho.ints (by rw [LT.out]; omega)).2; clear ho)
              | (go_at_call 23; with_reducible refine Calls.mono (Gives.calls (SI2.out _ _ _ _ _ hm9 (IT.out.below (by repeat (first | exact Below.refl _ _ | (with_reducible assumption) | apply below_later | apply below_alloc | apply below_drew | apply below_drewN))) (IT2.out.below (by repeat (first | exact Below.refl _ _ | (with_reducible assumption) | apply below_later | apply below_alloc | apply below_drew | apply below_drewN))))) ?_; rintro e w1 ⟨rfl, z10, rfl⟩))
            go_ret
            exact ⟨rfl, later_of (by repeat (first | exact Below.refl _ _ | (with_reducible assumption) | apply below_later | apply below_alloc | apply below_drew | apply below_drewN))⟩
        · have CB := Lib.hid fun (V : World) (h : Below w.heap.size w V) => Circle_bad k cap m cS A S R s V (hp.below h) (hs.below h) hE
          have TB := Lib.hid fun (V : World) (h : Below w.heap.size w V) => Turn_bad k cap m cS l cL A S L R s V (hp.below h) (hs.below h) hE
          generalize errE k R m s = E at *
          have e3 : (E != 0) = true := by simpa using hE
          clear hp hs hc hr hE
          go_enter Try.func6, Try.ntmps6
          go_wp2_with (first
            | (go_at_call 13; with_reducible refine Calls.mono (Gives.calls (LG.out _ (by repeat (first | exact Below.refl _ _ | (with_reducible assumption) | apply below_later | apply below_alloc | apply below_drew | apply below_drewN)))) ?_; rintro e w1 ⟨rfl, z, rfl⟩)
            | (go_at_call 35; with_reducible refine Calls.mono (Gives.calls (CB.out _ (by repeat (first | exact Below.refl _ _ | (with_reducible assumption) | apply below_later | apply below_alloc | apply below_drew | apply below_drewN)))) ?_; rintro e w1 ⟨rfl, z1, rfl⟩)
            | (go_at_call 36; with_reducible refine Calls.mono (Gives.calls (TB.out _ (by repeat (first | exact Below.refl _ _ | (with_reducible assumption) | apply below_later | apply below_alloc | apply below_drew | apply below_drewN)))) ?_; rintro e w1 ⟨rfl, z2, rfl⟩)
            | (go_at_call 19; with_reducible refine Calls.mono (Gives.calls (WH.out _ (by repeat (first | exact Below.refl _ _ | (with_reducible assumption) | apply below_later | apply below_alloc | apply below_drew | apply below_drewN)))) ?_; rintro e w1 ⟨rfl, z3, rfl⟩)
            | (go_at_call 14; with_reducible refine Calls.mono (Gives.calls (FL.out _)) ?_; rintro e w1 ⟨rfl, z9, rfl⟩))
          go_ret
          exact ⟨rfl, later_of (by repeat (first | exact Below.refl _ _ | (with_reducible assumption) | apply below_later | apply below_alloc | apply below_drew | apply below_drewN))⟩
end Go.Proofs.Ytjmjafpjfhgfdaa
