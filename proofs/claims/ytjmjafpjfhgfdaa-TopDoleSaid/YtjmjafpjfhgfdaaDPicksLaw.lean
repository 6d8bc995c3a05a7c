/- The document's InTurn; the law of picks: walked. -/
import Derived.Test.YtjmjafpjfhgfdaaDRPick
import Derived.Test.YtjmjafpjfhgfdaaDFirst
namespace Go.Proofs.Ytjmjafpjfhgfdaa
open Go.RowKit

set_option maxRecDepth 100000 in
theorem rInTurn_bad (k cap : Nat) (A : Option Addr) (R : Nat → Row) (w : World) (hl : ∀ i, i < k → (R i).n ≤ 1000) (hp : IsTab w A k R) (h : tabB k R = false) :
    Gives Try.prog 32 #[.slice A k cap] w (.tuple #[.slice none 0 0, .int .i64 70]) := by
  have VA := Lib.hid fun (V : World) (hb : Below w.heap.size w V) => h ▸ rvalid_any k cap A R V hl (hp.below hb)
  clear hp h hl
  go_enter Try.func32, Try.ntmps32
  go_wp2_with (go_at_call 21; with_reducible refine Calls.mono (Gives.calls (VA.out _ (by repeat (first | exact Below.refl _ _ | (with_reducible assumption) | apply below_later | apply below_alloc | apply below_drew | apply below_drewN)))) ?_; rintro e w1 ⟨rfl, z, rfl⟩)
  go_ret2
  exact ⟨rfl, later_of (by repeat (first | exact Below.refl _ _ | (with_reducible assumption) | apply below_later | apply below_alloc | apply below_drew | apply below_drewN))⟩
set_option maxRecDepth 100000 in
set_option maxHeartbeats 3200000 in
theorem rInTurn_ok (k cap n : Nat) (A : Option Addr) (R : Nat → Row) (w : World) (W : Vals k n R) (hp : IsTab w A k R) :
    Calls Try.prog 32 #[.slice A k cap] w (PostIE w (pickL (fT R) (turnI k) n n) 0) := by
  have hk6 := W.k6
  have hk1 := W.k1
  have hn12 := W.n12
  have VA := Lib.hid fun (V : World) (hb : Below w.heap.size w V) => valsT W ▸ rvalid_any k cap A R V (fun i hi => by rw [W.len i hi]; omega) (hp.below hb)
  obtain ⟨b, off, rfl⟩ := hp.addr W.k1
  have HD := Lib.hid fun (V : World) (hb : Below w.heap.size w V) => tab_head0 (hp.below hb) W
  have PA := Lib.hid fun (V : World) (S : Option Addr) (cS : Nat) (c : Nat → Int) (hb : Below w.heap.size w V) (hc : IsInts V S n c) (he : ∀ j, j < n → c j = turnI k j) =>
    (pickL_congr (F := fT R) he) ▸ rPick_any k cap n cS (some ⟨b, off, none⟩) S R c V W (hp.below hb) hc fun j hj => by
      rw [he j hj]
      exact turnI_in W.k1
  have LS := Lib.hid (listN_succ (turnI k))
  have L0 : Hid (listN (turnI k) 0 = []) := rfl
  have LL := Lib.hid (listN_length (turnI k))
  have LG := Lib.hid fun i (hi : i < n) => listN_get (g := turnI k) hi
  have TI : Hid (∀ i : Nat, turnI k i = (i : Int) % (k : Int)) := fun _ => rfl
  obtain ⟨i0, hi0, hz0, hz1, hz2⟩ := info_int
  clear hp W
  generalize pickL (fT R) (turnI k) n n = res at *
  generalize listN (turnI k) = LT at *
  go_enter Try.func32, Try.ntmps32
  go_wp2_with (go_at_call 21; with_reducible refine Calls.mono (Gives.calls (VA.out _ (by repeat (first | exact Below.refl _ _ | (with_reducible assumption) | apply below_later | apply below_alloc | apply below_drew | apply below_drewN)))) ?_; rintro e w1 ⟨rfl, z, rfl⟩)
  have HBZ : Hid (Below w.heap.size w z.val) := z.ok
  generalize z.val = Z at *
  go_loopw [4, 5] (fun u v wr => ∃ i : Nat, v = .int .i64 (i : Nat) ∧ i ≤ n ∧ Below Z.heap.size Z wr ∧ OwnI wr Z.heap.size u (LT i)) (fun _ v _ => n - (intOf v).toNat)
  case atStart => exact ⟨0, rfl, by omega, Below.refl _ _, by rw [L0.out]; exact OwnI.nil _ _⟩
  case round =>
    obtain ⟨i, rfl, hi, hbl, ho⟩ := hrel
    have HBL := Lib.hid hbl
    have HO := Lib.hid ho
    obtain ⟨O, cO, eO⟩ := ho.shape_n (LL.out i)
    subst eO
    have HBW : Hid (Below w.heap.size w wr) := below_more HBZ.out hbl
    obtain ⟨B, la, ca, _⟩ := HD.out wr HBW.out
    clear hbl ho
    by_cases hlt : i < n
    · have LS1 := Lib.hid (LS.out i)
      rw [TI.out i] at LS1
      have hg : decide ((i : Int) < (n : Int)) = true := by simp; omega
      go_wp2_with (at_builtin; refine wpList_append_own_at _ rfl _ _ 23 rfl Z.heap.size 3 i0 (.int .i64 0) 1 8 Try.underlying23 hi0 hz0 hz1 hz2 rfl (by decide) _ _ _ rfl ((own_row HO.out (LL.out i)).alloc _) ⟨_, 0, none⟩ 1 1 [.int .i64 ((i : Int) % (k : Int))] rfl rfl lit_news one_int ?g1 ?g2 ?g3 ?_)
      case g1 => unfold maxLen; omega
      case g2 => omega
      case g3 => have := HBL.out.size; simp only [World.size_alloc]; omega
      intro v6 w6 hown2 hgrow _ hat
      have hb6 : Below Z.heap.size Z w6 := below_own (w1 := wr.alloc (.cells #[.int .i64 ((i : Int) % (k : Int))] 3)) (below_alloc HBL.out) ((own_row HO.out (LL.out i)).alloc _) (Nat.le_refl _) hgrow
      have HO6 : Hid (OwnI w6 Z.heap.size v6 (LT (i + 1))) := by
        show OwnI _ _ _ _
        rw [LS1.out]
        unfold OwnI
        rw [List.length_append, LL.out i, cellsI_append]
        exact hown2
      have HB6 := Lib.hid hb6
      clear hown2 hgrow hat hb6 la ca
      go_wp2_with fail
      first
        | (refine ⟨⟨i + 1, by go_num, by omega, HB6.out, HO6.out⟩, ?_⟩; simp [intOf]; omega)
        | (go_roundw
           case rel => exact ⟨i + 1, by go_num, by omega, HB6.out, HO6.out⟩
           case measure => simp [intOf]; omega)
    · obtain rfl : i = n := by omega
      have oi := Lib.hid (HO.out.ints (by rw [LL.out i]; omega)).2
      have PA1 := Lib.hid (PA.out wr _ cO (fun j => (LT i).getD j 0) HBW.out oi.out LG.out)
      go_wp2_with (go_at_call 34; with_reducible refine Calls.mono (GivesI.calls PA1.out) ?_; rintro e w1 ⟨v, rfl, z3, rfl, ho3⟩; have HO3 := Lib.hid ho3; clear ho3)
      go_ret2
      exact ⟨_, rfl, ⟨_, below_more HBW.out z3.ok⟩, rfl, HO3.out.mono HBW.out.size⟩
theorem ints_nil (w : World) (f : Nat → Int) : IsInts w none 0 f := ⟨by omega, fun h => absurd h (by omega)⟩
set_option maxRecDepth 100000 in
set_option maxHeartbeats 6400000 in
theorem picks_law (A S : Option Addr) (k cap m cS : Nat) (R : Nat → Row) (c : Nat → Int) (w : World) (hp : IsTab w A k R) (hc : IsInts w S m c) :
    Gives Try.prog 5 #[.slice A k cap, .slice S m cS] w (.bool true) := by
  have FL := Lib.hid first_law
  have LG := Lib.hid fun (V : World) (h : Below w.heap.size w V) => Long_any k cap A R V (hp.below h)
  cases hl : longB k R
  case true =>
    rw [hl] at LG
    clear hp hc hl
    go_enter Try.func5, Try.ntmps5
    go_wp2_with (first | (go_at_call 13; with_reducible refine Calls.mono (Gives.calls (LG.out _ (by repeat (first | exact Below.refl _ _ | (with_reducible assumption) | apply below_later | apply below_alloc | apply below_drew | apply below_drewN)))) ?_; rintro e w1 ⟨rfl, z, rfl⟩) | (go_at_call 14; with_reducible refine Calls.mono (Gives.calls (FL.out _)) ?_; rintro e w1 ⟨rfl, z2, rfl⟩))
    go_ret
    exact ⟨rfl, later_of (by repeat (first | exact Below.refl _ _ | (with_reducible assumption) | apply below_later | apply below_alloc | apply below_drew | apply below_drewN))⟩
  case false =>
    rw [hl] at LG
    obtain ⟨hk, hr⟩ := long_facts hl
    clear hl
    by_cases hm : 30 < m
    · have e1 : decide ((30 : Int) < (m : Int)) = true := by simp; omega
      clear hp hc hr
      go_enter Try.func5, Try.ntmps5
      go_wp2_with (first | (go_at_call 13; with_reducible refine Calls.mono (Gives.calls (LG.out _ (by repeat (first | exact Below.refl _ _ | (with_reducible assumption) | apply below_later | apply below_alloc | apply below_drew | apply below_drewN)))) ?_; rintro e w1 ⟨rfl, z, rfl⟩) | (go_at_call 14; with_reducible refine Calls.mono (Gives.calls (FL.out _)) ?_; rintro e w1 ⟨rfl, z2, rfl⟩))
      go_ret
      exact ⟨rfl, later_of (by repeat (first | exact Below.refl _ _ | (with_reducible assumption) | apply below_later | apply below_alloc | apply below_drew | apply below_drewN))⟩
    · have e1 : decide ((30 : Int) < (m : Int)) = false := by simp; omega
      cases hv : tabB k R
      case false =>
        have PB := Lib.hid fun (V : World) (h : Below w.heap.size w V) => Pick_bad k cap m cS A S R V (hp.below h) hv
        have IB := Lib.hid fun (V : World) (h : Below w.heap.size w V) => InTurn_bad k cap A R V (hp.below h) hv
        have RB := Lib.hid fun (V : World) (h : Below w.heap.size w V) => rInTurn_bad k cap A R V (fun i hi => by have := hr i hi; omega) (hp.below h) hv
        have SI := Lib.hid fun w' => same_ints none none 0 0 0 (fun _ => 0) (fun _ => 0) w' (by omega) (ints_nil _ _) (ints_nil _ _) fun _ _ => rfl
        clear hp hc hr hv
        go_enter Try.func5, Try.ntmps5
        go_wp2_with (first
          | (go_at_call 13; with_reducible refine Calls.mono (Gives.calls (LG.out _ (by repeat (first | exact Below.refl _ _ | (with_reducible assumption) | apply below_later | apply below_alloc | apply below_drew | apply below_drewN)))) ?_; rintro e w1 ⟨rfl, z, rfl⟩)
          | (go_at_call 14; with_reducible refine Calls.mono (Gives.calls (FL.out _)) ?_; rintro e w1 ⟨rfl, z2, rfl⟩)
          | (go_at_call 30; with_reducible refine Calls.mono (Gives.calls (PB.out _ (by repeat (first | exact Below.refl _ _ | (with_reducible assumption) | apply below_later | apply below_alloc | apply below_drew | apply below_drewN)))) ?_; rintro e w1 ⟨rfl, z3, rfl⟩)
          | (go_at_call 31; with_reducible refine Calls.mono (Gives.calls (IB.out _ (by repeat (first | exact Below.refl _ _ | (with_reducible assumption) | apply below_later | apply below_alloc | apply below_drew | apply below_drewN)))) ?_; rintro e w1 ⟨rfl, z4, rfl⟩)
          | (go_at_call 32; with_reducible refine Calls.mono (Gives.calls (RB.out _ (by repeat (first | exact Below.refl _ _ | (with_reducible assumption) | apply below_later | apply below_alloc | apply below_drew | apply below_drewN)))) ?_; rintro e w1 ⟨rfl, z5, rfl⟩)
          | (go_at_call 23; with_reducible refine Calls.mono (Gives.calls (SI.out _)) ?_; rintro e w1 ⟨rfl, z6, rfl⟩))
        go_ret
        exact ⟨rfl, later_of (by repeat (first | exact Below.refl _ _ | (with_reducible assumption) | apply below_later | apply below_alloc | apply below_drew | apply below_drewN))⟩
      case true =>
        have W := tabB_iff.1 hv
        have hn12 := W.n12
        have IT : Hid (∀ V, Below w.heap.size w V → Calls Try.prog 31 #[.slice A k cap] V fun e w' => ∃ v, e = .returned (.tuple #[v, .int .i64 0]) ∧ ∃ x : Later V, w' = x.val ∧ OwnI w' V.heap.size v (pickL (fT R) (turnI k) (R 0).n (R 0).n)) := fun V h => InTurn_ok k cap _ A R V W (hp.below h)
        have RT : Hid (∀ V, Below w.heap.size w V → Calls Try.prog 32 #[.slice A k cap] V fun e w' => ∃ v, e = .returned (.tuple #[v, .int .i64 0]) ∧ ∃ x : Later V, w' = x.val ∧ OwnI w' V.heap.size v (pickL (fT R) (turnI k) (R 0).n (R 0).n)) := fun V h => rInTurn_ok k cap _ A R V W (hp.below h)
        have LT := Lib.hid (pickL_length (fT R) (turnI k) (R 0).n (R 0).n)
        have IS := Lib.hid fun (V : World) (h : Below w.heap.size w V) => risShare_any k cap m cS _ A S R c V (by omega) W (hp.below h) (hc.below h)
        have SI := Lib.hid fun (l : List Int) w' A1 c1 B1 c2 (h1 : IsInts w' A1 (R 0).n fun i => l.getD i 0) (h2 : IsInts w' B1 (R 0).n fun i => l.getD i 0) => same_ints A1 B1 (R 0).n c1 c2 _ _ w' (by omega) h1 h2 fun _ _ => rfl
        cases hs : shareB k (R 0).n m c
        case false =>
          have PA := Lib.hid fun (V : World) (h : Below w.heap.size w V) => Pick_arg k cap _ m cS A S R c V W (hp.below h) (hc.below h) hs
          rw [hs] at IS
          have SI1 := Lib.hid (SI.out (pickL (fT R) (turnI k) (R 0).n (R 0).n))
          generalize pickL (fT R) (turnI k) (R 0).n (R 0).n = t at *
          generalize (R 0).n = n at *
          clear hp hc hr hv hs SI
          go_enter Try.func5, Try.ntmps5
          go_wp2_with (first
            | (go_at_call 13; with_reducible refine Calls.mono (Gives.calls (LG.out _ (by repeat (first | exact Below.refl _ _ | (with_reducible assumption) | apply below_later | apply below_alloc | apply below_drew | apply below_drewN)))) ?_; rintro e w1 ⟨rfl, z, rfl⟩)
            | (go_at_call 14; with_reducible refine Calls.mono (Gives.calls (FL.out _)) ?_; rintro e w1 ⟨rfl, z2, rfl⟩)
            | (go_at_call 30; with_reducible refine Calls.mono (Gives.calls (PA.out _ (by repeat (first | exact Below.refl _ _ | (with_reducible assumption) | apply below_later | apply below_alloc | apply below_drew | apply below_drewN)))) ?_; rintro e w1 ⟨rfl, z3, rfl⟩)
            | (go_at_call 31; with_reducible refine Calls.mono (IT.out _ (by repeat (first | exact Below.refl _ _ | (with_reducible assumption) | apply below_later | apply below_alloc | apply below_drew | apply below_drewN))) ?_; rintro e w1 ⟨v, rfl, z4, rfl, ho⟩; obtain ⟨O, cO, rfl⟩ := ho.shape_n LT.out; have IO := Lib.hid (ho.ints (by rw [LT.out]; omega)).2; clear ho)
            | (go_at_call 32; with_reducible refine Calls.mono (RT.out _ (by repeat (first | exact Below.refl _ _ | (with_reducible assumption) | apply below_later | apply below_alloc | apply below_drew | apply below_drewN))) ?_; rintro e w1 ⟨v, rfl, z5, rfl, ho⟩; obtain ⟨O2, cO2, rfl⟩ := ho.shape_n LT.out; have IO2 := Lib.hid (ho.ints (by rw [LT.out]; omega)).2; clear ho)
            | (go_at_call 23; with_reducible refine Calls.mono (Gives.calls (SI1.out _ _ _ _ _ (IO.out.below (by repeat (first | exact Below.refl _ _ | (with_reducible assumption) | apply below_later | apply below_alloc | apply below_drew | apply below_drewN))) (IO2.out.below (by repeat (first | exact Below.refl _ _ | (with_reducible assumption) | apply below_later | apply below_alloc | apply below_drew | apply below_drewN))))) ?_; rintro e w1 ⟨rfl, z6, rfl⟩)
            | (go_at_call 33; with_reducible refine Calls.mono (Gives.calls (IS.out _ (by repeat (first | exact Below.refl _ _ | (with_reducible assumption) | apply below_later | apply below_alloc | apply below_drew | apply below_drewN)))) ?_; rintro e w1 ⟨rfl, z7, rfl⟩))
          go_ret
          exact ⟨rfl, later_of (by repeat (first | exact Below.refl _ _ | (with_reducible assumption) | apply below_later | apply below_alloc | apply below_drew | apply below_drewN))⟩
        case true =>
          obtain ⟨hmn, hin⟩ := shareB_iff.1 hs
          subst hmn
          have PA : Hid (∀ V, Below w.heap.size w V → Calls Try.prog 30 #[.slice A k cap, .slice S (R 0).n cS] V fun e w' => ∃ v, e = .returned (.tuple #[v, .int .i64 0]) ∧ ∃ x : Later V, w' = x.val ∧ OwnI w' V.heap.size v (pickL (fT R) c (R 0).n (R 0).n)) := fun V h => Pick_ok k cap _ cS A S R c V W (hp.below h) (hc.below h) hin
          have RP := Lib.hid fun (V : World) (h : Below w.heap.size w V) => rPick_any k cap _ cS A S R c V W (hp.below h) (hc.below h) hin
          have LP := Lib.hid (pickL_length (fT R) c (R 0).n (R 0).n)
          rw [hs] at IS
          have SI1 := Lib.hid (SI.out (pickL (fT R) (turnI k) (R 0).n (R 0).n))
          have SI2 := Lib.hid (SI.out (pickL (fT R) c (R 0).n (R 0).n))
          generalize pickL (fT R) (turnI k) (R 0).n (R 0).n = t at *
          generalize pickL (fT R) c (R 0).n (R 0).n = p at *
          clear hp hc hr hv hs SI hin W
          generalize (R 0).n = n at *
          go_enter Try.func5, Try.ntmps5
          go_wp2_with (first
            | (go_at_call 13; with_reducible refine Calls.mono (Gives.calls (LG.out _ (by repeat (first | exact Below.refl _ _ | (with_reducible assumption) | apply below_later | apply below_alloc | apply below_drew | apply below_drewN)))) ?_; rintro e w1 ⟨rfl, z, rfl⟩)
            | (go_at_call 14; with_reducible refine Calls.mono (Gives.calls (FL.out _)) ?_; rintro e w1 ⟨rfl, z2, rfl⟩)
            | (go_at_call 30; with_reducible refine Calls.mono (PA.out _ (by repeat (first | exact Below.refl _ _ | (with_reducible assumption) | apply below_later | apply below_alloc | apply below_drew | apply below_drewN))) ?_; rintro e w1 ⟨v, rfl, z3, rfl, ho⟩; obtain ⟨P1, cP, rfl⟩ := ho.shape_n LP.out; have IP := Lib.hid (ho.ints (by rw [LP.out]; omega)).2; clear ho)
            | (go_at_call 31; with_reducible refine Calls.mono (IT.out _ (by repeat (first | exact Below.refl _ _ | (with_reducible assumption) | apply below_later | apply below_alloc | apply below_drew | apply below_drewN))) ?_; rintro e w1 ⟨v, rfl, z4, rfl, ho⟩; obtain ⟨O, cO, rfl⟩ := ho.shape_n LT.out; have IO := Lib.hid (ho.ints (by rw [LT.out]; omega)).2; clear ho)
            | (go_at_call 32; with_reducible refine Calls.mono (RT.out _ (by repeat (first | exact Below.refl _ _ | (with_reducible assumption) | apply below_later | apply below_alloc | apply below_drew | apply below_drewN))) ?_; rintro e w1 ⟨v, rfl, z5, rfl, ho⟩; obtain ⟨O2, cO2, rfl⟩ := ho.shape_n LT.out; have IO2 := Lib.hid (ho.ints (by rw [LT.out]; omega)).2; clear ho)
            | (go_at_call 23; with_reducible refine Calls.mono (Gives.calls (SI1.out _ _ _ _ _ (IO.out.below (by repeat (first | exact Below.refl _ _ | (with_reducible assumption) | apply below_later | apply below_alloc | apply below_drew | apply below_drewN))) (IO2.out.below (by repeat (first | exact Below.refl _ _ | (with_reducible assumption) | apply below_later | apply below_alloc | apply below_drew | apply below_drewN))))) ?_; rintro e w1 ⟨rfl, z6, rfl⟩)
            | (go_at_call 33; with_reducible refine Calls.mono (Gives.calls (IS.out _ (by repeat (first | exact Below.refl _ _ | (with_reducible assumption) | apply below_later | apply below_alloc | apply below_drew | apply below_drewN)))) ?_; rintro e w1 ⟨rfl, z7, rfl⟩)
            | (go_at_call 34; with_reducible refine Calls.mono (GivesI.calls (RP.out _ (by repeat (first | exact Below.refl _ _ | (with_reducible assumption) | apply below_later | apply below_alloc | apply below_drew | apply below_drewN)))) ?_; rintro e w1 ⟨v, rfl, z8, rfl, ho⟩; obtain ⟨P2, cP2, rfl⟩ := ho.shape_n LP.out; have IP2 := Lib.hid (ho.ints (by rw [LP.out]; omega)).2; clear ho)
            | (go_at_call 23; with_reducible refine Calls.mono (Gives.calls (SI2.out _ _ _ _ _ (IP.out.below (by repeat (first | exact Below.refl _ _ | (with_reducible assumption) | apply below_later | apply below_alloc | apply below_drew | apply below_drewN))) (IP2.out.below (by repeat (first | exact Below.refl _ _ | (with_reducible assumption) | apply below_later | apply below_alloc | apply below_drew | apply below_drewN))))) ?_; rintro e w1 ⟨rfl, z9, rfl⟩))
          go_ret
          exact ⟨rfl, later_of (by repeat (first | exact Below.refl _ _ | (with_reducible assumption) | apply below_later | apply below_alloc | apply below_drew | apply below_drewN))⟩
end Go.Proofs.Ytjmjafpjfhgfdaa
