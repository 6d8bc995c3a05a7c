/- dole's Better and the document's Better: walked. -/
import Derived.Test.YtjmjafpjfhgfdaaDSum
namespace Go.Proofs.Ytjmjafpjfhgfdaa
open Go.RowKit

theorem allB_succ (n : Nat) (p : Nat → Bool) : allB (n + 1) p = (allB n p && p n) := by simp [allB, List.range_succ]
theorem more_succ (x y : Nat → Int) (i : Nat) : moreB x y (i + 1) = (moreB x y i || decide (y i < x i)) := by
  unfold moreB
  rw [allB_succ, Bool.not_and]
  congr 1
  by_cases h : x i ≤ y i
  · rw [decide_eq_true h, decide_eq_false (by omega)]; rfl
  · rw [decide_eq_false h, decide_eq_true (by omega)]; rfl
/-- Is the one share-out better than the other? -/
def betT (R : Nat → Row) (a b : Nat → Int) (m k : Nat) : Bool := betterB (ownW R a m) (ownW R b m) k
/-- The first error of two share-outs. -/
def errT (k : Nat) (R : Nat → Row) (m1 : Nat) (a : Nat → Int) (m2 : Nat) (b : Nat → Int) : Int := if errE k R m1 a = 0 then errE k R m2 b else errE k R m1 a
set_option maxRecDepth 100000 in
set_option maxHeartbeats 3200000 in
theorem Better_bad (k cap m1 c1 m2 c2 : Nat) (A S1 S2 : Option Addr) (R : Nat → Row) (a b : Nat → Int) (w : World) (hp : IsTab w A k R) (ha : IsInts w S1 m1 a) (hb : IsInts w S2 m2 b) (hne : errT k R m1 a m2 b ≠ 0) :
    Gives Try.prog 47 #[.slice A k cap, .slice S1 m1 c1, .slice S2 m2 c2] w (.tuple #[.bool false, .int .i64 (errT k R m1 a m2 b)]) := by
  have C1 := Lib.hid fun (V : World) (h : Below w.heap.size w V) => check_any k cap m1 c1 A S1 R a V (hp.below h) (ha.below h)
  have C2 := Lib.hid fun (V : World) (h : Below w.heap.size w V) => check_any k cap m2 c2 A S2 R b V (hp.below h) (hb.below h)
  have hz : (w.alloc (.cells #[.slice S1 m1 c1, .slice S2 m2 c2] 23)).heap[w.heap.size]? = some (.cells #[.slice S1 m1 c1, .slice S2 m2 c2] 23 (0, 0)) := World.alloc_heap_new _ _
  have z0 := cell_of_heap hz 0 _ rfl
  have z1 := cell_of_heap hz 1 _ rfl
  have zl := get_lt hz
  have HBZ0 : Hid (Below w.heap.size w (w.alloc (.cells #[.slice S1 m1 c1, .slice S2 m2 c2] 23))) := (Below.refl _ _).alloc (Nat.le_refl _) _
  have HT : Hid (errT k R m1 a m2 b = if errE k R m1 a = 0 then errE k R m2 b else errE k R m1 a) := rfl
  have HNE := Lib.hid hne
  clear hp ha hb hz hne
  generalize errT k R m1 a m2 b = ET at *
  generalize errE k R m1 a = E1 at *
  generalize errE k R m2 b = E2 at *
  go_enter Try.func47, Try.ntmps47
  go_wp2_with fail
  obtain ⟨b9, hb9⟩ : ∃ b9, w.heap.size = b9 := ⟨_, rfl⟩
  rw [hb9] at z0 z1 zl ⊢
  clear hb9
  generalize w.alloc (.cells #[.slice S1 m1 c1, .slice S2 m2 c2] 23) = Z0 at *
  go_loopw [19] (fun u wr => ∃ j : Nat, u = .int .i64 (j : Nat) ∧ j ≤ 2 ∧ (0 < j → E1 = 0) ∧ (1 < j → E2 = 0) ∧ ∃ x : Later Z0, wr = x.val) (fun u _ => 2 - (intOf u).toNat)
  case atStart => exact ⟨0, rfl, by omega, by omega, by omega, later_of (by repeat (first | exact Below.refl _ _ | (with_reducible assumption) | apply below_later | apply below_alloc | apply below_drew | apply below_drewN))⟩
  case round =>
    obtain ⟨j, rfl, hj, hj1, hj2, x, rfl⟩ := hrel
    have HJ1 := Lib.hid hj1
    have HJ2 := Lib.hid hj2
    have x0 := (x.cell _ 0 zl).trans z0
    have x1 := (x.cell _ 1 zl).trans z1
    have xl := x.lt _ zl
    have HBX : Hid (Below w.heap.size w x.val) := below_more HBZ0.out x.ok
    have XV0 : Hid (∀ V, Below x.val.heap.size x.val V → ∃ y : Later Z0, V = y.val) := fun V h => ⟨⟨V, below_more x.ok h⟩, rfl⟩
    clear hj1 hj2
    by_cases h0 : j = 0
    · subst h0
      by_cases he : E1 = 0
      · have HE := Lib.hid he
        have g1 : (E1 != 0) = false := by rw [he]; rfl
        clear he
        go_wp2_with (go_at_call 51; with_reducible refine Calls.mono (Gives.calls (C1.out _ (below_more HBX.out (by repeat (first | exact Below.refl _ _ | (with_reducible assumption) | apply below_later | apply below_alloc | apply below_drew | apply below_drewN))))) ?_; rintro e w1 ⟨rfl, y, rfl⟩)
        first
          | (refine ⟨⟨0 + 1, by go_num, by omega, fun _ => HE.out, fun h => by omega, XV0.out _ (by repeat (first | exact Below.refl _ _ | (with_reducible assumption) | apply below_later | apply below_alloc | apply below_drew | apply below_drewN))⟩, ?_⟩; simp [intOf]; done)
          | (go_roundw
             case rel => exact ⟨0 + 1, by go_num, by omega, fun _ => HE.out, fun h => by omega, XV0.out _ (by repeat (first | exact Below.refl _ _ | (with_reducible assumption) | apply below_later | apply below_alloc | apply below_drew | apply below_drewN))⟩
             case measure => simp [intOf]; done)
      · have HE : Hid (ET = E1) := by show _ = _; rw [HT.out, if_neg he]
        have g1 : (E1 != 0) = true := by simpa using he
        clear he
        go_wp2_with (go_at_call 51; with_reducible refine Calls.mono (Gives.calls (C1.out _ (below_more HBX.out (by repeat (first | exact Below.refl _ _ | (with_reducible assumption) | apply below_later | apply below_alloc | apply below_drew | apply below_drewN))))) ?_; rintro e w1 ⟨rfl, y, rfl⟩)
        go_ret2
        exact ⟨by rw [HE.out]; rfl, later_of (below_more HBX.out (by repeat (first | exact Below.refl _ _ | (with_reducible assumption) | apply below_later | apply below_alloc | apply below_drew | apply below_drewN)))⟩
    · by_cases h1 : j = 1
      · subst h1
        by_cases he : E2 = 0
        · have HE : Hid (ET = 0) := by show _ = _; rw [HT.out, if_pos (HJ1.out (by omega)), he]
          exact absurd HE.out HNE.out
        · have HE : Hid (ET = E2) := by show _ = _; rw [HT.out, if_pos (HJ1.out (by omega))]
          have g1 : (E2 != 0) = true := by simpa using he
          clear he
          go_wp2_with (go_at_call 51; with_reducible refine Calls.mono (Gives.calls (C2.out _ (below_more HBX.out (by repeat (first | exact Below.refl _ _ | (with_reducible assumption) | apply below_later | apply below_alloc | apply below_drew | apply below_drewN))))) ?_; rintro e w1 ⟨rfl, y, rfl⟩)
          go_ret2
          exact ⟨by rw [HE.out]; rfl, later_of (below_more HBX.out (by repeat (first | exact Below.refl _ _ | (with_reducible assumption) | apply below_later | apply below_alloc | apply below_drew | apply below_drewN)))⟩
      · obtain rfl : j = 2 := by omega
        exact absurd (by rw [HT.out, if_pos (HJ1.out (by omega)), HJ2.out (by omega)]) HNE.out
set_option maxRecDepth 100000 in
set_option maxHeartbeats 3200000 in
theorem Better_ok (k cap m c1 c2 : Nat) (A S1 S2 : Option Addr) (R : Nat → Row) (a b : Nat → Int) (w : World) (hp : IsTab w A k R) (ha : IsInts w S1 m a) (hb : IsInts w S2 m b) (h1 : errE k R m a = 0) (h2 : errE k R m b = 0) :
    Gives Try.prog 47 #[.slice A k cap, .slice S1 m c1, .slice S2 m c2] w (.tuple #[.bool (betT R a b m k), .int .i64 0]) := by
  obtain ⟨W, hm, _⟩ := errE_ok h1
  have hk6 := W.k6
  have C1 := Lib.hid fun (V : World) (h : Below w.heap.size w V) => h1 ▸ check_any k cap m c1 A S1 R a V (hp.below h) (ha.below h)
  have C2 := Lib.hid fun (V : World) (h : Below w.heap.size w V) => h2 ▸ check_any k cap m c2 A S2 R b V (hp.below h) (hb.below h)
  have WA := Lib.hid fun (V : World) (h : Below w.heap.size w V) => worths_any k cap (R 0).n m c1 A S1 R a V (by omega) W (hp.below h) (ha.below h)
  have WB := Lib.hid fun (V : World) (h : Below w.heap.size w V) => worths_any k cap (R 0).n m c2 A S2 R b V (by omega) W (hp.below h) (hb.below h)
  have hz : (w.alloc (.cells #[.slice S1 m c1, .slice S2 m c2] 23)).heap[w.heap.size]? = some (.cells #[.slice S1 m c1, .slice S2 m c2] 23 (0, 0)) := World.alloc_heap_new _ _
  have z0 := cell_of_heap hz 0 _ rfl
  have z1 := cell_of_heap hz 1 _ rfl
  have zl := get_lt hz
  have HBZ0 : Hid (Below w.heap.size w (w.alloc (.cells #[.slice S1 m c1, .slice S2 m c2] 23))) := (Below.refl _ _).alloc (Nat.le_refl _) _
  have XE := Lib.hid fun i (hi : i < k) => listN_get (g := ownW R a m) hi
  have YE := Lib.hid fun i (hi : i < k) => listN_get (g := ownW R b m) hi
  have LA := Lib.hid (listN_length (ownW R a m) k)
  have LB := Lib.hid (listN_length (ownW R b m) k)
  have HR : Hid (betT R a b m k = ((allB k fun i => decide (ownW R b m i ≤ ownW R a m i)) && moreB (ownW R a m) (ownW R b m) k)) := rfl
  have MS := Lib.hid (more_succ (ownW R a m) (ownW R b m))
  have M0 : Hid (moreB (ownW R a m) (ownW R b m) 0 = false) := rfl
  generalize betT R a b m k = res at *
  generalize listN (ownW R a m) k = la at *
  generalize listN (ownW R b m) k = lb at *
  generalize moreB (ownW R a m) (ownW R b m) = MO at *
  generalize ownW R a m = X at *
  generalize ownW R b m = Y at *
  clear hp ha hb hz h1 h2 W hm
  go_enter Try.func47, Try.ntmps47
  go_wp2_with fail
  obtain ⟨b9, hb9⟩ : ∃ b9, w.heap.size = b9 := ⟨_, rfl⟩
  rw [hb9] at z0 z1 zl ⊢
  clear hb9
  generalize w.alloc (.cells #[.slice S1 m c1, .slice S2 m c2] 23) = Z0 at *
  go_loopw [19] (fun u wr => ∃ j : Nat, u = .int .i64 (j : Nat) ∧ j ≤ 2 ∧ ∃ x : Later Z0, wr = x.val) (fun u _ => 2 - (intOf u).toNat)
  case atStart => exact ⟨0, rfl, by omega, later_of (by repeat (first | exact Below.refl _ _ | (with_reducible assumption) | apply below_later | apply below_alloc | apply below_drew | apply below_drewN))⟩
  case round =>
    obtain ⟨j, rfl, hj, x, rfl⟩ := hrel
    have x0 := (x.cell _ 0 zl).trans z0
    have x1 := (x.cell _ 1 zl).trans z1
    have xl := x.lt _ zl
    have HBX : Hid (Below w.heap.size w x.val) := below_more HBZ0.out x.ok
    have XV0 : Hid (∀ V, Below x.val.heap.size x.val V → ∃ y : Later Z0, V = y.val) := fun V h => ⟨⟨V, below_more x.ok h⟩, rfl⟩
    by_cases h0 : j = 0
    · subst h0
      go_wp2_with (go_at_call 51; with_reducible refine Calls.mono (Gives.calls (C1.out _ (below_more HBX.out (by repeat (first | exact Below.refl _ _ | (with_reducible assumption) | apply below_later | apply below_alloc | apply below_drew | apply below_drewN))))) ?_; rintro e w1 ⟨rfl, y, rfl⟩)
      first
        | (refine ⟨⟨0 + 1, by go_num, by omega, XV0.out _ (by repeat (first | exact Below.refl _ _ | (with_reducible assumption) | apply below_later | apply below_alloc | apply below_drew | apply below_drewN))⟩, ?_⟩; simp [intOf]; done)
        | (go_roundw
           case rel => exact ⟨0 + 1, by go_num, by omega, XV0.out _ (by repeat (first | exact Below.refl _ _ | (with_reducible assumption) | apply below_later | apply below_alloc | apply below_drew | apply below_drewN))⟩
           case measure => simp [intOf]; done)
    · by_cases h1 : j = 1
      · subst h1
        go_wp2_with (go_at_call 51; with_reducible refine Calls.mono (Gives.calls (C2.out _ (below_more HBX.out (by repeat (first | exact Below.refl _ _ | (with_reducible assumption) | apply below_later | apply below_alloc | apply below_drew | apply below_drewN))))) ?_; rintro e w1 ⟨rfl, y, rfl⟩)
        first
          | (refine ⟨⟨1 + 1, by go_num, by omega, XV0.out _ (by repeat (first | exact Below.refl _ _ | (with_reducible assumption) | apply below_later | apply below_alloc | apply below_drew | apply below_drewN))⟩, ?_⟩; simp [intOf]; done)
          | (go_roundw
             case rel => exact ⟨1 + 1, by go_num, by omega, XV0.out _ (by repeat (first | exact Below.refl _ _ | (with_reducible assumption) | apply below_later | apply below_alloc | apply below_drew | apply below_drewN))⟩
             case measure => simp [intOf]; done)
      · obtain rfl : j = 2 := by omega
        clear C1 C2 x0 x1 z0 z1
        go_wp2_with (first
          | (go_at_call 52; with_reducible refine Calls.mono (GivesI.calls (WA.out _ (below_more HBX.out (by repeat (first | exact Below.refl _ _ | (with_reducible assumption) | apply below_later | apply below_alloc | apply below_drew | apply below_drewN))))) ?_; rintro e w1 ⟨v, rfl, y1, rfl, ho⟩; obtain ⟨O1, cO1, rfl⟩ := ho.shape_n LA.out; have IA := Lib.hid (ho.ints (by rw [LA.out]; omega)).2; clear ho)
          | (go_at_call 52; with_reducible refine Calls.mono (GivesI.calls (WB.out _ (below_more HBX.out (by repeat (first | exact Below.refl _ _ | (with_reducible assumption) | apply below_later | apply below_alloc | apply below_drew | apply below_drewN))))) ?_; rintro e w1 ⟨v, rfl, y2, rfl, ho⟩; obtain ⟨O2, cO2, rfl⟩ := ho.shape_n LB.out; have IB := Lib.hid (ho.ints (by rw [LB.out]; omega)).2; clear ho))
        have HBZ : Hid (Below w.heap.size w y2.val) := below_more HBX.out (by repeat (first | exact Below.refl _ _ | (with_reducible assumption) | apply below_later | apply below_alloc | apply below_drew | apply below_drewN))
        have JA : Hid (IsInts y2.val O1 k fun i => la.getD i 0) := IA.out.below (by repeat (first | exact Below.refl _ _ | (with_reducible assumption) | apply below_later | apply below_alloc | apply below_drew | apply below_drewN))
        have JB := IB
        clear IA IB WA WB
        generalize y2.val = Z at *
        go_loopw [13, 40] (fun u v wr => ∃ i : Nat, u = .bool (MO i) ∧ v = .int .i64 (i : Nat) ∧ i ≤ k ∧ (∀ j, j < i → decide (Y j ≤ X j) = true) ∧ ∃ x : Later Z, wr = x.val) (fun _ v _ => k - (intOf v).toNat)
        case atStart => exact ⟨0, by rw [M0.out], rfl, by omega, by omega, later_of (by repeat (first | exact Below.refl _ _ | (with_reducible assumption) | apply below_later | apply below_alloc | apply below_drew | apply below_drewN))⟩
        case round =>
          obtain ⟨i, rfl, rfl, hi, hall, x, rfl⟩ := hrel
          have HALL := Lib.hid hall
          clear hall
          by_cases hlt : i < k
          · obtain ⟨b1, o1, hA1, p1⟩ := (JA.out.later x).at_ (by omega)
            obtain ⟨b2, o2, hA2, p2⟩ := (JB.out.later x).at_ (by omega)
            have HA1 := Lib.hid hA1
            have HA2 := Lib.hid hA2
            rw [hA1, hA2]
            have l1 := p1.lt
            have l2 := p2.lt
            have d1 := p1.at_ i hlt
            have d2 := p2.at_ i hlt
            rw [XE.out i hlt] at d1
            rw [YE.out i hlt] at d2
            have MS1 := Lib.hid (MS.out i)
            have FT : Hid (decide (Y i ≤ X i) = true → ∀ j, j < i + 1 → decide (Y j ≤ X j) = true) := fun h => all_step (p := fun j => decide (Y j ≤ X j)) HALL.out h
            have FF : Hid (decide (Y i ≤ X i) = false → res = false) := fun h => by rw [HR.out, allB_false (p := fun j => decide (Y j ≤ X j)) hlt h]; rfl
            clear p1 p2 hA1 hA2
            generalize X i = xi at *
            generalize Y i = yi at *
            generalize MO i = mo at *
            have hg : decide ((i : Int) < (k : Int)) = true := by simp; omega
            have XV : Hid (∀ V, Below x.val.heap.size x.val V → ∃ y : Later Z, V = y.val) := fun V h => ⟨⟨V, below_more x.ok h⟩, rfl⟩
            have HBX : Hid (Below w.heap.size w x.val) := below_more HBZ.out x.ok
            by_cases h1 : xi < yi
            · have e1 : decide (xi < yi) = true := decide_eq_true h1
              have HE := Lib.hid (FF.out (decide_eq_false (by omega)))
              go_wp2_with fail
              refine wp_region_later (by kernel_rfl) (by kernel_rfl) ?_
              repeat (go_big_quiet_step ((fail)))
              refine wpQuiet_nil ?_
              intro y
              go_wp2_with fail
              go_ret2
              exact ⟨by rw [HE.out]; rfl, later_of (below_more HBX.out y.ok)⟩
            · have e1 : decide (xi < yi) = false := decide_eq_false h1
              have HE := Lib.hid (FT.out (decide_eq_true (by omega)))
              cases mo
              · by_cases h2 : yi < xi
                · have e2 : decide (yi < xi) = true := decide_eq_true h2
                  have HN : Hid (MO (i + 1) = true) := by show _ = _; rw [MS1.out, e2]; rfl
                  go_wp2_with fail
                  refine wp_region_later (by kernel_rfl) (by kernel_rfl) ?_
                  repeat (go_big_quiet_step ((fail)))
                  refine wpQuiet_nil ?_
                  intro y
                  have c1 := (y.cell _ (o1 + i) l1).trans d1
                  have c2 := (y.cell _ (o2 + i) l2).trans d2
                  have l3 := y.lt _ l1
                  have l4 := y.lt _ l2
                  go_wp2_with fail
                  refine wp_region_later (by kernel_rfl) (by kernel_rfl) ?_
                  repeat (go_big_quiet_step ((fail)))
                  refine wpQuiet_nil ?_
                  intro y2
                  go_wp2_with fail
                  try rw [← HA1.out]
                  try rw [← HA2.out]
                  first
                    | (go_roundw
                       case rel => exact ⟨i + 1, by rw [HN.out], by go_num, by omega, HE.out, XV.out _ (by repeat (first | exact Below.refl _ _ | (with_reducible assumption) | apply below_later | apply below_alloc | apply below_drew | apply below_drewN))⟩
                       case measure => simp [intOf]; omega)
                    | (refine ⟨⟨i + 1, by rw [HN.out], by go_num, by omega, HE.out, XV.out _ (by repeat (first | exact Below.refl _ _ | (with_reducible assumption) | apply below_later | apply below_alloc | apply below_drew | apply below_drewN))⟩, ?_⟩; simp [intOf]; omega)
                · have e2 : decide (yi < xi) = false := decide_eq_false h2
                  have HN : Hid (MO (i + 1) = false) := by show _ = _; rw [MS1.out, e2]; rfl
                  go_wp2_with fail
                  refine wp_region_later (by kernel_rfl) (by kernel_rfl) ?_
                  repeat (go_big_quiet_step ((fail)))
                  refine wpQuiet_nil ?_
                  intro y
                  have c1 := (y.cell _ (o1 + i) l1).trans d1
                  have c2 := (y.cell _ (o2 + i) l2).trans d2
                  have l3 := y.lt _ l1
                  have l4 := y.lt _ l2
                  go_wp2_with fail
                  refine wp_region_later (by kernel_rfl) (by kernel_rfl) ?_
                  repeat (go_big_quiet_step ((fail)))
                  refine wpQuiet_nil ?_
                  intro y2
                  go_wp2_with fail
                  try rw [← HA1.out]
                  try rw [← HA2.out]
                  first
                    | (go_roundw
                       case rel => exact ⟨i + 1, by rw [HN.out], by go_num, by omega, HE.out, XV.out _ (by repeat (first | exact Below.refl _ _ | (with_reducible assumption) | apply below_later | apply below_alloc | apply below_drew | apply below_drewN))⟩
                       case measure => simp [intOf]; omega)
                    | (refine ⟨⟨i + 1, by rw [HN.out], by go_num, by omega, HE.out, XV.out _ (by repeat (first | exact Below.refl _ _ | (with_reducible assumption) | apply below_later | apply below_alloc | apply below_drew | apply below_drewN))⟩, ?_⟩; simp [intOf]; omega)
              · have HN : Hid (MO (i + 1) = true) := by show _ = _; rw [MS1.out]; rfl
                go_wp2_with fail
                refine wp_region_later (by kernel_rfl) (by kernel_rfl) ?_
                repeat (go_big_quiet_step ((fail)))
                refine wpQuiet_nil ?_
                intro y
                have c1 := (y.cell _ (o1 + i) l1).trans d1
                have c2 := (y.cell _ (o2 + i) l2).trans d2
                have l3 := y.lt _ l1
                have l4 := y.lt _ l2
                go_wp2_with fail
                refine wp_region_later (by kernel_rfl) (by kernel_rfl) ?_
                repeat (go_big_quiet_step ((fail)))
                refine wpQuiet_nil ?_
                intro y2
                go_wp2_with fail
                try rw [← HA1.out]
                try rw [← HA2.out]
                first
                  | (go_roundw
                     case rel => exact ⟨i + 1, by rw [HN.out], by go_num, by omega, HE.out, XV.out _ (by repeat (first | exact Below.refl _ _ | (with_reducible assumption) | apply below_later | apply below_alloc | apply below_drew | apply below_drewN))⟩
                     case measure => simp [intOf]; omega)
                  | (refine ⟨⟨i + 1, by rw [HN.out], by go_num, by omega, HE.out, XV.out _ (by repeat (first | exact Below.refl _ _ | (with_reducible assumption) | apply below_later | apply below_alloc | apply below_drew | apply below_drewN))⟩, ?_⟩; simp [intOf]; omega)
          · obtain rfl : i = k := by omega
            have HT : Hid (res = MO i) := by show _ = _; rw [HR.out, allB_true (p := fun j => decide (Y j ≤ X j)) HALL.out, Bool.true_and]
            go_wp2_with fail
            go_ret2
            exact ⟨by rw [HT.out]; rfl, later_of (below_more HBZ.out (by repeat (first | exact Below.refl _ _ | (with_reducible assumption) | apply below_later | apply below_alloc | apply below_drew | apply below_drewN)))⟩
set_option maxRecDepth 100000 in
set_option maxHeartbeats 3200000 in
theorem rBetter_any (k cap n m c1 c2 : Nat) (A S1 S2 : Option Addr) (R : Nat → Row) (a b : Nat → Int) (w : World) (hmn : m ≤ n) (W : Vals k n R) (hp : IsTab w A k R) (ha : IsInts w S1 m a) (hb : IsInts w S2 m b) :
    Gives Try.prog 48 #[.slice A k cap, .slice S1 m c1, .slice S2 m c2] w (.bool (betT R a b m k)) := by
  have hk6 := W.k6
  have WA := Lib.hid fun (V : World) (h : Below w.heap.size w V) => rworths_any k cap n m c1 A S1 R a V hmn W (hp.below h) (ha.below h)
  have WB := Lib.hid fun (V : World) (h : Below w.heap.size w V) => rworths_any k cap n m c2 A S2 R b V hmn W (hp.below h) (hb.below h)
  have XE := Lib.hid fun i (hi : i < k) => listN_get (g := ownW R a m) hi
  have YE := Lib.hid fun i (hi : i < k) => listN_get (g := ownW R b m) hi
  have LA := Lib.hid (listN_length (ownW R a m) k)
  have LB := Lib.hid (listN_length (ownW R b m) k)
  have HR : Hid (betT R a b m k = ((allB k fun i => decide (ownW R b m i ≤ ownW R a m i)) && moreB (ownW R a m) (ownW R b m) k)) := rfl
  have MS := Lib.hid (more_succ (ownW R a m) (ownW R b m))
  have M0 : Hid (moreB (ownW R a m) (ownW R b m) 0 = false) := rfl
  generalize betT R a b m k = res at *
  generalize listN (ownW R a m) k = la at *
  generalize listN (ownW R b m) k = lb at *
  generalize moreB (ownW R a m) (ownW R b m) = MO at *
  generalize ownW R a m = X at *
  generalize ownW R b m = Y at *
  clear hp ha hb W hmn
  go_enter Try.func48, Try.ntmps48
  go_wp2_with (first
    | (go_at_call 24; with_reducible refine Calls.mono (GivesI.calls (WA.out _ (by repeat (first | exact Below.refl _ _ | (with_reducible assumption) | apply below_later | apply below_alloc | apply below_drew | apply below_drewN)))) ?_; rintro e w1 ⟨v, rfl, y1, rfl, ho⟩; obtain ⟨O1, cO1, rfl⟩ := ho.shape_n LA.out; have IA := Lib.hid (ho.ints (by rw [LA.out]; omega)).2; clear ho)
    | (go_at_call 24; with_reducible refine Calls.mono (GivesI.calls (WB.out _ (by repeat (first | exact Below.refl _ _ | (with_reducible assumption) | apply below_later | apply below_alloc | apply below_drew | apply below_drewN)))) ?_; rintro e w1 ⟨v, rfl, y2, rfl, ho⟩; obtain ⟨O2, cO2, rfl⟩ := ho.shape_n LB.out; have IB := Lib.hid (ho.ints (by rw [LB.out]; omega)).2; clear ho))
  have HBZ : Hid (Below w.heap.size w y2.val) := by show Below _ _ _; repeat (first | exact Below.refl _ _ | (with_reducible assumption) | apply below_later | apply below_alloc | apply below_drew | apply below_drewN)
  have JA : Hid (IsInts y2.val O1 k fun i => la.getD i 0) := IA.out.below (by repeat (first | exact Below.refl _ _ | (with_reducible assumption) | apply below_later | apply below_alloc | apply below_drew | apply below_drewN))
  have JB := IB
  clear IA IB WA WB
  generalize y2.val = Z at *
  go_loopw [9, 10] (fun u v wr => ∃ i : Nat, u = .bool (MO i) ∧ v = .int .i64 (i : Nat) ∧ i ≤ k ∧ (∀ j, j < i → decide (Y j ≤ X j) = true) ∧ ∃ x : Later Z, wr = x.val) (fun _ v _ => k - (intOf v).toNat)
  case atStart => exact ⟨0, by rw [M0.out], rfl, by omega, by omega, later_of (by repeat (first | exact Below.refl _ _ | (with_reducible assumption) | apply below_later | apply below_alloc | apply below_drew | apply below_drewN))⟩
  case round =>
    obtain ⟨i, rfl, rfl, hi, hall, x, rfl⟩ := hrel
    have HALL := Lib.hid hall
    clear hall
    by_cases hlt : i < k
    · obtain ⟨b1, o1, hA1, p1⟩ := (JA.out.later x).at_ (by omega)
      obtain ⟨b2, o2, hA2, p2⟩ := (JB.out.later x).at_ (by omega)
      have HA1 := Lib.hid hA1
      have HA2 := Lib.hid hA2
      rw [hA1, hA2]
      have l1 := p1.lt
      have l2 := p2.lt
      have d1 := p1.at_ i hlt
      have d2 := p2.at_ i hlt
      rw [XE.out i hlt] at d1
      rw [YE.out i hlt] at d2
      have MS1 := Lib.hid (MS.out i)
      have FT : Hid (decide (Y i ≤ X i) = true → ∀ j, j < i + 1 → decide (Y j ≤ X j) = true) := fun h => all_step (p := fun j => decide (Y j ≤ X j)) HALL.out h
      have FF : Hid (decide (Y i ≤ X i) = false → res = false) := fun h => by rw [HR.out, allB_false (p := fun j => decide (Y j ≤ X j)) hlt h]; rfl
      clear p1 p2 hA1 hA2
      generalize X i = xi at *
      generalize Y i = yi at *
      generalize MO i = mo at *
      have hg : decide ((i : Int) < (k : Int)) = true := by simp; omega
      have XV : Hid (∀ V, Below x.val.heap.size x.val V → ∃ y : Later Z, V = y.val) := fun V h => ⟨⟨V, below_more x.ok h⟩, rfl⟩
      have HBX : Hid (Below w.heap.size w x.val) := below_more HBZ.out x.ok
      by_cases h1 : xi < yi
      · have e1 : decide (xi < yi) = true := decide_eq_true h1
        have HE := Lib.hid (FF.out (decide_eq_false (by omega)))
        go_wp2_with fail
        refine wp_region_later (by kernel_rfl) (by kernel_rfl) ?_
        repeat (go_big_quiet_step ((fail)))
        refine wpQuiet_nil ?_
        intro y
        go_wp2_with fail
        go_ret
        exact ⟨ret_bool HE.out.symm, later_of (below_more HBX.out y.ok)⟩
      · have e1 : decide (xi < yi) = false := decide_eq_false h1
        have HE := Lib.hid (FT.out (decide_eq_true (by omega)))
        cases mo
        · by_cases h2 : yi < xi
          · have e2 : decide (yi < xi) = true := decide_eq_true h2
            have HN : Hid (MO (i + 1) = true) := by show _ = _; rw [MS1.out, e2]; rfl
            go_wp2_with fail
            refine wp_region_later (by kernel_rfl) (by kernel_rfl) ?_
            repeat (go_big_quiet_step ((fail)))
            refine wpQuiet_nil ?_
            intro y
            have c1 := (y.cell _ (o1 + i) l1).trans d1
            have c2 := (y.cell _ (o2 + i) l2).trans d2
            have l3 := y.lt _ l1
            have l4 := y.lt _ l2
            go_wp2_with fail
            refine wp_region_later (by kernel_rfl) (by kernel_rfl) ?_
            repeat (go_big_quiet_step ((fail)))
            refine wpQuiet_nil ?_
            intro y2
            go_wp2_with fail
            try rw [← HA1.out]
            try rw [← HA2.out]
            first
              | (go_roundw
                 case rel => exact ⟨i + 1, by rw [HN.out], by go_num, by omega, HE.out, XV.out _ (by repeat (first | exact Below.refl _ _ | (with_reducible assumption) | apply below_later | apply below_alloc | apply below_drew | apply below_drewN))⟩
                 case measure => simp [intOf]; omega)
              | (refine ⟨⟨i + 1, by rw [HN.out], by go_num, by omega, HE.out, XV.out _ (by repeat (first | exact Below.refl _ _ | (with_reducible assumption) | apply below_later | apply below_alloc | apply below_drew | apply below_drewN))⟩, ?_⟩; simp [intOf]; omega)
          · have e2 : decide (yi < xi) = false := decide_eq_false h2
            have HN : Hid (MO (i + 1) = false) := by show _ = _; rw [MS1.out, e2]; rfl
            go_wp2_with fail
            refine wp_region_later (by kernel_rfl) (by kernel_rfl) ?_
            repeat (go_big_quiet_step ((fail)))
            refine wpQuiet_nil ?_
            intro y
            have c1 := (y.cell _ (o1 + i) l1).trans d1
            have c2 := (y.cell _ (o2 + i) l2).trans d2
            have l3 := y.lt _ l1
            have l4 := y.lt _ l2
            go_wp2_with fail
            refine wp_region_later (by kernel_rfl) (by kernel_rfl) ?_
            repeat (go_big_quiet_step ((fail)))
            refine wpQuiet_nil ?_
            intro y2
            go_wp2_with fail
            try rw [← HA1.out]
            try rw [← HA2.out]
            first
              | (go_roundw
                 case rel => exact ⟨i + 1, by rw [HN.out], by go_num, by omega, HE.out, XV.out _ (by repeat (first | exact Below.refl _ _ | (with_reducible assumption) | apply below_later | apply below_alloc | apply below_drew | apply below_drewN))⟩
                 case measure => simp [intOf]; omega)
              | (refine ⟨⟨i + 1, by rw [HN.out], by go_num, by omega, HE.out, XV.out _ (by repeat (first | exact Below.refl _ _ | (with_reducible assumption) | apply below_later | apply below_alloc | apply below_drew | apply below_drewN))⟩, ?_⟩; simp [intOf]; omega)
        · have HN : Hid (MO (i + 1) = true) := by show _ = _; rw [MS1.out]; rfl
          go_wp2_with fail
          refine wp_region_later (by kernel_rfl) (by kernel_rfl) ?_
          repeat (go_big_quiet_step ((fail)))
          refine wpQuiet_nil ?_
          intro y
          have c1 := (y.cell _ (o1 + i) l1).trans d1
          have c2 := (y.cell _ (o2 + i) l2).trans d2
          have l3 := y.lt _ l1
          have l4 := y.lt _ l2
          go_wp2_with fail
          refine wp_region_later (by kernel_rfl) (by kernel_rfl) ?_
          repeat (go_big_quiet_step ((fail)))
          refine wpQuiet_nil ?_
          intro y2
          go_wp2_with fail
          try rw [← HA1.out]
          try rw [← HA2.out]
          first
            | (go_roundw
               case rel => exact ⟨i + 1, by rw [HN.out], by go_num, by omega, HE.out, XV.out _ (by repeat (first | exact Below.refl _ _ | (with_reducible assumption) | apply below_later | apply below_alloc | apply below_drew | apply below_drewN))⟩
               case measure => simp [intOf]; omega)
            | (refine ⟨⟨i + 1, by rw [HN.out], by go_num, by omega, HE.out, XV.out _ (by repeat (first | exact Below.refl _ _ | (with_reducible assumption) | apply below_later | apply below_alloc | apply below_drew | apply below_drewN))⟩, ?_⟩; simp [intOf]; omega)
    · obtain rfl : i = k := by omega
      have HT : Hid (res = MO i) := by show _ = _; rw [HR.out, allB_true (p := fun j => decide (Y j ≤ X j)) HALL.out, Bool.true_and]
      go_wp2_with fail
      go_ret
      exact ⟨ret_bool HT.out.symm, later_of (below_more HBZ.out (by repeat (first | exact Below.refl _ _ | (with_reducible assumption) | apply below_later | apply below_alloc | apply below_drew | apply below_drewN)))⟩
end Go.Proofs.Ytjmjafpjfhgfdaa
