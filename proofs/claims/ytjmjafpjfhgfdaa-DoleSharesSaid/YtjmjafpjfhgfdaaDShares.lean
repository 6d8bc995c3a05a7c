/- The document's Sum and Most; the law of shares: walked. -/
import Derived.Test.YtjmjafpjfhgfdaaDRef
import Derived.Test.YtjmjafpjfhgfdaaDFirst
namespace Go.Proofs.Ytjmjafpjfhgfdaa
open Go.RowKit

set_option maxRecDepth 100000 in
set_option maxHeartbeats 1600000 in
theorem rSum_any (k cap n cS : Nat) (A S : Option Addr) (R : Nat → Row) (c : Nat → Int) (w : World) (W : Vals k n R) (hp : IsTab w A k R) (hc : IsInts w S n c) (hin : ∀ j, j < n → 0 ≤ c j ∧ c j < k) :
    Gives Try.prog 25 #[.slice A k cap, .slice S n cS] w (.int .i64 (sumS (fT R) c n)) := by
  have hn12 := W.n12
  obtain ⟨b, off, rfl⟩ := hp.addr W.k1
  have CE := Lib.hid fun (V : World) (hb : Below w.heap.size w V) (i j : Nat) (hi : i < k) (hj : j < n) => tab_cell (hp.below hb) W hi hj
  have HC := Lib.hid hc
  have HIN := Lib.hid hin
  have VB := Lib.hid W.val
  have SB := Lib.hid fun j (hj : j ≤ n) => sumN_bd (g := fun j => fT R (c j).toNat j) (M := 1000) (k := j) fun i hi => by
    obtain ⟨c0, c1⟩ := hin i (by omega)
    exact W.val _ (by omega) i (by omega)
  have SS := Lib.hid (sumN_succ fun j => fT R (c j).toNat j)
  have S0 : Hid (sumN (fun j => fT R (c j).toNat j) 0 = 0) := rfl
  have SE : Hid (sumS (fT R) c n = sumN (fun j => fT R (c j).toNat j) n) := rfl
  generalize sumS (fT R) c n = res at *
  generalize sumN (fun j => fT R (c j).toNat j) = U at *
  clear hp hc hin W
  go_enter Try.func25, Try.ntmps25
  go_wp2
  go_loopw [5, 6] (fun u v wr => ∃ j : Nat, u = .int .i64 (U j) ∧ v = .int .i64 (j : Nat) ∧ j ≤ n ∧ ∃ x : Later w, wr = x.val) (fun _ v _ => n - (intOf v).toNat)
  case atStart => exact ⟨0, by rw [S0.out], rfl, by omega, later_of (by repeat (first | exact Below.refl _ _ | (with_reducible assumption) | apply below_later | apply below_alloc | apply below_drew | apply below_drewN))⟩
  case round =>
    obtain ⟨j, rfl, rfl, hj, x, rfl⟩ := hrel
    by_cases hlt : j < n
    · obtain ⟨c0, c1⟩ := HIN.out j hlt
      obtain ⟨q, hq, hqk⟩ := cast_of c0 c1
      obtain ⟨bb, oo, hB, p⟩ := (HC.out.later x).at_ (by omega)
      subst hB
      have cj := p.at_ j hlt
      have lb := p.lt
      have HW : Hid (U (j + 1) = U j + fT R (c j).toNat j) := SS.out j
      rw [hq, Int.toNat_natCast] at HW
      rw [hq] at cj
      obtain ⟨br, br', la, ca, lr, cr⟩ := CE.out x.val x.ok q j hqk hlt
      obtain ⟨b0, b1⟩ := SB.out j (by omega)
      obtain ⟨b2, b3⟩ := VB.out q hqk j hlt
      have HW2 : Hid (U (j + 1) = U j + (R q).f j) := HW.out
      clear p hq c0 c1 HW
      generalize U j = s at *
      generalize (R q).f j = y at *
      generalize (R q).c = rc at *
      go_wp2
      go_roundw
      case rel => exact ⟨j + 1, by rw [HW2.out], by go_num, by omega, later_of (by repeat (first | exact Below.refl _ _ | (with_reducible assumption) | apply below_later | apply below_alloc | apply below_drew | apply below_drewN))⟩
      case measure => simp [intOf]; omega
    · obtain rfl : j = n := by omega
      go_wp2
      go_ret
      exact ⟨ret_int (by rw [SE.out]), later_of (by repeat (first | exact Below.refl _ _ | (with_reducible assumption) | apply below_later | apply below_alloc | apply below_drew | apply below_drewN))⟩
set_option maxRecDepth 100000 in
set_option maxHeartbeats 1600000 in
theorem rMost_any (k cap n : Nat) (A : Option Addr) (R : Nat → Row) (w : World) (hp : IsTab w A k R) (W : Vals k n R) :
    Gives Try.prog 22 #[.slice A k cap] w (.int .i64 (sumN (colT R k) n)) := by
  have hk6 := W.k6
  have hk1 := W.k1
  have hn12 := W.n12
  obtain ⟨b, off, rfl⟩ := hp.addr hk1
  have CE := Lib.hid fun (V : World) (hb : Below w.heap.size w V) (i j : Nat) (hi : i < k) (hj : j < n) => tab_cell (hp.below hb) W hi hj
  have HD := Lib.hid fun (V : World) (hb : Below w.heap.size w V) => tab_head0 (hp.below hb) W
  have VB := Lib.hid W.val
  have CB := Lib.hid fun (i j : Nat) (hi : i ≤ k) (hj : j < n) => topN_bd (g := fun i => (R i).f j) (k := i) fun q hq => W.val q (by omega) j hj
  have SB := Lib.hid fun j (hj : j ≤ n) => sumN_bd (g := colT R k) (M := 1000) (k := j) fun i hi => CB.out k i (Nat.le_refl _) (by omega)
  have SS := Lib.hid (sumN_succ (colT R k))
  have S0 : Hid (sumN (colT R k) 0 = 0) := rfl
  have TS := Lib.hid fun (j i : Nat) => topN_succ (fun i => (R i).f j) i
  have T0 : Hid (∀ j, topN (fun i => (R i).f j) 0 = 0) := fun _ => rfl
  have TE : Hid (∀ j, topN (fun i => (R i).f j) k = colT R k j) := fun _ => rfl
  generalize sumN (colT R k) = U at *
  generalize colT R k = C at *
  clear hp W
  go_enter Try.func22, Try.ntmps22
  go_wp2
  go_loopw [3, 4] (fun u v wr => ∃ j : Nat, u = .int .i64 (U j) ∧ v = .int .i64 (j : Nat) ∧ j ≤ n ∧ ∃ x : Later w, wr = x.val) (fun _ v _ => n - (intOf v).toNat)
  case atStart => exact ⟨0, by rw [S0.out], rfl, by omega, later_of (by repeat (first | exact Below.refl _ _ | (with_reducible assumption) | apply below_later | apply below_alloc | apply below_drew | apply below_drewN))⟩
  case round =>
    obtain ⟨j, rfl, rfl, hj, x, rfl⟩ := hrel
    obtain ⟨B, la, ca, _⟩ := HD.out x.val x.ok
    by_cases hlt : j < n
    · have HXV : Hid (∀ V, Below x.val.heap.size x.val V → ∃ y : Later w, V = y.val) := fun V h => ⟨⟨V, below_more x.ok h⟩, rfl⟩
      have HBX : Hid (Below w.heap.size w x.val) := x.ok
      obtain ⟨b0, b1⟩ := SB.out j (by omega)
      have HW := Lib.hid (SS.out j)
      have TSj := Lib.hid (TS.out j)
      have T0j := Lib.hid (T0.out j)
      have TEj := Lib.hid (TE.out j)
      have CBj := Lib.hid fun i hi => CB.out i j hi hlt
      have CEj := Lib.hid fun V hb i hi => CE.out V hb i j hi hlt
      have VBj := Lib.hid fun i hi => VB.out i hi j hlt
      generalize topN (fun i => (R i).f j) = T at *
      generalize x.val = Q at *
      generalize U j = s at *
      have hg : decide ((j : Int) < (n : Int)) = true := by simp; omega
      go_wp2
      clear la ca
      go_loopw [5, 6] (fun u v wr => ∃ i : Nat, u = .int .i64 (T i) ∧ v = .int .i64 (i : Nat) ∧ i ≤ k ∧ ∃ x : Later Q, wr = x.val) (fun _ v _ => k - (intOf v).toNat)
      case atStart => exact ⟨0, by rw [T0j.out], rfl, by omega, later_of (by repeat (first | exact Below.refl _ _ | (with_reducible assumption) | apply below_later | apply below_alloc | apply below_drew | apply below_drewN))⟩
      case round =>
        obtain ⟨i, rfl, rfl, hi, y, rfl⟩ := hrel
        by_cases hlt2 : i < k
        · obtain ⟨br, br', la, ca, lr, cr⟩ := CEj.out y.val (below_more HBX.out y.ok) i hlt2
          have TS1 := Lib.hid (TSj.out i)
          obtain ⟨b2, b3⟩ := CBj.out i (by omega)
          obtain ⟨b4, b5⟩ := VBj.out i hlt2
          have HN : Hid (T (i + 1) = max (T i) ((R i).f j)) := TS1.out
          generalize T i = ti at *
          generalize (R i).f j = fj at *
          generalize (R i).c = rc at *
          go_wp2
          all_goals
            go_roundw
            case rel => exact ⟨i + 1, by rw [HN.out]; try (congr 1; omega), by go_num, by omega, later_of (by repeat (first | exact Below.refl _ _ | (with_reducible assumption) | apply below_later | apply below_alloc | apply below_drew | apply below_drewN))⟩
            case measure => simp [intOf]; omega
        · obtain rfl : i = k := by omega
          obtain ⟨b2, b3⟩ := CBj.out i (by omega)
          have HN : Hid (U (j + 1) = s + T i) := by show _ = _; rw [HW.out, TEj.out]
          generalize T i = ti at *
          go_wp2
          first
            | (go_roundw
               case rel => exact ⟨j + 1, by rw [HN.out], by go_num, by omega, HXV.out _ (by repeat (first | exact Below.refl _ _ | (with_reducible assumption) | apply below_later | apply below_alloc | apply below_drew | apply below_drewN))⟩
               case measure => simp [intOf]; omega)
            | (refine ⟨⟨j + 1, by rw [HN.out], by go_num, by omega, HXV.out _ (by repeat (first | exact Below.refl _ _ | (with_reducible assumption) | apply below_later | apply below_alloc | apply below_drew | apply below_drewN))⟩, ?_⟩; simp [intOf]; omega)
    · obtain rfl : j = n := by omega
      go_wp2
      go_ret
      exact ⟨rfl, later_of (by repeat (first | exact Below.refl _ _ | (with_reducible assumption) | apply below_later | apply below_alloc | apply below_drew | apply below_drewN))⟩
set_option maxRecDepth 100000 in
set_option maxHeartbeats 6400000 in
theorem shares_law (A S : Option Addr) (k cap m cS : Nat) (R : Nat → Row) (c : Nat → Int) (w : World) (hp : IsTab w A k R) (hc : IsInts w S m c) :
    Gives Try.prog 3 #[.slice A k cap, .slice S m cS] w (.bool true) := by
  have FL := Lib.hid first_law
  have LG := Lib.hid fun (V : World) (h : Below w.heap.size w V) => Long_any k cap A R V (hp.below h)
  cases hl : longB k R
  case true =>
    rw [hl] at LG
    clear hp hc hl
    go_enter Try.func3, Try.ntmps3
    go_wp2_with (first | (go_at_call 13; with_reducible refine Calls.mono (Gives.calls (LG.out _ (by repeat (first | exact Below.refl _ _ | (with_reducible assumption) | apply below_later | apply below_alloc | apply below_drew | apply below_drewN)))) ?_; rintro e w1 ⟨rfl, z, rfl⟩) | (go_at_call 14; with_reducible refine Calls.mono (Gives.calls (FL.out _)) ?_; rintro e w1 ⟨rfl, z2, rfl⟩))
    go_ret
    exact ⟨rfl, later_of (by repeat (first | exact Below.refl _ _ | (with_reducible assumption) | apply below_later | apply below_alloc | apply below_drew | apply below_drewN))⟩
  case false =>
    rw [hl] at LG
    obtain ⟨hk, hr⟩ := long_facts hl
    clear hl
    by_cases hm : 30 < m
    · have e1 : decide ((30 : Int) < (m : Int)) = true := by simp; omega
      clear hp hc hr
      go_enter Try.func3, Try.ntmps3
      go_wp2_with (first | (go_at_call 13; with_reducible refine Calls.mono (Gives.calls (LG.out _ (by repeat (first | exact Below.refl _ _ | (with_reducible assumption) | apply below_later | apply below_alloc | apply below_drew | apply below_drewN)))) ?_; rintro e w1 ⟨rfl, z, rfl⟩) | (go_at_call 14; with_reducible refine Calls.mono (Gives.calls (FL.out _)) ?_; rintro e w1 ⟨rfl, z2, rfl⟩))
      go_ret
      exact ⟨rfl, later_of (by repeat (first | exact Below.refl _ _ | (with_reducible assumption) | apply below_later | apply below_alloc | apply below_drew | apply below_drewN))⟩
    · have e1 : decide ((30 : Int) < (m : Int)) = false := by simp; omega
      have VA := Lib.hid fun (V : World) (h : Below w.heap.size w V) => valid_any k cap A R V (hp.below h)
      have RV := Lib.hid fun (V : World) (h : Below w.heap.size w V) => rvalid_any k cap A R V (fun i hi => by have := hr i hi; omega) (hp.below h)
      have WH := Lib.hid fun (V : World) (h : Below w.heap.size w V) => why_any k cap m cS A S R c V (fun i hi => by have := hr i hi; omega) (by omega) (hp.below h) (hc.below h)
      cases hv : tabB k R
      case false =>
        have hE : errE k R m c = 70 := by unfold errE; rw [if_pos hv]
        have IS := Lib.hid fun (V : World) (h : Below w.heap.size w V) => isShare_bad k cap m cS A S R V (hp.below h) hv
        have WO := Lib.hid fun (V : World) (h : Below w.heap.size w V) => Worths_bad k cap m cS A S R c V (hp.below h) (hc.below h) (by rw [hE]; decide)
        have SU := Lib.hid fun (V : World) (h : Below w.heap.size w V) => Sum_bad k cap m cS A S R c V (hp.below h) (hc.below h) (by rw [hE]; decide)
        have MO := Lib.hid fun (V : World) (h : Below w.heap.size w V) => Most_bad k cap A R V (hp.below h) hv
        rw [hE] at WH WO SU
        rw [hv] at VA RV
        clear hp hc hr hv hE
        go_enter Try.func3, Try.ntmps3
        go_wp2_with (first
          | (go_at_call 13; with_reducible refine Calls.mono (Gives.calls (LG.out _ (by repeat (first | exact Below.refl _ _ | (with_reducible assumption) | apply below_later | apply below_alloc | apply below_drew | apply below_drewN)))) ?_; rintro e w1 ⟨rfl, z, rfl⟩)
          | (go_at_call 14; with_reducible refine Calls.mono (Gives.calls (FL.out _)) ?_; rintro e w1 ⟨rfl, z2, rfl⟩)
          | (go_at_call 15; with_reducible refine Calls.mono (Gives.calls (IS.out _ (by repeat (first | exact Below.refl _ _ | (with_reducible assumption) | apply below_later | apply below_alloc | apply below_drew | apply below_drewN)))) ?_; rintro e w1 ⟨rfl, z3, rfl⟩)
          | (go_at_call 16; with_reducible refine Calls.mono (Gives.calls (WO.out _ (by repeat (first | exact Below.refl _ _ | (with_reducible assumption) | apply below_later | apply below_alloc | apply below_drew | apply below_drewN)))) ?_; rintro e w1 ⟨rfl, z4, rfl⟩)
          | (go_at_call 17; with_reducible refine Calls.mono (Gives.calls (SU.out _ (by repeat (first | exact Below.refl _ _ | (with_reducible assumption) | apply below_later | apply below_alloc | apply below_drew | apply below_drewN)))) ?_; rintro e w1 ⟨rfl, z5, rfl⟩)
          | (go_at_call 18; with_reducible refine Calls.mono (Gives.calls (MO.out _ (by repeat (first | exact Below.refl _ _ | (with_reducible assumption) | apply below_later | apply below_alloc | apply below_drew | apply below_drewN)))) ?_; rintro e w1 ⟨rfl, z6, rfl⟩)
          | (go_at_call 19; with_reducible refine Calls.mono (Gives.calls (WH.out _ (by repeat (first | exact Below.refl _ _ | (with_reducible assumption) | apply below_later | apply below_alloc | apply below_drew | apply below_drewN)))) ?_; rintro e w1 ⟨rfl, z7, rfl⟩)
          | (go_at_call 20; with_reducible refine Calls.mono (Gives.calls (VA.out _ (by repeat (first | exact Below.refl _ _ | (with_reducible assumption) | apply below_later | apply below_alloc | apply below_drew | apply below_drewN)))) ?_; rintro e w1 ⟨rfl, z8, rfl⟩)
          | (go_at_call 21; with_reducible refine Calls.mono (Gives.calls (RV.out _ (by repeat (first | exact Below.refl _ _ | (with_reducible assumption) | apply below_later | apply below_alloc | apply below_drew | apply below_drewN)))) ?_; rintro e w1 ⟨rfl, z9, rfl⟩))
        go_ret
        exact ⟨rfl, later_of (by repeat (first | exact Below.refl _ _ | (with_reducible assumption) | apply below_later | apply below_alloc | apply below_drew | apply below_drewN))⟩
      case true =>
        have W := tabB_iff.1 hv
        have hn12 := W.n12
        have MO := Lib.hid fun (V : World) (h : Below w.heap.size w V) => Most_ok k cap _ A R V (hp.below h) W
        have RM := Lib.hid fun (V : World) (h : Below w.heap.size w V) => rMost_any k cap _ A R V (hp.below h) W
        have IS := Lib.hid fun (V : World) (h : Below w.heap.size w V) => isShare_ok k cap m cS _ A S R c V (hp.below h) W (hc.below h)
        cases hs : shareB k (R 0).n m c
        case false =>
          have hE : errE k R m c = 71 := by unfold errE; rw [if_neg (by simp [hv]), if_pos hs]
          have WO := Lib.hid fun (V : World) (h : Below w.heap.size w V) => Worths_bad k cap m cS A S R c V (hp.below h) (hc.below h) (by rw [hE]; decide)
          have SU := Lib.hid fun (V : World) (h : Below w.heap.size w V) => Sum_bad k cap m cS A S R c V (hp.below h) (hc.below h) (by rw [hE]; decide)
          rw [hE] at WH WO SU
          rw [hv] at VA RV
          rw [hs] at IS
          generalize sumN (colT R k) (R 0).n = mo at *
          clear hp hc hr hv hE hs W hn12
          go_enter Try.func3, Try.ntmps3
          go_wp2_with (first
            | (go_at_call 13; with_reducible refine Calls.mono (Gives.calls (LG.out _ (by repeat (first | exact Below.refl _ _ | (with_reducible assumption) | apply below_later | apply below_alloc | apply below_drew | apply below_drewN)))) ?_; rintro e w1 ⟨rfl, z, rfl⟩)
            | (go_at_call 14; with_reducible refine Calls.mono (Gives.calls (FL.out _)) ?_; rintro e w1 ⟨rfl, z2, rfl⟩)
            | (go_at_call 15; with_reducible refine Calls.mono (Gives.calls (IS.out _ (by repeat (first | exact Below.refl _ _ | (with_reducible assumption) | apply below_later | apply below_alloc | apply below_drew | apply below_drewN)))) ?_; rintro e w1 ⟨rfl, z3, rfl⟩)
            | (go_at_call 16; with_reducible refine Calls.mono (Gives.calls (WO.out _ (by repeat (first | exact Below.refl _ _ | (with_reducible assumption) | apply below_later | apply below_alloc | apply below_drew | apply below_drewN)))) ?_; rintro e w1 ⟨rfl, z4, rfl⟩)
            | (go_at_call 17; with_reducible refine Calls.mono (Gives.calls (SU.out _ (by repeat (first | exact Below.refl _ _ | (with_reducible assumption) | apply below_later | apply below_alloc | apply below_drew | apply below_drewN)))) ?_; rintro e w1 ⟨rfl, z5, rfl⟩)
            | (go_at_call 18; with_reducible refine Calls.mono (Gives.calls (MO.out _ (by repeat (first | exact Below.refl _ _ | (with_reducible assumption) | apply below_later | apply below_alloc | apply below_drew | apply below_drewN)))) ?_; rintro e w1 ⟨rfl, z6, rfl⟩)
            | (go_at_call 19; with_reducible refine Calls.mono (Gives.calls (WH.out _ (by repeat (first | exact Below.refl _ _ | (with_reducible assumption) | apply below_later | apply below_alloc | apply below_drew | apply below_drewN)))) ?_; rintro e w1 ⟨rfl, z7, rfl⟩)
            | (go_at_call 20; with_reducible refine Calls.mono (Gives.calls (VA.out _ (by repeat (first | exact Below.refl _ _ | (with_reducible assumption) | apply below_later | apply below_alloc | apply below_drew | apply below_drewN)))) ?_; rintro e w1 ⟨rfl, z8, rfl⟩)
            | (go_at_call 21; with_reducible refine Calls.mono (Gives.calls (RV.out _ (by repeat (first | exact Below.refl _ _ | (with_reducible assumption) | apply below_later | apply below_alloc | apply below_drew | apply below_drewN)))) ?_; rintro e w1 ⟨rfl, z9, rfl⟩)
            | (go_at_call 22; with_reducible refine Calls.mono (Gives.calls (RM.out _ (by repeat (first | exact Below.refl _ _ | (with_reducible assumption) | apply below_later | apply below_alloc | apply below_drew | apply below_drewN)))) ?_; rintro e w1 ⟨rfl, z10, rfl⟩))
          go_ret
          exact ⟨rfl, later_of (by repeat (first | exact Below.refl _ _ | (with_reducible assumption) | apply below_later | apply below_alloc | apply below_drew | apply below_drewN))⟩
        case true =>
          have hE : errE k R m c = 0 := by unfold errE; rw [if_neg (by simp [hv]), if_neg (by simp [hs])]
          obtain ⟨hmn, hin⟩ := shareB_iff.1 hs
          have WO : Hid (∀ (V : World), Below w.heap.size w V → Calls Try.prog 16 #[.slice A k cap, .slice S m cS] V fun e w' => ∃ v, e = .returned (.tuple #[v, .int .i64 0]) ∧ ∃ x : Later V, w' = x.val ∧ OwnI w' V.heap.size v (listN (ownW R c m) k)) := fun V h => Worths_ok k cap m cS A S R c V (hp.below h) (hc.below h) hE
          have SU := Lib.hid fun (V : World) (h : Below w.heap.size w V) => Sum_ok k cap m cS A S R c V (hp.below h) (hc.below h) hE
          have RW := Lib.hid fun (V : World) (h : Below w.heap.size w V) => rworths_any k cap _ m cS A S R c V (by omega) W (hp.below h) (hc.below h)
          have eS : sumN (ownW R c m) k = sumS (fT R) c m := sum_worths (F := fT R) hin
          have hle : sumN (ownW R c m) k ≤ sumN (colT R k) (R 0).n := by
            rw [eS, hmn]
            exact sum_le_most (F := fT R) (c := c) (k := k) (n := (R 0).n) fun j hj => hin j (by omega)
          have RS : Hid (∀ (V : World), Below w.heap.size w V → Gives Try.prog 25 #[.slice A k cap, .slice S m cS] V (.int .i64 (sumN (ownW R c m) k))) := fun V h => by
            rw [eS]
            have h1 := rSum_any k cap (R 0).n cS A S R c V W (hp.below h) (hmn ▸ hc.below h) fun j hj => hin j (by omega)
            rw [← hmn] at h1
            exact h1
          rw [hE] at WH
          rw [hv] at VA RV
          rw [hs] at IS
          have LL := Lib.hid (listN_length (ownW R c m) k)
          have SI := Lib.hid fun w' A1 c1 B1 c2 (h1 : IsInts w' A1 k fun i => (listN (ownW R c m) k).getD i 0) (h2 : IsInts w' B1 k fun i => (listN (ownW R c m) k).getD i 0) => same_ints A1 B1 k c1 c2 _ _ w' (by omega) h1 h2 fun _ _ => rfl
          generalize sumN (colT R k) (R 0).n = mo at *
          generalize sumN (ownW R c m) k = su at *
          generalize listN (ownW R c m) k = res at *
          clear hp hc hr hv hE hs W hn12 hmn hin eS
          go_enter Try.func3, Try.ntmps3
          go_wp2_with (first
            | (go_at_call 13; with_reducible refine Calls.mono (Gives.calls (LG.out _ (by repeat (first | exact Below.refl _ _ | (with_reducible assumption) | apply below_later | apply below_alloc | apply below_drew | apply below_drewN)))) ?_; rintro e w1 ⟨rfl, z, rfl⟩)
            | (go_at_call 14; with_reducible refine Calls.mono (Gives.calls (FL.out _)) ?_; rintro e w1 ⟨rfl, z2, rfl⟩)
            | (go_at_call 15; with_reducible refine Calls.mono (Gives.calls (IS.out _ (by repeat (first | exact Below.refl _ _ | (with_reducible assumption) | apply below_later | apply below_alloc | apply below_drew | apply below_drewN)))) ?_; rintro e w1 ⟨rfl, z3, rfl⟩)
            | (go_at_call 16; with_reducible refine Calls.mono (WO.out _ (by repeat (first | exact Below.refl _ _ | (with_reducible assumption) | apply below_later | apply below_alloc | apply below_drew | apply below_drewN))) ?_; rintro e w1 ⟨v, rfl, z4, rfl, ho⟩; obtain ⟨O, cO, rfl⟩ := ho.shape_n LL.out; have IO := Lib.hid (ho.ints (by rw [LL.out]; omega)).2; clear ho)
            | (go_at_call 17; with_reducible refine Calls.mono (Gives.calls (SU.out _ (by repeat (first | exact Below.refl _ _ | (with_reducible assumption) | apply below_later | apply below_alloc | apply below_drew | apply below_drewN)))) ?_; rintro e w1 ⟨rfl, z5, rfl⟩)
            | (go_at_call 18; with_reducible refine Calls.mono (Gives.calls (MO.out _ (by repeat (first | exact Below.refl _ _ | (with_reducible assumption) | apply below_later | apply below_alloc | apply below_drew | apply below_drewN)))) ?_; rintro e w1 ⟨rfl, z6, rfl⟩)
            | (go_at_call 19; with_reducible refine Calls.mono (Gives.calls (WH.out _ (by repeat (first | exact Below.refl _ _ | (with_reducible assumption) | apply below_later | apply below_alloc | apply below_drew | apply below_drewN)))) ?_; rintro e w1 ⟨rfl, z7, rfl⟩)
            | (go_at_call 20; with_reducible refine Calls.mono (Gives.calls (VA.out _ (by repeat (first | exact Below.refl _ _ | (with_reducible assumption) | apply below_later | apply below_alloc | apply below_drew | apply below_drewN)))) ?_; rintro e w1 ⟨rfl, z8, rfl⟩)
            | (go_at_call 21; with_reducible refine Calls.mono (Gives.calls (RV.out _ (by repeat (first | exact Below.refl _ _ | (with_reducible assumption) | apply below_later | apply below_alloc | apply below_drew | apply below_drewN)))) ?_; rintro e w1 ⟨rfl, z9, rfl⟩)
            | (go_at_call 22; with_reducible refine Calls.mono (Gives.calls (RM.out _ (by repeat (first | exact Below.refl _ _ | (with_reducible assumption) | apply below_later | apply below_alloc | apply below_drew | apply below_drewN)))) ?_; rintro e w1 ⟨rfl, z10, rfl⟩)
            | (go_at_call 24; with_reducible refine Calls.mono (GivesI.calls (RW.out _ (by repeat (first | exact Below.refl _ _ | (with_reducible assumption) | apply below_later | apply below_alloc | apply below_drew | apply below_drewN)))) ?_; rintro e w1 ⟨v2, rfl, z11, rfl, ho2⟩; obtain ⟨O2, cO2, rfl⟩ := ho2.shape_n LL.out; have IO2 := Lib.hid (ho2.ints (by rw [LL.out]; omega)).2; clear ho2)
            | (go_at_call 23; with_reducible refine Calls.mono (Gives.calls (SI.out _ _ _ _ _ (IO.out.below (by repeat (first | exact Below.refl _ _ | (with_reducible assumption) | apply below_later | apply below_alloc | apply below_drew | apply below_drewN))) (IO2.out.below (by repeat (first | exact Below.refl _ _ | (with_reducible assumption) | apply below_later | apply below_alloc | apply below_drew | apply below_drewN))))) ?_; rintro e w1 ⟨rfl, z12, rfl⟩)
            | (go_at_call 25; with_reducible refine Calls.mono (Gives.calls (RS.out _ (by repeat (first | exact Below.refl _ _ | (with_reducible assumption) | apply below_later | apply below_alloc | apply below_drew | apply below_drewN)))) ?_; rintro e w1 ⟨rfl, z13, rfl⟩))
          go_ret
          exact ⟨rfl, later_of (by repeat (first | exact Below.refl _ _ | (with_reducible assumption) | apply below_later | apply below_alloc | apply below_drew | apply below_drewN))⟩
end Go.Proofs.Ytjmjafpjfhgfdaa
