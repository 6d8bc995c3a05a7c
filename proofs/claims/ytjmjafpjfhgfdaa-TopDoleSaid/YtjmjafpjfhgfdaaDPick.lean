/- dole's favourite, pick, Pick and InTurn: walked. -/
import Derived.Test.YtjmjafpjfhgfdaaDSum
namespace Go.Proofs.Ytjmjafpjfhgfdaa
open Go.RowKit

theorem favP_succ (f s : Nat → Int) (j : Nat) : favP f s (j + 1) = if s j = -1 ∧ (favP f s j).2 < f j then (j, f j) else favP f s j := rfl
set_option maxRecDepth 100000 in
set_option maxHeartbeats 1600000 in
theorem favourite_any (n cR cS : Nat) (B S : Option Addr) (f s : Nat → Int) (w : World) (hn : n ≤ 12) (hv : ∀ j, j < n → 0 ≤ f j ∧ f j ≤ 1000) (hp : IsInts w B n f) (hs : IsInts w S n s) :
    Gives Try.prog 75 #[.slice B n cR, .slice S n cS] w (.int .i64 (favN f s n : Nat)) := by
  have HP := Lib.hid hp
  have HS := Lib.hid hs
  have PS := Lib.hid (favP_succ f s)
  have PB := Lib.hid fun j (h : j ≤ n) => (favP_ok (f := f) (s := s) (j := j) fun i hi => hv i (by omega)).2
  have P0 : Hid (favP f s 0 = (0, -1)) := rfl
  have PE : Hid ((favP f s n).1 = favN f s n) := rfl
  generalize favN f s n = res at *
  generalize favP f s = P at *
  clear hp hs hv
  go_enter Try.func75, Try.ntmps75
  go_wp2
  go_loopw [5, 6, 11] (fun u5 u6 v wr => ∃ j : Nat, u5 = .int .i64 ((P j).1 : Nat) ∧ u6 = .int .i64 (P j).2 ∧ v = .int .i64 (j : Nat) ∧ j ≤ n ∧ ∃ x : Later w, wr = x.val) (fun _ _ v _ => n - (intOf v).toNat)
  case atStart => exact ⟨0, by rw [P0.out]; rfl, by rw [P0.out], rfl, by omega, later_of (by repeat (first | exact Below.refl _ _ | (with_reducible assumption) | apply below_later | apply below_alloc | apply below_drew | apply below_drewN))⟩
  case round =>
    obtain ⟨j, rfl, rfl, rfl, hj, x, rfl⟩ := hrel
    by_cases hlt : j < n
    · obtain ⟨bb, oo, hB, q⟩ := (HP.out.later x).at_ (by omega)
      subst hB
      have cj := q.at_ j hlt
      have lq := q.lt
      obtain ⟨bs, os', hS, qs⟩ := (HS.out.later x).at_ (by omega)
      subst hS
      have cs := qs.at_ j hlt
      have ls := qs.lt
      obtain ⟨b0, b1⟩ := PB.out j (by omega)
      have PS1 := Lib.hid (PS.out j)
      clear q qs
      generalize P j = pj at *
      generalize f j = fj at *
      generalize s j = sj at *
      by_cases h1 : sj = -1
      · have e1 : (sj == -1) = true := by rw [h1]; rfl
        have H1 := Lib.hid h1
        clear h1
        by_cases h2 : pj.2 < fj
        · have HN : Hid (P (j + 1) = (j, fj)) := by show _ = _; rw [PS1.out, if_pos ⟨H1.out, h2⟩]
          go_wp2
          go_roundw
          case rel => exact ⟨j + 1, by rw [HN.out], by rw [HN.out], by go_num, by omega, later_of (by repeat (first | exact Below.refl _ _ | (with_reducible assumption) | apply below_later | apply below_alloc | apply below_drew | apply below_drewN))⟩
          case measure => simp [intOf]; omega
        · have HN : Hid (P (j + 1) = pj) := by show _ = _; rw [PS1.out, if_neg fun h => h2 h.2]
          go_wp2
          go_roundw
          case rel => exact ⟨j + 1, by rw [HN.out], by rw [HN.out], by go_num, by omega, later_of (by repeat (first | exact Below.refl _ _ | (with_reducible assumption) | apply below_later | apply below_alloc | apply below_drew | apply below_drewN))⟩
          case measure => simp [intOf]; omega
      · have e1 : (sj == -1) = false := by simp; omega
        have HN : Hid (P (j + 1) = pj) := by show _ = _; rw [PS1.out, if_neg fun h => h1 h.1]
        clear h1
        go_wp2
        go_roundw
        case rel => exact ⟨j + 1, by rw [HN.out], by rw [HN.out], by go_num, by omega, later_of (by repeat (first | exact Below.refl _ _ | (with_reducible assumption) | apply below_later | apply below_alloc | apply below_drew | apply below_drewN))⟩
        case measure => simp [intOf]; omega
    · obtain rfl : j = n := by omega
      go_wp2
      go_ret
      exact ⟨ret_int (by rw [PE.out]), later_of (by repeat (first | exact Below.refl _ _ | (with_reducible assumption) | apply below_later | apply below_alloc | apply below_drew | apply below_drewN))⟩
/-- The values of a table. -/
def fT (R : Nat → Row) (i j : Nat) : Int := (R i).f j
theorem pickL_succ (F : Nat → Nat → Int) (c : Nat → Int) (n k : Nat) : pickL F c n (k + 1) = (pickL F c n k).set (favN (F (c k).toNat) (fun j => (pickL F c n k).getD j 0) n) (c k) := rfl
theorem all_reps {l : List Int} {n : Nat} {x : Int} (hl : l.length = n) (h : ∀ k, k < n → l.getD k 0 = x) : l = List.replicate n x := by
  apply List.ext_getElem
  · simp [hl]
  · intro i h1 h2
    have := h i (by omega)
    simp only [List.getD_eq_getElem?_getD, List.getElem?_eq_getElem h1, Option.getD_some] at this
    simp [this]
theorem cast_of {x : Int} {k : Nat} (h0 : 0 ≤ x) (h1 : x < k) : ∃ q : Nat, x = q ∧ q < k := ⟨x.toNat, by omega, by omega⟩
set_option maxRecDepth 100000 in
set_option maxHeartbeats 3200000 in
theorem pick_any (k cap n cS : Nat) (A S : Option Addr) (R : Nat → Row) (c : Nat → Int) (w : World) (W : Vals k n R) (hp : IsTab w A k R) (hc : IsInts w S n c) (hin : ∀ j, j < n → 0 ≤ c j ∧ c j < k) :
    GivesI 59 #[.slice A k cap, .slice S n cS] w (pickL (fT R) c n n) := by
  have hk6 := W.k6
  have hn12 := W.n12
  obtain ⟨b, off, rfl⟩ := hp.addr W.k1
  have HD := Lib.hid fun (V : World) (hb : Below w.heap.size w V) (i : Nat) (hi : i < k) => tab_head (hp.below hb) W hi
  have FA := Lib.hid fun (i : Nat) (V : World) (B S2 : Option Addr) (cR c2 : Nat) (s : Nat → Int) (hi : i < k) (h1 : IsInts V B n (R i).f) (h2 : IsInts V S2 n s) => favourite_any n cR c2 B S2 (R i).f s V hn12 (W.val i hi) h1 h2
  have HC := Lib.hid hc
  have HIN := Lib.hid hin
  have PL := Lib.hid (pickL_length (fT R) c n)
  have PS := Lib.hid (pickL_succ (fT R) c n)
  have PK := Lib.hid fun j (hj : j < n) => pick_some (F := fT R) (c := c) (K := k) (n := n) (k := j) (fun i hi j hj => W.val i hi j hj) hin hj
  have P0 : Hid (pickL (fT R) c n 0 = List.replicate n (-1)) := rfl
  have FE : Hid (∀ i, fT R i = (R i).f) := fun _ => rfl
  generalize pickL (fT R) c n = P at *
  have MK : ∀ w', (Instr.makeSlice 23 (.int .i64 (n : Int)) (.int .i64 (n : Int))).run Try.prog w' = .ok (.slice (some ⟨w'.heap.size, 0, none⟩) n n) (w'.alloc (.cells (madeCells #[Value.int .i64 0] n) 3)) := fun w' => make_ints w' n (by omega)
  clear hp hc hin W
  go_enter Try.func59, Try.ntmps59
  go_wp2
  have HM0 := Lib.hid (made_own w n w.heap.size (Nat.le_refl _) (by omega))
  have HB1 : Hid (Below w.heap.size w (w.alloc (.cells (madeCells #[Value.int .i64 0] n) 3))) := (Below.refl _ _).alloc (Nat.le_refl _) _
  obtain ⟨go, hgo⟩ : ∃ go, w.heap.size = go := ⟨_, rfl⟩
  have HG : Hid (w.heap.size ≤ go) := Nat.le_of_eq hgo
  have hm := HM0.out
  rw [hgo] at hm ⊢
  rw [← hgo] at hm
  rw [hgo] at hm
  have HM : Hid (OwnI (w.alloc (.cells (madeCells #[Value.int .i64 0] n) 3)) w.heap.size (.slice (some ⟨go, 0, none⟩) n n) (List.replicate n 0)) := by rw [hgo]; exact hm
  clear MK hm HM0 hgo
  generalize w.alloc (.cells (madeCells #[Value.int .i64 0] n) 3) = Z at *
  go_loopw [14] (fun u wr => ∃ (i : Nat) (l : List Int), u = .int .i64 (i : Nat) ∧ i ≤ n ∧ l.length = n ∧ Below w.heap.size w wr ∧ OwnI wr w.heap.size (.slice (some ⟨go, 0, none⟩) n n) l ∧ ∀ j, j < i → l.getD j 0 = -1) (fun u _ => n - (intOf u).toNat)
  case atStart => exact ⟨0, _, rfl, by omega, by simp, HB1.out, HM.out, by omega⟩
  case round =>
    obtain ⟨i, l, rfl, hi, hl, hbl, ho, hall⟩ := hrel
    clear HM HB1
    have HL := Lib.hid hl
    have HBL := Lib.hid hbl
    have HO := Lib.hid ho
    have HALL := Lib.hid hall
    clear hl hbl ho hall
    by_cases hlt : i < n
    · obtain ⟨o3, o4⟩ := HO.out.cell HL.out hlt
      have o5 := (own_lt HO.out go rfl).2
      have o6 := o4 i
      clear o4
      go_wp2
      go_roundw
      case rel => exact ⟨i + 1, l.set i (-1), by go_num, by omega, by rw [List.length_set]; exact HL.out, HBL.out.setCell (p := ⟨go, i, none⟩) HG.out _, HO.out.set HL.out i (-1), fun j hj => by
        rw [getD_setI (by rw [HL.out]; exact hlt)]
        split
        · rfl
        · exact HALL.out j (by omega)⟩
      case measure => simp [intOf]; omega
    · obtain rfl : i = n := by omega
      have HO1 : Hid (OwnI wr w.heap.size (.slice (some ⟨go, 0, none⟩) i i) (P 0)) := by
        have e := all_reps HL.out HALL.out
        show OwnI _ _ _ _
        rw [P0.out, ← e]
        exact HO.out
      clear HO HALL
      go_wp2
      go_loopw [23] (fun u wr => ∃ j : Nat, u = .int .i64 (j : Nat) ∧ j ≤ i ∧ Below w.heap.size w wr ∧ OwnI wr w.heap.size (.slice (some ⟨go, 0, none⟩) i i) (P j)) (fun u _ => i - (intOf u).toNat)
      case atStart => exact ⟨0, rfl, by omega, HBL.out, HO1.out⟩
      case round =>
        obtain ⟨j, rfl, hj, hbl2, ho2⟩ := hrel
        clear HO1 HBL
        have HBL := Lib.hid hbl2
        have HO := Lib.hid ho2
        clear hbl2 ho2
        by_cases hlt : j < i
        · obtain ⟨c0, c1⟩ := HIN.out j hlt
          obtain ⟨q, hq, hqk⟩ := cast_of c0 c1
          obtain ⟨bb, oo, hB, p⟩ := (HC.out.below HBL.out).at_ (by omega)
          subst hB
          have cj := p.at_ j hlt
          have lb := p.lt
          obtain ⟨pk1, _, _⟩ := PK.out j hlt
          have PS1 : Hid (P (j + 1) = (P j).set (favN (fT R (c j).toNat) (fun x => (P j).getD x 0) i) (c j)) := PS.out j
          rw [hq, Int.toNat_natCast, FE.out] at PS1 pk1
          rw [hq] at cj
          obtain ⟨B, la, ca, hI⟩ := HD.out wr HBL.out q hqk
          have oi := (HO.out.ints (by rw [PL.out j]; omega)).2
          have FA1 := Lib.hid (FA.out q wr B _ (R q).c i _ hqk hI oi)
          have HO2 : Hid (∀ V x, x < i → Below wr.heap.size wr V → OwnI V w.heap.size (.slice (some ⟨go, 0, none⟩) i i) (P j) ∧ V.cell? ⟨go, x, none⟩ = some (.int .i64 ((P j).getD x 0)) ∧ V.frozen? ⟨go, x, none⟩ = false ∧ go < V.heap.size) := fun V x hx h => by
            have hv := HO.out.later ⟨V, h⟩
            exact ⟨hv, (hv.cell (PL.out j) hx).1, (hv.cell (PL.out j) hx).2 x, (own_lt hv go rfl).2⟩
          have HWV : Hid (∀ V, Below wr.heap.size wr V → Below w.heap.size w V) := fun V h => below_more HBL.out h
          clear hI oi p hq c0 c1
          generalize favN (R q).f (fun x => (P j).getD x 0) i = fv at *
          generalize (R q).c = rc at *
          go_wp2_with ((go_at_call 75; with_reducible refine Calls.mono (Gives.calls (FA1.out)) ?_; rintro e w1 ⟨rfl, z, rfl⟩); obtain ⟨q1, q0, q2, q3⟩ := HO2.out z.val fv pk1 (by repeat (first | exact Below.refl _ _ | (with_reducible assumption) | apply below_later | apply below_alloc | apply below_drew | apply below_drewN)); have Q1 := Lib.hid q1; have Q2 : Hid (Below w.heap.size w z.val) := HWV.out z.val (by repeat (first | exact Below.refl _ _ | (with_reducible assumption) | apply below_later | apply below_alloc | apply below_drew | apply below_drewN)); clear q1)
          go_roundw
          case rel => exact ⟨j + 1, by go_num, by omega, Q2.out.setCell (p := ⟨go, fv, none⟩) HG.out _, by rw [PS1.out]; exact Q1.out.set (PL.out j) fv _⟩
          case measure => simp [intOf]; omega
        · obtain rfl : j = i := by omega
          go_wp2
          go_ret
          exact ⟨_, rfl, ⟨_, HBL.out⟩, rfl, HO.out⟩
theorem pickL_congr {F : Nat → Nat → Int} {c d : Nat → Int} {n : Nat} : ∀ {k : Nat}, (∀ j, j < k → c j = d j) → pickL F c n k = pickL F d n k := by
  intro k
  induction k with
  | zero => intro _; rfl
  | succ k ih => intro h; rw [pickL_succ, pickL_succ, ih fun j hj => h j (by omega), h k (by omega)]
/-- All commoners in turn. -/
def turnI (k j : Nat) : Int := (j : Int) % (k : Int)
theorem turnI_in {k j : Nat} (h : 0 < k) : 0 ≤ turnI k j ∧ turnI k j < k := ⟨Int.emod_nonneg _ (by omega), Int.emod_lt_of_pos _ (by omega)⟩
set_option maxRecDepth 100000 in
theorem Pick_bad (k cap m cS : Nat) (A S : Option Addr) (R : Nat → Row) (w : World) (hp : IsTab w A k R) (h : tabB k R = false) :
    Gives Try.prog 30 #[.slice A k cap, .slice S m cS] w (.tuple #[.slice none 0 0, .int .i64 70]) := by
  have VA := Lib.hid fun (V : World) (hb : Below w.heap.size w V) => h ▸ valid_any k cap A R V (hp.below hb)
  clear hp h
  go_enter Try.func30, Try.ntmps30
  go_wp2_with (go_at_call 20; with_reducible refine Calls.mono (Gives.calls (VA.out _ (by repeat (first | exact Below.refl _ _ | (with_reducible assumption) | apply below_later | apply below_alloc | apply below_drew | apply below_drewN)))) ?_; rintro e w1 ⟨rfl, z, rfl⟩)
  go_ret2
  exact ⟨rfl, later_of (by repeat (first | exact Below.refl _ _ | (with_reducible assumption) | apply below_later | apply below_alloc | apply below_drew | apply below_drewN))⟩
theorem valsT {k n : Nat} {R : Nat → Row} (W : Vals k n R) : tabB k R = true := tabB_iff.2 ((W.len 0 W.k1).symm ▸ W)
set_option maxRecDepth 100000 in
theorem Pick_arg (k cap n m cS : Nat) (A S : Option Addr) (R : Nat → Row) (c : Nat → Int) (w : World) (W : Vals k n R) (hp : IsTab w A k R) (hc : IsInts w S m c) (h : shareB k n m c = false) :
    Gives Try.prog 30 #[.slice A k cap, .slice S m cS] w (.tuple #[.slice none 0 0, .int .i64 2]) := by
  obtain rfl : (R 0).n = n := W.len 0 W.k1
  have VA := Lib.hid fun (V : World) (hb : Below w.heap.size w V) => valsT W ▸ valid_any k cap A R V (hp.below hb)
  have GA := Lib.hid fun (V : World) (hb : Below w.heap.size w V) => h ▸ give_any k cap m cS A S R c V W.k1 (hp.below hb) W.n12 (hc.below hb)
  clear hp h W hc
  go_enter Try.func30, Try.ntmps30
  go_wp2_with (first | (go_at_call 20; with_reducible refine Calls.mono (Gives.calls (VA.out _ (by repeat (first | exact Below.refl _ _ | (with_reducible assumption) | apply below_later | apply below_alloc | apply below_drew | apply below_drewN)))) ?_; rintro e w1 ⟨rfl, z, rfl⟩) | (go_at_call 50; with_reducible refine Calls.mono (Gives.calls (GA.out _ (by repeat (first | exact Below.refl _ _ | (with_reducible assumption) | apply below_later | apply below_alloc | apply below_drew | apply below_drewN)))) ?_; rintro e w1 ⟨rfl, z2, rfl⟩))
  go_ret2
  exact ⟨rfl, later_of (by repeat (first | exact Below.refl _ _ | (with_reducible assumption) | apply below_later | apply below_alloc | apply below_drew | apply below_drewN))⟩
set_option maxRecDepth 100000 in
theorem Pick_ok (k cap n cS : Nat) (A S : Option Addr) (R : Nat → Row) (c : Nat → Int) (w : World) (W : Vals k n R) (hp : IsTab w A k R) (hc : IsInts w S n c) (hin : ∀ j, j < n → 0 ≤ c j ∧ c j < k) :
    Calls Try.prog 30 #[.slice A k cap, .slice S n cS] w (PostIE w (pickL (fT R) c n n) 0) := by
  obtain rfl : (R 0).n = n := W.len 0 W.k1
  have VA := Lib.hid fun (V : World) (hb : Below w.heap.size w V) => valsT W ▸ valid_any k cap A R V (hp.below hb)
  have GA := Lib.hid fun (V : World) (hb : Below w.heap.size w V) => (shareB_iff.2 ⟨rfl, hin⟩) ▸ give_any k cap (R 0).n cS A S R c V W.k1 (hp.below hb) W.n12 (hc.below hb)
  have PA := Lib.hid fun (V : World) (hb : Below w.heap.size w V) => pick_any k cap (R 0).n cS A S R c V W (hp.below hb) (hc.below hb) hin
  clear hp W hc hin
  generalize pickL (fT R) c (R 0).n (R 0).n = res at *
  generalize (R 0).n = n at *
  go_enter Try.func30, Try.ntmps30
  go_wp2_with (first
    | (go_at_call 20; with_reducible refine Calls.mono (Gives.calls (VA.out _ (by repeat (first | exact Below.refl _ _ | (with_reducible assumption) | apply below_later | apply below_alloc | apply below_drew | apply below_drewN)))) ?_; rintro e w1 ⟨rfl, z, rfl⟩)
    | (go_at_call 50; with_reducible refine Calls.mono (Gives.calls (GA.out _ (by repeat (first | exact Below.refl _ _ | (with_reducible assumption) | apply below_later | apply below_alloc | apply below_drew | apply below_drewN)))) ?_; rintro e w1 ⟨rfl, z2, rfl⟩)
    | (go_at_call 59; with_reducible refine Calls.mono (GivesI.calls (PA.out _ (by repeat (first | exact Below.refl _ _ | (with_reducible assumption) | apply below_later | apply below_alloc | apply below_drew | apply below_drewN)))) ?_; rintro e w1 ⟨v, rfl, z3, rfl, ho⟩; have HO := Lib.hid ho; clear ho))
  go_ret2
  exact ⟨_, rfl, ⟨_, by repeat (first | exact Below.refl _ _ | (with_reducible assumption) | apply below_later | apply below_alloc | apply below_drew | apply below_drewN)⟩, rfl, HO.out.mono (below_more z.ok z2.ok).size⟩
set_option maxRecDepth 100000 in
theorem InTurn_bad (k cap : Nat) (A : Option Addr) (R : Nat → Row) (w : World) (hp : IsTab w A k R) (h : tabB k R = false) :
    Gives Try.prog 31 #[.slice A k cap] w (.tuple #[.slice none 0 0, .int .i64 70]) := by
  have VA := Lib.hid fun (V : World) (hb : Below w.heap.size w V) => h ▸ valid_any k cap A R V (hp.below hb)
  clear hp h
  go_enter Try.func31, Try.ntmps31
  go_wp2_with (go_at_call 20; with_reducible refine Calls.mono (Gives.calls (VA.out _ (by repeat (first | exact Below.refl _ _ | (with_reducible assumption) | apply below_later | apply below_alloc | apply below_drew | apply below_drewN)))) ?_; rintro e w1 ⟨rfl, z, rfl⟩)
  go_ret2
  exact ⟨rfl, later_of (by repeat (first | exact Below.refl _ _ | (with_reducible assumption) | apply below_later | apply below_alloc | apply below_drew | apply below_drewN))⟩
set_option maxRecDepth 100000 in
set_option maxHeartbeats 1600000 in
theorem InTurn_ok (k cap n : Nat) (A : Option Addr) (R : Nat → Row) (w : World) (W : Vals k n R) (hp : IsTab w A k R) :
    Calls Try.prog 31 #[.slice A k cap] w (PostIE w (pickL (fT R) (turnI k) n n) 0) := by
  have hk6 := W.k6
  have hk1 := W.k1
  have hn12 := W.n12
  have VA := Lib.hid fun (V : World) (hb : Below w.heap.size w V) => valsT W ▸ valid_any k cap A R V (hp.below hb)
  obtain ⟨b, off, rfl⟩ := hp.addr W.k1
  have HD := Lib.hid fun (V : World) (hb : Below w.heap.size w V) => tab_head0 (hp.below hb) W
  have PA := Lib.hid fun (V : World) (S : Option Addr) (cS : Nat) (c : Nat → Int) (hb : Below w.heap.size w V) (hc : IsInts V S n c) (he : ∀ j, j < n → c j = turnI k j) =>
    (pickL_congr (F := fT R) he) ▸ pick_any k cap n cS (some ⟨b, off, none⟩) S R c V W (hp.below hb) hc fun j hj => by
      rw [he j hj]
      exact turnI_in W.k1
  have MK : ∀ w', (Instr.makeSlice 23 (.int .i64 (n : Int)) (.int .i64 (n : Int))).run Try.prog w' = .ok (.slice (some ⟨w'.heap.size, 0, none⟩) n n) (w'.alloc (.cells (madeCells #[Value.int .i64 0] n) 3)) := fun w' => make_ints w' n (by omega)
  clear hp W
  generalize pickL (fT R) (turnI k) n n = res at *
  go_enter Try.func31, Try.ntmps31
  go_wp2_with ((go_at_call 20; with_reducible refine Calls.mono (Gives.calls (VA.out _ (by repeat (first | exact Below.refl _ _ | (with_reducible assumption) | apply below_later | apply below_alloc | apply below_drew | apply below_drewN)))) ?_; rintro e w1 ⟨rfl, z, rfl⟩); obtain ⟨B, la, ca, _⟩ := HD.out z.val z.ok)
  have hzs := z.ok.size
  have HM := Lib.hid (made_own z.val n w.heap.size hzs (by omega))
  have HB1 : Hid (Below w.heap.size w (z.val.alloc (.cells (madeCells #[Value.int .i64 0] n) 3))) := z.ok.alloc hzs _
  obtain ⟨go, hgo⟩ : ∃ go, z.val.heap.size = go := ⟨_, rfl⟩
  have HG : Hid (w.heap.size ≤ go) := by rw [← hgo]; exact hzs
  rw [hgo] at HM ⊢
  clear hgo hzs MK la ca
  generalize z.val.alloc (.cells (madeCells #[Value.int .i64 0] n) 3) = Z at *
  go_loopw [16] (fun u wr => ∃ (i : Nat) (l : List Int), u = .int .i64 (i : Nat) ∧ i ≤ n ∧ l.length = n ∧ Below w.heap.size w wr ∧ OwnI wr w.heap.size (.slice (some ⟨go, 0, none⟩) n n) l ∧ ∀ j, j < i → l.getD j 0 = turnI k j) (fun u _ => n - (intOf u).toNat)
  case atStart => exact ⟨0, _, rfl, by omega, by simp, HB1.out, HM.out, by omega⟩
  case round =>
    obtain ⟨i, l, rfl, hi, hl, hbl, ho, hall⟩ := hrel
    clear HM HB1
    have HL := Lib.hid hl
    have HBL := Lib.hid hbl
    have HO := Lib.hid ho
    have HALL := Lib.hid hall
    clear hl hbl ho hall
    by_cases hlt : i < n
    · obtain ⟨o3, o4⟩ := HO.out.cell HL.out hlt
      have o5 := (own_lt HO.out go rfl).2
      have o6 := o4 i
      clear o4
      go_wp2
      first
        | (go_roundw
           case rel => exact ⟨i + 1, l.set i (turnI k i), by go_num, by omega, by rw [List.length_set]; exact HL.out, HBL.out.setCell (p := ⟨go, i, none⟩) HG.out _, HO.out.set HL.out i _, fun j hj => by
             rw [getD_setI (by rw [HL.out]; exact hlt)]
             split
             · rename_i e; rw [e]
             · exact HALL.out j (by omega)⟩
           case measure => simp [intOf]; omega)
        | (refine ⟨⟨i + 1, l.set i (turnI k i), by go_num, by omega, by rw [List.length_set]; exact HL.out, HBL.out.setCell (p := ⟨go, i, none⟩) HG.out _, HO.out.set HL.out i _, fun j hj => by
             rw [getD_setI (by rw [HL.out]; exact hlt)]
             split
             · rename_i e; rw [e]
             · exact HALL.out j (by omega)⟩, ?_⟩
           simp [intOf]; omega)
    · obtain rfl : i = n := by omega
      have oi := Lib.hid (HO.out.ints (by rw [HL.out]; omega)).2
      have PA1 := Lib.hid (PA.out wr _ i (fun j => l.getD j 0) HBL.out oi.out HALL.out)
      go_wp2_with (go_at_call 59; with_reducible refine Calls.mono (GivesI.calls PA1.out) ?_; rintro e w1 ⟨v, rfl, z3, rfl, ho3⟩; have HO3 := Lib.hid ho3; clear ho3)
      go_ret2
      exact ⟨_, rfl, ⟨_, below_more HBL.out z3.ok⟩, rfl, HO3.out.mono HBL.out.size⟩
end Go.Proofs.Ytjmjafpjfhgfdaa
