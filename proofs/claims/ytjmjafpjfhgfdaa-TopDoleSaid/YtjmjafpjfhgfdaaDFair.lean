/- dole's Fair, the document's Envies and Fair: walked. -/
import Derived.Test.YtjmjafpjfhgfdaaDPairs
namespace Go.Proofs.Ytjmjafpjfhgfdaa
open Go.RowKit

/-- Is an envy not but for one strip? -/
def hardT (R : Nat → Row) (c : Nat → Int) (m i j : Nat) : Bool := envT R c m i j && !butB (R i).f c (j : Nat) (wth (R i).f c i m) (wth (R i).f c j m) m
def fairT (R : Nat → Row) (c : Nat → Int) (m k : Nat) : Bool := allB k fun i => allB k fun j => !hardT R c m i j
theorem fair_no {R : Nat → Row} {c : Nat → Int} {m k i j : Nat} (hi : i < k) (hj : j < k) (h : hardT R c m i j = true) : fairT R c m k = false :=
  allB_false (p := fun i => allB k fun j => !hardT R c m i j) hi (allB_false (p := fun j => !hardT R c m i j) hj (by rw [h]; rfl))
set_option maxRecDepth 100000 in
set_option maxHeartbeats 3200000 in
theorem Fair_ok (k cap m cS : Nat) (A S : Option Addr) (R : Nat → Row) (c : Nat → Int) (w : World) (hp : IsTab w A k R) (hc : IsInts w S m c) (h : errE k R m c = 0) :
    Gives Try.prog 27 #[.slice A k cap, .slice S m cS] w (.tuple #[.bool (fairT R c m k), .int .i64 0]) := by
  obtain ⟨W, hm, _⟩ := errE_ok h
  have hk6 := W.k6
  have CH : Hid (∀ (V : World), Below w.heap.size w V → Gives Try.prog 51 #[.slice A k cap, .slice S m cS] V (.int .i64 0)) := fun V hb => h ▸ check_any k cap m cS A S R c V (hp.below hb) (hc.below hb)
  have EV := Lib.hid fun (i j : Nat) (V : World) (hi : i < k) (hb : Below w.heap.size w V) => envies_any k cap (R 0).n m cS i j A S R c V hi (by omega) W (hp.below hb) (hc.below hb)
  have BO := Lib.hid fun (i j : Nat) (V : World) (hi : i < k) (hb : Below w.heap.size w V) => butForOne_any k cap (R 0).n m cS i j A S R c V hi (by omega) W (hp.below hb) (hc.below hb)
  have HH : Hid (∀ i j, hardT R c m i j = (envT R c m i j && !butB (R i).f c (j : Nat) (wth (R i).f c i m) (wth (R i).f c j m) m)) := fun _ _ => rfl
  have FN := Lib.hid fun i j (hi : i < k) (hj : j < k) => fair_no (R := R) (c := c) (m := m) hi hj
  have FY : Hid ((∀ i, i < k → ∀ j, j < k → (!hardT R c m i j) = true) → fairT R c m k = true) := fun h => allB_true fun i hi => allB_true fun j hj => h i hi j hj
  generalize envT R c m = E at *
  have hBU : ∃ BU : Nat → Nat → Bool, ∀ i j, butB (R i).f c (j : Nat) (wth (R i).f c i m) (wth (R i).f c j m) m = BU i j := ⟨_, fun _ _ => rfl⟩
  obtain ⟨BU, hBU⟩ := hBU
  simp only [hBU] at BO HH
  generalize hardT R c m = HT at *
  generalize fairT R c m k = res at *
  clear hp hc h W hm hBU
  go_enter Try.func27, Try.ntmps27
  go_wp2_with (go_at_call 51; with_reducible refine Calls.mono (Gives.calls (CH.out _ (by repeat (first | exact Below.refl _ _ | (with_reducible assumption) | apply below_later | apply below_alloc | apply below_drew | apply below_drewN)))) ?_; rintro e w1 ⟨rfl, z, rfl⟩)
  have hbz : Below w.heap.size w (z.val.alloc (.cells #[.slice A k cap, .slice S m cS] 62)) := z.ok.alloc z.ok.size _
  obtain ⟨c0, c1, l0⟩ := box2 z.val (.slice A k cap) (.slice S m cS) 62
  have HB := Lib.hid hbz
  obtain ⟨b8, hb8⟩ : ∃ b8, z.val.heap.size = b8 := ⟨_, rfl⟩
  rw [hb8] at c0 c1 l0 ⊢
  clear hb8 hbz
  generalize z.val.alloc (.cells #[.slice A k cap, .slice S m cS] 62) = Z at *
  go_loopw [21] (fun v wr => ∃ i : Nat, v = .int .i64 (i : Nat) ∧ i ≤ k ∧ (∀ a, a < i → ∀ b, b < k → (!HT a b) = true) ∧ ∃ y : Later Z, wr = y.val) (fun v _ => k - (intOf v).toNat)
  case atStart => exact ⟨0, rfl, by omega, by omega, later_of (by repeat (first | exact Below.refl _ _ | (with_reducible assumption) | apply below_later | apply below_alloc | apply below_drew | apply below_drewN))⟩
  case round =>
    obtain ⟨i, rfl, hi, hall, y, rfl⟩ := hrel
    have HALL := Lib.hid hall
    clear hall
    by_cases hlt : i < k
    · have hg : decide ((i : Int) < (k : Int)) = true := by simp; omega
      have EVi := Lib.hid fun j V h => EV.out i j V hlt h
      have BOi := Lib.hid fun j V h => BO.out i j V hlt h
      have HHi := Lib.hid fun j => HH.out i j
      have FNi := Lib.hid fun j hj => FN.out i j hlt hj
      have YV : Hid (∀ V, Below y.val.heap.size y.val V → ∃ y2 : Later Z, V = y2.val) := fun V h => ⟨⟨V, below_more y.ok h⟩, rfl⟩
      have e0 := (y.cell _ 0 l0).trans c0
      have e1 := (y.cell _ 1 l0).trans c1
      have e2 := y.lt _ l0
      have HBY : Hid (Below w.heap.size w y.val) := below_more HB.out y.ok
      generalize y.val = Q at *
      go_wp2_with fail
      go_loopw [26] (fun v wr => ∃ j : Nat, v = .int .i64 (j : Nat) ∧ j ≤ k ∧ (∀ b, b < j → (!HT i b) = true) ∧ ∃ x : Later Q, wr = x.val) (fun v _ => k - (intOf v).toNat)
      case atStart => exact ⟨0, rfl, by omega, by omega, later_of (by repeat (first | exact Below.refl _ _ | (with_reducible assumption) | apply below_later | apply below_alloc | apply below_drew | apply below_drewN))⟩
      case round =>
        obtain ⟨j, rfl, hj, hrow, x, rfl⟩ := hrel
        have HROW := Lib.hid hrow
        clear hrow
        have d0 := (x.cell _ 0 e2).trans e0
        have d1 := (x.cell _ 1 e2).trans e1
        have d2 := x.lt _ e2
        have HBX : Hid (Below w.heap.size w x.val) := below_more HBY.out x.ok
        by_cases hlt2 : j < k
        · have EVj := Lib.hid fun V h => EVi.out j V h
          have BOj := Lib.hid fun V h => BOi.out j V h
          have HHj := Lib.hid (HHi.out j)
          have FNj := Lib.hid (FNi.out j hlt2)
          have FTj : Hid ((!HT i j) = true → ∀ b, b < j + 1 → (!HT i b) = true) := fun h => all_step (p := fun b => !HT i b) HROW.out h
          generalize E i j = ee at *
          generalize BU i j = bb at *
          generalize HT i j = hh at *
          have XV : Hid (∀ V, Below x.val.heap.size x.val V → Below w.heap.size w V ∧ V.cell? ⟨b8, 0, none⟩ = some (.slice A k cap) ∧ V.cell? ⟨b8, 1, none⟩ = some (.slice S m cS) ∧ b8 < V.heap.size) := fun V h =>
            ⟨below_more HBX.out h, (h.cell (p := ⟨b8, 0, none⟩) d2).trans d0, (h.cell (p := ⟨b8, 1, none⟩) d2).trans d1, Nat.lt_of_lt_of_le d2 h.size⟩
          cases ee
          · have HE := Lib.hid (FTj.out (by rw [HHj.out]; rfl))
            go_wp2_with (first
              | ((go_at_call 57; with_reducible refine Calls.mono (Gives.calls (EVj.out _ (below_more HBX.out (by repeat (first | exact Below.refl _ _ | (with_reducible assumption) | apply below_later | apply below_alloc | apply below_drew | apply below_drewN))))) ?_; rintro e w1 ⟨rfl, u, rfl⟩); obtain ⟨_, x0, x1, x2⟩ := XV.out u.val (by repeat (first | exact Below.refl _ _ | (with_reducible assumption) | apply below_later | apply below_alloc | apply below_drew | apply below_drewN)))
              | (go_at_call 58; with_reducible refine Calls.mono (Gives.calls (BOj.out _ (below_more HBX.out (by repeat (first | exact Below.refl _ _ | (with_reducible assumption) | apply below_later | apply below_alloc | apply below_drew | apply below_drewN))))) ?_; rintro e w1 ⟨rfl, u2, rfl⟩))
            first
              | (go_roundw
                 case rel => exact ⟨j + 1, by go_num, by omega, HE.out, later_of (by repeat (first | exact Below.refl _ _ | (with_reducible assumption) | apply below_later | apply below_alloc | apply below_drew | apply below_drewN))⟩
                 case measure => simp [intOf]; omega)
              | (refine ⟨⟨j + 1, by go_num, by omega, HE.out, later_of (by repeat (first | exact Below.refl _ _ | (with_reducible assumption) | apply below_later | apply below_alloc | apply below_drew | apply below_drewN))⟩, ?_⟩; simp [intOf]; omega)
          · cases bb
            · have HE := Lib.hid (FNj.out (by rw [HHj.out]; rfl))
              go_wp2_with (first
                | ((go_at_call 57; with_reducible refine Calls.mono (Gives.calls (EVj.out _ (below_more HBX.out (by repeat (first | exact Below.refl _ _ | (with_reducible assumption) | apply below_later | apply below_alloc | apply below_drew | apply below_drewN))))) ?_; rintro e w1 ⟨rfl, u, rfl⟩); obtain ⟨_, x0, x1, x2⟩ := XV.out u.val (by repeat (first | exact Below.refl _ _ | (with_reducible assumption) | apply below_later | apply below_alloc | apply below_drew | apply below_drewN)))
                | (go_at_call 58; with_reducible refine Calls.mono (Gives.calls (BOj.out _ (below_more HBX.out (by repeat (first | exact Below.refl _ _ | (with_reducible assumption) | apply below_later | apply below_alloc | apply below_drew | apply below_drewN))))) ?_; rintro e w1 ⟨rfl, u2, rfl⟩))
              go_ret2
              exact ⟨by rw [HE.out]; rfl, later_of (below_more HBX.out (by repeat (first | exact Below.refl _ _ | (with_reducible assumption) | apply below_later | apply below_alloc | apply below_drew | apply below_drewN)))⟩
            · have HE := Lib.hid (FTj.out (by rw [HHj.out]; rfl))
              go_wp2_with (first
                | ((go_at_call 57; with_reducible refine Calls.mono (Gives.calls (EVj.out _ (below_more HBX.out (by repeat (first | exact Below.refl _ _ | (with_reducible assumption) | apply below_later | apply below_alloc | apply below_drew | apply below_drewN))))) ?_; rintro e w1 ⟨rfl, u, rfl⟩); obtain ⟨_, x0, x1, x2⟩ := XV.out u.val (by repeat (first | exact Below.refl _ _ | (with_reducible assumption) | apply below_later | apply below_alloc | apply below_drew | apply below_drewN)))
                | (go_at_call 58; with_reducible refine Calls.mono (Gives.calls (BOj.out _ (below_more HBX.out (by repeat (first | exact Below.refl _ _ | (with_reducible assumption) | apply below_later | apply below_alloc | apply below_drew | apply below_drewN))))) ?_; rintro e w1 ⟨rfl, u2, rfl⟩))
              first
                | (go_roundw
                   case rel => exact ⟨j + 1, by go_num, by omega, HE.out, later_of (by repeat (first | exact Below.refl _ _ | (with_reducible assumption) | apply below_later | apply below_alloc | apply below_drew | apply below_drewN))⟩
                   case measure => simp [intOf]; omega)
                | (refine ⟨⟨j + 1, by go_num, by omega, HE.out, later_of (by repeat (first | exact Below.refl _ _ | (with_reducible assumption) | apply below_later | apply below_alloc | apply below_drew | apply below_drewN))⟩, ?_⟩; simp [intOf]; omega)
        · obtain rfl : j = k := by omega
          have HE : Hid (∀ a, a < i + 1 → ∀ b, b < j → (!HT a b) = true) := fun a ha b hb => by
            by_cases e : a = i
            · subst e; exact HROW.out b hb
            · exact HALL.out a (by omega) b hb
          go_wp2_with fail
          first
            | (refine ⟨⟨i + 1, by go_num, by omega, HE.out, YV.out _ (by repeat (first | exact Below.refl _ _ | (with_reducible assumption) | apply below_later | apply below_alloc | apply below_drew | apply below_drewN))⟩, ?_⟩; simp [intOf]; omega)
            | (go_roundw
               case rel => exact ⟨i + 1, by go_num, by omega, HE.out, YV.out _ (by repeat (first | exact Below.refl _ _ | (with_reducible assumption) | apply below_later | apply below_alloc | apply below_drew | apply below_drewN))⟩
               case measure => simp [intOf]; omega)
    · obtain rfl : i = k := by omega
      have HE := Lib.hid (FY.out HALL.out)
      go_wp2_with fail
      go_ret2
      exact ⟨by rw [HE.out]; rfl, later_of (below_more HB.out y.ok)⟩
set_option maxRecDepth 100000 in
set_option maxHeartbeats 3200000 in
theorem rEnvies_any (k cap n m cS : Nat) (A S : Option Addr) (R : Nat → Row) (c : Nat → Int) (w : World) (hmn : m ≤ n) (W : Vals k n R) (hp : IsTab w A k R) (hc : IsInts w S m c) :
    Calls Try.prog 28 #[.slice A k cap, .slice S m cS] w (PostQ w (prsT (envT R c m) k k)) := by
  have hk6 := W.k6
  have EV := Lib.hid fun (i j : Nat) (V : World) (hi : i < k) (hb : Below w.heap.size w V) => renvied_any k cap n m cS i j A S R c V hi hmn W (hp.below hb) (hc.below hb)
  generalize envT R c m = E at *
  have PT := Lib.hid (prsT_succ E k)
  have PR := Lib.hid (prsR_succ E)
  have P0 : Hid (prsT E k 0 = [] ∧ ∀ i, prsR E i 0 = []) := ⟨rfl, fun _ => rfl⟩
  have PL := Lib.hid fun i j (hi : i ≤ k) (hj : j ≤ k) => prs_le (E := E) (k := k) hk6 hi hj
  generalize prsT E k = PTT at *
  generalize prsR E = PRR at *
  obtain ⟨i0, hi0, hz0, hz1, hz2⟩ := info_pair
  clear hp hc W hmn
  go_enter Try.func28, Try.ntmps28
  go_wp2_with fail
  go_loopw [5, 6] (fun u v wr => ∃ i : Nat, v = .int .i64 (i : Nat) ∧ i ≤ k ∧ Below w.heap.size w wr ∧ OwnQ wr w.heap.size u (PTT i)) (fun _ v _ => k - (intOf v).toNat)
  case atStart => exact ⟨0, rfl, by omega, Below.refl _ _, by rw [P0.out.1]; exact OwnQ.nil _ _⟩
  case round =>
    obtain ⟨i, rfl, hi, hbl, ho⟩ := hrel
    have HBL := Lib.hid hbl
    have HO := Lib.hid ho
    clear hbl ho
    by_cases hlt : i < k
    · have hg : decide ((i : Int) < (k : Int)) = true := by simp; omega
      have EVi := Lib.hid fun j V h => EV.out i j V hlt h
      have PRi := Lib.hid fun j => PR.out i j
      have P0i : Hid (PRR i 0 = []) := P0.out.2 i
      have PTi := Lib.hid (PT.out i)
      have PLi := Lib.hid fun j hj => PL.out i j hi hj
      generalize PRR i = PRi2 at *
      go_wp2_with fail
      go_loopw [5, 7] (fun u v wr => ∃ j : Nat, v = .int .i64 (j : Nat) ∧ j ≤ k ∧ Below w.heap.size w wr ∧ OwnQ wr w.heap.size u (PTT i ++ PRi2 j)) (fun _ v _ => k - (intOf v).toNat)
      case atStart => exact ⟨0, rfl, by omega, HBL.out, by rw [P0i.out, List.append_nil]; exact HO.out⟩
      case round =>
        obtain ⟨j, rfl, hj, hbl, ho⟩ := hrel
        have HBL2 := Lib.hid hbl
        have HO2 := Lib.hid ho
        obtain ⟨O, cO, eO⟩ := ho.shape
        subst eO
        clear hbl ho
        by_cases hlt2 : j < k
        · have hlen := PLi.out j hj
          have EVj := Lib.hid fun V h => EVi.out j V h
          have PRj := Lib.hid (PRi.out j)
          have HOV : Hid (∀ y : Later wr, OwnQ y.val w.heap.size (.slice O (PTT i ++ PRi2 j).length cO) (PTT i ++ PRi2 j)) := fun y => HO2.out.later y
          have HBV : Hid (∀ y : Later wr, Below w.heap.size w y.val) := fun y => below_more HBL2.out y.ok
          generalize hPP : PTT i ++ PRi2 j = PP at *
          cases hE : E i j
          · rw [hE] at EVj PRj
            rw [if_neg (by simp)] at PRj
            have HN : Hid (PTT i ++ PRi2 (j + 1) = PP) := by show _ = _; rw [PRj.out, hPP]
            clear hE hPP
            go_wp2_with (go_at_call 49; with_reducible refine Calls.mono (Gives.calls (EVj.out _ (below_more HBL2.out (by repeat (first | exact Below.refl _ _ | (with_reducible assumption) | apply below_later | apply below_alloc | apply below_drew | apply below_drewN))))) ?_; rintro e w1 ⟨rfl, y, rfl⟩)
            first
              | (go_roundw
                 case rel => exact ⟨j + 1, by go_num, by omega, HBV.out y, by rw [HN.out]; exact HOV.out y⟩
                 case measure => simp [intOf]; omega)
              | (refine ⟨⟨j + 1, by go_num, by omega, HBV.out y, by rw [HN.out]; exact HOV.out y⟩, ?_⟩; simp [intOf]; omega)
          · rw [hE] at EVj PRj
            rw [if_pos rfl] at PRj
            have HN : Hid (PTT i ++ PRi2 (j + 1) = PP ++ [((i : Int), (j : Int))]) := by show _ = _; rw [PRj.out, ← List.append_assoc, hPP]
            clear hE hPP
            go_wp2_with (first
              | (go_at_call 49; with_reducible refine Calls.mono (Gives.calls (EVj.out _ (below_more HBL2.out (by repeat (first | exact Below.refl _ _ | (with_reducible assumption) | apply below_later | apply below_alloc | apply below_drew | apply below_drewN))))) ?_; rintro e w1 ⟨rfl, y, rfl⟩)
              | (at_builtin; refine wpList_append_own_at _ rfl _ _ 40 rfl w.heap.size 44 i0 (.agg #[.int .i64 0, .int .i64 0]) 2 16 Try.underlying40 hi0 hz0 hz1 hz2 rfl (by decide) _ _ _ rfl ((own_rowQ (HOV.out y) rfl).alloc _) ⟨_, 0, none⟩ 1 1 [.int .i64 (i : Nat), .int .i64 (j : Nat)] rfl rfl lit_news2 two_int ?g1 ?g2 ?g3 ?_))
            case g1 => unfold maxLen; omega
            case g2 => omega
            case g3 => have := (HBV.out y).size; simp only [World.size_alloc]; omega
            intro v6 w6 hown2 hgrow _ hat
            have hb6 : Below w.heap.size w w6 := below_own (w1 := y.val.alloc (.cells #[.int .i64 (i : Nat), .int .i64 (j : Nat)] 44)) (below_alloc (HBV.out y)) ((own_rowQ (HOV.out y) rfl).alloc _) (Nat.le_refl _) hgrow
            have HO6 : Hid (OwnQ w6 w.heap.size v6 (PTT i ++ PRi2 (j + 1))) := by
              show OwnQ _ _ _ _
              rw [HN.out]
              unfold OwnQ
              rw [List.length_append, cells2_append]
              exact hown2
            have HB6 := Lib.hid hb6
            clear hown2 hgrow hat hb6
            go_wp2_with fail
            first
              | (refine ⟨⟨j + 1, by go_num, by omega, HB6.out, HO6.out⟩, ?_⟩; simp [intOf]; omega)
              | (go_roundw
                 case rel => exact ⟨j + 1, by go_num, by omega, HB6.out, HO6.out⟩
                 case measure => simp [intOf]; omega)
        · obtain rfl : j = k := by omega
          go_wp2_with fail
          first
            | (refine ⟨⟨i + 1, by go_num, by omega, HBL2.out, by rw [PTi.out]; exact HO2.out⟩, ?_⟩; simp [intOf]; omega)
            | (go_roundw
               case rel => exact ⟨i + 1, by go_num, by omega, HBL2.out, by rw [PTi.out]; exact HO2.out⟩
               case measure => simp [intOf]; omega)
    · obtain rfl : i = k := by omega
      go_wp2_with fail
      go_ret
      exact ⟨_, rfl, ⟨_, HBL.out⟩, rfl, HO.out⟩
theorem topO_succ (f c : Nat → Int) (o : Int) (m : Nat) : topO f c o (m + 1) = if c m = o then max (topO f c o m) (f m) else topO f c o m := rfl
theorem hard_top {k n m : Nat} {R : Nat → Row} {c : Nat → Int} {i j : Nat} (h : envT R c m i j = true) : hardT R c m i j = decide (wth (R i).f c i m < wth (R i).f c j m - topO (R i).f c j m) := by
  have h1 : wth (R i).f c i m < wth (R i).f c j m := of_decide_eq_true h
  unfold hardT
  rw [h, but_top h1, Bool.true_and]
  by_cases e : wth (R i).f c j m - topO (R i).f c j m ≤ wth (R i).f c i m
  · rw [decide_eq_true e, decide_eq_false (by omega)]; rfl
  · rw [decide_eq_false e, decide_eq_true (by omega)]; rfl
theorem hard_none {m : Nat} {R : Nat → Row} {c : Nat → Int} {i j : Nat} (h : envT R c m i j = false) : hardT R c m i j = false := by
  unfold hardT
  rw [h, Bool.false_and]
set_option maxRecDepth 100000 in
set_option maxHeartbeats 6400000 in
theorem rFair_any (k cap n m cS : Nat) (A S : Option Addr) (R : Nat → Row) (c : Nat → Int) (w : World) (hmn : m ≤ n) (W : Vals k n R) (hp : IsTab w A k R) (hc : IsInts w S m c) :
    Gives Try.prog 29 #[.slice A k cap, .slice S m cS] w (.bool (fairT R c m k)) := by
  have hk6 := W.k6
  have hn12 := W.n12
  obtain ⟨b, off, rfl⟩ := hp.addr W.k1
  have EV := Lib.hid fun (i j : Nat) (V : World) (hi : i < k) (hb : Below w.heap.size w V) => renvied_any k cap n m cS i j (some ⟨b, off, none⟩) S R c V hi hmn W (hp.below hb) (hc.below hb)
  have HD := Lib.hid fun (V : World) (hb : Below w.heap.size w V) (i : Nat) (hi : i < k) => tab_head (hp.below hb) W hi
  have CE := Lib.hid fun (V : World) (hb : Below w.heap.size w V) (i j : Nat) (hi : i < k) (hj : j < n) => tab_cell (hp.below hb) W hi hj
  have HC := Lib.hid fun (V : World) (hb : Below w.heap.size w V) => hc.below hb
  have HT1 := Lib.hid fun i j => hard_top (k := k) (n := n) (m := m) (R := R) (c := c) (i := i) (j := j)
  have HT0 := Lib.hid fun i j => hard_none (m := m) (R := R) (c := c) (i := i) (j := j)
  have WO := Lib.hid fun (i o : Nat) (V : World) (B : Option Addr) (cR : Nat) (hi : i < k) (hb : Below w.heap.size w V) (hI : IsInts V B n (R i).f) => rworth_any n m cS cR (o : Nat) B S (R i).f c V hmn hn12 (W.val i hi) hI (hc.below hb)
  have WB := Lib.hid fun (i o : Nat) (hi : i < k) => wth_bd (f := (R i).f) (c := c) (o := (o : Nat)) (m := m) fun q hq => W.val i hi q (by omega)
  have TB := Lib.hid fun (i o q : Nat) (hi : i < k) (hq : q ≤ m) => topO_bd (f := (R i).f) (c := c) (o := (o : Nat)) (m := q) fun p hp => W.val i hi p (by omega)
  have TS := Lib.hid fun (i o q : Nat) => topO_succ (R i).f c (o : Nat) q
  have T0 : Hid (∀ i o : Nat, topO (R i).f c (o : Nat) 0 = 0) := fun _ _ => rfl
  have FN := Lib.hid fun i j (hi : i < k) (hj : j < k) => fair_no (R := R) (c := c) (m := m) hi hj
  have FY : Hid ((∀ i, i < k → ∀ j, j < k → (!hardT R c m i j) = true) → fairT R c m k = true) := fun h => allB_true fun i hi => allB_true fun j hj => h i hi j hj
  have VV := Lib.hid W.val
  generalize envT R c m = E at *
  generalize hardT R c m = HT at *
  generalize fairT R c m k = res at *
  clear hp hc W
  go_enter Try.func29, Try.ntmps29
  go_wp2_with fail
  go_loopw [5] (fun v wr => ∃ i : Nat, v = .int .i64 (i : Nat) ∧ i ≤ k ∧ (∀ a, a < i → ∀ b, b < k → (!HT a b) = true) ∧ ∃ y : Later w, wr = y.val) (fun v _ => k - (intOf v).toNat)
  case atStart => exact ⟨0, rfl, by omega, by omega, later_of (by repeat (first | exact Below.refl _ _ | (with_reducible assumption) | apply below_later | apply below_alloc | apply below_drew | apply below_drewN))⟩
  case round =>
    obtain ⟨i, rfl, hi, hall, y, rfl⟩ := hrel
    have HALL := Lib.hid hall
    clear hall
    by_cases hlt : i < k
    · have hg : decide ((i : Int) < (k : Int)) = true := by simp; omega
      have EVi := Lib.hid fun j V h => EV.out i j V hlt h
      have HDi := Lib.hid fun V h => HD.out V h i hlt
      have CEi := Lib.hid fun V h q => CE.out V h i q hlt
      have WOi := Lib.hid fun o V B cR h hI => WO.out i o V B cR hlt h hI
      have WBi := Lib.hid fun o => WB.out i o hlt
      have TBi := Lib.hid fun o q hq => TB.out i o q hlt hq
      have TSi := Lib.hid fun o q => TS.out i o q
      have T0i := Lib.hid fun o => T0.out i o
      have VVi := Lib.hid (VV.out i hlt)
      have H1i := Lib.hid fun j => HT1.out i j
      have H0i := Lib.hid fun j => HT0.out i j
      have FNi := Lib.hid fun j hj => FN.out i j hlt hj
      have YV : Hid (∀ V, Below y.val.heap.size y.val V → ∃ y2 : Later w, V = y2.val) := fun V h => ⟨⟨V, below_more y.ok h⟩, rfl⟩
      have HBY : Hid (Below w.heap.size w y.val) := y.ok
      generalize (R i).c = rc at *
      generalize (R i).f = f at *
      generalize y.val = Q at *
      go_wp2_with fail
      go_loopw [6] (fun v wr => ∃ j : Nat, v = .int .i64 (j : Nat) ∧ j ≤ k ∧ (∀ b, b < j → (!HT i b) = true) ∧ ∃ x : Later Q, wr = x.val) (fun v _ => k - (intOf v).toNat)
      case atStart => exact ⟨0, rfl, by omega, by omega, later_of (by repeat (first | exact Below.refl _ _ | (with_reducible assumption) | apply below_later | apply below_alloc | apply below_drew | apply below_drewN))⟩
      case round =>
        obtain ⟨j, rfl, hj, hrow, x, rfl⟩ := hrel
        have HROW := Lib.hid hrow
        clear hrow
        have HBX : Hid (Below w.heap.size w x.val) := below_more HBY.out x.ok
        by_cases hlt2 : j < k
        · have EVj := Lib.hid fun V h => EVi.out j V h
          have FNj := Lib.hid (FNi.out j hlt2)
          have FTj : Hid ((!HT i j) = true → ∀ b, b < j + 1 → (!HT i b) = true) := fun h => all_step (p := fun b => !HT i b) HROW.out h
          have H1j := Lib.hid (H1i.out j)
          have H0j := Lib.hid (H0i.out j)
          have hg2 : decide ((j : Int) < (k : Int)) = true := by simp; omega
          generalize HT i j = hh at *
          cases hE : E i j
          · rw [hE] at EVj
            have HE := Lib.hid (FTj.out (by rw [H0j.out hE]; rfl))
            clear hE
            go_wp2_with (go_at_call 49; with_reducible refine Calls.mono (Gives.calls (EVj.out _ (below_more HBX.out (by repeat (first | exact Below.refl _ _ | (with_reducible assumption) | apply below_later | apply below_alloc | apply below_drew | apply below_drewN))))) ?_; rintro e w1 ⟨rfl, u, rfl⟩)
            first
              | (go_roundw
                 case rel => exact ⟨j + 1, by go_num, by omega, HE.out, later_of (by repeat (first | exact Below.refl _ _ | (with_reducible assumption) | apply below_later | apply below_alloc | apply below_drew | apply below_drewN))⟩
                 case measure => simp [intOf]; omega)
              | (refine ⟨⟨j + 1, by go_num, by omega, HE.out, later_of (by repeat (first | exact Below.refl _ _ | (with_reducible assumption) | apply below_later | apply below_alloc | apply below_drew | apply below_drewN))⟩, ?_⟩; simp [intOf]; omega)
          · rw [hE] at EVj
            have HH := Lib.hid (H1j.out hE)
            clear hE
            have XV : Hid (∀ V, Below x.val.heap.size x.val V → ∃ y2 : Later Q, V = y2.val) := fun V h => ⟨⟨V, below_more x.ok h⟩, rfl⟩
            obtain ⟨x0, x1⟩ := WBi.out i
            obtain ⟨y0, y1⟩ := WBi.out j
            have WO1 := Lib.hid fun V B cR h hI => WOi.out j V B cR h hI
            have WO2 := Lib.hid fun V B cR h hI => WOi.out i V B cR h hI
            have TBj := Lib.hid fun q hq => TBi.out j q hq
            have TSj := Lib.hid fun q => TSi.out j q
            have T0j := Lib.hid (T0i.out j)
            generalize wth f c (i : Nat) m = xi at *
            generalize wth f c (j : Nat) m = yj at *
            generalize topO f c (j : Nat) = T at *
            go_wp2_with (go_at_call 49; with_reducible refine Calls.mono (Gives.calls (EVj.out _ (below_more HBX.out (by repeat (first | exact Below.refl _ _ | (with_reducible assumption) | apply below_later | apply below_alloc | apply below_drew | apply below_drewN))))) ?_; rintro e w1 ⟨rfl, u, rfl⟩)
            have HBU : Hid (Below w.heap.size w u.val) := below_more HBX.out u.ok
            have UV : Hid (∀ V, Below u.val.heap.size u.val V → ∃ y2 : Later Q, V = y2.val) := fun V h => XV.out V (below_more u.ok h)
            generalize u.val = U at *
            go_loopw [7, 8] (fun t v wr => ∃ q : Nat, t = .int .i64 (T q) ∧ v = .int .i64 (q : Nat) ∧ q ≤ m ∧ ∃ z : Later U, wr = z.val) (fun _ v _ => m - (intOf v).toNat)
            case atStart => exact ⟨0, by rw [T0j.out], rfl, by omega, later_of (by repeat (first | exact Below.refl _ _ | (with_reducible assumption) | apply below_later | apply below_alloc | apply below_drew | apply below_drewN))⟩
            case round =>
              obtain ⟨q, rfl, rfl, hq, z, rfl⟩ := hrel
              have hbz : Below w.heap.size w z.val := below_more HBU.out z.ok
              by_cases hlt3 : q < m
              · obtain ⟨bb, oo, hB, p⟩ := (HC.out z.val hbz).at_ (by omega)
                have HBO := Lib.hid hB
                rw [hB]
                have cq := p.at_ q hlt3
                have lq := p.lt
                obtain ⟨br, br', la, ca, lr, cr⟩ := CEi.out z.val hbz q (by omega)
                obtain ⟨v0, v1⟩ := VVi.out q (by omega)
                obtain ⟨t0, t1⟩ := TBj.out q (by omega)
                have TS1 := Lib.hid (TSj.out q)
                clear p hbz hB
                generalize f q = fq at *
                generalize T q = tq at *
                by_cases e : c q = (j : Nat)
                · have e1 : (c q == ((j : Nat) : Int)) = true := by rw [e]; simp
                  have HN : Hid (T (q + 1) = max tq fq) := by show _ = _; rw [TS1.out, if_pos e]
                  clear e
                  go_wp2_with fail
                  all_goals
                    try rw [← HBO.out]
                    first
                      | (go_roundw
                         case rel => exact ⟨q + 1, by rw [HN.out]; try (congr 1; omega), by go_num, by omega, later_of (by repeat (first | exact Below.refl _ _ | (with_reducible assumption) | apply below_later | apply below_alloc | apply below_drew | apply below_drewN))⟩
                         case measure => simp [intOf]; omega)
                      | (refine ⟨⟨q + 1, by rw [HN.out]; try (congr 1; omega), by go_num, by omega, later_of (by repeat (first | exact Below.refl _ _ | (with_reducible assumption) | apply below_later | apply below_alloc | apply below_drew | apply below_drewN))⟩, ?_⟩; simp [intOf]; omega)
                · have e1 : (c q == ((j : Nat) : Int)) = false := by simp [e]
                  have HN : Hid (T (q + 1) = tq) := by show _ = _; rw [TS1.out, if_neg e]
                  clear e
                  go_wp2_with fail
                  try rw [← HBO.out]
                  first
                    | (go_roundw
                       case rel => exact ⟨q + 1, by rw [HN.out], by go_num, by omega, later_of (by repeat (first | exact Below.refl _ _ | (with_reducible assumption) | apply below_later | apply below_alloc | apply below_drew | apply below_drewN))⟩
                       case measure => simp [intOf]; omega)
                    | (refine ⟨⟨q + 1, by rw [HN.out], by go_num, by omega, later_of (by repeat (first | exact Below.refl _ _ | (with_reducible assumption) | apply below_later | apply below_alloc | apply below_drew | apply below_drewN))⟩, ?_⟩; simp [intOf]; omega)
              · obtain rfl : q = m := by omega
                obtain ⟨t0, t1⟩ := TBj.out q (by omega)
                obtain ⟨B, la, ca, hI⟩ := HDi.out z.val hbz
                have WO1z := Lib.hid fun V (h : Below z.val.heap.size z.val V) => WO1.out V B rc (below_more hbz h) (hI.below h)
                have WO2z := Lib.hid fun V (h : Below z.val.heap.size z.val V) => WO2.out V B rc (below_more hbz h) (hI.below h)
                have ZV : Hid (∀ V, Below z.val.heap.size z.val V → ∃ y2 : Later Q, V = y2.val) := fun V h => UV.out V (below_more z.ok h)
                have HBZ := Lib.hid hbz
                generalize T q = tq at *
                clear hI hbz
                by_cases hd : xi < yj - tq
                · have HE := Lib.hid (FNj.out (by rw [HH.out]; exact decide_eq_true hd))
                  go_wp2_with fail
                  refine wp_region_later (by kernel_rfl) (by kernel_rfl) ?_
                  repeat (go_big_quiet_step ((first | (go_at_call 56; (with_reducible refine Later.call _ (WO1z.out _ (by repeat (first | exact Below.refl _ _ | (with_reducible assumption) | apply below_later | apply below_alloc | apply below_drew | apply below_drewN))))) | (go_at_call 56; (with_reducible refine Later.call _ (WO2z.out _ (by repeat (first | exact Below.refl _ _ | (with_reducible assumption) | apply below_later | apply below_alloc | apply below_drew | apply below_drewN))))))))
                  refine wpQuiet_nil ?_
                  intro u2
                  go_wp2_with fail
                  go_ret
                  exact ⟨ret_bool HE.out.symm, later_of (below_more HBZ.out u2.ok)⟩
                · have HE := Lib.hid (FTj.out (by rw [HH.out, decide_eq_false hd]; rfl))
                  go_wp2_with fail
                  refine wp_region_later (by kernel_rfl) (by kernel_rfl) ?_
                  repeat (go_big_quiet_step ((first | (go_at_call 56; (with_reducible refine Later.call _ (WO1z.out _ (by repeat (first | exact Below.refl _ _ | (with_reducible assumption) | apply below_later | apply below_alloc | apply below_drew | apply below_drewN))))) | (go_at_call 56; (with_reducible refine Later.call _ (WO2z.out _ (by repeat (first | exact Below.refl _ _ | (with_reducible assumption) | apply below_later | apply below_alloc | apply below_drew | apply below_drewN))))))))
                  refine wpQuiet_nil ?_
                  intro u2
                  go_wp2_with fail
                  first
                    | (go_roundw
                       case rel => exact ⟨j + 1, by go_num, by omega, HE.out, ZV.out _ u2.ok⟩
                       case measure => simp [intOf]; omega)
                    | (refine ⟨⟨j + 1, by go_num, by omega, HE.out, ZV.out _ u2.ok⟩, ?_⟩; simp [intOf]; omega)
        · obtain rfl : j = k := by omega
          have HE : Hid (∀ a, a < i + 1 → ∀ b, b < j → (!HT a b) = true) := fun a ha b hb => by
            by_cases e : a = i
            · subst e; exact HROW.out b hb
            · exact HALL.out a (by omega) b hb
          go_wp2_with fail
          first
            | (refine ⟨⟨i + 1, by go_num, by omega, HE.out, YV.out _ (by repeat (first | exact Below.refl _ _ | (with_reducible assumption) | apply below_later | apply below_alloc | apply below_drew | apply below_drewN))⟩, ?_⟩; simp [intOf]; omega)
            | (go_roundw
               case rel => exact ⟨i + 1, by go_num, by omega, HE.out, YV.out _ (by repeat (first | exact Below.refl _ _ | (with_reducible assumption) | apply below_later | apply below_alloc | apply below_drew | apply below_drewN))⟩
               case measure => simp [intOf]; omega)
    · obtain rfl : i = k := by omega
      have HE := Lib.hid (FY.out HALL.out)
      go_wp2_with fail
      go_ret
      exact ⟨ret_bool HE.out.symm, later_of (by repeat (first | exact Below.refl _ _ | (with_reducible assumption) | apply below_later | apply below_alloc | apply below_drew | apply below_drewN))⟩
end Go.Proofs.Ytjmjafpjfhgfdaa
