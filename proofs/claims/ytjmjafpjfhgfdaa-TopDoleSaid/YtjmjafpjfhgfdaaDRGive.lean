/- The document's Give: walked. -/
import Derived.Test.YtjmjafpjfhgfdaaDGive
import Derived.Test.YtjmjafpjfhgfdaaDCirclesLaw
namespace Go.Proofs.Ytjmjafpjfhgfdaa
open Go.RowKit

/-- A share-out of the first strips; the others are nobody's. -/
def dF (t : List Int) (j : Nat) : Int := if j < t.length then gt t j else -1
def dL (n : Nat) (t : List Int) : List Int := listN (dF t) n
theorem dL_length (n : Nat) (t : List Int) : (dL n t).length = n := listN_length _ _
theorem dL_get {n j : Nat} {t : List Int} (h : j < n) : (dL n t).getD j 0 = dF t j := listN_get h
theorem wth_more {f c : Nat → Int} {o : Int} {m : Nat} : ∀ (d : Nat), (∀ j, m ≤ j → j < m + d → c j ≠ o) → wth f c o (m + d) = wth f c o m := by
  intro d
  induction d with
  | zero => intro _; rfl
  | succ d ih =>
    intro h
    rw [show m + (d + 1) = (m + d) + 1 by omega, wth_succ, if_neg (h (m + d) (by omega) (by omega))]
    exact ih fun j h1 h2 => h j h1 (by omega)
theorem wth_dF {f : Nat → Int} {t : List Int} {n o : Nat} (h : t.length ≤ n) : wth f (dF t) (o : Nat) n = wth f (gt t) (o : Nat) t.length := by
  rw [show n = t.length + (n - t.length) by omega, wth_more (n - t.length) fun j h1 _ e => by
    unfold dF at e
    rw [if_neg (by omega)] at e
    omega]
  exact wth_congr fun j hj => ⟨rfl, by unfold dF; rw [if_pos hj]⟩
theorem env_dF {R : Nat → Row} {t : List Int} {n : Nat} (h : t.length ≤ n) : envT R (dF t) n = envT R (gt t) t.length := by
  funext i j
  unfold envT
  rw [wth_dF h, wth_dF h]
theorem dF_turn {R : Nat → Row} {k : Nat} {t : List Int} (hne : cirT R k t ≠ []) (j : Nat) : rturnTo (zl (cirT R k t)) (cirT R k t).length (dF t j) (cirT R k t).length = dF (turnL R k t) j := by
  obtain ⟨hd, hk, _, h1⟩ := cir_dif (cirT_up hne).cir
  unfold dF
  rw [turnL_length]
  by_cases h : j < t.length
  · rw [if_pos h, if_pos h]
    unfold turnL
    rw [gt_listN h]
    exact (turn_same hd).symm
  · rw [if_neg h, if_neg h]
    refine rturnTo_none _ fun q hq e => ?_
    have := hk ((q + 1) % (cirT R k t).length) (Nat.mod_lt _ (by omega))
    omega
theorem dL_set {u : List Int} {n i : Nat} {x : Int} (hu : u.length = i) : (dL n u).set i x = dL n (u ++ [x]) := by
  refine list_all (by rw [List.length_set, dL_length]) fun j hj => ?_
  rw [List.getD_eq_getElem?_getD, List.getElem?_set]
  have hl : (u ++ [x]).length = i + 1 := by rw [List.length_append, hu]; rfl
  by_cases e : i = j
  · subst e
    rw [if_pos rfl, dL_length, if_pos hj]
    unfold dF
    rw [hl, if_pos (by omega), gt_snoc (by omega), hu, if_neg (by omega)]
    rfl
  · rw [if_neg e, ← List.getD_eq_getElem?_getD, dL_get hj]
    unfold dF
    rw [hl, hu]
    by_cases h : j < i
    · rw [if_pos h, if_pos (by omega), gt_snoc (by omega), hu, if_pos h]
    · rw [if_neg h, if_neg (by omega)]
theorem dL_all {t : List Int} {n : Nat} (h : t.length = n) : dL n t = t := by
  refine (list_all h fun j hj => ?_).symm
  unfold dF
  rw [if_pos (by omega)]
  rfl
theorem dL_none (n : Nat) : dL n [] = List.replicate n (-1) := by
  refine (list_all (by simp) fun j hj => ?_).symm
  rw [getD_rep hj]
  rfl
theorem own_dF {w : World} {base n c : Nat} {A : Option Addr} {t : List Int} (h : OwnI w base (.slice A n c) (dL n t)) (hn : n ≤ 1000) : IsInts w A n (dF t) :=
  ((h.ints (by rw [dL_length]; omega)).2).congr fun i hi => dL_get hi
set_option maxRecDepth 100000 in
theorem rGive_bad (k cap : Nat) (A : Option Addr) (R : Nat → Row) (w : World) (hl : ∀ i, i < k → (R i).n ≤ 1000) (hp : IsTab w A k R) (h : tabB k R = false) :
    Gives Try.prog 41 #[.slice A k cap] w (.tuple #[.slice none 0 0, .int .i64 70]) := by
  have VA := Lib.hid fun (V : World) (hb : Below w.heap.size w V) => h ▸ rvalid_any k cap A R V hl (hp.below hb)
  clear hp h hl
  go_enter Try.func41, Try.ntmps41
  go_wp2_with (go_at_call 21; with_reducible refine Calls.mono (Gives.calls (VA.out _ (by repeat (first | exact Below.refl _ _ | (with_reducible assumption) | apply below_later | apply below_alloc | apply below_drew | apply below_drewN)))) ?_; rintro e w1 ⟨rfl, z, rfl⟩)
  go_ret2
  exact ⟨rfl, later_of (by repeat (first | exact Below.refl _ _ | (with_reducible assumption) | apply below_later | apply below_alloc | apply below_drew | apply below_drewN))⟩
/-- What the inner loop keeps. -/
def RelE (R : Nat → Row) (k n : Nat) (w : World) (u : List Int) (d : Nat) (x : Value) (V : World) : Prop :=
  ∃ t S cS, Stl R k d t u ∧ t.length = u.length ∧ x = .slice S n cS ∧ Below w.heap.size w V ∧ OwnI V w.heap.size x (dL n t)
set_option maxRecDepth 100000 in
set_option maxHeartbeats 12800000 in
theorem rGive_ok (k cap n : Nat) (A : Option Addr) (R : Nat → Row) (gl : Nat → List Int) (w : World) (W : Vals k n R) (hp : IsTab w A k R) (h0 : gl 0 = []) (h1 : ∀ j, j ≤ n → (gl j).length = j) (h2 : ∀ j, j < n → Step R k (gl j) (gl (j + 1))) :
    Calls Try.prog 41 #[.slice A k cap] w (PostIE w (gl n) 0) := by
  have hk6 := W.k6
  have hk1 := W.k1
  have hn12 := W.n12
  have VA := Lib.hid fun (V : World) (hb : Below w.heap.size w V) => valsT W ▸ rvalid_any k cap A R V (fun i hi => by rw [W.len i hi]; omega) (hp.below hb)
  obtain ⟨ba, off, rfl⟩ := hp.addr W.k1
  have HD := Lib.hid fun (V : World) (hb : Below w.heap.size w V) => tab_head0 (hp.below hb) W
  have CI : Hid (∀ (t : List Int) (S : Option Addr) (cS : Nat) (V : World), t.length ≤ n → Below w.heap.size w V → IsInts V S n (dF t) → Calls Try.prog 37 #[.slice (some ⟨ba, off, none⟩) k cap, .slice S n cS] V fun e w' => ∃ A c, e = .returned (.slice A (cirT R k t).length c) ∧ (∃ x : Later V, w' = x.val) ∧ IsInts w' A (cirT R k t).length (zl (cirT R k t))) := fun t S cS V hm hb hi => by
    have h3 := rCircle_any k cap n n cS (some ⟨ba, off, none⟩) S R (dF t) V (Nat.le_refl _) W (hp.below hb) hi
    rw [env_dF hm] at h3
    exact h3
  have TU : Hid (∀ (t : List Int) (S C : Option Addr) (cS cC : Nat) (V : World), t.length ≤ n → cirT R k t ≠ [] → IsInts V S n (dF t) → IsInts V C (cirT R k t).length (zl (cirT R k t)) → GivesI 39 #[.slice S n cS, .slice C (cirT R k t).length cC] V (dL n (turnL R k t))) := fun t S C cS cC V hm hne hi hc => by
    have U := cirT_up hne
    have h3 := U.len
    obtain ⟨h4, h5⟩ := turn_needs W hm U.cir
    have h6 := rTurn_any n cS (cirT R k t).length cC S C (dF t) _ V (by omega) (by omega) h5 (by omega) hi hc
    have e : listN (fun j => rturnTo (zl (cirT R k t)) (cirT R k t).length (dF t j) (cirT R k t).length) n = dL n (turnL R k t) := by
      unfold dL
      congr 1
      funext j
      exact dF_turn hne j
    rw [e] at h6
    exact h6
  have UN : Hid (∀ (t : List Int) (S : Option Addr) (cS r : Nat) (V : World), t.length ≤ n → Below w.heap.size w V → IsInts V S n (dF t) → Free (envT R (gt t) t.length) k r → Gives Try.prog 65 #[.slice (some ⟨ba, off, none⟩) k cap, .slice S n cS] V (.int .i64 (r : Nat))) := fun t S cS r V hm hb hi hf => by
    rw [← env_dF hm] at hf
    exact rfree_any k cap n n cS r _ S R (dF t) V (Nat.le_refl _) W (hp.below hb) hi hf
  have H1 := Lib.hid h1
  have H2 := Lib.hid h2
  have DE := Lib.hid (dL_all (h1 n (Nat.le_refl _)))
  have D0 : Hid (dL n (gl 0) = List.replicate n (-1)) := by show _ = _; rw [h0]; exact dL_none n
  have DLL := Lib.hid (dL_length n)
  have MK : ∀ w', (Instr.makeSlice 23 (.int .i64 (n : Int)) (.int .i64 (n : Int))).run Try.prog w' = .ok (.slice (some ⟨w'.heap.size, 0, none⟩) n n) (w'.alloc (.cells (madeCells #[Value.int .i64 0] n) 3)) := fun w' => make_ints w' n (by omega)
  clear hp W h1 h2 h0
  go_enter Try.func41, Try.ntmps41
  go_wp2_with ((go_at_call 21; with_reducible refine Calls.mono (Gives.calls (VA.out _ (by repeat (first | exact Below.refl _ _ | (with_reducible assumption) | apply below_later | apply below_alloc | apply below_drew | apply below_drewN)))) ?_; rintro e w1 ⟨rfl, z, rfl⟩); obtain ⟨B0, la0, ca0, _⟩ := HD.out z.val z.ok)
  clear la0 ca0
  have HM0 := Lib.hid (made_own z.val n z.val.heap.size (Nat.le_refl _) (by omega))
  have HB1 : Hid (Below w.heap.size w (z.val.alloc (.cells (madeCells #[Value.int .i64 0] n) 3))) := below_alloc z.ok
  obtain ⟨go, hgo⟩ : ∃ go, z.val.heap.size = go := ⟨_, rfl⟩
  have HG : Hid (w.heap.size ≤ go) := Nat.le_trans z.size (Nat.le_of_eq hgo)
  have hm := HM0.out
  rw [hgo] at hm ⊢
  have HM : Hid (OwnI (z.val.alloc (.cells (madeCells #[Value.int .i64 0] n) 3)) w.heap.size (.slice (some ⟨go, 0, none⟩) n n) (List.replicate n 0)) := hm.mono HG.out
  clear MK hm HM0 hgo
  generalize z.val.alloc (.cells (madeCells #[Value.int .i64 0] n) 3) = Z at *
  go_loopw [5] (fun u wr => ∃ (i : Nat) (l : List Int), u = .int .i64 (i : Nat) ∧ i ≤ n ∧ l.length = n ∧ Below w.heap.size w wr ∧ OwnI wr w.heap.size (.slice (some ⟨go, 0, none⟩) n n) l ∧ ∀ j, j < i → l.getD j 0 = -1) (fun u _ => n - (intOf u).toNat)
  case atStart => exact ⟨0, _, rfl, by omega, by simp, HB1.out, HM.out, by omega⟩
  case round =>
    obtain ⟨i, l, rfl, hi, hl, hbl, ho, hall⟩ := hrel
    clear HM HB1
    have HL := Lib.hid hl
    have HBL := Lib.hid hbl
    have HO := Lib.hid ho
    have HALL := Lib.hid hall
    clear hl hbl ho hall
    by_cases hlt : i < n
    · obtain ⟨o3, o4⟩ := HO.out.cell HL.out hlt
      have o5 := (own_lt HO.out go rfl).2
      have o6 := o4 i
      clear o4
      go_wp2
      go_roundw
      case rel => exact ⟨i + 1, l.set i (-1), by go_num, by omega, by rw [List.length_set]; exact HL.out, HBL.out.setCell (p := ⟨go, i, none⟩) HG.out _, HO.out.set HL.out i (-1), fun j hj => by
        rw [getD_setI (by rw [HL.out]; exact hlt)]
        split
        · rfl
        · exact HALL.out j (by omega)⟩
      case measure => simp [intOf]; omega
    · obtain rfl : i = n := by omega
      have HO1 : Hid (OwnI wr w.heap.size (.slice (some ⟨go, 0, none⟩) i i) (dL i (gl 0))) := by
        have e := all_reps HL.out HALL.out
        show OwnI _ _ _ _
        rw [D0.out, ← e]
        exact HO.out
      clear HO HALL
      go_wp2
      go_loopw [4, 6] (fun v u wr => ∃ (j : Nat) (S : Option Addr) (cS : Nat), u = .int .i64 (j : Nat) ∧ j ≤ i ∧ v = .slice S i cS ∧ Below w.heap.size w wr ∧ OwnI wr w.heap.size v (dL i (gl j))) (fun _ u _ => i - (intOf u).toNat)
      case atStart => exact ⟨0, _, _, rfl, by omega, rfl, HBL.out, HO1.out⟩
      case round =>
        obtain ⟨j, S, cS, rfl, hj, rfl, hbl2, ho2⟩ := hrel
        clear HO1 HBL
        have HBL := Lib.hid hbl2
        have HO := Lib.hid ho2
        clear hbl2 ho2
        by_cases hlt2 : j < i
        · obtain ⟨d, u, r, hstl, hul, hue, hfree, hnx⟩ := H2.out j hlt2
          have hgl := H1.out j (by omega)
          have HNX := Lib.hid hnx
          have HUL : Hid (u.length = j) := hul.trans hgl
          have HFR := Lib.hid hfree
          have REL0 : Hid (RelE R k i w u d (.slice S i cS) wr) := ⟨gl j, S, cS, hstl, hul.symm, rfl, HBL.out, HO.out⟩
          clear hstl hul hue hfree hnx hgl
          have hg : decide ((j : Int) < (i : Int)) = true := by simp; omega
          go_wp2_with fail
          generalize Value.slice S i cS = x0 at *
          go_loopw [4] (fun x wq => ∃ d, RelE R k i w u d x wq) (fun x wq => minD fun d => RelE R k i w u d x wq)
          case atStart => exact ⟨d, REL0.out⟩
          case round =>
            have hmin := minD_ok hrel
            obtain ⟨D, hD⟩ : ∃ D, (minD fun d => RelE R k i w u d u4 wr) = D := ⟨_, rfl⟩
            rw [hD] at hmin
            have HD9 := Lib.hid hD
            clear hrel hD
            obtain ⟨t, S2, cS2, hst, htl, rfl, hb2, ho2⟩ := hmin
            have HTL : Hid (t.length = j) := htl.trans HUL.out
            have HB2 := Lib.hid hb2
            have HO2 := Lib.hid ho2
            have HI2 := Lib.hid (own_dF ho2 (by omega))
            have CI1 := Lib.hid (CI.out t S2 cS2 wr (by rw [HTL.out]; omega) hb2 HI2.out)
            clear hb2 ho2 htl
            by_cases hne : cirT R k t = []
            · obtain rfl := stl_none hst hne
              have UN1 : Hid (∀ V, Below w.heap.size w V → IsInts V S2 i (dF t) → Gives Try.prog 65 #[.slice (some ⟨ba, off, none⟩) k cap, .slice S2 i cS2] V (.int .i64 (r : Nat))) := fun V h1 h2 => UN.out t S2 cS2 r V (by rw [HTL.out]; omega) h1 h2 HFR.out
              rw [hne] at CI1
              have e0 : Hid (([] : List Nat).length = 0) := rfl
              obtain ⟨g2, hS2⟩ : ∃ g2, S2 = some ⟨g2, 0, none⟩ := by
                obtain ⟨g2, _, e, _⟩ := HO2.out.form (DLL.out t) (by omega)
                simp only [Value.slice.injEq] at e
                exact ⟨g2, e.1⟩
              subst hS2
              have OC : Hid (∀ V, Below wr.heap.size wr V → V.frozen? ⟨g2, j, none⟩ = false ∧ (∃ x, V.cell? ⟨g2, j, none⟩ = some x) ∧ g2 < V.heap.size ∧ OwnI V w.heap.size (.slice (some ⟨g2, 0, none⟩) i cS2) (dL i t) ∧ Below w.heap.size w V) := fun V h => by
                have h3 := HO2.out.later ⟨V, h⟩
                obtain ⟨o3, o4⟩ := h3.cell (DLL.out t) hlt2
                exact ⟨o4 j, ⟨_, o3⟩, (own_lt h3 g2 rfl).2, h3, below_more HB2.out h⟩
              have G2 : Hid (w.heap.size ≤ g2) := (own_lt HO2.out g2 rfl).1
              clear hst hne
              go_wp2_with (first
                | (go_at_call 37; with_reducible refine Calls.mono CI1.out ?_; rintro e w1 ⟨O, cO, rfl, ⟨z2, rfl⟩, ho⟩; rw [e0.out]; clear ho)
                | ((go_at_call 65; with_reducible refine Calls.mono (Gives.calls (UN1.out _ (below_more HB2.out (by repeat (first | exact Below.refl _ _ | (with_reducible assumption) | apply below_later | apply below_alloc | apply below_drew | apply below_drewN))) (HI2.out.below (by repeat (first | exact Below.refl _ _ | (with_reducible assumption) | apply below_later | apply below_alloc | apply below_drew | apply below_drewN))))) ?_; rintro e w1 ⟨rfl, z3, rfl⟩); obtain ⟨p1, ⟨p2, p3⟩, p4, p5, p6⟩ := OC.out z3.val (by repeat (first | exact Below.refl _ _ | (with_reducible assumption) | apply below_later | apply below_alloc | apply below_drew | apply below_drewN)); have P5 := Lib.hid p5; have P6 := Lib.hid p6; clear p5 p6))
              have HO7 : Hid (OwnI (z3.val.setCell ⟨g2, j, none⟩ (.int .i64 (r : Nat))) w.heap.size (.slice (some ⟨g2, 0, none⟩) i cS2) (dL i (gl (j + 1)))) := by
                show OwnI _ _ _ _
                rw [HNX.out, ← dL_set HTL.out]
                exact P5.out.set (DLL.out t) j _
              first
                | (refine ⟨⟨j + 1, _, _, by go_num, by omega, rfl, P6.out.setCell (p := ⟨g2, j, none⟩) G2.out _, HO7.out⟩, ?_⟩; simp [intOf]; omega)
                | (go_roundw
                   case rel => exact ⟨j + 1, _, _, by go_num, by omega, rfl, P6.out.setCell (p := ⟨g2, j, none⟩) G2.out _, HO7.out⟩
                   case measure => simp [intOf]; omega)
            · obtain ⟨d', hd', hst'⟩ := stl_some hst hne
              have HST2 := Lib.hid hst'
              have HDD := Lib.hid hd'
              have HL2 : Hid ((turnL R k t).length = j) := (turnL_length R k t).trans HTL.out
              have TU1 := Lib.hid fun (C : Option Addr) (cC : Nat) (V : World) (h1 : IsInts V S2 i (dF t)) h2 => TU.out t S2 C cS2 cC V (by rw [HTL.out]; omega) hne h1 h2
              have hlc : 0 < (cirT R k t).length := by
                have := (cirT_up hne).two
                omega
              clear hst hst' hd' hne
              generalize cirT R k t = lc at *
              generalize turnL R k t = t2 at *
              generalize zl lc = fz at *
              generalize lc.length = ln at *
              have hgl : decide ((ln : Int) = 0) = false := by simp; omega
              have hgl2 : ((ln : Int) == 0) = false := by simp; omega
              have hgl3 : decide (ln = 0) = false := by simp; omega
              go_wp2_with (first
                | (go_at_call 37; with_reducible refine Calls.mono CI1.out ?_; rintro e w1 ⟨C, cC, rfl, ⟨z2, rfl⟩, ho⟩; have IC := Lib.hid ho; clear ho)
                | (go_at_call 39; with_reducible refine Calls.mono (GivesI.calls (TU1.out _ _ _ (HI2.out.later z2) IC.out)) ?_; rintro e w1 ⟨v3, rfl, z4, rfl, ho⟩; obtain ⟨S3, cS3, rfl⟩ := ho.shape_n (DLL.out t2); have HO3 := Lib.hid (ho.mono (Nat.le_trans HB2.out.size z2.size)); clear ho))
              have HR9 : Hid (RelE R k i w u d' (.slice S3 i cS3) z4.val) :=
                ⟨t2, S3, cS3, HST2.out, by rw [HUL.out, HL2.out], rfl, below_more HB2.out (below_more z2.ok z4.ok), HO3.out⟩
              have HM : Hid (minD (fun d => RelE R k i w u d (.slice S3 i cS3) z4.val) < D) := by
                show _ < _
                have h1 := minD_le (P := fun d => RelE R k i w u d (.slice S3 i cS3) z4.val) HR9.out
                have h2 := HDD.out
                omega
              first
                | (refine ⟨⟨_, HR9.out⟩, ?_⟩; rw [HD9.out]; exact HM.out)
                | (go_roundw
                   case rel => exact ⟨_, HR9.out⟩
                   case measure => rw [HD9.out]; exact HM.out)
        · obtain rfl : j = i := by omega
          go_wp2
          go_ret2
          have HO9 : Hid (OwnI wr w.heap.size (.slice S j cS) (gl j)) := by
            show OwnI _ _ _ _
            rw [← DE.out]
            exact HO.out
          exact ⟨_, rfl, ⟨_, HBL.out⟩, rfl, HO9.out⟩
end Go.Proofs.Ytjmjafpjfhgfdaa
