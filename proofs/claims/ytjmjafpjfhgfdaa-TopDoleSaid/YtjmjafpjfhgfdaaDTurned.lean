/- dole's turned and the document's Turn: walked. -/
import Derived.Test.YtjmjafpjfhgfdaaDCirc1
namespace Go.Proofs.Ytjmjafpjfhgfdaa
open Go.RowKit

theorem turnTo_succ (c : Nat → Int) (m : Nat) (x : Int) (p : Nat) : turnTo c m x (p + 1) = if x = c p then (if p = 0 then c (m - 1) else c (p - 1)) else turnTo c m x p := rfl
theorem rturnTo_succ (c : Nat → Int) (m : Nat) (x : Int) (p : Nat) : rturnTo c m x (p + 1) = if x = c ((p + 1) % m) then c p else rturnTo c m x p := rfl
set_option maxRecDepth 100000 in
set_option maxHeartbeats 3200000 in
theorem turned_any (m cS l cL : Nat) (T : Value) (S L : Option Addr) (s c : Nat → Int) (w : World) (hm0 : 0 < m) (hm : m ≤ 1000) (hl0 : 0 < l) (hl : l ≤ 1000) (hs : IsInts w S m s) (hc : IsInts w L l c) :
    GivesI 62 #[.agg #[T, .slice S m cS], .slice L l cL] w (listN (fun j => turnTo c l (s j) l) m) := by
  have hb : Below w.heap.size w (w.alloc (.cells #[T, .slice S m cS] 62)) := (Below.refl _ _).alloc (Nat.le_refl _) _
  obtain ⟨c0, c1, l0⟩ := box2 w T (.slice S m cS) 62
  have HB := Lib.hid hb
  obtain ⟨bs, os', rfl, ps⟩ := hs.at_ hm0
  have CL := Lib.hid fun (V : World) (h : Below w.heap.size w V) => clone_ints bs os' m cS s V hm0 hm (ps.later ⟨V, h⟩)
  have HS := Lib.hid (hs.below hb)
  have HC := Lib.hid (hc.below hb)
  have TS := Lib.hid fun x p => turnTo_succ c l x p
  have T0 : Hid (∀ x, turnTo c l x 0 = x) := fun _ => rfl
  have LE : Hid (∀ lo : List Int, lo.length = m → (∀ j, j < m → lo.getD j 0 = turnTo c l (s j) l) → lo = listN (fun j => turnTo c l (s j) l) m) := fun lo h1 h2 => list_all h1 h2
  have L0 : Hid (((List.range m).map s).length = m ∧ ∀ j, j < m → ((List.range m).map s).getD j 0 = s j) := ⟨by simp, fun j hj => listN_get hj⟩
  generalize listN (fun j => turnTo c l (s j) l) m = res at *
  generalize turnTo c l = TT at *
  clear hs hc hb ps
  have w1 : IntKind.i64.wrap ((l : Int) - 1) = ((l - 1 : Nat) : Int) := by
    rw [show ((l : Int) - 1) = ((l - 1 : Nat) : Int) by omega]
    exact IntWalk.i64_in _ ⟨by omega, by omega⟩
  obtain ⟨b9, o9, hL, p9⟩ := HC.out.at_ hl0
  subst hL
  have lb9 := p9.lt
  have CC := Lib.hid p9.at_
  clear p9
  go_enter Try.func62, Try.ntmps62
  go_wp2_with fail
  obtain ⟨b8, hb8⟩ : ∃ b8, w.heap.size = b8 := ⟨_, rfl⟩
  have HB8 := Lib.hid hb8
  rw [hb8] at c0 c1 l0 ⊢
  clear hb8
  generalize w.alloc (.cells #[T, .slice (some ⟨bs, os', none⟩) m cS] 62) = Z at *
  have CLZ : Hid (∀ V, Below Z.heap.size Z V → GivesI 78 #[.slice (some ⟨bs, os', none⟩) m cS] V ((List.range m).map s)) := fun V h => CL.out V (below_more HB.out h)
  have CCV : Hid (∀ V, Below Z.heap.size Z V → V.cell? ⟨b9, o9 + (l - 1), none⟩ = some (.int .i64 (c (l - 1))) ∧ b9 < V.heap.size) := fun V h => ⟨(h.cell (p := ⟨b9, _, none⟩) lb9).trans (CC.out _ (by omega)), Nat.lt_of_lt_of_le lb9 h.size⟩
  go_wp2_with (go_at_call 78; with_reducible refine Calls.mono (GivesI.calls (CLZ.out _ (by repeat (first | exact Below.refl _ _ | (with_reducible assumption) | apply below_later | apply below_alloc | apply below_drew | apply below_drewN)))) ?_; rintro e w1 ⟨v, rfl, z, rfl, ho⟩; obtain ⟨go, co, rfl, hgo1, hgo2, _⟩ := ho.form L0.out.1 hm0; have HO := Lib.hid ho; obtain ⟨k1, k2⟩ := CCV.out z.val (by repeat (first | exact Below.refl _ _ | (with_reducible assumption) | apply below_later | apply below_alloc | apply below_drew | apply below_drewN)); clear ho)
  have HBZ : Hid (Below Z.heap.size Z z.val) := z.ok
  have HGO : Hid (Z.heap.size ≤ go) := hgo1
  clear k1 k2 hgo1 hgo2 CL CLZ CCV
  generalize z.val = Y at *
  go_loopw [6, 22] (fun u v wr => ∃ (p : Nat) (lo : List Int), u = .int .i64 (if p = 0 then c (l - 1) else c (p - 1)) ∧ v = .int .i64 (p : Nat) ∧ p ≤ l ∧ lo.length = m ∧ Below Z.heap.size Z wr ∧ OwnI wr Z.heap.size (.slice (some ⟨go, 0, none⟩) m co) lo ∧ ∀ j, j < m → lo.getD j 0 = TT (s j) p) (fun _ v _ => l - (intOf v).toNat)
  case atStart => exact ⟨0, _, rfl, rfl, by omega, L0.out.1, HBZ.out, HO.out, fun j hj => by rw [L0.out.2 j hj, T0.out]⟩
  case round =>
    obtain ⟨p, lo, rfl, rfl, hp, hlo, hbl, ho, hall⟩ := hrel
    clear HO HBZ
    have HLO := Lib.hid hlo
    have HBL := Lib.hid hbl
    have HO := Lib.hid ho
    have HALL := Lib.hid hall
    have d0 := (hbl.cell (p := ⟨b8, 0, none⟩) l0).trans c0
    have d1 := (hbl.cell (p := ⟨b8, 1, none⟩) l0).trans c1
    have d2 := Nat.lt_of_lt_of_le l0 hbl.size
    clear hlo ho hall
    by_cases hlt : p < l
    · have cp := (hbl.cell (p := ⟨b9, o9 + p, none⟩) lb9).trans (CC.out p hlt)
      have lb := Nat.lt_of_lt_of_le lb9 hbl.size
      have TSp := Lib.hid fun x => TS.out x p
      have NX : Hid (c p = if p + 1 = 0 then c (l - 1) else c (p + 1 - 1)) := by show _ = _; rw [if_neg (by omega), show p + 1 - 1 = p by omega]
      clear hbl
      generalize (if p = 0 then c (l - 1) else c (p - 1)) = ah at *
      generalize c p = cp9 at *
      go_wp2_with fail
      go_loopw [29] (fun u wr => ∃ (q : Nat) (lo2 : List Int), u = .int .i64 (q : Nat) ∧ q ≤ m ∧ lo2.length = m ∧ Below Z.heap.size Z wr ∧ OwnI wr Z.heap.size (.slice (some ⟨go, 0, none⟩) m co) lo2 ∧ (∀ j, j < q → lo2.getD j 0 = TT (s j) (p + 1)) ∧ ∀ j, q ≤ j → j < m → lo2.getD j 0 = TT (s j) p) (fun u _ => m - (intOf u).toNat)
      case atStart => exact ⟨0, lo, rfl, by omega, HLO.out, HBL.out, HO.out, by omega, fun j _ hj => HALL.out j hj⟩
      case round =>
        obtain ⟨q, lo2, rfl, hq, hlo2, hbl2, ho2, hdone, hrest⟩ := hrel
        have HLO2 := Lib.hid hlo2
        have HBL2 := Lib.hid hbl2
        have HO2 := Lib.hid ho2
        have HDONE := Lib.hid hdone
        have HREST := Lib.hid hrest
        have HSV := Lib.hid (HS.out.below hbl2)
        clear hlo2 hbl2 ho2 hdone hrest
        by_cases hlt2 : q < m
        · obtain ⟨bq, oq, hSq, pq⟩ := HSV.out.at_ hm0
          simp only [Option.some.injEq, Addr.mk.injEq, and_true] at hSq
          obtain ⟨rfl, rfl⟩ := hSq
          have cq := pq.at_ q hlt2
          have lq := pq.lt
          obtain ⟨o1, o2⟩ := HO2.out.cell HLO2.out hlt2
          have o3 := (own_lt HO2.out go rfl).2
          have o4 := o2 q
          have TSq := Lib.hid (TSp.out (s q))
          have RQ := Lib.hid (HREST.out q (Nat.le_refl _) hlt2)
          clear pq o2
          generalize hsq : s q = sq at *
          have HSQ := Lib.hid hsq
          clear hsq
          by_cases e : sq = cp9
          · have e1 : (sq == cp9) = true := by rw [e]; simp
            have HN : Hid (TT sq (p + 1) = ah) := by show _ = _; rw [TSq.out, if_pos e]
            clear e
            go_wp2_with fail
            first
              | (refine ⟨⟨q + 1, lo2.set q ah, by go_num, by omega, by rw [List.length_set]; exact HLO2.out, HBL2.out.setCell (p := ⟨go, q, none⟩) HGO.out _, HO2.out.set HLO2.out q _, fun j hj => ?_, fun j h1 h2 => ?_⟩, ?_⟩
                 · rw [getD_setI (by rw [HLO2.out]; exact hlt2)]
                   split
                   · rename_i e; rw [e, HSQ.out, HN.out]
                   · exact HDONE.out j (by omega)
                 · rw [getD_setI (by rw [HLO2.out]; exact hlt2), if_neg (by omega)]
                   exact HREST.out j (by omega) h2
                 · simp [intOf]; omega)
              | (go_roundw
                 case rel => exact ⟨q + 1, lo2.set q ah, by go_num, by omega, by rw [List.length_set]; exact HLO2.out, HBL2.out.setCell (p := ⟨go, q, none⟩) HGO.out _, HO2.out.set HLO2.out q _, fun j hj => by
                   rw [getD_setI (by rw [HLO2.out]; exact hlt2)]
                   split
                   · rename_i e; rw [e, HSQ.out, HN.out]
                   · exact HDONE.out j (by omega), fun j h1 h2 => by
                   rw [getD_setI (by rw [HLO2.out]; exact hlt2), if_neg (by omega)]
                   exact HREST.out j (by omega) h2⟩
                 case measure => simp [intOf]; omega)
          · have e1 : (sq == cp9) = false := by simp [e]
            have HN : Hid (TT sq (p + 1) = TT sq p) := by show _ = _; rw [TSq.out, if_neg e]
            clear e
            go_wp2_with fail
            first
              | (refine ⟨⟨q + 1, lo2, by go_num, by omega, HLO2.out, HBL2.out, HO2.out, fun j hj => ?_, fun j h1 h2 => HREST.out j (by omega) h2⟩, ?_⟩
                 · by_cases e : j = q
                   · rw [e, RQ.out, HSQ.out, HN.out]
                   · exact HDONE.out j (by omega)
                 · simp [intOf]; omega)
              | (go_roundw
                 case rel => exact ⟨q + 1, lo2, by go_num, by omega, HLO2.out, HBL2.out, HO2.out, fun j hj => by
                   by_cases e : j = q
                   · rw [e, RQ.out, HSQ.out, HN.out]
                   · exact HDONE.out j (by omega), fun j h1 h2 => HREST.out j (by omega) h2⟩
                 case measure => simp [intOf]; omega)
        · obtain rfl : q = m := by omega
          go_wp2_with fail
          first
            | (refine ⟨⟨p + 1, lo2, by rw [← NX.out], by go_num, by omega, HLO2.out, HBL2.out, HO2.out, HDONE.out⟩, ?_⟩; simp [intOf]; omega)
            | (go_roundw
               case rel => exact ⟨p + 1, lo2, by rw [← NX.out], by go_num, by omega, HLO2.out, HBL2.out, HO2.out, HDONE.out⟩
               case measure => simp [intOf]; omega)
    · obtain rfl : p = l := by omega
      have HF := Lib.hid (LE.out lo HLO.out HALL.out)
      go_wp2_with fail
      go_ret
      exact ⟨_, rfl, ⟨_, below_more HB.out HBL.out⟩, rfl, by
        show OwnI _ _ _ _
        rw [← HF.out]
        unfold OwnI
        rw [HLO.out]
        exact own_row (HO.out.mono HB.out.size) HLO.out⟩
set_option maxRecDepth 100000 in
set_option maxHeartbeats 3200000 in
theorem rTurn_any (m cS l cL : Nat) (S L : Option Addr) (s c : Nat → Int) (w : World) (hm0 : 0 < m) (hm : m ≤ 1000) (hl0 : 0 < l) (hl : l ≤ 1000) (hs : IsInts w S m s) (hc : IsInts w L l c) :
    GivesI 39 #[.slice S m cS, .slice L l cL] w (listN (fun j => rturnTo c l (s j) l) m) := by
  obtain ⟨bs, os', rfl, ps⟩ := hs.at_ hm0
  obtain ⟨b9, o9, rfl, p9⟩ := hc.at_ hl0
  have lbs := ps.lt
  have lb9 := p9.lt
  have SS := Lib.hid ps.at_
  have CC := Lib.hid p9.at_
  have TS := Lib.hid fun x p => rturnTo_succ c l x p
  have T0 : Hid (∀ x, rturnTo c l x 0 = x) := fun _ => rfl
  have LE : Hid (∀ lo : List Int, lo.length = m → (∀ j, j < m → lo.getD j 0 = rturnTo c l (s j) l) → lo = listN (fun j => rturnTo c l (s j) l) m) := fun lo h1 h2 => list_all h1 h2
  have L0 : Hid ((listN s m).length = m ∧ ∀ j, j < m → (listN s m).getD j 0 = s j) := ⟨listN_length _ _, fun j hj => listN_get hj⟩
  generalize listN (fun j => rturnTo c l (s j) l) m = res at *
  generalize rturnTo c l = TT at *
  have HNW := Lib.hid (ints_news (ps.later ⟨w.alloc (.cells #[] 3), by repeat (first | exact Below.refl _ _ | (with_reducible assumption) | apply below_later | apply below_alloc | apply below_drew | apply below_drewN)⟩))
  clear hs hc ps p9
  obtain ⟨i0, hi0, hz0, hz1, hz2⟩ := info_int
  have hown : OwnI (w.alloc (.cells #[] 3)) w.heap.size (.slice (some ⟨w.heap.size, 0, none⟩) 0 0) [] := World.ownsRow_made w #[] 0 (Nat.le_refl _) (by unfold maxLen; omega) rfl
  have HOWN := Lib.hid hown
  clear hown
  go_enter Try.func39, Try.ntmps39
  go_wp2_with (at_builtin; refine wpList_append_own _ rfl _ _ 23 rfl w.heap.size 3 i0 (.int .i64 0) 1 8 Try.underlying23 hi0 hz0 hz1 hz2 rfl (by decide) _ _ _ rfl HOWN.out ⟨bs, os', none⟩ m cS (cellsI ((List.range m).map s)) rfl ?c1 HNW.out (cellsI_one _) ?c3 ?c4 ?c5 ?_)
  case c1 => rw [cellsI_length]; simp
  case c3 => simp only [maxLen]; omega
  case c4 => omega
  intro v' w1 hown2 hg1 _
  have hb1 : Below w.heap.size w w1 := below_own (w1 := w.alloc (.cells #[] 3)) (by repeat (first | exact Below.refl _ _ | (with_reducible assumption) | apply below_later | apply below_alloc | apply below_drew | apply below_drewN)) HOWN.out (Nat.le_refl _) hg1
  have HO0 : Hid (OwnI w1 w.heap.size v' (listN s m)) := by
    show OwnI _ _ _ _
    unfold OwnI
    rw [L0.out.1]
    exact hown2
  obtain ⟨go, co, eG, hgo1, _, _⟩ := HO0.out.form L0.out.1 hm0
  subst eG
  have HB1 := Lib.hid hb1
  have HGO : Hid (w.heap.size ≤ go) := hgo1
  clear hown2 hg1 hb1 hgo1 HOWN HNW
  go_wp2_with fail
  go_loopw [6] (fun v wr => ∃ (i : Nat) (lo : List Int), v = .int .i64 (i : Nat) ∧ i ≤ m ∧ lo.length = m ∧ Below w.heap.size w wr ∧ OwnI wr w.heap.size (.slice (some ⟨go, 0, none⟩) m co) lo ∧ (∀ j, j < i → lo.getD j 0 = TT (s j) l) ∧ ∀ j, i ≤ j → j < m → lo.getD j 0 = s j) (fun v _ => m - (intOf v).toNat)
  case atStart => exact ⟨0, _, rfl, by omega, L0.out.1, HB1.out, HO0.out, by omega, fun j _ hj => L0.out.2 j hj⟩
  case round =>
    obtain ⟨i, lo, rfl, hi, hlo, hbl, ho, hdone, hrest⟩ := hrel
    clear HO0 HB1
    have HLO := Lib.hid hlo
    have HBL := Lib.hid hbl
    have HO := Lib.hid ho
    have HDONE := Lib.hid hdone
    have HREST := Lib.hid hrest
    clear hlo ho hdone hrest hbl
    by_cases hlt : i < m
    · have RI := Lib.hid (HREST.out i (Nat.le_refl _) hlt)
      have SI := Lib.hid (SS.out i hlt)
      have TSi := Lib.hid fun p => TS.out (s i) p
      have T0i := Lib.hid (T0.out (s i))
      generalize hsq : s i = sq at *
      have HSQ := Lib.hid hsq
      clear hsq
      go_wp2_with fail
      go_loopw [7] (fun u wr => ∃ (q : Nat) (lo2 : List Int), u = .int .i64 (q : Nat) ∧ q ≤ l ∧ lo2.length = m ∧ Below w.heap.size w wr ∧ OwnI wr w.heap.size (.slice (some ⟨go, 0, none⟩) m co) lo2 ∧ lo2.getD i 0 = TT sq q ∧ ∀ j, j < m → j ≠ i → lo2.getD j 0 = lo.getD j 0) (fun u _ => l - (intOf u).toNat)
      case atStart => exact ⟨0, lo, rfl, by omega, HLO.out, HBL.out, HO.out, by rw [RI.out, T0i.out], fun j _ _ => rfl⟩
      case round =>
        obtain ⟨q, lo2, rfl, hq, hlo2, hbl2, ho2, hat, hoth⟩ := hrel
        have HLO2 := Lib.hid hlo2
        have HBL2 := Lib.hid hbl2
        have HO2 := Lib.hid ho2
        have HAT := Lib.hid hat
        have HOTH := Lib.hid hoth
        have ci := (hbl2.cell (p := ⟨bs, os' + i, none⟩) lbs).trans SI.out
        have ls := Nat.lt_of_lt_of_le lbs hbl2.size
        have l9 := Nat.lt_of_lt_of_le lb9 hbl2.size
        have CV : Hid (∀ j, j < l → wr.cell? ⟨b9, o9 + j, none⟩ = some (.int .i64 (c j))) := fun j hj => (hbl2.cell (p := ⟨b9, o9 + j, none⟩) lb9).trans (CC.out j hj)
        clear hlo2 hbl2 ho2 hat hoth
        by_cases hlt2 : q < l
        · have hr2 : (q + 1) % l < l := Nat.mod_lt _ (by omega)
          have hmod : ((q : Int) + 1) % (l : Int) = (((q + 1) % l : Nat) : Int) := by simp
          have cr := CV.out _ hr2
          have cq := CV.out q hlt2
          have TSq := Lib.hid (TSi.out q)
          obtain ⟨o1, o2⟩ := HO2.out.cell HLO2.out hlt
          have o3 := (own_lt HO2.out go rfl).2
          have o4 := o2 i
          have OV : Hid (∀ y : Later wr, Below w.heap.size w y.val ∧ OwnI y.val w.heap.size (.slice (some ⟨go, 0, none⟩) m co) lo2 ∧ y.val.cell? ⟨b9, o9 + q, none⟩ = some (.int .i64 (c q)) ∧ b9 < y.val.heap.size ∧ y.val.cell? ⟨go, i, none⟩ = some (.int .i64 (lo2.getD i 0)) ∧ y.val.frozen? ⟨go, i, none⟩ = false ∧ go < y.val.heap.size) := fun y => by
            have h1 := HO2.out.later y
            exact ⟨below_more HBL2.out y.ok, h1, (y.cell _ _ l9).trans cq, y.lt _ l9, (h1.cell HLO2.out hlt).1, (h1.cell HLO2.out hlt).2 i, (own_lt h1 go rfl).2⟩
          clear o1 o2 o3 o4
          generalize hcr : c ((q + 1) % l) = cr9 at *
          have HCR := Lib.hid hcr
          clear hcr
          generalize (q + 1) % l = r at *
          generalize c q = cq9 at *
          by_cases e : sq = cr9
          · have e1 : (sq == cr9) = true := by rw [e]; simp
            have HN : Hid (TT sq (q + 1) = cq9) := by show _ = _; rw [TSq.out]; exact if_pos (by first | exact e | exact e.trans HCR.out.symm)
            clear e
            go_wp2_with fail
            refine wp_region_later (by kernel_rfl) (by kernel_rfl) ?_
            repeat (go_big_quiet_step ((fail)))
            refine wpQuiet_nil ?_
            intro y
            obtain ⟨k1, k2, k3, k4, k5, k6, k7⟩ := OV.out y
            have K1 := Lib.hid k1
            have K2 := Lib.hid k2
            clear k1 k2
            go_wp2_with fail
            first
              | (refine ⟨⟨q + 1, lo2.set i cq9, by go_num, by omega, by rw [List.length_set]; exact HLO2.out, K1.out.setCell (p := ⟨go, i, none⟩) HGO.out _, K2.out.set HLO2.out i _, by rw [getD_setI (by rw [HLO2.out]; exact hlt), if_pos rfl, HN.out], fun j hj hne => by
                  rw [getD_setI (by rw [HLO2.out]; exact hlt), if_neg hne]
                  exact HOTH.out j hj hne⟩, ?_⟩; simp [intOf]; omega)
              | (go_roundw
                 case rel => exact ⟨q + 1, lo2.set i cq9, by go_num, by omega, by rw [List.length_set]; exact HLO2.out, K1.out.setCell (p := ⟨go, i, none⟩) HGO.out _, K2.out.set HLO2.out i _, by rw [getD_setI (by rw [HLO2.out]; exact hlt), if_pos rfl, HN.out], fun j hj hne => by
                   rw [getD_setI (by rw [HLO2.out]; exact hlt), if_neg hne]
                   exact HOTH.out j hj hne⟩
                 case measure => simp [intOf]; omega)
          · have e1 : (sq == cr9) = false := by simp [e]
            have HN : Hid (TT sq (q + 1) = TT sq q) := by show _ = _; rw [TSq.out]; exact if_neg (by first | exact e | exact fun h => e (h.trans HCR.out))
            clear e
            go_wp2_with fail
            refine wp_region_later (by kernel_rfl) (by kernel_rfl) ?_
            repeat (go_big_quiet_step ((fail)))
            refine wpQuiet_nil ?_
            intro y
            obtain ⟨k1, k2, k3, k4, k5, k6, k7⟩ := OV.out y
            have K1 := Lib.hid k1
            have K2 := Lib.hid k2
            clear k1 k2
            go_wp2_with fail
            first
              | (refine ⟨⟨q + 1, lo2, by go_num, by omega, HLO2.out, K1.out, K2.out, by rw [HN.out]; exact HAT.out, HOTH.out⟩, ?_⟩; simp [intOf]; omega)
              | (go_roundw
                 case rel => exact ⟨q + 1, lo2, by go_num, by omega, HLO2.out, K1.out, K2.out, by rw [HN.out]; exact HAT.out, HOTH.out⟩
                 case measure => simp [intOf]; omega)
        · obtain rfl : q = l := by omega
          go_wp2_with fail
          first
            | (refine ⟨⟨i + 1, lo2, by go_num, by omega, HLO2.out, HBL2.out, HO2.out, fun j hj => ?_, fun j h1 h2 => ?_⟩, ?_⟩
               · by_cases e : j = i
                 · rw [e, HSQ.out]; exact HAT.out
                 · rw [HOTH.out j (by omega) e]; exact HDONE.out j (by omega)
               · rw [HOTH.out j h2 (by omega)]; exact HREST.out j (by omega) h2
               · simp [intOf]; omega)
            | (go_roundw
               case rel => exact ⟨i + 1, lo2, by go_num, by omega, HLO2.out, HBL2.out, HO2.out, fun j hj => by
                 by_cases e : j = i
                 · rw [e, HSQ.out]; exact HAT.out
                 · rw [HOTH.out j (by omega) e]; exact HDONE.out j (by omega), fun j h1 h2 => by
                 rw [HOTH.out j h2 (by omega)]; exact HREST.out j (by omega) h2⟩
               case measure => simp [intOf]; omega)
    · obtain rfl : i = m := by omega
      have HF := Lib.hid (LE.out lo HLO.out HDONE.out)
      go_wp2_with fail
      go_ret
      exact ⟨_, rfl, ⟨_, HBL.out⟩, rfl, by
        show OwnI _ _ _ _
        rw [← HF.out]
        unfold OwnI
        rw [HLO.out]
        exact own_row HO.out HLO.out⟩
end Go.Proofs.Ytjmjafpjfhgfdaa
