/- TopThatch's laid: walked, at a work plan of the least hours. -/
import Derived.Test.YtcjahpbbkdkbpaaTWorkLaw
namespace Go.Proofs.Ytcjahpbbkdkbpaa
open Go.RowKit

set_option maxRecDepth 100000 in
set_option maxHeartbeats 12800000 in
theorem laid_any (n cap hd m cw : Nat) (A B : Option Addr) (g : Nat → Nat) (R : Nat → Row) (w : World) (n1 : 1 ≤ n) (n10 : n ≤ 10) (h1 : 1 ≤ hd) (h10 : hd ≤ 10) (hgb : ∀ i, i < n → g i ≤ 100) (hp : IsInts w A n fun i => ((g i : Nat) : Int)) (hq : IsTab w B m R) (hw : isW g n hd m R = true) (hmh : m = hoursN g n hd) :
    Gives Try.prog 27 #[.slice A n cap, .int .i64 hd, .slice B m cw] w (.bool true) := by
  simp only [isW, Bool.and_eq_true, decide_eq_true_eq] at hw
  obtain ⟨hm, hall, hocc⟩ := hw
  have HRW : Hid (∀ i, i < m → 1 ≤ (R i).n ∧ (R i).n ≤ hd ∧ (∀ k, k < (R i).n → 0 ≤ (R i).f k ∧ (R i).f k < n) ∧ ∀ k, k + 1 < (R i).n → (R i).f k < (R i).f (k + 1)) := fun i hi => by
    obtain ⟨e1, e2, e3, e4⟩ := hourB_facts (allB_iff.1 hall i hi)
    exact ⟨e1, by omega, e3, e4⟩
  have HOC : Hid (∀ c, c < n → g c = cW R c m) := fun c hc => by simpa using allB_iff.1 hocc c hc
  have HCB : Hid (∀ c j k, j < m → k ≤ (R j).n → cW R c j + rcnt (R j).f c k ≤ cW R c m) := fun c j k hj hk => by
    have e1 := cW_mono R c (show j + 1 ≤ m by omega)
    rw [cW_succ] at e1
    have e2 := rcnt_mono (R j).f c hk
    omega
  have CS := Lib.hid fun c j => cW_succ R c j
  have C0 : Hid (∀ c, cW R c 0 = 0) := fun _ => rfl
  have HH : Hid (m = max (topF g n) (upN (addN g n) hd)) := hmh
  have TS := Lib.hid fun k => topF_succ g k
  have AS := Lib.hid fun k => addN_succ g k
  have T0 : Hid (topF g 0 = 0 ∧ addN g 0 = 0) := ⟨rfl, rfl⟩
  have TB := Lib.hid fun k (hk : k ≤ n) => topF_le (g := g) (k := k) (b := 100) fun i hi => hgb i (by omega)
  have AB := Lib.hid fun k (hk : k ≤ n) => addN_le (g := g) (k := k) (b := 100) fun i hi => hgb i (by omega)
  have HU : Hid (upN (addN g n) hd = (addN g n + hd - 1) / hd) := rfl
  have HP := Lib.hid hp
  have HQ := Lib.hid hq
  have HG := Lib.hid hgb
  have MK : ∀ w', (Instr.makeSlice 44 (.int .i64 (n : Int)) (.int .i64 (n : Int))).run Try.prog w' = .ok (.slice (some ⟨w'.heap.size, 0, none⟩) n n) (w'.alloc (.cells (madeCells #[Value.int .i64 0] n) 3)) := fun w' => make_ints w' n (by omega)
  have HM := Lib.hid (made_own w n w.heap.size (Nat.le_refl _) (by omega))
  have HB1 : Hid (Below w.heap.size w (w.alloc (.cells (madeCells #[Value.int .i64 0] n) 3))) := (Below.refl _ _).alloc (Nat.le_refl _) _
  generalize upN (addN g n) hd = up at *
  generalize topF g = TT at *
  generalize addN g = SS at *
  generalize cW R = cw' at *
  clear hp hq hgb hmh hall hocc
  go_enter Try.func27, Try.ntmps27
  go_wp2_with fail
  obtain ⟨go, hgo⟩ : ∃ go, w.heap.size = go := ⟨_, rfl⟩
  have HGO : Hid (w.heap.size ≤ go) := by show _ ≤ _; omega
  have HM2 := HM.out
  have HB2 := HB1.out
  rw [hgo] at HM2
  generalize w.alloc (.cells (madeCells #[Value.int .i64 0] n) 3) = W0 at *
  have HO0 : Hid (OwnI W0 w.heap.size (.slice (some ⟨go, 0, none⟩) n n) (List.replicate n 0)) := by show OwnI _ _ _ _; rw [hgo]; exact HM2
  have HBW := Lib.hid HB2
  clear HM HB1 HM2 HB2
  rw [hgo]
  go_loopw [10] (fun u wr => ∃ (j : Nat) (l : List Int), u = .int .i64 (j : Nat) ∧ j ≤ m ∧ l.length = n ∧ Below w.heap.size w wr ∧ OwnI wr w.heap.size (.slice (some ⟨go, 0, none⟩) n n) l ∧ ∀ c, c < n → l.getD c 0 = ((cw' c j : Nat) : Int)) (fun u _ => m - (intOf u).toNat)
  case atStart => exact ⟨0, _, rfl, by omega, by simp, HBW.out, HO0.out, fun c hc => by rw [C0.out]; simp [List.getD_eq_getElem?_getD, List.getElem?_replicate, hc]⟩
  case round =>
    obtain ⟨j, l, rfl, hj, hl, hbl, ho, hcs⟩ := hrel
    generalize wr = W1 at *
    have HL := Lib.hid hl
    have HBL := Lib.hid hbl
    have HO := Lib.hid ho
    have HCS := Lib.hid hcs
    clear hl ho hcs HO0
    by_cases hlt : j < m
    · obtain ⟨bt, ot, hB, lt, ct, _⟩ := tab_row (HQ.out.below hbl) hlt
      subst hB
      obtain ⟨r1, r2, r3, r4⟩ := HRW.out j hlt
      have HR3 := Lib.hid r3
      have HR4 := Lib.hid r4
      have HCBj := Lib.hid fun c k hk => HCB.out c j k hlt hk
      have CSj := Lib.hid fun c => CS.out c j
      have RS := Lib.hid fun c q => rcnt_succ (R j).f c q
      have R0 : Hid (∀ c, rcnt (R j).f c 0 = 0) := fun _ => rfl
      have HCT : Hid (∀ V, Below w.heap.size w V → V.cell? ⟨bt, ot + j, none⟩ = some (.slice (R j).a (R j).n (R j).c) ∧ bt < V.heap.size) := fun V hV => by
        obtain ⟨b3, o3, e3, l3, c3, _⟩ := tab_row (HQ.out.below hV) hlt
        simp only [Option.some.injEq, Addr.mk.injEq, and_true] at e3
        obtain ⟨rfl, rfl⟩ := e3
        exact ⟨c3, l3⟩
      have HIR : Hid (IsInts w (R j).a (R j).n (R j).f) := (HQ.out.row j hlt).1
      clear hbl r3 r4
      generalize rcnt (R j).f = rc at *
      generalize R j = rj at *
      have g1 : decide ((rj.n : Int) < 1) = false := by simp; omega
      have g2 : decide ((rj.n : Int) > (hd : Int)) = false := by simp; omega
      have g3 : decide ((hd : Int) < (rj.n : Int)) = false := by simp; omega
      have g4 : decide (hd < rj.n) = false := by simp; omega
      go_wp2_with fail
      go_loopw [11] (fun u wr => ∃ (k : Nat) (l2 : List Int), u = .int .i64 (k : Nat) ∧ k ≤ rj.n ∧ l2.length = n ∧ Below w.heap.size w wr ∧ OwnI wr w.heap.size (.slice (some ⟨go, 0, none⟩) n n) l2 ∧ ∀ c, c < n → l2.getD c 0 = ((cw' c j + rc c k : Nat) : Int)) (fun u _ => rj.n - (intOf u).toNat)
      case atStart => exact ⟨0, l, rfl, by omega, HL.out, HBL.out, HO.out, fun c hc => by rw [R0.out, Nat.add_zero]; exact HCS.out c hc⟩
      case round =>
        obtain ⟨k, l2, rfl, hk, hl2, hbl2, ho2, hcs2⟩ := hrel
        generalize wr = W3 at *
        have HL2 := Lib.hid hl2
        have HBL2 := Lib.hid hbl2
        have HO3 := Lib.hid ho2
        have HCS2 := Lib.hid hcs2
        obtain ⟨ct2, lt2⟩ := HCT.out W3 hbl2
        clear hl2 ho2 hcs2 HO lt ct
        by_cases hk2 : k < rj.n
        · obtain ⟨br, or', hra, qr⟩ := (HIR.out.below hbl2).at_ (by omega)
          have cr := qr.at_ k hk2
          have lr := qr.lt
          have cp : Hid (0 < k → W3.cell? ⟨br, or' + (k - 1), none⟩ = some (.int .i64 (rj.f (k - 1)))) := fun h0 => qr.at_ (k - 1) (by omega)
          obtain ⟨c0, c1⟩ := HR3.out k hk2
          have hasc : Hid (0 < k → rj.f (k - 1) < rj.f k) := fun h0 => by
            have e := HR4.out (k - 1) (by omega)
            rw [show k - 1 + 1 = k by omega] at e
            exact e
          rw [hra] at ct2
          obtain ⟨c, hc, hcn⟩ := cast_nat c0 c1
          obtain ⟨o3, o4⟩ := HO3.out.cell HL2.out hcn
          have o5 := (own_lt HO3.out go rfl).2
          have o6 := o4 c
          rw [HCS2.out c hcn] at o3
          have HRC : Hid (rc c (k + 1) = rc c k + 1) := by show _ = _; rw [RS.out, if_pos hc]
          have b3 := HCBj.out c (k + 1) (by omega)
          rw [HRC.out] at b3
          have b4 := HOC.out c hcn
          have b5 := HG.out c hcn
          have HSET : Hid (∀ d, d < n → (l2.set c (((cw' c j + rc c k + 1 : Nat) : Nat) : Int)).getD d 0 = ((cw' d j + rc d (k + 1) : Nat) : Int)) := fun d hd2 => by
            rw [getD_setL (by rw [HL2.out]; exact hcn)]
            by_cases e : d = c
            · subst e
              rw [if_pos rfl, HRC.out, Nat.add_assoc]
            · rw [if_neg e, RS.out, if_neg (by rw [hc]; omega), HCS2.out d hd2]
              rfl
          have b6 : cw' c j + rc c k + 1 ≤ 100 := by omega
          have e2 : decide ((c : Int) < 0) = false := by simp
          have e3 : decide ((c : Int) ≥ (n : Int)) = false := by simp; omega
          have e4 : decide ((n : Int) ≤ (c : Int)) = false := by simp; omega
          have e5 : decide (n ≤ c) = false := by simp; omega
          rw [hc] at cr hasc
          clear o4 c0 c1 qr hbl2 hra hc
          generalize cw' c j + rc c k = tot at *
          have hw9 : IntKind.i64.wrap ((tot : Int) + 1) = ((tot + 1 : Nat) : Int) := by rw [← Int.natCast_succ]; exact i64_nat (by omega)
          by_cases h0 : k = 0
          · subst h0
            have g6 : decide (((0 : Nat) : Int) > 0) = false := by decide
            rw [Nat.add_zero] at cr
            clear cp hasc
            go_wp2_with fail
            all_goals
              first
                | (refine ⟨⟨1, l2.set c ((tot + 1 : Nat) : Int), by go_num, by omega, by rw [List.length_set]; exact HL2.out, HBL2.out.setCell (p := ⟨go, c, none⟩) HGO.out _, HO3.out.set HL2.out c _, HSET.out⟩, ?_⟩; simp [intOf]; omega)
                | (go_roundw
                   case rel => exact ⟨1, l2.set c ((tot + 1 : Nat) : Int), by go_num, by omega, by rw [List.length_set]; exact HL2.out, HBL2.out.setCell (p := ⟨go, c, none⟩) HGO.out _, HO3.out.set HL2.out c _, HSET.out⟩
                   case measure => simp [intOf]; omega)
          · have g6 : decide ((k : Int) > 0) = true := by simp; omega
            have g7 : decide ((0 : Int) < (k : Int)) = true := by simp; omega
            have g7' : decide (0 < k) = true := by simp; omega
            have cp1 := cp.out (by omega)
            have ha1 := hasc.out (by omega)
            have hsub : (k : Int) - 1 = ((k - 1 : Nat) : Int) := by omega
            have hwk : IntKind.i64.wrap ((k : Int) - 1) = ((k - 1 : Nat) : Int) := by rw [hsub]; exact i64_nat (by omega)
            have hk1n : k - 1 < rj.n := by omega
            generalize rj.f (k - 1) = fp at *
            have g8 : decide ((c : Int) ≤ fp) = false := by simp; omega
            clear cp hasc hsub
            go_wp2_with fail
            all_goals
              first
                | (refine ⟨⟨k + 1, l2.set c ((tot + 1 : Nat) : Int), by go_num, by omega, by rw [List.length_set]; exact HL2.out, HBL2.out.setCell (p := ⟨go, c, none⟩) HGO.out _, HO3.out.set HL2.out c _, HSET.out⟩, ?_⟩; simp [intOf]; omega)
                | (go_roundw
                   case rel => exact ⟨k + 1, l2.set c ((tot + 1 : Nat) : Int), by go_num, by omega, by rw [List.length_set]; exact HL2.out, HBL2.out.setCell (p := ⟨go, c, none⟩) HGO.out _, HO3.out.set HL2.out c _, HSET.out⟩
                   case measure => simp [intOf]; omega)
        · obtain rfl : k = rj.n := by omega
          have HEND : Hid (∀ c, c < n → l2.getD c 0 = ((cw' c (j + 1) : Nat) : Int)) := fun c hc => by rw [CSj.out]; exact HCS2.out c hc
          go_wp2_with fail
          all_goals
            first
              | (refine ⟨⟨j + 1, l2, by go_num, by omega, HL2.out, HBL2.out, HO3.out, HEND.out⟩, ?_⟩; simp [intOf]; omega)
              | (go_roundw
                 case rel => exact ⟨j + 1, l2, by go_num, by omega, HL2.out, HBL2.out, HO3.out, HEND.out⟩
                 case measure => simp [intOf]; omega)
    · obtain rfl : j = m := by omega
      go_wp2_with fail
      go_loopw [8, 9, 13] (fun a b u wr => ∃ i : Nat, a = .int .i64 (SS i : Nat) ∧ b = .int .i64 (TT i : Nat) ∧ u = .int .i64 (i : Nat) ∧ i ≤ n ∧ ∃ x : Later W1, wr = x.val) (fun _ _ u _ => n - (intOf u).toNat)
      case atStart => exact ⟨0, by rw [T0.out.2]; rfl, by rw [T0.out.1]; rfl, rfl, by omega, later_of (by repeat (first | exact Below.refl _ _ | (with_reducible assumption) | apply below_later | apply below_alloc | apply below_drew | apply below_drewN))⟩
      case round =>
        obtain ⟨i, rfl, rfl, rfl, hi, x, rfl⟩ := hrel
        have s1 := AB.out i hi
        have s2 := TB.out i hi
        by_cases hin : i < n
        · obtain ⟨ci, _⟩ := (HO.out.later x).cell HL.out hin
          have li := (own_lt (HO.out.later x) go rfl).2
          rw [HCS.out i hin, ← HOC.out i hin] at ci
          obtain ⟨ba, oa, hA, q⟩ := (HP.out.below (below_more HBL.out x.ok)).at_ (by omega)
          subst hA
          have ck := q.at_ i hin
          have lk := q.lt
          have b1 := HG.out i hin
          have HS1 := Lib.hid (AS.out i)
          have HT1 := Lib.hid (TS.out i)
          clear q
          obtain ⟨t1, ht1⟩ : ∃ t1, SS (i + 1) = t1 := ⟨_, rfl⟩
          obtain ⟨t2, ht2⟩ : ∃ t2, TT (i + 1) = t2 := ⟨_, rfl⟩
          have HT1' := Lib.hid ht1
          have HT2' := Lib.hid ht2
          rw [ht1] at HS1
          rw [ht2] at HT1
          clear ht1 ht2
          generalize SS i = s at *
          generalize TT i = t at *
          generalize g i = gi at *
          have gn : ((gi : Int) != (gi : Int)) = false := by simp
          go_wp2_with fail
          refine wp_region_later (by kernel_rfl) (by kernel_rfl) ?_
          repeat (go_big_quiet_step ((fail)))
          refine wpQuiet_nil ?_
          intro y
          go_wp2_with fail
          all_goals
            all_goals
              first
                | (refine ⟨⟨i + 1, by rw [HT1'.out]; congr 1; have := HS1.out; omega, by rw [HT2'.out]; congr 1; have := HT1.out; omega, by go_num, by omega, later_of (by repeat (first | exact Below.refl _ _ | (with_reducible assumption) | apply below_later | apply below_alloc | apply below_drew | apply below_drewN))⟩, ?_⟩; simp [intOf]; omega)
                | (go_roundw
                   case rel => exact ⟨i + 1, by rw [HT1'.out]; congr 1; have := HS1.out; omega, by rw [HT2'.out]; congr 1; have := HT1.out; omega, by go_num, by omega, later_of (by repeat (first | exact Below.refl _ _ | (with_reducible assumption) | apply below_later | apply below_alloc | apply below_drew | apply below_drewN))⟩
                   case measure => simp [intOf]; omega)
        · obtain rfl : i = n := by omega
          have hh1 := HH.out
          have hu1 := HU.out
          generalize TT i = tp at *
          generalize SS i = s at *
          have hq : ((s : Int) + (hd : Int) - 1) / (hd : Int) = ((up : Nat) : Int) := by rw [hu1, show ((s : Int) + (hd : Int) - 1) = ((s + hd - 1 : Nat) : Int) by omega, Int.natCast_ediv]
          go_wp2_with fail
          all_goals
            go_ret
            exact ⟨ret_bool (by simp; omega), later_of (below_more HBL.out x.ok)⟩
end Go.Proofs.Ytcjahpbbkdkbpaa
