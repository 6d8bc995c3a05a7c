/- The document's IsWork: walked. -/
import Derived.Test.YtjokpangacahgaaTRHours
namespace Go.Proofs.Ytjokpangacahgaa
open Go.RowKit

theorem rcnt_mono (f : Nat → Int) (c : Nat) {a b : Nat} (h : a ≤ b) : rcnt f c a ≤ rcnt f c b := cntN_mono _ h
theorem cW_mono (R : Nat → Row) (c : Nat) {a b : Nat} (h : a ≤ b) : cW R c a ≤ cW R c b := by
  induction b with
  | zero => obtain rfl : a = 0 := by omega
            exact Nat.le_refl _
  | succ b ih =>
    by_cases e : a = b + 1
    · subst e; exact Nat.le_refl _
    · rw [cW_succ]; have := ih (by omega); omega
theorem isW_over {g : Nat → Nat} {n m c j q : Nat} {h : Int} {R : Nat → Row} (hc : c < n) (hj : j < m) (hq : q ≤ (R j).n) (ho : g c < cW R c j + rcnt (R j).f c q) : isW g n h m R = false := by
  have h1 := cW_mono R c (show j + 1 ≤ m by omega)
  rw [cW_succ] at h1
  have h2 := rcnt_mono (R j).f c hq
  unfold isW
  rw [allB_false (n := n) (p := fun c => decide (g c = cW R c m)) hc (by simp; omega), Bool.and_false, Bool.and_false]
set_option maxRecDepth 100000 in
theorem rIsWork_bad (n cap m cw : Nat) (A B : Option Addr) (f : Nat → Int) (h : Int) (w : World) (hn : n ≤ 9223372036854775807) (hp : IsInts w A n f) (he : jobE n f h ≠ 0) :
    Gives Try.prog 46 #[.slice A n cap, .int .i64 h, .slice B m cw] w (.tuple #[.bool false, .int .i64 (jobE n f h)]) := by
  have CH := Lib.hid fun (V : World) (hb : Below w.heap.size w V) => rAsked_any n cap A f h V hn (hp.below hb)
  generalize jobE n f h = E at *
  have e1 : (E != 0) = true := by simpa using he
  clear hp he
  go_enter Try.func46, Try.ntmps46
  go_wp2_with (go_at_call 68; with_reducible refine Calls.mono (Gives.calls (CH.out _ (by repeat (first | exact Below.refl _ _ | (with_reducible assumption) | apply below_later | apply below_alloc | apply below_drew | apply below_drewN)))) ?_; rintro e w1 ⟨rfl, z, rfl⟩)
  go_ret2
  exact ⟨rfl, later_of (by repeat (first | exact Below.refl _ _ | (with_reducible assumption) | apply below_later | apply below_alloc | apply below_drew | apply below_drewN))⟩
set_option maxRecDepth 100000 in
set_option maxHeartbeats 12800000 in
theorem rIsWork_ok (n cap h m cw : Nat) (A B : Option Addr) (g : Nat → Nat) (R : Nat → Row) (w : World) (hp : IsInts w A n fun i => ((g i : Nat) : Int)) (hq : IsTab w B m R) (hr : ∀ i, i < m → (R i).n ≤ 3000) (he : jobE n (fun i => ((g i : Nat) : Int)) h = 0) :
    Gives Try.prog 46 #[.slice A n cap, .int .i64 h, .slice B m cw] w (.tuple #[.bool (isW g n h m R), .int .i64 0]) := by
  obtain ⟨hj, h1, h10⟩ := jobE_ok he
  obtain ⟨⟨n1, n10⟩, hv⟩ := okJob_iff.1 hj
  have hgb : ∀ i, i < n → g i ≤ 100 := fun i hi => by have := (hv i hi).2; omega
  have CH := Lib.hid fun (V : World) (hb : Below w.heap.size w V) => he ▸ rAsked_any n cap A _ h V (by omega) (hp.below hb)
  have HE : Hid (isW g n h m R = (decide (m ≤ 2000) && (allB m (fun i => hourB h n (R i)) && allB n fun c => decide (g c = cW R c m)))) := rfl
  have hms := hq.small
  by_cases hm : m ≤ 2000
  · have hd : decide ((m : Int) > 2000) = false := by simp; omega
    have hd' : decide ((2000 : Int) < (m : Int)) = false := by simp; omega
    have HW : Hid (isW g n h m R = (allB m (fun i => hourB h n (R i)) && allB n fun c => decide (g c = cW R c m))) := by show _ = _; rw [HE.out, decide_eq_true hm]; rfl
    have HF : Hid (∀ i, i < m → hourB h n (R i) = false → isW g n h m R = false) := fun i hi e => by rw [HW.out, allB_false (p := fun i => hourB h n (R i)) hi e]; rfl
    have HT : Hid ((∀ i, i < m → hourB h n (R i) = true) → isW g n h m R = allB n fun c => decide (g c = cW R c m)) := fun e => by rw [HW.out, allB_true (p := fun i => hourB h n (R i)) e]; rfl
    have HOV := Lib.hid fun (c j q : Nat) (hc : c < n) (hj : j < m) (hq : q ≤ (R j).n) (ho : g c < cW R c j + rcnt (R j).f c q) => isW_over (h := (h : Int)) hc hj hq ho
    obtain ⟨ba, oa, hA, qa⟩ := hp.at_ (by omega)
    subst hA
    obtain ⟨i0, hi0, hz0, hz1, hz2⟩ := info_int
    have OWN0 : Hid (∀ U : World, OwnI (U.alloc (.cells #[] 3)) U.heap.size (.slice (some ⟨U.heap.size, 0, none⟩) 0 0) []) := fun U => World.ownsRow_made U #[] 0 (Nat.le_refl _) (by unfold maxLen; omega) rfl
    have NEW0 : Hid (∀ U, Below w.heap.size w U → ∀ (j : Nat) (v : Value), (cellsI ((List.range n).map fun i => ((g i : Nat) : Int)))[j]? = some v → U.cell? ((⟨ba, oa, none⟩ : Addr).add j) = some v) := fun U h => ints_news (show Ints U ba oa n (fun i => ((g i : Nat) : Int)) from qa.later ⟨U, h⟩)
    have BT := Lib.hid fun (x : Nat) (V : World) => rfrom_any 1 x h V
    have BX0 := Lib.hid fun (x : Int) (V : World) => rfrom_any 0 x ((n : Int) - 1) V
    have HQ := Lib.hid hq
    have HR := Lib.hid hr
    have HG := Lib.hid hgb
    have CS := Lib.hid fun c j => cW_succ R c j
    have C0 : Hid (∀ c, cW R c 0 = 0) := fun _ => rfl
    obtain ⟨nm, hnm⟩ : ∃ nm : Int, (n : Int) - 1 = nm := ⟨_, rfl⟩
    have hwn : IntKind.i64.wrap ((n : Int) - 1) = nm := by rw [hnm]; exact IntWalk.i64_in _ ⟨by omega, by omega⟩
    rw [hnm] at BX0
    have HNM := Lib.hid hnm
    generalize isW g n h m R = res at *
    generalize hcw : cW R = cw' at *
    have HCW := Lib.hid hcw
    clear hp hq hr he hj hv hgb HE HW hcw qa hnm
    go_enter Try.func46, Try.ntmps46
    go_wp2_with (first
      | (go_at_call 68; with_reducible refine Calls.mono (Gives.calls (CH.out _ (by repeat (first | exact Below.refl _ _ | (with_reducible assumption) | apply below_later | apply below_alloc | apply below_drew | apply below_drewN)))) ?_; rintro e w1 ⟨rfl, z, rfl⟩)
      | (at_builtin; refine wpList_append_own _ rfl _ _ 48 rfl z.val.heap.size 3 i0 (.int .i64 0) 1 8 Try.underlying48 hi0 hz0 hz1 hz2 rfl (by decide) _ _ _ rfl (OWN0.out z.val) ⟨ba, oa, none⟩ n cap (cellsI ((List.range n).map fun i => ((g i : Nat) : Int))) rfl ?c1 (NEW0.out _ (by repeat (first | exact Below.refl _ _ | (with_reducible assumption) | apply below_later | apply below_alloc | apply below_drew | apply below_drewN))) (cellsI_one _) ?c3 ?c4 ?c5 ?_))
    case c1 => rw [cellsI_length]; simp
    case c3 => simp only [maxLen, List.length_nil]; omega
    case c4 => simp only [List.length_nil]; omega
    case c5 => simp only [World.size_alloc]; omega
    intro v1 w1 hown1 hg1 _
    have hb1 : Below z.val.heap.size z.val w1 := below_own (w1 := z.val.alloc (.cells #[] 3)) (by repeat (first | exact Below.refl _ _ | (with_reducible assumption) | apply below_later | apply below_alloc | apply below_drew | apply below_drewN)) (OWN0.out z.val) (Nat.le_refl _) hg1
    have ho1 : OwnI w1 w.heap.size v1 ((List.range n).map fun i => ((g i : Nat) : Int)) := by
      refine OwnI.mono (base := z.val.heap.size) ?_ z.ok.size
      unfold OwnI
      rw [List.length_map, List.length_range]
      exact hown1
    obtain ⟨go, cgo, rfl, hgo1, hgo2, hgo3⟩ := ho1.form (n := n) (by simp) (by omega)
    have HO1 := Lib.hid ho1
    have HGO := Lib.hid hgo1
    have HBZ : Hid (Below w.heap.size w w1) := below_more (by repeat (first | exact Below.refl _ _ | (with_reducible assumption) | apply below_later | apply below_alloc | apply below_drew | apply below_drewN)) hb1
    clear hown1 hg1 hb1 ho1 OWN0 NEW0 CH hgo1 hgo2 hgo3
    go_wp2_with fail
    go_loopw [10] (fun u wr => ∃ (j : Nat) (l : List Int), u = .int .i64 (j : Nat) ∧ j ≤ m ∧ l.length = n ∧ (∀ i, i < j → hourB h n (R i) = true) ∧ Below w.heap.size w wr ∧ OwnI wr w.heap.size (.slice (some ⟨go, 0, none⟩) n cgo) l ∧ ∀ c, c < n → l.getD c 0 = ((g c : Nat) : Int) - ((cw' c j : Nat) : Int) ∧ cw' c j ≤ g c) (fun u _ => m - (intOf u).toNat)
    case atStart => exact ⟨0, _, rfl, by omega, by simp, by omega, HBZ.out, HO1.out, fun c hc => by rw [C0.out]; simp [List.getD_eq_getElem?_getD, hc]⟩
    case round =>
      obtain ⟨j, l, rfl, hj, hl, hall, hbl, ho, hcs⟩ := hrel
      generalize wr = W1 at *
      have HL := Lib.hid hl
      have HALL := Lib.hid hall
      have HBL := Lib.hid hbl
      have HO := Lib.hid ho
      have HCS := Lib.hid hcs
      clear hl hall ho hcs HO1
      by_cases hlt : j < m
      · obtain ⟨bt, ot, hB, lt, ct, hI⟩ := tab_row (HQ.out.below hbl) hlt
        subst hB
        have BTj := Lib.hid fun V => BT.out (R j).n V
        have hrn := HR.out j hlt
        have HFj := Lib.hid (HF.out j hlt)
        have HHB : Hid (hourB h n (R j) = (inI 1 (R j).n h && ascB (R j).n (R j).f n)) := rfl
        have HAF : Hid (∀ k, k < (R j).n → ascQ (R j).f n k = false → ascB (R j).n (R j).f n = false) := fun k hk e => allB_false (p := ascQ (R j).f n) hk e
        have HAT : Hid ((∀ k, k < (R j).n → ascQ (R j).f n k = true) → ascB (R j).n (R j).f n = true) := fun e => allB_true e
        have HQE : Hid (∀ k, ascQ (R j).f n k = (inI 0 ((R j).f k) ((n : Int) - 1) && !(decide (0 < k) && decide ((R j).f k ≤ (R j).f (k - 1))))) := fun k => rfl
        have HTj : Hid (hourB h n (R j) = true → ∀ i, i < j + 1 → hourB h n (R i) = true) := fun e => all_step (p := fun i => hourB h n (R i)) HALL.out e
        have CSj : Hid (∀ c, cw' c (j + 1) = cw' c j + rcnt (R j).f c (R j).n) := fun c => CS.out c j
        have HOVj : Hid (∀ c q, c < n → q ≤ (R j).n → g c < cw' c j + rcnt (R j).f c q → res = false) := fun c q hc hq ho => HOV.out c j q hc hlt hq ho
        have RS := Lib.hid fun c q => rcnt_succ (R j).f c q
        have R0 : Hid (∀ c, rcnt (R j).f c 0 = 0) := fun _ => rfl
        have HCT : Hid (∀ V, Below w.heap.size w V → V.cell? ⟨bt, ot + j, none⟩ = some (.slice (R j).a (R j).n (R j).c) ∧ bt < V.heap.size) := fun V hV => by
          obtain ⟨b3, o3, e3, l3, c3, _⟩ := tab_row (HQ.out.below hV) hlt
          simp only [Option.some.injEq, Addr.mk.injEq, and_true] at e3
          obtain ⟨rfl, rfl⟩ := e3
          exact ⟨c3, l3⟩
        have HIR : Hid (IsInts w (R j).a (R j).n (R j).f) := (HQ.out.row j hlt).1
        clear hI hbl
        generalize hourB h n (R j) = hb at *
        generalize ascB (R j).n (R j).f n = r2 at *
        generalize ascQ (R j).f n = aq at *
        generalize rcnt (R j).f = rc at *
        generalize R j = rj at *
        generalize inI 1 rj.n h = r1 at *
        cases r1
        · have HE : Hid (res = false) := HFj.out (by rw [HHB.out]; rfl)
          go_wp2_with (go_at_call 52; with_reducible refine Calls.mono (Gives.calls (BTj.out _)) ?_; rintro e w1 ⟨rfl, y1, rfl⟩)
          go_ret2
          exact ⟨by rw [HE.out]; rfl, later_of (below_more HBL.out (by repeat (first | exact Below.refl _ _ | (with_reducible assumption) | apply below_later | apply below_alloc | apply below_drew | apply below_drewN)))⟩
        have HH2 : Hid (hb = r2) := by show _ = _; rw [HHB.out, Bool.true_and]
        go_wp2_with (go_at_call 52; with_reducible refine Calls.mono (Gives.calls (BTj.out _)) ?_; rintro e w1 ⟨rfl, y1, rfl⟩)
        have HB2 : Hid (Below W1.heap.size W1 y1.val) := by show Below _ _ _; repeat (first | exact Below.refl _ _ | (with_reducible assumption) | apply below_later | apply below_alloc | apply below_drew | apply below_drewN)
        have HBV : Hid (Below w.heap.size w y1.val) := below_more HBL.out HB2.out
        have HO2 := Lib.hid (HO.out.later ⟨y1.val, HB2.out⟩)
        generalize y1.val = W2 at *
        go_loopw [11] (fun u wr => ∃ (k : Nat) (l2 : List Int), u = .int .i64 (k : Nat) ∧ k ≤ rj.n ∧ l2.length = n ∧ (∀ p, p < k → aq p = true) ∧ Below w.heap.size w wr ∧ OwnI wr w.heap.size (.slice (some ⟨go, 0, none⟩) n cgo) l2 ∧ ∀ c, c < n → l2.getD c 0 = ((g c : Nat) : Int) - ((cw' c j + rc c k : Nat) : Int) ∧ cw' c j + rc c k ≤ g c) (fun u _ => rj.n - (intOf u).toNat)
        case atStart => exact ⟨0, l, rfl, by omega, HL.out, by omega, HBV.out, HO2.out, fun c hc => by rw [R0.out, Nat.add_zero]; exact HCS.out c hc⟩
        case round =>
          obtain ⟨k, l2, rfl, hk, hl2, haq, hbl2, ho2, hcs2⟩ := hrel
          generalize wr = W3 at *
          have HL2 := Lib.hid hl2
          have HAQ := Lib.hid haq
          have HBL2 := Lib.hid hbl2
          have HO3 := Lib.hid ho2
          have HCS2 := Lib.hid hcs2
          obtain ⟨ct2, lt2⟩ := HCT.out W3 hbl2
          clear hl2 haq ho2 hcs2 HO HO2
          by_cases hk2 : k < rj.n
          · obtain ⟨br, or', hra, qr⟩ := (HIR.out.below hbl2).at_ (by omega)
            have cr := qr.at_ k hk2
            have lr := qr.lt
            have cp : Hid (0 < k → W3.cell? ⟨br, or' + (k - 1), none⟩ = some (.int .i64 (rj.f (k - 1)))) := fun h0 => qr.at_ (k - 1) (by omega)
            have BX := Lib.hid fun V => BX0.out (rj.f k) V
            have HQk := Lib.hid (HQE.out k)
            rw [HNM.out] at HQk
            have HFF : Hid (aq k = false → res = false) := fun e => HFj.out (by rw [HH2.out]; exact HAF.out k hk2 e)
            have HRI : Hid (inI 0 (rj.f k) nm = true → 0 ≤ rj.f k ∧ rj.f k < n) := fun e => by have e1 := inI_iff.1 e; have e2 := HNM.out; omega
            have hkn : rj.n ≤ 3000 := hrn
            rw [hra] at ct2
            clear qr hbl2 hra
            generalize inI 0 (rj.f k) nm = r3 at *
            cases r3
            · have HE : Hid (res = false) := HFF.out (by rw [HQk.out]; rfl)
              clear HO3
              go_wp2_with fail
              refine wp_region_later (by kernel_rfl) (by kernel_rfl) ?_
              repeat (go_big_quiet_step ((first | (go_at_call 52; (with_reducible refine Later.call _ (BX.out _))))))
              refine wpQuiet_nil ?_
              intro y
              go_wp2_with fail
              go_ret2
              exact ⟨by rw [HE.out]; rfl, later_of (below_more HBL2.out (by repeat (first | exact Below.refl _ _ | (with_reducible assumption) | apply below_later | apply below_alloc | apply below_drew | apply below_drewN)))⟩
            obtain ⟨c0, c1⟩ := HRI.out rfl
            obtain ⟨c, hc, hcn⟩ := cast_nat c0 c1
            obtain ⟨o3, o4⟩ := HO3.out.cell HL2.out hcn
            have o5 := (own_lt HO3.out go rfl).2
            have o6 := o4 c
            obtain ⟨hv, hle⟩ := HCS2.out c hcn
            rw [hv] at o3
            have b1 := HG.out c hcn
            have HRC : Hid (rc c (k + 1) = rc c k + 1) := by show _ = _; rw [RS.out, if_pos hc]
            have HOV3 : Hid (cw' c j + rc c k = g c → res = false) := fun e => HOVj.out c (k + 1) hcn (by omega) (by rw [HRC.out]; omega)
            have HSET : Hid (cw' c j + rc c k ≠ g c → ∀ d, d < n → (l2.set c (((g c : Nat) : Int) - ((cw' c j + rc c k : Nat) : Int) - 1)).getD d 0 = ((g d : Nat) : Int) - ((cw' d j + rc d (k + 1) : Nat) : Int) ∧ cw' d j + rc d (k + 1) ≤ g d) := fun hne d hd => by
              have h5 := HCS2.out d hd
              rw [getD_setL (by rw [HL2.out]; exact hcn)]
              by_cases e : d = c
              · subst e
                rw [if_pos rfl, HRC.out]
                omega
              · rw [if_neg e, RS.out, if_neg (by rw [hc]; omega), h5.1]
                omega
            rw [hc] at cr BX HQk
            clear o4 c0 c1 HRI
            generalize cw' c j + rc c k = tot at *
            generalize g c = gc at *
            obtain ⟨v8, hv8⟩ : ∃ v8 : Int, (gc : Int) - (tot : Int) = v8 := ⟨_, rfl⟩
            rw [hv8] at o3 HSET
            obtain ⟨v9, hv9⟩ : ∃ v9 : Int, v8 - 1 = v9 := ⟨_, rfl⟩
            have hw9 : IntKind.i64.wrap (v8 - 1) = v9 := by rw [hv9]; exact IntWalk.i64_in _ ⟨by omega, by omega⟩
            rw [hv9] at HSET
            clear hv hv9
            by_cases h0 : k = 0
            · subst h0
              have g6 : decide (((0 : Nat) : Int) > 0) = false := by decide
              rw [Nat.add_zero] at cr
              have HQT : Hid (∀ p, p < 0 + 1 → aq p = true) := all_step HAQ.out (by rw [HQk.out]; rfl)
              clear cp
              by_cases hz : v8 = 0
              · have g9 : (v8 == 0) = true := by simp [hz]
                have HE : Hid (res = false) := HOV3.out (by omega)
                clear hv8 hz
                go_wp2_with fail
                refine wp_region_later (by kernel_rfl) (by kernel_rfl) ?_
                repeat (go_big_quiet_step ((first | (go_at_call 52; (with_reducible refine Later.call _ (BX.out _))))))
                refine wpQuiet_nil ?_
                intro y
                go_wp2_with fail
                go_ret2
                exact ⟨by rw [HE.out]; rfl, later_of (below_more HBL2.out (by repeat (first | exact Below.refl _ _ | (with_reducible assumption) | apply below_later | apply below_alloc | apply below_drew | apply below_drewN)))⟩
              · have g9 : (v8 == 0) = false := by simpa using hz
                have HSET := Lib.hid (HSET.out (by omega))
                have HNQ := HQT
                clear hv8 hz
                go_wp2_with fail
                refine wp_region_later (by kernel_rfl) (by kernel_rfl) ?_
                repeat (go_big_quiet_step ((first | (go_at_call 52; (with_reducible refine Later.call _ (BX.out _))))))
                refine wpQuiet_nil ?_
                intro y
                have p1 := (y.cell _ _ o5).trans o3
                have p2 := (y.frozen _ c o5).trans o6
                have p3 := y.lt _ o5
                have p4 := (y.cell _ _ lt2).trans ct2
                have p5 := y.lt _ lt2
                have p6 := (y.cell _ _ lr).trans cr
                have p7 := y.lt _ lr
                have HO4 := Lib.hid (HO3.out.later y)
                have HBL4 : Hid (Below w.heap.size w y.val) := below_more HBL2.out y.ok
                clear o3 o5 o6 ct2 lt2 cr lr
                generalize y.val = Y at *
                go_wp2_with fail
                all_goals
                  first
                    | (refine ⟨⟨1, l2.set c v9, by go_num, by omega, by rw [List.length_set]; exact HL2.out, HNQ.out, HBL4.out.setCell (p := ⟨go, c, none⟩) HGO.out _, HO4.out.set HL2.out c _, HSET.out⟩, ?_⟩; simp [intOf]; omega)
                    | (go_roundw
                       case rel => exact ⟨1, l2.set c v9, by go_num, by omega, by rw [List.length_set]; exact HL2.out, HNQ.out, HBL4.out.setCell (p := ⟨go, c, none⟩) HGO.out _, HO4.out.set HL2.out c _, HSET.out⟩
                       case measure => simp [intOf]; omega)
            · have g6 : decide ((k : Int) > 0) = true := by simp; omega
              have g7 : decide ((0 : Int) < (k : Int)) = true := by simp; omega
              have g7' : decide (0 < k) = true := by simp; omega
              have cp1 := cp.out (by omega)
              have hsub : (k : Int) - 1 = ((k - 1 : Nat) : Int) := by omega
              have hwk : IntKind.i64.wrap ((k : Int) - 1) = ((k - 1 : Nat) : Int) := by rw [hsub]; exact i64_nat (by omega)
              have hk1n : k - 1 < rj.n := by omega
              generalize rj.f (k - 1) = fp at *
              clear cp hsub
              by_cases hlp : (c : Int) ≤ fp
              · have g8 : decide ((c : Int) ≤ fp) = true := by simp; omega
                have HE : Hid (res = false) := HFF.out (by rw [HQk.out, g8, g7']; rfl)
                clear HO3 o3 o5 o6
                go_wp2_with fail
                refine wp_region_later (by kernel_rfl) (by kernel_rfl) ?_
                repeat (go_big_quiet_step ((first | (go_at_call 52; (with_reducible refine Later.call _ (BX.out _))))))
                refine wpQuiet_nil ?_
                intro y
                go_wp2_with fail
                go_ret2
                exact ⟨by rw [HE.out]; rfl, later_of (below_more HBL2.out (by repeat (first | exact Below.refl _ _ | (with_reducible assumption) | apply below_later | apply below_alloc | apply below_drew | apply below_drewN)))⟩
              · have g8 : decide ((c : Int) ≤ fp) = false := by simp; omega
                have HQT : Hid (∀ p, p < k + 1 → aq p = true) := all_step HAQ.out (by rw [HQk.out, g8, g7']; rfl)
                by_cases hz : v8 = 0
                · have g9 : (v8 == 0) = true := by simp [hz]
                  have HE : Hid (res = false) := HOV3.out (by omega)
                  clear hv8 hz
                  go_wp2_with fail
                  refine wp_region_later (by kernel_rfl) (by kernel_rfl) ?_
                  repeat (go_big_quiet_step ((first | (go_at_call 52; (with_reducible refine Later.call _ (BX.out _))))))
                  refine wpQuiet_nil ?_
                  intro y
                  go_wp2_with fail
                  go_ret2
                  exact ⟨by rw [HE.out]; rfl, later_of (below_more HBL2.out (by repeat (first | exact Below.refl _ _ | (with_reducible assumption) | apply below_later | apply below_alloc | apply below_drew | apply below_drewN)))⟩
                · have g9 : (v8 == 0) = false := by simpa using hz
                  have HSET := Lib.hid (HSET.out (by omega))
                  have HNQ := HQT
                  clear hv8 hz
                  go_wp2_with fail
                  refine wp_region_later (by kernel_rfl) (by kernel_rfl) ?_
                  repeat (go_big_quiet_step ((first | (go_at_call 52; (with_reducible refine Later.call _ (BX.out _))))))
                  refine wpQuiet_nil ?_
                  intro y
                  have p1 := (y.cell _ _ o5).trans o3
                  have p2 := (y.frozen _ c o5).trans o6
                  have p3 := y.lt _ o5
                  have p4 := (y.cell _ _ lt2).trans ct2
                  have p5 := y.lt _ lt2
                  have p6 := (y.cell _ _ lr).trans cr
                  have p7 := y.lt _ lr
                  have HO4 := Lib.hid (HO3.out.later y)
                  have HBL4 : Hid (Below w.heap.size w y.val) := below_more HBL2.out y.ok
                  clear o3 o5 o6 ct2 lt2 cr lr
                  generalize y.val = Y at *
                  go_wp2_with fail
                  all_goals
                    first
                      | (refine ⟨⟨k + 1, l2.set c v9, by go_num, by omega, by rw [List.length_set]; exact HL2.out, HNQ.out, HBL4.out.setCell (p := ⟨go, c, none⟩) HGO.out _, HO4.out.set HL2.out c _, HSET.out⟩, ?_⟩; simp [intOf]; omega)
                      | (go_roundw
                         case rel => exact ⟨k + 1, l2.set c v9, by go_num, by omega, by rw [List.length_set]; exact HL2.out, HNQ.out, HBL4.out.setCell (p := ⟨go, c, none⟩) HGO.out _, HO4.out.set HL2.out c _, HSET.out⟩
                         case measure => simp [intOf]; omega)
          · obtain rfl : k = rj.n := by omega
            have HEND : Hid (∀ c, c < n → l2.getD c 0 = ((g c : Nat) : Int) - ((cw' c (j + 1) : Nat) : Int) ∧ cw' c (j + 1) ≤ g c) := fun c hc => by rw [CSj.out]; exact HCS2.out c hc
            have HN := Lib.hid (HTj.out (by rw [HH2.out]; exact HAT.out HAQ.out))
            go_wp2_with fail
            all_goals
              first
                | (refine ⟨⟨j + 1, l2, by go_num, by omega, HL2.out, HN.out, HBL2.out, HO3.out, HEND.out⟩, ?_⟩; simp [intOf]; omega)
                | (go_roundw
                   case rel => exact ⟨j + 1, l2, by go_num, by omega, HL2.out, HN.out, HBL2.out, HO3.out, HEND.out⟩
                   case measure => simp [intOf]; omega)
      · obtain rfl : j = m := by omega
        have HRES := Lib.hid (HT.out HALL.out)
        go_wp2_with fail
        go_loopw [12] (fun u wr => ∃ i : Nat, u = .int .i64 (i : Nat) ∧ i ≤ n ∧ (∀ c, c < i → g c = cw' c j) ∧ ∃ x : Later W1, wr = x.val) (fun u _ => n - (intOf u).toNat)
        case atStart => exact ⟨0, rfl, by omega, fun c hc => by omega, later_of (by repeat (first | exact Below.refl _ _ | (with_reducible assumption) | apply below_later | apply below_alloc | apply below_drew | apply below_drewN))⟩
        case round =>
          obtain ⟨i, rfl, hi, hal, x, rfl⟩ := hrel
          have HAL := Lib.hid hal
          clear hal
          by_cases hin : i < n
          · obtain ⟨ci, _⟩ := (HO.out.later x).cell HL.out hin
            have li := (own_lt (HO.out.later x) go rfl).2
            obtain ⟨e1, e2⟩ := HCS.out i hin
            rw [e1] at ci
            have b1 := HG.out i hin
            have HFE : Hid (g i ≠ cw' i j → res = false) := fun e => by rw [HRES.out, ← HCW.out, allB_false (p := fun c => decide (g c = cW R c j)) hin (by rw [HCW.out]; simpa using e)]
            have HNE : Hid (g i = cw' i j → ∀ c, c < i + 1 → g c = cw' c j) := fun e c hc => by
              by_cases e5 : c = i
              · subst e5; exact e
              · exact HAL.out c (by omega)
            generalize cw' i j = tot at *
            generalize g i = gi at *
            obtain ⟨v8, hv8⟩ : ∃ v8 : Int, (gi : Int) - (tot : Int) = v8 := ⟨_, rfl⟩
            rw [hv8] at ci
            by_cases hz : v8 > 0
            · have g1 : decide (v8 > 0) = true := by simp; omega
              have g2 : decide (0 < v8) = true := by simp; omega
              have HE : Hid (res = false) := HFE.out (by omega)
              go_wp2_with fail
              go_ret2
              exact ⟨by rw [HE.out]; rfl, later_of (below_more HBL.out x.ok)⟩
            · have g1 : decide (v8 > 0) = false := by simp; omega
              have g2 : decide (0 < v8) = false := by simp; omega
              have HN := Lib.hid (HNE.out (by omega))
              go_wp2_with fail
              all_goals
                first
                  | (refine ⟨⟨i + 1, by go_num, by omega, HN.out, later_of (by repeat (first | exact Below.refl _ _ | (with_reducible assumption) | apply below_later | apply below_alloc | apply below_drew | apply below_drewN))⟩, ?_⟩; simp [intOf]; omega)
                  | (go_roundw
                     case rel => exact ⟨i + 1, by go_num, by omega, HN.out, later_of (by repeat (first | exact Below.refl _ _ | (with_reducible assumption) | apply below_later | apply below_alloc | apply below_drew | apply below_drewN))⟩
                     case measure => simp [intOf]; omega)
          · obtain rfl : i = n := by omega
            have HE : Hid (res = true) := by show _ = _; rw [HRES.out, ← HCW.out]; exact allB_true fun c hc => by rw [HCW.out]; simpa using HAL.out c hc
            go_wp2_with fail
            go_ret2
            exact ⟨by rw [HE.out]; rfl, later_of (below_more HBL.out x.ok)⟩
  · have hd : decide ((m : Int) > 2000) = true := by simp; omega
    have hd' : decide ((2000 : Int) < (m : Int)) = true := by simp; omega
    have HR : Hid (isW g n h m R = false) := by show _ = _; rw [HE.out, decide_eq_false hm]; rfl
    generalize isW g n h m R = res at *
    clear hp hq hr he hj hv hgb HE
    go_enter Try.func46, Try.ntmps46
    go_wp2_with (go_at_call 68; with_reducible refine Calls.mono (Gives.calls (CH.out _ (by repeat (first | exact Below.refl _ _ | (with_reducible assumption) | apply below_later | apply below_alloc | apply below_drew | apply below_drewN)))) ?_; rintro e w1 ⟨rfl, z, rfl⟩)
    go_ret2
    exact ⟨by rw [HR.out]; rfl, later_of (by repeat (first | exact Below.refl _ _ | (with_reducible assumption) | apply below_later | apply below_alloc | apply below_drew | apply below_drewN))⟩
end Go.Proofs.Ytjokpangacahgaa
