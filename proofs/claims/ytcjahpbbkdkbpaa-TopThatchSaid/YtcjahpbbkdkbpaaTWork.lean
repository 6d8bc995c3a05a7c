/- thatch's Work: walked. -/
import Derived.Test.YtcjahpbbkdkbpaaTWorkS
import Derived.Test.YtcjahpbbkdkbpaaTOwnL
namespace Go.Proofs.Ytcjahpbbkdkbpaa
open Go.RowKit

theorem Work_bad (n cap : Nat) (A : Option Addr) (f : Nat → Int) (h : Int) (w : World) (hn : n ≤ 9223372036854775807) (hp : IsInts w A n f) (he : jobE n f h ≠ 0) :
    Gives Try.prog 25 #[.slice A n cap, .int .i64 h] w (.tuple #[.slice none 0 0, .int .i64 (jobE n f h)]) := by
  have CH := Lib.hid fun (V : World) (hb : Below w.heap.size w V) => checkJob_any n cap A f h V hn (hp.below hb)
  generalize jobE n f h = E at *
  have e1 : (E != 0) = true := by simpa using he
  clear hp he
  go_enter Try.func25, Try.ntmps25
  go_wp2_with (go_at_call 42; with_reducible refine Calls.mono (Gives.calls (CH.out _ (by repeat (first | exact Below.refl _ _ | (with_reducible assumption) | apply below_later | apply below_alloc | apply below_drew | apply below_drewN)))) ?_; rintro e w1 ⟨rfl, z, rfl⟩)
  go_ret2
  exact ⟨rfl, later_of (by repeat (first | exact Below.refl _ _ | (with_reducible assumption) | apply below_later | apply below_alloc | apply below_drew | apply below_drewN))⟩
/-- What Work hands back. -/
def PostW (w : World) (g : Nat → Nat) (n h : Nat) (e : Ending) (w' : World) : Prop :=
  ∃ v rows, e = .returned (.tuple #[v, .int .i64 0]) ∧ (∃ x : Later w, w' = x.val) ∧ OwnL w' w.heap.size v rows ∧ rows.length = hoursN g n h ∧ (∀ r ∈ rows, HourRow n h r) ∧ ∀ c, c < n → occN rows c = g c
set_option maxRecDepth 100000 in
set_option maxHeartbeats 6400000 in
theorem Work_ok (n cap hd : Nat) (A : Option Addr) (g : Nat → Nat) (w : World) (hp : IsInts w A n fun i => ((g i : Nat) : Int)) (he : jobE n (fun i => ((g i : Nat) : Int)) hd = 0) :
    Calls Try.prog 25 #[.slice A n cap, .int .i64 hd] w (PostW w g n hd) := by
  obtain ⟨hj, h1, h10⟩ := jobE_ok he
  obtain ⟨⟨n1, n10⟩, hv⟩ := okJob_iff.1 hj
  have hgb : ∀ i, i < n → g i ≤ 100 := fun i hi => by have := (hv i hi).2; omega
  have CH := Lib.hid fun (V : World) (hb : Below w.heap.size w V) => he ▸ checkJob_any n cap A _ hd V (by omega) (hp.below hb)
  obtain ⟨i0, hi0, hz0, hz1, hzb2⟩ := info_list
  obtain ⟨ba, oa, hA, qa⟩ := hp.at_ (by omega)
  subst hA
  have CL := Lib.hid fun (V : World) (hb : Below w.heap.size w V) => clone_ints ba oa n cap _ V (by omega) (by omega) (show Ints V ba oa n (fun i => ((g i : Nat) : Int)) from qa.later ⟨V, hb⟩)
  have HG := Lib.hid hgb
  have hH2 : hoursN g n hd ≤ 1100 := by
    unfold hoursN
    have a1 := topF_le (g := g) (b := 100) (k := n) hgb
    have a2 := addN_le (g := g) (b := 100) (k := n) hgb
    have a3 : upN (addN g n) hd ≤ 1100 := (upN_le_iff (by omega)).2 (by have b1 : n * 100 ≤ 1000 := (by omega); have b2 : 1100 * 1 ≤ 1100 * hd := Nat.mul_le_mul_left _ (by omega); omega)
    omega
  have HH2 := Lib.hid hH2
  clear hp he hj hv hgb qa hH2
  go_enter Try.func25, Try.ntmps25
  go_wp2_with (first
    | (go_at_call 42; with_reducible refine Calls.mono (Gives.calls (CH.out _ (by repeat (first | exact Below.refl _ _ | (with_reducible assumption) | apply below_later | apply below_alloc | apply below_drew | apply below_drewN)))) ?_; rintro e w1 ⟨rfl, z, rfl⟩)
    | (go_at_call 43; with_reducible refine Calls.mono (GivesI.calls (CL.out _ (by repeat (first | exact Below.refl _ _ | (with_reducible assumption) | apply below_later | apply below_alloc | apply below_drew | apply below_drewN)))) ?_; rintro e w1 ⟨v, rfl, z2, rfl, ho⟩; obtain ⟨go, cgo, rfl, hgo1, hgo2, hgo3⟩ := ho.form (n := n) (by simp) (by omega); have HO := Lib.hid ho; clear ho))
  have HBZ : Hid (Below w.heap.size w z2.val) := by show Below _ _ _; repeat (first | exact Below.refl _ _ | (with_reducible assumption) | apply below_later | apply below_alloc | apply below_drew | apply below_drewN)
  have HGO : Hid (w.heap.size ≤ go) := Nat.le_trans z.ok.size hgo1
  have HO1 : Hid (OwnI z2.val w.heap.size (.slice (some ⟨go, 0, none⟩) n cgo) ((List.range n).map fun i => ((g i : Nat) : Int))) := HO.out.mono z.ok.size
  have HGO2 := Lib.hid hgo2
  have HWZ : Hid (w.heap.size ≤ z2.val.heap.size) := by have := HGO.out; show _ ≤ _; omega
  clear HO CH CL hgo1 hgo3 hgo2
  generalize z2.val = Z at *
  generalize hzs : Z.heap.size = zs at *
  have HMX := Lib.hid fun (V : World) (l : Nat → Nat) (ll : List Int) (hl : ll.length = n) (he : ∀ c, c < n → ll.getD c 0 = ((l c : Nat) : Int)) (ho : OwnI V w.heap.size (.slice (some ⟨go, 0, none⟩) n cgo) ll) => (ho.ints (by omega)).2.congr he
  have MX := Lib.hid fun (l : Nat → Nat) (hl : ∀ c, c < n → l c ≤ g c) (V : World) (hI : IsInts V (some ⟨go, 0, none⟩) n fun i => ((l i : Nat) : Int)) => max_any n cgo (some ⟨go, 0, none⟩) l V n1 (by omega) (fun i hi => by have a1 := hl i hi; have a2 := HG.out i hi; omega) hI
  have NE := Lib.hid fun (l : Nat → Nat) (hl : ∀ c, c < n → l c ≤ g c) (h0 : 0 < topF l n) (V : World) (hI : IsInts V (some ⟨go, 0, none⟩) n fun i => ((l i : Nat) : Int)) => neediest_any n cgo hd (some ⟨go, 0, none⟩) l V n10 (by omega) (by omega) (fun i hi => by have a1 := hl i hi; have a2 := HG.out i hi; omega) (posL_pos h0) hI
  go_loopw [7] (fun u wr => ∃ (l : Nat → Nat) (rows : List (List Int)) (ll : List Int), ll.length = n ∧ (∀ c, c < n → ll.getD c 0 = ((l c : Nat) : Int)) ∧ Plan g l n hd rows ∧ Below w.heap.size w wr ∧ OwnI wr w.heap.size (.slice (some ⟨go, 0, none⟩) n cgo) ll ∧ OwnL wr zs u rows ∧ zs ≤ wr.heap.size) (fun u _ => 1101 - lenOf u)
  case atStart => exact ⟨g, [], _, by simp, fun c hc => by simp [List.getD_eq_getElem?_getD, hc], Plan.start g n hd, HBZ.out, HO1.out, OwnL.nil _ _, by omega⟩
  case round =>
    obtain ⟨l, rows, ll, hll, hle, hpl, hbl, ho, ht, hz⟩ := hrel
    generalize wr = W1 at *
    obtain ⟨A7, c7, rfl⟩ := ht.shape
    have HPL := Lib.hid hpl
    have HBL := Lib.hid hbl
    have HO := Lib.hid ho
    have HT := Lib.hid ht
    have HI := Lib.hid (HMX.out W1 l ll hll hle ho)
    have HIL := Lib.hid (HO.out.lt)
    have hk := hpl.le.1
    have hh2 := HH2.out
    have MX1 := Lib.hid (MX.out l hpl.le.2)
    have NE1 := Lib.hid (NE.out l hpl.le.2)
    have HLL := Lib.hid hll
    have HLE := Lib.hid hle
    clear hll hle hpl hbl ho ht HO1
    by_cases h0 : 0 < topF l n
    · have hg1 : decide (((topF l n : Nat) : Int) > 0) = true := by simp; omega
      have hg2 : decide ((0 : Int) < ((topF l n : Nat) : Int)) = true := by simp; omega
      have hg3 : decide (0 < topF l n) = true := by simp; omega
      have NE2 := Lib.hid (NE1.out h0)
      go_wp2_with (first
        | (go_at_call 44; with_reducible refine Calls.mono (Gives.calls (MX1.out _ (HI.out.below (by repeat (first | exact Below.refl _ _ | (with_reducible assumption) | apply below_later | apply below_alloc | apply below_drew | apply below_drewN))))) ?_; rintro e w1 ⟨rfl, y1, rfl⟩)
        | (go_at_call 45; with_reducible refine Calls.mono (NE2.out _ (HI.out.below (by repeat (first | exact Below.refl _ _ | (with_reducible assumption) | apply below_later | apply below_alloc | apply below_drew | apply below_drewN)))) ?_; rintro e w3 ⟨v9, r, rfl, hhour, y2, rfl, ho9⟩; have HHOUR := Lib.hid hhour; obtain ⟨gh, ch, rfl, hgh, _, _⟩ := ho9.form rfl (hourL_pos hhour); have HO9 := Lib.hid ho9; clear ho9 hhour))
      have HB2 : Hid (Below W1.heap.size W1 y2.val) := by show Below _ _ _; repeat (first | exact Below.refl _ _ | (with_reducible assumption) | apply below_later | apply below_alloc | apply below_drew | apply below_drewN)
      have HBW2 : Hid (Below w.heap.size w y2.val) := below_more HBL.out HB2.out
      have HO2 := Lib.hid (HO.out.later ⟨y2.val, HB2.out⟩)
      have HT2 := Lib.hid (HT.out.later ⟨y2.val, HB2.out⟩)
      have hz2 : zs ≤ y2.val.heap.size := Nat.le_trans hz HB2.out.size
      have hz1' : zs ≤ gh := Nat.le_trans (Nat.le_trans hz y1.ok.size) hgh
      have HO92 : Hid (OwnI y2.val zs (.slice (some ⟨gh, 0, none⟩) r.length ch) r) := HO9.out.mono (Nat.le_trans hz y1.ok.size)
      clear HO9 HI HO HT
      generalize y2.val = W2 at *
      obtain ⟨e1, e2, e3, e4, _⟩ : HourL l n hd r := HHOUR.out
      have HIN := Lib.hid e3
      clear e3 e4
      go_loopw [28] (fun u wr => ∃ (q : Nat) (l2 : List Int), u = .int .i64 (q : Nat) ∧ q ≤ r.length ∧ l2.length = n ∧ (∀ c, c < n → l2.getD c 0 = lq l r q c) ∧ Below w.heap.size w wr ∧ OwnI wr w.heap.size (.slice (some ⟨go, 0, none⟩) n cgo) l2 ∧ OwnL wr zs (.slice A7 rows.length c7) rows ∧ OwnI wr zs (.slice (some ⟨gh, 0, none⟩) r.length ch) r ∧ zs ≤ wr.heap.size) (fun u _ => r.length - (intOf u).toNat)
      case atStart => exact ⟨0, ll, rfl, by omega, HLL.out, fun c hc => by rw [lq_zero]; exact HLE.out c hc, HBW2.out, HO2.out, HT2.out, HO92.out, hz2⟩
      case round =>
        obtain ⟨q, l2, rfl, hq, hl2, hl2e, hbl2, ho2, ht2, ho3, hz3⟩ := hrel
        generalize wr = W3 at *
        have HL2 := Lib.hid hl2
        have HL2E := Lib.hid hl2e
        have HBL2 := Lib.hid hbl2
        have HO3 := Lib.hid ho2
        have HT3 := Lib.hid ht2
        have HR3 := Lib.hid ho3
        clear hl2 hl2e hbl2 ho2 ht2 ho3 HO2 HT2 HO92
        by_cases hq2 : q < r.length
        · obtain ⟨c0, c1⟩ := HIN.out (at_ r q) (mem_at.2 ⟨q, hq2, rfl⟩)
          obtain ⟨c, hc, hcn⟩ := cast_nat c0 c1
          obtain ⟨hv, hlp, hset⟩ := lq_set HHOUR.out HL2.out HL2E.out hq2 hc hcn
          obtain ⟨cr, _⟩ := HR3.out.cell rfl hq2
          rw [show r.getD q 0 = (c : Int) from hc] at cr
          have lr := (own_lt HR3.out gh rfl).2
          obtain ⟨o3, o4⟩ := HO3.out.cell HL2.out hcn
          rw [hv] at o3
          have o5 := (own_lt HO3.out go rfl).2
          have o6 := o4 c
          obtain ⟨v9, hv9⟩ : ∃ v9 : Int, (l c : Int) - 1 = v9 := ⟨_, rfl⟩
          have hlc := HPL.out.le.2 c hcn
          have hgc := HG.out c hcn
          have hw9 : IntKind.i64.wrap ((l c : Int) - 1) = v9 := by rw [hv9]; exact IntWalk.i64_in _ ⟨by omega, by omega⟩
          rw [hv9] at hset
          have HSET := Lib.hid hset
          clear hc c0 c1 hv hset hv9 o4 hlc
          generalize l c = lc at *
          go_wp2_with fail
          all_goals
            first
              | (refine ⟨⟨q + 1, l2.set c v9, by go_num, by omega, by rw [List.length_set]; exact HL2.out, HSET.out, HBL2.out.setCell (p := ⟨go, c, none⟩) HGO.out _, HO3.out.set HL2.out c _, ownL_far HT3.out (p := ⟨go, c, none⟩) HGO2.out _, HR3.out.far (p := ⟨go, c, none⟩) (fun g' hg' => by simp [Value.ownBlock] at hg'; subst hg'; show go ≠ gh; have := HGO2.out; omega), by simpa using hz3⟩, ?_⟩; simp [intOf]; omega)
              | (go_roundw
                 case rel => exact ⟨q + 1, l2.set c v9, by go_num, by omega, by rw [List.length_set]; exact HL2.out, HSET.out, HBL2.out.setCell (p := ⟨go, c, none⟩) HGO.out _, HO3.out.set HL2.out c _, ownL_far HT3.out (p := ⟨go, c, none⟩) HGO2.out _, HR3.out.far (p := ⟨go, c, none⟩) (fun g' hg' => by simp [Value.ownBlock] at hg'; subst hg'; show go ≠ gh; have := HGO2.out; omega), by simpa using hz3⟩
                 case measure => simp [intOf]; omega)
        · obtain rfl : q = r.length := by omega
          obtain ⟨vs, H1, H2, H3⟩ := HT3.out.ready0 HR3.out
          have HEND := Lib.hid (lq_end HHOUR.out HL2E.out)
          have HST := Lib.hid (HPL.out.step (by omega) HHOUR.out h0)
          go_wp2_with (at_builtin; (refine wpList_append_own_at _ rfl _ _ 58 rfl zs 44 i0 (.slice none 0 0) 1 24 Try.underlying58 hi0 hz0 hz1 hzb2 rfl (by decide) _ _ _ rfl H1.out ⟨_, 0, none⟩ 1 1 [.slice (some ⟨gh, 0, none⟩) r.length ch] rfl rfl lit_news one_sl ?g1 ?g2 ?g3 ?_))
          case g1 => unfold maxLen; omega
          case g2 => omega
          case g3 => simp only [World.size_alloc]; omega
          intro v5 w5 hown2 hgrow _ hat
          have hp5 : OwnL w5 zs v5 (rows ++ [r]) := OwnL.push H1.out H2.out H3.out hgrow hown2
          have hb5 : Below w.heap.size w w5 := below_own (below_alloc HBL2.out) H1.out HWZ.out hgrow
          have hl5 : OwnI w5 w.heap.size (.slice (some ⟨go, 0, none⟩) n cgo) l2 := ownI_grown (HO3.out.alloc _) hgrow (row_ne_int H1.out (HO3.out.alloc _))
          have hz5 : zs ≤ w5.heap.size := by have := hgrow.size; simp only [World.size_alloc] at this; omega
          obtain ⟨A5, c5, rfl⟩ := hp5.shape
          have HP5 := Lib.hid hp5
          have HB5 := Lib.hid hb5
          have HL5 := Lib.hid hl5
          have hlen : (rows ++ [r]).length = rows.length + 1 := by rw [List.length_append]; rfl
          clear hgrow hown2 hat H1 H2 H3 hp5 hb5 hl5
          go_wp2_with fail
          refine ⟨⟨_, rows ++ [r], l2, HL2.out, HEND.out, HST.out, HB5.out, HL5.out, HP5.out, hz5⟩, ?_⟩
          rw [lenOf_slice, lenOf_slice, hlen]
          omega
    · have hg1 : decide (((topF l n : Nat) : Int) > 0) = false := by simp; omega
      have hg2 : decide ((0 : Int) < ((topF l n : Nat) : Int)) = false := by simp; omega
      have hg3 : decide (0 < topF l n) = false := by simp; omega
      have HD := Lib.hid (HPL.out.done (by omega) (by omega))
      go_wp2_with (go_at_call 44; with_reducible refine Calls.mono (Gives.calls (MX1.out _ (HI.out.below (by repeat (first | exact Below.refl _ _ | (with_reducible assumption) | apply below_later | apply below_alloc | apply below_drew | apply below_drewN))))) ?_; rintro e w1 ⟨rfl, y1, rfl⟩)
      go_ret2
      exact ⟨_, rows, rfl, ⟨⟨_, below_more HBL.out (by repeat (first | exact Below.refl _ _ | (with_reducible assumption) | apply below_later | apply below_alloc | apply below_drew | apply below_drewN))⟩, rfl⟩, (HT.out.later y1).mono HWZ.out, HD.out.1, HPL.out.each, HD.out.2⟩
end Go.Proofs.Ytcjahpbbkdkbpaa
