/- The document's Hours: walked. -/
import Derived.Test.YtjokpangacahgaaTHoursM
import Derived.Test.YtjokpangacahgaaTAsked
import Derived.Test.YtjokpangacahgaaTNeed
namespace Go.Proofs.Ytjokpangacahgaa
open Go.RowKit

set_option maxRecDepth 100000 in
theorem rHours_bad (n cap : Nat) (A : Option Addr) (f : Nat → Int) (h : Int) (w : World) (hn : n ≤ 9223372036854775807) (hp : IsInts w A n f) (he : jobE n f h ≠ 0) :
    Gives Try.prog 43 #[.slice A n cap, .int .i64 h] w (.tuple #[.int .i64 0, .int .i64 (jobE n f h)]) := by
  have CH := Lib.hid fun (V : World) (hb : Below w.heap.size w V) => rAsked_any n cap A f h V hn (hp.below hb)
  generalize jobE n f h = E at *
  have e1 : (E != 0) = true := by simpa using he
  clear hp he
  go_enter Try.func43, Try.ntmps43
  go_wp2_with (go_at_call 68; with_reducible refine Calls.mono (Gives.calls (CH.out _ (by repeat (first | exact Below.refl _ _ | (with_reducible assumption) | apply below_later | apply below_alloc | apply below_drew | apply below_drewN)))) ?_; rintro e w1 ⟨rfl, z, rfl⟩)
  go_ret2
  exact ⟨rfl, later_of (by repeat (first | exact Below.refl _ _ | (with_reducible assumption) | apply below_later | apply below_alloc | apply below_drew | apply below_drewN))⟩
set_option maxRecDepth 100000 in
set_option maxHeartbeats 12800000 in
theorem rHours_ok (n cap hd : Nat) (A : Option Addr) (g : Nat → Nat) (w : World) (hp : IsInts w A n fun i => ((g i : Nat) : Int)) (he : jobE n (fun i => ((g i : Nat) : Int)) hd = 0) :
    Gives Try.prog 43 #[.slice A n cap, .int .i64 hd] w (.tuple #[.int .i64 (hoursN g n hd : Nat), .int .i64 0]) := by
  obtain ⟨hj, h1, h10⟩ := jobE_ok he
  obtain ⟨⟨n1, n10⟩, hv⟩ := okJob_iff.1 hj
  have hgb : ∀ i, i < n → g i ≤ 100 := fun i hi => by have := (hv i hi).2; omega
  have CH := Lib.hid fun (V : World) (hb : Below w.heap.size w V) => he ▸ rAsked_any n cap A _ hd V (by omega) (hp.below hb)
  obtain ⟨i0, hi0, hz0, hz1, hz2⟩ := info_int
  obtain ⟨ba, oa, hA, qa⟩ := hp.at_ (by omega)
  subst hA
  have HG := Lib.hid hgb
  have hH2 : hoursN g n hd ≤ 1100 := by
    unfold hoursN
    have a1 := topF_le (g := g) (b := 100) (k := n) hgb
    have a2 := addN_le (g := g) (b := 100) (k := n) hgb
    have a3 : upN (addN g n) hd ≤ 1100 := (upN_le_iff (by omega)).2 (by have b1 : n * 100 ≤ 1000 := (by omega); have b2 : 1100 * 1 ≤ 1100 * hd := Nat.mul_le_mul_left _ (by omega); omega)
    omega
  have OWN0 : Hid (∀ U : World, OwnI (U.alloc (.cells #[] 3)) U.heap.size (.slice (some ⟨U.heap.size, 0, none⟩) 0 0) []) := fun U => World.ownsRow_made U #[] 0 (Nat.le_refl _) (by unfold maxLen; omega) rfl
  have NEW0 : Hid (∀ U, Below w.heap.size w U → ∀ (j : Nat) (v : Value), (cellsI ((List.range n).map fun i => ((g i : Nat) : Int)))[j]? = some v → U.cell? ((⟨ba, oa, none⟩ : Addr).add j) = some v) := fun U h => ints_news (show Ints U ba oa n (fun i => ((g i : Nat) : Int)) from qa.later ⟨U, h⟩)
  have MK : ∀ w', (Instr.makeSlice 87 (.int .i64 (n : Int)) (.int .i64 (n : Int))).run Try.prog w' = .ok (.slice (some ⟨w'.heap.size, 0, none⟩) n n) (w'.alloc (.cells (madeCells #[Value.bool false] n) 4)) := fun w' => make_bools w' n (by omega)
  obtain ⟨M, hM⟩ : ∃ M, hoursN g n hd = M := ⟨_, rfl⟩
  have HMM := Lib.hid hM
  rw [hM]
  rw [hM] at hH2
  clear hp he hj hv hgb qa hM
  go_enter Try.func43, Try.ntmps43
  go_wp2_with (first
    | (go_at_call 68; with_reducible refine Calls.mono (Gives.calls (CH.out _ (by repeat (first | exact Below.refl _ _ | (with_reducible assumption) | apply below_later | apply below_alloc | apply below_drew | apply below_drewN)))) ?_; rintro e w1 ⟨rfl, z, rfl⟩)
    | (at_builtin; refine wpList_append_own _ rfl _ _ 48 rfl z.val.heap.size 3 i0 (.int .i64 0) 1 8 Try.underlying48 hi0 hz0 hz1 hz2 rfl (by decide) _ _ _ rfl (OWN0.out z.val) ⟨ba, oa, none⟩ n cap (cellsI ((List.range n).map fun i => ((g i : Nat) : Int))) rfl ?c1 (NEW0.out _ (by repeat (first | exact Below.refl _ _ | (with_reducible assumption) | apply below_later | apply below_alloc | apply below_drew | apply below_drewN))) (cellsI_one _) ?c3 ?c4 ?c5 ?_))
  case c1 => rw [cellsI_length]; simp
  case c3 => simp only [maxLen, List.length_nil]; omega
  case c4 => simp only [List.length_nil]; omega
  case c5 => simp only [World.size_alloc]; omega
  intro v1 w1 hown1 hg1 _
  have hb1 : Below z.val.heap.size z.val w1 := below_own (w1 := z.val.alloc (.cells #[] 3)) (by repeat (first | exact Below.refl _ _ | (with_reducible assumption) | apply below_later | apply below_alloc | apply below_drew | apply below_drewN)) (OWN0.out z.val) (Nat.le_refl _) hg1
  have ho1 : OwnI w1 w.heap.size v1 ((List.range n).map fun i => ((g i : Nat) : Int)) := by
    refine OwnI.mono (base := z.val.heap.size) ?_ z.ok.size
    unfold OwnI
    rw [List.length_map, List.length_range]
    exact hown1
  obtain ⟨go, cgo, rfl, hgo1, hgo2, hgo3⟩ := ho1.form (n := n) (by simp) (by omega)
  have HO1 := Lib.hid ho1
  have HGO := Lib.hid hgo1
  have HBZ : Hid (Below w.heap.size w w1) := below_more (by repeat (first | exact Below.refl _ _ | (with_reducible assumption) | apply below_later | apply below_alloc | apply below_drew | apply below_drewN)) hb1
  clear hown1 hg1 hb1 ho1 OWN0 NEW0 CH hgo1 hgo2 hgo3
  go_wp2_with fail
  go_loopw [8] (fun u wr => ∃ (H : Nat) (l : Nat → Nat) (ll : List Int), u = .int .i64 (H : Nat) ∧ ll.length = n ∧ (∀ c, c < n → ll.getD c 0 = ((l c : Nat) : Int)) ∧ (∀ c, c < n → l c ≤ g c) ∧ H + hoursN l n hd = M ∧ Below w.heap.size w wr ∧ OwnI wr w.heap.size (.slice (some ⟨go, 0, none⟩) n cgo) ll) (fun u _ => M - (intOf u).toNat)
  case atStart => exact ⟨0, g, _, rfl, by simp, fun c hc => by simp [List.getD_eq_getElem?_getD, hc], fun c hc => Nat.le_refl _, by rw [HMM.out]; omega, HBZ.out, HO1.out⟩
  case round =>
    obtain ⟨H, l, ll, rfl, hll, hle, hlg, hhm, hbl, ho⟩ := hrel
    generalize wr = W1 at *
    have HLE := Lib.hid hle
    have HLL := Lib.hid hlg
    have HHM := Lib.hid hhm
    have HBL := Lib.hid hbl
    have HO := Lib.hid ho
    have HLN := Lib.hid hll
    have hHM : H ≤ M := by omega
    clear hle hlg hhm hbl ho hll HO1 HMM
    go_wp2_with fail
    have HM := Lib.hid (made_ownBl W1 n W1.heap.size (Nat.le_refl _) (by omega))
    have HB1 : Hid (Below W1.heap.size W1 (W1.alloc (.cells (madeCells #[Value.bool false] n) 4))) := (Below.refl _ _).alloc (Nat.le_refl _) _
    have HO2 : Hid (OwnI (W1.alloc (.cells (madeCells #[Value.bool false] n) 4)) w.heap.size (.slice (some ⟨go, 0, none⟩) n cgo) ll) := HO.out.alloc _
    have HBL2 : Hid (Below w.heap.size w (W1.alloc (.cells (madeCells #[Value.bool false] n) 4))) := below_more HBL.out HB1.out
    have hgw : go < W1.heap.size := (own_lt HO.out go rfl).2
    have hww : w.heap.size ≤ W1.heap.size := HBL.out.size
    clear HB1 HO HBL
    generalize W1.alloc (.cells (madeCells #[Value.bool false] n) 4) = W2 at *
    generalize W1.heap.size = gw at *
    go_loopw [10] (fun u wr => ∃ (k : Nat) (wl : List Bool) (l2 : List Int), u = .int .i64 (k : Nat) ∧ k ≤ hd ∧ wl.length = n ∧ l2.length = n ∧ TopW l n (wOf wl) k ∧ (∀ c, c < n → l2.getD c 0 = ((less l (wOf wl) c : Nat) : Int)) ∧ Below w.heap.size w wr ∧ OwnI wr w.heap.size (.slice (some ⟨go, 0, none⟩) n cgo) l2 ∧ OwnBl wr gw (.slice (some ⟨gw, 0, none⟩) n n) wl) (fun u _ => hd - (intOf u).toNat)
    case atStart => exact ⟨0, List.replicate n false, ll, rfl, by omega, by simp, HLN.out, TopW.start l n, fun c hc => by rw [less_free (wOf_none hc)]; exact HLE.out c hc, HBL2.out, HO2.out, HM.out⟩
    case round =>
      obtain ⟨k, wl, l2, rfl, hk, hwl, hl2, htw, hle2, hbl3, ho3, hw3⟩ := hrel
      generalize wr = W3 at *
      have HWL := Lib.hid hwl
      have HL2 := Lib.hid hl2
      have HTW := Lib.hid htw
      have HLE2 := Lib.hid hle2
      have HBL3 := Lib.hid hbl3
      have HO3 := Lib.hid ho3
      have HW3 := Lib.hid hw3
      clear hwl hl2 htw hle2 hbl3 ho3 hw3 HM HO2 HBL2
      by_cases hkh : k < hd
      · go_wp2_with fail
        go_loopw [11, 12] (fun u v wr => ∃ (i : Nat) (x : Int), u = .int .i64 x ∧ v = .int .i64 (i : Nat) ∧ i ≤ n ∧ BestI l (wOf wl) i x ∧ ∃ y : Later W3, wr = y.val) (fun _ v _ => n - (intOf v).toNat)
        case atStart => exact ⟨0, -1, rfl, rfl, by omega, BestI.start _ _, later_of (by repeat (first | exact Below.refl _ _ | (with_reducible assumption) | apply below_later | apply below_alloc | apply below_drew | apply below_drewN))⟩
        case round =>
          obtain ⟨i, x, rfl, rfl, hi, hbest, y, rfl⟩ := hrel
          have HBEST := Lib.hid hbest
          clear hbest
          by_cases hin : i < n
          · obtain ⟨ci, _⟩ := (HO3.out.later y).cell HL2.out hin
            rw [HLE2.out i hin] at ci
            have li := (own_lt (HO3.out.later y) go rfl).2
            obtain ⟨cw, _⟩ := (HW3.out.later y).cell HWL.out hin
            have lw := (own_lt (HW3.out.later y) gw rfl).2
            have HWO : Hid (wOf wl i = wl.getD i true) := rfl
            have HFR : Hid (wOf wl i = false → less l (wOf wl) i = l i) := less_free
            obtain ⟨v, hvv⟩ : ∃ v, less l (wOf wl) i = v := ⟨_, rfl⟩
            rw [hvv] at ci HFR
            clear hvv
            by_cases h0 : 0 < v
            · have hg1 : decide ((v : Int) > 0) = true := by simp; omega
              have hg2 : decide ((0 : Int) < (v : Int)) = true := by simp; omega
              have hg3 : decide (0 < v) = true := by simp; omega
              cases hw : wOf wl i
              · rw [← HWO.out, hw] at cw
                have HLI : Hid (l i = v) := (HFR.out hw).symm
                rcases HBEST.out.cases with hx | ⟨b, hx⟩
                · subst hx
                  have HN := Lib.hid (HBEST.out.first hw (by rw [HLI.out]; exact h0))
                  clear HWO HFR hw
                  go_wp2_with fail
                  refine wp_region_later (by kernel_rfl) (by kernel_rfl) ?_
                  repeat (go_big_quiet_step ((fail)))
                  refine wpQuiet_nil ?_
                  intro y2
                  go_wp2_with fail
                  all_goals
                    first
                      | (refine ⟨⟨i + 1, i, rfl, by go_num, by omega, HN.out, later_of (by repeat (first | exact Below.refl _ _ | (with_reducible assumption) | apply below_later | apply below_alloc | apply below_drew | apply below_drewN))⟩, ?_⟩; simp [intOf]; omega)
                      | (go_roundw
                         case rel => exact ⟨i + 1, i, rfl, by go_num, by omega, HN.out, later_of (by repeat (first | exact Below.refl _ _ | (with_reducible assumption) | apply below_later | apply below_alloc | apply below_drew | apply below_drewN))⟩
                         case measure => simp [intOf]; omega)
                · subst hx
                  obtain ⟨b1, b2, b3, _⟩ := HBEST.out.is
                  obtain ⟨cb, _⟩ := (HO3.out.later y).cell HL2.out (show b < n by omega)
                  rw [HLE2.out b (by omega), less_free b2] at cb
                  have hg4 : decide ((b : Int) < 0) = false := by simp
                  by_cases hgt : l b < v
                  · have hg5 : decide ((v : Int) > (l b : Int)) = true := by simp; omega
                    have hg6 : decide ((l b : Int) < (v : Int)) = true := by simp; omega
                    have hg7 : decide (l b < v) = true := by simp; omega
                    have HN := Lib.hid (HBEST.out.more hw (by rw [HLI.out]; exact hgt))
                    clear HWO HFR hw b2
                    generalize l b = lb at *
                    go_wp2_with fail
                    refine wp_region_later (by kernel_rfl) (by kernel_rfl) ?_
                    repeat (go_big_quiet_step ((fail)))
                    refine wpQuiet_nil ?_
                    intro y2
                    go_wp2_with fail
                    all_goals
                      first
                        | (refine ⟨⟨i + 1, i, rfl, by go_num, by omega, HN.out, later_of (by repeat (first | exact Below.refl _ _ | (with_reducible assumption) | apply below_later | apply below_alloc | apply below_drew | apply below_drewN))⟩, ?_⟩; simp [intOf]; omega)
                        | (go_roundw
                           case rel => exact ⟨i + 1, i, rfl, by go_num, by omega, HN.out, later_of (by repeat (first | exact Below.refl _ _ | (with_reducible assumption) | apply below_later | apply below_alloc | apply below_drew | apply below_drewN))⟩
                           case measure => simp [intOf]; omega)
                  · have hg5 : decide ((v : Int) > (l b : Int)) = false := by simp; omega
                    have hg6 : decide ((l b : Int) < (v : Int)) = false := by simp; omega
                    have hg7 : decide (l b < v) = false := by simp; omega
                    have HN := Lib.hid (HBEST.out.keep (by rw [HLI.out]; omega))
                    clear HWO HFR hw b2
                    generalize l b = lb at *
                    go_wp2_with fail
                    refine wp_region_later (by kernel_rfl) (by kernel_rfl) ?_
                    repeat (go_big_quiet_step ((fail)))
                    refine wpQuiet_nil ?_
                    intro y2
                    go_wp2_with fail
                    all_goals
                      first
                        | (refine ⟨⟨i + 1, b, rfl, by go_num, by omega, HN.out, later_of (by repeat (first | exact Below.refl _ _ | (with_reducible assumption) | apply below_later | apply below_alloc | apply below_drew | apply below_drewN))⟩, ?_⟩; simp [intOf]; omega)
                        | (go_roundw
                           case rel => exact ⟨i + 1, b, rfl, by go_num, by omega, HN.out, later_of (by repeat (first | exact Below.refl _ _ | (with_reducible assumption) | apply below_later | apply below_alloc | apply below_drew | apply below_drewN))⟩
                           case measure => simp [intOf]; omega)
              · rw [← HWO.out, hw] at cw
                have HN := Lib.hid (HBEST.out.skip fun h => by rw [hw] at h; cases h)
                clear HWO HFR hw
                go_wp2_with fail
                refine wp_region_later (by kernel_rfl) (by kernel_rfl) ?_
                repeat (go_big_quiet_step ((fail)))
                refine wpQuiet_nil ?_
                intro y2
                go_wp2_with fail
                all_goals
                  first
                    | (refine ⟨⟨i + 1, x, rfl, by go_num, by omega, HN.out, later_of (by repeat (first | exact Below.refl _ _ | (with_reducible assumption) | apply below_later | apply below_alloc | apply below_drew | apply below_drewN))⟩, ?_⟩; simp [intOf]; omega)
                    | (go_roundw
                       case rel => exact ⟨i + 1, x, rfl, by go_num, by omega, HN.out, later_of (by repeat (first | exact Below.refl _ _ | (with_reducible assumption) | apply below_later | apply below_alloc | apply below_drew | apply below_drewN))⟩
                       case measure => simp [intOf]; omega)
            · have hg1 : decide ((v : Int) > 0) = false := by simp; omega
              have hg2 : decide ((0 : Int) < (v : Int)) = false := by simp; omega
              have hg3 : decide (0 < v) = false := by simp; omega
              have HN := Lib.hid (HBEST.out.skip fun h => by have := HFR.out h; omega)
              clear HWO HFR cw lw
              go_wp2_with fail
              refine wp_region_later (by kernel_rfl) (by kernel_rfl) ?_
              repeat (go_big_quiet_step ((fail)))
              refine wpQuiet_nil ?_
              intro y2
              go_wp2_with fail
              all_goals
                first
                  | (refine ⟨⟨i + 1, x, rfl, by go_num, by omega, HN.out, later_of (by repeat (first | exact Below.refl _ _ | (with_reducible assumption) | apply below_later | apply below_alloc | apply below_drew | apply below_drewN))⟩, ?_⟩; simp [intOf]; omega)
                  | (go_roundw
                     case rel => exact ⟨i + 1, x, rfl, by go_num, by omega, HN.out, later_of (by repeat (first | exact Below.refl _ _ | (with_reducible assumption) | apply below_later | apply below_alloc | apply below_drew | apply below_drewN))⟩
                     case measure => simp [intOf]; omega)
          · obtain rfl : i = n := by omega
            rcases HBEST.out.cases with hx | ⟨b, hx⟩
            · subst hx
              have HHOUR := Lib.hid (HTW.out.short (h := hd) (by omega) HBEST.out.no)
              have HBL4 : Hid (Below w.heap.size w y.val) := below_more HBL3.out y.ok
              have HO4 := Lib.hid (HO3.out.later y)
              have HW4 := Lib.hid (HW3.out.later y)
              generalize y.val = W4 at *
              clear HBEST HO3 HW3 HBL3
              go_wp2_with fail
              go_loopw [13, 14] (fun u v wr => ∃ (j : Nat) (d : Bool), u = .bool d ∧ v = .int .i64 (j : Nat) ∧ j ≤ i ∧ (d = true ↔ ∀ c, c < j → wOf wl c = false) ∧ ∃ x : Later W4, wr = x.val) (fun _ v _ => i - (intOf v).toNat)
              case atStart => exact ⟨0, true, rfl, rfl, by omega, ⟨fun _ c hc => by omega, fun _ => rfl⟩, later_of (by repeat (first | exact Below.refl _ _ | (with_reducible assumption) | apply below_later | apply below_alloc | apply below_drew | apply below_drewN))⟩
              case round =>
                obtain ⟨j, d, rfl, rfl, hj, hd4, x4, rfl⟩ := hrel
                have HD4 := Lib.hid hd4
                clear hd4
                by_cases hjn : j < i
                · obtain ⟨cw, _⟩ := (HW4.out.later x4).cell HWL.out hjn
                  have lw := (own_lt (HW4.out.later x4) gw rfl).2
                  have HDN : Hid ((d && !(wl.getD j true)) = true ↔ ∀ c, c < j + 1 → wOf wl c = false) := by
                    show _ ↔ _
                    rw [Bool.and_eq_true, HD4.out, Bool.not_eq_true']
                    exact ⟨fun ⟨h1, h2⟩ c hc => by (by_cases e : c = j; (subst e; exact h2); exact h1 c (by omega)), fun h => ⟨fun c hc => h c (by omega), h j (by omega)⟩⟩
                  generalize wl.getD j true = wj at *
                  cases d
                  · have HDF : Hid (false = true ↔ ∀ c, c < j + 1 → wOf wl c = false) := by show _ ↔ _; have := HDN.out; simpa using this
                    go_wp2_with fail
                    all_goals
                      first
                        | (refine ⟨⟨j + 1, false, rfl, by go_num, by omega, HDF.out, later_of (by repeat (first | exact Below.refl _ _ | (with_reducible assumption) | apply below_later | apply below_alloc | apply below_drew | apply below_drewN))⟩, ?_⟩; simp [intOf]; omega)
                        | (go_roundw
                           case rel => exact ⟨j + 1, false, rfl, by go_num, by omega, HDF.out, later_of (by repeat (first | exact Below.refl _ _ | (with_reducible assumption) | apply below_later | apply below_alloc | apply below_drew | apply below_drewN))⟩
                           case measure => simp [intOf]; omega)
                  · have HDT : Hid ((!wj) = true ↔ ∀ c, c < j + 1 → wOf wl c = false) := by show _ ↔ _; have := HDN.out; simpa using this
                    go_wp2_with fail
                    all_goals
                      first
                        | (refine ⟨⟨j + 1, !wj, rfl, by go_num, by omega, HDT.out, later_of (by repeat (first | exact Below.refl _ _ | (with_reducible assumption) | apply below_later | apply below_alloc | apply below_drew | apply below_drewN))⟩, ?_⟩; simp [intOf]; omega)
                        | (go_roundw
                           case rel => exact ⟨j + 1, !wj, rfl, by go_num, by omega, HDT.out, later_of (by repeat (first | exact Below.refl _ _ | (with_reducible assumption) | apply below_later | apply below_alloc | apply below_drew | apply below_drewN))⟩
                           case measure => simp [intOf]; omega)
                · obtain rfl : j = i := by omega
                  cases d
                  · have HX : Hid (hoursN (less l (wOf wl)) j hd + 1 = hoursN l j hd) := by
                      show _ = _
                      have h1 : ¬ ∀ c, c < j → wOf wl c = false := fun h => by have := HD4.out.2 h; cases this
                      obtain ⟨c, h2⟩ := Classical.not_forall.1 h1
                      have h3 : c < j := Classical.byContradiction fun h => h2 fun h4 => absurd h4 h
                      exact HHOUR.out.some (by omega) h3 (by cases hw : wOf wl c; exact absurd (fun _ => hw) h2; rfl)
                    have hltM : H < M := by have a1 := HX.out; have a2 := HHM.out; omega
                    have HLG : Hid (∀ c, c < j → less l (wOf wl) c ≤ g c) := fun c hc => by have h5 := HLL.out c hc; unfold less; omega
                    go_wp2_with fail
                    all_goals
                      first
                        | (refine ⟨⟨H + 1, less l (wOf wl), l2, by go_num, HL2.out, HLE2.out, HLG.out, by have a1 := HX.out; have a2 := HHM.out; omega, below_more HBL4.out x4.ok, HO4.out.later x4⟩, ?_⟩; simp [intOf]; omega)
                        | (go_roundw
                           case rel => exact ⟨H + 1, less l (wOf wl), l2, by go_num, HL2.out, HLE2.out, HLG.out, by have a1 := HX.out; have a2 := HHM.out; omega, below_more HBL4.out x4.ok, HO4.out.later x4⟩
                           case measure => simp [intOf]; omega)
                  · have HX : Hid (hoursN l j hd = 0) := HHOUR.out.none (by omega) (HD4.out.1 rfl)
                    go_wp2_with fail
                    go_ret2
                    exact ⟨by rw [show H = M by have a1 := HX.out; have a2 := HHM.out; omega]; rfl, later_of (below_more HBL4.out x4.ok)⟩
            · subst hx
              obtain ⟨b1, b2, b3, b4⟩ := HBEST.out.is
              have HST := Lib.hid (HTW.out.step b1 b2 b3 b4)
              obtain ⟨cb, fb⟩ := (HO3.out.later y).cell HL2.out b1
              rw [HLE2.out b b1, less_free b2] at cb
              obtain ⟨cw, fw, _⟩ := (HW3.out.later y).cell HWL.out b1
              have lb := (own_lt (HO3.out.later y) go rfl).2
              have lw := (own_lt (HW3.out.later y) gw rfl).2
              have fb1 := fb b
              have fw1 := fw b
              have hlb := HLL.out b b1
              have hgb := HG.out b b1
              have hg4 : decide ((b : Int) < 0) = false := by simp
              have HLS : Hid (∀ c, c < i → (l2.set b ((l b : Int) - 1)).getD c 0 = ((less l (wOf (wl.set b true)) c : Nat) : Int)) := fun c hc => by
                rw [getD_setL (by rw [HL2.out]; exact b1), less_pick b2]
                by_cases e : c = b
                · rw [if_pos e, if_pos e]; omega
                · rw [if_neg e, if_neg e]; exact HLE2.out c hc
              have HBL4 : Hid (Below w.heap.size w y.val) := below_more HBL3.out y.ok
              have HO4 := Lib.hid (HO3.out.later y)
              have HW4 := Lib.hid (HW3.out.later y)
              obtain ⟨v9, hv9⟩ : ∃ v9 : Int, (l b : Int) - 1 = v9 := ⟨_, rfl⟩
              have hw9 : IntKind.i64.wrap ((l b : Int) - 1) = v9 := by rw [hv9]; exact IntWalk.i64_in _ ⟨by omega, by omega⟩
              rw [hv9] at HLS
              generalize y.val = W4 at *
              clear HBEST HO3 HW3 HBL3 b4 fb fw hv9 b2
              go_wp2_with fail
              all_goals
                first
                  | (refine ⟨⟨k + 1, wl.set b true, l2.set b v9, by go_num, by omega, by rw [List.length_set]; exact HWL.out, by rw [List.length_set]; exact HL2.out, HST.out, HLS.out, (HBL4.out.setCell (p := ⟨gw, b, none⟩) hww _).setCell (p := ⟨go, b, none⟩) HGO.out _, (HO4.out.far (p := ⟨gw, b, none⟩) (fun g' hg' => by simp [Value.ownBlock] at hg'; subst hg'; show gw ≠ go; omega)).set HL2.out b _, (HW4.out.set HWL.out b true).far (p := ⟨go, b, none⟩) (fun g' hg' => by simp [Value.ownBlock] at hg'; subst hg'; show go ≠ gw; omega)⟩, ?_⟩; simp [intOf]; omega)
                  | (go_roundw
                     case rel => exact ⟨k + 1, wl.set b true, l2.set b v9, by go_num, by omega, by rw [List.length_set]; exact HWL.out, by rw [List.length_set]; exact HL2.out, HST.out, HLS.out, (HBL4.out.setCell (p := ⟨gw, b, none⟩) hww _).setCell (p := ⟨go, b, none⟩) HGO.out _, (HO4.out.far (p := ⟨gw, b, none⟩) (fun g' hg' => by simp [Value.ownBlock] at hg'; subst hg'; show gw ≠ go; omega)).set HL2.out b _, (HW4.out.set HWL.out b true).far (p := ⟨go, b, none⟩) (fun g' hg' => by simp [Value.ownBlock] at hg'; subst hg'; show go ≠ gw; omega)⟩
                     case measure => simp [intOf]; omega)
      · obtain rfl : k = hd := by omega
        have HHOUR := Lib.hid HTW.out.full
        have HBL4 := HBL3
        have HO4 := HO3
        have HW4 := HW3
        generalize W3 = W4 at *
        go_wp2_with fail
        go_loopw [13, 14] (fun u v wr => ∃ (j : Nat) (d : Bool), u = .bool d ∧ v = .int .i64 (j : Nat) ∧ j ≤ n ∧ (d = true ↔ ∀ c, c < j → wOf wl c = false) ∧ ∃ x : Later W4, wr = x.val) (fun _ v _ => n - (intOf v).toNat)
        case atStart => exact ⟨0, true, rfl, rfl, by omega, ⟨fun _ c hc => by omega, fun _ => rfl⟩, later_of (by repeat (first | exact Below.refl _ _ | (with_reducible assumption) | apply below_later | apply below_alloc | apply below_drew | apply below_drewN))⟩
        case round =>
          obtain ⟨j, d, rfl, rfl, hj, hd4, x4, rfl⟩ := hrel
          have HD4 := Lib.hid hd4
          clear hd4
          by_cases hjn : j < n
          · obtain ⟨cw, _⟩ := (HW4.out.later x4).cell HWL.out hjn
            have lw := (own_lt (HW4.out.later x4) gw rfl).2
            have HDN : Hid ((d && !(wl.getD j true)) = true ↔ ∀ c, c < j + 1 → wOf wl c = false) := by
              show _ ↔ _
              rw [Bool.and_eq_true, HD4.out, Bool.not_eq_true']
              exact ⟨fun ⟨h1, h2⟩ c hc => by (by_cases e : c = j; (subst e; exact h2); exact h1 c (by omega)), fun h => ⟨fun c hc => h c (by omega), h j (by omega)⟩⟩
            generalize wl.getD j true = wj at *
            cases d
            · have HDF : Hid (false = true ↔ ∀ c, c < j + 1 → wOf wl c = false) := by show _ ↔ _; have := HDN.out; simpa using this
              go_wp2_with fail
              all_goals
                first
                  | (refine ⟨⟨j + 1, false, rfl, by go_num, by omega, HDF.out, later_of (by repeat (first | exact Below.refl _ _ | (with_reducible assumption) | apply below_later | apply below_alloc | apply below_drew | apply below_drewN))⟩, ?_⟩; simp [intOf]; omega)
                  | (go_roundw
                     case rel => exact ⟨j + 1, false, rfl, by go_num, by omega, HDF.out, later_of (by repeat (first | exact Below.refl _ _ | (with_reducible assumption) | apply below_later | apply below_alloc | apply below_drew | apply below_drewN))⟩
                     case measure => simp [intOf]; omega)
            · have HDT : Hid ((!wj) = true ↔ ∀ c, c < j + 1 → wOf wl c = false) := by show _ ↔ _; have := HDN.out; simpa using this
              go_wp2_with fail
              all_goals
                first
                  | (refine ⟨⟨j + 1, !wj, rfl, by go_num, by omega, HDT.out, later_of (by repeat (first | exact Below.refl _ _ | (with_reducible assumption) | apply below_later | apply below_alloc | apply below_drew | apply below_drewN))⟩, ?_⟩; simp [intOf]; omega)
                  | (go_roundw
                     case rel => exact ⟨j + 1, !wj, rfl, by go_num, by omega, HDT.out, later_of (by repeat (first | exact Below.refl _ _ | (with_reducible assumption) | apply below_later | apply below_alloc | apply below_drew | apply below_drewN))⟩
                     case measure => simp [intOf]; omega)
          · obtain rfl : j = n := by omega
            cases d
            · have HX : Hid (hoursN (less l (wOf wl)) j k + 1 = hoursN l j k) := by
                show _ = _
                have h1 : ¬ ∀ c, c < j → wOf wl c = false := fun h => by have := HD4.out.2 h; cases this
                obtain ⟨c, h2⟩ := Classical.not_forall.1 h1
                have h3 : c < j := Classical.byContradiction fun h => h2 fun h4 => absurd h4 h
                exact HHOUR.out.some (by omega) h3 (by cases hw : wOf wl c; exact absurd (fun _ => hw) h2; rfl)
              have hltM : H < M := by have a1 := HX.out; have a2 := HHM.out; omega
              have HLG : Hid (∀ c, c < j → less l (wOf wl) c ≤ g c) := fun c hc => by have h5 := HLL.out c hc; unfold less; omega
              go_wp2_with fail
              all_goals
                first
                  | (refine ⟨⟨H + 1, less l (wOf wl), l2, by go_num, HL2.out, HLE2.out, HLG.out, by have a1 := HX.out; have a2 := HHM.out; omega, below_more HBL4.out x4.ok, HO4.out.later x4⟩, ?_⟩; simp [intOf]; omega)
                  | (go_roundw
                     case rel => exact ⟨H + 1, less l (wOf wl), l2, by go_num, HL2.out, HLE2.out, HLG.out, by have a1 := HX.out; have a2 := HHM.out; omega, below_more HBL4.out x4.ok, HO4.out.later x4⟩
                     case measure => simp [intOf]; omega)
            · have HX : Hid (hoursN l j k = 0) := HHOUR.out.none (by omega) (HD4.out.1 rfl)
              go_wp2_with fail
              go_ret2
              exact ⟨by rw [show H = M by have a1 := HX.out; have a2 := HHM.out; omega]; rfl, later_of (below_more HBL4.out x4.ok)⟩
end Go.Proofs.Ytjokpangacahgaa
