/- slices.Sort and slices.SortStableFunc of at most ten numbers of one's own: walked. -/
import Derived.Test.YtcjahpbbkdkbpaaTSort
namespace Go.Proofs.Ytcjahpbbkdkbpaa
open Go.RowKit

theorem nan_any (a : Int) (w : World) : Gives Try.prog 78 #[.int .i64 a] w (.bool false) := by
  have e : (a != a) = false := by simp
  go_enter Try.func78, Try.ntmps78
  go_wp2
  go_ret
  exact ⟨ret_bool (by simp), later_of (by repeat (first | exact Below.refl _ _ | (with_reducible assumption) | apply below_later | apply below_alloc | apply below_drew | apply below_drewN))⟩
theorem less_any (a b : Nat) (w : World) : Gives Try.prog 67 #[.int .i64 a, .int .i64 b] w (.bool (decide ((a : Int) < (b : Int)))) := by
  have N1 := Lib.hid fun V => nan_any a V
  have N2 := Lib.hid fun V => nan_any b V
  by_cases h : (a : Int) < (b : Int)
  all_goals
    go_enter Try.func67, Try.ntmps67
    go_wp2_with (first | (go_at_call 78; with_reducible refine Calls.mono (Gives.calls (N1.out _)) ?_; rintro e w1 ⟨rfl, z1, rfl⟩) | (go_at_call 78; with_reducible refine Calls.mono (Gives.calls (N2.out _)) ?_; rintro e w1 ⟨rfl, z2, rfl⟩))
    go_ret
    exact ⟨ret_bool (by simp [h]), later_of (by repeat (first | exact Below.refl _ _ | (with_reducible assumption) | apply below_later | apply below_alloc | apply below_drew | apply below_drewN))⟩
set_option maxRecDepth 100000 in
set_option maxHeartbeats 6400000 in
theorem insOrd_any (Z V0 : World) (k cap go n : Nat) (l : List Int) (hk : l.length = k) (hk1 : 1 ≤ k) (hk10 : k ≤ 10) (hin : ∀ x ∈ l, (0 : Int) ≤ x ∧ x < n) (hn : n ≤ 1000000) (hgo : Z.heap.size ≤ go) (hb : Below Z.heap.size Z V0) (ho : OwnI V0 Z.heap.size (.slice (some ⟨go, 0, none⟩) k cap) l) :
    Calls Try.prog 61 #[.slice (some ⟨go, 0, none⟩) k cap, .int .i64 0, .int .i64 k] V0 fun e w' => e = .returned (.tuple #[]) ∧ Sorted Z (.slice (some ⟨go, 0, none⟩) k cap) (fun x => -x) l w' := by
  have CM := Lib.hid fun (a b : Nat) (V : World) => less_any a b V
  have HIN := Lib.hid hin
  have HGO := Lib.hid hgo
  have HB := Lib.hid hb
  have HO := Lib.hid ho
  have HKF : Hid (∀ x : Nat, (fun x : Int => -x) (x : Int) = -(x : Int)) := fun x => rfl
  have HK := Lib.hid hk
  generalize hkf : (fun x : Int => -x) = kf at *
  clear hin hb ho hgo hkf hk
  go_enter Try.func61, Try.ntmps61
  go_wp2
  go_loopw [6] (fun u wr => ∃ (i : Nat) (l1 : List Int), u = .int .i64 (i : Nat) ∧ 1 ≤ i ∧ i ≤ k ∧ l1.Perm l ∧ Srt kf l1 i ∧ Below Z.heap.size Z wr ∧ OwnI wr Z.heap.size (.slice (some ⟨go, 0, none⟩) k cap) l1) (fun u _ => k - (intOf u).toNat)
  case atStart => exact ⟨1, l, rfl, by omega, hk1, List.Perm.refl _, Srt.one _ _, HB.out, HO.out⟩
  case round =>
    obtain ⟨i, l1, rfl, hi1, hi, hpm, hst, hbl, ho1⟩ := hrel
    generalize wr = W1 at *
    have HPM := Lib.hid hpm
    have HST := Lib.hid hst
    have HBL := Lib.hid hbl
    have HO1 := Lib.hid ho1
    have HLN : Hid (l1.length = k) := hpm.length_eq.trans HK.out
    clear hpm hst hbl ho1
    by_cases hlt : i < k
    · go_wp2_with fail
      go_loopw [7] (fun u wr => ∃ (j : Nat) (l2 : List Int), u = .int .i64 (j : Nat) ∧ j ≤ i ∧ l2.Perm l ∧ InvS kf l2 i j ∧ Below Z.heap.size Z wr ∧ OwnI wr Z.heap.size (.slice (some ⟨go, 0, none⟩) k cap) l2) (fun u _ => (intOf u).toNat)
      case atStart => exact ⟨i, l1, rfl, by omega, HPM.out, InvS.start HST.out, HBL.out, HO1.out⟩
      case round =>
        obtain ⟨j, l2, rfl, hj, hpm2, hinv, hbl2, ho2⟩ := hrel
        have HPM2 := Lib.hid hpm2
        have HINV := Lib.hid hinv
        have HBL2 := Lib.hid hbl2
        have HO2 := Lib.hid ho2
        have HLN2 : Hid (l2.length = k) := hpm2.length_eq.trans HK.out
        by_cases hj0 : j = 0
        · subst hj0
          have hg1 : decide (((0 : Nat) : Int) > 0) = false := by decide
          have HS : Hid (Srt kf l2 (i + 1)) := hinv.stop (by omega) (.inl rfl)
          clear hpm2 hinv hbl2 ho2
          go_wp2_with fail
          refine wp_region_later (by kernel_rfl) (by kernel_rfl) ?_
          repeat (go_big_quiet_step ((fail)))
          refine wpQuiet_nil ?_
          intro y
          go_wp2_with fail
          all_goals
            first
              | (refine ⟨⟨i + 1, l2, by go_num, by omega, by omega, HPM2.out, HS.out, below_more HBL2.out y.ok, HO2.out.later y⟩, ?_⟩; simp [intOf]; omega)
              | (go_roundw
                 case rel => exact ⟨i + 1, l2, by go_num, by omega, by omega, HPM2.out, HS.out, below_more HBL2.out y.ok, HO2.out.later y⟩
                 case measure => simp [intOf]; omega)
        · have hg1 : decide ((j : Int) > 0) = true := by simp; omega
          have hg2 : decide ((0 : Int) < (j : Int)) = true := by simp; omega
          have hg3 : decide (0 < j) = true := by simp; omega
          have hsub : (j : Int) - 1 = ((j - 1 : Nat) : Int) := by omega
          have hw1 : IntKind.i64.wrap ((j : Int) - 1) = ((j - 1 : Nat) : Int) := by rw [hsub]; exact i64_nat (by omega)
          obtain ⟨ca, hca, hcan⟩ := perm_in hpm2 HIN.out (i := j) (by rw [HLN2.out]; omega)
          obtain ⟨cb, hcb, hcbn⟩ := perm_in hpm2 HIN.out (i := j - 1) (by rw [HLN2.out]; omega)
          obtain ⟨o1, o2⟩ := ho2.cell HLN2.out (i := j) (by omega)
          obtain ⟨o3, _⟩ := ho2.cell HLN2.out (i := j - 1) (by omega)
          have o4 := (own_lt ho2 go rfl).2
          have o5 := o2 j
          have o6 := o2 (j - 1)
          rw [show l2.getD j 0 = (ca : Int) from hca] at o1
          rw [show l2.getD (j - 1) 0 = (cb : Int) from hcb] at o3
          have CMj := Lib.hid fun V => CM.out ca cb V
          have hka := (congrArg kf hca).trans (HKF.out ca)
          have hkb := (congrArg kf hcb).trans (HKF.out cb)
          have hjk : j < k := by omega
          have hj1k : j - 1 < k := by omega
          by_cases hc : ca < cb
          · have hs1 : decide ((ca : Int) < (cb : Int)) = true := by simp; omega
            rw [hs1] at CMj
            have HSTEP : Hid (InvS kf (swp l2 j) i (j - 1)) := hinv.step (by omega) hj (by rw [HLN2.out]; omega) (by rw [hka, hkb]; omega)
            have HSP : Hid ((swp l2 j).Perm l) := (swp_perm (by omega) (by rw [HLN2.out]; omega)).trans hpm2
            have HSW : Hid (swp l2 j = (l2.set j (cb : Int)).set (j - 1) (ca : Int)) := by show _ = _; unfold swp; rw [hca, hcb]
            clear hpm2 hinv hbl2 ho2 hca hcb hka hkb o2 hc
            generalize swp l2 j = sw at *
            go_wp2_with fail
            refine wp_region_later (by kernel_rfl) (by kernel_rfl) ?_
            repeat (go_big_quiet_step ((first | (go_at_call 67; (with_reducible refine Later.call _ (CMj.out _))))))
            refine wpQuiet_nil ?_
            intro y
            have p1 := (y.cell _ _ o4).trans o1
            have p2 := (y.cell _ _ o4).trans o3
            have p3 := (y.frozen _ j o4).trans o5
            have p4 := (y.frozen _ (j - 1) o4).trans o6
            have p5 := y.lt _ o4
            have HO3 := Lib.hid (HO2.out.later y)
            have HBL3 : Hid (Below Z.heap.size Z y.val) := below_more HBL2.out y.ok
            clear o1 o3 o4 o5 o6
            generalize y.val = Y at *
            go_wp2_with fail
            go_region
            all_goals
              go_wp2_with fail
              all_goals
                first
                  | (refine ⟨⟨j - 1, sw, by go_num, by omega, HSP.out, HSTEP.out, (HBL3.out.drew.setCell (p := ⟨go, j, none⟩) HGO.out _).setCell (p := ⟨go, j - 1, none⟩) HGO.out _, by rw [HSW.out]; exact (HO3.out.drew.set HLN2.out j _).set (by rw [List.length_set]; exact HLN2.out) (j - 1) _⟩, ?_⟩; simp [intOf]; omega)
                  | (go_roundw
                     case rel => exact ⟨j - 1, sw, by go_num, by omega, HSP.out, HSTEP.out, (HBL3.out.drew.setCell (p := ⟨go, j, none⟩) HGO.out _).setCell (p := ⟨go, j - 1, none⟩) HGO.out _, by rw [HSW.out]; exact (HO3.out.drew.set HLN2.out j _).set (by rw [List.length_set]; exact HLN2.out) (j - 1) _⟩
                     case measure => simp [intOf]; omega)
          · have hs1 : decide ((ca : Int) < (cb : Int)) = false := by simp; omega
            rw [hs1] at CMj
            have HS : Hid (Srt kf l2 (i + 1)) := hinv.stop hj (.inr (by rw [hka, hkb]; omega))
            clear hpm2 hinv hbl2 ho2 hca hcb hka hkb o2 hc
            go_wp2_with fail
            refine wp_region_later (by kernel_rfl) (by kernel_rfl) ?_
            repeat (go_big_quiet_step ((first | (go_at_call 67; (with_reducible refine Later.call _ (CMj.out _))))))
            refine wpQuiet_nil ?_
            intro y
            go_wp2_with fail
            all_goals
              first
                | (refine ⟨⟨i + 1, l2, by go_num, by omega, by omega, HPM2.out, HS.out, below_more HBL2.out y.ok, HO2.out.later y⟩, ?_⟩; simp [intOf]; omega)
                | (go_roundw
                   case rel => exact ⟨i + 1, l2, by go_num, by omega, by omega, HPM2.out, HS.out, below_more HBL2.out y.ok, HO2.out.later y⟩
                   case measure => simp [intOf]; omega)
    · obtain rfl : i = k := by omega
      go_wp2_with fail
      go_end0
      exact ⟨rfl, l1, HPM.out, by rw [HK.out]; exact HST.out, HBL.out, HO1.out⟩

set_option maxRecDepth 100000 in
theorem len64_any (k : Nat) (w : World) (hk : k ≤ 10) : Calls Try.prog 71 #[.int .u64 k] w fun e w' => ∃ r : Int, e = .returned (.int .i64 r) ∧ ∃ x : Later w, w' = x.val := by
  have hc : k = 0 ∨ k = 1 ∨ k = 2 ∨ k = 3 ∨ k = 4 ∨ k = 5 ∨ k = 6 ∨ k = 7 ∨ k = 8 ∨ k = 9 ∨ k = 10 := by omega
  rcases hc with rfl | rfl | rfl | rfl | rfl | rfl | rfl | rfl | rfl | rfl | rfl
  all_goals
    go_enter Try.func71, Try.ntmps71
    go_wp2
    go_ret
    exact ⟨_, rfl, later_of (by repeat (first | exact Below.refl _ _ | (with_reducible assumption) | apply below_later | apply below_alloc | apply below_drew | apply below_drewN))⟩
theorem len_any (k : Nat) (w : World) (hk : k ≤ 10) : Calls Try.prog 57 #[.int .u64 k] w fun e w' => ∃ r : Int, e = .returned (.int .i64 r) ∧ ∃ x : Later w, w' = x.val := by
  have LL := Lib.hid fun V => len64_any k V hk
  go_enter Try.func57, Try.ntmps57
  go_wp2_with (go_at_call 71; with_reducible refine Calls.mono (LL.out _) ?_; rintro e w1 ⟨r, rfl, z, rfl⟩)
  go_ret
  exact ⟨_, rfl, later_of (by repeat (first | exact Below.refl _ _ | (with_reducible assumption) | apply below_later | apply below_alloc | apply below_drew | apply below_drewN))⟩
set_option maxRecDepth 100000 in
theorem pdq_any (Z V0 : World) (k cap go n : Nat) (r : Int) (l : List Int) (hk : l.length = k) (hk1 : 1 ≤ k) (hk10 : k ≤ 10) (hin : ∀ x ∈ l, (0 : Int) ≤ x ∧ x < n) (hn : n ≤ 1000000) (hgo : Z.heap.size ≤ go) (hb : Below Z.heap.size Z V0) (ho : OwnI V0 Z.heap.size (.slice (some ⟨go, 0, none⟩) k cap) l) :
    Calls Try.prog 56 #[.slice (some ⟨go, 0, none⟩) k cap, .int .i64 0, .int .i64 k, .int .i64 r] V0 fun e w' => e = .returned (.tuple #[]) ∧ Sorted Z (.slice (some ⟨go, 0, none⟩) k cap) (fun x => -x) l w' := by
  have IO := Lib.hid (insOrd_any Z V0 k cap go n l hk hk1 hk10 hin hn hgo hb ho)
  generalize Sorted Z (.slice (some ⟨go, 0, none⟩) k cap) (fun x => -x) l = S at *
  clear hk hin hgo hb ho
  go_enter Try.func56, Try.ntmps56
  go_wp2_with fail
  go_loopw [1, 2] (fun a b wr => a = .int .i64 0 ∧ b = .int .i64 k ∧ wr = V0) (fun _ _ _ => 0)
  case atStart => exact ⟨rfl, rfl, rfl⟩
  case round =>
    obtain ⟨rfl, rfl, rfl⟩ := hrel
    have hg : decide (((k : Nat) : Int) ≤ 12) = true := by simp; omega
    have hw : IntKind.i64.wrap (((k : Nat) : Int) - 0) = (k : Int) := by rw [show ((k : Nat) : Int) - 0 = (k : Int) from by omega]; exact i64_nat (by omega)
    go_wp2_with (go_at_call 61; with_reducible refine Calls.mono IO.out ?_; rintro e w1 ⟨rfl, hs⟩; have HS := Lib.hid hs; clear hs)
    refine bodyPost_ret (results_none rfl _ _ _) rfl ?_
    exact ⟨rfl, HS.out⟩
theorem sort_any (Z V0 : World) (k cap go n : Nat) (l : List Int) (hk : l.length = k) (hk1 : 1 ≤ k) (hk10 : k ≤ 10) (hin : ∀ x ∈ l, (0 : Int) ≤ x ∧ x < n) (hn : n ≤ 1000000) (hgo : Z.heap.size ≤ go) (hb : Below Z.heap.size Z V0) (ho : OwnI V0 Z.heap.size (.slice (some ⟨go, 0, none⟩) k cap) l) :
    Calls Try.prog 52 #[.slice (some ⟨go, 0, none⟩) k cap] V0 fun e w' => e = .returned (.tuple #[]) ∧ Sorted Z (.slice (some ⟨go, 0, none⟩) k cap) (fun x => -x) l w' := by
  have LN := Lib.hid (len_any k V0 hk10)
  have PD := Lib.hid fun (r : Int) (x : Later V0) => pdq_any Z x.val k cap go n r l hk hk1 hk10 hin hn hgo (below_more hb x.ok) (ho.later x)
  generalize Sorted Z (.slice (some ⟨go, 0, none⟩) k cap) (fun x => -x) l = S at *
  clear hk hin hgo hb ho
  have hcv : IntKind.u64.wrap (k : Int) = (k : Int) := by rw [IntKind.wrap]; simp only [IntKind.signed, IntKind.bits, Bool.false_and, Bool.false_eq_true, if_false]; omega
  go_enter Try.func52, Try.ntmps52
  go_wp2_with (first | (go_at_call 57; with_reducible refine Calls.mono LN.out ?_; rintro e w1 ⟨r, rfl, z, rfl⟩) | (go_at_call 56; with_reducible refine Calls.mono (PD.out _ _) ?_; rintro e w2 ⟨rfl, hs⟩; have HS := Lib.hid hs; clear hs))
  go_end0
  exact ⟨rfl, HS.out⟩
set_option maxRecDepth 100000 in
theorem stable_any (Z V0 : World) (k cap go n capL bv : Nat) (L : Option Addr) (lf : Nat → Nat) (l : List Int) (hk : l.length = k) (hk1 : 1 ≤ k) (hk10 : k ≤ 10) (hin : ∀ x ∈ l, (0 : Int) ≤ x ∧ x < n) (hlf : ∀ i, i < n → lf i ≤ 1000)
    (hbv : Z.cell? ⟨bv, 0, none⟩ = some (.slice L n capL)) (hlv : bv < Z.heap.size) (hp : IsInts Z L n fun i => ((lf i : Nat) : Int)) (hgo : Z.heap.size ≤ go) (hb : Below Z.heap.size Z V0) (ho : OwnI V0 Z.heap.size (.slice (some ⟨go, 0, none⟩) k cap) l) :
    Calls Try.prog 55 #[.slice (some ⟨go, 0, none⟩) k cap, .int .i64 k, .func (.func 51) #[] #[.pointer (some ⟨bv, 0, none⟩)]] V0 fun e w' => e = .returned (.tuple #[]) ∧ Sorted Z (.slice (some ⟨go, 0, none⟩) k cap) (fun x => ((lf x.toNat : Nat) : Int)) l w' := by
  have IO := Lib.hid (insCmp_any Z V0 k cap go n capL bv L lf l hk hk1 hk10 hin hlf hbv hlv hp hgo hb ho)
  generalize Sorted Z (.slice (some ⟨go, 0, none⟩) k cap) (fun x => ((lf x.toNat : Nat) : Int)) l = S at *
  clear hk hin hgo hb ho hlf hbv hlv hp
  have hg : decide ((20 : Int) ≤ (k : Int)) = false := by simp; omega
  have hg2 : decide ((20 : Int) < (k : Int)) = false := by simp; omega
  go_enter Try.func55, Try.ntmps55
  go_wp2_with fail
  go_loopw [7, 8] (fun a b wr => a = .int .i64 0 ∧ b = .int .i64 20 ∧ wr = V0) (fun _ _ _ => 0)
  case atStart => exact ⟨rfl, rfl, rfl⟩
  case round =>
    obtain ⟨rfl, rfl, rfl⟩ := hrel
    go_wp2_with (go_at_call 59; with_reducible refine Calls.mono IO.out ?_; rintro e w1 ⟨rfl, hs⟩; have HS := Lib.hid hs; clear hs)
    go_loopw [6] (fun a wr => a = .int .i64 20 ∧ wr = w1) (fun _ _ => 0)
    case atStart => exact ⟨rfl, rfl⟩
    case round =>
      obtain ⟨rfl, rfl⟩ := hrel
      go_wp2_with fail
      go_end0
      exact ⟨rfl, HS.out⟩
theorem sortStable_any (Z V0 : World) (k cap go n capL bv : Nat) (L : Option Addr) (lf : Nat → Nat) (l : List Int) (hk : l.length = k) (hk1 : 1 ≤ k) (hk10 : k ≤ 10) (hin : ∀ x ∈ l, (0 : Int) ≤ x ∧ x < n) (hlf : ∀ i, i < n → lf i ≤ 1000)
    (hbv : Z.cell? ⟨bv, 0, none⟩ = some (.slice L n capL)) (hlv : bv < Z.heap.size) (hp : IsInts Z L n fun i => ((lf i : Nat) : Int)) (hgo : Z.heap.size ≤ go) (hb : Below Z.heap.size Z V0) (ho : OwnI V0 Z.heap.size (.slice (some ⟨go, 0, none⟩) k cap) l) :
    Calls Try.prog 50 #[.slice (some ⟨go, 0, none⟩) k cap, .func (.func 51) #[] #[.pointer (some ⟨bv, 0, none⟩)]] V0 fun e w' => e = .returned (.tuple #[]) ∧ Sorted Z (.slice (some ⟨go, 0, none⟩) k cap) (fun x => ((lf x.toNat : Nat) : Int)) l w' := by
  have IO := Lib.hid (stable_any Z V0 k cap go n capL bv L lf l hk hk1 hk10 hin hlf hbv hlv hp hgo hb ho)
  generalize Sorted Z (.slice (some ⟨go, 0, none⟩) k cap) (fun x => ((lf x.toNat : Nat) : Int)) l = S at *
  clear hk hin hgo hb ho hlf hbv hlv hp
  go_enter Try.func50, Try.ntmps50
  go_wp2_with (go_at_call 55; with_reducible refine Calls.mono IO.out ?_; rintro e w1 ⟨rfl, hs⟩; have HS := Lib.hid hs; clear hs)
  go_end0
  exact ⟨rfl, HS.out⟩
end Go.Proofs.Ytcjahpbbkdkbpaa
