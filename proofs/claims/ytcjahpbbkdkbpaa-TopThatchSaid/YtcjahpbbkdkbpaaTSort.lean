/- slices.SortStableFunc by what is left, and slices.Sort, of at most ten numbers of one's own: walked. -/
import Derived.Test.YtcjahpbbkdkbpaaTIsWork
import Derived.Test.YtcjahpbbkdkbpaaTStepM
import Derived.Test.YtcjahpbbkdkbpaaTSortM
import Derived.Test.YtcjahpbbkdkbpaaTail
namespace Go.Proofs.Ytcjahpbbkdkbpaa
open Go.RowKit

/-- What a sort leaves: the same numbers, in order. -/
def Sorted (Z : World) (v : Value) (kf : Int → Int) (l : List Int) (w' : World) : Prop := ∃ l' : List Int, l'.Perm l ∧ Srt kf l' l.length ∧ Below Z.heap.size Z w' ∧ OwnI w' Z.heap.size v l'
theorem perm_in {l l' : List Int} {n : Nat} (hp : l'.Perm l) (h : ∀ x ∈ l, (0 : Int) ≤ x ∧ x < n) {i : Nat} (hi : i < l'.length) : ∃ c : Nat, at_ l' i = (c : Int) ∧ c < n := by
  have e : at_ l' i = l'[i] := by simp [at_, List.getD_eq_getElem?_getD, List.getElem?_eq_getElem hi]
  have := h _ (hp.mem_iff.1 (List.getElem_mem hi))
  exact ⟨(at_ l' i).toNat, by rw [e]; omega, by rw [e]; omega⟩
set_option maxRecDepth 100000 in
set_option maxHeartbeats 1600000 in
theorem cmp_any (n capL bv a b : Nat) (L : Option Addr) (lf : Nat → Nat) (w : World) (ha : a < n) (hb : b < n) (hlf : ∀ i, i < n → lf i ≤ 1000) (hbv : w.cell? ⟨bv, 0, none⟩ = some (.slice L n capL)) (hlv : bv < w.heap.size) (hp : IsInts w L n fun i => ((lf i : Nat) : Int)) :
    Gives Try.prog 51 #[.int .i64 a, .int .i64 b, .pointer (some ⟨bv, 0, none⟩)] w (.int .i64 (((lf b : Nat) : Int) - ((lf a : Nat) : Int))) := by
  obtain ⟨b1, o1, hA, q⟩ := hp.at_ (by omega)
  subst hA
  have ca := q.at_ a ha
  have cb := q.at_ b hb
  have lq := q.lt
  have g1 := hlf a ha
  have g2 := hlf b hb
  clear q hp hlf
  generalize lf a = fa at *
  generalize lf b = fb at *
  go_enter Try.func51, Try.ntmps51
  go_wp2_with fail
  first | (with_reducible show Code.wp _ _ _ _ (Later.val _); refine wp_region_later_at _ (by kernel_rfl) (by kernel_rfl) ?_) | refine wp_region_later (by kernel_rfl) (by kernel_rfl) ?_
  repeat (go_big_quiet_step ((fail)))
  refine wpQuiet_nil ?_
  intro z
  go_wp2
  go_ret
  exact ⟨rfl, later_of (by repeat (first | exact Below.refl _ _ | (with_reducible assumption) | apply below_later | apply below_alloc | apply below_drew | apply below_drewN))⟩
set_option maxRecDepth 100000 in
set_option maxHeartbeats 6400000 in
theorem insCmp_any (Z V0 : World) (k cap go n capL bv : Nat) (L : Option Addr) (lf : Nat → Nat) (l : List Int) (hk : l.length = k) (hk1 : 1 ≤ k) (hk10 : k ≤ 10) (hin : ∀ x ∈ l, (0 : Int) ≤ x ∧ x < n) (hlf : ∀ i, i < n → lf i ≤ 1000)
    (hbv : Z.cell? ⟨bv, 0, none⟩ = some (.slice L n capL)) (hlv : bv < Z.heap.size) (hp : IsInts Z L n fun i => ((lf i : Nat) : Int)) (hgo : Z.heap.size ≤ go) (hb : Below Z.heap.size Z V0) (ho : OwnI V0 Z.heap.size (.slice (some ⟨go, 0, none⟩) k cap) l) :
    Calls Try.prog 59 #[.slice (some ⟨go, 0, none⟩) k cap, .int .i64 0, .int .i64 k, .func (.func 51) #[] #[.pointer (some ⟨bv, 0, none⟩)]] V0 fun e w' => e = .returned (.tuple #[]) ∧ Sorted Z (.slice (some ⟨go, 0, none⟩) k cap) (fun x => ((lf x.toNat : Nat) : Int)) l w' := by
  have CM := Lib.hid fun (a b : Nat) (V : World) (ha : a < n) (hb' : b < n) (h : Below Z.heap.size Z V) => cmp_any n capL bv a b L lf V ha hb' hlf ((h.cell (p := ⟨bv, 0, none⟩) hlv).trans hbv) (Nat.lt_of_lt_of_le hlv h.size) (hp.below h)
  have HIN := Lib.hid hin
  have HGO := Lib.hid hgo
  have HB := Lib.hid hb
  have HO := Lib.hid ho
  have HKF : Hid (∀ x : Nat, (fun x : Int => ((lf x.toNat : Nat) : Int)) (x : Int) = ((lf x : Nat) : Int)) := fun x => by simp
  have HLF := Lib.hid hlf
  have HK := Lib.hid hk
  generalize hkf : (fun x : Int => ((lf x.toNat : Nat) : Int)) = kf at *
  clear hbv hp hin hb ho hlf hgo hkf hk
  go_enter Try.func59, Try.ntmps59
  go_wp2
  go_loopw [8] (fun u wr => ∃ (i : Nat) (l1 : List Int), u = .int .i64 (i : Nat) ∧ 1 ≤ i ∧ i ≤ k ∧ l1.Perm l ∧ Srt kf l1 i ∧ Below Z.heap.size Z wr ∧ OwnI wr Z.heap.size (.slice (some ⟨go, 0, none⟩) k cap) l1) (fun u _ => k - (intOf u).toNat)
  case atStart => exact ⟨1, l, rfl, by omega, hk1, List.Perm.refl _, Srt.one _ _, HB.out, HO.out⟩
  case round =>
    obtain ⟨i, l1, rfl, hi1, hi, hpm, hst, hbl, ho1⟩ := hrel
    generalize wr = W1 at *
    have HPM := Lib.hid hpm
    have HST := Lib.hid hst
    have HBL := Lib.hid hbl
    have HO1 := Lib.hid ho1
    have HLN : Hid (l1.length = k) := hpm.length_eq.trans HK.out
    clear hpm hst hbl ho1
    by_cases hlt : i < k
    · go_wp2_with fail
      go_loopw [9] (fun u wr => ∃ (j : Nat) (l2 : List Int), u = .int .i64 (j : Nat) ∧ j ≤ i ∧ l2.Perm l ∧ InvS kf l2 i j ∧ Below Z.heap.size Z wr ∧ OwnI wr Z.heap.size (.slice (some ⟨go, 0, none⟩) k cap) l2) (fun u _ => (intOf u).toNat)
      case atStart => exact ⟨i, l1, rfl, by omega, HPM.out, InvS.start HST.out, HBL.out, HO1.out⟩
      case round =>
        obtain ⟨j, l2, rfl, hj, hpm2, hinv, hbl2, ho2⟩ := hrel
        have HPM2 := Lib.hid hpm2
        have HINV := Lib.hid hinv
        have HBL2 := Lib.hid hbl2
        have HO2 := Lib.hid ho2
        have HLN2 : Hid (l2.length = k) := hpm2.length_eq.trans HK.out
        by_cases hj0 : j = 0
        · subst hj0
          have hg1 : decide (((0 : Nat) : Int) > 0) = false := by decide
          have HS : Hid (Srt kf l2 (i + 1)) := hinv.stop (by omega) (.inl rfl)
          clear hpm2 hinv hbl2 ho2
          go_wp2_with fail
          refine wp_region_later (by kernel_rfl) (by kernel_rfl) ?_
          repeat (go_big_quiet_step ((fail)))
          refine wpQuiet_nil ?_
          intro y
          go_wp2_with fail
          all_goals
            first
              | (refine ⟨⟨i + 1, l2, by go_num, by omega, by omega, HPM2.out, HS.out, below_more HBL2.out y.ok, HO2.out.later y⟩, ?_⟩; simp [intOf]; omega)
              | (go_roundw
                 case rel => exact ⟨i + 1, l2, by go_num, by omega, by omega, HPM2.out, HS.out, below_more HBL2.out y.ok, HO2.out.later y⟩
                 case measure => simp [intOf]; omega)
        · have hg1 : decide ((j : Int) > 0) = true := by simp; omega
          have hg2 : decide ((0 : Int) < (j : Int)) = true := by simp; omega
          have hg3 : decide (0 < j) = true := by simp; omega
          have hsub : (j : Int) - 1 = ((j - 1 : Nat) : Int) := by omega
          have hw1 : IntKind.i64.wrap ((j : Int) - 1) = ((j - 1 : Nat) : Int) := by rw [hsub]; exact i64_nat (by omega)
          obtain ⟨ca, hca, hcan⟩ := perm_in hpm2 HIN.out (i := j) (by rw [HLN2.out]; omega)
          obtain ⟨cb, hcb, hcbn⟩ := perm_in hpm2 HIN.out (i := j - 1) (by rw [HLN2.out]; omega)
          obtain ⟨o1, o2⟩ := ho2.cell HLN2.out (i := j) (by omega)
          obtain ⟨o3, _⟩ := ho2.cell HLN2.out (i := j - 1) (by omega)
          have o4 := (own_lt ho2 go rfl).2
          have o5 := o2 j
          have o6 := o2 (j - 1)
          rw [show l2.getD j 0 = (ca : Int) from hca] at o1
          rw [show l2.getD (j - 1) 0 = (cb : Int) from hcb] at o3
          have CMj := Lib.hid fun V h => CM.out ca cb V hcan hcbn h
          have hka := (congrArg kf hca).trans (HKF.out ca)
          have hkb := (congrArg kf hcb).trans (HKF.out cb)
          have hla := HLF.out ca hcan
          have hlb := HLF.out cb hcbn
          have hjk : j < k := by omega
          have hj1k : j - 1 < k := by omega
          by_cases hc : lf cb < lf ca
          · have hs1 : decide (((lf cb : Nat) : Int) - ((lf ca : Nat) : Int) < 0) = true := by simp; omega
            have HSTEP : Hid (InvS kf (swp l2 j) i (j - 1)) := hinv.step (by omega) hj (by rw [HLN2.out]; omega) (by rw [hka, hkb]; omega)
            have HSP : Hid ((swp l2 j).Perm l) := (swp_perm (by omega) (by rw [HLN2.out]; omega)).trans hpm2
            have HSW : Hid (swp l2 j = (l2.set j (cb : Int)).set (j - 1) (ca : Int)) := by show _ = _; unfold swp; rw [hca, hcb]
            clear hpm2 hinv hbl2 ho2 hca hcb hka hkb o2 hc
            generalize lf ca = fa at *
            generalize lf cb = fb at *
            generalize swp l2 j = sw at *
            go_wp2_with fail
            refine wp_region_later (by kernel_rfl) (by kernel_rfl) ?_
            repeat (go_big_quiet_step ((first | (go_at_call 51; (with_reducible refine Later.call _ (CMj.out _ (below_more HBL2.out (by repeat (first | exact Below.refl _ _ | (with_reducible assumption) | apply below_later | apply below_alloc | apply below_drew | apply below_drewN)))))))))
            refine wpQuiet_nil ?_
            intro y
            have p1 := (y.cell _ _ o4).trans o1
            have p2 := (y.cell _ _ o4).trans o3
            have p3 := (y.frozen _ j o4).trans o5
            have p4 := (y.frozen _ (j - 1) o4).trans o6
            have p5 := y.lt _ o4
            have HO3 := Lib.hid (HO2.out.later y)
            have HBL3 : Hid (Below Z.heap.size Z y.val) := below_more HBL2.out y.ok
            clear o1 o3 o4 o5 o6
            generalize y.val = Y at *
            go_wp2_with fail
            go_region
            all_goals
              go_wp2_with fail
              all_goals
                first
                  | (refine ⟨⟨j - 1, sw, by go_num, by omega, HSP.out, HSTEP.out, (HBL3.out.drew.setCell (p := ⟨go, j, none⟩) HGO.out _).setCell (p := ⟨go, j - 1, none⟩) HGO.out _, by rw [HSW.out]; exact (HO3.out.drew.set HLN2.out j _).set (by rw [List.length_set]; exact HLN2.out) (j - 1) _⟩, ?_⟩; simp [intOf]; omega)
                  | (go_roundw
                     case rel => exact ⟨j - 1, sw, by go_num, by omega, HSP.out, HSTEP.out, (HBL3.out.drew.setCell (p := ⟨go, j, none⟩) HGO.out _).setCell (p := ⟨go, j - 1, none⟩) HGO.out _, by rw [HSW.out]; exact (HO3.out.drew.set HLN2.out j _).set (by rw [List.length_set]; exact HLN2.out) (j - 1) _⟩
                     case measure => simp [intOf]; omega)
          · have hs1 : decide (((lf cb : Nat) : Int) - ((lf ca : Nat) : Int) < 0) = false := by simp; omega
            have HS : Hid (Srt kf l2 (i + 1)) := hinv.stop hj (.inr (by rw [hka, hkb]; omega))
            clear hpm2 hinv hbl2 ho2 hca hcb hka hkb o2 hc
            generalize lf ca = fa at *
            generalize lf cb = fb at *
            go_wp2_with fail
            refine wp_region_later (by kernel_rfl) (by kernel_rfl) ?_
            repeat (go_big_quiet_step ((first | (go_at_call 51; (with_reducible refine Later.call _ (CMj.out _ (below_more HBL2.out (by repeat (first | exact Below.refl _ _ | (with_reducible assumption) | apply below_later | apply below_alloc | apply below_drew | apply below_drewN)))))))))
            refine wpQuiet_nil ?_
            intro y
            go_wp2_with fail
            all_goals
              first
                | (refine ⟨⟨i + 1, l2, by go_num, by omega, by omega, HPM2.out, HS.out, below_more HBL2.out y.ok, HO2.out.later y⟩, ?_⟩; simp [intOf]; omega)
                | (go_roundw
                   case rel => exact ⟨i + 1, l2, by go_num, by omega, by omega, HPM2.out, HS.out, below_more HBL2.out y.ok, HO2.out.later y⟩
                   case measure => simp [intOf]; omega)
    · obtain rfl : i = k := by omega
      go_wp2_with fail
      go_end0
      exact ⟨rfl, l1, HPM.out, by rw [HK.out]; exact HST.out, HBL.out, HO1.out⟩
end Go.Proofs.Ytcjahpbbkdkbpaa
