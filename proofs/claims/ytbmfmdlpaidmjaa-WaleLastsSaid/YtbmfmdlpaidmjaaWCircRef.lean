/- Circles of the document; the program's IsCircle, MeanOf and Share. -/
import Derived.Test.YtbmfmdlpaidmjaaWPlansWalk
namespace Go.Proofs.Ytbmfmdlpaidmjaa
open Go.RowKit

theorem fol_last {m : Nat} {f t : Nat → Nat} {c : Nat → Int} {start k a : Nat} (hk : 0 < k) (h : fol m f t c start k = some a) : a = t (c (k - 1)).toNat := by
  obtain ⟨j, rfl⟩ : ∃ j, k = j + 1 := ⟨k - 1, by omega⟩
  rw [Nat.add_sub_cancel]
  rw [fol] at h
  rcases h1 : fol m f t c start j with _ | b
  · rw [h1] at h; cases h
  · rw [h1] at h
    simp only at h
    split at h
    · exact (Option.some.inj h).symm
    · cases h
theorem diffB_false {f p : Nat → Nat} {k i j : Nat} (hi : i < k) (hj : j < i) (h : f (p j) = f (p i)) : diffB f p k = false :=
  allB_false hi (allB_false hj (by simp [h]))
set_option maxRecDepth 100000 in
set_option maxHeartbeats 3200000 in
theorem riscircle_any (n m cap k capB : Nat) (A B : Option Addr) (f t : Nat → Nat) (V : Nat → Int) (c : Nat → Int) (w : World) (hk : k ≤ 2000) (R : Rot n m f t V) (hp : IsChs w A m (fun i => (f i : Int)) (fun i => (t i : Int)) V) (hc : IsInts w B k c) :
    Gives Try.prog 36 #[.slice A m cap, .slice B k capB] w (.bool (circB m f t c k)) := by
  have hn8 := R.n8
  have hm40 := R.m40
  have HR := Lib.hid R
  have WI : Hid (∀ (a : Int) (w : World), Gives Try.prog 49 #[.int .i64 a, .int .i64 0, .int .i64 ((m : Int) - 1)] w (.bool (inS m a))) := fun a w => by
    have h := within_any a 0 ((m : Int) - 1) w
    have e : (decide (0 ≤ a) && decide (a ≤ (m : Int) - 1)) = inS m a := by
      unfold inS
      rw [Bool.eq_iff_iff]
      simp only [Bool.and_eq_true, decide_eq_true_eq]
      omega
    rwa [e] at h
  have HX : Hid (circB m f t c k = ((decide (0 < k) && inS m (c 0)) && (backB2 m f t c k && diffB f (fun i => (c i).toNat) k))) := rfl
  have HPW := Lib.hid hp
  have HCW := Lib.hid hc
  generalize circB m f t c k = rr at *
  clear hp hc R
  by_cases h0 : k = 0
  · subst h0
    have HF : Hid (rr = false) := by show _ = _; rw [HX.out]; simp
    go_enter Try.func36, Try.ntmps36
    go_wp2
    go_ret
    exact ⟨ret_bool HF.out.symm, later_of (by repeat (first | exact Below.refl _ _ | (with_reducible assumption) | apply below_later | apply below_alloc | apply below_drew | apply below_drewN))⟩
  · obtain ⟨bb, oo, rfl, qb⟩ := HCW.out.at_ (by omega)
    have HQB := Lib.hid qb
    have f00 : (0 : Int) < (k : Int) := by omega
    have f0 : ((k : Int) == 0) = false := by rw [beq_eq_false_iff_ne]; omega
    have HK0 : Hid (0 < k) := by show _ < _; omega
    have y0 := HQB.out.at_ 0 HK0.out
    rw [Nat.add_zero] at y0
    have y1 := HQB.out.lt
    clear qb
    cases hi : inS m (c 0)
    · have HF : Hid (rr = false) := by show _ = _; rw [HX.out, hi]; simp
      have I1 := WI.out (c 0)
      rw [hi] at I1
      have I2 := Lib.hid I1
      clear I1 hi HX h0
      go_enter Try.func36, Try.ntmps36
      go_wp2_with (go_at_call 49; with_reducible refine Calls.mono (Gives.calls (I2.out _)) ?_; rintro e w1 ⟨rfl, z, rfl⟩)
      go_ret
      exact ⟨ret_bool HF.out.symm, later_of (by repeat (first | exact Below.refl _ _ | (with_reducible assumption) | apply below_later | apply below_alloc | apply below_drew | apply below_drewN))⟩
    · obtain ⟨i0, hi0, him0⟩ := inS_true hi
      have HX2 : Hid (rr = (backB2 m f t c k && diffB f (fun i => (c i).toNat) k)) := by show _ = _; rw [HX.out, hi]; simp [HK0.out]
      have I1 := WI.out (c 0)
      rw [hi, hi0] at I1
      have I2 := Lib.hid I1
      have HBK : Hid (backB2 m f t c k = match fol m f t c (f i0) k with | some a => decide (a = f i0) | none => false) := by show _ = _; unfold backB2; rw [hi0, Int.toNat_natCast]; rfl
      rw [hi0] at y0
      obtain ⟨ba, oa, rfl, pa⟩ := HPW.out.at_ (by omega)
      have HPA := Lib.hid pa
      have y2 := HPA.out.f i0 him0
      have y3 := HPA.out.lt
      have RI : Hid (∀ w', IsChs w' (some ⟨ba, oa, none⟩) m (fun i => (f i : Int)) (fun i => (t i : Int)) V → IsInts w' (some ⟨bb, oo, none⟩) k c → Gives Try.prog 18 #[.slice (some ⟨ba, oa, none⟩) m cap, .int .i64 (f i0 : Nat), .slice (some ⟨bb, oo, none⟩) k capB] w' (.bool (fol m f t c (f i0) k).isSome)) := fun w' h1 h2 => risplan_any m cap k capB (f i0) _ _ f t V c w' (by omega) hk h1 h2
      clear pa I1 hi HX h0
      rcases hfo : fol m f t c (f i0) k with _ | a
      · have HF : Hid (rr = false) := by show _ = _; rw [HX2.out, HBK.out, hfo]; rfl
        rw [hfo] at RI
        have RI2 : Hid (∀ w', IsChs w' (some ⟨ba, oa, none⟩) m (fun i => (f i : Int)) (fun i => (t i : Int)) V → IsInts w' (some ⟨bb, oo, none⟩) k c → Gives Try.prog 18 #[.slice (some ⟨ba, oa, none⟩) m cap, .int .i64 (f i0 : Nat), .slice (some ⟨bb, oo, none⟩) k capB] w' (.bool false)) := RI.out
        clear hfo RI hi0
        go_enter Try.func36, Try.ntmps36
        go_wp2_with (first | (go_at_call 49; with_reducible refine Calls.mono (Gives.calls (I2.out _)) ?_; rintro e w1 ⟨rfl, z, rfl⟩) | (go_at_call 18; with_reducible refine Calls.mono (Gives.calls (RI2.out _ (HPW.out.below (by repeat (first | exact Below.refl _ _ | (with_reducible assumption) | apply below_later | apply below_alloc | apply below_drew | apply below_drewN))) (HCW.out.below (by repeat (first | exact Below.refl _ _ | (with_reducible assumption) | apply below_later | apply below_alloc | apply below_drew | apply below_drewN))))) ?_; rintro e w1 ⟨rfl, z2, rfl⟩))
        go_ret
        exact ⟨ret_bool HF.out.symm, later_of (by repeat (first | exact Below.refl _ _ | (with_reducible assumption) | apply below_later | apply below_alloc | apply below_drew | apply below_drewN))⟩
      · have HIN : Hid (∀ i, i < k → inS m (c i) = true) := fol_in hfo
        rw [hfo] at RI
        have RI2 : Hid (∀ w', IsChs w' (some ⟨ba, oa, none⟩) m (fun i => (f i : Int)) (fun i => (t i : Int)) V → IsInts w' (some ⟨bb, oo, none⟩) k c → Gives Try.prog 18 #[.slice (some ⟨ba, oa, none⟩) m cap, .int .i64 (f i0 : Nat), .slice (some ⟨bb, oo, none⟩) k capB] w' (.bool true)) := RI.out
        have HL : Hid (a = t (c (k - 1)).toNat) := fol_last HK0.out hfo
        have HX3 : Hid (rr = (decide (a = f i0) && diffB f (fun i => (c i).toNat) k)) := by show _ = _; rw [HX2.out, HBK.out, hfo]
        have HP0 : Hid ((c 0).toNat = i0) := by show _ = _; rw [hi0, Int.toNat_natCast]
        clear hfo RI hi0
        have HCM : Hid (∀ i, i < k → ∃ x : Nat, c i = x ∧ (c i).toNat = x ∧ x < m) := fun i hi => by
          obtain ⟨x, hx, hm⟩ := inS_true (HIN.out i hi)
          exact ⟨x, hx, by rw [hx, Int.toNat_natCast], hm⟩
        go_enter Try.func36, Try.ntmps36
        go_wp2_with (first | (go_at_call 49; with_reducible refine Calls.mono (Gives.calls (I2.out _)) ?_; rintro e w1 ⟨rfl, z, rfl⟩) | (go_at_call 18; with_reducible refine Calls.mono (Gives.calls (RI2.out _ (HPW.out.below (by repeat (first | exact Below.refl _ _ | (with_reducible assumption) | apply below_later | apply below_alloc | apply below_drew | apply below_drewN))) (HCW.out.below (by repeat (first | exact Below.refl _ _ | (with_reducible assumption) | apply below_later | apply below_alloc | apply below_drew | apply below_drewN))))) ?_; rintro e w1 ⟨rfl, z2, rfl⟩))
        have HBZ : Hid (Below w.heap.size w z2.val) := below_later z.ok
        have HPZ : Hid (Chs z2.val ba oa m (fun i => (f i : Int)) (fun i => (t i : Int)) V) := HPA.out.below HBZ.out
        have HQZ : Hid (Ints z2.val bb oo k c) := HQB.out.below HBZ.out
        clear y0 y1 y2 y3 HX2 HBK
        generalize z2.val = Z at *
        go_loopw [5] (fun v wr => ∃ i : Nat, v = .int .i64 (i : Nat) ∧ i ≤ k ∧ diffB f (fun i => (c i).toNat) i = true ∧ ∃ x : Later Z, wr = x.val) (fun v _ => k - (intOf v).toNat)
        case atStart => exact ⟨0, rfl, by omega, rfl, later_of (by repeat (first | exact Below.refl _ _ | (with_reducible assumption) | apply below_later | apply below_alloc | apply below_drew | apply below_drewN))⟩
        case round =>
          obtain ⟨i, rfl, hik, hd, x, rfl⟩ := hrel
          have HD := Lib.hid hd
          clear hd
          by_cases hlt : i < k
          · obtain ⟨pi, ei1, ei2, him⟩ := HCM.out i hlt
            have HPZX := Lib.hid (HPZ.out.later x)
            have HQZX := Lib.hid (HQZ.out.later x)
            have HXZ : Hid (Below Z.heap.size Z x.val) := x.ok
            have DS : Hid (∀ j pj, j < i → (c j).toNat = pj → f pj = f pi → rr = false) := fun j pj hj he h => by
              rw [HX3.out, diffB_false (p := fun i => (c i).toNat) hlt hj (by show f _ = f _; rw [he, ei2]; exact h)]
              simp
            have DT : Hid ((allB i fun j => decide (f (c j).toNat ≠ f pi)) = true → diffB f (fun i => (c i).toNat) (i + 1) = true) := fun h => by
              rw [diffB_succ, HD.out]
              rw [ei2, Bool.true_and]
              exact h
            have qi := HQZX.out.at_ i hlt
            rw [ei1] at qi
            have xi := HPZX.out.f pi him
            have q1 := HQZX.out.lt
            have x1 := HPZX.out.lt
            clear ei1 ei2 HD
            generalize x.val = XV at *
            go_wp2_with fail
            go_loopw [6] (fun v wr => ∃ j : Nat, v = .int .i64 (j : Nat) ∧ j ≤ i ∧ (∀ x, x < j → decide (f (c x).toNat ≠ f pi) = true) ∧ ∃ x : Later XV, wr = x.val) (fun v _ => i - (intOf v).toNat)
            case atStart => exact ⟨0, rfl, by omega, fun x hx => by omega, later_of (by repeat (first | exact Below.refl _ _ | (with_reducible assumption) | apply below_later | apply below_alloc | apply below_drew | apply below_drewN))⟩
            case round =>
              obtain ⟨j, rfl, hji, hall, y, rfl⟩ := hrel
              have HALL := Lib.hid hall
              clear hall
              by_cases hjl : j < i
              · obtain ⟨pj, ej1, ej2, hjm⟩ := HCM.out j (by omega)
                have qj := HQZX.out.at_ j (by omega)
                rw [ej1] at qj
                have xj := HPZX.out.f pj hjm
                have hjk : j < k := by omega
                clear ej1
                by_cases he : f pj = f pi
                · have e1 : ((f pi : Int) == (f pj : Int)) = true := by simp [he]
                  have HF := Lib.hid (DS.out j pj hjl ej2 he)
                  clear ej2 he
                  go_wp2_with fail
                  first | (with_reducible show Code.wp _ _ _ _ (Later.val _); refine wp_region_later_at _ (by kernel_rfl) (by kernel_rfl) ?_) | refine wp_region_later (by kernel_rfl) (by kernel_rfl) ?_
                  repeat (go_big_quiet_step ((fail)))
                  refine wpQuiet_nil ?_
                  intro q
                  go_wp2
                  go_ret
                  exact ⟨ret_bool HF.out.symm, ⟨q.val, below_later (below_more HBZ.out HXZ.out)⟩, rfl⟩
                · have e1 : ((f pi : Int) == (f pj : Int)) = false := by rw [beq_eq_false_iff_ne]; omega
                  have HS : Hid (decide (f (c j).toNat ≠ f pi) = true) := by show _ = _; rw [ej2]; simpa using he
                  clear ej2 he
                  go_wp2_with fail
                  first | (with_reducible show Code.wp _ _ _ _ (Later.val _); refine wp_region_later_at _ (by kernel_rfl) (by kernel_rfl) ?_) | refine wp_region_later (by kernel_rfl) (by kernel_rfl) ?_
                  repeat (go_big_quiet_step ((fail)))
                  refine wpQuiet_nil ?_
                  intro q
                  go_wp2_with fail
                  go_roundw
                  case rel => exact ⟨j + 1, by go_num, by omega, all_step HALL.out HS.out, ⟨q, rfl⟩⟩
                  case measure => simp [intOf]; omega
              · obtain rfl : j = i := by omega
                have HN := Lib.hid (DT.out (allB_true HALL.out))
                go_wp2_with fail
                go_roundw
                case rel => exact ⟨j + 1, by go_num, by omega, HN.out, ⟨⟨_, below_later HXZ.out⟩, rfl⟩⟩
                case measure => simp [intOf]; omega
          · obtain rfl : i = k := by omega
            obtain ⟨pl, el1, el2, hlm⟩ := HCM.out (i - 1) (by have := HK0.out; omega)
            have hk1 : ((i : Int) - 1).toNat = i - 1 := by omega
            have hk2 : (0 : Int) ≤ (i : Int) - 1 := by omega
            have hk3 : (i : Int) - 1 < (i : Int) := by omega
            have hk4 : i - 1 < i := by have := HK0.out; omega
            have hk5 : IntKind.i64.wrap ((i : Int) - 1) = (i : Int) - 1 := IntWalk.i64_in _ ⟨by omega, by omega⟩
            have ql := HQZ.out.at_ (i - 1) hk4
            rw [el1] at ql
            have q0 := HQZ.out.at_ 0 HK0.out
            obtain ⟨p0, e01, e02, h0m⟩ := HCM.out 0 HK0.out
            rw [e01, Nat.add_zero] at q0
            have hp0 : p0 = i0 := e02.symm.trans HP0.out
            subst hp0
            have xl := HPZ.out.t pl hlm
            have x0 := HPZ.out.f p0 him0
            have q1 := HQZ.out.lt
            have x1 := HPZ.out.lt
            have HE : Hid (rr = ((t pl : Int) == (f p0 : Int))) := by
              show _ = _
              rw [HX3.out, HD.out, HL.out, el2, Bool.and_true, Bool.eq_iff_iff]
              simp
              omega
            clear el1 el2 e01 e02
            go_wp2_with fail
            first | (with_reducible show Code.wp _ _ _ _ (Later.val _); refine wp_region_later_at _ (by kernel_rfl) (by kernel_rfl) ?_) | refine wp_region_later (by kernel_rfl) (by kernel_rfl) ?_
            repeat (go_big_quiet_step ((fail)))
            refine wpQuiet_nil ?_
            intro q
            go_wp2
            go_ret
            exact ⟨ret_bool (by rw [HE.out]), ⟨_, below_later (below_more HBZ.out (by repeat (first | exact Below.refl _ _ | (with_reducible assumption) | apply below_later | apply below_alloc | apply below_drew | apply below_drewN)))⟩, rfl⟩
end Go.Proofs.Ytbmfmdlpaidmjaa
