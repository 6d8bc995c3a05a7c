/- wader's divide: walked, with isBird and with areApart. -/
import Derived.Test.YtlljjaafejjeeaaKDivMath
namespace Go.Proofs.Ytlljjaafejjeeaa
open Go.RowKit Go.Maps

set_option maxRecDepth 100000 in
set_option maxHeartbeats 6400000 in
theorem divide_isBird (n cap k c1 : Nat) (s : Int) (A B : Option Addr) (R : Nat → Row) (q : Nat → Bool) (w : World) (hn : n ≤ 1000) (hk : k ≤ 1000) (hr : ∀ i, i < k → (R i).n ≤ 1000) (hp : IsTab w B k R)
    (hq : ∀ V, Below w.heap.size w V → ∀ i, i < k → Gives Try.prog 30 #[.agg #[.slice A n cap, .int .i64 s], (R i).val] V (.bool (q i)))
    (hin : ∀ i, i < k → q i = true → ∀ j, j < (R i).n → ∃ x : Nat, (R i).f j = x ∧ x < n) :
    Gives Try.prog 29 #[.agg #[.slice A n cap, .int .i64 s], .slice B k c1, .func (.func 30) #[.agg #[.slice A n cap, .int .i64 s]] #[]] w (.bool (divB n k R fun i => decide (0 < (R i).n) && q i)) := by
  have hb : Below w.heap.size w (w.alloc (.cells #[.slice A n cap, .int .i64 s] 53)) := (Below.refl _ _).alloc (Nat.le_refl _) _
  obtain ⟨n0, n1, l0⟩ := box2 w (.slice A n cap) (.int .i64 s) 53
  have HB := Lib.hid hb
  have HP := Lib.hid (hp.below hb)
  have HQ := Lib.hid hq
  have HIN := Lib.hid hin
  have HRN := Lib.hid hr
  have HD : Hid (divB n k R (fun i => decide (0 < (R i).n) && q i) = (allB k (fun i => decide (0 < (R i).n) && q i) && (decide (flatN R k).Nodup && decide ((flatN R k).length = n)))) := rfl
  generalize divB n k R (fun i => decide (0 < (R i).n) && q i) = res at *
  have hmm := @run_makeMap Try.prog
  clear hp hb hq hin hr
  go_enter Try.func29, Try.ntmps29
  go_wp2
  have hz : (w.alloc (.cells #[.slice A n cap, .int .i64 s] 53)).heap.size = w.heap.size + 1 := by simp
  obtain ⟨b8, hb8⟩ : ∃ b8, w.heap.size = b8 := ⟨_, rfl⟩
  rw [hb8] at n0 n1 l0 hz ⊢
  have HB8 := Lib.hid hb8
  clear hb8
  generalize w.alloc (.cells #[.slice A n cap, .int .i64 s] 53) = Z at *
  have HM0 : Hid ((Z.alloc (.map #[] 0)).ownsMap Try.prog 3 (plainElem Try.prog 4) (b8 + 1) 0 (.map [] : DataW Unit)) := by
    have h := World.ownsMap_made (H := Unit) Z Try.prog 3 (plainElem Try.prog 4)
    rw [hz] at h
    exact h
  obtain ⟨bm, hbm⟩ : ∃ bm, b8 + 1 = bm := ⟨_, rfl⟩
  rw [hbm] at HM0 hz ⊢
  have HZ := Lib.hid hz
  clear hz hmm hbm
  go_loopw [15] (fun v wr => ∃ (i c : Nat) (D : DataW Unit), v = .int .i64 (i : Nat) ∧ i ≤ k ∧ Below Z.heap.size Z wr ∧ wr.ownsMap Try.prog 3 (plainElem Try.prog 4) bm c D ∧ c ≤ 1000 * i ∧ SeenL (flatN R i) D ∧ (flatN R i).Nodup ∧ ∀ j, j < i → (decide (0 < (R j).n) && q j) = true) (fun v _ => k - (intOf v).toNat)
  case atStart => exact ⟨0, 0, .map [], rfl, by omega, (Below.refl _ _).alloc (Nat.le_refl _) _, HM0.out, by omega, SeenL.zero, List.nodup_nil, fun j hj => by omega⟩
  case round =>
    obtain ⟨i, c, D, rfl, hik, hbl, hown, hc, hs, hnd, hall⟩ := hrel
    clear HM0
    have HS := Lib.hid hs
    have HO := Lib.hid hown
    have HBL := Lib.hid hbl
    have HND := Lib.hid hnd
    have HALL := Lib.hid hall
    have HCC := Lib.hid hc
    clear hs hown hbl hnd hall hc
    generalize wr = U at *
    have e0 := (HBL.out.cell (p := ⟨b8, 0, none⟩) l0).trans n0
    have e1 := (HBL.out.cell (p := ⟨b8, 1, none⟩) l0).trans n1
    have e2 := Nat.lt_of_lt_of_le l0 HBL.out.size
    by_cases hlt : i < k
    · obtain ⟨bt, ot, hBt, hbt, hct⟩ := (HP.out.below HBL.out).at_ (by omega)
      have ci := hct i hlt
      have HBO := Lib.hid hBt
      rw [hBt]
      have HQ1 : Hid (∀ V, Below w.heap.size w V → Gives Try.prog 30 #[.agg #[.slice A n cap, .int .i64 s], .slice (R i).a (R i).n (R i).c] V (.bool (q i))) := fun V h => HQ.out V h i hlt
      have HI1 := Lib.hid (HIN.out i hlt)
      have hrn := HRN.out i hlt
      have HROW := Lib.hid fun V (h : Below Z.heap.size Z V) => ((HP.out.below h).row i hlt).1
      have FB : Hid ((decide (0 < (R i).n) && q i) = false → res = false) := fun h => by rw [HD.out, allB_false (p := fun i => decide (0 < (R i).n) && q i) hlt h]; rfl
      have FT : Hid ((decide (0 < (R i).n) && q i) = true → ∀ j, j < i + 1 → (decide (0 < (R j).n) && q j) = true) := fun h => all_step (p := fun i => decide (0 < (R i).n) && q i) HALL.out h
      have FD : Hid (∀ j, j < (R i).n → ((R i).f j).toNat ∈ flatN R i ++ rowTo (R i) j → res = false) := fun j hj hx => by rw [HD.out, decide_eq_false (flat_dup hlt hj hx)]; simp
      have FL : Hid (flatN R (i + 1) = flatN R i ++ rowTo (R i) (R i).n) := rfl
      unfold Row.val at ci
      clear hBt hct
      generalize R i = ri at *
      obtain ⟨ra, rn, rc, rf⟩ := ri
      dsimp only at ci HQ1 HI1 hrn FB FT FD FL HROW
      by_cases h0 : rn = 0
      · have HE : Hid (res = false) := FB.out (by rw [h0]; rfl)
        subst h0
        go_wp2_with fail
        go_ret
        exact ⟨ret_bool HE.out.symm, later_of (below_more HB.out HBL.out)⟩
      have d0 : ((rn : Int) == 0) = false := by simp; omega
      have d1 : decide (0 < rn) = true := decide_eq_true (by omega)
      rw [d1, Bool.true_and] at FB FT
      cases hqi : q i
      case false =>
        rw [hqi] at HQ1 FB
        have HE : Hid (res = false) := FB.out rfl
        clear hqi
        go_wp2_with (go_at_call 30; with_reducible refine Calls.mono (Gives.calls (HQ1.out _ (below_more HB.out HBL.out))) ?_; rintro e w1 ⟨rfl, y, rfl⟩)
        go_ret
        exact ⟨ret_bool HE.out.symm, later_of (below_more HB.out (below_more HBL.out y.ok))⟩
      case true =>
        rw [hqi] at HQ1 FT
        have HE := Lib.hid (FT.out rfl)
        replace HI1 : Hid (∀ j, j < rn → ∃ x : Nat, rf j = x ∧ x < n) := HI1.out hqi
        clear hqi
        go_wp2_with (go_at_call 30; with_reducible refine Calls.mono (Gives.calls (HQ1.out _ (below_more HB.out HBL.out))) ?_; rintro e w1 ⟨rfl, y, rfl⟩)
        have HOY : Hid (y.val.ownsMap Try.prog 3 (plainElem Try.prog 4) bm c D) := by
          obtain ⟨es, cl, h, r⟩ := HO.out
          exact ⟨es, cl, (y.ok.block _ (get_lt h)).trans h, r⟩
        have HBY : Hid (Below Z.heap.size Z y.val) := below_more HBL.out y.ok
        generalize y.val = Y at *
        go_loopw [30] (fun v wr => ∃ (j c' : Nat) (D' : DataW Unit), v = .int .i64 (j : Nat) ∧ j ≤ rn ∧ Below Z.heap.size Z wr ∧ wr.ownsMap Try.prog 3 (plainElem Try.prog 4) bm c' D' ∧ c' ≤ c + j ∧ SeenL (flatN R i ++ rowTo ⟨ra, rn, rc, rf⟩ j) D' ∧ (flatN R i ++ rowTo ⟨ra, rn, rc, rf⟩ j).Nodup) (fun v _ => rn - (intOf v).toNat)
        case atStart => exact ⟨0, c, D, rfl, by omega, HBY.out, HOY.out, by omega, by simpa [rowTo] using HS.out, by simpa [rowTo] using HND.out⟩
        case round =>
          obtain ⟨j, c', D', rfl, hjn, hbl2, hown2, hc2, hs2, hnd2⟩ := hrel
          have HS2 := Lib.hid hs2
          have HO2 := Lib.hid hown2
          have HBL2 := Lib.hid hbl2
          have HND2 := Lib.hid hnd2
          have hcc := HCC.out
          clear hs2 hown2 hbl2 hnd2
          generalize wr = X at *
          by_cases hjlt : j < rn
          · obtain ⟨x, hx, hxn⟩ := HI1.out j hjlt
            obtain ⟨br, orr, hBr, pr⟩ := (HROW.out X HBL2.out).at_ (by omega)
            have cj := pr.at_ j hjlt
            rw [hx] at cj
            have lj := pr.lt
            have HBR := Lib.hid hBr
            rw [hBr]
            have k1 : keyOf Try.prog 3 (.int .i64 (x : Nat)) = some (kN x) := keyOf_int_mk Try.underlying3 (kN_wf (by omega))
            have K1 := Lib.hid k1
            have FD1 := Lib.hid (FD.out j hjlt)
            have ex : (rf j).toNat = x := by rw [hx]; simp
            rw [show (({ a := ra, n := rn, c := rc, f := rf } : Row).f j).toNat = x from ex] at FD1
            have RS : Hid (flatN R i ++ rowTo ⟨ra, rn, rc, rf⟩ (j + 1) = (flatN R i ++ rowTo ⟨ra, rn, rc, rf⟩ j) ++ [x]) := by show _ = _; rw [rowTo_succ, List.append_assoc]; congr 2; rw [ex]
            generalize flatN R i ++ rowTo ⟨ra, rn, rc, rf⟩ j = l at *
            clear k1 hBr pr hx ex
            have E1 := Lib.hid (HS2.out.2.2.1 x)
            by_cases hm : x ∈ l
            · have HR : Hid (res = false) := FD1.out hm
              rw [decide_eq_true hm] at E1
              go_wp2_with (at_lookup; refine wpList_lookup_own_bool _ rfl _ _ 68 rfl 3 4 lawI Try.underlying68 Try.underlying4 (zeroB _) bm c' D' rfl HO2.out _ _ rfl K1.out ?_; intro b hat; (have hcb : b = true := (by have h := E1.out.symm.trans hat; simpa using h.symm)); subst hcb; clear hat)
              go_ret
              exact ⟨ret_bool HR.out.symm, later_of (below_more HB.out HBL2.out)⟩
            · rw [decide_eq_false hm] at E1
              have ST := Lib.hid (HS2.out.step hm)
              have HN2 : Hid ((l ++ [x]).Nodup) := List.nodup_append.2 ⟨HND2.out, by simp, fun a ha b hb e => by simp at hb; subst hb; subst e; exact hm ha⟩
              go_wp2_with (first
                | (at_lookup; refine wpList_lookup_own_bool _ rfl _ _ 68 rfl 3 4 lawI Try.underlying68 Try.underlying4 (zeroB _) bm c' D' rfl HO2.out _ _ rfl K1.out ?_; intro b hat; (have hcb : b = false := (by have h := E1.out.symm.trans hat; simpa using h.symm)); subst hcb; clear hat)
                | (at_mapUpdate; refine wpList_mapUpdate_own _ rfl _ _ _ 68 rfl 3 4 lawI Try.underlying68 (plainElem Try.prog 4) bm c' D' rfl HO2.out (by unfold maxLen; omega) _ _ _ rfl rfl K1.out _ [] (plainElem_bool Try.underlying4 true) ?_; intro w1 hown1 hgrow1; have HO1 := Lib.hid hown1; have HB1 : Hid (Below Z.heap.size Z w1) := HBL2.out.grown hgrow1 HBL2.out.size (fun j hj => by cases hj; have := HZ.out; omega); clear hown1 hgrow1))
              try rw [← HBR.out]
              go_roundw
              case rel => exact ⟨j + 1, c' + 1, _, by go_num, by omega, HB1.out, HO1.out, by omega, by rw [RS.out]; exact ST.out, by rw [RS.out]; exact HN2.out⟩
              case measure => simp [intOf]; omega
          · obtain rfl : j = rn := by omega
            go_wp2
            try rw [← HBO.out]
            first
              | (refine ⟨⟨i + 1, c', D', by go_num, by omega, HBL2.out, HO2.out, by omega, by rw [FL.out]; exact HS2.out, by rw [FL.out]; exact HND2.out, HE.out⟩, ?_⟩; simp [intOf]; omega)
              | (go_roundw
                 case rel => exact ⟨i + 1, c', D', by go_num, by omega, HBL2.out, HO2.out, by omega, by rw [FL.out]; exact HS2.out, by rw [FL.out]; exact HND2.out, HE.out⟩
                 case measure => simp [intOf]; omega)
    · obtain rfl : i = k := by omega
      have HE : Hid (res = decide ((flatN R i).length = n)) := by
        show _ = _
        rw [HD.out, allB_true (p := fun i => decide (0 < (R i).n) && q i) HALL.out, decide_eq_true HND.out]
        rfl
      have hsz := HS.out.2.2.2
      go_wp2_with (at_len; refine wpList_len_own _ rfl _ 68 rfl 3 4 Try.underlying68 _ bm c D rfl HO.out ?_)
      go_ret
      refine ⟨ret_bool ?_, later_of (below_more HB.out HBL.out)⟩
      rw [HE.out, ← hsz]
      by_cases e : Maps.size D = n
      · simp [e]
      · simp [e]; try omega
set_option maxRecDepth 100000 in
set_option maxHeartbeats 6400000 in
theorem divide_areApart (n cap k c1 : Nat) (s : Int) (A B : Option Addr) (R : Nat → Row) (q : Nat → Bool) (w : World) (hn : n ≤ 1000) (hk : k ≤ 1000) (hr : ∀ i, i < k → (R i).n ≤ 1000) (hp : IsTab w B k R)
    (hq : ∀ V, Below w.heap.size w V → ∀ i, i < k → Gives Try.prog 31 #[.agg #[.slice A n cap, .int .i64 s], (R i).val] V (.bool (q i)))
    (hin : ∀ i, i < k → q i = true → ∀ j, j < (R i).n → ∃ x : Nat, (R i).f j = x ∧ x < n) :
    Gives Try.prog 29 #[.agg #[.slice A n cap, .int .i64 s], .slice B k c1, .func (.func 31) #[.agg #[.slice A n cap, .int .i64 s]] #[]] w (.bool (divB n k R fun i => decide (0 < (R i).n) && q i)) := by
  have hb : Below w.heap.size w (w.alloc (.cells #[.slice A n cap, .int .i64 s] 53)) := (Below.refl _ _).alloc (Nat.le_refl _) _
  obtain ⟨n0, n1, l0⟩ := box2 w (.slice A n cap) (.int .i64 s) 53
  have HB := Lib.hid hb
  have HP := Lib.hid (hp.below hb)
  have HQ := Lib.hid hq
  have HIN := Lib.hid hin
  have HRN := Lib.hid hr
  have HD : Hid (divB n k R (fun i => decide (0 < (R i).n) && q i) = (allB k (fun i => decide (0 < (R i).n) && q i) && (decide (flatN R k).Nodup && decide ((flatN R k).length = n)))) := rfl
  generalize divB n k R (fun i => decide (0 < (R i).n) && q i) = res at *
  have hmm := @run_makeMap Try.prog
  clear hp hb hq hin hr
  go_enter Try.func29, Try.ntmps29
  go_wp2
  have hz : (w.alloc (.cells #[.slice A n cap, .int .i64 s] 53)).heap.size = w.heap.size + 1 := by simp
  obtain ⟨b8, hb8⟩ : ∃ b8, w.heap.size = b8 := ⟨_, rfl⟩
  rw [hb8] at n0 n1 l0 hz ⊢
  have HB8 := Lib.hid hb8
  clear hb8
  generalize w.alloc (.cells #[.slice A n cap, .int .i64 s] 53) = Z at *
  have HM0 : Hid ((Z.alloc (.map #[] 0)).ownsMap Try.prog 3 (plainElem Try.prog 4) (b8 + 1) 0 (.map [] : DataW Unit)) := by
    have h := World.ownsMap_made (H := Unit) Z Try.prog 3 (plainElem Try.prog 4)
    rw [hz] at h
    exact h
  obtain ⟨bm, hbm⟩ : ∃ bm, b8 + 1 = bm := ⟨_, rfl⟩
  rw [hbm] at HM0 hz ⊢
  have HZ := Lib.hid hz
  clear hz hmm hbm
  go_loopw [15] (fun v wr => ∃ (i c : Nat) (D : DataW Unit), v = .int .i64 (i : Nat) ∧ i ≤ k ∧ Below Z.heap.size Z wr ∧ wr.ownsMap Try.prog 3 (plainElem Try.prog 4) bm c D ∧ c ≤ 1000 * i ∧ SeenL (flatN R i) D ∧ (flatN R i).Nodup ∧ ∀ j, j < i → (decide (0 < (R j).n) && q j) = true) (fun v _ => k - (intOf v).toNat)
  case atStart => exact ⟨0, 0, .map [], rfl, by omega, (Below.refl _ _).alloc (Nat.le_refl _) _, HM0.out, by omega, SeenL.zero, List.nodup_nil, fun j hj => by omega⟩
  case round =>
    obtain ⟨i, c, D, rfl, hik, hbl, hown, hc, hs, hnd, hall⟩ := hrel
    clear HM0
    have HS := Lib.hid hs
    have HO := Lib.hid hown
    have HBL := Lib.hid hbl
    have HND := Lib.hid hnd
    have HALL := Lib.hid hall
    have HCC := Lib.hid hc
    clear hs hown hbl hnd hall hc
    generalize wr = U at *
    have e0 := (HBL.out.cell (p := ⟨b8, 0, none⟩) l0).trans n0
    have e1 := (HBL.out.cell (p := ⟨b8, 1, none⟩) l0).trans n1
    have e2 := Nat.lt_of_lt_of_le l0 HBL.out.size
    by_cases hlt : i < k
    · obtain ⟨bt, ot, hBt, hbt, hct⟩ := (HP.out.below HBL.out).at_ (by omega)
      have ci := hct i hlt
      have HBO := Lib.hid hBt
      rw [hBt]
      have HQ1 : Hid (∀ V, Below w.heap.size w V → Gives Try.prog 31 #[.agg #[.slice A n cap, .int .i64 s], .slice (R i).a (R i).n (R i).c] V (.bool (q i))) := fun V h => HQ.out V h i hlt
      have HI1 := Lib.hid (HIN.out i hlt)
      have hrn := HRN.out i hlt
      have HROW := Lib.hid fun V (h : Below Z.heap.size Z V) => ((HP.out.below h).row i hlt).1
      have FB : Hid ((decide (0 < (R i).n) && q i) = false → res = false) := fun h => by rw [HD.out, allB_false (p := fun i => decide (0 < (R i).n) && q i) hlt h]; rfl
      have FT : Hid ((decide (0 < (R i).n) && q i) = true → ∀ j, j < i + 1 → (decide (0 < (R j).n) && q j) = true) := fun h => all_step (p := fun i => decide (0 < (R i).n) && q i) HALL.out h
      have FD : Hid (∀ j, j < (R i).n → ((R i).f j).toNat ∈ flatN R i ++ rowTo (R i) j → res = false) := fun j hj hx => by rw [HD.out, decide_eq_false (flat_dup hlt hj hx)]; simp
      have FL : Hid (flatN R (i + 1) = flatN R i ++ rowTo (R i) (R i).n) := rfl
      unfold Row.val at ci
      clear hBt hct
      generalize R i = ri at *
      obtain ⟨ra, rn, rc, rf⟩ := ri
      dsimp only at ci HQ1 HI1 hrn FB FT FD FL HROW
      by_cases h0 : rn = 0
      · have HE : Hid (res = false) := FB.out (by rw [h0]; rfl)
        subst h0
        go_wp2_with fail
        go_ret
        exact ⟨ret_bool HE.out.symm, later_of (below_more HB.out HBL.out)⟩
      have d0 : ((rn : Int) == 0) = false := by simp; omega
      have d1 : decide (0 < rn) = true := decide_eq_true (by omega)
      rw [d1, Bool.true_and] at FB FT
      cases hqi : q i
      case false =>
        rw [hqi] at HQ1 FB
        have HE : Hid (res = false) := FB.out rfl
        clear hqi
        go_wp2_with (go_at_call 31; with_reducible refine Calls.mono (Gives.calls (HQ1.out _ (below_more HB.out HBL.out))) ?_; rintro e w1 ⟨rfl, y, rfl⟩)
        go_ret
        exact ⟨ret_bool HE.out.symm, later_of (below_more HB.out (below_more HBL.out y.ok))⟩
      case true =>
        rw [hqi] at HQ1 FT
        have HE := Lib.hid (FT.out rfl)
        replace HI1 : Hid (∀ j, j < rn → ∃ x : Nat, rf j = x ∧ x < n) := HI1.out hqi
        clear hqi
        go_wp2_with (go_at_call 31; with_reducible refine Calls.mono (Gives.calls (HQ1.out _ (below_more HB.out HBL.out))) ?_; rintro e w1 ⟨rfl, y, rfl⟩)
        have HOY : Hid (y.val.ownsMap Try.prog 3 (plainElem Try.prog 4) bm c D) := by
          obtain ⟨es, cl, h, r⟩ := HO.out
          exact ⟨es, cl, (y.ok.block _ (get_lt h)).trans h, r⟩
        have HBY : Hid (Below Z.heap.size Z y.val) := below_more HBL.out y.ok
        generalize y.val = Y at *
        go_loopw [30] (fun v wr => ∃ (j c' : Nat) (D' : DataW Unit), v = .int .i64 (j : Nat) ∧ j ≤ rn ∧ Below Z.heap.size Z wr ∧ wr.ownsMap Try.prog 3 (plainElem Try.prog 4) bm c' D' ∧ c' ≤ c + j ∧ SeenL (flatN R i ++ rowTo ⟨ra, rn, rc, rf⟩ j) D' ∧ (flatN R i ++ rowTo ⟨ra, rn, rc, rf⟩ j).Nodup) (fun v _ => rn - (intOf v).toNat)
        case atStart => exact ⟨0, c, D, rfl, by omega, HBY.out, HOY.out, by omega, by simpa [rowTo] using HS.out, by simpa [rowTo] using HND.out⟩
        case round =>
          obtain ⟨j, c', D', rfl, hjn, hbl2, hown2, hc2, hs2, hnd2⟩ := hrel
          have HS2 := Lib.hid hs2
          have HO2 := Lib.hid hown2
          have HBL2 := Lib.hid hbl2
          have HND2 := Lib.hid hnd2
          have hcc := HCC.out
          clear hs2 hown2 hbl2 hnd2
          generalize wr = X at *
          by_cases hjlt : j < rn
          · obtain ⟨x, hx, hxn⟩ := HI1.out j hjlt
            obtain ⟨br, orr, hBr, pr⟩ := (HROW.out X HBL2.out).at_ (by omega)
            have cj := pr.at_ j hjlt
            rw [hx] at cj
            have lj := pr.lt
            have HBR := Lib.hid hBr
            rw [hBr]
            have k1 : keyOf Try.prog 3 (.int .i64 (x : Nat)) = some (kN x) := keyOf_int_mk Try.underlying3 (kN_wf (by omega))
            have K1 := Lib.hid k1
            have FD1 := Lib.hid (FD.out j hjlt)
            have ex : (rf j).toNat = x := by rw [hx]; simp
            rw [show (({ a := ra, n := rn, c := rc, f := rf } : Row).f j).toNat = x from ex] at FD1
            have RS : Hid (flatN R i ++ rowTo ⟨ra, rn, rc, rf⟩ (j + 1) = (flatN R i ++ rowTo ⟨ra, rn, rc, rf⟩ j) ++ [x]) := by show _ = _; rw [rowTo_succ, List.append_assoc]; congr 2; rw [ex]
            generalize flatN R i ++ rowTo ⟨ra, rn, rc, rf⟩ j = l at *
            clear k1 hBr pr hx ex
            have E1 := Lib.hid (HS2.out.2.2.1 x)
            by_cases hm : x ∈ l
            · have HR : Hid (res = false) := FD1.out hm
              rw [decide_eq_true hm] at E1
              go_wp2_with (at_lookup; refine wpList_lookup_own_bool _ rfl _ _ 68 rfl 3 4 lawI Try.underlying68 Try.underlying4 (zeroB _) bm c' D' rfl HO2.out _ _ rfl K1.out ?_; intro b hat; (have hcb : b = true := (by have h := E1.out.symm.trans hat; simpa using h.symm)); subst hcb; clear hat)
              go_ret
              exact ⟨ret_bool HR.out.symm, later_of (below_more HB.out HBL2.out)⟩
            · rw [decide_eq_false hm] at E1
              have ST := Lib.hid (HS2.out.step hm)
              have HN2 : Hid ((l ++ [x]).Nodup) := List.nodup_append.2 ⟨HND2.out, by simp, fun a ha b hb e => by simp at hb; subst hb; subst e; exact hm ha⟩
              go_wp2_with (first
                | (at_lookup; refine wpList_lookup_own_bool _ rfl _ _ 68 rfl 3 4 lawI Try.underlying68 Try.underlying4 (zeroB _) bm c' D' rfl HO2.out _ _ rfl K1.out ?_; intro b hat; (have hcb : b = false := (by have h := E1.out.symm.trans hat; simpa using h.symm)); subst hcb; clear hat)
                | (at_mapUpdate; refine wpList_mapUpdate_own _ rfl _ _ _ 68 rfl 3 4 lawI Try.underlying68 (plainElem Try.prog 4) bm c' D' rfl HO2.out (by unfold maxLen; omega) _ _ _ rfl rfl K1.out _ [] (plainElem_bool Try.underlying4 true) ?_; intro w1 hown1 hgrow1; have HO1 := Lib.hid hown1; have HB1 : Hid (Below Z.heap.size Z w1) := HBL2.out.grown hgrow1 HBL2.out.size (fun j hj => by cases hj; have := HZ.out; omega); clear hown1 hgrow1))
              try rw [← HBR.out]
              go_roundw
              case rel => exact ⟨j + 1, c' + 1, _, by go_num, by omega, HB1.out, HO1.out, by omega, by rw [RS.out]; exact ST.out, by rw [RS.out]; exact HN2.out⟩
              case measure => simp [intOf]; omega
          · obtain rfl : j = rn := by omega
            go_wp2
            try rw [← HBO.out]
            first
              | (refine ⟨⟨i + 1, c', D', by go_num, by omega, HBL2.out, HO2.out, by omega, by rw [FL.out]; exact HS2.out, by rw [FL.out]; exact HND2.out, HE.out⟩, ?_⟩; simp [intOf]; omega)
              | (go_roundw
                 case rel => exact ⟨i + 1, c', D', by go_num, by omega, HBL2.out, HO2.out, by omega, by rw [FL.out]; exact HS2.out, by rw [FL.out]; exact HND2.out, HE.out⟩
                 case measure => simp [intOf]; omega)
    · obtain rfl : i = k := by omega
      have HE : Hid (res = decide ((flatN R i).length = n)) := by
        show _ = _
        rw [HD.out, allB_true (p := fun i => decide (0 < (R i).n) && q i) HALL.out, decide_eq_true HND.out]
        rfl
      have hsz := HS.out.2.2.2
      go_wp2_with (at_len; refine wpList_len_own _ rfl _ 68 rfl 3 4 Try.underlying68 _ bm c D rfl HO.out ?_)
      go_ret
      refine ⟨ret_bool ?_, later_of (below_more HB.out HBL.out)⟩
      rw [HE.out, ← hsz]
      by_cases e : Maps.size D = n
      · simp [e]
      · simp [e]; try omega
end Go.Proofs.Ytlljjaafejjeeaa
