/- The document's once: walked. -/
import Derived.Test.YtbflpidjcflndaaKDivMath
namespace Go.Proofs.Ytbflpidjcflndaa
open Go.RowKit

theorem nodup_snoc {l : List Nat} {x : Nat} (h : l.Nodup) (hx : x ∉ l) : (l ++ [x]).Nodup :=
  List.nodup_append.2 ⟨h, by simp, fun a ha b hb e => by simp at hb; subst hb; subst e; exact hx ha⟩
set_option maxRecDepth 100000 in
set_option maxHeartbeats 6400000 in
theorem once_any (n k c1 : Nat) (B : Option Addr) (R : Nat → Row) (w : World) (hn : n ≤ 1000) (hk : k ≤ 1000) (hr : ∀ i, i < k → (R i).n ≤ 1000) (hp : IsTab w B k R) (hin : ∀ i, i < k → ∀ j, j < (R i).n → ∃ x : Nat, (R i).f j = x ∧ x < n) :
    Gives Try.prog 60 #[.int .i64 n, .slice B k c1] w (.bool (decide (flatN R k).Nodup && decide ((flatN R k).length = n))) := by
  have HP := Lib.hid hp
  have HIN := Lib.hid hin
  have HRN := Lib.hid hr
  obtain ⟨res, hres⟩ : ∃ res, (decide (flatN R k).Nodup && decide ((flatN R k).length = n)) = res := ⟨_, rfl⟩
  have HD : Hid (res = (decide (flatN R k).Nodup && decide ((flatN R k).length = n))) := hres.symm
  rw [hres]
  have MK : ∀ w', (Instr.makeSlice 84 (.int .i64 (n : Int)) (.int .i64 (n : Int))).run Try.prog w' = .ok (.slice (some ⟨w'.heap.size, 0, none⟩) n n) (w'.alloc (.cells (madeCells #[Value.bool false] n) 4)) := fun w' => make_bools w' n (by omega)
  have M1 := Lib.hid (made_ownBl w n w.heap.size (Nat.le_refl _) (by omega))
  have hw0 : IntKind.i64.wrap ((n : Int) - 1) = (n : Int) - 1 := IntWalk.i64_in _ ⟨by omega, by omega⟩
  have FLL : Hid (∀ i, i ≤ k → (flatN R i).length ≤ 1000000) := fun i hi => by
    have h1 := flat_len_le (R := R) (c := 1000) (k := i) fun j hj => hr j (by omega)
    have h2 : 1000 * i ≤ 1000 * 1000 := Nat.mul_le_mul_left _ (by omega)
    omega
  clear hp hin hr hres
  go_enter Try.func60, Try.ntmps60
  go_wp2
  obtain ⟨g, hg⟩ : ∃ g, w.heap.size = g := ⟨_, rfl⟩
  have HG := Lib.hid hg
  have HB0 : Hid (Below w.heap.size w (w.alloc (.cells (madeCells #[Value.bool false] n) 4))) := (Below.refl _ _).alloc (Nat.le_refl _) _
  rw [hg] at M1 ⊢
  clear hg MK
  generalize w.alloc (.cells (madeCells #[Value.bool false] n) 4) = Z at *
  go_loopw [6, 7] (fun u v wr => ∃ (i : Nat) (tr : List Bool), u = .int .i64 ((flatN R i).length : Nat) ∧ v = .int .i64 (i : Nat) ∧ i ≤ k ∧ Below w.heap.size w wr ∧ OwnBl wr g (.slice (some ⟨g, 0, none⟩) n n) tr ∧ tr.length = n ∧ (∀ x, x < n → tr.getD x true = decide (x ∈ flatN R i)) ∧ (flatN R i).Nodup) (fun _ v _ => k - (intOf v).toNat)
  case atStart => exact ⟨0, _, rfl, rfl, by omega, HB0.out, M1.out, by simp, fun x hx => by rw [getD_repB]; simp [flatN]; omega, List.nodup_nil⟩
  case round =>
    obtain ⟨i, tr, rfl, rfl, hik, hbl, ho, htl, htr, hnd⟩ := hrel
    clear M1 HB0
    have HO := Lib.hid ho
    have HBL := Lib.hid hbl
    have HTL := Lib.hid htl
    have HTR := Lib.hid htr
    have HND := Lib.hid hnd
    clear ho hbl htl htr hnd
    generalize wr = U at *
    have hfl := FLL.out i hik
    by_cases hlt : i < k
    · have FL : Hid (flatN R (i + 1) = flatN R i ++ rowTo (R i) (R i).n) := rfl
      have hfl2 := FLL.out (i + 1) (by omega)
      have hrn := HRN.out i hlt
      have FD : Hid (∀ j, j < (R i).n → ((R i).f j).toNat ∈ flatN R i ++ rowTo (R i) j → res = false) := fun j hj hx => by rw [HD.out, decide_eq_false (flat_dup hlt hj hx)]; rfl
      have HI1 := Lib.hid (HIN.out i hlt)
      have HROW := Lib.hid fun V (h : Below w.heap.size w V) => ((HP.out.below h).row i hlt).1
      have HCELL : Hid (∀ V, Below w.heap.size w V → ∃ bt ot, B = some ⟨bt, ot, none⟩ ∧ bt < V.heap.size ∧ V.cell? ⟨bt, ot + i, none⟩ = some (R i).val) := fun V h => by
        obtain ⟨bt, ot, e, h1, h2⟩ := (HP.out.below h).at_ (by omega)
        exact ⟨bt, ot, e, h1, h2 i hlt⟩
      unfold Row.val at HCELL
      generalize R i = ri at *
      obtain ⟨ra, rn, rc, rf⟩ := ri
      dsimp only at HCELL HI1 hrn FD FL HROW
      go_wp2
      go_loopw [6, 8] (fun u v wr => ∃ (j : Nat) (tr : List Bool), u = .int .i64 ((flatN R i ++ rowTo ⟨ra, rn, rc, rf⟩ j).length : Nat) ∧ v = .int .i64 (j : Nat) ∧ j ≤ rn ∧ Below w.heap.size w wr ∧ OwnBl wr g (.slice (some ⟨g, 0, none⟩) n n) tr ∧ tr.length = n ∧ (∀ x, x < n → tr.getD x true = decide (x ∈ flatN R i ++ rowTo ⟨ra, rn, rc, rf⟩ j)) ∧ (flatN R i ++ rowTo ⟨ra, rn, rc, rf⟩ j).Nodup) (fun _ v _ => rn - (intOf v).toNat)
      case atStart => exact ⟨0, tr, by simp [rowTo], rfl, by omega, HBL.out, HO.out, HTL.out, by simpa [rowTo] using HTR.out, by simpa [rowTo] using HND.out⟩
      case round =>
        obtain ⟨j, tr2, rfl, rfl, hjn, hbl2, ho2, htl2, htr2, hnd2⟩ := hrel
        have HO2 := Lib.hid ho2
        have HBL2 := Lib.hid hbl2
        have HTL2 := Lib.hid htl2
        have HTR2 := Lib.hid htr2
        have HND2 := Lib.hid hnd2
        clear ho2 hbl2 htl2 htr2 hnd2
        obtain ⟨bt, ot, hBt, hbt, hct⟩ := HCELL.out wr HBL2.out
        have HBO := Lib.hid hBt
        rw [hBt]
        clear hBt
        by_cases hjlt : j < rn
        · obtain ⟨x, hx, hxn⟩ := HI1.out j hjlt
          obtain ⟨br, orr, hBr, pr⟩ := (HROW.out wr HBL2.out).at_ (by omega)
          have cj := pr.at_ j hjlt
          rw [hx] at cj
          have lj := pr.lt
          have HBR := Lib.hid hBr
          rw [hBr] at hct
          obtain ⟨t0, t1, t2⟩ := HO2.out.cell HTL2.out hxn
          have t3 := t1 x
          rw [HTR2.out x hxn] at t0
          have FR : Hid (∀ w', Gives Try.prog 49 #[.int .i64 0, .int .i64 (x : Nat), .int .i64 ((n : Int) - 1)] w' (.bool true)) := fun w' => inS_nat hxn ▸ rhas_any n x w'
          have FD1 := Lib.hid (FD.out j hjlt)
          have ex : (rf j).toNat = x := by rw [hx]; simp
          rw [show (({ a := ra, n := rn, c := rc, f := rf } : Row).f j).toNat = x from ex] at FD1
          have RS : Hid (flatN R i ++ rowTo ⟨ra, rn, rc, rf⟩ (j + 1) = (flatN R i ++ rowTo ⟨ra, rn, rc, rf⟩ j) ++ [x]) := by show _ = _; rw [rowTo_succ, List.append_assoc]; congr 2; rw [ex]
          have hll : (flatN R i ++ rowTo ⟨ra, rn, rc, rf⟩ j).length ≤ 1001000 := by rw [List.length_append, rowTo_len]; omega
          generalize flatN R i ++ rowTo ⟨ra, rn, rc, rf⟩ j = l at *
          clear hBr pr hx ex t1
          have HXF := Lib.hid fun V (h : Below wr.heap.size wr V) => (⟨(h.cell (p := ⟨bt, ot + i, none⟩) hbt).trans hct, Nat.lt_of_lt_of_le hbt h.size, (h.cell (p := ⟨br, orr + j, none⟩) lj).trans cj, Nat.lt_of_lt_of_le lj h.size, (h.cell (p := ⟨g, x, none⟩) t2).trans t0, Nat.lt_of_lt_of_le t2 h.size, (h.frozen (p := ⟨g, x, none⟩) t2).trans t3⟩ : V.cell? ⟨bt, ot + i, none⟩ = some (.slice (some ⟨br, orr, none⟩) rn rc) ∧ bt < V.heap.size ∧ V.cell? ⟨br, orr + j, none⟩ = some (.int .i64 (x : Nat)) ∧ br < V.heap.size ∧ V.cell? ⟨g, x, none⟩ = some (.bool (decide (x ∈ l))) ∧ g < V.heap.size ∧ V.frozen? ⟨g, x, none⟩ = false)
          by_cases hm : x ∈ l
          · have HR : Hid (res = false) := FD1.out hm
            rw [decide_eq_true hm] at HXF t0
            clear hm
            generalize wr = X at *
            go_wp2_with ((go_at_call 49; with_reducible refine Calls.mono (Gives.calls (FR.out _)) ?_; rintro e w1 ⟨rfl, y, rfl⟩); obtain ⟨j0, j1, j2, j3, j4, j5, j6⟩ := HXF.out y.val y.ok)
            go_ret
            exact ⟨ret_bool HR.out.symm, later_of (below_more HBL2.out y.ok)⟩
          · rw [decide_eq_false hm] at HXF t0
            have HM : Hid (x ∉ l) := hm
            clear hm
            generalize wr = X at *
            have PUT : Hid (∀ y : Later X, OwnBl (y.val.setCell ⟨g, x, none⟩ (.bool true)) g (.slice (some ⟨g, 0, none⟩) n n) (tr2.set x true)) := fun y => (HO2.out.later y).set HTL2.out x true
            have gne : g ≠ bt ∧ g ≠ br := by
              have hG := HG.out
              obtain ⟨b1, o1, e1, l1, -⟩ := HCELL.out w (Below.refl _ _)
              obtain ⟨b2, o2, e2, p2⟩ := (HROW.out w (Below.refl _ _)).at_ (by omega)
              have l2 := p2.lt
              have e3 := HBO.out.symm.trans e1
              have e4 := HBR.out.symm.trans e2
              simp only [Option.some.injEq, Addr.mk.injEq] at e3 e4
              omega
            obtain ⟨g1, g2⟩ := gne
            have g3 : bt ≠ g := fun e => g1 e.symm
            have g4 : br ≠ g := fun e => g2 e.symm
            go_wp2_with ((go_at_call 49; with_reducible refine Calls.mono (Gives.calls (FR.out _)) ?_; rintro e w1 ⟨rfl, y, rfl⟩); obtain ⟨j0, j1, j2, j3, j4, j5, j6⟩ := HXF.out y.val y.ok)
            refine ⟨⟨j + 1, tr2.set x true, ?_, by go_num, by omega, (below_more HBL2.out y.ok).setCell (by have := HG.out; show _ ≤ g; omega) _, PUT.out y, by rw [List.length_set]; exact HTL2.out, fun z hz => ?_, ?_⟩, ?_⟩
            · rw [RS.out, List.length_append]; go_num
            · rw [RS.out, getD_setB (by rw [HTL2.out]; exact hxn), HTR2.out z hz]; by_cases e : z = x
              · simp [e]
              · simp [e]
            · rw [RS.out]; exact nodup_snoc HND2.out HM.out
            · simp [intOf]; omega
        · obtain rfl : j = rn := by omega
          go_wp2
          try rw [← HBO.out]
          go_roundw
          case rel => exact ⟨i + 1, tr2, by rw [FL.out], by go_num, by omega, HBL2.out, HO2.out, HTL2.out, by rw [FL.out]; exact HTR2.out, by rw [FL.out]; exact HND2.out⟩
          all_goals (simp [intOf]; omega)
    · obtain rfl : i = k := by omega
      have HE : Hid (res = decide ((flatN R i).length = n)) := by
        show _ = _
        rw [HD.out, decide_eq_true HND.out]
        rfl
      go_wp2
      go_ret
      refine ⟨ret_bool ?_, later_of HBL.out⟩
      rw [HE.out]
      by_cases e : (flatN R i).length = n
      · simp [e]
      · simp [e]; try omega
end Go.Proofs.Ytbflpidjcflndaa
