/- Plain mathematics: what Work hands back is a work plan. -/
import Derived.Test.YtcjahpbbkdkbpaaTWorkS
namespace Go.Proofs.Ytcjahpbbkdkbpaa
open Go.RowKit

theorem rcnt_row {r : List Int} (hasc : ∀ i, i + 1 < r.length → at_ r i < at_ r (i + 1)) (c : Nat) {f : Nat → Int} (hf : ∀ j, f j = r.getD j 0) : rcnt f c r.length = if (c : Int) ∈ r then 1 else 0 := by
  have hf' : ∀ j, f j = at_ r j := hf
  by_cases h : (c : Int) ∈ r
  · rw [if_pos h]
    obtain ⟨p, hp, e⟩ := mem_at.1 h
    have h1 := rcnt_one (k := r.length) (f := f) (fun i hi => by rw [hf', hf']; exact hasc i hi) c
    have h2 : rcnt f c (p + 1) ≤ rcnt f c r.length := cntN_mono _ (by omega)
    rw [rcnt_succ, hf', if_pos e] at h2
    omega
  · rw [if_neg h]
    exact cntN_none fun m hm => by
      rw [decide_eq_false_iff_not, hf']
      exact fun e => h (mem_at.2 ⟨m, hm, e⟩)
theorem occN_sum (rows : List (List Int)) (c : Nat) : ∀ m, m ≤ rows.length → addN (fun i => if (c : Int) ∈ rows.getD i [] then 1 else 0) m = occN (rows.take m) c := by
  intro m
  induction m with
  | zero => intro _; simp [occN, addN]
  | succ m ih =>
    intro hm
    rw [addN_succ, ih (by omega), List.take_add_one, List.getElem?_eq_getElem (show m < rows.length by omega), Option.toList_some, occN_append]
    congr 1
    simp [List.getD_eq_getElem?_getD, List.getElem?_eq_getElem (show m < rows.length by omega)]
theorem isW_plan {g : Nat → Nat} {n h : Nat} {rows : List (List Int)} {R : Nat → Row} (hm : rows.length ≤ 2000) (hr : ∀ r ∈ rows, HourRow n h r) (ho : ∀ c, c < n → occN rows c = g c)
    (hR : ∀ i, i < rows.length → (R i).n = (rows.getD i []).length ∧ ∀ j, (R i).f j = (rows.getD i []).getD j 0) : isW g n h rows.length R = true := by
  have hrow : ∀ i, i < rows.length → HourRow n h (rows.getD i []) := fun i hi => hr _ (by rw [List.getD_eq_getElem?_getD, List.getElem?_eq_getElem hi]; exact List.getElem_mem hi)
  unfold isW
  rw [decide_eq_true hm, Bool.true_and, Bool.and_eq_true]
  constructor
  · refine allB_true fun i hi => ?_
    obtain ⟨h1, h2, h3, h4⟩ := hrow i hi
    obtain ⟨e1, e2⟩ := hR i hi
    unfold hourB
    rw [Bool.and_eq_true, inI_iff, e1]
    refine ⟨by omega, allB_true fun j hj => ?_⟩
    have h5 := h3 _ (mem_at.2 ⟨j, hj, rfl⟩)
    have e3 : (R i).f j = at_ (rows.getD i []) j := e2 j
    unfold ascQ
    rw [Bool.and_eq_true, inI_iff, e3]
    refine ⟨by omega, ?_⟩
    rcases Nat.eq_zero_or_pos j with h0 | h0
    · subst h0; rfl
    · have h6 := h4 (j - 1) (by omega)
      rw [show j - 1 + 1 = j by omega] at h6
      have e4 : (R i).f (j - 1) = at_ (rows.getD i []) (j - 1) := e2 (j - 1)
      rw [e4, decide_eq_false (show ¬ at_ (rows.getD i []) j ≤ at_ (rows.getD i []) (j - 1) by omega), Bool.and_false]
      rfl
  · refine allB_true fun c hc => ?_
    rw [decide_eq_true_eq, ← ho c hc]
    have e1 : cW R c rows.length = addN (fun i => if (c : Int) ∈ rows.getD i [] then 1 else 0) rows.length := addN_congr fun i hi => by
      rw [(hR i hi).1]
      exact rcnt_row (hrow i hi).2.2.2 c (hR i hi).2
    rw [e1, occN_sum rows c _ (Nat.le_refl _), List.take_length]
end Go.Proofs.Ytcjahpbbkdkbpaa
