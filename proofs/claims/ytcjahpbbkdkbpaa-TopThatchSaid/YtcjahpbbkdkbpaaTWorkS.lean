/- Plain mathematics of Work: what its loops keep. -/
import Derived.Test.YtcjahpbbkdkbpaaTNeed
namespace Go.Proofs.Ytcjahpbbkdkbpaa
open Go.RowKit

def HourRow (n h : Nat) (r : List Int) : Prop := 1 ≤ r.length ∧ r.length ≤ h ∧ (∀ x ∈ r, (0 : Int) ≤ x ∧ x < n) ∧ ∀ i, i + 1 < r.length → at_ r i < at_ r (i + 1)
/-- In how many hours a face is worked on. -/
def occN (rows : List (List Int)) (c : Nat) : Nat := (rows.filter fun r => decide ((c : Int) ∈ r)).length
theorem occN_append (rows : List (List Int)) (r : List Int) (c : Nat) : occN (rows ++ [r]) c = occN rows c + if (c : Int) ∈ r then 1 else 0 := by
  unfold occN
  rw [List.filter_append, List.length_append]
  by_cases h : (c : Int) ∈ r <;> simp [h]
structure Plan (g l : Nat → Nat) (n h : Nat) (rows : List (List Int)) : Prop where
  each : ∀ r ∈ rows, HourRow n h r
  len : rows.length + hoursN l n h = hoursN g n h
  occ : ∀ c, c < n → l c + occN rows c = g c
theorem Plan.start (g : Nat → Nat) (n h : Nat) : Plan g g n h [] := ⟨fun r hr => (by cases hr), by simp, fun c _ => by simp [occN]⟩
theorem Plan.step {g l : Nat → Nat} {n h : Nat} {rows : List (List Int)} {r : List Int} (p : Plan g l n h rows) (hh : 1 ≤ h) (H : HourL l n h r) (h0 : 0 < topF l n) : Plan g (less l fun c => decide ((c : Int) ∈ r)) n h (rows ++ [r]) := by
  obtain ⟨h1, h2, h3, h4, h5⟩ := H
  refine ⟨fun q hq => ?_, ?_, fun c hc => ?_⟩
  · rcases List.mem_append.1 hq with h | h
    · exact p.each q h
    · obtain rfl : q = r := by simpa using h
      exact ⟨h1, h2, h3, h4⟩
  · have e := hour_step hh h5 (hours_pos (h := h) h0)
    have e2 := p.len
    rw [List.length_append, List.length_singleton]
    omega
  · have e := p.occ c hc
    rw [occN_append]
    unfold less
    by_cases hm : (c : Int) ∈ r
    · have := h5.pos c hc (by simpa using hm)
      simp only [hm, decide_true, if_true]
      omega
    · simp only [hm, decide_false, if_false]
      simpa using e
theorem Plan.done {g l : Nat → Nat} {n h : Nat} {rows : List (List Int)} (p : Plan g l n h rows) (hh : 1 ≤ h) (h0 : topF l n = 0) : rows.length = hoursN g n h ∧ ∀ c, c < n → occN rows c = g c := by
  have e := hours_zero hh h0
  refine ⟨by have := p.len; omega, fun c hc => ?_⟩
  have e1 := p.occ c hc
  have e2 := le_topF (g := l) hc
  omega
theorem Plan.le {g l : Nat → Nat} {n h : Nat} {rows : List (List Int)} (p : Plan g l n h rows) : rows.length ≤ hoursN g n h ∧ ∀ c, c < n → l c ≤ g c := ⟨by have := p.len; omega, fun c hc => by have := p.occ c hc; omega⟩
theorem posL_pos {l : Nat → Nat} {n : Nat} (h0 : 0 < topF l n) : 1 ≤ (posL l n).length := by rw [posL_length]; exact cnt_pos h0
/-- What is left of a face when the first q of an hour have been taken. -/
def lq (l : Nat → Nat) (r : List Int) (q c : Nat) : Int := ((l c : Nat) : Int) - if (c : Int) ∈ r.take q then 1 else 0
theorem lq_zero (l : Nat → Nat) (r : List Int) (c : Nat) : lq l r 0 c = ((l c : Nat) : Int) := by simp [lq]
theorem mem_take_succ {r : List Int} {q : Nat} (h : q < r.length) {x : Int} : x ∈ r.take (q + 1) ↔ x ∈ r.take q ∨ x = at_ r q := by
  have e : at_ r q = r[q] := by simp [at_, List.getD_eq_getElem?_getD, List.getElem?_eq_getElem h]
  rw [List.take_add_one, List.getElem?_eq_getElem h, List.mem_append, e]
  simp
theorem asc_not {r : List Int} (hasc : ∀ i, i + 1 < r.length → at_ r i < at_ r (i + 1)) {q : Nat} (h : q < r.length) : at_ r q ∉ r.take q := by
  intro hm
  obtain ⟨p, hp, e⟩ := mem_at.1 hm
  rw [List.length_take] at hp
  rw [at_take (by omega)] at e
  have := asc_lt hasc (show p < q by omega) h
  omega
theorem lq_set {l : Nat → Nat} {r l2 : List Int} {n h q c0 : Nat} (H : HourL l n h r) (hl : l2.length = n) (he : ∀ c, c < n → l2.getD c 0 = lq l r q c) (hq : q < r.length) (hc : at_ r q = (c0 : Int)) (hcn : c0 < n) :
    l2.getD c0 0 = ((l c0 : Nat) : Int) ∧ 0 < l c0 ∧ ∀ c, c < n → (l2.set c0 ((l c0 : Int) - 1)).getD c 0 = lq l r (q + 1) c := by
  obtain ⟨_, _, _, h4, h5⟩ := H
  have hnot := asc_not h4 hq
  rw [hc] at hnot
  have hmem : (c0 : Int) ∈ r := mem_at.2 ⟨q, hq, hc⟩
  refine ⟨by rw [he c0 hcn]; unfold lq; rw [if_neg hnot]; omega, h5.pos c0 hcn (by simpa using hmem), fun c hcl => ?_⟩
  rw [getD_setL (by omega)]
  unfold lq
  by_cases e : c = c0
  · subst e
    rw [if_pos rfl, if_pos ((mem_take_succ hq).2 (.inr hc.symm))]
  · rw [if_neg e, he c hcl]
    unfold lq
    have : ((c : Int) ∈ r.take (q + 1)) ↔ ((c : Int) ∈ r.take q) := by
      rw [mem_take_succ hq, hc]
      constructor
      · rintro (h | h)
        · exact h
        · omega
      · exact .inl
    simp only [this]
theorem lq_end {l : Nat → Nat} {r l2 : List Int} {n h : Nat} (H : HourL l n h r) (he : ∀ c, c < n → l2.getD c 0 = lq l r r.length c) : ∀ c, c < n → l2.getD c 0 = ((less l (fun c => decide ((c : Int) ∈ r)) c : Nat) : Int) := by
  intro c hc
  rw [he c hc]
  unfold lq less
  rw [List.take_length]
  by_cases hm : (c : Int) ∈ r
  · have := H.2.2.2.2.pos c hc (by simpa using hm)
    simp only [hm, decide_true, if_true]
    omega
  · simp [hm]
theorem hourL_pos {l : Nat → Nat} {n h : Nat} {r : List Int} (H : HourL l n h r) : 0 < r.length := by obtain ⟨a, _⟩ := H; omega
end Go.Proofs.Ytcjahpbbkdkbpaa
