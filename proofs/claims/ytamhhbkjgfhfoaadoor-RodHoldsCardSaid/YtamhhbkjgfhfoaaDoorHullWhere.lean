/- A post that lies on the left of all sides of a hull, or on them, is not outside. -/
import Derived.Test.YtamhhbkjgfhfoaaDoorHullParcel
namespace Go.Proofs.YtamhhbkjgfhfoaaDoor
open Go.RowKit

theorem hull_where {l h : List Pt} (hh : IsHull l h) {x : Pt} (hr : (inR x.1 && inR x.2) = true) (hs : ∀ i, i < h.length → 0 ≤ crP (hp h i) (hp h (nx h.length i)) x ∧ (crP (hp h i) (hp h (nx h.length i)) x = 0 → dotP x (hp h i) (hp h (nx h.length i)) ≤ 0)) :
    0 ≤ whereI h.length (hx h) (hy h) x.1 x.2 := by
  have l1 := hh.three
  unfold whereI
  rw [if_pos hr]
  by_cases hb : anyB h.length (sideB h.length (hx h) (hy h) x.1 x.2) = true
  · rw [if_pos hb]; omega
  · rw [if_neg hb]
    have hno : ∀ i, i < h.length → sideB h.length (hx h) (hy h) x.1 x.2 i = false := fun i hi => by
      cases e : sideB h.length (hx h) (hy h) x.1 x.2 i with
      | false => rfl
      | true => exact absurd (anyB_true hi e) hb
    have pos : ∀ i, i < h.length → 0 < crP (hp h i) (hp h (nx h.length i)) x := fun i hi => by
      obtain ⟨h1, h2⟩ := hs i hi
      rcases ltOrGe 0 (crP (hp h i) (hp h (nx h.length i)) x) with k | k
      · exact k
      · have z : crP (hp h i) (hp h (nx h.length i)) x = 0 := by omega
        have d := h2 z
        have := hno i hi
        unfold sideB onSideB at this
        have z' : crossI (hx h i) (hy h i) (hx h (nx h.length i)) (hy h (nx h.length i)) x.1 x.2 = 0 := z
        have d' : dotI x.1 x.2 (hx h i) (hy h i) (hx h (nx h.length i)) (hy h (nx h.length i)) ≤ 0 := d
        rw [decide_eq_true z', decide_eq_true d'] at this
        cases this
    obtain ⟨⟨a, ha, ha'⟩, b, hb1, hb'⟩ := inside_level hh pos
    obtain ⟨k, hk, hk1, hk2⟩ := turn_over (f := fun i => decide (hy h i ≤ x.2)) ha hb1 (by simpa using ha') (by simpa using hb')
    have hk1' : hy h k ≤ x.2 := by simpa using hk1
    have hk2' : x.2 < hy h (nx h.length k) := by simpa using hk2
    have one : parB h.length (stepB h.length (hx h) (hy h) x.1 x.2) = true := by
      refine par_one h.length hk ?_ ?_
      · have := pos k hk
        refine stepB_2 (by omega) ?_
        exact passB_4 hk1' hk2' this
      · intro i hi hne
        have hp := pos i hi
        by_cases hd : hy h (nx h.length i) < hy h i
        · refine stepB_1 hd (passB_3 ?_)
          rw [cross_swap]
          have : 0 < crossI (hx h i) (hy h i) (hx h (nx h.length i)) (hy h (nx h.length i)) x.1 x.2 := hp
          omega
        · refine stepB_2 hd ?_
          cases e : passB (hx h i) (hy h i) (hx h (nx h.length i)) (hy h (nx h.length i)) x.1 x.2 with
          | false => rfl
          | true =>
            simp only [passB, Bool.and_eq_true, decide_eq_true_eq] at e
            exact (one_up hh hi hk hne x.2 e.1 e.2.1 hk1' hk2').elim
    rw [if_pos one]
    omega
end Go.Proofs.YtamhhbkjgfhfoaaDoor
