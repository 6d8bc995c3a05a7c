/- A hull lies on the left, is convex and valid, and has its posts inside. -/
import Derived.Test.YtamhhbkjgfhfoaaDoorHullWhere
import Derived.Test.YtamhhbkjgfhfoaaDoorRefArea
import Derived.Test.YtamhhbkjgfhfoaaDoorConvex
namespace Go.Proofs.YtamhhbkjgfhfoaaDoor
open Go.RowKit

theorem crP_cyc (a b c : Pt) : crP a b c = crP c a b := by unfold crP crossI; grind
theorem hull_side {l h : List Pt} (hh : IsHull l h) {i : Nat} (hi : i < h.length) : HSide l (hp h i) (hp h (nx h.length i)) := by
  have h3 := hh.three
  have hj := nx_lt (n := h.length) i (by omega)
  exact hh.side i _ _ (get_h hi) (get_h hj)
theorem hull_left {l h : List Pt} (hh : IsHull l h) : 0 < areaI h.length (hx h) (hy h) := by
  have h3 := hh.three
  rw [← fan_eq _ _ h3]
  unfold fanI
  refine sum_pos' (by omega) fun t ht => ?_
  have h1 : t + 1 < h.length := by omega
  have e : nx h.length (t + 1) = t + 2 := by unfold nx; rw [Nat.mod_eq_of_lt (by omega)]
  have := strict_side hh h1 (j := 0) (by omega) (by omega) (by rw [e]; omega)
  rw [e, crP_cyc] at this
  exact this
theorem any_no {n : Nat} {f : Nat → Bool} (h : ∀ i, i < n → f i = false) : anyB n f = false := by
  show (!allB n fun i => !f i) = false
  rw [allB_true fun i hi => by rw [h i hi]; rfl]
  rfl
theorem hull_convex {l h : List Pt} (hh : IsHull l h) : convexB h.length (hx h) (hy h) = true := by
  unfold convexB
  rw [any_no (f := downB h.length (hx h) (hy h)) fun i hi => by
    have := hull_bend hh hi
    unfold downB
    exact decide_eq_false (by omega)]
  simp
theorem hull_valid {l h : List Pt} (hh : IsHull l h) (hr : ∀ x ∈ l, (inR x.1 && inR x.2) = true) (h40 : h.length ≤ 40) : validB h.length (hx h) (hy h) = true := parcel_iff.2 (hull_parcel hh hr h40)
theorem hull_inside {l h : List Pt} (hh : IsHull l h) (hr : ∀ x ∈ l, (inR x.1 && inR x.2) = true) {x : Pt} (hx' : x ∈ l) : 0 ≤ whereI h.length (hx h) (hy h) x.1 x.2 :=
  hull_where hh (hr x hx') fun i hi => (hull_side hh hi).2 x hx'
end Go.Proofs.YtamhhbkjgfhfoaaDoor
