/- The neighbours of a square, one by one. -/
import Derived.Test.YtajfepogecakbaaDoorNetMath
namespace Go.Proofs.YtajfepogecakbaaDoor

/-- The neighbours, one by one. -/
def nbr4 (W H i : Nat) : List Nat := (if 0 < i / W then [i - W] else []) ++ (if 0 < i % W then [i - 1] else []) ++ (if i % W + 1 < W then [i + 1] else []) ++ (if i / W + 1 < H then [i + W] else [])
theorem pick_val {W H i p x y : Nat} (h4 : p ≠ 4) (hx : x < W) (hy : y < H) (ex : x + 1 = i % W + p % 3) (ey : y + 1 = i / W + p / 3) : pickP W H i p = some (y * W + x) := by
  obtain ⟨c, hc⟩ : ∃ c, i % W = c := ⟨_, rfl⟩
  obtain ⟨d, hd⟩ : ∃ d, i / W = d := ⟨_, rfl⟩
  rw [hc] at ex
  rw [hd] at ey
  have e1 : plX W i p = (x : Int) := by unfold plX; rw [int_mod, hc]; omega
  have e2 : plY W i p = (y : Int) := by unfold plY; rw [int_div, hd]; omega
  have hok : okP W H i p = true := by
    unfold okP insB
    rw [e1, e2]
    simp only [Bool.and_eq_true, bne_iff_ne, decide_eq_true_eq]
    omega
  have hid : idP W i p = y * W + x := by
    unfold idP
    rw [e1, e2, ← Int.natCast_mul]
    omega
  unfold pickP
  rw [if_pos hok, hid]
theorem pick_no {W H i p : Nat} (h : i % W + p % 3 < 1 ∨ W < i % W + p % 3 ∨ i / W + p / 3 < 1 ∨ H < i / W + p / 3) : pickP W H i p = none := by
  obtain ⟨c, hc⟩ : ∃ c, i % W = c := ⟨_, rfl⟩
  obtain ⟨d, hd⟩ : ∃ d, i / W = d := ⟨_, rfl⟩
  rw [hc, hd] at h
  have hok : ¬ okP W H i p = true := by
    unfold okP insB
    simp only [Bool.and_eq_true, bne_iff_ne, decide_eq_true_eq]
    unfold plX plY
    rw [int_mod, int_div, hc, hd]
    omega
  unfold pickP
  rw [if_neg hok]
theorem pick_side {W H i p : Nat} (hp : p < 9) (hs : p % 3 ≠ 1 ∧ p / 3 ≠ 1) : (pickP W H i p).filter (beside W i) = none := by
  cases h : pickP W H i p with
  | none => rfl
  | some j =>
    obtain ⟨_, x, y, ex, ey, hx, hy, rfl⟩ := pick_some h
    have mx : (y * W + x) % W = x := cell_x hx
    have my : (y * W + x) / W = y := cell_y hx
    unfold plX at ex
    unfold plY at ey
    rw [int_mod] at ex
    rw [int_div] at ey
    have hb : beside W i (y * W + x) = false := by
      unfold beside
      rw [mx, my]
      simp only [Bool.or_eq_false_iff, beq_eq_false_iff_ne]
      omega
    rw [Option.filter_some, hb]; rfl
theorem pick_keep {W H i p j : Nat} (h : pickP W H i p = some j) (hs : p % 3 = 1 ∨ p / 3 = 1) : (pickP W H i p).filter (beside W i) = some j := by
  rw [h]
  obtain ⟨_, x, y, ex, ey, hx, hy, rfl⟩ := pick_some h
  have mx : (y * W + x) % W = x := cell_x hx
  have my : (y * W + x) / W = y := cell_y hx
  unfold plX at ex
  unfold plY at ey
  rw [int_mod] at ex
  rw [int_div] at ey
  have hb : beside W i (y * W + x) = true := by
    unfold beside
    rw [mx, my]
    simp only [Bool.or_eq_true, beq_iff_eq]
    omega
  rw [Option.filter_some, hb]; rfl
theorem nbrs_eq {W H i : Nat} (hW : 1 ≤ W) (hi : i < W * H) : nbrs W H i = nbr4 W H i := by
  have hx : i % W < W := col_lt hi
  have hy : i / W < H := row_lt hi
  have ce := cell_eq (W := W) i
  have q0 : (pickP W H i 0).filter (beside W i) = none := pick_side (by omega) (by omega)
  have q2 : (pickP W H i 2).filter (beside W i) = none := pick_side (by omega) (by omega)
  have q4 : (pickP W H i 4).filter (beside W i) = none := by unfold pickP okP; simp
  have q6 : (pickP W H i 6).filter (beside W i) = none := pick_side (by omega) (by omega)
  have q8 : (pickP W H i 8).filter (beside W i) = none := pick_side (by omega) (by omega)
  have q1 : (pickP W H i 1).filter (beside W i) = if 0 < i / W then some (i - W) else none := by
    by_cases h : 0 < i / W
    · rw [if_pos h]
      refine pick_keep ((pick_val (x := i % W) (y := i / W - 1) (by omega) hx (by omega) (by omega) (by omega)).trans ?_) (by omega)
      congr 1
      rw [Nat.sub_mul, Nat.one_mul]
      have := Nat.mul_le_mul_right W (show 1 ≤ i / W from h)
      omega
    · rw [if_neg h, pick_no (by omega)]; rfl
  have q3 : (pickP W H i 3).filter (beside W i) = if 0 < i % W then some (i - 1) else none := by
    by_cases h : 0 < i % W
    · rw [if_pos h]
      refine pick_keep ((pick_val (x := i % W - 1) (y := i / W) (by omega) (by omega) hy (by omega) (by omega)).trans ?_) (by omega)
      congr 1
      omega
    · rw [if_neg h, pick_no (by omega)]; rfl
  have q5 : (pickP W H i 5).filter (beside W i) = if i % W + 1 < W then some (i + 1) else none := by
    by_cases h : i % W + 1 < W
    · rw [if_pos h]
      refine pick_keep ((pick_val (x := i % W + 1) (y := i / W) (by omega) h hy (by omega) (by omega)).trans ?_) (by omega)
      congr 1
      omega
    · rw [if_neg h, pick_no (by omega)]; rfl
  have q7 : (pickP W H i 7).filter (beside W i) = if i / W + 1 < H then some (i + W) else none := by
    by_cases h : i / W + 1 < H
    · rw [if_pos h]
      refine pick_keep ((pick_val (x := i % W) (y := i / W + 1) (by omega) hx h (by omega) (by omega)).trans ?_) (by omega)
      congr 1
      rw [Nat.add_mul, Nat.one_mul]
      omega
    · rw [if_neg h, pick_no (by omega)]; rfl
  have e : nbrs W H i = [0, 1, 2, 3, 4, 5, 6, 7, 8].filterMap fun p => (pickP W H i p).filter (beside W i) := by
    unfold nbrs aroundL
    rw [List.filter_filterMap]
    rfl
  rw [e]
  simp only [List.filterMap_cons, List.filterMap_nil, q0, q1, q2, q3, q4, q5, q6, q7, q8]
  unfold nbr4
  by_cases h1 : 0 < i / W <;> by_cases h3 : 0 < i % W <;> by_cases h5 : i % W + 1 < W <;> by_cases h7 : i / W + 1 < H <;> simp [h1, h3, h5, h7]
end Go.Proofs.YtajfepogecakbaaDoor
