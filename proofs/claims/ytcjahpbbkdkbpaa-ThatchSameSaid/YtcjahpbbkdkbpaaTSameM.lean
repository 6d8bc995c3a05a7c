/- What a roof with a hip and one with gables have in common: plain facts. -/
import Derived.Test.YtcjahpbbkdkbpaaTRoofF
namespace Go.Proofs.Ytcjahpbbkdkbpaa
open Go.RowKit

theorem lo_area {n d : Nat} (hd : 1 ≤ d) : loN n d * d = n * loD n d := by
  have e1 : Nat.gcd n d * loN n d = n := Nat.mul_div_cancel' (Nat.gcd_dvd_left n d)
  have e2 : Nat.gcd n d * loD n d = d := Nat.mul_div_cancel' (Nat.gcd_dvd_right n d)
  calc loN n d * d = loN n d * (Nat.gcd n d * loD n d) := by rw [e2]
    _ = (Nat.gcd n d * loN n d) * loD n d := by rw [Nat.mul_comm (Nat.gcd n d) (loN n d), Nat.mul_assoc]
    _ = n * loD n d := by rw [e1]
theorem lo_share {n d : Nat} (hd : 1 ≤ d) : d % loD n d = 0 ∧ loN n d * (d / loD n d) = n ∧ d / loD n d ≤ d := by
  have e1 : Nat.gcd n d * loN n d = n := Nat.mul_div_cancel' (Nat.gcd_dvd_left n d)
  have e2 : Nat.gcd n d * loD n d = d := Nat.mul_div_cancel' (Nat.gcd_dvd_right n d)
  obtain ⟨_, h1, _⟩ := lo_le (n := n) hd
  have e3 : d / loD n d = Nat.gcd n d := by
    have := Nat.mul_div_cancel (Nat.gcd n d) (show 0 < loD n d by omega)
    rwa [e2] at this
  refine ⟨?_, by rw [e3, Nat.mul_comm]; exact e1, Nat.div_le_self _ _⟩
  have : (Nat.gcd n d * loD n d) % loD n d = 0 := Nat.mul_mod_left _ _
  rwa [e2] at this
/-- What a face's ratio is, times the run. -/
structure FaceS (fl : List Pt) (B k : Nat) (T : Nat → Nat) : Prop where
  each : ∀ j, j < k → ∃ N D : Nat, hx fl j = N ∧ hy fl j = D ∧ 1 ≤ D ∧ D ≤ B ∧ B % D = 0 ∧ N * (B / D) = T j ∧ B / D ≤ B ∧ N ≤ 160000000
  le : ∀ j, T j ≤ 160000000
theorem faces_at {L H B C k j : Nat} {h : Bool} (hj : j < k) : (facesL L H B C h k).getD j (0, 0) = ratP (grN L H h j * C) B := by
  simp [facesL, List.getD_eq_getElem?_getD, hj]
theorem face_s {L D H A B C : Nat} (h : Bool) (R : Rf L D H A B C) : FaceS (facesL L H B C h (kN h)) B (kN h) fun j => grN L H h j * C := by
  have hH : H ≤ 200 := by have := R.dh; have := R.dl; have := R.l2; omega
  have hle : ∀ j, grN L H h j * C ≤ 160000000 := fun j => mul_le3 (m := 160000) (n := 1000) (grN_le R.l2 hH) R.c1.2
  refine ⟨fun j hj => ?_, hle⟩
  obtain ⟨q1, q2, q3⟩ := lo_le (n := grN L H h j * C) R.b1.1
  obtain ⟨s1, s2, s3⟩ := lo_share (n := grN L H h j * C) R.b1.1
  refine ⟨loN (grN L H h j * C) B, loD (grN L H h j * C) B, ?_, ?_, q2, q3, s1, s2, s3, Nat.le_trans q1 (hle j)⟩
  · unfold hx; rw [faces_at hj]; rfl
  · unfold hy; rw [faces_at hj]; rfl
theorem sum_faces {L D H A B C : Nat} (h : Bool) (R : Rf L D H A B C) : addN (fun j => grN L H h j * C) (kN h) = L * D * C := by
  have hd := R.dh
  have hl := R.dl
  cases h with
  | false =>
    show 0 + L * H * C + L * H * C = L * D * C
    rw [hd, Nat.zero_add, ← Nat.add_mul]
    congr 1
    rw [Nat.mul_left_comm]
    omega
  | true =>
    show 0 + (L - H) * H * C + (L - H) * H * C + H * H * C + H * H * C = L * D * C
    have e : (L - H) * H + (L - H) * H + H * H + H * H = L * D := by
      obtain ⟨m, rfl⟩ : ∃ m, L = m + H := ⟨L - H, by omega⟩
      rw [Nat.add_sub_cancel, hd, Nat.add_mul, Nat.mul_left_comm m 2 H, Nat.mul_left_comm H 2 H]
      omega
    rw [Nat.zero_add, ← Nat.add_mul, ← Nat.add_mul, ← Nat.add_mul, e]
theorem sum_le {T : Nat → Nat} {m : Nat} (h : ∀ j, T j ≤ m) : ∀ k, addN T k ≤ k * m
  | 0 => by simp [addN]
  | k + 1 => by
    have := sum_le h k
    have := h k
    show addN T k + T k ≤ _
    rw [Nat.add_mul, Nat.one_mul]
    omega
theorem need_mono {L D B C s t : Nat} (h : s ≤ t) : needN L D B C s ≤ needN L D B C t := by
  unfold needN upN
  apply Nat.div_le_div_right
  have : L * D * C * s ≤ L * D * C * t := Nat.mul_le_mul_left _ h
  omega
theorem need_pos {L D H A B C s : Nat} (R : Rf L D H A B C) (hs : 1 ≤ s) : 1 ≤ needN L D B C s := by
  unfold needN upN
  have h1 : 1 ≤ L * D * C * s := Nat.mul_pos (Nat.mul_pos (Nat.mul_pos (by have := R.l1; omega) (by have := R.dh; have := R.h1; omega)) (by have := R.c1; omega)) hs
  have h2 := R.b1
  exact Nat.div_pos (by omega) (by omega)
end Go.Proofs.Ytcjahpbbkdkbpaa
