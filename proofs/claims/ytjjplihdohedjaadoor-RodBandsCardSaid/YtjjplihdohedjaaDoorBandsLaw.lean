/- The law RodBands: walked. -/
import Derived.Test.YtjjplihdohedjaaDoorBundlesLaw
namespace Go.Proofs.YtjjplihdohedjaaDoor
open Go.RowKit

theorem ltOrGe' (u v b : Int) (m : Nat) (s1 : 1 ≤ (m : Int) * (m : Int)) : u * v / ((m : Int) * (m : Int)) < b ∨ b * m * m ≤ u * v := by
  rcases Int.lt_or_le (u * v / ((m : Int) * (m : Int))) b with h | h
  · exact .inl h
  · exact .inr (by rw [Int.le_ediv_iff_mul_le (by omega)] at h; rwa [Int.mul_assoc])

/-- What the least band is, in numbers. -/
theorem band_least {g b : Int} (h1 : 1 ≤ g) (h2 : g ≤ 1000) (h3 : 1 ≤ b) (h4 : b ≤ 10000) :
    ∃ l : Nat, bandR g b = .tuple #[.int .i64 l, .int .i64 0] ∧ 1 ≤ l ∧ l ≤ 100000 ∧ b ≤ (l : Int) * (l : Int) / (g * g) ∧ ((l : Int) - 1) * ((l : Int) - 1) / (g * g) < b := by
  obtain ⟨⟨q1, q2⟩, q3, q4⟩ := band_bd h1 h2 h3 h4
  obtain ⟨s1, s2⟩ := sq_bd h1 h2
  obtain ⟨m, rfl⟩ : ∃ m : Nat, g = m := ⟨g.toNat, by omega⟩
  have top : geB (b * m * m) (100 * m) = true := by
    simp only [geB, decide_eq_true_eq]
    have a1 := Int.mul_le_mul_of_nonneg_right h4 (show (0 : Int) ≤ (m : Int) * (m : Int) by omega)
    have a2 : ((100 * m : Nat) : Int) * ((100 * m : Nat) : Int) = 10000 * ((m : Int) * (m : Int)) := by
      rw [Int.natCast_mul]
      grind
    rw [a2, Int.mul_assoc b]
    exact a1
  have low : geB (b * m * m) 0 = false := by
    simp only [geB, decide_eq_false_iff_not]
    simp
    omega
  obtain ⟨a1, a2, a3⟩ := lst_spec (geB (b * m * m)) (100 * m)
  refine ⟨lst (geB (b * m * m)) (100 * m), ?_, ?_, by omega, ?_, ?_⟩
  · rw [bandR, if_pos (by rw [Bool.and_eq_true, okG_iff, okG_iff]; exact ⟨⟨h1, h2⟩, h3, h4⟩)]
    rfl
  · rcases Nat.eq_zero_or_pos (lst (geB (b * m * m)) (100 * m)) with h | h
    · rw [h] at a3
      rw [a3 (by omega)] at low
      cases low
    · exact h
  · rw [ge_div s1]
    have : geB (b * m * m) (lst (geB (b * m * m)) (100 * m)) = true := by
      rcases Nat.lt_or_ge (lst (geB (b * m * m)) (100 * m)) (100 * m) with h | h
      · exact a3 h
      · rw [show lst (geB (b * m * m)) (100 * m) = 100 * m by omega]
        exact top
    simpa [geB] using this
  · have h0 : 1 ≤ lst (geB (b * m * m)) (100 * m) := by
      rcases Nat.eq_zero_or_pos (lst (geB (b * m * m)) (100 * m)) with h | h
      · rw [h] at a3
        rw [a3 (by omega)] at low
        cases low
      · exact h
    have := a2 (lst (geB (b * m * m)) (100 * m) - 1) (by omega)
    rcases ltOrGe' (((lst (geB (b * m * m)) (100 * m) : Nat) : Int) - 1) (((lst (geB (b * m * m)) (100 * m) : Nat) : Int) - 1) b m s1 with h | h
    · exact h
    · exfalso
      rw [geB, decide_eq_false_iff_not] at this
      apply this
      rw [show ((lst (geB (b * m * m)) (100 * m) - 1 : Nat) : Int) = ((lst (geB (b * m * m)) (100 * m) : Nat) : Int) - 1 by omega]
      exact h

set_option maxRecDepth 100000 in
set_option maxHeartbeats 3200000 in
theorem rodBands_any (x y : Int) (w : World) (hu : Units w) (x0 : 0 ≤ x) (x1 : x ≤ 255) (y0 : 0 ≤ y) (y1 : y ≤ 65535) :
    Gives Tryd.prog 13 #[.int .u8 x, .int .u16 y] w (.bool true) := by
  have Hu := Lib.hid hu
  clear hu
  have m0 : 0 ≤ y % 10000 := Int.emod_nonneg _ (by omega)
  have m1 : y % 10000 < 10000 := Int.emod_lt_of_pos _ (by omega)
  obtain ⟨l, h1, h2, h3, h4, h5⟩ := band_least (g := 1 + x) (b := 1 + y % 10000) (by omega) (by omega) (by omega) (by omega)
  have H1 := Lib.hid h1
  clear h1
  have F1 : Hid (∀ w', Gives Tryd.prog 27 #[.int .i64 (1 + x), .int .i64 (1 + y % 10000)] w' (.tuple #[.int .i64 l, .int .i64 0])) := fun w' => H1.out ▸ band_any _ _ w'
  by_cases hl : 1000 < l
  · have hl' : (1000 : Int) < (l : Int) := by omega
    clear h4 h5
    go_enter Tryd.func13, Tryd.ntmps13
    go_wp2_with (first | (go_at_call 27; (first | (with_reducible show Calls _ _ _ (Later.val _) _; with_reducible refine Calls.mono (Later.call _ ((F1.out _))) ?_) | (with_reducible refine Calls.mono (Gives.calls ((F1.out _))) ?_)); rintro e w1 ⟨rfl, z1, rfl⟩) | (go_at_call 20; (first | (with_reducible show Calls _ _ _ (Later.val _) _; with_reducible refine Calls.mono (Later.call _ (first_any _ (Hu.out.below (Later.ok _)))) ?_) | (with_reducible refine Calls.mono (Gives.calls (first_any _ (Hu.out.below (Later.ok _)))) ?_)); rintro e w1 ⟨rfl, z6, rfl⟩))
    go_ret
    exact ⟨rfl, later_of (by repeat (first | exact Below.refl _ _ | (with_reducible assumption) | apply below_later | apply below_alloc | apply below_drew | apply below_drewN))⟩
  · have H2 := Lib.hid (show bundlesR (1 + x) l = .tuple #[.int .i64 ((l : Int) * (l : Int) / ((1 + x) * (1 + x))), .int .i64 0] by
      rw [bundlesR, if_pos (by rw [Bool.and_eq_true, okG_iff, okG_iff]; omega)])
    generalize (l : Int) * (l : Int) / ((1 + x) * (1 + x)) = M at h4 H2
    have F2 : Hid (∀ w', Gives Tryd.prog 25 #[.int .i64 (1 + x), .int .i64 l] w' (.tuple #[.int .i64 M, .int .i64 0])) := fun w' => H2.out ▸ bundles_any _ _ w'
    by_cases hl1 : l = 1
    · subst hl1
      clear h5
      go_enter Tryd.func13, Tryd.ntmps13
      go_wp2_with (first | (go_at_call 27; (first | (with_reducible show Calls _ _ _ (Later.val _) _; with_reducible refine Calls.mono (Later.call _ ((F1.out _))) ?_) | (with_reducible refine Calls.mono (Gives.calls ((F1.out _))) ?_)); rintro e w1 ⟨rfl, z1, rfl⟩) | (go_at_call 25; (first | (with_reducible show Calls _ _ _ (Later.val _) _; with_reducible refine Calls.mono (Later.call _ ((F2.out _))) ?_) | (with_reducible refine Calls.mono (Gives.calls ((F2.out _))) ?_)); rintro e w1 ⟨rfl, z2, rfl⟩) | (go_at_call 20; (first | (with_reducible show Calls _ _ _ (Later.val _) _; with_reducible refine Calls.mono (Later.call _ (first_any _ (Hu.out.below (Later.ok _)))) ?_) | (with_reducible refine Calls.mono (Gives.calls (first_any _ (Hu.out.below (Later.ok _)))) ?_)); rintro e w1 ⟨rfl, z6, rfl⟩))
      go_ret
      exact ⟨rfl, later_of (by repeat (first | exact Below.refl _ _ | (with_reducible assumption) | apply below_later | apply below_alloc | apply below_drew | apply below_drewN))⟩
    · have H3 := Lib.hid (show bundlesR (1 + x) ((l : Int) - 1) = .tuple #[.int .i64 (((l : Int) - 1) * ((l : Int) - 1) / ((1 + x) * (1 + x))), .int .i64 0] by
        rw [bundlesR, if_pos (by rw [Bool.and_eq_true, okG_iff, okG_iff]; omega)])
      generalize ((l : Int) - 1) * ((l : Int) - 1) / ((1 + x) * (1 + x)) = M2 at h5 H3
      have hl2 : ((l : Int) == 1) = false := by simp; omega
      have p0 : 0 ≤ (l : Int) - 1 := by omega
      have p1 : (l : Int) - 1 ≤ 1000 := by omega
      generalize hp : (l : Int) - 1 = p at *
      have F3 : Hid (∀ w', Gives Tryd.prog 25 #[.int .i64 (1 + x), .int .i64 p] w' (.tuple #[.int .i64 M2, .int .i64 0])) := fun w' => H3.out ▸ bundles_any _ _ w'
      go_enter Tryd.func13, Tryd.ntmps13
      go_wp2_with (first | (go_at_call 27; (first | (with_reducible show Calls _ _ _ (Later.val _) _; with_reducible refine Calls.mono (Later.call _ ((F1.out _))) ?_) | (with_reducible refine Calls.mono (Gives.calls ((F1.out _))) ?_)); rintro e w1 ⟨rfl, z1, rfl⟩) | (go_at_call 25; (first | (with_reducible show Calls _ _ _ (Later.val _) _; with_reducible refine Calls.mono (Later.call _ ((F2.out _))) ?_) | (with_reducible refine Calls.mono (Gives.calls ((F2.out _))) ?_)); rintro e w1 ⟨rfl, z2, rfl⟩) | (go_at_call 25; (first | (with_reducible show Calls _ _ _ (Later.val _) _; with_reducible refine Calls.mono (Later.call _ ((F3.out _))) ?_) | (with_reducible refine Calls.mono (Gives.calls ((F3.out _))) ?_)); rintro e w1 ⟨rfl, z3, rfl⟩) | (go_at_call 20; (first | (with_reducible show Calls _ _ _ (Later.val _) _; with_reducible refine Calls.mono (Later.call _ (first_any _ (Hu.out.below (Later.ok _)))) ?_) | (with_reducible refine Calls.mono (Gives.calls (first_any _ (Hu.out.below (Later.ok _)))) ?_)); rintro e w1 ⟨rfl, z6, rfl⟩))
      go_ret
      exact ⟨rfl, later_of (by repeat (first | exact Below.refl _ _ | (with_reducible assumption) | apply below_later | apply below_alloc | apply below_drew | apply below_drewN))⟩
end Go.Proofs.YtjjplihdohedjaaDoor
