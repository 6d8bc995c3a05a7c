/- wader.Marked, wader.lowest and the document's Marked: walked. -/
import Derived.Test.YtlljjaafejjeeaaKRFrom
import Derived.Test.YtlljjaafejjeeaaWLow
namespace Go.Proofs.Ytlljjaafejjeeaa
open Go.RowKit

theorem tdiv_bd2 {a : Int} {g : Nat} (h : -1000000000000 ≤ a ∧ a ≤ 1000000000000) : -1000000000000 ≤ a.tdiv g ∧ a.tdiv g ≤ 1000000000000 := by
  have h1 : (a.tdiv g).natAbs ≤ a.natAbs := by
    rw [Int.natAbs_tdiv]
    exact Nat.div_le_self _ _
  omega
set_option maxRecDepth 100000 in
set_option maxHeartbeats 1600000 in
theorem klowest_any (N : Int) (d : Nat) (w : World) (hN : 1 ≤ N ∧ N ≤ 1000000000000) (hd1 : 1 ≤ d) (hd : d ≤ 1000000) :
    Gives Try.prog 34 #[.int .i64 N, .int .i64 d] w (.agg #[.int .i64 (lowN N d), .int .i64 (lowD N d)]) := by
  obtain ⟨hN1, hN2⟩ := hN
  have HD : Hid (lowN N d = N.tdiv ((Nat.gcd N.natAbs d : Nat) : Int) ∧ lowD N d = ((d / Nat.gcd N.natAbs d : Nat) : Int)) := ⟨rfl, rfl⟩
  have HB : Hid (Below w.heap.size w (w.alloc (.cells #[.int .i64 0, .int .i64 0] 48))) := (Below.refl _ _).alloc (Nat.le_refl _) _
  obtain ⟨c0, c1, l0⟩ := box2 w (.int .i64 0) (.int .i64 0) 48
  have f0 : ∀ j, (w.alloc (.cells #[.int .i64 0, .int .i64 0] 48)).frozen? ⟨w.heap.size, j, none⟩ = false := fun j => by simp [go_sem]
  generalize lowN N d = r1 at *
  generalize lowD N d = r2 at *
  go_enter Try.func34, Try.ntmps34
  go_wp2
  all_goals
    obtain ⟨b8, hb8⟩ : ∃ b8, w.heap.size = b8 := ⟨_, rfl⟩
    have HB8 := Lib.hid hb8
    rw [hb8] at c0 c1 l0 f0 ⊢
    clear hb8
    generalize w.alloc (.cells #[.int .i64 0, .int .i64 0] 48) = Z at *
    go_loopw [5, 6] (fun u v wr => ∃ a b : Nat, u = .int .i64 (a : Nat) ∧ v = .int .i64 (b : Nat) ∧ a ≤ 1000000000000 ∧ b ≤ 1000000 ∧ Nat.gcd a b = Nat.gcd N.natAbs d ∧ (b = 0 → 0 < a) ∧ ∃ x : Later Z, wr = x.val) (fun _ v _ => (intOf v).toNat)
    case atStart => exact ⟨N.natAbs, d, by congr 1; omega, rfl, by omega, by omega, rfl, by omega, later_of (by repeat (first | exact Below.refl _ _ | (with_reducible assumption) | apply below_later | apply below_alloc | apply below_drew | apply below_drewN))⟩
    case round =>
      obtain ⟨a, b, rfl, rfl, ha, hb, hg, h0, x, rfl⟩ := hrel
      have d0 := (x.cell _ _ l0).trans c0
      have d1 := (x.cell _ _ l0).trans c1
      have l1 := x.lt _ l0
      have f1 := (x.frozen _ 0 l0).trans (f0 0)
      have f2 := (x.frozen _ 1 l0).trans (f0 1)
      have HG := Lib.hid hg
      clear hg
      by_cases hb0 : b = 0
      · subst hb0
        have ha0 := h0 rfl
        have HA : Hid (Nat.gcd N.natAbs d = a) := by show _ = _; rw [← HG.out, Nat.gcd_zero_right]
        have q1 := tdiv_bd2 (a := N) (g := a) ⟨by omega, hN2⟩
        have q2 := tdiv_bd2 (a := (d : Int)) (g := a) (by omega)
        have HD1 : Hid (N.tdiv (a : Int) = r1) := by show _ = _; rw [HD.out.1, HA.out]
        have HD2 : Hid ((d : Int).tdiv (a : Int) = r2) := by show _ = _; rw [HD.out.2, HA.out]; rfl
        have e3 : (a : Int) ≠ 0 := by omega
        clear h0 HG HD HA
        go_wp2_with fail
        have E2 : Hid (wrap64 ((d : Int) / (a : Int)) = r2) := by
          show _ = _
          have h2 := HD2.out
          rw [Int.tdiv_eq_ediv_of_nonneg (by omega)] at h2 q2
          rw [← h2]
          generalize (d : Int) / (a : Int) = y at *
          obtain ⟨q3, q4⟩ := q2
          unfold wrap64; omega
        have E1 : Hid (0 ≤ N → N / (a : Int) = r1) := fun h => by rw [← HD1.out, Int.tdiv_eq_ediv_of_nonneg h]
        go_region
        go_wp2
        first | rw [E2.out, HD1.out] | rw [E2.out, E1.out (by omega)]
        have r0 : (((x.val.setCell ⟨b8, 0, none⟩ (.int .i64 r1)).setCell ⟨b8, 1, none⟩ (.int .i64 r2)).drew).cell? ⟨b8, 0, none⟩ = some (.int .i64 r1) := by simp [go_sem, d0, d1]
        have r1' : (((x.val.setCell ⟨b8, 0, none⟩ (.int .i64 r1)).setCell ⟨b8, 1, none⟩ (.int .i64 r2)).drew).cell? ⟨b8, 1, none⟩ = some (.int .i64 r2) := by simp [go_sem, d0, d1]
        refine bodyPost_ret (v := .agg #[.int .i64 r1, .int .i64 r2]) (by simp [results, Try.results34, go_sem, r0, r1']) rfl ?_
        exact ⟨rfl, later_of (below_drew (((below_later HB.out).setCell (by have := HB8.out; simp; omega) _).setCell (by have := HB8.out; simp; omega) _))⟩
      · have hb1 : (b : Int) ≠ 0 := by omega
        have hb2 : ((b : Int) != 0) = true := by simp; omega
        have hm : ((a : Int) % (b : Int)) = ((a % b : Nat) : Int) := by omega
        have HM := Lib.hid hm
        clear hm
        go_wp2_with fail
        refine wp_region_later (by kernel_rfl) (by kernel_rfl) ?_
        repeat (go_big_quiet_step ((fail)))
        refine wpQuiet_nil ?_
        intro q
        go_wp2
        go_roundw
        case rel => exact ⟨b, a % b, rfl, by rw [HM.out], by omega, by have := Nat.mod_lt a (show 0 < b by omega); omega, gcd_step.trans HG.out, fun _ => by omega, later_of (by repeat (first | exact Below.refl _ _ | (with_reducible assumption) | apply below_later | apply below_alloc | apply below_drew | apply below_drewN))⟩
        case measure =>
          have := Nat.mod_lt a (show 0 < b by omega)
          have := HM.out
          simp [intOf]; omega
theorem isCatch_any (x : Int) (w : World) : Gives Try.prog 33 #[.int .i64 x] w (.bool (decide (0 ≤ x) && decide (x ≤ 1000000))) := by
  by_cases h1 : 0 ≤ x <;> by_cases h2 : x ≤ 1000000
  all_goals
    go_enter Try.func33, Try.ntmps33
    go_wp2
    go_ret
    exact ⟨ret_bool (by simp [h1, h2]), later_of (by repeat (first | exact Below.refl _ _ | (with_reducible assumption) | apply below_later | apply below_alloc | apply below_drew | apply below_drewN))⟩
end Go.Proofs.Ytlljjaafejjeeaa
