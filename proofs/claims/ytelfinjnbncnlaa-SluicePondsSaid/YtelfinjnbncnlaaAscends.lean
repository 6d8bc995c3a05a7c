/- sluice.ascends: walked. -/
import Derived.Test.YtelfinjnbncnlaaRidge
namespace Go.Proofs.Ytelfinjnbncnlaa
open Go.RowKit

/-- One square of an ascending list. -/
def ascAt (n : Nat) (r : Nat → Int) (i : Nat) : Bool := decide (0 ≤ r i ∧ r i < n) && (decide (i = 0) || decide (r (i - 1) < r i))
theorem asc_step {p : Nat → Bool} {k : Nat} (h : allB k p = true) (hk : p k = true) : allB (k + 1) p = true := allB_true fun i hi => by
  rcases Nat.lt_or_ge i k with c | c
  · exact allB_iff.1 h i c
  · obtain rfl : i = k := by omega
    exact hk
set_option maxRecDepth 100000 in
set_option maxHeartbeats 1600000 in
theorem ascends_any (W H : Int) (A B D : Option Addr) (n cap m capS c capR : Nat) (r : Nat → Int) (w : World) (hc : c ≤ 1000) (hp : IsInts w D c r) :
    Gives Try.prog 28 #[.agg #[.int .i64 W, .int .i64 H, .slice A n cap, .slice B m capS], .slice D c capR] w (.bool (allB c (ascAt n r))) := by
  have SQ : Hid (∀ (x : Int) (w : World), Gives Try.prog 24 #[.agg #[.int .i64 W, .int .i64 H, .slice A n cap, .slice B m capS], .int .i64 x] w (.bool (decide (0 ≤ x ∧ x < n)))) := fun x w => isSquare_any W H A B n cap m capS x w
  obtain ⟨al, hal⟩ : ∃ al, allB c (ascAt n r) = al := ⟨_, rfl⟩
  have HAL := Lib.hid hal
  rw [hal]
  have HP := Lib.hid hp
  clear hp hal
  go_enter Try.func28, Try.ntmps28
  go_wp2_with fail
  go_loopw [9] (fun u wr => ∃ k : Nat, u = .int .i64 k ∧ k ≤ c ∧ allB k (ascAt n r) = true ∧ ∃ x : Later (w.alloc (.cells #[.int .i64 W, .int .i64 H, .slice A n cap, .slice B m capS] 25)), wr = x.val) (fun u _ => c - (intOf u).toNat)
  case atStart => exact ⟨0, rfl, by omega, rfl, ⟨_, Below.refl _ _⟩, rfl⟩
  case round =>
    obtain ⟨k, rfl, hk, hall, x, rfl⟩ := hrel
    have HALL := Lib.hid hall
    clear hall
    by_cases hlt : k < c
    · have M0 : x.val.heap[w.heap.size]? = some (.cells #[.int .i64 W, .int .i64 H, .slice A n cap, .slice B m capS] 25) := (x.ok.block _ (by simp only [World.size_alloc]; omega)).trans (World.alloc_heap_new _ _)
      have lM := get_lt M0
      have n1 := cell_of_heap M0 0 _ rfl
      have n2 := cell_of_heap M0 1 _ rfl
      have n3 := cell_of_heap M0 2 _ rfl
      have n4 := cell_of_heap M0 3 _ rfl
      have HW : Hid (Below w.heap.size w x.val) := by show Below _ _ _; repeat (first | exact Below.refl _ _ | (with_reducible assumption) | apply below_later | apply below_alloc | apply below_drew | apply below_drewN)
      obtain ⟨g, o, hD, q⟩ := (HP.out.later ⟨x.val, HW.out⟩).at_ (by omega)
      subst hD
      have ck := q.at_ k hlt
      have lk := q.lt
      have ck1 := q.at_ (k - 1) (by omega)
      have HST : Hid (∀ b, ascAt n r k = b → if b then allB (k + 1) (ascAt n r) = true else al = false) := fun b hb => by
        cases b
        · exact HAL.out.symm.trans (allB_false hlt hb)
        · exact asc_step HALL.out hb
      clear q M0
      by_cases h1 : 0 ≤ r k ∧ r k < n
      · have S1 : Hid (∀ w, Gives Try.prog 24 #[.agg #[.int .i64 W, .int .i64 H, .slice A n cap, .slice B m capS], .int .i64 (r k)] w (.bool true)) := fun w => decide_eq_true h1 ▸ SQ.out (r k) w
        by_cases h0 : k = 0
        · have d0 : decide ((0 : Int) < (k : Int)) = false := decide_eq_false (by omega)
          have d3 : ¬ 0 < k := by omega
          have d4 : decide (0 < k) = false := decide_eq_false d3
          have NX := Lib.hid (HST.out true (by unfold ascAt; rw [decide_eq_true h1, decide_eq_true h0]; rfl))
          clear h1 h0 ck1 HST
          generalize r k = rk at *
          go_wp2_with (go_at_call 24; with_reducible refine Calls.mono (Gives.calls (S1.out _)) ?_; rintro e w1 ⟨rfl, z, rfl⟩)
          go_roundw
          case rel => exact ⟨k + 1, by go_num, by omega, NX.out, later_of (by repeat (first | exact Below.refl _ _ | (with_reducible assumption) | apply below_later | apply below_alloc | apply below_drew | apply below_drewN))⟩
          case measure => simp [intOf]; omega
        · have d0 : decide ((0 : Int) < (k : Int)) = true := decide_eq_true (by omega)
          have hk1 : ((k : Int) - 1).toNat = k - 1 := by omega
          have hk2 : (1 : Int) ≤ (k : Int) := by omega
          have hk5 : IntKind.i64.wrap ((k : Int) - 1) = (k : Int) - 1 := IntWalk.i64_in _ (by omega)
          have hsub : k - 1 < c := by omega
          by_cases h2 : r (k - 1) < r k
          · have d2 : decide (r k ≤ r (k - 1)) = false := decide_eq_false (by omega)
            have NX := Lib.hid (HST.out true (by unfold ascAt; rw [decide_eq_true h1, decide_eq_true h2]; simp))
            clear h1 h0 h2 HST
            generalize r (k - 1) = rp at *
            generalize r k = rk at *
            go_wp2_with (go_at_call 24; with_reducible refine Calls.mono (Gives.calls (S1.out _)) ?_; rintro e w1 ⟨rfl, z, rfl⟩)
            go_roundw
            case rel => exact ⟨k + 1, by go_num, by omega, NX.out, later_of (by repeat (first | exact Below.refl _ _ | (with_reducible assumption) | apply below_later | apply below_alloc | apply below_drew | apply below_drewN))⟩
            case measure => simp [intOf]; omega
          · have d2 : decide (r k ≤ r (k - 1)) = true := decide_eq_true (by omega)
            have NX := Lib.hid (HST.out false (by unfold ascAt; rw [decide_eq_false h2, decide_eq_false h0]; simp))
            have NX2 : al = false := NX.out
            subst NX2
            clear h1 h0 h2 HST NX
            generalize r (k - 1) = rp at *
            generalize r k = rk at *
            go_wp2_with (go_at_call 24; with_reducible refine Calls.mono (Gives.calls (S1.out _)) ?_; rintro e w1 ⟨rfl, z, rfl⟩)
            go_ret
            exact ⟨rfl, later_of (by repeat (first | exact Below.refl _ _ | (with_reducible assumption) | apply below_later | apply below_alloc | apply below_drew | apply below_drewN))⟩
      · have S1 : Hid (∀ w, Gives Try.prog 24 #[.agg #[.int .i64 W, .int .i64 H, .slice A n cap, .slice B m capS], .int .i64 (r k)] w (.bool false)) := fun w => decide_eq_false h1 ▸ SQ.out (r k) w
        have NX := Lib.hid (HST.out false (by unfold ascAt; rw [decide_eq_false h1]; rfl))
        have NX2 : al = false := NX.out
        subst NX2
        clear h1 HST NX ck1
        generalize r k = rk at *
        go_wp2_with (go_at_call 24; with_reducible refine Calls.mono (Gives.calls (S1.out _)) ?_; rintro e w1 ⟨rfl, z, rfl⟩)
        go_ret
        exact ⟨rfl, later_of (by repeat (first | exact Below.refl _ _ | (with_reducible assumption) | apply below_later | apply below_alloc | apply below_drew | apply below_drewN))⟩
    · obtain rfl : k = c := by omega
      have NX2 : al = true := HAL.out.symm.trans HALL.out
      subst NX2
      clear HAL HALL
      go_wp2_with fail
      go_ret
      exact ⟨rfl, later_of (by repeat (first | exact Below.refl _ _ | (with_reducible assumption) | apply below_later | apply below_alloc | apply below_drew | apply below_drewN))⟩
end Go.Proofs.Ytelfinjnbncnlaa
