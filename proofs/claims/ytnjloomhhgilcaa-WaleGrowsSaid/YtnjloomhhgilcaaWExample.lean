/- The two examples with which each law of layer 5 ends: walked. -/
import Derived.Test.YtnjloomhhgilcaaWPub
namespace Go.Proofs.Ytnjloomhhgilcaa
open Go.RowKit

theorem ex_rot : Rot 2 3 exF exT exV := ⟨by decide, by decide, by decide, by decide, by decide, by decide⟩
theorem ex_circ : circB 3 exF exT (fun i => (([1, 2] : List Nat).getD i 0 : Nat)) 2 = true := by decide
theorem ex_worth : worthL exV [1, 2] = 9 := by decide
theorem chs9 {X : World} {b : Nat} (h : X.heap[b]? = some (.cells #[.int .i64 0, .int .i64 0, .int .i64 3, .int .i64 0, .int .i64 1, .int .i64 0, .int .i64 1, .int .i64 0, .int .i64 9] 50)) : IsChs X (some ⟨b, 0, none⟩) 3 (fun i => (exF i : Int)) (fun i => (exT i : Int)) exV := by
  refine ⟨by omega, fun _ => ⟨b, 0, rfl, get_lt h, fun i hi => ?_, fun i hi => ?_, fun i hi => ?_⟩⟩
  all_goals
    match i, hi with
    | 0, _ => exact cell_of_heap h _ _ rfl
    | 1, _ => exact cell_of_heap h _ _ rfl
    | 2, _ => exact cell_of_heap h _ _ rfl
set_option maxRecDepth 100000 in
set_option maxHeartbeats 1600000 in
theorem first_law (w : World) : Gives Try.prog 8 #[] w (.bool true) := by
  have ME : Hid (∀ w' A c, IsChs w' A 3 (fun i => (exF i : Int)) (fun i => (exT i : Int)) exV → Gives Try.prog 19 #[.int .i64 2, .slice A 3 c] w' (.tuple #[.agg #[.int .i64 9, .int .i64 2], .int .i64 0])) := fun w' A c h => by
    have h1 := Mean_ok 2 3 c A exF exT exV w' ex_rot h (by rw [ex_circle]; exact ex_circ)
    rw [ex_circle, ex_worth] at h1
    exact h1
  have BE : Hid (∀ w' A c, IsChs w' A 3 (fun i => (exF i : Int)) (fun i => (exT i : Int)) exV → Gives Try.prog 9 #[.int .i64 2, .slice A 3 c, .int .i64 0, .int .i64 3] w' (.tuple #[.int .i64 12, .int .i64 0])) := fun w' A c h => by
    have h1 := Best_ok 2 3 c 0 3 A exF exT exV w' (by omega) (by omega) ex_rot h
    rw [ex_best, if_neg (by decide)] at h1
    exact h1
  have HX : Hid (∀ V, Below (w.alloc (.cells #[.int .i64 0, .int .i64 0, .int .i64 3, .int .i64 0, .int .i64 1, .int .i64 0, .int .i64 1, .int .i64 0, .int .i64 9] 50)).heap.size (w.alloc (.cells #[.int .i64 0, .int .i64 0, .int .i64 3, .int .i64 0, .int .i64 1, .int .i64 0, .int .i64 1, .int .i64 0, .int .i64 9] 50)) V → IsChs V (some ⟨w.heap.size, 0, none⟩) 3 (fun i => (exF i : Int)) (fun i => (exT i : Int)) exV) := fun V h => chs9 (res_cell h)
  go_enter Try.func8, Try.ntmps8
  go_wp2_with (first
    | (go_at_call 19; with_reducible refine Calls.mono (Gives.calls (ME.out _ _ _ (HX.out _ (by repeat (first | exact Below.refl _ _ | (with_reducible assumption) | apply below_later | apply below_alloc | apply below_drew | apply below_drewN))))) ?_; rintro e w1 ⟨rfl, z, rfl⟩)
    | (go_at_call 9; with_reducible refine Calls.mono (Gives.calls (BE.out _ _ _ (HX.out _ (by repeat (first | exact Below.refl _ _ | (with_reducible assumption) | apply below_later | apply below_alloc | apply below_drew | apply below_drewN))))) ?_; rintro e w1 ⟨rfl, z2, rfl⟩))
  go_ret
  exact ⟨rfl, later_of (by repeat (first | exact Below.refl _ _ | (with_reducible assumption) | apply below_later | apply below_alloc | apply below_drew | apply below_drewN))⟩
end Go.Proofs.Ytnjloomhhgilcaa
