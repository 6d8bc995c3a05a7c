/- WaderMarked, walked. -/
import Derived.Test.YtbflpidjcflndaaKAwake
import Derived.Test.YtbflpidjcflndaaKRMarked
namespace Go.Proofs.Ytbflpidjcflndaa
open Go.RowKit

set_option maxRecDepth 100000 in
set_option maxHeartbeats 3200000 in
theorem marked_law (f s a : Int) (w : World) : Gives Try.prog 8 #[.int .i64 f, .int .i64 s, .int .i64 a] w (.bool true) := by
  have AW := Lib.hid awake_law
  obtain ⟨N, D, k, E, M1, M2⟩ : ∃ N D k E : Int, Hid (∀ w', Gives Try.prog 37 #[.int .i64 f, .int .i64 s, .int .i64 a] w' (.tuple #[.agg #[.int .i64 N, .int .i64 D], .int .i64 k, .int .i64 E])) ∧ Hid (∀ w', Gives Try.prog 38 #[.int .i64 f, .int .i64 s, .int .i64 a] w' (.tuple #[.agg #[.int .i64 N, .int .i64 D], .int .i64 k, .int .i64 E])) := by
    cases hb : badC f s a
    · have hb2 := hb
      unfold badC at hb2
      simp only [Bool.not_eq_false', Bool.and_eq_true, decide_eq_true_eq] at hb2
      by_cases h0 : a = 0
      · subst h0
        exact ⟨_, _, _, _, fun w' => Marked_none f s w' hb, fun w' => RMarked_none f s w' hb⟩
      · obtain ⟨b, rfl⟩ : ∃ b : Nat, a = b := ⟨a.toNat, by omega⟩
        exact ⟨_, _, _, _, fun w' => Marked_ok f s b w' hb (by omega), fun w' => RMarked_ok f s b w' hb (by omega)⟩
    · exact ⟨_, _, _, _, fun w' => Marked_bad f s a w' hb, fun w' => RMarked_bad f s a w' hb⟩
  go_enter Try.func8, Try.ntmps8
  go_wp2_with (first
    | (go_at_call 37; with_reducible refine Calls.mono (Gives.calls (M1.out _)) ?_; rintro e w1 ⟨rfl, z, rfl⟩)
    | (go_at_call 38; with_reducible refine Calls.mono (Gives.calls (M2.out _)) ?_; rintro e w1 ⟨rfl, z2, rfl⟩)
    | (go_at_call 14; with_reducible refine Calls.mono (Gives.calls (AW.out _)) ?_; rintro e w1 ⟨rfl, z3, rfl⟩))
  go_ret
  exact ⟨rfl, later_of (by repeat (first | exact Below.refl _ _ | (with_reducible assumption) | apply below_later | apply below_alloc | apply below_drew | apply below_drewN))⟩
end Go.Proofs.Ytbflpidjcflndaa
