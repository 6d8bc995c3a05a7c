/- The law of birds: walked. -/
import Derived.Test.YtbflpidjcflndaaKExplain
import Derived.Test.YtbflpidjcflndaaKTab
namespace Go.Proofs.Ytbflpidjcflndaa
open Go.RowKit

set_option maxRecDepth 100000 in
set_option maxHeartbeats 6400000 in
theorem birds_law (A B : Option Addr) (n cap k c1 : Nat) (s : Int) (X Y T : Nat → Int) (R : Nat → Row) (w : World) (hp : n ≤ 60 → IsChs w A n X Y T) (ht : IsTab w B k R) :
    Gives Try.prog 4 #[.slice A n cap, .int .i64 s, .slice B k c1] w (.bool true) := by
  have AW := Lib.hid awake_law
  have MN := Lib.hid fun (V : World) (h : Below w.heap.size w V) => Many_any A B n cap k c1 R V (ht.below h)
  cases hm : manyB n k R
  case true =>
    rw [hm] at MN
    clear hp ht hm
    go_enter Try.func4, Try.ntmps4
    go_wp2_with (first | (go_at_call 13; with_reducible refine Calls.mono (Gives.calls (MN.out _ (by repeat (first | exact Below.refl _ _ | (with_reducible assumption) | apply below_later | apply below_alloc | apply below_drew | apply below_drewN)))) ?_; rintro e w1 ⟨rfl, z, rfl⟩) | (go_at_call 14; with_reducible refine Calls.mono (Gives.calls (AW.out _)) ?_; rintro e w1 ⟨rfl, z2, rfl⟩))
    go_ret
    exact ⟨rfl, later_of (by repeat (first | exact Below.refl _ _ | (with_reducible assumption) | apply below_later | apply below_alloc | apply below_drew | apply below_drewN))⟩
  case false =>
    rw [hm] at MN
    obtain ⟨hn, hk, hr⟩ := many_facts hm
    have hp' := hp (by omega)
    obtain ⟨b, E, P1, P2⟩ : ∃ (b : Bool) (E : Int), Hid (∀ V, Below w.heap.size w V → Gives Try.prog 19 #[.slice A n cap, .int .i64 s, .slice B k c1] V (.tuple #[.bool b, .int .i64 E])) ∧ Hid (∀ V, Below w.heap.size w V → Gives Try.prog 20 #[.slice A n cap, .int .i64 s, .slice B k c1] V (.tuple #[.bool b, .int .i64 E])) := by
      cases hv : validW n s X Y T
      · exact ⟨_, _, fun V hV => Explain_bad A B n cap k c1 s X Y T V hv fun _ => hp'.below hV, fun V hV => RExplain_bad A B n cap k c1 s X Y T V hv (by omega) (hp'.below hV)⟩
      · exact ⟨_, _, fun V hV => Explain_ok A B n cap k c1 s X Y T R V (watch_iff.1 hv) (by omega) (fun i hi => by have := hr i hi; omega) (hp'.below hV) (ht.below hV), fun V hV => RExplain_ok A B n cap k c1 s X Y T R V (watch_iff.1 hv) (by omega) (fun i hi => by have := hr i hi; omega) (hp'.below hV) (ht.below hV)⟩
    have EACH : Hid (∀ i, i < k → ∃ (b : Bool) (E : Int), (∀ V, Below w.heap.size w V → Gives Try.prog 21 #[.slice A n cap, .int .i64 s, (R i).val] V (.tuple #[.bool b, .int .i64 E])) ∧ (∀ V, Below w.heap.size w V → Gives Try.prog 22 #[.slice A n cap, .int .i64 s, (R i).val] V (.tuple #[.bool b, .int .i64 E]))) := fun i hi => by
      have hri := hr i hi
      cases hv : validW n s X Y T
      · exact ⟨_, _, fun V hV => IsBird_bad A (R i).a n cap (R i).n (R i).c s X Y T V hv fun _ => hp'.below hV, fun V hV => RIsBird_bad A (R i).a n cap (R i).n (R i).c s X Y T V hv (by omega) (hp'.below hV)⟩
      · exact ⟨_, _, fun V hV => IsBird_ok A (R i).a n cap (R i).n (R i).c s X Y T (R i).f V (watch_iff.1 hv) (by omega) (hp'.below hV) (((ht.below hV).row i hi).1), fun V hV => RIsBird_ok A (R i).a n cap (R i).n (R i).c s X Y T (R i).f V (watch_iff.1 hv) (by omega) (hp'.below hV) (((ht.below hV).row i hi).1)⟩
    have HT := Lib.hid ht
    clear hp ht hp' hm hr
    go_enter Try.func4, Try.ntmps4
    go_wp2_with (first
      | (go_at_call 13; with_reducible refine Calls.mono (Gives.calls (MN.out _ (by repeat (first | exact Below.refl _ _ | (with_reducible assumption) | apply below_later | apply below_alloc | apply below_drew | apply below_drewN)))) ?_; rintro e w1 ⟨rfl, z, rfl⟩)
      | (go_at_call 19; with_reducible refine Calls.mono (Gives.calls (P1.out _ (by repeat (first | exact Below.refl _ _ | (with_reducible assumption) | apply below_later | apply below_alloc | apply below_drew | apply below_drewN)))) ?_; rintro e w1 ⟨rfl, z2, rfl⟩)
      | (go_at_call 20; with_reducible refine Calls.mono (Gives.calls (P2.out _ (by repeat (first | exact Below.refl _ _ | (with_reducible assumption) | apply below_later | apply below_alloc | apply below_drew | apply below_drewN)))) ?_; rintro e w1 ⟨rfl, z3, rfl⟩))
    go_loopw [11] (fun u wr => ∃ i : Nat, u = .int .i64 (i : Nat) ∧ i ≤ k ∧ ∃ x : Later w, wr = x.val) (fun u _ => k - (intOf u).toNat)
    case atStart => exact ⟨0, rfl, by omega, later_of (by repeat (first | exact Below.refl _ _ | (with_reducible assumption) | apply below_later | apply below_alloc | apply below_drew | apply below_drewN))⟩
    case round =>
      obtain ⟨i, rfl, hi, x, rfl⟩ := hrel
      clear P1 P2 MN
      by_cases hlt : i < k
      · obtain ⟨bt, off, hB, hb, hc⟩ := (HT.out.later x).at_ (by omega)
        have HBO := Lib.hid hB
        have ci := hc i hlt
        have cl : Hid (∀ V, Below x.val.heap.size x.val V → V.cell? ⟨bt, off + i, none⟩ = some (R i).val ∧ bt < V.heap.size) := fun V h => ⟨(h.cell (p := ⟨bt, off + i, none⟩) hb).trans ci, Nat.lt_of_lt_of_le hb h.size⟩
        rw [hB]
        obtain ⟨b1, E1, q1, q2⟩ := EACH.out i hlt
        unfold Row.val at ci cl q1 q2
        have Q1 := Lib.hid q1
        have Q2 := Lib.hid q2
        clear hc hB EACH q1 q2
        generalize R i = ri at *
        go_wp2_with (first
          | ((go_at_call 21; with_reducible refine Calls.mono (Gives.calls (Q1.out _ (by repeat (first | exact Below.refl _ _ | (with_reducible assumption) | apply below_later | apply below_alloc | apply below_drew | apply below_drewN)))) ?_; rintro e w1 ⟨rfl, y, rfl⟩); obtain ⟨j0, j1⟩ := cl.out y.val y.ok)
          | (go_at_call 22; with_reducible refine Calls.mono (Gives.calls (Q2.out _ (by repeat (first | exact Below.refl _ _ | (with_reducible assumption) | apply below_later | apply below_alloc | apply below_drew | apply below_drewN)))) ?_; rintro e w1 ⟨rfl, y2, rfl⟩))
        try rw [← HBO.out]
        first
          | (go_roundw
             case rel => exact ⟨i + 1, by go_num, by omega, later_of (by repeat (first | exact Below.refl _ _ | (with_reducible assumption) | apply below_later | apply below_alloc | apply below_drew | apply below_drewN))⟩
             case measure => simp [intOf]; omega)
          | (refine ⟨⟨i + 1, by go_num, by omega, later_of (by repeat (first | exact Below.refl _ _ | (with_reducible assumption) | apply below_later | apply below_alloc | apply below_drew | apply below_drewN))⟩, ?_⟩; simp [intOf]; omega)
      · obtain rfl : i = k := by omega
        go_wp2_with (go_at_call 14; with_reducible refine Calls.mono (Gives.calls (AW.out _)) ?_; rintro e w1 ⟨rfl, y, rfl⟩)
        go_ret
        exact ⟨rfl, later_of (by repeat (first | exact Below.refl _ _ | (with_reducible assumption) | apply below_later | apply below_alloc | apply below_drew | apply below_drewN))⟩
end Go.Proofs.Ytbflpidjcflndaa
