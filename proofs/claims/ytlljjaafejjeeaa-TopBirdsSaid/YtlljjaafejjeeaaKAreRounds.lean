/- AreRounds of both: walked. -/
import Derived.Test.YtlljjaafejjeeaaKDivide
import Derived.Test.YtlljjaafejjeeaaKOnce
import Derived.Test.YtlljjaafejjeeaaKApartLaw
namespace Go.Proofs.Ytlljjaafejjeeaa
open Go.RowKit

theorem apartB_in {L : Nat → Nat → Bool} {n m : Nat} {c : Nat → Int} (h : apartB L n c m = true) : ∀ j, j < m → ∃ x : Nat, c j = x ∧ x < n := by
  intro j hj
  unfold apartB at h
  exact okA_in (allB_iff.1 h j hj)
/-- Is a list one of the rounds? -/
def rndB (L : Nat → Nat → Bool) (n : Nat) (r : Row) : Bool := decide (0 < r.n) && apartB L n r.f r.n
/-- Are these lists rounds of a watch? -/
def rndsB (L : Nat → Nat → Bool) (n k : Nat) (R : Nat → Row) : Bool := divB n k R fun i => rndB L n (R i)
set_option maxRecDepth 100000 in
set_option maxHeartbeats 3200000 in
theorem AreRounds_ok (A B : Option Addr) (n cap k c1 : Nat) (s : Int) (X Y T : Nat → Int) (R : Nat → Row) (V : World) (W : Watch n s X Y T) (hk : k ≤ 1000) (hr : ∀ i, i < k → (R i).n ≤ 1000) (hp : IsChs V A n X Y T) (ht : IsTab V B k R) :
    Gives Try.prog 14 #[.slice A n cap, .int .i64 s, .slice B k c1] V (.tuple #[.bool (rndsB (leadsR s X Y T) n k R), .int .i64 0]) := by
  have hn := W.n30
  have hb : Below V.heap.size V (V.alloc (.cells #[.slice A n cap, .int .i64 s] 53)) := (Below.refl _ _).alloc (Nat.le_refl _) _
  have VA : Hid (∀ U, Below V.heap.size V U → Gives Try.prog 21 #[.slice A n cap, .int .i64 s] U (.bool true)) := fun U h => watch_iff.2 W ▸ kvalid_any s A n cap X Y T U fun _ => hp.below h
  have DV : Hid (∀ U, Below V.heap.size V U → Gives Try.prog 29 #[.agg #[.slice A n cap, .int .i64 s], .slice B k c1, .func (.func 31) #[.agg #[.slice A n cap, .int .i64 s]] #[]] U (.bool (rndsB (leadsR s X Y T) n k R))) := fun U h =>
    divide_areApart n cap k c1 s A B R (fun i => apartB (leadsR s X Y T) n (R i).f (R i).n) U (by omega) hk hr (ht.below h)
      (fun U2 h2 i hi => areApart_any n cap (R i).n (R i).c s A (R i).a X Y T (R i).f U2 (hr i hi) W (hp.below (below_more h h2)) (((ht.below (below_more h h2)).row i hi).1) (((ht.below (below_more h h2)).row i hi).2))
      (fun i hi hq => apartB_in hq)
  generalize rndsB (leadsR s X Y T) n k R = r at *
  clear hp ht W hr
  go_enter Try.func14, Try.ntmps14
  go_wp2_with (first | (go_at_call 21; with_reducible refine Calls.mono (Gives.calls (VA.out _ (by repeat (first | exact Below.refl _ _ | (with_reducible assumption) | apply below_later | apply below_alloc | apply below_drew | apply below_drewN)))) ?_; rintro e w1 ⟨rfl, z, rfl⟩) | (go_at_call 29; with_reducible refine Calls.mono (Gives.calls (DV.out _ (by repeat (first | exact Below.refl _ _ | (with_reducible assumption) | apply below_later | apply below_alloc | apply below_drew | apply below_drewN)))) ?_; rintro e w1 ⟨rfl, z2, rfl⟩))
  go_ret2
  exact ⟨rfl, later_of (by repeat (first | exact Below.refl _ _ | (with_reducible assumption) | apply below_later | apply below_alloc | apply below_drew | apply below_drewN))⟩
set_option maxRecDepth 100000 in
theorem AreRounds_bad (A B : Option Addr) (n cap k c1 : Nat) (s : Int) (X Y T : Nat → Int) (V : World) (hv : validW n s X Y T = false) (hp : n ≤ 30 → IsChs V A n X Y T) :
    Gives Try.prog 14 #[.slice A n cap, .int .i64 s, .slice B k c1] V (.tuple #[.bool false, .int .i64 60]) := by
  have VA : Hid (∀ U, Below V.heap.size V U → Gives Try.prog 21 #[.slice A n cap, .int .i64 s] U (.bool false)) := fun U h => hv ▸ kvalid_any s A n cap X Y T U fun h2 => (hp h2).below h
  clear hp hv
  go_enter Try.func14, Try.ntmps14
  go_wp2_with (go_at_call 21; with_reducible refine Calls.mono (Gives.calls (VA.out _ (by repeat (first | exact Below.refl _ _ | (with_reducible assumption) | apply below_later | apply below_alloc | apply below_drew | apply below_drewN)))) ?_; rintro e w1 ⟨rfl, z, rfl⟩)
  go_ret2
  exact ⟨rfl, later_of (by repeat (first | exact Below.refl _ _ | (with_reducible assumption) | apply below_later | apply below_alloc | apply below_drew | apply below_drewN))⟩
end Go.Proofs.Ytlljjaafejjeeaa
