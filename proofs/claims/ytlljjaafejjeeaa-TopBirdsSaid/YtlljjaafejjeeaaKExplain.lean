/- Explain and IsBird of both: walked; the law of birds. -/
import Derived.Test.YtlljjaafejjeeaaKDivide
import Derived.Test.YtlljjaafejjeeaaKOnce
import Derived.Test.YtlljjaafejjeeaaKIsBird
import Derived.Test.YtlljjaafejjeeaaKApartLaw
namespace Go.Proofs.Ytlljjaafejjeeaa
open Go.RowKit

theorem birdB_in {L : Nat → Nat → Bool} {n m : Nat} {c : Nat → Int} (h : birdB L n c m = true) : ∀ j, j < m → ∃ x : Nat, c j = x ∧ x < n := by
  intro j hj
  unfold birdB at h
  simp only [Bool.and_eq_true] at h
  exact okB_in (allB_iff.1 h.1 j hj)
theorem birdB_pos {L : Nat → Nat → Bool} {n m : Nat} {c : Nat → Int} : (decide (0 < m) && birdB L n c m) = birdB L n c m := by
  unfold birdB
  cases allB m (okB L n c) <;> cases decide (0 < m) <;> rfl
/-- Do these lists explain a watch? -/
def expB (L : Nat → Nat → Bool) (n k : Nat) (R : Nat → Row) : Bool := divB n k R fun i => birdB L n (R i).f (R i).n
set_option maxRecDepth 100000 in
set_option maxHeartbeats 3200000 in
theorem Explain_ok (A B : Option Addr) (n cap k c1 : Nat) (s : Int) (X Y T : Nat → Int) (R : Nat → Row) (V : World) (W : Watch n s X Y T) (hk : k ≤ 1000) (hr : ∀ i, i < k → (R i).n ≤ 1000) (hp : IsChs V A n X Y T) (ht : IsTab V B k R) :
    Gives Try.prog 12 #[.slice A n cap, .int .i64 s, .slice B k c1] V (.tuple #[.bool (expB (leadsR s X Y T) n k R), .int .i64 0]) := by
  have hn := W.n30
  have hb : Below V.heap.size V (V.alloc (.cells #[.slice A n cap, .int .i64 s] 53)) := (Below.refl _ _).alloc (Nat.le_refl _) _
  have VA : Hid (∀ U, Below V.heap.size V U → Gives Try.prog 21 #[.slice A n cap, .int .i64 s] U (.bool true)) := fun U h => watch_iff.2 W ▸ kvalid_any s A n cap X Y T U fun _ => hp.below h
  have DV : Hid (∀ U, Below V.heap.size V U → Gives Try.prog 29 #[.agg #[.slice A n cap, .int .i64 s], .slice B k c1, .func (.func 30) #[.agg #[.slice A n cap, .int .i64 s]] #[]] U (.bool (expB (leadsR s X Y T) n k R))) := fun U h => by
    have e : expB (leadsR s X Y T) n k R = divB n k R fun i => decide (0 < (R i).n) && birdB (leadsR s X Y T) n (R i).f (R i).n := by
      unfold expB
      congr 1
      funext i
      exact birdB_pos.symm
    rw [e]
    exact divide_isBird n cap k c1 s A B R (fun i => birdB (leadsR s X Y T) n (R i).f (R i).n) U (by omega) hk hr (ht.below h)
      (fun U2 h2 i hi => isBird_any n cap (R i).n (R i).c s A (R i).a X Y T (R i).f U2 (hr i hi) W (hp.below (below_more h h2)) (((ht.below (below_more h h2)).row i hi).1))
      (fun i hi hq => birdB_in hq)
  generalize expB (leadsR s X Y T) n k R = r at *
  clear hp ht W hr
  go_enter Try.func12, Try.ntmps12
  go_wp2_with (first | (go_at_call 21; with_reducible refine Calls.mono (Gives.calls (VA.out _ (by repeat (first | exact Below.refl _ _ | (with_reducible assumption) | apply below_later | apply below_alloc | apply below_drew | apply below_drewN)))) ?_; rintro e w1 ⟨rfl, z, rfl⟩) | (go_at_call 29; with_reducible refine Calls.mono (Gives.calls (DV.out _ (by repeat (first | exact Below.refl _ _ | (with_reducible assumption) | apply below_later | apply below_alloc | apply below_drew | apply below_drewN)))) ?_; rintro e w1 ⟨rfl, z2, rfl⟩))
  go_ret2
  exact ⟨rfl, later_of (by repeat (first | exact Below.refl _ _ | (with_reducible assumption) | apply below_later | apply below_alloc | apply below_drew | apply below_drewN))⟩
set_option maxRecDepth 100000 in
theorem Explain_bad (A B : Option Addr) (n cap k c1 : Nat) (s : Int) (X Y T : Nat → Int) (V : World) (hv : validW n s X Y T = false) (hp : n ≤ 30 → IsChs V A n X Y T) :
    Gives Try.prog 12 #[.slice A n cap, .int .i64 s, .slice B k c1] V (.tuple #[.bool false, .int .i64 60]) := by
  have VA : Hid (∀ U, Below V.heap.size V U → Gives Try.prog 21 #[.slice A n cap, .int .i64 s] U (.bool false)) := fun U h => hv ▸ kvalid_any s A n cap X Y T U fun h2 => (hp h2).below h
  clear hp hv
  go_enter Try.func12, Try.ntmps12
  go_wp2_with (go_at_call 21; with_reducible refine Calls.mono (Gives.calls (VA.out _ (by repeat (first | exact Below.refl _ _ | (with_reducible assumption) | apply below_later | apply below_alloc | apply below_drew | apply below_drewN)))) ?_; rintro e w1 ⟨rfl, z, rfl⟩)
  go_ret2
  exact ⟨rfl, later_of (by repeat (first | exact Below.refl _ _ | (with_reducible assumption) | apply below_later | apply below_alloc | apply below_drew | apply below_drewN))⟩
set_option maxRecDepth 100000 in
theorem IsBird_ok (A O : Option Addr) (n cap m c1 : Nat) (s : Int) (X Y T : Nat → Int) (c : Nat → Int) (V : World) (W : Watch n s X Y T) (hm : m ≤ 1000) (hp : IsChs V A n X Y T) (hc : IsInts V O m c) :
    Gives Try.prog 32 #[.slice A n cap, .int .i64 s, .slice O m c1] V (.tuple #[.bool (birdB (leadsR s X Y T) n c m), .int .i64 0]) := by
  have hn := W.n30
  have VA : Hid (∀ U, Below V.heap.size V U → Gives Try.prog 21 #[.slice A n cap, .int .i64 s] U (.bool true)) := fun U h => watch_iff.2 W ▸ kvalid_any s A n cap X Y T U fun _ => hp.below h
  have AA : Hid (∀ U, Below V.heap.size V U → Gives Try.prog 30 #[.agg #[.slice A n cap, .int .i64 s], .slice O m c1] U (.bool (birdB (leadsR s X Y T) n c m))) := fun U h => isBird_any n cap m c1 s A O X Y T c U hm W (hp.below h) (hc.below h)
  generalize birdB (leadsR s X Y T) n c m = r at *
  clear hp hc W
  go_enter Try.func32, Try.ntmps32
  go_wp2_with (first | (go_at_call 21; with_reducible refine Calls.mono (Gives.calls (VA.out _ (by repeat (first | exact Below.refl _ _ | (with_reducible assumption) | apply below_later | apply below_alloc | apply below_drew | apply below_drewN)))) ?_; rintro e w1 ⟨rfl, z, rfl⟩) | (go_at_call 30; with_reducible refine Calls.mono (Gives.calls (AA.out _ (by repeat (first | exact Below.refl _ _ | (with_reducible assumption) | apply below_later | apply below_alloc | apply below_drew | apply below_drewN)))) ?_; rintro e w1 ⟨rfl, z2, rfl⟩))
  go_ret2
  exact ⟨rfl, later_of (by repeat (first | exact Below.refl _ _ | (with_reducible assumption) | apply below_later | apply below_alloc | apply below_drew | apply below_drewN))⟩
set_option maxRecDepth 100000 in
theorem IsBird_bad (A O : Option Addr) (n cap m c1 : Nat) (s : Int) (X Y T : Nat → Int) (V : World) (hv : validW n s X Y T = false) (hp : n ≤ 30 → IsChs V A n X Y T) :
    Gives Try.prog 32 #[.slice A n cap, .int .i64 s, .slice O m c1] V (.tuple #[.bool false, .int .i64 60]) := by
  have VA : Hid (∀ U, Below V.heap.size V U → Gives Try.prog 21 #[.slice A n cap, .int .i64 s] U (.bool false)) := fun U h => hv ▸ kvalid_any s A n cap X Y T U fun h2 => (hp h2).below h
  clear hp hv
  go_enter Try.func32, Try.ntmps32
  go_wp2_with (go_at_call 21; with_reducible refine Calls.mono (Gives.calls (VA.out _ (by repeat (first | exact Below.refl _ _ | (with_reducible assumption) | apply below_later | apply below_alloc | apply below_drew | apply below_drewN)))) ?_; rintro e w1 ⟨rfl, z, rfl⟩)
  go_ret2
  exact ⟨rfl, later_of (by repeat (first | exact Below.refl _ _ | (with_reducible assumption) | apply below_later | apply below_alloc | apply below_drew | apply below_drewN))⟩
end Go.Proofs.Ytlljjaafejjeeaa
