/- wale's Best, Plan and After: their errors and their answers. -/
import Derived.Test.YtnjloomhhgilcaaWKeys
namespace Go.Proofs.Ytnjloomhhgilcaa
open Go.RowKit

theorem After_ok (n m cap start years : Nat) (A : Option Addr) (f t : Nat → Nat) (V : Nat → Int) (w : World) (hs : start < n) (hy : years ≤ 100) (R : Rot n m f t V) (hp : IsChs w A m (fun i => (f i : Int)) (fun i => (t i : Int)) V) :
    Calls Try.prog 11 #[.int .i64 n, .slice A m cap, .int .i64 start, .int .i64 years] w fun e w' => ∃ v, e = .returned (.tuple #[v, .int .i64 0]) ∧ ∃ x : Later w, w' = x.val ∧ OwnI w' w.heap.size v (natZ ((List.range n).filter (endsB m f t start years))) :=
  After_walk n m cap start years A f t V w hs hy R hp keys_any (sorted_any n)
theorem cyE_ne {n start years : Int} {m : Nat} {F T V : Nat → Int} (h : ¬(validR n m F T V = true ∧ inS n start = true ∧ 0 ≤ years ∧ years ≤ 100)) : (cyE n m F T V start years != 0) = true := by
  unfold cyE
  split
  · rfl
  · rename_i hv
    rw [if_neg]
    · rfl
    · rintro ⟨h1, h2, h3⟩
      exact h ⟨by simpa using hv, h1, h2, h3⟩
set_option maxRecDepth 100000 in
theorem Best_bad (n start years : Int) (m cap : Nat) (A : Option Addr) (F T V : Nat → Int) (w : World) (hm : m ≤ 1000) (hp : IsChs w A m F T V) (h : ¬(validR n m F T V = true ∧ inS n start = true ∧ 0 ≤ years ∧ years ≤ 100)) :
    Gives Try.prog 9 #[.int .i64 n, .slice A m cap, .int .i64 start, .int .i64 years] w (.tuple #[.int .i64 0, .int .i64 (cyE n m F T V start years)]) := by
  have CY : Hid (∀ w', IsChs w' A m F T V → Gives Try.prog 35 #[.int .i64 n, .slice A m cap, .int .i64 start, .int .i64 years] w' (.int .i64 (cyE n m F T V start years))) := fun w' h => checkYears_any n start years m cap A F T V w' hm h
  have he := cyE_ne h
  have HP := Lib.hid hp
  clear hp h
  generalize cyE n m F T V start years = r at *
  go_enter Try.func9, Try.ntmps9
  go_wp2_with (go_at_call 35; (first | (with_reducible show Calls _ _ _ (Later.val _) _; with_reducible refine Calls.mono (Later.call _ (CY.out _ (HP.out.below (by repeat (first | exact Below.refl _ _ | (with_reducible assumption) | apply below_later | apply below_alloc | apply below_drew | apply below_drewN))))) ?_) | (with_reducible refine Calls.mono (Gives.calls (CY.out _ (HP.out.below (by repeat (first | exact Below.refl _ _ | (with_reducible assumption) | apply below_later | apply below_alloc | apply below_drew | apply below_drewN))))) ?_)); rintro e w1 ⟨rfl, z, rfl⟩)
  go_ret2
  exact ⟨rfl, later_of (by repeat (first | exact Below.refl _ _ | (with_reducible assumption) | apply below_later | apply below_alloc | apply below_drew | apply below_drewN))⟩
set_option maxRecDepth 100000 in
theorem Plan_bad (n start years : Int) (m cap : Nat) (A : Option Addr) (F T V : Nat → Int) (w : World) (hm : m ≤ 1000) (hp : IsChs w A m F T V) (h : ¬(validR n m F T V = true ∧ inS n start = true ∧ 0 ≤ years ∧ years ≤ 100)) :
    Gives Try.prog 10 #[.int .i64 n, .slice A m cap, .int .i64 start, .int .i64 years] w (.tuple #[.slice none 0 0, .int .i64 (cyE n m F T V start years)]) := by
  have CY : Hid (∀ w', IsChs w' A m F T V → Gives Try.prog 35 #[.int .i64 n, .slice A m cap, .int .i64 start, .int .i64 years] w' (.int .i64 (cyE n m F T V start years))) := fun w' h => checkYears_any n start years m cap A F T V w' hm h
  have he := cyE_ne h
  have HP := Lib.hid hp
  clear hp h
  generalize cyE n m F T V start years = r at *
  go_enter Try.func10, Try.ntmps10
  go_wp2_with (go_at_call 35; (first | (with_reducible show Calls _ _ _ (Later.val _) _; with_reducible refine Calls.mono (Later.call _ (CY.out _ (HP.out.below (by repeat (first | exact Below.refl _ _ | (with_reducible assumption) | apply below_later | apply below_alloc | apply below_drew | apply below_drewN))))) ?_) | (with_reducible refine Calls.mono (Gives.calls (CY.out _ (HP.out.below (by repeat (first | exact Below.refl _ _ | (with_reducible assumption) | apply below_later | apply below_alloc | apply below_drew | apply below_drewN))))) ?_)); rintro e w1 ⟨rfl, z, rfl⟩)
  go_ret2
  exact ⟨rfl, later_of (by repeat (first | exact Below.refl _ _ | (with_reducible assumption) | apply below_later | apply below_alloc | apply below_drew | apply below_drewN))⟩
set_option maxRecDepth 100000 in
theorem After_bad (n start years : Int) (m cap : Nat) (A : Option Addr) (F T V : Nat → Int) (w : World) (hm : m ≤ 1000) (hp : IsChs w A m F T V) (h : ¬(validR n m F T V = true ∧ inS n start = true ∧ 0 ≤ years ∧ years ≤ 100)) :
    Gives Try.prog 11 #[.int .i64 n, .slice A m cap, .int .i64 start, .int .i64 years] w (.tuple #[.slice none 0 0, .int .i64 (cyE n m F T V start years)]) := by
  have CY : Hid (∀ w', IsChs w' A m F T V → Gives Try.prog 35 #[.int .i64 n, .slice A m cap, .int .i64 start, .int .i64 years] w' (.int .i64 (cyE n m F T V start years))) := fun w' h => checkYears_any n start years m cap A F T V w' hm h
  have he := cyE_ne h
  have HP := Lib.hid hp
  clear hp h
  generalize cyE n m F T V start years = r at *
  go_enter Try.func11, Try.ntmps11
  go_wp2_with (go_at_call 35; (first | (with_reducible show Calls _ _ _ (Later.val _) _; with_reducible refine Calls.mono (Later.call _ (CY.out _ (HP.out.below (by repeat (first | exact Below.refl _ _ | (with_reducible assumption) | apply below_later | apply below_alloc | apply below_drew | apply below_drewN))))) ?_) | (with_reducible refine Calls.mono (Gives.calls (CY.out _ (HP.out.below (by repeat (first | exact Below.refl _ _ | (with_reducible assumption) | apply below_later | apply below_alloc | apply below_drew | apply below_drewN))))) ?_)); rintro e w1 ⟨rfl, z, rfl⟩)
  go_ret2
  exact ⟨rfl, later_of (by repeat (first | exact Below.refl _ _ | (with_reducible assumption) | apply below_later | apply below_alloc | apply below_drew | apply below_drewN))⟩
theorem cyE_ok {n m start years : Nat} {f t : Nat → Nat} {V : Nat → Int} (R : Rot n m f t V) (hs : start < n) (hy : years ≤ 100) : cyE n m (fun i => (f i : Int)) (fun i => (t i : Int)) V start years = 0 := by
  unfold cyE
  rw [rot_valid R, if_neg (by simp), if_pos ⟨inS_nat hs, by omega, by omega⟩]
set_option maxRecDepth 100000 in
theorem Plan_none (n m cap start years : Nat) (A : Option Addr) (f t : Nat → Nat) (V : Nat → Int) (w : World) (hs : start < n) (hy : years ≤ 100) (R : Rot n m f t V) (hp : IsChs w A m (fun i => (f i : Int)) (fun i => (t i : Int)) V) (hno : (wrow n m f t V years).getD start 0 = nope) :
    Gives Try.prog 10 #[.int .i64 n, .slice A m cap, .int .i64 start, .int .i64 years] w (.tuple #[.slice none 0 0, .int .i64 5]) := by
  have CY : Hid (∀ w', IsChs w' A m (fun i => (f i : Int)) (fun i => (t i : Int)) V → Gives Try.prog 35 #[.int .i64 n, .slice A m cap, .int .i64 start, .int .i64 years] w' (.int .i64 0)) := fun w' h => cyE_ok R hs hy ▸ checkYears_any n start years m cap A _ _ V w' (by have := R.m40; omega) h
  have PL : Hid (∀ w', IsChs w' A m (fun i => (f i : Int)) (fun i => (t i : Int)) V → Gives Try.prog 37 #[.agg #[.int .i64 n, .slice A m cap], .int .i64 start, .int .i64 years] w' (.tuple #[.slice none 0 0, .bool false])) := fun w' h => plan_none n m cap years start A f t V w' hy hs R h hno
  have HP := Lib.hid hp
  clear hp R hno
  go_enter Try.func10, Try.ntmps10
  go_wp2_with (first | (go_at_call 35; (first | (with_reducible show Calls _ _ _ (Later.val _) _; with_reducible refine Calls.mono (Later.call _ (CY.out _ (HP.out.below (by repeat (first | exact Below.refl _ _ | (with_reducible assumption) | apply below_later | apply below_alloc | apply below_drew | apply below_drewN))))) ?_) | (with_reducible refine Calls.mono (Gives.calls (CY.out _ (HP.out.below (by repeat (first | exact Below.refl _ _ | (with_reducible assumption) | apply below_later | apply below_alloc | apply below_drew | apply below_drewN))))) ?_)); rintro e w1 ⟨rfl, z, rfl⟩) | (go_at_call 37; (first | (with_reducible show Calls _ _ _ (Later.val _) _; with_reducible refine Calls.mono (Later.call _ (PL.out _ (HP.out.below (by repeat (first | exact Below.refl _ _ | (with_reducible assumption) | apply below_later | apply below_alloc | apply below_drew | apply below_drewN))))) ?_) | (with_reducible refine Calls.mono (Gives.calls (PL.out _ (HP.out.below (by repeat (first | exact Below.refl _ _ | (with_reducible assumption) | apply below_later | apply below_alloc | apply below_drew | apply below_drewN))))) ?_)); rintro e w1 ⟨rfl, z2, rfl⟩))
  go_ret2
  exact ⟨rfl, later_of (by repeat (first | exact Below.refl _ _ | (with_reducible assumption) | apply below_later | apply below_alloc | apply below_drew | apply below_drewN))⟩
set_option maxRecDepth 100000 in
theorem Plan_some (n m cap start years : Nat) (A : Option Addr) (f t : Nat → Nat) (V : Nat → Int) (w : World) (hs : start < n) (hy : years ≤ 100) (R : Rot n m f t V) (hp : IsChs w A m (fun i => (f i : Int)) (fun i => (t i : Int)) V) (hno : (wrow n m f t V years).getD start 0 ≠ nope) :
    Calls Try.prog 10 #[.int .i64 n, .slice A m cap, .int .i64 start, .int .i64 years] w fun e w' => ∃ v, e = .returned (.tuple #[v, .int .i64 0]) ∧ ∃ x : Later w, w' = x.val ∧ OwnI w' w.heap.size v (natZ (planL n m f t V years start)) := by
  have CY : Hid (∀ w', IsChs w' A m (fun i => (f i : Int)) (fun i => (t i : Int)) V → Gives Try.prog 35 #[.int .i64 n, .slice A m cap, .int .i64 start, .int .i64 years] w' (.int .i64 0)) := fun w' h => cyE_ok R hs hy ▸ checkYears_any n start years m cap A _ _ V w' (by have := R.m40; omega) h
  have PL : Hid (∀ w', IsChs w' A m (fun i => (f i : Int)) (fun i => (t i : Int)) V → Calls Try.prog 37 #[.agg #[.int .i64 n, .slice A m cap], .int .i64 start, .int .i64 years] w' (PostPl w' (planL n m f t V years start))) := fun w' h => plan_some n m cap years start A f t V w' hy hs R h hno
  have HP := Lib.hid hp
  clear hp R hno
  generalize planL n m f t V years start = l at *
  go_enter Try.func10, Try.ntmps10
  go_wp2_with (first | (go_at_call 35; (first | (with_reducible show Calls _ _ _ (Later.val _) _; with_reducible refine Calls.mono (Later.call _ (CY.out _ (HP.out.below (by repeat (first | exact Below.refl _ _ | (with_reducible assumption) | apply below_later | apply below_alloc | apply below_drew | apply below_drewN))))) ?_) | (with_reducible refine Calls.mono (Gives.calls (CY.out _ (HP.out.below (by repeat (first | exact Below.refl _ _ | (with_reducible assumption) | apply below_later | apply below_alloc | apply below_drew | apply below_drewN))))) ?_)); rintro e w1 ⟨rfl, z, rfl⟩) | (go_at_call 37; refine Calls.mono (PL.out _ (HP.out.below (by repeat (first | exact Below.refl _ _ | (with_reducible assumption) | apply below_later | apply below_alloc | apply below_drew | apply below_drewN)))) ?_; rintro e w1 ⟨v, rfl, z2, rfl, ho⟩; have HO := Lib.hid ho; clear ho))
  go_ret2
  exact ⟨v, rfl, ⟨_, below_later z.ok⟩, rfl, HO.out.mono z.size⟩
end Go.Proofs.Ytnjloomhhgilcaa
