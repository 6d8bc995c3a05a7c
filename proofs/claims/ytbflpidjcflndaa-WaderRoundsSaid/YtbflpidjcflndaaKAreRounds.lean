/- AreRounds of both: walked. -/
import Derived.Test.YtbflpidjcflndaaKDivide
import Derived.Test.YtbflpidjcflndaaKOnce
import Derived.Test.YtbflpidjcflndaaKApartLaw
namespace Go.Proofs.Ytbflpidjcflndaa
open Go.RowKit

theorem apartB_in {L : Nat → Nat → Bool} {n m : Nat} {c : Nat → Int} (h : apartB L n c m = true) : ∀ j, j < m → ∃ x : Nat, c j = x ∧ x < n := by
  intro j hj
  unfold apartB at h
  exact okA_in (allB_iff.1 h j hj)
/-- Is a list one of the rounds? -/
def rndB (L : Nat → Nat → Bool) (n : Nat) (r : Row) : Bool := decide (0 < r.n) && apartB L n r.f r.n
/-- Are these lists rounds of a watch? -/
def rndsB (L : Nat → Nat → Bool) (n k : Nat) (R : Nat → Row) : Bool := divB n k R fun i => rndB L n (R i)
set_option maxRecDepth 100000 in
set_option maxHeartbeats 3200000 in
theorem AreRounds_ok (A B : Option Addr) (n cap k c1 : Nat) (s : Int) (X Y T : Nat → Int) (R : Nat → Row) (V : World) (W : Watch n s X Y T) (hk : k ≤ 1000) (hr : ∀ i, i < k → (R i).n ≤ 1000) (hp : IsChs V A n X Y T) (ht : IsTab V B k R) :
    Gives Try.prog 35 #[.slice A n cap, .int .i64 s, .slice B k c1] V (.tuple #[.bool (rndsB (leadsR s X Y T) n k R), .int .i64 0]) := by
  have hn := W.n30
  have hb : Below V.heap.size V (V.alloc (.cells #[.slice A n cap, .int .i64 s] 74)) := (Below.refl _ _).alloc (Nat.le_refl _) _
  have VA : Hid (∀ U, Below V.heap.size V U → Gives Try.prog 17 #[.slice A n cap, .int .i64 s] U (.bool true)) := fun U h => watch_iff.2 W ▸ kvalid_any s A n cap X Y T U fun _ => hp.below h
  have DV : Hid (∀ U, Below V.heap.size V U → Gives Try.prog 57 #[.agg #[.slice A n cap, .int .i64 s], .slice B k c1, .func (.func 66) #[.agg #[.slice A n cap, .int .i64 s]] #[]] U (.bool (rndsB (leadsR s X Y T) n k R))) := fun U h =>
    divide_areApart n cap k c1 s A B R (fun i => apartB (leadsR s X Y T) n (R i).f (R i).n) U (by omega) hk hr (ht.below h)
      (fun U2 h2 i hi => areApart_any n cap (R i).n (R i).c s A (R i).a X Y T (R i).f U2 (hr i hi) W (hp.below (below_more h h2)) (((ht.below (below_more h h2)).row i hi).1) (((ht.below (below_more h h2)).row i hi).2))
      (fun i hi hq => apartB_in hq)
  generalize rndsB (leadsR s X Y T) n k R = r at *
  clear hp ht W hr
  go_enter Try.func35, Try.ntmps35
  go_wp2_with (first | (go_at_call 17; with_reducible refine Calls.mono (Gives.calls (VA.out _ (by repeat (first | exact Below.refl _ _ | (with_reducible assumption) | apply below_later | apply below_alloc | apply below_drew | apply below_drewN)))) ?_; rintro e w1 ⟨rfl, z, rfl⟩) | (go_at_call 57; with_reducible refine Calls.mono (Gives.calls (DV.out _ (by repeat (first | exact Below.refl _ _ | (with_reducible assumption) | apply below_later | apply below_alloc | apply below_drew | apply below_drewN)))) ?_; rintro e w1 ⟨rfl, z2, rfl⟩))
  go_ret2
  exact ⟨rfl, later_of (by repeat (first | exact Below.refl _ _ | (with_reducible assumption) | apply below_later | apply below_alloc | apply below_drew | apply below_drewN))⟩
set_option maxRecDepth 100000 in
theorem AreRounds_bad (A B : Option Addr) (n cap k c1 : Nat) (s : Int) (X Y T : Nat → Int) (V : World) (hv : validW n s X Y T = false) (hp : n ≤ 30 → IsChs V A n X Y T) :
    Gives Try.prog 35 #[.slice A n cap, .int .i64 s, .slice B k c1] V (.tuple #[.bool false, .int .i64 60]) := by
  have VA : Hid (∀ U, Below V.heap.size V U → Gives Try.prog 17 #[.slice A n cap, .int .i64 s] U (.bool false)) := fun U h => hv ▸ kvalid_any s A n cap X Y T U fun h2 => (hp h2).below h
  clear hp hv
  go_enter Try.func35, Try.ntmps35
  go_wp2_with (go_at_call 17; with_reducible refine Calls.mono (Gives.calls (VA.out _ (by repeat (first | exact Below.refl _ _ | (with_reducible assumption) | apply below_later | apply below_alloc | apply below_drew | apply below_drewN)))) ?_; rintro e w1 ⟨rfl, z, rfl⟩)
  go_ret2
  exact ⟨rfl, later_of (by repeat (first | exact Below.refl _ _ | (with_reducible assumption) | apply below_later | apply below_alloc | apply below_drew | apply below_drewN))⟩
set_option maxRecDepth 100000 in
theorem RAreRounds_bad (A B : Option Addr) (n cap k c1 : Nat) (s : Int) (X Y T : Nat → Int) (V : World) (hv : validW n s X Y T = false) (hn : n ≤ 1000) (hp : IsChs V A n X Y T) :
    Gives Try.prog 36 #[.slice A n cap, .int .i64 s, .slice B k c1] V (.tuple #[.bool false, .int .i64 60]) := by
  have VA : Hid (∀ U, Below V.heap.size V U → Gives Try.prog 18 #[.slice A n cap, .int .i64 s] U (.bool false)) := fun U h => hv ▸ krvalid_any s A n cap X Y T U hn (hp.below h)
  clear hp hv
  go_enter Try.func36, Try.ntmps36
  go_wp2_with (go_at_call 18; with_reducible refine Calls.mono (Gives.calls (VA.out _ (by repeat (first | exact Below.refl _ _ | (with_reducible assumption) | apply below_later | apply below_alloc | apply below_drew | apply below_drewN)))) ?_; rintro e w1 ⟨rfl, z, rfl⟩)
  go_ret2
  exact ⟨rfl, later_of (by repeat (first | exact Below.refl _ _ | (with_reducible assumption) | apply below_later | apply below_alloc | apply below_drew | apply below_drewN))⟩
set_option maxRecDepth 100000 in
set_option maxHeartbeats 3200000 in
theorem RAreRounds_ok (A B : Option Addr) (n cap k c1 : Nat) (s : Int) (X Y T : Nat → Int) (R : Nat → Row) (w : World) (W : Watch n s X Y T) (hk : k ≤ 1000) (hr : ∀ i, i < k → (R i).n ≤ 1000) (hp : IsChs w A n X Y T) (ht : IsTab w B k R) :
    Gives Try.prog 36 #[.slice A n cap, .int .i64 s, .slice B k c1] w (.tuple #[.bool (rndsB (leadsR s X Y T) n k R), .int .i64 0]) := by
  have hn := W.n30
  have VA : Hid (∀ U, Below w.heap.size w U → Gives Try.prog 18 #[.slice A n cap, .int .i64 s] U (.bool true)) := fun U h => watch_iff.2 W ▸ krvalid_any s A n cap X Y T U (by omega) (hp.below h)
  have BD : Hid (∀ U, Below w.heap.size w U → ∀ i, i < k → Gives Try.prog 65 #[.slice A n cap, .int .i64 s, (R i).val] U (.bool (apartB (leadsR s X Y T) n (R i).f (R i).n))) := fun U h i hi =>
    rareApart_any n cap (R i).n (R i).c s A (R i).a X Y T (R i).f U (hr i hi) W (hp.below h) (((ht.below h).row i hi).1)
  have ON : Hid ((∀ i, i < k → rndB (leadsR s X Y T) n (R i) = true) → ∀ U, Below w.heap.size w U → Gives Try.prog 60 #[.int .i64 n, .slice B k c1] U (.bool (rndsB (leadsR s X Y T) n k R))) := fun hall U h => by
    have e : rndsB (leadsR s X Y T) n k R = (decide (flatN R k).Nodup && decide ((flatN R k).length = n)) := by
      unfold rndsB divB
      rw [allB_true (p := fun i => rndB (leadsR s X Y T) n (R i)) hall, Bool.true_and]
    rw [e]
    exact once_any n k c1 B R U (by omega) hk hr (ht.below h) fun i hi => by
      have h1 := hall i hi
      unfold rndB at h1
      simp only [Bool.and_eq_true] at h1
      exact apartB_in h1.2
  have EF : Hid (∀ i, i < k → rndB (leadsR s X Y T) n (R i) = false → rndsB (leadsR s X Y T) n k R = false) := fun i hi h => by
    unfold rndsB divB
    rw [allB_false (p := fun i => rndB (leadsR s X Y T) n (R i)) hi h, Bool.false_and]
  have RB : Hid (∀ i, rndB (leadsR s X Y T) n (R i) = (decide (0 < (R i).n) && apartB (leadsR s X Y T) n (R i).f (R i).n)) := fun _ => rfl
  obtain ⟨q, hq⟩ : ∃ q : Nat → Bool, (fun i => apartB (leadsR s X Y T) n (R i).f (R i).n) = q := ⟨_, rfl⟩
  have hqi : ∀ i, apartB (leadsR s X Y T) n (R i).f (R i).n = q i := fun i => congrFun hq i
  simp only [hqi] at BD RB
  clear hq hqi
  have HT := Lib.hid ht
  generalize rndsB (leadsR s X Y T) n k R = r at *
  generalize rndB (leadsR s X Y T) n = rb at *
  clear hp ht W hr
  go_enter Try.func36, Try.ntmps36
  go_wp2_with (go_at_call 18; with_reducible refine Calls.mono (Gives.calls (VA.out _ (by repeat (first | exact Below.refl _ _ | (with_reducible assumption) | apply below_later | apply below_alloc | apply below_drew | apply below_drewN)))) ?_; rintro e w1 ⟨rfl, z, rfl⟩)
  go_loopw [8] (fun u wr => ∃ i : Nat, u = .int .i64 (i : Nat) ∧ i ≤ k ∧ (∀ j, j < i → rb (R j) = true) ∧ ∃ x : Later w, wr = x.val) (fun u _ => k - (intOf u).toNat)
  case atStart => exact ⟨0, rfl, by omega, by omega, later_of (by repeat (first | exact Below.refl _ _ | (with_reducible assumption) | apply below_later | apply below_alloc | apply below_drew | apply below_drewN))⟩
  case round =>
    obtain ⟨i, rfl, hi, hall, x, rfl⟩ := hrel
    have HALL := Lib.hid hall
    clear hall VA
    by_cases hlt : i < k
    · obtain ⟨b, off, hB, hb, hc⟩ := (HT.out.later x).at_ (by omega)
      have HBO := Lib.hid hB
      have ci := hc i hlt
      rw [hB]
      have B1 : Hid (∀ U, Below w.heap.size w U → Gives Try.prog 65 #[.slice A n cap, .int .i64 s, .slice (R i).a (R i).n (R i).c] U (.bool (q i))) := fun U h => BD.out U h i hlt
      have E1 := Lib.hid (EF.out i hlt)
      have T1 : Hid (rb (R i) = true → ∀ j, j < i + 1 → rb (R j) = true) := fun h => all_step (p := fun i => rb (R i)) HALL.out h
      have RB1 := Lib.hid (RB.out i)
      unfold Row.val at ci
      clear hc hB BD EF
      generalize R i = ri at *
      generalize q i = qi at *
      by_cases h0 : ri.n = 0
      · have HE : Hid (r = false) := E1.out (by rw [RB1.out, h0]; rfl)
        have d0 : ((ri.n : Int) == 0) = true := by simp; omega
        go_wp2_with fail
        go_ret2
        exact ⟨by rw [HE.out]; rfl, later_of (by repeat (first | exact Below.refl _ _ | (with_reducible assumption) | apply below_later | apply below_alloc | apply below_drew | apply below_drewN))⟩
      · have d0 : ((ri.n : Int) == 0) = false := by simp; omega
        have d1 : decide (0 < ri.n) = true := decide_eq_true (by omega)
        cases qi
        case false =>
          have HE : Hid (r = false) := E1.out (by rw [RB1.out]; simp)
          go_wp2_with (go_at_call 65; with_reducible refine Calls.mono (Gives.calls (B1.out _ (by repeat (first | exact Below.refl _ _ | (with_reducible assumption) | apply below_later | apply below_alloc | apply below_drew | apply below_drewN)))) ?_; rintro e w1 ⟨rfl, y, rfl⟩)
          go_ret2
          exact ⟨by rw [HE.out]; rfl, later_of (by repeat (first | exact Below.refl _ _ | (with_reducible assumption) | apply below_later | apply below_alloc | apply below_drew | apply below_drewN))⟩
        case true =>
          have HE := Lib.hid (T1.out (by rw [RB1.out, d1]; rfl))
          go_wp2_with (go_at_call 65; with_reducible refine Calls.mono (Gives.calls (B1.out _ (by repeat (first | exact Below.refl _ _ | (with_reducible assumption) | apply below_later | apply below_alloc | apply below_drew | apply below_drewN)))) ?_; rintro e w1 ⟨rfl, y, rfl⟩)
          try rw [← HBO.out]
          first
            | (go_roundw
               case rel => exact ⟨i + 1, by go_num, by omega, HE.out, later_of (by repeat (first | exact Below.refl _ _ | (with_reducible assumption) | apply below_later | apply below_alloc | apply below_drew | apply below_drewN))⟩
               case measure => simp [intOf]; omega)
            | (refine ⟨⟨i + 1, by go_num, by omega, HE.out, later_of (by repeat (first | exact Below.refl _ _ | (with_reducible assumption) | apply below_later | apply below_alloc | apply below_drew | apply below_drewN))⟩, ?_⟩; simp [intOf]; omega)
    · obtain rfl : i = k := by omega
      have O1 := Lib.hid (ON.out HALL.out)
      clear ON BD EF
      go_wp2_with (go_at_call 60; with_reducible refine Calls.mono (Gives.calls (O1.out _ (by repeat (first | exact Below.refl _ _ | (with_reducible assumption) | apply below_later | apply below_alloc | apply below_drew | apply below_drewN)))) ?_; rintro e w1 ⟨rfl, y, rfl⟩)
      go_ret2
      exact ⟨rfl, later_of (by repeat (first | exact Below.refl _ _ | (with_reducible assumption) | apply below_later | apply below_alloc | apply below_drew | apply below_drewN))⟩
end Go.Proofs.Ytbflpidjcflndaa
