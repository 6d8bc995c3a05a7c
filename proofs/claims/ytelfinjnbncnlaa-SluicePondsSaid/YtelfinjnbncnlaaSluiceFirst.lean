/- sluice.Settle; the two examples with which each law of layer 3 ends. -/
import Derived.Test.YtelfinjnbncnlaaSettle
namespace Go.Proofs.Ytelfinjnbncnlaa
open Go.RowKit

/-- Which buckets are right. -/
def bucketsB (W H : Int) (n : Nat) (f : Nat → Int) : Bool := sidesB W H && (decide ((n : Int) = W * H) && allB n fun i => numB 100 (f i))
set_option maxRecDepth 100000 in
set_option maxHeartbeats 1600000 in
theorem areBuckets_any (W H : Int) (A : Option Addr) (n cap : Nat) (f : Nat → Int) (w : World) (hp : IsInts w A n f) :
    Gives Try.prog 43 #[.int .i64 W, .int .i64 H, .slice A n cap] w (.bool (bucketsB W H n f)) := by
  have S1 : Hid (∀ w, Gives Try.prog 45 #[.int .i64 W, .int .i64 H] w (.bool (sidesB W H))) := fun w => areSides_any W H w
  have S2 : Hid (∀ w', IsInts w' A n f → ∀ c, Gives Try.prog 46 #[.slice A n cap, .int .i64 c, .int .i64 100] w' (.bool (decide ((n : Int) = c) && allB n fun i => numB 100 (f i)))) := fun w' h c => areNumbers_any A n cap f c 100 w' h
  have HV : Hid (bucketsB W H n f = (sidesB W H && (decide ((n : Int) = W * H) && allB n fun i => numB 100 (f i)))) := rfl
  have HP := Lib.hid hp
  have small := hp.small
  clear hp
  generalize bucketsB W H n f = r at *
  cases h1 : sidesB W H
  · rw [h1] at S1 HV
    clear h1
    go_enter Try.func43, Try.ntmps43
    go_wp2_with (go_at_call 45; (first | (with_reducible show Calls _ _ _ (Later.val _) _; with_reducible refine Calls.mono (Later.call _ (S1.out _)) ?_) | (with_reducible refine Calls.mono (Gives.calls (S1.out _)) ?_)); rintro e w1 ⟨rfl, z, rfl⟩)
    go_ret
    exact ⟨ret_bool (by rw [HV.out]; rfl), later_of (by repeat (first | exact Below.refl _ _ | (with_reducible assumption) | apply below_later | apply below_alloc | apply below_drew | apply below_drewN))⟩
  · have hs := h1
    unfold sidesB at hs
    simp only [Bool.and_eq_true, decide_eq_true_eq] at hs
    obtain ⟨⟨v1, v2⟩, v3, v4⟩ := hs
    obtain ⟨W', hW'⟩ : ∃ x : Nat, W = x := ⟨W.toNat, by omega⟩
    obtain ⟨H', hH'⟩ : ∃ x : Nat, H = x := ⟨H.toNat, by omega⟩
    have hb : 0 ≤ W * H ∧ W * H ≤ 256 := by
      subst hW' hH'
      have := Nat.mul_le_mul (show W' ≤ 16 by omega) (show H' ≤ 16 by omega)
      rw [← Int.natCast_mul]; omega
    obtain ⟨hb1, hb2⟩ := hb
    rw [h1] at S1 HV
    have S2' : Hid (∀ w', IsInts w' A n f → Gives Try.prog 46 #[.slice A n cap, .int .i64 (W * H), .int .i64 100] w' (.bool (decide ((n : Int) = W * H) && allB n fun i => numB 100 (f i)))) := fun w' h => S2.out w' h _
    clear h1 hW' hH' S2
    generalize (decide ((n : Int) = W * H) && allB n fun i => numB 100 (f i)) = r2 at *
    go_enter Try.func43, Try.ntmps43
    go_wp2_with (first | (go_at_call 45; (first | (with_reducible show Calls _ _ _ (Later.val _) _; with_reducible refine Calls.mono (Later.call _ (S1.out _)) ?_) | (with_reducible refine Calls.mono (Gives.calls (S1.out _)) ?_)); rintro e w1 ⟨rfl, z, rfl⟩) | (go_at_call 46; (first | (with_reducible show Calls _ _ _ (Later.val _) _; with_reducible refine Calls.mono (Later.call _ (S2'.out _ (HP.out.later ⟨_, by repeat (first | exact Below.refl _ _ | (with_reducible assumption) | apply below_later | apply below_alloc | apply below_drew | apply below_drewN)⟩))) ?_) | (with_reducible refine Calls.mono (Gives.calls (S2'.out _ (HP.out.later ⟨_, by repeat (first | exact Below.refl _ _ | (with_reducible assumption) | apply below_later | apply below_alloc | apply below_drew | apply below_drewN)⟩))) ?_)); rintro e w1 ⟨rfl, z2, rfl⟩))
    go_ret
    exact ⟨ret_bool (by rw [HV.out]; rfl), later_of (by repeat (first | exact Below.refl _ _ | (with_reducible assumption) | apply below_later | apply below_alloc | apply below_drew | apply below_drewN))⟩
theorem buckets_facts {W H : Int} {n : Nat} {f : Nat → Int} (hv : bucketsB W H n f = true) : ((1 ≤ W ∧ W ≤ 16) ∧ 1 ≤ H ∧ H ≤ 16) ∧ (n : Int) = W * H ∧ ∀ i, i < n → 0 ≤ f i ∧ f i ≤ 100 := by
  unfold bucketsB sidesB at hv
  simp only [Bool.and_eq_true, decide_eq_true_eq, allB_iff, numB] at hv
  obtain ⟨⟨⟨a1, a2⟩, a3, a4⟩, a5, a6⟩ := hv
  exact ⟨⟨⟨a1, a3⟩, a2, a4⟩, a5, a6⟩
/-- What Settle answers. -/
def PostSe (w : World) (W H n : Nat) (f : Nat → Int) (e : Ending) (w' : World) : Prop :=
  ∃ v1 v2 b o k, e = .returned (.tuple #[v1, v2, .int .i64 0]) ∧ ∃ x : Later w, w' = x.val ∧ OwnI w' w.heap.size v1 b ∧ OwnI w' w.heap.size v2 o ∧ (b, o) = passes W H n ((List.range n).map f, List.replicate n 0) k ∧ (∀ j, j < n → b.getD j 0 < 4) ∧ SV W H n b o
set_option maxRecDepth 100000 in
set_option maxHeartbeats 1600000 in
theorem Settle_ok (W H n cap : Nat) (A : Option Addr) (f : Nat → Int) (w : World) (hp : IsInts w A n f) (hv : bucketsB W H n f = true) :
    Calls Try.prog 22 #[.int .i64 W, .int .i64 H, .slice A n cap] w (PostSe w W H n f) := by
  have V : Hid (∀ w', IsInts w' A n f → Gives Try.prog 43 #[.int .i64 W, .int .i64 H, .slice A n cap] w' (.bool true)) := fun w' h => hv ▸ areBuckets_any W H A n cap f w' h
  obtain ⟨⟨⟨a1, a2⟩, a3, a4⟩, a5, a6⟩ := buckets_facts hv
  have hn : n = W * H := by rw [← Int.natCast_mul] at a5; omega
  have hn1 : 1 ≤ n := by rw [hn]; exact Nat.mul_le_mul (show 1 ≤ W by omega) (show 1 ≤ H by omega)
  obtain ⟨b, off, rfl, p⟩ := hp.at_ hn1
  have ST : Hid (∀ w', Below w.heap.size w w' → Calls Try.prog 44 #[.int .i64 W, .int .i64 H, .slice (some ⟨b, off, none⟩) n cap] w' (PostSt w' W H n f)) := fun w' h => settle_any W H n cap b off f w' (by omega) (by omega) (by omega) (by omega) hn (p.later ⟨w', h⟩) a6
  have HP := Lib.hid hp
  clear hp hv a5 a6 hn p
  go_enter Try.func22, Try.ntmps22
  go_wp2_with (first
    | (go_at_call 43; (first | (with_reducible show Calls _ _ _ (Later.val _) _; with_reducible refine Calls.mono (Later.call _ (V.out _ (HP.out.later ⟨_, by repeat (first | exact Below.refl _ _ | (with_reducible assumption) | apply below_later | apply below_alloc | apply below_drew | apply below_drewN)⟩))) ?_) | (with_reducible refine Calls.mono (Gives.calls (V.out _ (HP.out.later ⟨_, by repeat (first | exact Below.refl _ _ | (with_reducible assumption) | apply below_later | apply below_alloc | apply below_drew | apply below_drewN)⟩))) ?_)); rintro e w1 ⟨rfl, z, rfl⟩)
    | (go_at_call 44; refine Calls.mono (ST.out _ (by repeat (first | exact Below.refl _ _ | (with_reducible assumption) | apply below_later | apply below_alloc | apply below_drew | apply below_drewN))) ?_; rintro e w1 ⟨v1, v2, b, o, k, rfl, y, rfl, h1, h2, r⟩; have H1 := Lib.hid h1; have H2 := Lib.hid h2; have R := Lib.hid r; clear h1 h2 r))
  trace_state
  go_ret3
  exact ⟨v1, v2, b, o, k, rfl, ⟨_, by repeat (first | exact Below.refl _ _ | (with_reducible assumption) | apply below_later | apply below_alloc | apply below_drew | apply below_drewN)⟩, rfl, H1.out.mono z.size, H2.out.mono z.size, R.out⟩

set_option maxRecDepth 100000 in
set_option maxHeartbeats 800000 in
theorem same_ints (A B : Option Addr) (n c1 c2 : Nat) (f g : Nat → Int) (w : World) (hn : n ≤ 1000000) (ha : IsInts w A n f) (hb : IsInts w B n g) (he : ∀ i, i < n → f i = g i) :
    Gives Try.prog 11 #[.slice A n c1, .slice B n c2] w (.bool true) := by
  have HA := Lib.hid ha
  have HB := Lib.hid hb
  have HE := Lib.hid he
  clear ha hb he
  have q0 : ((n : Int) != (n : Int)) = false := by simp
  go_enter Try.func11, Try.ntmps11
  go_wp2
  go_loopw [5] (fun u wr => ∃ k : Nat, k ≤ n ∧ u = .int .i64 k ∧ ∃ x : Later w, wr = x.val) (fun v _ => n - (intOf v).toNat)
  case atStart => exact ⟨0, by omega, rfl, later_of (by repeat (first | exact Below.refl _ _ | (with_reducible assumption) | apply below_later | apply below_alloc | apply below_drew | apply below_drewN))⟩
  case round =>
    obtain ⟨k, hk, rfl, x, rfl⟩ := hrel
    by_cases hlt : k < n
    · obtain ⟨b1, o1, hA1, p1⟩ := HA.out.at_ (by omega)
      obtain ⟨b2, o2, hB1, p2⟩ := HB.out.at_ (by omega)
      subst hA1 hB1
      have l1 := p1.lt
      have l2 := p2.lt
      have d1 := p1.at_ k hlt
      have d2 := p2.at_ k hlt
      rw [HE.out k hlt] at d1
      clear p1 p2
      generalize g k = v at *
      go_wp2_with fail
      first | (with_reducible show Code.wp _ _ _ _ (Later.val _); refine wp_region_later_at _ (by kernel_rfl) (by kernel_rfl) ?_) | refine wp_region_later (by kernel_rfl) (by kernel_rfl) ?_
      repeat (go_big_quiet_step ((fail)))
      refine wpQuiet_nil ?_
      intro z5
      go_wp2
      go_roundw
      case rel => exact ⟨k + 1, by omega, by go_num, later_of (by repeat (first | exact Below.refl _ _ | (with_reducible assumption) | apply below_later | apply below_alloc | apply below_drew | apply below_drewN))⟩
      case measure => simp [intOf]; omega
    · obtain rfl : k = n := by omega
      go_wp2
      go_ret
      exact ⟨rfl, later_of (by repeat (first | exact Below.refl _ _ | (with_reducible assumption) | apply below_later | apply below_alloc | apply below_drew | apply below_drewN))⟩

def exH (i : Nat) : Int := [5, 1, 5, 2].getD i 0
def exA (_ : Nat) : Int := 3
def exS (_ : Nat) : Int := 0
def exM (i : Nat) : Int := [5, 5, 5, 2].getD i 0
theorem ex_valid : validF 4 1 4 exH 1 exA exS = true := by decide
theorem ex_step : ∀ j, j < 4 → ∀ i, i ∈ near4 4 1 j → exM i ≤ max (exM j) (exH i) := by decide
theorem ex_level : IsLevel 4 (near4 4 1) exH (slOf 1 exA exS) exM := by
  intro i hi x
  constructor
  · intro hl
    induction hl with
    | @out i s h1 h2 h3 h4 =>
      have : (i, s) = (3, 0) := by simpa [slOf, exA, exS] using h2
      obtain ⟨rfl, rfl⟩ := Prod.mk.inj this
      exact h4
    | @on i j h1 h2 h3 h4 ih =>
      have := ex_step j h2.lt i h3
      have := ih h2.lt
      omega
  · intro hx
    have l3 : 2 ≤ x → Leaves 4 (near4 4 1) exH (slOf 1 exA exS) x 3 := fun h => .out (s := 0) (by decide) (by decide) (by omega) (by show (2 : Int) ≤ x; exact h)
    have l2 : 5 ≤ x → Leaves 4 (near4 4 1) exH (slOf 1 exA exS) x 2 := fun h => .on (by decide) (l3 (by omega)) (by decide) (by show (5 : Int) ≤ x; exact h)
    have l1 : 5 ≤ x → Leaves 4 (near4 4 1) exH (slOf 1 exA exS) x 1 := fun h => .on (by decide) (l2 h) (by decide) (by show (1 : Int) ≤ x; omega)
    have l0 : 5 ≤ x → Leaves 4 (near4 4 1) exH (slOf 1 exA exS) x 0 := fun h => .on (by decide) (l1 h) (by decide) (by show (5 : Int) ≤ x; exact h)
    rcases i with _ | _ | _ | _ | i
    · exact l0 hx
    · exact l1 hx
    · exact l2 hx
    · exact l3 hx
    · omega
theorem ex_passes : ∀ k, passes 1 1 1 ([9], [0]) (k + 1) = ([1], [2])
  | 0 => by decide
  | k + 1 => by
    show passTo 1 1 (passes 1 1 1 ([9], [0]) (k + 1)) 1 = _
    rw [ex_passes k]
    decide
end Go.Proofs.Ytelfinjnbncnlaa
