/- sluice.Lost, sluice.Settle at wrong buckets, the law's Sum: walked. -/
import Derived.Test.YtihgadppndcjaaaRSettle
namespace Go.Proofs.Ytihgadppndcjaaa
open Go.RowKit

def sumN (f : Nat → Int) : Nat → Int
  | 0 => 0
  | k + 1 => sumN f k + f k
theorem sumN_sub (f g : Nat → Int) : ∀ k, sumN (fun i => f i - g i) k = sumN f k - sumN g k
  | 0 => rfl
  | k + 1 => by show sumN (fun i => f i - g i) k + (f k - g k) = sumN f k + f k - (sumN g k + g k); rw [sumN_sub f g k]; omega
theorem sumN_low {f : Nat → Int} {n : Nat} {c : Nat} (h : ∀ i, i < n → -(c : Int) ≤ f i ∧ f i ≤ c) : ∀ k, k ≤ n → -((c * k : Nat) : Int) ≤ sumN f k ∧ sumN f k ≤ ((c * k : Nat) : Int)
  | 0, _ => by show -((c * 0 : Nat) : Int) ≤ 0 ∧ (0 : Int) ≤ _; rw [Nat.mul_zero]; omega
  | k + 1, hk => by
    have a := sumN_low h k (by omega)
    have b := h k (by omega)
    show -((c * (k + 1) : Nat) : Int) ≤ sumN f k + f k ∧ sumN f k + f k ≤ _
    rw [Nat.mul_succ]
    omega
set_option maxRecDepth 100000 in
set_option maxHeartbeats 1600000 in
theorem settle_bad (W H : Int) (n cap : Nat) (A : Option Addr) (f : Nat → Int) (w : World) (hp : IsInts w A n f) (hv : bucketsB W H n f = false) :
    Gives Try.prog 42 #[.int .i64 W, .int .i64 H, .slice A n cap] w (.tuple #[.slice none 0 0, .slice none 0 0, .int .i64 31]) := by
  have V : Hid (∀ w', IsInts w' A n f → Gives Try.prog 70 #[.int .i64 W, .int .i64 H, .slice A n cap] w' (.bool false)) := fun w' h => hv ▸ areBuckets_any W H A n cap f w' h
  have HP := Lib.hid hp
  clear hp hv
  go_enter Try.func42, Try.ntmps42
  go_wp2_with (go_at_call 70; (first | (with_reducible show Calls _ _ _ (Later.val _) _; with_reducible refine Calls.mono (Later.call _ (V.out _ (HP.out.later ⟨_, by repeat (first | exact Below.refl _ _ | (with_reducible assumption) | apply below_later | apply below_alloc | apply below_drew | apply below_drewN)⟩))) ?_) | (with_reducible refine Calls.mono (Gives.calls (V.out _ (HP.out.later ⟨_, by repeat (first | exact Below.refl _ _ | (with_reducible assumption) | apply below_later | apply below_alloc | apply below_drew | apply below_drewN)⟩))) ?_)); rintro e w1 ⟨rfl, z, rfl⟩)
  go_ret3
  exact ⟨rfl, later_of (by repeat (first | exact Below.refl _ _ | (with_reducible assumption) | apply below_later | apply below_alloc | apply below_drew | apply below_drewN))⟩
set_option maxRecDepth 100000 in
set_option maxHeartbeats 1600000 in
theorem lost_bad (W H : Int) (n cap : Nat) (A : Option Addr) (f : Nat → Int) (w : World) (hp : IsInts w A n f) (hv : bucketsB W H n f = false) :
    Gives Try.prog 43 #[.int .i64 W, .int .i64 H, .slice A n cap] w (.tuple #[.int .i64 0, .int .i64 31]) := by
  have V : Hid (∀ w', IsInts w' A n f → Gives Try.prog 70 #[.int .i64 W, .int .i64 H, .slice A n cap] w' (.bool false)) := fun w' h => hv ▸ areBuckets_any W H A n cap f w' h
  have HP := Lib.hid hp
  clear hp hv
  go_enter Try.func43, Try.ntmps43
  go_wp2_with (go_at_call 70; (first | (with_reducible show Calls _ _ _ (Later.val _) _; with_reducible refine Calls.mono (Later.call _ (V.out _ (HP.out.later ⟨_, by repeat (first | exact Below.refl _ _ | (with_reducible assumption) | apply below_later | apply below_alloc | apply below_drew | apply below_drewN)⟩))) ?_) | (with_reducible refine Calls.mono (Gives.calls (V.out _ (HP.out.later ⟨_, by repeat (first | exact Below.refl _ _ | (with_reducible assumption) | apply below_later | apply below_alloc | apply below_drew | apply below_drewN)⟩))) ?_)); rintro e w1 ⟨rfl, z, rfl⟩)
  go_ret2
  exact ⟨rfl, later_of (by repeat (first | exact Below.refl _ _ | (with_reducible assumption) | apply below_later | apply below_alloc | apply below_drew | apply below_drewN))⟩
set_option maxRecDepth 100000 in
set_option maxHeartbeats 1600000 in
theorem rsum_any (A : Option Addr) (n cap : Nat) (f : Nat → Int) (w : World) (hn : n ≤ 256) (hp : IsInts w A n f) (hf : ∀ i, i < n → 0 ≤ f i ∧ f i ≤ 100) :
    Gives Try.prog 46 #[.slice A n cap] w (.int .i64 (sumN f n)) := by
  have LO := Lib.hid (sumN_low (f := f) (n := n) (c := 100) fun i hi => by have := hf i hi; omega)
  have HF := Lib.hid hf
  have HP := Lib.hid hp
  clear hp hf
  go_enter Try.func46, Try.ntmps46
  go_wp2
  go_loopw [3, 4] (fun s u wr => ∃ k : Nat, k ≤ n ∧ s = .int .i64 (sumN f k) ∧ u = .int .i64 k ∧ ∃ x : Later w, wr = x.val) (fun _ u _ => n - (intOf u).toNat)
  case atStart => exact ⟨0, by omega, rfl, rfl, later_of (by repeat (first | exact Below.refl _ _ | (with_reducible assumption) | apply below_later | apply below_alloc | apply below_drew | apply below_drewN))⟩
  case round =>
    obtain ⟨k, hk, rfl, rfl, x, rfl⟩ := hrel
    have lo := LO.out k hk
    have ES : Hid (sumN f (k + 1) = sumN f k + f k) := rfl
    by_cases hlt : k < n
    · obtain ⟨b, off, hA, p⟩ := (HP.out.later x).at_ (by omega)
      subst hA
      have ck := p.at_ k hlt
      have lb := p.lt
      have hfk := HF.out k hlt
      clear p
      generalize sumN f k = s0 at *
      generalize f k = y at *
      go_wp2_with fail
      go_roundw
      case rel => exact ⟨k + 1, by omega, by rw [ES.out], by go_num, later_of (by repeat (first | exact Below.refl _ _ | (with_reducible assumption) | apply below_later | apply below_alloc | apply below_drew | apply below_drewN))⟩
      case measure => simp [intOf]; omega
    · obtain rfl : k = n := by omega
      go_wp2
      go_ret
      exact ⟨rfl, later_of (by repeat (first | exact Below.refl _ _ | (with_reducible assumption) | apply below_later | apply below_alloc | apply below_drew | apply below_drewN))⟩
/-- What Lost answers at right buckets. -/
def PostLo (w : World) (W H n : Nat) (f : Nat → Int) (e : Ending) (w' : World) : Prop :=
  ∃ b o k, e = .returned (.tuple #[.int .i64 (sumN f n - sumN (fun i => b.getD i 0) n), .int .i64 0]) ∧ (∃ x : Later w, w' = x.val) ∧ (b, o) = passes W H n ((List.range n).map f, List.replicate n 0) k ∧ (∀ j, j < n → b.getD j 0 < 4) ∧ SV W H n b o
set_option maxRecDepth 100000 in
set_option maxHeartbeats 3200000 in
theorem lost_ok (W H n cap : Nat) (A : Option Addr) (f : Nat → Int) (w : World) (hp : IsInts w A n f) (hv : bucketsB W H n f = true) :
    Calls Try.prog 43 #[.int .i64 W, .int .i64 H, .slice A n cap] w (PostLo w W H n f) := by
  have V : Hid (∀ w', IsInts w' A n f → Gives Try.prog 70 #[.int .i64 W, .int .i64 H, .slice A n cap] w' (.bool true)) := fun w' h => hv ▸ areBuckets_any W H A n cap f w' h
  obtain ⟨⟨⟨a1, a2⟩, a3, a4⟩, a5, a6⟩ := buckets_facts hv
  have hn : n = W * H := by rw [← Int.natCast_mul] at a5; omega
  have hn9 : n ≤ 256 := by rw [hn]; exact Nat.mul_le_mul (show W ≤ 16 by omega) (show H ≤ 16 by omega)
  have hn1 : 1 ≤ n := by rw [hn]; exact Nat.mul_le_mul (show 1 ≤ W by omega) (show 1 ≤ H by omega)
  obtain ⟨b, off, rfl, p⟩ := hp.at_ hn1
  have ST : Hid (∀ w', Below w.heap.size w w' → Calls Try.prog 71 #[.int .i64 W, .int .i64 H, .slice (some ⟨b, off, none⟩) n cap] w' fun e w'' => ∃ v1 v2 bb o k, e = .returned (.tuple #[v1, v2]) ∧ ∃ x : Later w', w'' = x.val ∧ OwnI w'' w'.heap.size v1 bb ∧ OwnI w'' w'.heap.size v2 o ∧ (bb, o) = passes W H n ((List.range n).map f, List.replicate n 0) k ∧ (∀ j, j < n → bb.getD j 0 < 4) ∧ SV W H n bb o) := fun w' h => settle_any W H n cap b off f w' (by omega) (by omega) (by omega) (by omega) hn (p.later ⟨w', h⟩) a6
  have HP := Lib.hid hp
  have HF := Lib.hid a6
  have PL := Lib.hid p
  clear hp hv a5 a6 hn p
  go_enter Try.func43, Try.ntmps43
  go_wp2_with (first
    | (go_at_call 70; (first | (with_reducible show Calls _ _ _ (Later.val _) _; with_reducible refine Calls.mono (Later.call _ (V.out _ (HP.out.later ⟨_, by repeat (first | exact Below.refl _ _ | (with_reducible assumption) | apply below_later | apply below_alloc | apply below_drew | apply below_drewN)⟩))) ?_) | (with_reducible refine Calls.mono (Gives.calls (V.out _ (HP.out.later ⟨_, by repeat (first | exact Below.refl _ _ | (with_reducible assumption) | apply below_later | apply below_alloc | apply below_drew | apply below_drewN)⟩))) ?_)); rintro e w1 ⟨rfl, z, rfl⟩)
    | (go_at_call 71; refine Calls.mono (ST.out _ (by repeat (first | exact Below.refl _ _ | (with_reducible assumption) | apply below_later | apply below_alloc | apply below_drew | apply below_drewN))) ?_; rintro e w1 ⟨v1, v2, bb, o, k, rfl, y, rfl, h1, h2, r1, r2, r3⟩; obtain ⟨g1, c1, hv1, q1, q2, _⟩ := h1.form (n := n) r3.lb (by omega); subst hv1; have H1 := Lib.hid h1; have R1 := Lib.hid r1; have R2 := Lib.hid r2; have R3 := Lib.hid r3; clear h1 h2 r1 r2 r3))
  have HB : Hid (∀ i, i < n → y.val.cell? ⟨g1, i, none⟩ = some (.int .i64 (bb.getD i 0))) := fun i hi => by
    have h := (H1.out.ints (by rw [R3.out.lb]; omega)).2
    obtain ⟨b', off', e, p'⟩ := h.at_ (by omega)
    simp only [Option.some.injEq, Addr.mk.injEq, and_true] at e
    obtain ⟨rfl, rfl⟩ := e
    have := p'.at_ i hi
    rwa [Nat.zero_add] at this
  have HQ : Hid (Ints y.val b off n f) := by show Ints _ _ _ _ _; exact PL.out.later ⟨_, by repeat (first | exact Below.refl _ _ | (with_reducible assumption) | apply below_later | apply below_alloc | apply below_drew | apply below_drewN)⟩
  have hb9 : Below w.heap.size w y.val := by repeat (first | exact Below.refl _ _ | (with_reducible assumption) | apply below_later | apply below_alloc | apply below_drew | apply below_drewN)
  clear H1 q1
  generalize y.val = V9 at *
  have DB : Hid (∀ i, i < n → -(100 : Int) ≤ f i - bb.getD i 0 ∧ f i - bb.getD i 0 ≤ 100) := fun i hi => by
    have h1 := HF.out i hi
    have h2 := R2.out i hi
    have h3 := R3.out.nb i (by rw [R3.out.lb]; exact hi)
    omega
  have LO := Lib.hid (sumN_low (f := fun i => f i - bb.getD i 0) (n := n) (c := 100) fun i hi => DB.out i hi)
  have EF : Hid (sumN (fun i => f i - bb.getD i 0) n = sumN f n - sumN (fun i => bb.getD i 0) n) := sumN_sub _ _ _
  go_loopw [10, 26] (fun s u wr => ∃ k : Nat, k ≤ n ∧ s = .int .i64 (sumN (fun i => f i - bb.getD i 0) k) ∧ u = .int .i64 k ∧ ∃ x : Later V9, wr = x.val) (fun _ u _ => n - (intOf u).toNat)
  case atStart => exact ⟨0, by omega, rfl, rfl, ⟨_, Below.refl _ _⟩, rfl⟩
  case round =>
    obtain ⟨k', hk, rfl, rfl, x, rfl⟩ := hrel
    have lo := LO.out k' hk
    have ES : Hid (sumN (fun i => f i - bb.getD i 0) (k' + 1) = sumN (fun i => f i - bb.getD i 0) k' + (f k' - bb.getD k' 0)) := rfl
    by_cases hlt : k' < n
    · have ck := HQ.out.at_ k' hlt
      have lb := HQ.out.lt
      have cb := HB.out k' hlt
      have db := DB.out k' hlt
      have hfk := HF.out k' hlt
      generalize sumN (fun i => f i - bb.getD i 0) k' = s0 at *
      generalize f k' = u at *
      generalize bb.getD k' 0 = v at *
      go_wp2_with fail
      first | (with_reducible show Code.wp _ _ _ _ (Later.val _); refine wp_region_later_at _ (by kernel_rfl) (by kernel_rfl) ?_) | refine wp_region_later (by kernel_rfl) (by kernel_rfl) ?_
      repeat (go_big_quiet_step ((fail)))
      refine wpQuiet_nil ?_
      intro zr
      go_wp2
      go_roundw
      case rel => exact ⟨k' + 1, by omega, by rw [ES.out], by go_num, later_of (by repeat (first | exact Below.refl _ _ | (with_reducible assumption) | apply below_later | apply below_alloc | apply below_drew | apply below_drewN))⟩
      case measure => simp [intOf]; omega
    · obtain rfl : k' = n := by omega
      go_wp2
      go_ret2
      exact ⟨bb, o, k, by rw [← EF.out]; rfl, ⟨⟨_, by repeat (first | exact Below.refl _ _ | (with_reducible assumption) | apply below_later | apply below_alloc | apply below_drew | apply below_drewN)⟩, rfl⟩, R1.out, R2.out, R3.out⟩
end Go.Proofs.Ytihgadppndcjaaa
