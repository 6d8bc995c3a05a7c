/- sluice.Holds: walked; the document's Ascends. -/
import Derived.Test.YtelfinjnbncnlaaSKeeps
import Derived.Test.YtelfinjnbncnlaaUpto
import Derived.Test.YtelfinjnbncnlaaLevelsLaw
namespace Go.Proofs.Ytelfinjnbncnlaa
open Go.RowKit

theorem Holds_bad (W H : Int) (n cap m capS c capR : Nat) (A B D : Option Addr) (f a s : Nat → Int) (k N : Int) (w : World) (hp : IsInts w A n f) (hq : IsSlu w B m a s) (hv : validF W H n f m a s = false) :
    Gives Try.prog 9 #[.agg #[.int .i64 W, .int .i64 H, .slice A n cap, .slice B m capS], .int .i64 k, .int .i64 N, .slice D c capR] w (.tuple #[.bool false, .int .i64 30]) := by
  have V : Hid (∀ w', Below w.heap.size w w' → Gives Try.prog 23 #[.agg #[.int .i64 W, .int .i64 H, .slice A n cap, .slice B m capS]] w' (.bool false)) := fun w' hb => hv ▸ Valid_any W H A B n cap m capS f a s w' (hp.later ⟨w', hb⟩) (hq.later ⟨w', hb⟩)
  clear hp hq hv
  go_enter Try.func9, Try.ntmps9
  go_wp2_with (go_at_call 23; with_reducible refine Calls.mono (Gives.calls (V.out _ (by repeat (first | exact Below.refl _ _ | (with_reducible assumption) | apply below_later | apply below_alloc | apply below_drew | apply below_drewN)))) ?_; rintro e w1 ⟨rfl, z, rfl⟩)
  go_ret2
  exact ⟨rfl, later_of (by repeat (first | exact Below.refl _ _ | (with_reducible assumption) | apply below_later | apply below_alloc | apply below_drew | apply below_drewN))⟩
set_option maxRecDepth 100000 in
set_option maxHeartbeats 3200000 in
theorem Holds_arg (W H : Int) (n cap m capS c capR : Nat) (A B D : Option Addr) (f a s r : Nat → Int) (k N : Int) (w : World) (hc : c ≤ 1000) (hp : IsInts w A n f) (hq : IsSlu w B m a s) (hd : IsInts w D c r) (hv : validF W H n f m a s = true)
    (hk : ¬ (0 ≤ k ∧ k < n) ∨ N < 0 ∨ 1000 < N ∨ allB c (ascAt n r) = false) :
    Gives Try.prog 9 #[.agg #[.int .i64 W, .int .i64 H, .slice A n cap, .slice B m capS], .int .i64 k, .int .i64 N, .slice D c capR] w (.tuple #[.bool false, .int .i64 2]) := by
  have V : Hid (∀ w', Below w.heap.size w w' → Gives Try.prog 23 #[.agg #[.int .i64 W, .int .i64 H, .slice A n cap, .slice B m capS]] w' (.bool true)) := fun w' hb => hv ▸ Valid_any W H A B n cap m capS f a s w' (hp.later ⟨w', hb⟩) (hq.later ⟨w', hb⟩)
  have SQ : Hid (∀ w', Gives Try.prog 24 #[.agg #[.int .i64 W, .int .i64 H, .slice A n cap, .slice B m capS], .int .i64 k] w' (.bool (decide (0 ≤ k ∧ k < n)))) := fun w' => isSquare_any W H A B n cap m capS k w'
  have AS : Hid (∀ w', Below w.heap.size w w' → Gives Try.prog 28 #[.agg #[.int .i64 W, .int .i64 H, .slice A n cap, .slice B m capS], .slice D c capR] w' (.bool (allB c (ascAt n r)))) := fun w' hb => ascends_any W H A B D n cap m capS c capR r w' hc (hd.later ⟨w', hb⟩)
  clear hp hq hv hd
  generalize allB c (ascAt n r) = al at *
  by_cases h1 : 0 ≤ k ∧ k < n
  · have S1 : Hid (∀ w', Gives Try.prog 24 #[.agg #[.int .i64 W, .int .i64 H, .slice A n cap, .slice B m capS], .int .i64 k] w' (.bool true)) := fun w' => decide_eq_true h1 ▸ SQ.out w'
    have hk' := hk.resolve_left (fun h => h h1)
    clear hk h1 SQ
    by_cases h2 : N < 0
    · have d2 : decide (N < 0) = true := decide_eq_true h2
      clear hk' h2
      go_enter Try.func9, Try.ntmps9
      go_wp2_with (first | (go_at_call 23; with_reducible refine Calls.mono (Gives.calls (V.out _ (by repeat (first | exact Below.refl _ _ | (with_reducible assumption) | apply below_later | apply below_alloc | apply below_drew | apply below_drewN)))) ?_; rintro e w1 ⟨rfl, z, rfl⟩) | (go_at_call 24; with_reducible refine Calls.mono (Gives.calls (S1.out _)) ?_; rintro e w1 ⟨rfl, z2, rfl⟩))
      go_ret2
      exact ⟨rfl, later_of (by repeat (first | exact Below.refl _ _ | (with_reducible assumption) | apply below_later | apply below_alloc | apply below_drew | apply below_drewN))⟩
    · have d2 : decide (N < 0) = false := decide_eq_false h2
      by_cases h3 : 1000 < N
      · have d3 : decide (1000 < N) = true := decide_eq_true h3
        clear hk' h2 h3
        go_enter Try.func9, Try.ntmps9
        go_wp2_with (first | (go_at_call 23; with_reducible refine Calls.mono (Gives.calls (V.out _ (by repeat (first | exact Below.refl _ _ | (with_reducible assumption) | apply below_later | apply below_alloc | apply below_drew | apply below_drewN)))) ?_; rintro e w1 ⟨rfl, z, rfl⟩) | (go_at_call 24; with_reducible refine Calls.mono (Gives.calls (S1.out _)) ?_; rintro e w1 ⟨rfl, z2, rfl⟩))
        go_ret2
        exact ⟨rfl, later_of (by repeat (first | exact Below.refl _ _ | (with_reducible assumption) | apply below_later | apply below_alloc | apply below_drew | apply below_drewN))⟩
      · have d3 : decide (1000 < N) = false := decide_eq_false h3
        obtain rfl : al = false := (hk'.resolve_left h2).resolve_left h3
        clear hk' h2 h3
        go_enter Try.func9, Try.ntmps9
        go_wp2_with (first | (go_at_call 23; with_reducible refine Calls.mono (Gives.calls (V.out _ (by repeat (first | exact Below.refl _ _ | (with_reducible assumption) | apply below_later | apply below_alloc | apply below_drew | apply below_drewN)))) ?_; rintro e w1 ⟨rfl, z, rfl⟩) | (go_at_call 24; with_reducible refine Calls.mono (Gives.calls (S1.out _)) ?_; rintro e w1 ⟨rfl, z2, rfl⟩) | (go_at_call 28; with_reducible refine Calls.mono (Gives.calls (AS.out _ (by repeat (first | exact Below.refl _ _ | (with_reducible assumption) | apply below_later | apply below_alloc | apply below_drew | apply below_drewN)))) ?_; rintro e w1 ⟨rfl, z3, rfl⟩))
        go_ret2
        exact ⟨rfl, later_of (by repeat (first | exact Below.refl _ _ | (with_reducible assumption) | apply below_later | apply below_alloc | apply below_drew | apply below_drewN))⟩
  · have S1 : Hid (∀ w', Gives Try.prog 24 #[.agg #[.int .i64 W, .int .i64 H, .slice A n cap, .slice B m capS], .int .i64 k] w' (.bool false)) := fun w' => decide_eq_false h1 ▸ SQ.out w'
    clear hk h1 SQ
    go_enter Try.func9, Try.ntmps9
    go_wp2_with (first | (go_at_call 23; with_reducible refine Calls.mono (Gives.calls (V.out _ (by repeat (first | exact Below.refl _ _ | (with_reducible assumption) | apply below_later | apply below_alloc | apply below_drew | apply below_drewN)))) ?_; rintro e w1 ⟨rfl, z, rfl⟩) | (go_at_call 24; with_reducible refine Calls.mono (Gives.calls (S1.out _)) ?_; rintro e w1 ⟨rfl, z2, rfl⟩))
    go_ret2
    exact ⟨rfl, later_of (by repeat (first | exact Below.refl _ _ | (with_reducible assumption) | apply below_later | apply below_alloc | apply below_drew | apply below_drewN))⟩
set_option maxRecDepth 100000 in
set_option maxHeartbeats 3200000 in
theorem Holds_ok {W H n m : Nat} {f a s L : Nat → Int} (h : FenL W H n m f a s L) (cap capS c capR k : Nat) (A B D : Option Addr) (r : Nat → Int) (N : Int) (w : World) (hc : c ≤ 1000) (hk : k < n) (hN : 0 ≤ N ∧ N ≤ 1000) (hal : allB c (ascAt n r) = true) (hp : IsInts w A n f) (hq : IsSlu w B m a s) (hd : IsInts w D c r) :
    Gives Try.prog 9 #[.agg #[.int .i64 W, .int .i64 H, .slice A n cap, .slice B m capS], .int .i64 k, .int .i64 N, .slice D c capR] w (.tuple #[.bool (holdB W H m f a s c r N k), .int .i64 0]) := by
  have V : Hid (∀ w', Below w.heap.size w w' → Gives Try.prog 23 #[.agg #[.int .i64 W, .int .i64 H, .slice A n cap, .slice B m capS]] w' (.bool true)) := fun w' hb => h.valid ▸ Valid_any W H A B n cap m capS f a s w' (hp.later ⟨w', hb⟩) (hq.later ⟨w', hb⟩)
  have S1 : Hid (∀ w', Gives Try.prog 24 #[.agg #[.int .i64 W, .int .i64 H, .slice A n cap, .slice B m capS], .int .i64 k] w' (.bool true)) := fun w' => decide_eq_true (show 0 ≤ (k : Int) ∧ (k : Int) < n by omega) ▸ isSquare_any W H A B n cap m capS k w'
  have AS : Hid (∀ w', Below w.heap.size w w' → Gives Try.prog 28 #[.agg #[.int .i64 W, .int .i64 H, .slice A n cap, .slice B m capS], .slice D c capR] w' (.bool true)) := fun w' hb => hal ▸ ascends_any W H A B D n cap m capS c capR r w' hc (hd.later ⟨w', hb⟩)
  have hr : ∀ i, i < c → 0 ≤ r i ∧ r i < n := fun i hi => by
    have := allB_iff.1 hal i hi
    unfold ascAt at this
    rw [Bool.and_eq_true] at this
    exact of_decide_eq_true this.1
  have CT : Hid (∀ (w' : World), Below w.heap.size w w' → Gives Try.prog 29 #[.slice D c capR, .int .i64 k] w' (.bool (hasB c r k))) := fun w' hb => contains_any D c capR k r w' (by omega) (hd.later ⟨w', hb⟩)
  have KP : Hid (∀ w', Below w.heap.size w w' → Gives Try.prog 30 #[.agg #[.int .i64 W, .int .i64 H, .slice A n cap, .slice B m capS], .int .i64 N, .slice D c capR] w' (.bool (keepB W H m f a s c r N))) := fun w' hb => keeps_ok h cap capS c capR A B D r N w' hc hN hr (hp.later ⟨w', hb⟩) (hq.later ⟨w', hb⟩) (hd.later ⟨w', hb⟩)
  obtain ⟨n1, n2⟩ := hN
  have d2 : decide (N < 0) = false := decide_eq_false (by omega)
  have d3 : decide (1000 < N) = false := decide_eq_false (by omega)
  have HRES : Hid (holdB W H m f a s c r N k = (hasB c r k && (decide (N ≤ f k) || keepB W H m f a s c r N))) := rfl
  generalize keepB W H m f a s c r N = kp at *
  generalize holdB W H m f a s c r N k = res at *
  generalize hasB c r k = hb at *
  have hn2 := h.facts.2.2.2.2.2.2.1
  have HPF := Lib.hid hp
  clear hp hq hd hal hr h
  have BXW : Hid (∀ V, Below (w.alloc (.cells #[.int .i64 W, .int .i64 H, .slice A n cap, .slice B m capS] 25)).heap.size (w.alloc (.cells #[.int .i64 W, .int .i64 H, .slice A n cap, .slice B m capS] 25)) V → V.heap[w.heap.size]? = some (.cells #[.int .i64 W, .int .i64 H, .slice A n cap, .slice B m capS] 25 (0, 0))) := fun V h =>
    (h.block _ (by simp)).trans (World.alloc_heap_new _ _)
  cases hb with
  | false =>
    have RF : Hid (res = false) := HRES.out
    clear HRES
    go_enter Try.func9, Try.ntmps9
    go_wp2_with (first | (go_at_call 23; with_reducible refine Calls.mono (Gives.calls (V.out _ (by repeat (first | exact Below.refl _ _ | (with_reducible assumption) | apply below_later | apply below_alloc | apply below_drew | apply below_drewN)))) ?_; rintro e w1 ⟨rfl, z, rfl⟩) | (go_at_call 24; with_reducible refine Calls.mono (Gives.calls (S1.out _)) ?_; rintro e w1 ⟨rfl, z2, rfl⟩) | (go_at_call 28; with_reducible refine Calls.mono (Gives.calls (AS.out _ (by repeat (first | exact Below.refl _ _ | (with_reducible assumption) | apply below_later | apply below_alloc | apply below_drew | apply below_drewN)))) ?_; rintro e w1 ⟨rfl, z3, rfl⟩) | (go_at_call 29; with_reducible refine Calls.mono (Gives.calls (CT.out _ (by repeat (first | exact Below.refl _ _ | (with_reducible assumption) | apply below_later | apply below_alloc | apply below_drew | apply below_drewN)))) ?_; rintro e w1 ⟨rfl, z4, rfl⟩))
    go_ret2
    exact ⟨by rw [RF.out]; rfl, later_of (by repeat (first | exact Below.refl _ _ | (with_reducible assumption) | apply below_later | apply below_alloc | apply below_drew | apply below_drewN))⟩
  | true =>
    by_cases hf : N ≤ f k
    · have df : decide (N ≤ f k) = true := decide_eq_true hf
      have RF : Hid (res = true) := by show _ = _; rw [HRES.out, df]; rfl
      clear HRES hf
      go_enter Try.func9, Try.ntmps9
      go_wp2_with (first | (go_at_call 23; with_reducible refine Calls.mono (Gives.calls (V.out _ (by repeat (first | exact Below.refl _ _ | (with_reducible assumption) | apply below_later | apply below_alloc | apply below_drew | apply below_drewN)))) ?_; rintro e w1 ⟨rfl, z, rfl⟩) | (go_at_call 24; with_reducible refine Calls.mono (Gives.calls (S1.out _)) ?_; rintro e w1 ⟨rfl, z2, rfl⟩) | (go_at_call 28; with_reducible refine Calls.mono (Gives.calls (AS.out _ (by repeat (first | exact Below.refl _ _ | (with_reducible assumption) | apply below_later | apply below_alloc | apply below_drew | apply below_drewN)))) ?_; rintro e w1 ⟨rfl, z3, rfl⟩) | ((go_at_call 29; with_reducible refine Calls.mono (Gives.calls (CT.out _ (by repeat (first | exact Below.refl _ _ | (with_reducible assumption) | apply below_later | apply below_alloc | apply below_drew | apply below_drewN)))) ?_; rintro e w1 ⟨rfl, z4, rfl⟩); have hbz : Below w.heap.size w z4.val := (by repeat (first | exact Below.refl _ _ | (with_reducible assumption) | apply below_later | apply below_alloc | apply below_drew | apply below_drewN)); obtain ⟨ga, oa, ea, pa⟩ := (HPF.out.later ⟨_, hbz⟩).at_ (by omega); subst ea; have cj := pa.at_ k hk; have lj := pa.lt; clear pa; have M0 := BXW.out z4.val (by repeat (first | exact Below.refl _ _ | (with_reducible assumption) | apply below_later | apply below_alloc | apply below_drew | apply below_drewN)); have q0 := cell_of_heap M0 0 _ rfl; have q1 := cell_of_heap M0 1 _ rfl; have q2 := cell_of_heap M0 2 _ rfl; have q3 := cell_of_heap M0 3 _ rfl; have lM := get_lt M0; clear M0))
      go_ret2
      exact ⟨by rw [RF.out]; rfl, later_of (by repeat (first | exact Below.refl _ _ | (with_reducible assumption) | apply below_later | apply below_alloc | apply below_drew | apply below_drewN))⟩
    · have df : decide (N ≤ f k) = false := decide_eq_false hf
      have RF : Hid (res = kp) := by show _ = _; rw [HRES.out, df]; rfl
      clear HRES hf
      go_enter Try.func9, Try.ntmps9
      go_wp2_with (first | (go_at_call 23; with_reducible refine Calls.mono (Gives.calls (V.out _ (by repeat (first | exact Below.refl _ _ | (with_reducible assumption) | apply below_later | apply below_alloc | apply below_drew | apply below_drewN)))) ?_; rintro e w1 ⟨rfl, z, rfl⟩) | (go_at_call 24; with_reducible refine Calls.mono (Gives.calls (S1.out _)) ?_; rintro e w1 ⟨rfl, z2, rfl⟩) | (go_at_call 28; with_reducible refine Calls.mono (Gives.calls (AS.out _ (by repeat (first | exact Below.refl _ _ | (with_reducible assumption) | apply below_later | apply below_alloc | apply below_drew | apply below_drewN)))) ?_; rintro e w1 ⟨rfl, z3, rfl⟩) | ((go_at_call 29; with_reducible refine Calls.mono (Gives.calls (CT.out _ (by repeat (first | exact Below.refl _ _ | (with_reducible assumption) | apply below_later | apply below_alloc | apply below_drew | apply below_drewN)))) ?_; rintro e w1 ⟨rfl, z4, rfl⟩); have hbz : Below w.heap.size w z4.val := (by repeat (first | exact Below.refl _ _ | (with_reducible assumption) | apply below_later | apply below_alloc | apply below_drew | apply below_drewN)); obtain ⟨ga, oa, ea, pa⟩ := (HPF.out.later ⟨_, hbz⟩).at_ (by omega); subst ea; have cj := pa.at_ k hk; have lj := pa.lt; clear pa; have M0 := BXW.out z4.val (by repeat (first | exact Below.refl _ _ | (with_reducible assumption) | apply below_later | apply below_alloc | apply below_drew | apply below_drewN)); have q0 := cell_of_heap M0 0 _ rfl; have q1 := cell_of_heap M0 1 _ rfl; have q2 := cell_of_heap M0 2 _ rfl; have q3 := cell_of_heap M0 3 _ rfl; have lM := get_lt M0; clear M0) | (go_at_call 30; with_reducible refine Calls.mono (Gives.calls (KP.out _ (by repeat (first | exact Below.refl _ _ | (with_reducible assumption) | apply below_later | apply below_alloc | apply below_drew | apply below_drewN)))) ?_; rintro e w1 ⟨rfl, z5, rfl⟩))
      go_ret2
      exact ⟨by rw [RF.out]; rfl, later_of (by repeat (first | exact Below.refl _ _ | (with_reducible assumption) | apply below_later | apply below_alloc | apply below_drew | apply below_drewN))⟩
end Go.Proofs.Ytelfinjnbncnlaa
namespace Go.Proofs.Ytelfinjnbncnlaa
open Go.RowKit

set_option maxRecDepth 100000 in
set_option maxHeartbeats 3200000 in
theorem rascends_any (D : Option Addr) (n c capR : Nat) (r : Nat → Int) (w : World) (hn : n ≤ 1000) (hc : c ≤ 1000) (hp : IsInts w D c r) :
    Gives Try.prog 13 #[.slice D c capR, .int .i64 n] w (.bool (allB c (ascAt n r))) := by
  have WI : Hid (∀ (x : Int) (b : Bool), decide (0 ≤ x ∧ x < n) = b → ∀ (w : World), Gives Try.prog 31 #[.int .i64 x, .int .i64 0, .int .i64 ((n : Int) - 1)] w (.bool b)) := fun x b hb w => by
    have h := within_any 0 x ((n : Int) - 1) w
    have e : (decide ((0 : Int) ≤ x) && decide (x ≤ (n : Int) - 1)) = b := by
      rw [← hb]
      by_cases h1 : 0 ≤ x <;> by_cases h2 : x < n <;> simp [h1, h2] <;> omega
    rwa [e] at h
  obtain ⟨al, hal⟩ : ∃ al, allB c (ascAt n r) = al := ⟨_, rfl⟩
  have HAL := Lib.hid hal
  rw [hal]
  have HP := Lib.hid hp
  clear hp hal
  go_enter Try.func13, Try.ntmps13
  go_wp2_with fail
  go_loopw [5] (fun u wr => ∃ k : Nat, u = .int .i64 k ∧ k ≤ c ∧ allB k (ascAt n r) = true ∧ ∃ x : Later w, wr = x.val) (fun u _ => c - (intOf u).toNat)
  case atStart => exact ⟨0, rfl, by omega, rfl, ⟨_, Below.refl _ _⟩, rfl⟩
  case round =>
    obtain ⟨k, rfl, hk, hall, x, rfl⟩ := hrel
    have HALL := Lib.hid hall
    clear hall
    by_cases hlt : k < c
    · obtain ⟨g, o, hD, q⟩ := (HP.out.later x).at_ (by omega)
      subst hD
      have ck := q.at_ k hlt
      have lk := q.lt
      have ck1 := q.at_ (k - 1) (by omega)
      have HST : Hid (∀ b, ascAt n r k = b → if b then allB (k + 1) (ascAt n r) = true else al = false) := fun b hb => by
        cases b
        · exact HAL.out.symm.trans (allB_false hlt hb)
        · exact asc_step HALL.out hb
      clear q
      by_cases h1 : 0 ≤ r k ∧ r k < n
      · have S1 := Lib.hid (WI.out (r k) true (decide_eq_true h1))
        by_cases h0 : k = 0
        · have d0 : decide ((0 : Int) < (k : Int)) = false := decide_eq_false (by omega)
          have d3 : ¬ 0 < k := by omega
          have d4 : decide (0 < k) = false := decide_eq_false d3
          have NX := Lib.hid (HST.out true (by unfold ascAt; rw [decide_eq_true h1, decide_eq_true h0]; rfl))
          clear h1 h0 ck1 HST
          generalize r k = rk at *
          go_wp2_with fail
          refine wp_region_later (by kernel_rfl) (by kernel_rfl) ?_
          repeat (go_big_quiet_step ((first | (go_at_call 31; (with_reducible refine Later.call _ (S1.out _))))))
          refine wpQuiet_nil ?_
          intro y
          go_wp2
          go_roundw
          case rel => exact ⟨k + 1, by go_num, by omega, NX.out, later_of (by repeat (first | exact Below.refl _ _ | (with_reducible assumption) | apply below_later | apply below_alloc | apply below_drew | apply below_drewN))⟩
          case measure => simp [intOf]; omega
        · have d0 : decide ((0 : Int) < (k : Int)) = true := decide_eq_true (by omega)
          have d0' : decide (0 < k) = true := decide_eq_true (by omega)
          have hk1 : ((k : Int) - 1).toNat = k - 1 := by omega
          have hk2 : (1 : Int) ≤ (k : Int) := by omega
          have hk5 : IntKind.i64.wrap ((k : Int) - 1) = (k : Int) - 1 := IntWalk.i64_in _ (by omega)
          have hsub : k - 1 < c := by omega
          by_cases h2 : r (k - 1) < r k
          · have d2 : decide (r k ≤ r (k - 1)) = false := decide_eq_false (by omega)
            have NX := Lib.hid (HST.out true (by unfold ascAt; rw [decide_eq_true h1, decide_eq_true h2]; simp))
            clear h1 h0 h2 HST
            generalize r (k - 1) = rp at *
            generalize r k = rk at *
            go_wp2_with fail
            refine wp_region_later (by kernel_rfl) (by kernel_rfl) ?_
            repeat (go_big_quiet_step ((first | (go_at_call 31; (with_reducible refine Later.call _ (S1.out _))))))
            refine wpQuiet_nil ?_
            intro y
            go_wp2
            go_roundw
            case rel => exact ⟨k + 1, by go_num, by omega, NX.out, later_of (by repeat (first | exact Below.refl _ _ | (with_reducible assumption) | apply below_later | apply below_alloc | apply below_drew | apply below_drewN))⟩
            case measure => simp [intOf]; omega
          · have d2 : decide (r k ≤ r (k - 1)) = true := decide_eq_true (by omega)
            have NX := Lib.hid (HST.out false (by unfold ascAt; rw [decide_eq_true h1, decide_eq_false h2, decide_eq_false h0]; rfl))
            clear h1 h0 h2 HST
            generalize r (k - 1) = rp at *
            generalize r k = rk at *
            go_wp2_with fail
            refine wp_region_later (by kernel_rfl) (by kernel_rfl) ?_
            repeat (go_big_quiet_step ((first | (go_at_call 31; (with_reducible refine Later.call _ (S1.out _))))))
            refine wpQuiet_nil ?_
            intro y
            go_wp2
            go_ret
            have e : al = false := NX.out
            exact ⟨by rw [e]; rfl, later_of (by repeat (first | exact Below.refl _ _ | (with_reducible assumption) | apply below_later | apply below_alloc | apply below_drew | apply below_drewN))⟩
      · have S1 := Lib.hid (WI.out (r k) false (decide_eq_false h1))
        have NX := Lib.hid (HST.out false (by unfold ascAt; rw [decide_eq_false h1]; rfl))
        clear h1 ck1 HST
        generalize r k = rk at *
        go_wp2_with fail
        refine wp_region_later (by kernel_rfl) (by kernel_rfl) ?_
        repeat (go_big_quiet_step ((first | (go_at_call 31; (with_reducible refine Later.call _ (S1.out _))))))
        refine wpQuiet_nil ?_
        intro y
        go_wp2
        go_ret
        have e : al = false := NX.out
        exact ⟨by rw [e]; rfl, later_of (by repeat (first | exact Below.refl _ _ | (with_reducible assumption) | apply below_later | apply below_alloc | apply below_drew | apply below_drewN))⟩
    · obtain rfl : k = c := by omega
      have e : al = true := HAL.out.symm.trans HALL.out
      go_wp2
      go_ret
      exact ⟨by rw [e]; rfl, later_of (by repeat (first | exact Below.refl _ _ | (with_reducible assumption) | apply below_later | apply below_alloc | apply below_drew | apply below_drewN))⟩
end Go.Proofs.Ytelfinjnbncnlaa
namespace Go.Proofs.Ytelfinjnbncnlaa
open Go.RowKit

set_option maxRecDepth 100000 in
set_option maxHeartbeats 6400000 in
theorem rHolds_ok {W H n m : Nat} {f a s L : Nat → Int} (h : FenL W H n m f a s L) (cap capS c capR k : Nat) (A B D : Option Addr) (r : Nat → Int) (N : Int) (w : World) (hk : k < n) (hc : c ≤ 1000) (hN : 0 ≤ N ∧ N ≤ 1000) (hal : allB c (ascAt n r) = true) (hp : IsInts w A n f) (hq : IsSlu w B m a s) (hd : IsInts w D c r) :
    Gives Try.prog 14 #[.agg #[.int .i64 W, .int .i64 H, .slice A n cap, .slice B m capS], .int .i64 k, .int .i64 N, .slice D c capR] w (.bool (holdB W H m f a s c r N k)) := by
  obtain ⟨hW, hW2, hH1, hH, hn, hn1, hn2, hf, hm1, hm2, ha, hs⟩ := h.facts
  have hr : ∀ i, i < c → 0 ≤ r i ∧ r i < n := fun i hi => by
    have := allB_iff.1 hal i hi
    unfold ascAt at this
    rw [Bool.and_eq_true] at this
    exact of_decide_eq_true this.1
  have SI : Hid (∀ (w' : World) (i : Nat), Below w.heap.size w w' → Gives Try.prog 35 #[.agg #[.int .i64 W, .int .i64 H, .slice A n cap, .slice B m capS], .int .i64 i] w' (.int .i64 (sillTo a s i m))) := fun w' i hb => rsill_any W H A B n cap m capS a s i w' (hq.later ⟨w', hb⟩)
  have NR : Hid (∀ (w' : World) (i : Nat), i < n → GivesI 33 #[.int .i64 W, .int .i64 H, .int .i64 i] w' (natN (near4 W H i))) := fun w' i hi => rnear_any W H i w' hW hW2 hH (hn ▸ hi)
  have NX : Hid (∀ i j, j < n → i ∈ near4 W H j → i < n) := fun i j hj hi => by rw [hn] at hj ⊢; exact near_lt hi hj
  have CT : Hid (∀ (w' : World) (x : Int), Below w.heap.size w w' → Gives Try.prog 34 #[.slice D c capR, .int .i64 x] w' (.bool (hasB c r x))) := fun w' x hb => rhas_any D c capR x r w' (by omega) (hd.later ⟨w', hb⟩)
  have HP := Lib.hid hp
  have HD := Lib.hid hd
  have HR := Lib.hid hr
  have HALL : Hid ((∀ i, i < c → okK W H m f a s c r N (r i).toNat = true) → keepB W H m f a s c r N = true) := fun h => allB_true h
  have HNOT : Hid (∀ i, i < c → okK W H m f a s c r N (r i).toNat = false → keepB W H m f a s c r N = false) := fun i hi h => allB_false hi h
  have HRES : Hid (holdB W H m f a s c r N k = (hasB c r k && (decide (N ≤ f k) || keepB W H m f a s c r N))) := rfl
  obtain ⟨kp, hkp⟩ : ∃ kp, keepB W H m f a s c r N = kp := ⟨_, rfl⟩
  rw [hkp] at HALL HNOT HRES
  generalize holdB W H m f a s c r N k = res at *
  clear hp hq hd h hn hm1 hm2 ha hs hf hr hkp hal
  have CTk := Lib.hid fun w' hb => CT.out w' k hb
  generalize hasB c r k = hb at *
  go_enter Try.func14, Try.ntmps14
  go_upto_region 1 with fail
  have BX : Hid (∀ V, Below (w.alloc (.cells #[.int .i64 W, .int .i64 H, .slice A n cap, .slice B m capS] 25)).heap.size (w.alloc (.cells #[.int .i64 W, .int .i64 H, .slice A n cap, .slice B m capS] 25)) V → V.heap[w.heap.size]? = some (.cells #[.int .i64 W, .int .i64 H, .slice A n cap, .slice B m capS] 25 (0, 0))) := fun V h =>
    (h.block _ (by simp)).trans (World.alloc_heap_new _ _)
  have HB9 : Hid (Below w.heap.size w (w.alloc (.cells #[.int .i64 W, .int .i64 H, .slice A n cap, .slice B m capS] 25))) := below_alloc (Below.refl _ _)
  obtain ⟨b2, hb2⟩ : ∃ b2, w.heap.size = b2 := ⟨_, rfl⟩
  rw [hb2] at BX ⊢
  clear hb2
  generalize w.alloc (.cells #[.int .i64 W, .int .i64 H, .slice A n cap, .slice B m capS] 25) = V9 at *
  have hb9 := HB9.out
  cases hb with
  | false =>
    have RF : Hid (res = false) := HRES.out
    clear HRES
    go_wp2_with (go_at_call 34; with_reducible refine Calls.mono (Gives.calls (CTk.out _ (by repeat (first | exact Below.refl _ _ | (with_reducible assumption) | apply below_later | apply below_alloc | apply below_drew | apply below_drewN)))) ?_; rintro e w1 ⟨rfl, z, rfl⟩)
    go_ret
    exact ⟨by rw [RF.out]; rfl, later_of (below_more HB9.out (by repeat (first | exact Below.refl _ _ | (with_reducible assumption) | apply below_later | apply below_alloc | apply below_drew | apply below_drewN)))⟩
  | true =>
    go_upto_region 3 with (go_at_call 34; with_reducible refine Calls.mono (Gives.calls (CTk.out _ (by repeat (first | exact Below.refl _ _ | (with_reducible assumption) | apply below_later | apply below_alloc | apply below_drew | apply below_drewN)))) ?_; rintro e w1 ⟨rfl, z, rfl⟩)
    have hv1 : Below V9.heap.size V9 z.val := by repeat (first | exact Below.refl _ _ | (with_reducible assumption) | apply below_later | apply below_alloc | apply below_drew | apply below_drewN)
    have HV1 := Lib.hid hv1
    clear hv1
    generalize z.val = V1 at *
    have hbw : Below w.heap.size w V1 := below_more hb9 HV1.out
    have M0 := BX.out _ HV1.out
    have m2 := cell_of_heap M0 2 _ rfl
    have lM := get_lt M0
    obtain ⟨ga, oa, ea, pa⟩ := (HP.out.later ⟨_, hbw⟩).at_ (by omega)
    subst ea
    have cj := pa.at_ k hk
    have lj := pa.lt
    clear M0 pa
    by_cases hf : N ≤ f k
    · have df : decide (N ≤ f k) = true := decide_eq_true hf
      have RF : Hid (res = true) := by show _ = _; rw [HRES.out, df]; rfl
      clear HRES hf
      generalize f k = fk at *
      go_wp2
      go_ret
      exact ⟨by rw [RF.out]; rfl, later_of hbw⟩
    · have df : decide (N ≤ f k) = false := decide_eq_false hf
      have RK : Hid (res = kp) := by show _ = _; rw [HRES.out, df]; rfl
      clear HRES hf
      obtain ⟨fk, hfk⟩ : ∃ fk, f k = fk := ⟨_, rfl⟩
      rw [hfk] at cj df
      clear hfk
      go_upto_region 6 with fail
      clear cj lj m2 lM
      go_loopw [9] (fun u wr => ∃ i : Nat, u = .int .i64 i ∧ i ≤ c ∧ (∀ j, j < i → okK W H m f a s c r N (r j).toNat = true) ∧ ∃ x : Later V1, wr = x.val) (fun u _ => c - (intOf u).toNat)
      case atStart => exact ⟨0, rfl, by omega, by omega, ⟨_, Below.refl _ _⟩, rfl⟩
      case round =>
        obtain ⟨i, rfl, hi, hall, x, rfl⟩ := hrel
        have HAL := Lib.hid hall
        clear hall
        by_cases hlt : i < c
        · obtain ⟨r0, r1⟩ := HR.out i hlt
          obtain ⟨t, ht⟩ : ∃ t : Nat, r i = t := ⟨(r i).toNat, by omega⟩
          have htn : t < n := by omega
          have HXF := Lib.hid fun (V : World) (hV : Below V1.heap.size V1 V) => BX.out V (below_more HV1.out hV)
          have HXR : Hid (∀ V : World, Below V1.heap.size V1 V → ∃ gd od, D = some ⟨gd, od, none⟩ ∧ V.cell? ⟨gd, od + i, none⟩ = some (.int .i64 t) ∧ gd < V.heap.size) := fun V hV => by
            obtain ⟨gd, od, hD, pd⟩ := (HD.out.later ⟨_, below_more hbw hV⟩).at_ (by omega)
            exact ⟨gd, od, hD, by rw [← ht]; exact pd.at_ i hlt, pd.lt⟩
          have HXA : Hid (∀ (V : World) (t : Nat), t < n → Below V1.heap.size V1 V → V.cell? ⟨ga, oa + t, none⟩ = some (.int .i64 (f t)) ∧ ga < V.heap.size) := fun V t ht hV => by
            obtain ⟨g2, o2, e2, p2⟩ := (HP.out.later ⟨_, below_more hbw hV⟩).at_ (by omega)
            simp only [Option.some.injEq, Addr.mk.injEq] at e2
            obtain ⟨rfl, rfl, _⟩ := e2
            exact ⟨p2.at_ t ht, p2.lt⟩
          obtain ⟨gd, od, hD, ci, ld⟩ := HXR.out x.val x.ok
          subst hD
          obtain ⟨cf, lf⟩ := HXA.out x.val t htn x.ok
          have M0 := HXF.out x.val x.ok
          have m2 := cell_of_heap M0 2 _ rfl
          have lM := get_lt M0
          have HNXT : Hid (okK W H m f a s c r N t = true → ∀ j, j < i + 1 → okK W H m f a s c r N (r j).toNat = true) := fun h j hj => by
            rcases Nat.lt_or_ge j i with h1 | h1
            · exact HAL.out j h1
            · obtain rfl : j = i := by omega
              rw [ht]; exact h
          have HNO : Hid (okK W H m f a s c r N t = false → kp = false) := fun h => HNOT.out i hlt (by rw [ht]; exact h)
          clear M0 ht r0 r1
          by_cases c1 : N ≤ f t
          · have d1 : decide (N ≤ f t) = true := decide_eq_true c1
            have NXT := Lib.hid (HNXT.out (okK_high c1))
            clear c1
            generalize f t = ft at *
            go_wp2_with fail
            refine wp_region_later (by kernel_rfl) (by kernel_rfl) ?_
            repeat (go_big_quiet_step ((fail)))
            refine wpQuiet_nil ?_
            intro y
            go_wp2_with fail
            go_roundw
            case rel => exact ⟨i + 1, by go_num, by omega, NXT.out, ⟨_, below_more x.ok y.ok⟩, rfl⟩
            case measure => simp [intOf]; omega
          · have d1 : decide (N ≤ f t) = false := decide_eq_false c1
            obtain ⟨ft, hft⟩ : ∃ ft, f t = ft := ⟨_, rfl⟩
            rw [hft] at cf d1
            clear hft
            go_wp2_with fail
            refine wp_region_later (by kernel_rfl) (by kernel_rfl) ?_
            repeat (go_big_quiet_step ((fail)))
            refine wpQuiet_nil ?_
            intro y
            go_wp2
            clear cf lf m2 lM d1 ci ld
            have hy1 : Below V1.heap.size V1 y.val := below_more x.ok y.ok
            generalize y.val = Y1 at *
            have hyw : Below w.heap.size w Y1 := below_more hbw hy1
            obtain ⟨gd2, od2, ed2, ci, ld⟩ := HXR.out _ hy1
            simp only [Option.some.injEq, Addr.mk.injEq] at ed2
            obtain ⟨rfl, rfl, _⟩ := ed2
            have M0 := HXF.out _ hy1
            have m0 := cell_of_heap M0 0 _ rfl
            have m1 := cell_of_heap M0 1 _ rfl
            have m2 := cell_of_heap M0 2 _ rfl
            have m3 := cell_of_heap M0 3 _ rfl
            have lM := get_lt M0
            have SIt := Lib.hid fun w' hb => SI.out w' t hb
            have HSL := Lib.hid fun (h : ¬ N ≤ f t) => okK_sill (W := W) (H := H) (m := m) (c := c) (x := t) (f := f) (a := a) (s := s) (r := r) (N := N) h
            have HNE := Lib.hid fun (h : ¬ N ≤ f t) => okK_near (W := W) (H := H) (m := m) (c := c) (x := t) (f := f) (a := a) (s := s) (r := r) (N := N) h
            generalize sillTo a s t m = st at *
            clear M0
            refine wp_region_later (by kernel_rfl) (by kernel_rfl) ?_
            repeat (go_big_quiet_step ((first | (go_at_call 35; (with_reducible refine Later.call _ (SIt.out _ (by repeat (first | exact Below.refl _ _ | (with_reducible assumption) | apply below_later | apply below_alloc | apply below_drew | apply below_drewN))))))))
            refine wpQuiet_nil ?_
            intro y2
            clear ci ld m0 m1 m2 m3 lM
            have hy2 : Below V1.heap.size V1 y2.val := below_more hy1 y2.ok
            generalize y2.val = Y2 at *
            have hcase : (decide (0 ≤ st) = true ∧ decide (st < N) = true) ∨ (¬ (0 ≤ st ∧ st < N) ∧ decide (0 ≤ st) = true ∧ decide (st < N) = false) ∨ (¬ (0 ≤ st ∧ st < N) ∧ decide (0 ≤ st) = false) := by
              by_cases h1 : 0 ≤ st <;> by_cases h2 : st < N <;> simp [h1, h2]
            rcases hcase with ⟨d2, d3⟩ | hcase
            · have RF : Hid (res = false) := RK.out.trans (HNO.out (HSL.out (by omega) (of_decide_eq_true d2) (of_decide_eq_true d3)))
              clear c1
              go_wp2
              go_ret
              exact ⟨by rw [RF.out]; rfl, later_of (below_more hbw hy2)⟩
            · obtain ⟨nl, hnl⟩ : ∃ nl, (near4 W H t).length = nl := ⟨_, rfl⟩
              have HNL : Hid ((natN (near4 W H t)).length = nl) := by show _ = _; rw [← hnl]; simp [natN]
              have nl4 : nl ≤ 4 := hnl ▸ near_len W H t
              have HNL2 := Lib.hid hnl
              have EN := Lib.hid (HNE.out (by omega) (by rcases hcase with ⟨h, _⟩ | ⟨h, _⟩ <;> exact h))
              clear hnl c1 hyw
              have G : Hid (∀ V, Below Y2.heap.size Y2 V → (V.cell? ⟨b2, 0, none⟩ = some (.int .i64 W) ∧ V.cell? ⟨b2, 1, none⟩ = some (.int .i64 H) ∧ V.cell? ⟨gd, od + i, none⟩ = some (.int .i64 t))) := fun V hV => by
                have M0 := HXF.out V (below_more hy2 hV)
                obtain ⟨gd2, od2, ed2, ci, _⟩ := HXR.out V (below_more hy2 hV)
                simp only [Option.some.injEq, Addr.mk.injEq] at ed2
                obtain ⟨rfl, rfl, _⟩ := ed2
                exact ⟨cell_of_heap M0 0 _ rfl, cell_of_heap M0 1 _ rfl, ci⟩
              go_upto_region 10 with fail
              go_cut [52] (fun s52 wx => s52 = .bool false ∧ wx = Y2)
              case first =>
                clear HALL HNOT
                rcases hcase with ⟨_, d2, d3⟩ | ⟨_, d2⟩
                all_goals
                  go_wp2_with fail
                  go_meet
                  exact ⟨rfl, rfl⟩
              case rest =>
                obtain ⟨rfl, hwx⟩ := hcut
                subst hwx
                go_upto_region 12 with fail
                have g0 : ∀ w', (∃ x : Later wc.drew, w' = x.val) → (w'.cell? ⟨b2, 0, none⟩ = some (.int .i64 W) ∧ w'.cell? ⟨b2, 1, none⟩ = some (.int .i64 H) ∧ w'.cell? ⟨gd, od + i, none⟩ = some (.int .i64 t)) := by
                  rintro w' ⟨x, rfl⟩
                  exact G.out x.val (by repeat (first | exact Below.refl _ _ | (with_reducible assumption) | apply below_later | apply below_alloc | apply below_drew | apply below_drewN))
                refine wp_region_upto 8 9 (fun w' => ∃ x : Later wc.drew, w' = x.val) (by kernel_rfl) (by kernel_rfl) ⟨⟨wc.drew, Below.refl _ _⟩, rfl⟩ ?_
                simp only [List.take_succ_cons, List.take_zero, List.drop_succ_cons, List.drop_zero]
                iterate 8
                  refine ⟨?_, Or.inl ⟨by rfl, ?_⟩, ?_⟩
                  rotate_left
                  · intro w' hS
                    obtain ⟨q0, q1, q2⟩ := g0 w' hS
                    go_simp
                    with_reducible rfl
                  simp only [Act.put, List.setIfInBounds_toArray, List.set_cons_zero, List.set_cons_succ]
                refine takeList_nil ?_
                refine midList_cons fun K1 hK1 => ?_
                go_simp
                go_at_call 33
                refine Calls.mono (GivesI.calls (NR.out _ t htn)) ?_
                rintro e w1 ⟨vn, rfl, yn, rfl, hon⟩
                obtain ⟨AN, capN, rfl⟩ := hon.shape_n (n := nl) HNL.out
                have HON2 := Lib.hid (hon.ints (by rw [HNL.out]; omega)).2
                refine hK1.out _ _ ⟨yn, rfl⟩ ?_
                clear hK1 K1 g0 hon
                refine midList_nil ?_
                have hyn : Below V1.heap.size V1 yn.val := below_more hy2 (by repeat (first | exact Below.refl _ _ | (with_reducible assumption) | apply below_later | apply below_alloc | apply below_drew | apply below_drewN))
                generalize yn.val = VY at *
                go_wp2
                refine calm_normal ?_
                go_wp2
                go_loopw [12] (fun u wq => ∃ q : Nat, u = .int .i64 q ∧ q ≤ nl ∧ (∀ q', q' < q → ∀ j, (near4 W H t)[q']? = some j → (!(decide (f j < N) && !hasB c r j)) = true) ∧ ∃ y : Later VY, wq = y.val) (fun u _ => nl - (intOf u).toNat)
                case atStart => exact ⟨0, rfl, by omega, by omega, ⟨_, Below.refl _ _⟩, rfl⟩
                case round =>
                  obtain ⟨q, rfl, hq, hsf, y, rfl⟩ := hrel
                  have HSF := Lib.hid hsf
                  clear hsf
                  have hvy : Below V1.heap.size V1 y.val := below_more hyn y.ok
                  have hby : Below w.heap.size w y.val := below_more hbw hvy
                  by_cases hql : q < nl
                  · obtain ⟨gb, gq, hAN, pN⟩ := (HON2.out.later y).at_ (by omega)
                    subst hAN
                    have cN := pN.at_ q hql
                    have lN := pN.lt
                    obtain ⟨j, hj⟩ : ∃ j, (near4 W H t)[q]? = some j := ⟨_, List.getElem?_eq_getElem (by rw [HNL2.out]; exact hql)⟩
                    rw [near_at hj] at cN
                    have hjn := NX.out j t htn (List.mem_of_getElem? hj)
                    have M0 := HXF.out _ hvy
                    have m2 := cell_of_heap M0 2 _ rfl
                    have lM := get_lt M0
                    obtain ⟨cj, lj⟩ := HXA.out _ j hjn hvy
                    have HN4 : Hid ((!(decide (f j < N) && !hasB c r j)) = true → ∀ q', q' < q + 1 → ∀ j', (near4 W H t)[q']? = some j' → (!(decide (f j' < N) && !hasB c r j')) = true) := fun h q' hq' j' hj' => by
                      rcases Nat.lt_or_ge q' q with h1 | h1
                      · exact HSF.out q' h1 j' hj'
                      · obtain rfl : q' = q := by omega
                        rw [hj] at hj'
                        obtain rfl := Option.some.inj hj'
                        exact h
                    have HN5 : Hid ((!(decide (f j < N) && !hasB c r j)) = false → res = false) := fun h => RK.out.trans (HNO.out (by rw [EN.out, List.all_eq_false]; exact ⟨j, List.mem_of_getElem? hj, by rw [h]; decide⟩))
                    have CTj := Lib.hid fun w' hb => CT.out w' j hb
                    clear pN M0 hj
                    generalize f j = fj at *
                    generalize hasB c r j = hb at *
                    by_cases c3 : fj < N
                    · have d3 : decide (fj < N) = true := decide_eq_true c3
                      rw [d3] at HN4 HN5
                      cases hb with
                      | true =>
                        have HN6 := Lib.hid (HN4.out rfl)
                        clear HN4 HN5
                        go_wp2_with fail
                        refine wp_region_later (by kernel_rfl) (by kernel_rfl) ?_
                        repeat (go_big_quiet_step ((first | (go_at_call 34; (with_reducible refine Later.call _ (CTj.out _ (by repeat (first | exact Below.refl _ _ | (with_reducible assumption) | apply below_later | apply below_alloc | apply below_drew | apply below_drewN))))))))
                        refine wpQuiet_nil ?_
                        intro z3
                        go_wp2_with fail
                        go_roundw
                        case rel => exact ⟨q + 1, by go_num, by omega, HN6.out, ⟨_, below_more y.ok z3.ok⟩, rfl⟩
                        case measure => simp [intOf]; omega
                      | false =>
                        have HN6 := Lib.hid (HN5.out rfl)
                        clear HN4 HN5
                        go_wp2_with fail
                        refine wp_region_later (by kernel_rfl) (by kernel_rfl) ?_
                        repeat (go_big_quiet_step ((first | (go_at_call 34; (with_reducible refine Later.call _ (CTj.out _ (by repeat (first | exact Below.refl _ _ | (with_reducible assumption) | apply below_later | apply below_alloc | apply below_drew | apply below_drewN))))))))
                        refine wpQuiet_nil ?_
                        intro z3
                        go_wp2_with fail
                        go_ret
                        exact ⟨by rw [HN6.out]; rfl, later_of (below_more hby z3.ok)⟩
                    · have d3 : decide (fj < N) = false := decide_eq_false c3
                      rw [d3] at HN4
                      have HN6 := Lib.hid (HN4.out rfl)
                      clear HN4 HN5
                      go_wp2_with fail
                      refine wp_region_later (by kernel_rfl) (by kernel_rfl) ?_
                      repeat (go_big_quiet_step ((fail)))
                      refine wpQuiet_nil ?_
                      intro z3
                      go_wp2_with fail
                      go_roundw
                      case rel => exact ⟨q + 1, by go_num, by omega, HN6.out, ⟨_, below_more y.ok z3.ok⟩, rfl⟩
                      case measure => simp [intOf]; omega
                  · obtain rfl : q = nl := by omega
                    have NXT := Lib.hid (HNXT.out (by
                      rw [EN.out, List.all_eq_true]
                      intro j hj
                      obtain ⟨q', hq'⟩ := List.mem_iff_getElem?.1 hj
                      exact HSF.out q' (by rw [← HNL2.out]; exact (List.getElem?_eq_some_iff.1 hq').1) j hq'))
                    have hyx := Lib.hid hvy
                    go_wp2_with fail
                    go_roundw
                    case rel => exact ⟨i + 1, by go_num, by omega, NXT.out, ⟨_, hyx.out⟩, rfl⟩
                    case measure => simp [intOf]; omega
        · obtain rfl : i = c := by omega
          have RT : Hid (res = true) := RK.out.trans (HALL.out HAL.out)
          go_wp2_with fail
          go_ret
          exact ⟨by rw [RT.out]; rfl, later_of (below_more hbw (by repeat (first | exact Below.refl _ _ | (with_reducible assumption) | apply below_later | apply below_alloc | apply below_drew | apply below_drewN)))⟩
end Go.Proofs.Ytelfinjnbncnlaa
namespace Go.Proofs.Ytelfinjnbncnlaa
open Go.RowKit

/-- The two boxes of the law, in any later world. -/
def TwoBx (w : World) (W H : Int) (A B D : Option Addr) (n cap m capS c capR : Nat) (k N : Int) (V : World) : Prop :=
  (V.cell? ⟨w.heap.size, 0, none⟩ = some (.int .i64 W) ∧ V.cell? ⟨w.heap.size, 1, none⟩ = some (.int .i64 H) ∧ V.cell? ⟨w.heap.size, 2, none⟩ = some (.slice A n cap) ∧ V.cell? ⟨w.heap.size, 3, none⟩ = some (.slice B m capS) ∧ w.heap.size < V.heap.size) ∧
  (V.cell? ⟨w.heap.size + 1, 0, none⟩ = some (.int .i64 k) ∧ V.cell? ⟨w.heap.size + 1, 1, none⟩ = some (.int .i64 N) ∧ V.cell? ⟨w.heap.size + 1, 2, none⟩ = some (.slice D c capR) ∧ w.heap.size + 1 < V.heap.size)
theorem twoBx (w : World) (W H : Int) (A B D : Option Addr) (n cap m capS c capR : Nat) (k N : Int) (V : World) (hb : Below ((w.alloc (.cells #[.int .i64 W, .int .i64 H, .slice A n cap, .slice B m capS] 25)).alloc (.cells #[.int .i64 k, .int .i64 N, .slice D c capR] 27)).heap.size ((w.alloc (.cells #[.int .i64 W, .int .i64 H, .slice A n cap, .slice B m capS] 25)).alloc (.cells #[.int .i64 k, .int .i64 N, .slice D c capR] 27)) V) :
    TwoBx w W H A B D n cap m capS c capR k N V := by
  have h1 : ((w.alloc (.cells #[.int .i64 W, .int .i64 H, .slice A n cap, .slice B m capS] 25)).alloc (.cells #[.int .i64 k, .int .i64 N, .slice D c capR] 27)).heap[w.heap.size]? = some (.cells #[.int .i64 W, .int .i64 H, .slice A n cap, .slice B m capS] 25 (0, 0)) := (Below.heap_alloc _ _ _ (by simp)).trans (World.alloc_heap_new _ _)
  have h2 := box_two w (.cells #[.int .i64 W, .int .i64 H, .slice A n cap, .slice B m capS] 25) (.cells #[.int .i64 k, .int .i64 N, .slice D c capR] 27)
  have k1 := (hb.block _ (get_lt h1)).trans h1
  have k2 := (hb.block _ (get_lt h2)).trans h2
  exact ⟨⟨cell_of_heap k1 0 _ rfl, cell_of_heap k1 1 _ rfl, cell_of_heap k1 2 _ rfl, cell_of_heap k1 3 _ rfl, get_lt k1⟩, cell_of_heap k2 0 _ rfl, cell_of_heap k2 1 _ rfl, cell_of_heap k2 2 _ rfl, get_lt k2⟩
theorem filt_same {S T : Nat → Bool} {n : Nat} (h : ∀ i, i < n → (S i = true ↔ T i = true)) : natN (filt S n) = natN (filt T n) := by
  unfold filt
  congr 1
  apply List.filter_congr
  intro i hi
  have := h i (List.mem_range.1 hi)
  cases h1 : S i <;> cases h2 : T i <;> simp_all
set_option maxRecDepth 100000 in
set_option maxHeartbeats 6400000 in
theorem ridges_law (W H : Int) (A : Option Addr) (n cap : Nat) (f : Nat → Int) (B : Option Addr) (m capS : Nat) (a s : Nat → Int) (k N : Int) (D : Option Addr) (c capR : Nat) (r : Nat → Int) (w : World) (hp : n ≤ 9223372036854775807 → IsInts w A n f) (hq : m ≤ 60 → IsSlu w B m a s) (hd : c ≤ 9223372036854775807 → IsInts w D c r) :
    Gives Try.prog 3 #[.agg #[.int .i64 W, .int .i64 H, .slice A n cap, .slice B m capS], .agg #[.int .i64 k, .int .i64 N, .slice D c capR]] w (.bool true) := by
  have F1 : Hid (∀ w, Gives Try.prog 7 #[] w (.bool true)) := first_any
  have FW : Hid (∀ w, Gives Try.prog 6 #[.agg #[.int .i64 W, .int .i64 H, .slice A n cap, .slice B m capS]] w (.bool (decide (100 < n) || decide (30 < m)))) := fun w => fenLarge_any W H A B n cap m capS w
  have TB := Lib.hid (twoBx w W H A B D n cap m capS c capR k N)
  have HW0 : Hid (Below w.heap.size w ((w.alloc (.cells #[.int .i64 W, .int .i64 H, .slice A n cap, .slice B m capS] 25)).alloc (.cells #[.int .i64 k, .int .i64 N, .slice D c capR] 27))) := below_alloc (below_alloc (Below.refl _ _))
  unfold TwoBx at TB
  cases hl : (decide (100 < n) || decide (30 < m)) with
  | true =>
    rw [hl] at FW
    clear hp hq hd hl
    go_enter Try.func3, Try.ntmps3
    go_wp2_with (first | (go_at_call 6; with_reducible refine Calls.mono (Gives.calls (FW.out _)) ?_; rintro e w1 ⟨rfl, z1, rfl⟩) | (go_at_call 7; with_reducible refine Calls.mono (Gives.calls (F1.out _)) ?_; rintro e w1 ⟨rfl, z4, rfl⟩))
    go_ret
    exact ⟨rfl, later_of (by repeat (first | exact Below.refl _ _ | (with_reducible assumption) | apply below_later | apply below_alloc | apply below_drew | apply below_drewN))⟩
  | false =>
    rw [hl] at FW
    simp only [Bool.or_eq_false_iff, decide_eq_false_iff_not] at hl
    have hp' := hp (by omega)
    have hq' := hq (by omega)
    have hn100 : n ≤ 100 := by omega
    clear hp hq hl
    by_cases hc : 200 < c
    · have d1 : decide (200 < c) = true := decide_eq_true hc
      have d2 : decide ((200 : Int) < (c : Int)) = true := decide_eq_true (by omega)
      clear hd
      go_enter Try.func3, Try.ntmps3
      go_wp2_with (first | ((go_at_call 6; with_reducible refine Calls.mono (Gives.calls (FW.out _)) ?_; rintro e w1 ⟨rfl, z1, rfl⟩); obtain ⟨⟨p0, p1, p2, p3, p4⟩, q0, q1, q2, q3⟩ := TB.out z1.val (by repeat (first | exact Below.refl _ _ | (with_reducible assumption) | apply below_later | apply below_alloc | apply below_drew | apply below_drewN))) | (go_at_call 7; with_reducible refine Calls.mono (Gives.calls (F1.out _)) ?_; rintro e w1 ⟨rfl, z4, rfl⟩))
      go_ret
      exact ⟨rfl, later_of (by repeat (first | exact Below.refl _ _ | (with_reducible assumption) | apply below_later | apply below_alloc | apply below_drew | apply below_drewN))⟩
    · have hd' := hd (by omega)
      have d1 : decide (200 < c) = false := decide_eq_false hc
      have d2 : decide ((200 : Int) < (c : Int)) = false := decide_eq_false (by omega)
      have hc' : c ≤ 200 := by omega
      clear hd hc
      cases hv : validF W H n f m a s with
      | false =>
        have C1 : Hid (∀ w', Below w.heap.size w w' → Gives Try.prog 8 #[.agg #[.int .i64 W, .int .i64 H, .slice A n cap, .slice B m capS], .int .i64 k] w' (.tuple #[.slice none 0 0, .int .i64 30])) := fun w' h => Ridge_bad W H n cap m capS A B f a s k w' (hp'.later ⟨w', h⟩) (hq'.later ⟨w', h⟩) hv
        have C2 : Hid (∀ w', Below w.heap.size w w' → Gives Try.prog 9 #[.agg #[.int .i64 W, .int .i64 H, .slice A n cap, .slice B m capS], .int .i64 k, .int .i64 N, .slice D c capR] w' (.tuple #[.bool false, .int .i64 30])) := fun w' h => Holds_bad W H n cap m capS c capR A B D f a s k N w' (hp'.later ⟨w', h⟩) (hq'.later ⟨w', h⟩) hv
        have RV : Hid (∀ w', Below w.heap.size w w' → Gives Try.prog 10 #[.agg #[.int .i64 W, .int .i64 H, .slice A n cap, .slice B m capS]] w' (.bool false)) := fun w' h => hv ▸ rvalid_any W H A B n cap m capS f a s w' (by omega) (hp'.later ⟨w', h⟩) (hq'.later ⟨w', h⟩)
        clear hp' hq' hd' hv
        go_enter Try.func3, Try.ntmps3
        go_wp2_with (first
          | ((go_at_call 6; with_reducible refine Calls.mono (Gives.calls (FW.out _)) ?_; rintro e w1 ⟨rfl, z1, rfl⟩); obtain ⟨⟨p0, p1, p2, p3, p4⟩, q0, q1, q2, q3⟩ := TB.out z1.val (by repeat (first | exact Below.refl _ _ | (with_reducible assumption) | apply below_later | apply below_alloc | apply below_drew | apply below_drewN)))
          | ((go_at_call 8; with_reducible refine Calls.mono (Gives.calls (C1.out _ (by repeat (first | exact Below.refl _ _ | (with_reducible assumption) | apply below_later | apply below_alloc | apply below_drew | apply below_drewN)))) ?_; rintro e w1 ⟨rfl, z2, rfl⟩); obtain ⟨⟨p0, p1, p2, p3, p4⟩, q0, q1, q2, q3⟩ := TB.out z2.val (by repeat (first | exact Below.refl _ _ | (with_reducible assumption) | apply below_later | apply below_alloc | apply below_drew | apply below_drewN)))
          | ((go_at_call 9; with_reducible refine Calls.mono (Gives.calls (C2.out _ (by repeat (first | exact Below.refl _ _ | (with_reducible assumption) | apply below_later | apply below_alloc | apply below_drew | apply below_drewN)))) ?_; rintro e w1 ⟨rfl, z3, rfl⟩); obtain ⟨⟨p0, p1, p2, p3, p4⟩, q0, q1, q2, q3⟩ := TB.out z3.val (by repeat (first | exact Below.refl _ _ | (with_reducible assumption) | apply below_later | apply below_alloc | apply below_drew | apply below_drewN)))
          | (go_at_call 10; with_reducible refine Calls.mono (Gives.calls (RV.out _ (by repeat (first | exact Below.refl _ _ | (with_reducible assumption) | apply below_later | apply below_alloc | apply below_drew | apply below_drewN)))) ?_; rintro e w1 ⟨rfl, z5, rfl⟩)
          | (go_at_call 7; with_reducible refine Calls.mono (Gives.calls (F1.out _)) ?_; rintro e w1 ⟨rfl, z4, rfl⟩))
        go_ret
        exact ⟨rfl, later_of (by repeat (first | exact Below.refl _ _ | (with_reducible assumption) | apply below_later | apply below_alloc | apply below_drew | apply below_drewN))⟩
      | true =>
        have RV : Hid (∀ w', Below w.heap.size w w' → Gives Try.prog 10 #[.agg #[.int .i64 W, .int .i64 H, .slice A n cap, .slice B m capS]] w' (.bool true)) := fun w' h => hv ▸ rvalid_any W H A B n cap m capS f a s w' (by omega) (hp'.later ⟨w', h⟩) (hq'.later ⟨w', h⟩)
        by_cases hk : 0 ≤ k ∧ k < n
        · obtain ⟨K, rfl⟩ : ∃ x : Nat, k = x := ⟨k.toNat, by omega⟩
          have hkn : K < n := by omega
          obtain ⟨⟨⟨a1', a2⟩, a3, a4⟩, hvz⟩ := valid_facts hv
          obtain ⟨W', rfl⟩ : ∃ x : Nat, W = x := ⟨W.toNat, by omega⟩
          obtain ⟨H', rfl⟩ : ∃ x : Nat, H = x := ⟨H.toNat, by omega⟩
          obtain ⟨L, hL⟩ := fen_levels hv
          obtain ⟨_, _, _, _, hnn, hn1, hn2, _⟩ := hL.facts
          obtain ⟨b, off, rfl, p⟩ := hp'.at_ hn1
          have C1 : Hid (∀ w', Below w.heap.size w w' → Calls Try.prog 8 #[.agg #[.int .i64 W', .int .i64 H', .slice (some ⟨b, off, none⟩) n cap, .slice B m capS], .int .i64 K] w' (PostRg w' n W' H' f L K)) := fun w' h => ridge_ok hL cap capS K _ B w' hkn (hp'.later ⟨w', h⟩) (hq'.later ⟨w', h⟩)
          have C3 : Hid (∀ w', Below w.heap.size w w' → Calls Try.prog 12 #[.agg #[.int .i64 W', .int .i64 H', .slice (some ⟨b, off, none⟩) n cap, .slice B m capS], .int .i64 K] w' (PostRr w' n W' H' f L K)) := fun w' h => rridge_ok hL cap capS K b off B w' hkn (p.later ⟨w', h⟩) (hq'.later ⟨w', h⟩)
          unfold PostRg at C1
          unfold PostRr at C3
          have SI : Hid (∀ (V : World) (A5 A6 : Option Addr) (c5 c6 nl : Nat) (l : List Int), nl ≤ 1000 → IsInts V A5 nl (fun i => l.getD i 0) → IsInts V A6 nl (fun i => l.getD i 0) → Gives Try.prog 11 #[.slice A5 nl c5, .slice A6 nl c6] V (.bool true)) := fun V A5 A6 c5 c6 nl l h1 h2 h3 => same_ints A5 A6 nl c5 c6 _ _ V (by omega) h2 h3 fun _ _ => rfl
          have dk1 : decide ((K : Int) < 0) = false := decide_eq_false (by omega)
          have dk2 : decide ((n : Int) ≤ (K : Int)) = false := decide_eq_false (by omega)
          have dk3 : decide (n ≤ K) = false := decide_eq_false (by omega)
          clear a1' a2 a3 a4 hvz
          by_cases h1 : N < 0
          ·
            have d3 : decide (N < 0) = true := decide_eq_true h1
            have C2 : Hid (∀ w', Below w.heap.size w w' → Gives Try.prog 9 #[.agg #[.int .i64 W', .int .i64 H', .slice (some ⟨b, off, none⟩) n cap, .slice B m capS], .int .i64 K, .int .i64 N, .slice D c capR] w' (.tuple #[.bool false, .int .i64 2])) := fun w' h => Holds_arg W' H' n cap m capS c capR (some ⟨b, off, none⟩) B D f a s r K N w' (by omega) (hp'.later ⟨w', h⟩) (hq'.later ⟨w', h⟩) (hd'.later ⟨w', h⟩) hv (.inr (.inl h1))
            clear hp' hq' hd' hv hL hnn p h1
            go_enter Try.func3, Try.ntmps3
            go_wp2_with (first
              | ((go_at_call 6; with_reducible refine Calls.mono (Gives.calls (FW.out _)) ?_; rintro e w1 ⟨rfl, z1, rfl⟩); obtain ⟨⟨p0, p1, p2, p3, p4⟩, q0, q1, q2, q3⟩ := TB.out z1.val (by repeat (first | exact Below.refl _ _ | (with_reducible assumption) | apply below_later | apply below_alloc | apply below_drew | apply below_drewN)))
              | (go_at_call 8; with_reducible refine Calls.mono (C1.out _ (by repeat (first | exact Below.refl _ _ | (with_reducible assumption) | apply below_later | apply below_alloc | apply below_drew | apply below_drewN))) ?_; rintro e w1 ⟨v, S, rfl, z2, rfl, ho, hS⟩; obtain ⟨lm, hlm⟩ : ∃ lm, (natN (filt S n)).length = lm := ⟨_, rfl⟩; have hlm9 : lm ≤ 100 := (by rw [← hlm]; have h1 := filt_len S n; simp only [natN, List.length_map]; omega); obtain ⟨A5, c5, rfl⟩ := ho.shape_n (n := lm) hlm; have HI5 := Lib.hid (show IsInts z2.val A5 lm (fun i => (natN (filt S n)).getD i 0) from (ho.ints (by omega)).2); have HS5 := Lib.hid hS; have HLM := Lib.hid hlm; clear ho hS hlm; obtain ⟨⟨p0, p1, p2, p3, p4⟩, q0, q1, q2, q3⟩ := TB.out z2.val (by repeat (first | exact Below.refl _ _ | (with_reducible assumption) | apply below_later | apply below_alloc | apply below_drew | apply below_drewN)))
              | ((go_at_call 9; with_reducible refine Calls.mono (Gives.calls (C2.out _ (by repeat (first | exact Below.refl _ _ | (with_reducible assumption) | apply below_later | apply below_alloc | apply below_drew | apply below_drewN)))) ?_; rintro e w1 ⟨rfl, z3, rfl⟩); obtain ⟨⟨p0, p1, p2, p3, p4⟩, q0, q1, q2, q3⟩ := TB.out z3.val (by repeat (first | exact Below.refl _ _ | (with_reducible assumption) | apply below_later | apply below_alloc | apply below_drew | apply below_drewN)))
              | ((go_at_call 10; with_reducible refine Calls.mono (Gives.calls (RV.out _ (by repeat (first | exact Below.refl _ _ | (with_reducible assumption) | apply below_later | apply below_alloc | apply below_drew | apply below_drewN)))) ?_; rintro e w1 ⟨rfl, z5, rfl⟩); obtain ⟨⟨p0, p1, p2, p3, p4⟩, q0, q1, q2, q3⟩ := TB.out z5.val (by repeat (first | exact Below.refl _ _ | (with_reducible assumption) | apply below_later | apply below_alloc | apply below_drew | apply below_drewN)))
              | (go_at_call 12; with_reducible refine Calls.mono (C3.out _ (by repeat (first | exact Below.refl _ _ | (with_reducible assumption) | apply below_later | apply below_alloc | apply below_drew | apply below_drewN))) ?_; rintro e w1 ⟨v, S6, rfl, z6, rfl, ho6, hS6⟩; have e6 : natN (filt S6 n) = natN (filt S n) := filt_same (fun i hi => (hS6 i hi).trans (HS5.out i hi).symm); rw [e6] at ho6; obtain ⟨A6, c6, rfl⟩ := ho6.shape_n (n := lm) HLM.out; have HI6 := Lib.hid (show IsInts z6.val A6 lm (fun i => (natN (filt S n)).getD i 0) from (ho6.ints (by rw [HLM.out]; omega)).2); clear ho6 hS6 e6)
              | ((go_at_call 11; with_reducible refine Calls.mono (Gives.calls (SI.out z6.val A5 A6 c5 c6 lm _ (by omega) (HI5.out.later ⟨z6.val, by repeat (first | exact Below.refl _ _ | (with_reducible assumption) | apply below_later | apply below_alloc | apply below_drew | apply below_drewN)⟩) HI6.out)) ?_; rintro e w1 ⟨rfl, z7, rfl⟩); obtain ⟨⟨p0, p1, p2, p3, p4⟩, q0, q1, q2, q3⟩ := TB.out z7.val (by repeat (first | exact Below.refl _ _ | (with_reducible assumption) | apply below_later | apply below_alloc | apply below_drew | apply below_drewN)))
              | (go_at_call 7; with_reducible refine Calls.mono (Gives.calls (F1.out _)) ?_; rintro e w1 ⟨rfl, z4, rfl⟩))
            go_ret
            exact ⟨rfl, later_of (by repeat (first | exact Below.refl _ _ | (with_reducible assumption) | apply below_later | apply below_alloc | apply below_drew | apply below_drewN))⟩
          · have d3 : decide (N < 0) = false := decide_eq_false h1
            by_cases h2 : 1000 < N
            ·
              have d4 : decide (1000 < N) = true := decide_eq_true h2
              have C2 : Hid (∀ w', Below w.heap.size w w' → Gives Try.prog 9 #[.agg #[.int .i64 W', .int .i64 H', .slice (some ⟨b, off, none⟩) n cap, .slice B m capS], .int .i64 K, .int .i64 N, .slice D c capR] w' (.tuple #[.bool false, .int .i64 2])) := fun w' h => Holds_arg W' H' n cap m capS c capR (some ⟨b, off, none⟩) B D f a s r K N w' (by omega) (hp'.later ⟨w', h⟩) (hq'.later ⟨w', h⟩) (hd'.later ⟨w', h⟩) hv (.inr (.inr (.inl h2)))
              clear hp' hq' hd' hv hL hnn p h1 h2
              go_enter Try.func3, Try.ntmps3
              go_wp2_with (first
                | ((go_at_call 6; with_reducible refine Calls.mono (Gives.calls (FW.out _)) ?_; rintro e w1 ⟨rfl, z1, rfl⟩); obtain ⟨⟨p0, p1, p2, p3, p4⟩, q0, q1, q2, q3⟩ := TB.out z1.val (by repeat (first | exact Below.refl _ _ | (with_reducible assumption) | apply below_later | apply below_alloc | apply below_drew | apply below_drewN)))
                | (go_at_call 8; with_reducible refine Calls.mono (C1.out _ (by repeat (first | exact Below.refl _ _ | (with_reducible assumption) | apply below_later | apply below_alloc | apply below_drew | apply below_drewN))) ?_; rintro e w1 ⟨v, S, rfl, z2, rfl, ho, hS⟩; obtain ⟨lm, hlm⟩ : ∃ lm, (natN (filt S n)).length = lm := ⟨_, rfl⟩; have hlm9 : lm ≤ 100 := (by rw [← hlm]; have h1 := filt_len S n; simp only [natN, List.length_map]; omega); obtain ⟨A5, c5, rfl⟩ := ho.shape_n (n := lm) hlm; have HI5 := Lib.hid (show IsInts z2.val A5 lm (fun i => (natN (filt S n)).getD i 0) from (ho.ints (by omega)).2); have HS5 := Lib.hid hS; have HLM := Lib.hid hlm; clear ho hS hlm; obtain ⟨⟨p0, p1, p2, p3, p4⟩, q0, q1, q2, q3⟩ := TB.out z2.val (by repeat (first | exact Below.refl _ _ | (with_reducible assumption) | apply below_later | apply below_alloc | apply below_drew | apply below_drewN)))
                | ((go_at_call 9; with_reducible refine Calls.mono (Gives.calls (C2.out _ (by repeat (first | exact Below.refl _ _ | (with_reducible assumption) | apply below_later | apply below_alloc | apply below_drew | apply below_drewN)))) ?_; rintro e w1 ⟨rfl, z3, rfl⟩); obtain ⟨⟨p0, p1, p2, p3, p4⟩, q0, q1, q2, q3⟩ := TB.out z3.val (by repeat (first | exact Below.refl _ _ | (with_reducible assumption) | apply below_later | apply below_alloc | apply below_drew | apply below_drewN)))
                | ((go_at_call 10; with_reducible refine Calls.mono (Gives.calls (RV.out _ (by repeat (first | exact Below.refl _ _ | (with_reducible assumption) | apply below_later | apply below_alloc | apply below_drew | apply below_drewN)))) ?_; rintro e w1 ⟨rfl, z5, rfl⟩); obtain ⟨⟨p0, p1, p2, p3, p4⟩, q0, q1, q2, q3⟩ := TB.out z5.val (by repeat (first | exact Below.refl _ _ | (with_reducible assumption) | apply below_later | apply below_alloc | apply below_drew | apply below_drewN)))
                | (go_at_call 12; with_reducible refine Calls.mono (C3.out _ (by repeat (first | exact Below.refl _ _ | (with_reducible assumption) | apply below_later | apply below_alloc | apply below_drew | apply below_drewN))) ?_; rintro e w1 ⟨v, S6, rfl, z6, rfl, ho6, hS6⟩; have e6 : natN (filt S6 n) = natN (filt S n) := filt_same (fun i hi => (hS6 i hi).trans (HS5.out i hi).symm); rw [e6] at ho6; obtain ⟨A6, c6, rfl⟩ := ho6.shape_n (n := lm) HLM.out; have HI6 := Lib.hid (show IsInts z6.val A6 lm (fun i => (natN (filt S n)).getD i 0) from (ho6.ints (by rw [HLM.out]; omega)).2); clear ho6 hS6 e6)
                | ((go_at_call 11; with_reducible refine Calls.mono (Gives.calls (SI.out z6.val A5 A6 c5 c6 lm _ (by omega) (HI5.out.later ⟨z6.val, by repeat (first | exact Below.refl _ _ | (with_reducible assumption) | apply below_later | apply below_alloc | apply below_drew | apply below_drewN)⟩) HI6.out)) ?_; rintro e w1 ⟨rfl, z7, rfl⟩); obtain ⟨⟨p0, p1, p2, p3, p4⟩, q0, q1, q2, q3⟩ := TB.out z7.val (by repeat (first | exact Below.refl _ _ | (with_reducible assumption) | apply below_later | apply below_alloc | apply below_drew | apply below_drewN)))
                | (go_at_call 7; with_reducible refine Calls.mono (Gives.calls (F1.out _)) ?_; rintro e w1 ⟨rfl, z4, rfl⟩))
              go_ret
              exact ⟨rfl, later_of (by repeat (first | exact Below.refl _ _ | (with_reducible assumption) | apply below_later | apply below_alloc | apply below_drew | apply below_drewN))⟩
            · have d4 : decide (1000 < N) = false := decide_eq_false h2
              cases hal : allB c (ascAt n r) with
              | false =>
                have C2 : Hid (∀ w', Below w.heap.size w w' → Gives Try.prog 9 #[.agg #[.int .i64 W', .int .i64 H', .slice (some ⟨b, off, none⟩) n cap, .slice B m capS], .int .i64 K, .int .i64 N, .slice D c capR] w' (.tuple #[.bool false, .int .i64 2])) := fun w' h => Holds_arg W' H' n cap m capS c capR (some ⟨b, off, none⟩) B D f a s r K N w' (by omega) (hp'.later ⟨w', h⟩) (hq'.later ⟨w', h⟩) (hd'.later ⟨w', h⟩) hv (.inr (.inr (.inr hal)))
                have RA : Hid (∀ w', Below w.heap.size w w' → Gives Try.prog 13 #[.slice D c capR, .int .i64 n] w' (.bool false)) := fun w' h => hal ▸ rascends_any D n c capR r w' (by omega) (by omega) (hd'.later ⟨w', h⟩)
                clear hp' hq' hd' hv hL hnn p h1 h2 hal
                go_enter Try.func3, Try.ntmps3
                go_wp2_with (first
                  | ((go_at_call 6; with_reducible refine Calls.mono (Gives.calls (FW.out _)) ?_; rintro e w1 ⟨rfl, z1, rfl⟩); obtain ⟨⟨p0, p1, p2, p3, p4⟩, q0, q1, q2, q3⟩ := TB.out z1.val (by repeat (first | exact Below.refl _ _ | (with_reducible assumption) | apply below_later | apply below_alloc | apply below_drew | apply below_drewN)))
                  | (go_at_call 8; with_reducible refine Calls.mono (C1.out _ (by repeat (first | exact Below.refl _ _ | (with_reducible assumption) | apply below_later | apply below_alloc | apply below_drew | apply below_drewN))) ?_; rintro e w1 ⟨v, S, rfl, z2, rfl, ho, hS⟩; obtain ⟨lm, hlm⟩ : ∃ lm, (natN (filt S n)).length = lm := ⟨_, rfl⟩; have hlm9 : lm ≤ 100 := (by rw [← hlm]; have h1 := filt_len S n; simp only [natN, List.length_map]; omega); obtain ⟨A5, c5, rfl⟩ := ho.shape_n (n := lm) hlm; have HI5 := Lib.hid (show IsInts z2.val A5 lm (fun i => (natN (filt S n)).getD i 0) from (ho.ints (by omega)).2); have HS5 := Lib.hid hS; have HLM := Lib.hid hlm; clear ho hS hlm; obtain ⟨⟨p0, p1, p2, p3, p4⟩, q0, q1, q2, q3⟩ := TB.out z2.val (by repeat (first | exact Below.refl _ _ | (with_reducible assumption) | apply below_later | apply below_alloc | apply below_drew | apply below_drewN)))
                  | ((go_at_call 9; with_reducible refine Calls.mono (Gives.calls (C2.out _ (by repeat (first | exact Below.refl _ _ | (with_reducible assumption) | apply below_later | apply below_alloc | apply below_drew | apply below_drewN)))) ?_; rintro e w1 ⟨rfl, z3, rfl⟩); obtain ⟨⟨p0, p1, p2, p3, p4⟩, q0, q1, q2, q3⟩ := TB.out z3.val (by repeat (first | exact Below.refl _ _ | (with_reducible assumption) | apply below_later | apply below_alloc | apply below_drew | apply below_drewN)))
                  | ((go_at_call 10; with_reducible refine Calls.mono (Gives.calls (RV.out _ (by repeat (first | exact Below.refl _ _ | (with_reducible assumption) | apply below_later | apply below_alloc | apply below_drew | apply below_drewN)))) ?_; rintro e w1 ⟨rfl, z5, rfl⟩); obtain ⟨⟨p0, p1, p2, p3, p4⟩, q0, q1, q2, q3⟩ := TB.out z5.val (by repeat (first | exact Below.refl _ _ | (with_reducible assumption) | apply below_later | apply below_alloc | apply below_drew | apply below_drewN)))
                  | (go_at_call 12; with_reducible refine Calls.mono (C3.out _ (by repeat (first | exact Below.refl _ _ | (with_reducible assumption) | apply below_later | apply below_alloc | apply below_drew | apply below_drewN))) ?_; rintro e w1 ⟨v, S6, rfl, z6, rfl, ho6, hS6⟩; have e6 : natN (filt S6 n) = natN (filt S n) := filt_same (fun i hi => (hS6 i hi).trans (HS5.out i hi).symm); rw [e6] at ho6; obtain ⟨A6, c6, rfl⟩ := ho6.shape_n (n := lm) HLM.out; have HI6 := Lib.hid (show IsInts z6.val A6 lm (fun i => (natN (filt S n)).getD i 0) from (ho6.ints (by rw [HLM.out]; omega)).2); clear ho6 hS6 e6)
                  | ((go_at_call 11; with_reducible refine Calls.mono (Gives.calls (SI.out z6.val A5 A6 c5 c6 lm _ (by omega) (HI5.out.later ⟨z6.val, by repeat (first | exact Below.refl _ _ | (with_reducible assumption) | apply below_later | apply below_alloc | apply below_drew | apply below_drewN)⟩) HI6.out)) ?_; rintro e w1 ⟨rfl, z7, rfl⟩); obtain ⟨⟨p0, p1, p2, p3, p4⟩, q0, q1, q2, q3⟩ := TB.out z7.val (by repeat (first | exact Below.refl _ _ | (with_reducible assumption) | apply below_later | apply below_alloc | apply below_drew | apply below_drewN)))
                  | ((go_at_call 13; with_reducible refine Calls.mono (Gives.calls (RA.out _ (by repeat (first | exact Below.refl _ _ | (with_reducible assumption) | apply below_later | apply below_alloc | apply below_drew | apply below_drewN)))) ?_; rintro e w1 ⟨rfl, z8, rfl⟩); obtain ⟨⟨p0, p1, p2, p3, p4⟩, q0, q1, q2, q3⟩ := TB.out z8.val (by repeat (first | exact Below.refl _ _ | (with_reducible assumption) | apply below_later | apply below_alloc | apply below_drew | apply below_drewN)))
                  | (go_at_call 7; with_reducible refine Calls.mono (Gives.calls (F1.out _)) ?_; rintro e w1 ⟨rfl, z4, rfl⟩))
                go_ret
                exact ⟨rfl, later_of (by repeat (first | exact Below.refl _ _ | (with_reducible assumption) | apply below_later | apply below_alloc | apply below_drew | apply below_drewN))⟩
              | true =>
                have C2 : Hid (∀ w', Below w.heap.size w w' → Gives Try.prog 9 #[.agg #[.int .i64 W', .int .i64 H', .slice (some ⟨b, off, none⟩) n cap, .slice B m capS], .int .i64 K, .int .i64 N, .slice D c capR] w' (.tuple #[.bool (holdB W' H' m f a s c r N K), .int .i64 0])) := fun w' h => Holds_ok hL cap capS c capR K (some ⟨b, off, none⟩) B D r N w' (by omega) hkn (by omega) hal (hp'.later ⟨w', h⟩) (hq'.later ⟨w', h⟩) (hd'.later ⟨w', h⟩)
                have RA : Hid (∀ w', Below w.heap.size w w' → Gives Try.prog 13 #[.slice D c capR, .int .i64 n] w' (.bool true)) := fun w' h => hal ▸ rascends_any D n c capR r w' (by omega) (by omega) (hd'.later ⟨w', h⟩)
                have RH : Hid (∀ w', Below w.heap.size w w' → Gives Try.prog 14 #[.agg #[.int .i64 W', .int .i64 H', .slice (some ⟨b, off, none⟩) n cap, .slice B m capS], .int .i64 K, .int .i64 N, .slice D c capR] w' (.bool (holdB W' H' m f a s c r N K))) := fun w' h => rHolds_ok hL cap capS c capR K (some ⟨b, off, none⟩) B D r N w' hkn (by omega) (by omega) hal (hp'.later ⟨w', h⟩) (hq'.later ⟨w', h⟩) (hd'.later ⟨w', h⟩)
                clear hp' hq' hd' hv hL hnn p h1 h2 hal
                generalize holdB W' H' m f a s c r N K = hb at *
                have hbb : (hb == hb) = true := by simp
                go_enter Try.func3, Try.ntmps3
                go_wp2_with (first
                  | ((go_at_call 6; with_reducible refine Calls.mono (Gives.calls (FW.out _)) ?_; rintro e w1 ⟨rfl, z1, rfl⟩); obtain ⟨⟨p0, p1, p2, p3, p4⟩, q0, q1, q2, q3⟩ := TB.out z1.val (by repeat (first | exact Below.refl _ _ | (with_reducible assumption) | apply below_later | apply below_alloc | apply below_drew | apply below_drewN)))
                  | (go_at_call 8; with_reducible refine Calls.mono (C1.out _ (by repeat (first | exact Below.refl _ _ | (with_reducible assumption) | apply below_later | apply below_alloc | apply below_drew | apply below_drewN))) ?_; rintro e w1 ⟨v, S, rfl, z2, rfl, ho, hS⟩; obtain ⟨lm, hlm⟩ : ∃ lm, (natN (filt S n)).length = lm := ⟨_, rfl⟩; have hlm9 : lm ≤ 100 := (by rw [← hlm]; have h1 := filt_len S n; simp only [natN, List.length_map]; omega); obtain ⟨A5, c5, rfl⟩ := ho.shape_n (n := lm) hlm; have HI5 := Lib.hid (show IsInts z2.val A5 lm (fun i => (natN (filt S n)).getD i 0) from (ho.ints (by omega)).2); have HS5 := Lib.hid hS; have HLM := Lib.hid hlm; clear ho hS hlm; obtain ⟨⟨p0, p1, p2, p3, p4⟩, q0, q1, q2, q3⟩ := TB.out z2.val (by repeat (first | exact Below.refl _ _ | (with_reducible assumption) | apply below_later | apply below_alloc | apply below_drew | apply below_drewN)))
                  | ((go_at_call 9; with_reducible refine Calls.mono (Gives.calls (C2.out _ (by repeat (first | exact Below.refl _ _ | (with_reducible assumption) | apply below_later | apply below_alloc | apply below_drew | apply below_drewN)))) ?_; rintro e w1 ⟨rfl, z3, rfl⟩); obtain ⟨⟨p0, p1, p2, p3, p4⟩, q0, q1, q2, q3⟩ := TB.out z3.val (by repeat (first | exact Below.refl _ _ | (with_reducible assumption) | apply below_later | apply below_alloc | apply below_drew | apply below_drewN)))
                  | ((go_at_call 10; with_reducible refine Calls.mono (Gives.calls (RV.out _ (by repeat (first | exact Below.refl _ _ | (with_reducible assumption) | apply below_later | apply below_alloc | apply below_drew | apply below_drewN)))) ?_; rintro e w1 ⟨rfl, z5, rfl⟩); obtain ⟨⟨p0, p1, p2, p3, p4⟩, q0, q1, q2, q3⟩ := TB.out z5.val (by repeat (first | exact Below.refl _ _ | (with_reducible assumption) | apply below_later | apply below_alloc | apply below_drew | apply below_drewN)))
                  | (go_at_call 12; with_reducible refine Calls.mono (C3.out _ (by repeat (first | exact Below.refl _ _ | (with_reducible assumption) | apply below_later | apply below_alloc | apply below_drew | apply below_drewN))) ?_; rintro e w1 ⟨v, S6, rfl, z6, rfl, ho6, hS6⟩; have e6 : natN (filt S6 n) = natN (filt S n) := filt_same (fun i hi => (hS6 i hi).trans (HS5.out i hi).symm); rw [e6] at ho6; obtain ⟨A6, c6, rfl⟩ := ho6.shape_n (n := lm) HLM.out; have HI6 := Lib.hid (show IsInts z6.val A6 lm (fun i => (natN (filt S n)).getD i 0) from (ho6.ints (by rw [HLM.out]; omega)).2); clear ho6 hS6 e6)
                  | ((go_at_call 11; with_reducible refine Calls.mono (Gives.calls (SI.out z6.val A5 A6 c5 c6 lm _ (by omega) (HI5.out.later ⟨z6.val, by repeat (first | exact Below.refl _ _ | (with_reducible assumption) | apply below_later | apply below_alloc | apply below_drew | apply below_drewN)⟩) HI6.out)) ?_; rintro e w1 ⟨rfl, z7, rfl⟩); obtain ⟨⟨p0, p1, p2, p3, p4⟩, q0, q1, q2, q3⟩ := TB.out z7.val (by repeat (first | exact Below.refl _ _ | (with_reducible assumption) | apply below_later | apply below_alloc | apply below_drew | apply below_drewN)))
                  | ((go_at_call 13; with_reducible refine Calls.mono (Gives.calls (RA.out _ (by repeat (first | exact Below.refl _ _ | (with_reducible assumption) | apply below_later | apply below_alloc | apply below_drew | apply below_drewN)))) ?_; rintro e w1 ⟨rfl, z8, rfl⟩); obtain ⟨⟨p0, p1, p2, p3, p4⟩, q0, q1, q2, q3⟩ := TB.out z8.val (by repeat (first | exact Below.refl _ _ | (with_reducible assumption) | apply below_later | apply below_alloc | apply below_drew | apply below_drewN)))
                  | (go_at_call 14; with_reducible refine Calls.mono (Gives.calls (RH.out _ (by repeat (first | exact Below.refl _ _ | (with_reducible assumption) | apply below_later | apply below_alloc | apply below_drew | apply below_drewN)))) ?_; rintro e w1 ⟨rfl, z9, rfl⟩)
                  | (go_at_call 7; with_reducible refine Calls.mono (Gives.calls (F1.out _)) ?_; rintro e w1 ⟨rfl, z4, rfl⟩))
                go_ret
                exact ⟨rfl, later_of (by repeat (first | exact Below.refl _ _ | (with_reducible assumption) | apply below_later | apply below_alloc | apply below_drew | apply below_drewN))⟩
        · have C1 : Hid (∀ w', Below w.heap.size w w' → Gives Try.prog 8 #[.agg #[.int .i64 W, .int .i64 H, .slice A n cap, .slice B m capS], .int .i64 k] w' (.tuple #[.slice none 0 0, .int .i64 2])) := fun w' h => Ridge_arg W H n cap m capS A B f a s k w' (hp'.later ⟨w', h⟩) (hq'.later ⟨w', h⟩) hv hk
          have C2 : Hid (∀ w', Below w.heap.size w w' → Gives Try.prog 9 #[.agg #[.int .i64 W, .int .i64 H, .slice A n cap, .slice B m capS], .int .i64 k, .int .i64 N, .slice D c capR] w' (.tuple #[.bool false, .int .i64 2])) := fun w' h => Holds_arg W H n cap m capS c capR A B D f a s r k N w' (by omega) (hp'.later ⟨w', h⟩) (hq'.later ⟨w', h⟩) (hd'.later ⟨w', h⟩) hv (.inl hk)
          clear hp' hq' hd' hv
          by_cases hneg : k < 0
          · have d3 : decide (k < 0) = true := decide_eq_true hneg
            clear hk hneg
            go_enter Try.func3, Try.ntmps3
            go_wp2_with (first
              | ((go_at_call 6; with_reducible refine Calls.mono (Gives.calls (FW.out _)) ?_; rintro e w1 ⟨rfl, z1, rfl⟩); obtain ⟨⟨p0, p1, p2, p3, p4⟩, q0, q1, q2, q3⟩ := TB.out z1.val (by repeat (first | exact Below.refl _ _ | (with_reducible assumption) | apply below_later | apply below_alloc | apply below_drew | apply below_drewN)))
              | ((go_at_call 8; with_reducible refine Calls.mono (Gives.calls (C1.out _ (by repeat (first | exact Below.refl _ _ | (with_reducible assumption) | apply below_later | apply below_alloc | apply below_drew | apply below_drewN)))) ?_; rintro e w1 ⟨rfl, z2, rfl⟩); obtain ⟨⟨p0, p1, p2, p3, p4⟩, q0, q1, q2, q3⟩ := TB.out z2.val (by repeat (first | exact Below.refl _ _ | (with_reducible assumption) | apply below_later | apply below_alloc | apply below_drew | apply below_drewN)))
              | ((go_at_call 9; with_reducible refine Calls.mono (Gives.calls (C2.out _ (by repeat (first | exact Below.refl _ _ | (with_reducible assumption) | apply below_later | apply below_alloc | apply below_drew | apply below_drewN)))) ?_; rintro e w1 ⟨rfl, z3, rfl⟩); obtain ⟨⟨p0, p1, p2, p3, p4⟩, q0, q1, q2, q3⟩ := TB.out z3.val (by repeat (first | exact Below.refl _ _ | (with_reducible assumption) | apply below_later | apply below_alloc | apply below_drew | apply below_drewN)))
              | ((go_at_call 10; with_reducible refine Calls.mono (Gives.calls (RV.out _ (by repeat (first | exact Below.refl _ _ | (with_reducible assumption) | apply below_later | apply below_alloc | apply below_drew | apply below_drewN)))) ?_; rintro e w1 ⟨rfl, z5, rfl⟩); obtain ⟨⟨p0, p1, p2, p3, p4⟩, q0, q1, q2, q3⟩ := TB.out z5.val (by repeat (first | exact Below.refl _ _ | (with_reducible assumption) | apply below_later | apply below_alloc | apply below_drew | apply below_drewN)))
              | (go_at_call 7; with_reducible refine Calls.mono (Gives.calls (F1.out _)) ?_; rintro e w1 ⟨rfl, z4, rfl⟩))
            go_ret
            exact ⟨rfl, later_of (by repeat (first | exact Below.refl _ _ | (with_reducible assumption) | apply below_later | apply below_alloc | apply below_drew | apply below_drewN))⟩
          · have d3 : decide (k < 0) = false := decide_eq_false hneg
            have d4 : decide ((n : Int) ≤ k) = true := decide_eq_true (by omega)
            clear hk hneg
            go_enter Try.func3, Try.ntmps3
            go_wp2_with (first
              | ((go_at_call 6; with_reducible refine Calls.mono (Gives.calls (FW.out _)) ?_; rintro e w1 ⟨rfl, z1, rfl⟩); obtain ⟨⟨p0, p1, p2, p3, p4⟩, q0, q1, q2, q3⟩ := TB.out z1.val (by repeat (first | exact Below.refl _ _ | (with_reducible assumption) | apply below_later | apply below_alloc | apply below_drew | apply below_drewN)))
              | ((go_at_call 8; with_reducible refine Calls.mono (Gives.calls (C1.out _ (by repeat (first | exact Below.refl _ _ | (with_reducible assumption) | apply below_later | apply below_alloc | apply below_drew | apply below_drewN)))) ?_; rintro e w1 ⟨rfl, z2, rfl⟩); obtain ⟨⟨p0, p1, p2, p3, p4⟩, q0, q1, q2, q3⟩ := TB.out z2.val (by repeat (first | exact Below.refl _ _ | (with_reducible assumption) | apply below_later | apply below_alloc | apply below_drew | apply below_drewN)))
              | ((go_at_call 9; with_reducible refine Calls.mono (Gives.calls (C2.out _ (by repeat (first | exact Below.refl _ _ | (with_reducible assumption) | apply below_later | apply below_alloc | apply below_drew | apply below_drewN)))) ?_; rintro e w1 ⟨rfl, z3, rfl⟩); obtain ⟨⟨p0, p1, p2, p3, p4⟩, q0, q1, q2, q3⟩ := TB.out z3.val (by repeat (first | exact Below.refl _ _ | (with_reducible assumption) | apply below_later | apply below_alloc | apply below_drew | apply below_drewN)))
              | ((go_at_call 10; with_reducible refine Calls.mono (Gives.calls (RV.out _ (by repeat (first | exact Below.refl _ _ | (with_reducible assumption) | apply below_later | apply below_alloc | apply below_drew | apply below_drewN)))) ?_; rintro e w1 ⟨rfl, z5, rfl⟩); obtain ⟨⟨p0, p1, p2, p3, p4⟩, q0, q1, q2, q3⟩ := TB.out z5.val (by repeat (first | exact Below.refl _ _ | (with_reducible assumption) | apply below_later | apply below_alloc | apply below_drew | apply below_drewN)))
              | (go_at_call 7; with_reducible refine Calls.mono (Gives.calls (F1.out _)) ?_; rintro e w1 ⟨rfl, z4, rfl⟩))
            go_ret
            exact ⟨rfl, later_of (by repeat (first | exact Below.refl _ _ | (with_reducible assumption) | apply below_later | apply below_alloc | apply below_drew | apply below_drewN))⟩
end Go.Proofs.Ytelfinjnbncnlaa
