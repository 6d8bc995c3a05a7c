/- SluiceSettles: the walk. -/
import Derived.Test.YtmhcjgcnanfpeaaSAfterLaw
import Derived.Test.YtmhcjgcnanfpeaaSLost
namespace Go.Proofs.Ytmhcjgcnanfpeaa
open Go.RowKit

theorem settled_all {n : Nat} {b : List Int} (hl : b.length = n) (h : ∀ j, j < n → b.getD j 0 < 4) (j : Nat) : b.getD j 0 < 4 := by
  rcases Nat.lt_or_ge j n with h1 | h1
  · exact h j h1
  · rw [List.getD_eq_getElem?_getD, List.getElem?_eq_none (by omega)]; decide
theorem SV.low {W H n : Nat} {b o : List Int} (h : SV W H n b o) (h2 : ∀ j, j < n → b.getD j 0 < 4) : ∀ i, i < n → 0 ≤ b.getD i 0 ∧ b.getD i 0 ≤ 100 := fun i hi =>
  ⟨h.nb i (by rw [h.lb]; exact hi), by have := h2 i hi; omega⟩
set_option maxRecDepth 100000 in
set_option maxHeartbeats 3200000 in
theorem settles_law (W H : Int) (A : Option Addr) (n cap : Nat) (f : Nat → Int) (w : World) (hp : n ≤ 9223372036854775807 → IsInts w A n f) (hn1 : n ≤ maxLen) :
    Gives Try.prog 8 #[.agg #[.int .i64 W, .int .i64 H, .slice A n cap]] w (.bool true) := by
  have F1 : Hid (∀ w, Gives Try.prog 16 #[] w (.bool true)) := first_any
  have hnb : n ≤ 9223372036854775807 := by unfold maxLen at hn1; omega
  have hp' := hp hnb
  clear hp hn1
  by_cases h36 : n ≤ 36
  · have FW : Hid (∀ w, Gives Try.prog 41 #[.agg #[.int .i64 W, .int .i64 H, .slice A n cap]] w (.bool true)) := fun w => by
      have h := few_any W H A n cap w
      rwa [decide_eq_true h36] at h
    cases hv : bucketsB W H n f
    · have C1 : Hid (∀ w', IsInts w' A n f → Gives Try.prog 42 #[.int .i64 W, .int .i64 H, .slice A n cap] w' (.tuple #[.slice none 0 0, .slice none 0 0, .int .i64 31])) := fun w' h => settle_bad W H n cap A f w' h hv
      have C3 : Hid (∀ w', IsInts w' A n f → Gives Try.prog 43 #[.int .i64 W, .int .i64 H, .slice A n cap] w' (.tuple #[.int .i64 0, .int .i64 31])) := fun w' h => lost_bad W H n cap A f w' h hv
      have C2 : Hid (∀ w', IsInts w' A n f → Gives Try.prog 44 #[.int .i64 W, .int .i64 H, .slice A n cap] w' (.bool false)) := fun w' h => hv ▸ rbuckets_any W H A n cap f w' h
      have HP := Lib.hid hp'
      clear hv hp'
      go_enter Try.func8, Try.ntmps8
      go_wp2_with (first
        | (go_at_call 41; (first | (with_reducible show Calls _ _ _ (Later.val _) _; with_reducible refine Calls.mono (Later.call _ (FW.out _)) ?_) | (with_reducible refine Calls.mono (Gives.calls (FW.out _)) ?_)); rintro e w1 ⟨rfl, z1, rfl⟩)
        | (go_at_call 42; (first | (with_reducible show Calls _ _ _ (Later.val _) _; with_reducible refine Calls.mono (Later.call _ (C1.out _ (HP.out.later ⟨_, by repeat (first | exact Below.refl _ _ | (with_reducible assumption) | apply below_later | apply below_alloc | apply below_drew | apply below_drewN)⟩))) ?_) | (with_reducible refine Calls.mono (Gives.calls (C1.out _ (HP.out.later ⟨_, by repeat (first | exact Below.refl _ _ | (with_reducible assumption) | apply below_later | apply below_alloc | apply below_drew | apply below_drewN)⟩))) ?_)); rintro e w1 ⟨rfl, z2, rfl⟩)
        | (go_at_call 43; (first | (with_reducible show Calls _ _ _ (Later.val _) _; with_reducible refine Calls.mono (Later.call _ (C3.out _ (HP.out.later ⟨_, by repeat (first | exact Below.refl _ _ | (with_reducible assumption) | apply below_later | apply below_alloc | apply below_drew | apply below_drewN)⟩))) ?_) | (with_reducible refine Calls.mono (Gives.calls (C3.out _ (HP.out.later ⟨_, by repeat (first | exact Below.refl _ _ | (with_reducible assumption) | apply below_later | apply below_alloc | apply below_drew | apply below_drewN)⟩))) ?_)); rintro e w1 ⟨rfl, z5, rfl⟩)
        | (go_at_call 44; (first | (with_reducible show Calls _ _ _ (Later.val _) _; with_reducible refine Calls.mono (Later.call _ (C2.out _ (HP.out.later ⟨_, by repeat (first | exact Below.refl _ _ | (with_reducible assumption) | apply below_later | apply below_alloc | apply below_drew | apply below_drewN)⟩))) ?_) | (with_reducible refine Calls.mono (Gives.calls (C2.out _ (HP.out.later ⟨_, by repeat (first | exact Below.refl _ _ | (with_reducible assumption) | apply below_later | apply below_alloc | apply below_drew | apply below_drewN)⟩))) ?_)); rintro e w1 ⟨rfl, z3, rfl⟩)
        | (go_at_call 16; (first | (with_reducible show Calls _ _ _ (Later.val _) _; with_reducible refine Calls.mono (Later.call _ (F1.out _)) ?_) | (with_reducible refine Calls.mono (Gives.calls (F1.out _)) ?_)); rintro e w1 ⟨rfl, z4, rfl⟩))
      go_ret
      exact ⟨rfl, later_of (by repeat (first | exact Below.refl _ _ | (with_reducible assumption) | apply below_later | apply below_alloc | apply below_drew | apply below_drewN))⟩
    · obtain ⟨⟨⟨a1, a2⟩, a3, a4⟩, a5, hf⟩ := buckets_facts hv
      obtain ⟨W', rfl⟩ : ∃ x : Nat, W = x := ⟨W.toNat, by omega⟩
      obtain ⟨H', rfl⟩ : ∃ x : Nat, H = x := ⟨H.toNat, by omega⟩
      have hn : n = W' * H' := by rw [← Int.natCast_mul] at a5; omega
      have hn1 : 1 ≤ n := by rw [hn]; exact Nat.mul_le_mul (show 1 ≤ W' by omega) (show 1 ≤ H' by omega)
      obtain ⟨b, off, rfl, p⟩ := hp'.at_ hn1
      obtain ⟨L0, hL0⟩ : ∃ L0, ((List.range n).map f, List.replicate n (0 : Int)) = L0 := ⟨_, rfl⟩
      have C2 : Hid (∀ w', IsInts w' (some ⟨b, off, none⟩) n f → Gives Try.prog 44 #[.int .i64 W', .int .i64 H', .slice (some ⟨b, off, none⟩) n cap] w' (.bool true)) := fun w' h => hv ▸ rbuckets_any W' H' _ n cap f w' h
      have ST : Hid (∀ w', Below w.heap.size w w' → Calls Try.prog 42 #[.int .i64 W', .int .i64 H', .slice (some ⟨b, off, none⟩) n cap] w' fun e w'' => ∃ v1 v2 bb o k, e = .returned (.tuple #[v1, v2, .int .i64 0]) ∧ ∃ x : Later w', w'' = x.val ∧ OwnI w'' w'.heap.size v1 bb ∧ OwnI w'' w'.heap.size v2 o ∧ (bb, o) = passes W' H' n L0 k ∧ (∀ j, j < n → bb.getD j 0 < 4) ∧ SV W' H' n bb o) := fun w' h => by
        subst hL0
        exact Settle_ok W' H' n cap (some ⟨b, off, none⟩) f w' (hp'.later ⟨w', h⟩) hv
      have LOST : Hid (∀ w' bb o k, (bb, o) = passes W' H' n L0 k → (∀ j, j < n → bb.getD j 0 < 4) → SV W' H' n bb o → Below w.heap.size w w' → Gives Try.prog 43 #[.int .i64 W', .int .i64 H', .slice (some ⟨b, off, none⟩) n cap] w' (.tuple #[.int .i64 (sumN f n - sumN (fun i => bb.getD i 0) n), .int .i64 0])) := fun w' bb o k h1 h2 h3 h4 => by
        subst hL0
        refine Calls.mono (lost_ok W' H' n cap (some ⟨b, off, none⟩) f w' (hp'.later ⟨w', h4⟩) hv) ?_
        rintro e w'' h
        obtain ⟨b2, o2, k2, rfl, hx, r1, r2, r3⟩ := h
        have e := passes_unique r1 h1 (settled_all r3.lb r2) (settled_all h3.lb h2)
        obtain ⟨rfl, rfl⟩ := Prod.mk.inj e
        exact ⟨rfl, hx⟩
      have RS : Hid (∀ w' bb o k, (bb, o) = passes W' H' n L0 k → (∀ j, j < n → bb.getD j 0 < 4) → SV W' H' n bb o → Below w.heap.size w w' → Calls Try.prog 45 #[.int .i64 W', .int .i64 H', .slice (some ⟨b, off, none⟩) n cap] w' fun e w'' => ∃ v1 v2, e = .returned (.tuple #[v1, v2]) ∧ ∃ x : Later w', w'' = x.val ∧ OwnI w'' w'.heap.size v1 bb ∧ OwnI w'' w'.heap.size v2 o) := fun w' bb o k h1 h2 h3 h4 => by
        subst hL0
        refine Calls.mono (rsettle_any W' H' n cap b off f w' (by omega) (by omega) (by omega) (by omega) hn (p.later ⟨w', h4⟩) hf) ?_
        rintro e w'' h
        obtain ⟨v1, v2, b2, o2, k2, rfl, x, rfl, h5, h6, r1, r2, r3⟩ := h
        have e := passes_unique r1 h1 (settled_all r3.lb r2) (settled_all h3.lb h2)
        obtain ⟨rfl, rfl⟩ := Prod.mk.inj e
        exact ⟨v1, v2, rfl, x, rfl, h5, h6⟩
      have SI : Hid (∀ (l : List Int) (w' : World) (A B : Option Addr) (c1 c2 : Nat), IsInts w' A n (fun i => l.getD i 0) → IsInts w' B n (fun i => l.getD i 0) → Gives Try.prog 22 #[.slice A n c1, .slice B n c2] w' (.bool true)) := fun l w' A B c1 c2 h1 h2 => same_ints A B n c1 c2 _ _ w' (by omega) h1 h2 fun _ _ => rfl
      have SM : Hid (∀ w', IsInts w' (some ⟨b, off, none⟩) n f → Gives Try.prog 46 #[.slice (some ⟨b, off, none⟩) n cap] w' (.int .i64 (sumN f n))) := fun w' h => rsum_any _ n cap f w' (by omega) h hf
      have SM2 : Hid (∀ w' A c l, IsInts w' A n (fun i => (l : List Int).getD i 0) → (∀ i, i < n → 0 ≤ l.getD i 0 ∧ l.getD i 0 ≤ 100) → Gives Try.prog 46 #[.slice A n c] w' (.int .i64 (sumN (fun i => l.getD i 0) n))) := fun w' A c l h h2 => rsum_any A n c _ w' (by omega) h h2
      have lo1 := sumN_low (f := f) (n := n) (c := 100) (fun i hi => by have := hf i hi; omega) n (Nat.le_refl _)
      have BX : Hid (∀ V, Below (w.alloc (.cells #[.int .i64 W', .int .i64 H', .slice (some ⟨b, off, none⟩) n cap] 54)).heap.size (w.alloc (.cells #[.int .i64 W', .int .i64 H', .slice (some ⟨b, off, none⟩) n cap] 54)) V → V.cell? ⟨w.heap.size, 0, none⟩ = some (.int .i64 W') ∧ V.cell? ⟨w.heap.size, 1, none⟩ = some (.int .i64 H') ∧ V.cell? ⟨w.heap.size, 2, none⟩ = some (.slice (some ⟨b, off, none⟩) n cap)) := fun V h =>
        ⟨(Later.cell ⟨V, h⟩ _ _ (by simp)).trans (cell_of_heap (World.alloc_heap_new _ _) 0 _ rfl), (Later.cell ⟨V, h⟩ _ _ (by simp)).trans (cell_of_heap (World.alloc_heap_new _ _) 1 _ rfl), (Later.cell ⟨V, h⟩ _ _ (by simp)).trans (cell_of_heap (World.alloc_heap_new _ _) 2 _ rfl)⟩
      have HP := Lib.hid hp'
      clear hv hp' hf a5 hn p hL0
      generalize hs1 : sumN f n = s1 at *
      clear hs1
      go_enter Try.func8, Try.ntmps8
      go_wp2_with (first
        | (go_at_call 41; (first | (with_reducible show Calls _ _ _ (Later.val _) _; with_reducible refine Calls.mono (Later.call _ (FW.out _)) ?_) | (with_reducible refine Calls.mono (Gives.calls (FW.out _)) ?_)); rintro e w1 ⟨rfl, z1, rfl⟩)
        | (go_at_call 42; with_reducible refine Calls.mono (ST.out _ (by repeat (first | exact Below.refl _ _ | (with_reducible assumption) | apply below_later | apply below_alloc | apply below_drew | apply below_drewN))) ?_; rintro e w1 ⟨v1, v2, bb, o, k, rfl, z2, rfl, h1, h2, r1, r2, r3⟩; obtain ⟨A1, cap1, rfl⟩ := h1.shape_n (n := n) r3.lb; obtain ⟨A2, cap2, rfl⟩ := h2.shape_n (n := n) r3.lo; have HI1 := Lib.hid (h1.ints (by rw [r3.lb]; omega)).2; have HI2 := Lib.hid (h2.ints (by rw [r3.lo]; omega)).2; have BD := Lib.hid (r3.low r2); have lo2 := sumN_low (f := fun i => bb.getD i 0) (n := n) (c := 100) (fun i hi => by have := BD.out i hi; omega) n (Nat.le_refl _); have LS := Lib.hid (show ∀ w', Below w.heap.size w w' → Gives Try.prog 43 #[.int .i64 W', .int .i64 H', .slice (some ⟨b, off, none⟩) n cap] w' (.tuple #[.int .i64 (s1 - sumN (fun i => bb.getD i 0) n), .int .i64 0]) from fun w' h => LOST.out w' bb o k r1 r2 r3 h); have RS2 := Lib.hid (fun w' h => RS.out w' bb o k r1 r2 r3 h); have LB := Lib.hid r3.lb; have LOO := Lib.hid r3.lo; have SM3 := Lib.hid (fun w' A c h => SM2.out w' A c bb h BD.out); clear h1 h2 r1 r2 r3; generalize sumN (fun i => bb.getD i 0) n = s2 at *)
        | (go_at_call 43; with_reducible refine Calls.mono (Gives.calls (LS.out _ (by repeat (first | exact Below.refl _ _ | (with_reducible assumption) | apply below_later | apply below_alloc | apply below_drew | apply below_drewN)))) ?_; rintro e w1 ⟨rfl, z3, rfl⟩; obtain ⟨bz30, bz31, bz32⟩ := BX.out z3.val (by repeat (first | exact Below.refl _ _ | (with_reducible assumption) | apply below_later | apply below_alloc | apply below_drew | apply below_drewN)))
        | (go_at_call 44; with_reducible refine Calls.mono (Gives.calls (C2.out _ (HP.out.later ⟨_, by repeat (first | exact Below.refl _ _ | (with_reducible assumption) | apply below_later | apply below_alloc | apply below_drew | apply below_drewN)⟩))) ?_; rintro e w1 ⟨rfl, z4, rfl⟩; obtain ⟨bz40, bz41, bz42⟩ := BX.out z4.val (by repeat (first | exact Below.refl _ _ | (with_reducible assumption) | apply below_later | apply below_alloc | apply below_drew | apply below_drewN)))
        | (go_at_call 45; with_reducible refine Calls.mono (RS2.out _ (by repeat (first | exact Below.refl _ _ | (with_reducible assumption) | apply below_later | apply below_alloc | apply below_drew | apply below_drewN))) ?_; rintro e w1 ⟨v3, v4, rfl, z5, rfl, h3, h4⟩; obtain ⟨A3, cap3, rfl⟩ := h3.shape_n (n := n) LB.out; obtain ⟨A4, cap4, rfl⟩ := h4.shape_n (n := n) LOO.out; have HI3 := Lib.hid (h3.ints (by rw [LB.out]; omega)).2; have HI4 := Lib.hid (h4.ints (by rw [LOO.out]; omega)).2; clear h3 h4)
        | (go_at_call 22; with_reducible refine Calls.mono (Gives.calls (SI.out bb _ _ _ _ _ (HI1.out.later ⟨_, by repeat (first | exact Below.refl _ _ | (with_reducible assumption) | apply below_later | apply below_alloc | apply below_drew | apply below_drewN)⟩) (HI3.out.later ⟨_, by repeat (first | exact Below.refl _ _ | (with_reducible assumption) | apply below_later | apply below_alloc | apply below_drew | apply below_drewN)⟩))) ?_; rintro e w3 ⟨rfl, z6, rfl⟩)
        | (go_at_call 22; with_reducible refine Calls.mono (Gives.calls (SI.out o _ _ _ _ _ (HI2.out.later ⟨_, by repeat (first | exact Below.refl _ _ | (with_reducible assumption) | apply below_later | apply below_alloc | apply below_drew | apply below_drewN)⟩) (HI4.out.later ⟨_, by repeat (first | exact Below.refl _ _ | (with_reducible assumption) | apply below_later | apply below_alloc | apply below_drew | apply below_drewN)⟩))) ?_; rintro e w3 ⟨rfl, z7, rfl⟩; obtain ⟨bz70, bz71, bz72⟩ := BX.out z7.val (by repeat (first | exact Below.refl _ _ | (with_reducible assumption) | apply below_later | apply below_alloc | apply below_drew | apply below_drewN)))
        | (go_at_call 46; with_reducible refine Calls.mono (Gives.calls (SM.out _ (HP.out.later ⟨_, by repeat (first | exact Below.refl _ _ | (with_reducible assumption) | apply below_later | apply below_alloc | apply below_drew | apply below_drewN)⟩))) ?_; rintro e w1 ⟨rfl, y1, rfl⟩)
        | (go_at_call 46; with_reducible refine Calls.mono (Gives.calls (SM3.out _ _ _ (HI3.out.later ⟨_, by repeat (first | exact Below.refl _ _ | (with_reducible assumption) | apply below_later | apply below_alloc | apply below_drew | apply below_drewN)⟩))) ?_; rintro e w1 ⟨rfl, y2, rfl⟩)
        | (go_at_call 16; (first | (with_reducible show Calls _ _ _ (Later.val _) _; with_reducible refine Calls.mono (Later.call _ (F1.out _)) ?_) | (with_reducible refine Calls.mono (Gives.calls (F1.out _)) ?_)); rintro e w1 ⟨rfl, z9, rfl⟩))
      go_ret
      exact ⟨rfl, later_of (by repeat (first | exact Below.refl _ _ | (with_reducible assumption) | apply below_later | apply below_alloc | apply below_drew | apply below_drewN))⟩
  · have FW : Hid (∀ w, Gives Try.prog 41 #[.agg #[.int .i64 W, .int .i64 H, .slice A n cap]] w (.bool false)) := fun w => by
      have h := few_any W H A n cap w
      rwa [decide_eq_false h36] at h
    clear hp'
    go_enter Try.func8, Try.ntmps8
    go_wp2_with (first
      | (go_at_call 41; (first | (with_reducible show Calls _ _ _ (Later.val _) _; with_reducible refine Calls.mono (Later.call _ (FW.out _)) ?_) | (with_reducible refine Calls.mono (Gives.calls (FW.out _)) ?_)); rintro e w1 ⟨rfl, z1, rfl⟩)
      | (go_at_call 16; (first | (with_reducible show Calls _ _ _ (Later.val _) _; with_reducible refine Calls.mono (Later.call _ (F1.out _)) ?_) | (with_reducible refine Calls.mono (Gives.calls (F1.out _)) ?_)); rintro e w1 ⟨rfl, z4, rfl⟩))
    go_ret
    exact ⟨rfl, later_of (by repeat (first | exact Below.refl _ _ | (with_reducible assumption) | apply below_later | apply below_alloc | apply below_drew | apply below_drewN))⟩
end Go.Proofs.Ytmhcjgcnanfpeaa
