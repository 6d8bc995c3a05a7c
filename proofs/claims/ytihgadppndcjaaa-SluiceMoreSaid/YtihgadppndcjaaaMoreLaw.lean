/- SluiceMore: the walk. -/
import Derived.Test.YtihgadppndcjaaaSFirst
import Derived.Test.YtihgadppndcjaaaSMore
namespace Go.Proofs.Ytihgadppndcjaaa
open Go.RowKit

set_option maxRecDepth 100000 in
set_option maxHeartbeats 3200000 in
theorem more_law (W H : Int) (A : Option Addr) (n cap : Nat) (f : Nat → Int) (u : Int) (w : World) (hp : n ≤ 9223372036854775807 → IsInts w A n f) (hn1 : n ≤ maxLen) (u0 : 0 ≤ u) (u1 : u < 256) :
    Gives Try.prog 12 #[.agg #[.int .i64 W, .int .i64 H, .slice A n cap], .int .u8 u] w (.bool true) := by
  have F1 : Hid (∀ w, Gives Try.prog 16 #[] w (.bool true)) := first_any
  have hnb : n ≤ 9223372036854775807 := by unfold maxLen at hn1; omega
  have hp' := hp hnb
  clear hp hn1
  by_cases h36 : n ≤ 36
  · have FW : Hid (∀ w, Gives Try.prog 41 #[.agg #[.int .i64 W, .int .i64 H, .slice A n cap]] w (.bool true)) := fun w => by
      have h := few_any W H A n cap w
      rwa [decide_eq_true h36] at h
    cases hv : bucketsB W H n f
    · have C2 : Hid (∀ w', IsInts w' A n f → Gives Try.prog 44 #[.int .i64 W, .int .i64 H, .slice A n cap] w' (.bool false)) := fun w' h => hv ▸ rbuckets_any W H A n cap f w' h
      have HP := Lib.hid hp'
      clear hv hp'
      go_enter Try.func12, Try.ntmps12
      go_wp2_with (first
        | (go_at_call 41; (first | (with_reducible show Calls _ _ _ (Later.val _) _; with_reducible refine Calls.mono (Later.call _ (FW.out _)) ?_) | (with_reducible refine Calls.mono (Gives.calls (FW.out _)) ?_)); rintro e w1 ⟨rfl, z1, rfl⟩)
        | (go_at_call 44; (first | (with_reducible show Calls _ _ _ (Later.val _) _; with_reducible refine Calls.mono (Later.call _ (C2.out _ (HP.out.later ⟨_, by repeat (first | exact Below.refl _ _ | (with_reducible assumption) | apply below_later | apply below_alloc | apply below_drew | apply below_drewN)⟩))) ?_) | (with_reducible refine Calls.mono (Gives.calls (C2.out _ (HP.out.later ⟨_, by repeat (first | exact Below.refl _ _ | (with_reducible assumption) | apply below_later | apply below_alloc | apply below_drew | apply below_drewN)⟩))) ?_)); rintro e w1 ⟨rfl, z3, rfl⟩)
        | (go_at_call 16; (first | (with_reducible show Calls _ _ _ (Later.val _) _; with_reducible refine Calls.mono (Later.call _ (F1.out _)) ?_) | (with_reducible refine Calls.mono (Gives.calls (F1.out _)) ?_)); rintro e w1 ⟨rfl, z4, rfl⟩))
      go_ret
      exact ⟨rfl, later_of (by repeat (first | exact Below.refl _ _ | (with_reducible assumption) | apply below_later | apply below_alloc | apply below_drew | apply below_drewN))⟩
    · obtain ⟨⟨⟨a1, a2⟩, a3, a4⟩, a5, hf⟩ := buckets_facts hv
      obtain ⟨W', rfl⟩ : ∃ x : Nat, W = x := ⟨W.toNat, by omega⟩
      obtain ⟨H', rfl⟩ : ∃ x : Nat, H = x := ⟨H.toNat, by omega⟩
      have hn : n = W' * H' := by rw [← Int.natCast_mul] at a5; omega
      have hn1 : 1 ≤ n := by rw [hn]; exact Nat.mul_le_mul (show 1 ≤ W' by omega) (show 1 ≤ H' by omega)
      obtain ⟨b, off, rfl, p⟩ := hp'.at_ hn1
      have C2 : Hid (∀ w', IsInts w' (some ⟨b, off, none⟩) n f → Gives Try.prog 44 #[.int .i64 W', .int .i64 H', .slice (some ⟨b, off, none⟩) n cap] w' (.bool true)) := fun w' h => hv ▸ rbuckets_any W' H' _ n cap f w' h
      have ST : Hid (∀ w', Below w.heap.size w w' → Calls Try.prog 42 #[.int .i64 W', .int .i64 H', .slice (some ⟨b, off, none⟩) n cap] w' fun e w'' => ∃ v1 v2 bb o, e = .returned (.tuple #[v1, v2, .int .i64 0]) ∧ ∃ x : Later w', w'' = x.val ∧ OwnI w'' w'.heap.size v1 bb ∧ OwnI w'' w'.heap.size v2 o ∧ Rests W' H' n f bb o) := fun w' h =>
        settle_rests W' H' n cap (some ⟨b, off, none⟩) f w' (hp'.later ⟨w', h⟩) hv
      have LOST : Hid (∀ w' bb o, Rests W' H' n f bb o → Below w.heap.size w w' → Gives Try.prog 43 #[.int .i64 W', .int .i64 H', .slice (some ⟨b, off, none⟩) n cap] w' (.tuple #[.int .i64 (sumN f n - sumN (fun i => bb.getD i 0) n), .int .i64 0])) := fun w' bb o h1 h4 =>
        lost_rests W' H' n cap (some ⟨b, off, none⟩) f w' (hp'.later ⟨w', h4⟩) hv h1
      have AG : Hid (∀ w' A1 c1 bb o, Rests W' H' n f bb o → IsInts w' A1 n (fun i => bb.getD i 0) → Calls Try.prog 42 #[.int .i64 W', .int .i64 H', .slice A1 n c1] w' fun e w'' => ∃ v1 v2, e = .returned (.tuple #[v1, v2, .int .i64 0]) ∧ ∃ x : Later w', w'' = x.val ∧ OwnI w'' w'.heap.size v1 bb ∧ OwnI w'' w'.heap.size v2 (List.replicate n 0)) := fun w' A1 c1 bb o r h =>
        settle_again W' H' n c1 A1 bb w' r.lin.lb h r.nb (buckets_true (by omega) (by omega) (by omega) (by omega) hn fun i hi => by have := r.nb i hi; omega)
      have SI : Hid (∀ (l : List Int) (w' : World) (A B : Option Addr) (c1 c2 : Nat), IsInts w' A n (fun i => l.getD i 0) → IsInts w' B n (fun i => l.getD i 0) → Gives Try.prog 22 #[.slice A n c1, .slice B n c2] w' (.bool true)) := fun l w' A B c1 c2 h1 h2 => same_ints A B n c1 c2 _ _ w' (by omega) h1 h2 fun _ _ => rfl
      have SM : Hid (∀ w', IsInts w' (some ⟨b, off, none⟩) n f → Gives Try.prog 46 #[.slice (some ⟨b, off, none⟩) n cap] w' (.int .i64 (sumN f n))) := fun w' h => rsum_any _ n cap f w' (by omega) h hf
      have SM2 : Hid (∀ w' A c l, IsInts w' A n (fun i => (l : List Int).getD i 0) → (∀ i, i < n → 0 ≤ l.getD i 0 ∧ l.getD i 0 ≤ 100) → Gives Try.prog 46 #[.slice A n c] w' (.int .i64 (sumN (fun i => l.getD i 0) n))) := fun w' A c l h h2 => rsum_any A n c _ w' (by omega) h h2
      have SM0 : Hid (∀ w' A c, IsInts w' A n (fun i => (List.replicate n (0 : Int)).getD i 0) → Gives Try.prog 46 #[.slice A n c] w' (.int .i64 0)) := fun w' A c h => by
        have := SM2.out w' A c _ h fun i hi => by rw [rep_nil]; omega
        rwa [sum_none] at this
      have lo1 := sumN_low (f := f) (n := n) (c := 100) (fun i hi => by have := hf i hi; omega) n (Nat.le_refl _)
      have BX : Hid (∀ V, Below (w.alloc (.cells #[.int .i64 W', .int .i64 H', .slice (some ⟨b, off, none⟩) n cap] 54)).heap.size (w.alloc (.cells #[.int .i64 W', .int .i64 H', .slice (some ⟨b, off, none⟩) n cap] 54)) V → V.cell? ⟨w.heap.size, 0, none⟩ = some (.int .i64 W') ∧ V.cell? ⟨w.heap.size, 1, none⟩ = some (.int .i64 H') ∧ V.cell? ⟨w.heap.size, 2, none⟩ = some (.slice (some ⟨b, off, none⟩) n cap) ∧ w.heap.size < V.heap.size) := fun V h =>
        ⟨(Later.cell ⟨V, h⟩ _ _ (by simp)).trans (cell_of_heap (World.alloc_heap_new _ _) 0 _ rfl), (Later.cell ⟨V, h⟩ _ _ (by simp)).trans (cell_of_heap (World.alloc_heap_new _ _) 1 _ rfl), (Later.cell ⟨V, h⟩ _ _ (by simp)).trans (cell_of_heap (World.alloc_heap_new _ _) 2 _ rfl), by have := h.size; simp at this; omega⟩
      have HP := Lib.hid hp'
      have HF := Lib.hid hf
      have HN := Lib.hid hn
      have PP := Lib.hid p
      obtain ⟨i, hi, ei⟩ : ∃ i : Nat, i < n ∧ u % (n : Int) = i := ⟨(u % (n : Int)).toNat, by have := Int.emod_lt_of_pos u (show (0 : Int) < n by omega); have := Int.emod_nonneg u (show (n : Int) ≠ 0 by omega); omega, by have := Int.emod_nonneg u (show (n : Int) ≠ 0 by omega); omega⟩
      have HV := Lib.hid hv
      clear hv hp' hf a5 hn p
      generalize hs1 : sumN f n = s1 at *
      clear hs1
      go_enter Try.func12, Try.ntmps12
      go_wp2_with (first
        | (go_at_call 41; (first | (with_reducible show Calls _ _ _ (Later.val _) _; with_reducible refine Calls.mono (Later.call _ (FW.out _)) ?_) | (with_reducible refine Calls.mono (Gives.calls (FW.out _)) ?_)); rintro e w1 ⟨rfl, z1, rfl⟩)
        | (go_at_call 44; with_reducible refine Calls.mono (Gives.calls (C2.out _ (HP.out.later ⟨_, by repeat (first | exact Below.refl _ _ | (with_reducible assumption) | apply below_later | apply below_alloc | apply below_drew | apply below_drewN)⟩))) ?_; rintro e w1 ⟨rfl, z4, rfl⟩; obtain ⟨bz40, bz41, bz42, bz43⟩ := BX.out z4.val (by repeat (first | exact Below.refl _ _ | (with_reducible assumption) | apply below_later | apply below_alloc | apply below_drew | apply below_drewN)))
        | (go_at_call 42; with_reducible refine Calls.mono (ST.out _ (by repeat (first | exact Below.refl _ _ | (with_reducible assumption) | apply below_later | apply below_alloc | apply below_drew | apply below_drewN))) ?_; rintro e w1 ⟨v1, v2, bb, o, rfl, z2, rfl, h1, h2, r⟩; obtain ⟨A1, cap1, rfl⟩ := h1.shape_n (n := n) r.lin.lb; obtain ⟨A2, cap2, rfl⟩ := h2.shape_n (n := n) r.lin.lo; have HI1 := Lib.hid (h1.ints (by rw [r.lin.lb]; omega)).2; have HI2 := Lib.hid (h2.ints (by rw [r.lin.lo]; omega)).2; have lo2 := sumN_low (f := fun i => bb.getD i 0) (n := n) (c := 100) (fun i hi => by have := r.nb i hi; omega) n (Nat.le_refl _); have LS := Lib.hid (show ∀ w', Below w.heap.size w w' → Gives Try.prog 43 #[.int .i64 W', .int .i64 H', .slice (some ⟨b, off, none⟩) n cap] w' (.tuple #[.int .i64 (s1 - sumN (fun i => bb.getD i 0) n), .int .i64 0]) from fun w' h => LOST.out w' bb o r h); have AG2 := Lib.hid (fun w' A1 c1 h => AG.out w' A1 c1 bb o r h); have SM3 := Lib.hid (fun w' A c h => SM2.out w' A c bb h (fun i hi => by have := r.nb i hi; omega)); have RR := Lib.hid r; clear h1 h2 r; generalize sumN (fun i => bb.getD i 0) n = s2 at *; obtain ⟨bz20, bz21, bz22, bz23⟩ := BX.out z2.val (by repeat (first | exact Below.refl _ _ | (with_reducible assumption) | apply below_later | apply below_alloc | apply below_drew | apply below_drewN)))
        | (go_at_call 42; with_reducible refine Calls.mono (AG2.out _ _ _ (HI1.out.later ⟨_, by repeat (first | exact Below.refl _ _ | (with_reducible assumption) | apply below_later | apply below_alloc | apply below_drew | apply below_drewN)⟩)) ?_; rintro e w1 ⟨v3, v4, rfl, z3, rfl, h3, h4⟩; obtain ⟨A3, cap3, rfl⟩ := h3.shape_n (n := n) RR.out.lin.lb; obtain ⟨A4, cap4, rfl⟩ := h4.shape_n (n := n) (by simp); have HI3 := Lib.hid (h3.ints (by rw [RR.out.lin.lb]; omega)).2; have HI4 := Lib.hid (h4.ints (by simp; omega)).2; clear h3 h4; obtain ⟨bz30, bz31, bz32, bz33⟩ := BX.out z3.val (by repeat (first | exact Below.refl _ _ | (with_reducible assumption) | apply below_later | apply below_alloc | apply below_drew | apply below_drewN)))
        | (go_at_call 43; with_reducible refine Calls.mono (Gives.calls (LS.out _ (by repeat (first | exact Below.refl _ _ | (with_reducible assumption) | apply below_later | apply below_alloc | apply below_drew | apply below_drewN)))) ?_; rintro e w1 ⟨rfl, z5, rfl⟩; obtain ⟨bz50, bz51, bz52, bz53⟩ := BX.out z5.val (by repeat (first | exact Below.refl _ _ | (with_reducible assumption) | apply below_later | apply below_alloc | apply below_drew | apply below_drewN))))
      refine wp_region_later (by kernel_rfl) (by kernel_rfl) ?_
      repeat (go_big_quiet_step ((first | (go_at_call 22; (with_reducible refine Later.call _ (SI.out bb _ _ _ _ _ (HI3.out.later ⟨_, by repeat (first | exact Below.refl _ _ | (with_reducible assumption) | apply below_later | apply below_alloc | apply below_drew | apply below_drewN)⟩) (HI1.out.later ⟨_, by repeat (first | exact Below.refl _ _ | (with_reducible assumption) | apply below_later | apply below_alloc | apply below_drew | apply below_drewN)⟩)))) | (go_at_call 46; (with_reducible refine Later.call _ (SM0.out _ _ _ (HI4.out.later ⟨_, by repeat (first | exact Below.refl _ _ | (with_reducible assumption) | apply below_later | apply below_alloc | apply below_drew | apply below_drewN)⟩)))) | (go_at_call 46; (with_reducible refine Later.call _ (SM3.out _ _ _ (HI1.out.later ⟨_, by repeat (first | exact Below.refl _ _ | (with_reducible assumption) | apply below_later | apply below_alloc | apply below_drew | apply below_drewN)⟩)))) | (go_at_call 46; (with_reducible refine Later.call _ (SM.out _ (HP.out.later ⟨_, by repeat (first | exact Below.refl _ _ | (with_reducible assumption) | apply below_later | apply below_alloc | apply below_drew | apply below_drewN)⟩)))))))
      refine wpQuiet_nil ?_
      intro y6
      have P6 := PP.out.later ⟨y6.val, by repeat (first | exact Below.refl _ _ | (with_reducible assumption) | apply below_later | apply below_alloc | apply below_drew | apply below_drewN)⟩
      have cb := P6.at_ i hi
      have lb6 := P6.lt
      have HP6 := Lib.hid P6
      clear P6
      obtain ⟨bz60, bz61, bz62, bz63⟩ := BX.out y6.val (by repeat (first | exact Below.refl _ _ | (with_reducible assumption) | apply below_later | apply below_alloc | apply below_drew | apply below_drewN))
      have fi := HF.out i hi
      by_cases hmax : f i = 100
      · rw [hmax] at cb
        go_wp2_with (go_at_call 16; (first | (with_reducible show Calls _ _ _ (Later.val _) _; with_reducible refine Calls.mono (Later.call _ (F1.out _)) ?_) | (with_reducible refine Calls.mono (Gives.calls (F1.out _)) ?_)); rintro e w1 ⟨rfl, z9, rfl⟩)
        go_ret
        exact ⟨rfl, later_of (by repeat (first | exact Below.refl _ _ | (with_reducible assumption) | apply below_later | apply below_alloc | apply below_drew | apply below_drewN))⟩
      · have q3 : (f i == 100) = false := by simpa using hmax
        obtain ⟨i0, hi0, hz0, hz1, hz2⟩ := info_int
        have HNW : Hid (∀ V, Below y6.val.heap.size y6.val V → ∀ (j : Nat) (u : Value), (cellsI ((List.range n).map f))[j]? = some u → V.cell? ((⟨b, off, none⟩ : Addr).add j) = some u) := fun V h => ints_news (HP6.out.later ⟨V, h⟩)
        have OWN0 : Hid (∀ V : World, OwnI (V.alloc (.cells #[] 3)) V.heap.size (.slice (some ⟨V.heap.size, 0, none⟩) 0 0) []) := fun V => World.ownsRow_made V #[] 0 (Nat.le_refl _) (by unfold maxLen; omega) rfl
        go_wp2_with (at_builtin; refine wpList_append_own _ rfl _ _ 22 rfl _ 3 i0 (.int .i64 0) 1 8 Try.underlying22 hi0 hz0 hz1 hz2 rfl (by decide) _ _ _ rfl (OWN0.out _) ⟨b, off, none⟩ n cap (cellsI ((List.range n).map f)) rfl ?c1 (HNW.out _ (by repeat (first | exact Below.refl _ _ | (with_reducible assumption) | apply below_later | apply below_alloc | apply below_drew | apply below_drewN))) (cellsI_one _) ?c3 ?c4 ?c5 ?_)
        case c1 => rw [cellsI_length]; simp
        case c3 => simp only [maxLen]; omega
        case c4 => omega
        intro v' w1 hown2 hg1 _
        obtain ⟨b0, hb0⟩ : ∃ b0, (List.range n).map f = b0 := ⟨_, rfl⟩
        have hl0 : b0.length = n := by rw [← hb0]; simp
        have HOW : OwnI w1 y6.val.heap.size v' b0 := by
          unfold OwnI
          rw [hl0, ← hb0]
          exact hown2
        have hbel : Below y6.val.heap.size y6.val w1 := below_own (by repeat (first | exact Below.refl _ _ | (with_reducible assumption) | apply below_later | apply below_alloc | apply below_drew | apply below_drewN)) (OWN0.out y6.val) (Nat.le_refl _) hg1
        obtain ⟨g1, c1, hv', q1, q2, _⟩ := HOW.form hl0 (by omega)
        subst hv'
        obtain ⟨ci, fz⟩ := HOW.cell hl0 hi
        have e0 : b0.getD i 0 = f i := by rw [← hb0]; simp [List.getD_eq_getElem?_getD, hi]
        rw [e0] at ci
        have fzi := fz i
        have fi1 := fi.1
        have fi2 := fi.2
        have HOW9 := Lib.hid (HOW.set hl0 i (f i + 1))
        have hb9 : Below y6.val.heap.size y6.val (w1.setCell ⟨g1, i, none⟩ (.int .i64 (f i + 1))) := below_set hbel (by simpa using q1)
        have HL0 := Lib.hid hl0
        have HB0 := Lib.hid hb0
        have HE0 := Lib.hid e0
        clear HOW hown2 hg1 hb0 e0 fz hl0
        obtain ⟨bz90, bz91, bz92, bz93⟩ := BX.out (w1.setCell ⟨g1, i, none⟩ (.int .i64 (f i + 1))) (below_more (show Below _ _ y6.val from by repeat (first | exact Below.refl _ _ | (with_reducible assumption) | apply below_later | apply below_alloc | apply below_drew | apply below_drewN)) hb9)
        have HB9 := Lib.hid hb9
        clear hb9
        have HI9 := Lib.hid (HOW9.out.ints (by rw [List.length_set, HL0.out]; omega)).2
        have HG : Hid (∀ k, k < n → (b0.set i (f i + 1)).getD k 0 = if k = i then f i + 1 else f k) := fun k hk => by
          rw [getD_put (by rw [HL0.out]; exact hi)]
          by_cases c : k = i
          · rw [if_pos c, if_pos c]
          · rw [if_neg c, if_neg c, ← HB0.out]; simp [List.getD_eq_getElem?_getD, hk]
        have ST3 : Hid (∀ w', Below (w1.setCell ⟨g1, i, none⟩ (.int .i64 (f i + 1))).heap.size (w1.setCell ⟨g1, i, none⟩ (.int .i64 (f i + 1))) w' → Calls Try.prog 42 #[.int .i64 W', .int .i64 H', .slice (some ⟨g1, 0, none⟩) n c1] w' fun e w'' => ∃ v1 v2 b2 o2, e = .returned (.tuple #[v1, v2, .int .i64 0]) ∧ ∃ x : Later w', w'' = x.val ∧ OwnI w'' w'.heap.size v1 b2 ∧ OwnI w'' w'.heap.size v2 o2 ∧ Rests W' H' n (fun k => (b0.set i (f i + 1)).getD k 0) b2 o2) := fun w' h =>
          settle_rests W' H' n c1 (some ⟨g1, 0, none⟩) _ w' (HI9.out.later ⟨w', h⟩) (buckets_true (by omega) (by omega) (by omega) (by omega) HN.out fun k hk => by
            have := HF.out k hk
            have := HF.out i hi
            rw [HG.out k hk]; split <;> omega)
        go_wp2_with (go_at_call 42; with_reducible refine Calls.mono (ST3.out _ (Below.refl _ _)) ?_; rintro e w9 ⟨v5, v6, b2, o2, rfl, x9, rfl, h5, h6, r2⟩; obtain ⟨A5, cap5, rfl⟩ := h5.shape_n (n := n) r2.lin.lb; obtain ⟨A6, cap6, rfl⟩ := h6.shape_n (n := n) r2.lin.lo; have HI6 := Lib.hid (h6.ints (by rw [r2.lin.lo]; omega)).2; have R3 := Lib.hid r2; clear h5 h6 r2)
        have HM : Hid (∀ k, k < n → o.getD k 0 ≤ o2.getD k 0) := RR.out.more R3.out fun k hk => by
          rw [HG.out k hk]
          by_cases c : k = i
          · rw [if_pos c, c]; omega
          · rw [if_neg c]; exact Int.le_refl _
        have HN2 := Lib.hid (HI2.out.later ⟨x9.val, below_more (show Below _ _ y6.val from by repeat (first | exact Below.refl _ _ | (with_reducible assumption) | apply below_later | apply below_alloc | apply below_drew | apply below_drewN)) (below_more HB9.out x9.ok)⟩)
        have HB2 := Lib.hid (show Below w.heap.size w x9.val from below_more (show Below _ _ y6.val from by repeat (first | exact Below.refl _ _ | (with_reducible assumption) | apply below_later | apply below_alloc | apply below_drew | apply below_drewN)) (below_more HB9.out x9.ok))
        go_loopw [16] (fun u wr => ∃ k : Nat, k ≤ n ∧ u = .int .i64 k ∧ ∃ x : Later x9.val, wr = x.val) (fun u _ => n - (intOf u).toNat)
        case atStart => exact ⟨0, by omega, rfl, ⟨_, Below.refl _ _⟩, rfl⟩
        case round =>
          obtain ⟨k, hk, rfl, x, rfl⟩ := hrel
          by_cases hlt : k < n
          · obtain ⟨g6, f6, hA6, p6⟩ := (HI6.out.later x).at_ (by omega)
            obtain ⟨g2, f2, hA2, p2⟩ := (HN2.out.later x).at_ (by omega)
            subst hA6 hA2
            have c6 := p6.at_ k hlt
            have c2 := p2.at_ k hlt
            have l6 := p6.lt
            have l2 := p2.lt
            have hm := HM.out k hlt
            clear p6 p2
            have q : decide (o2.getD k 0 < o.getD k 0) = false := decide_eq_false (by omega)
            generalize o2.getD k 0 = y1 at *
            generalize o.getD k 0 = y2 at *
            go_wp2_with fail
            refine wp_region_later (by kernel_rfl) (by kernel_rfl) ?_
            repeat (go_big_quiet_step ((fail)))
            refine wpQuiet_nil ?_
            intro y9
            go_wp2
            go_roundw
            case rel => exact ⟨k + 1, by omega, by go_num, later_of (by repeat (first | exact Below.refl _ _ | (with_reducible assumption) | apply below_later | apply below_alloc | apply below_drew | apply below_drewN))⟩
            case measure => simp [intOf]; omega
          · obtain rfl : k = n := by omega
            go_wp2_with (go_at_call 16; (first | (with_reducible show Calls _ _ _ (Later.val _) _; with_reducible refine Calls.mono (Later.call _ (F1.out _)) ?_) | (with_reducible refine Calls.mono (Gives.calls (F1.out _)) ?_)); rintro e w1 ⟨rfl, z9, rfl⟩)
            go_ret
            exact ⟨rfl, ⟨⟨_, below_more HB2.out (by repeat (first | exact Below.refl _ _ | (with_reducible assumption) | apply below_later | apply below_alloc | apply below_drew | apply below_drewN))⟩, rfl⟩⟩
  · have FW : Hid (∀ w, Gives Try.prog 41 #[.agg #[.int .i64 W, .int .i64 H, .slice A n cap]] w (.bool false)) := fun w => by
      have h := few_any W H A n cap w
      rwa [decide_eq_false h36] at h
    clear hp'
    go_enter Try.func12, Try.ntmps12
    go_wp2_with (first
      | (go_at_call 41; (first | (with_reducible show Calls _ _ _ (Later.val _) _; with_reducible refine Calls.mono (Later.call _ (FW.out _)) ?_) | (with_reducible refine Calls.mono (Gives.calls (FW.out _)) ?_)); rintro e w1 ⟨rfl, z1, rfl⟩)
      | (go_at_call 16; (first | (with_reducible show Calls _ _ _ (Later.val _) _; with_reducible refine Calls.mono (Later.call _ (F1.out _)) ?_) | (with_reducible refine Calls.mono (Gives.calls (F1.out _)) ?_)); rintro e w1 ⟨rfl, z4, rfl⟩))
    go_ret
    exact ⟨rfl, later_of (by repeat (first | exact Below.refl _ _ | (with_reducible assumption) | apply below_later | apply below_alloc | apply below_drew | apply below_drewN))⟩
end Go.Proofs.Ytihgadppndcjaaa
