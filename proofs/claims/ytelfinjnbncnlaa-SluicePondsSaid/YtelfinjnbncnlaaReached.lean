/- sluice.reached: walked. -/
import Derived.Test.YtelfinjnbncnlaaSteps
import Derived.Test.YtelfinjnbncnlaaStepsPond
namespace Go.Proofs.Ytelfinjnbncnlaa
open Go.RowKit

/-- The first numbers that are wanted. -/
def filt (R : Nat → Bool) (k : Nat) : List Nat := (List.range k).filter R
theorem filt_yes {R : Nat → Bool} {k : Nat} (h : R k = true) : filt R (k + 1) = filt R k ++ [k] := by unfold filt; rw [List.range_succ, List.filter_append]; simp [h]
theorem filt_no {R : Nat → Bool} {k : Nat} (h : R k = false) : filt R (k + 1) = filt R k := by unfold filt; rw [List.range_succ, List.filter_append]; simp [h]
theorem filt_len (R : Nat → Bool) (k : Nat) : (filt R k).length ≤ k := by
  have := List.length_filter_le R (List.range k)
  rw [List.length_range] at this
  exact this
theorem one_mem {a n : Nat} (h : a < n) : ∀ i, i ∈ [a] → i < n := fun i hi => by
  have e : i = a := by simpa using hi
  rw [e]; exact h
/-- What reached answers: the squares to which a walk leads, in order. -/
def PostRc (w : World) (n : Nat) (nx : Nat → List Nat) (may : Nat → Bool) (a : Nat) (e : Ending) (w' : World) : Prop :=
  ∃ v, ∃ R : Nat → Bool, e = .returned v ∧ ∃ x : Later w, w' = x.val ∧ OwnI w' w.heap.size v (natN (filt R n)) ∧ ∀ i, i < n → (R i = true ↔ Walks nx may [a] i)
set_option maxRecDepth 100000 in
set_option maxHeartbeats 3200000 in
theorem reached_ridge (W H n cap m capS from_ : Nat) (A B : Option Addr) (p1 p2 : Value) (may : Nat → Bool) (w : World) (hW : 1 ≤ W) (hW2 : W ≤ 16) (hH1 : 1 ≤ H) (hH : H ≤ 16) (hn : n = W * H) (hf : from_ < n)
    (MAY : ∀ V, Below w.heap.size w V → ∀ i : Nat, i < n → Gives Try.prog 27 #[.int .i64 i, p1, p2] V (.bool (may i))) :
    Calls Try.prog 26 #[.agg #[.int .i64 W, .int .i64 H, .slice A n cap, .slice B m capS], .int .i64 from_, .func (.func 27) #[] #[p1, p2]] w (PostRc w n (near4 W H) may from_) := by
  have hn9 : n ≤ 256 := by rw [hn]; exact Nat.mul_le_mul hW2 hH
  have ST : Hid (∀ w' sz, Below w.heap.size w w' → IsInts w' (some ⟨sz, 0, none⟩) 1 (fun i => (([from_].getD i 0 : Nat) : Int)) → Calls Try.prog 52 #[.agg #[.int .i64 W, .int .i64 H, .slice A n cap, .slice B m capS], .slice (some ⟨sz, 0, none⟩) 1 1, .func (.func 27) #[] #[p1, p2]] w' fun e w'' => ∃ v o, e = .returned v ∧ ∃ x : Later w', w'' = x.val ∧ OwnI w'' w'.heap.size v o ∧ o.length = n ∧ Dist n (near4 W H) may [from_] fun i => o.getD i 0) := fun w' sz h hp =>
    steps_ridge W H n cap m capS 1 1 A B (some ⟨sz, 0, none⟩) p1 p2 may [from_] w' hW hW2 hH1 hH hn rfl (by omega) (by omega) (one_mem hf) hp fun V hV i hi => MAY V (below_more h hV) i hi
  have HX : Hid (∀ i j, i < n → j ∈ near4 W H i → j < n) := fun i j hi hj => by rw [hn] at hi ⊢; exact near_lt hj hi
  have HF := Lib.hid hf
  obtain ⟨i0, hi0, hz0, hz1, hz2⟩ := info_int
  clear MAY hn hf
  go_enter Try.func26, Try.ntmps26
  go_wp2_with (go_at_call 52; refine Calls.mono (ST.out _ _ (by repeat (first | exact Below.refl _ _ | (with_reducible assumption) | apply below_later | apply below_alloc | apply below_drew | apply below_drewN)) ⟨by omega, fun _ => ⟨_, 0, rfl, by simp, fun i hi => by
    obtain rfl : i = 0 := by omega
    exact cell_of_heap (box_two w _ _) 0 _ rfl⟩⟩) ?_; rintro e w1 ⟨v, o, rfl, x, rfl, ho, hl, hd⟩; obtain ⟨A1, c1, rfl⟩ := ho.shape_n (n := n) hl; have HI := Lib.hid (ho.ints (by rw [hl]; omega)).2; have HD := Lib.hid hd; clear ho hl hd)
  have HB : Hid (Below w.heap.size w x.val) := by show Below _ _ _; repeat (first | exact Below.refl _ _ | (with_reducible assumption) | apply below_later | apply below_alloc | apply below_drew | apply below_drewN)
  have HR : Hid (∀ i, i < n → (decide (o.getD i 0 ≠ -1) = true ↔ Walks (near4 W H) may [from_] i)) := fun i hi => by
    rw [decide_eq_true_iff]
    exact HD.out.walks (one_mem HF.out) HX.out hi
  clear HD
  generalize x.val = VX at *
  go_loopw [7, 16] (fun v7 u wr => ∃ k : Nat, u = .int .i64 k ∧ k ≤ n ∧ Below VX.heap.size VX wr ∧ OwnI wr VX.heap.size v7 (natN (filt (fun i => decide (o.getD i 0 ≠ -1)) k))) (fun _ u _ => n - (intOf u).toNat)
  case atStart => exact ⟨0, rfl, by omega, Below.refl _ _, OwnI.nil _ _⟩
  case round =>
    obtain ⟨k, rfl, hk, hbm, hom⟩ := hrel
    have HBM := Lib.hid hbm
    have HOM := Lib.hid hom
    clear hbm hom
    by_cases hlt : k < n
    · obtain ⟨g1, f1, hA1, p1⟩ := (HI.out.later ⟨_, HBM.out⟩).at_ (by omega)
      subst hA1
      have ck : wr.cell? ⟨g1, f1 + k, none⟩ = some (.int .i64 (o.getD k 0)) := p1.at_ k hlt
      have l1 : g1 < wr.heap.size := p1.lt
      obtain ⟨lm, hlm⟩ : ∃ lm, (filt (fun i => decide (o.getD i 0 ≠ -1)) k).length = lm := ⟨_, rfl⟩
      have hlm9 : lm ≤ 256 := by have := filt_len (fun i => decide (o.getD i 0 ≠ -1)) k; omega
      have HLM : Hid ((natN (filt (fun i => decide (o.getD i 0 ≠ -1)) k)).length = lm) := by show _ = _; rw [← hlm]; simp [natN]
      clear p1 hlm
      by_cases ho : o.getD k 0 = -1
      · have E : Hid (filt (fun i => decide (o.getD i 0 ≠ -1)) (k + 1) = filt (fun i => decide (o.getD i 0 ≠ -1)) k) := filt_no (by rw [ho]; rfl)
        rw [ho] at ck
        clear ho
        go_wp2_with fail
        go_roundw
        case rel => exact ⟨k + 1, by go_num, by omega, HBM.out, by rw [E.out]; exact HOM.out⟩
        case measure => simp [intOf]; omega
      · have E : Hid (natN (filt (fun i => decide (o.getD i 0 ≠ -1)) (k + 1)) = natN (filt (fun i => decide (o.getD i 0 ≠ -1)) k) ++ [(k : Int)]) := by
          show _ = _
          rw [filt_yes (by simpa using ho)]; simp [natN]
        have d1 : (o.getD k 0 != -1) = true := by simpa using ho
        clear ho
        have HE1 := Lib.hid E.out
        generalize filt (fun i => decide (o.getD i 0 ≠ -1)) k = fl0 at *
        generalize o.getD k 0 = ok at *
        go_wp2_with (at_builtin; refine wpList_append_own _ rfl _ _ 22 rfl VX.heap.size 3 i0 (.int .i64 0) 1 8 Try.underlying22 hi0 hz0 hz1 hz2 rfl (by decide) _ _ _ rfl ((own_row HOM.out HLM.out).alloc _) ⟨_, 0, none⟩ 1 1 [.int .i64 (k : Nat)] rfl rfl lit_news one_int (by unfold maxLen; omega) (by omega) (by have := HBM.out.size; simp only [World.size_alloc]; omega) ?_; intro v5 w5 hown2 hgrow _; have HM5 : Hid (OwnI w5 VX.heap.size v5 (natN fl0 ++ [(k : Int)])) := push_own (P := Try.prog) (w := w5) (v := v5) (by rw [HLM.out]; exact hown2); have HB5 := Lib.hid ((HBM.out.alloc HBM.out.size _).grown hgrow (by have := HBM.out.size; simp; omega) fun k hk => (own_lt HOM.out k hk).1); clear hown2 hgrow)
        go_roundw
        case rel => exact ⟨k + 1, by go_num, by omega, HB5.out, by rw [E.out]; exact HM5.out⟩
        case measure => simp [intOf]; omega
    · obtain rfl : k = n := by omega
      go_wp2_with fail
      go_ret
      exact ⟨_, fun i => decide (o.getD i 0 ≠ -1), rfl, ⟨_, below_more HB.out HBM.out⟩, rfl, HOM.out.mono HB.out.size, HR.out⟩
set_option maxRecDepth 100000 in
set_option maxHeartbeats 3200000 in
theorem reached_pond (W H n cap m capS from_ : Nat) (A B : Option Addr) (p1 p2 p3 : Value) (may : Nat → Bool) (w : World) (hW : 1 ≤ W) (hW2 : W ≤ 16) (hH1 : 1 ≤ H) (hH : H ≤ 16) (hn : n = W * H) (hf : from_ < n)
    (MAY : ∀ V, Below w.heap.size w V → ∀ i : Nat, i < n → Gives Try.prog 37 #[.int .i64 i, p1, p2, p3] V (.bool (may i))) :
    Calls Try.prog 26 #[.agg #[.int .i64 W, .int .i64 H, .slice A n cap, .slice B m capS], .int .i64 from_, .func (.func 37) #[] #[p1, p2, p3]] w (PostRc w n (near4 W H) may from_) := by
  have hn9 : n ≤ 256 := by rw [hn]; exact Nat.mul_le_mul hW2 hH
  have ST : Hid (∀ w' sz, Below w.heap.size w w' → IsInts w' (some ⟨sz, 0, none⟩) 1 (fun i => (([from_].getD i 0 : Nat) : Int)) → Calls Try.prog 52 #[.agg #[.int .i64 W, .int .i64 H, .slice A n cap, .slice B m capS], .slice (some ⟨sz, 0, none⟩) 1 1, .func (.func 37) #[] #[p1, p2, p3]] w' fun e w'' => ∃ v o, e = .returned v ∧ ∃ x : Later w', w'' = x.val ∧ OwnI w'' w'.heap.size v o ∧ o.length = n ∧ Dist n (near4 W H) may [from_] fun i => o.getD i 0) := fun w' sz h hp =>
    steps_pond W H n cap m capS 1 1 A B (some ⟨sz, 0, none⟩) p1 p2 p3 may [from_] w' hW hW2 hH1 hH hn rfl (by omega) (by omega) (one_mem hf) hp fun V hV i hi => MAY V (below_more h hV) i hi
  have HX : Hid (∀ i j, i < n → j ∈ near4 W H i → j < n) := fun i j hi hj => by rw [hn] at hi ⊢; exact near_lt hj hi
  have HF := Lib.hid hf
  obtain ⟨i0, hi0, hz0, hz1, hz2⟩ := info_int
  clear MAY hn hf
  go_enter Try.func26, Try.ntmps26
  go_wp2_with (go_at_call 52; refine Calls.mono (ST.out _ _ (by repeat (first | exact Below.refl _ _ | (with_reducible assumption) | apply below_later | apply below_alloc | apply below_drew | apply below_drewN)) ⟨by omega, fun _ => ⟨_, 0, rfl, by simp, fun i hi => by
    obtain rfl : i = 0 := by omega
    exact cell_of_heap (box_two w _ _) 0 _ rfl⟩⟩) ?_; rintro e w1 ⟨v, o, rfl, x, rfl, ho, hl, hd⟩; obtain ⟨A1, c1, rfl⟩ := ho.shape_n (n := n) hl; have HI := Lib.hid (ho.ints (by rw [hl]; omega)).2; have HD := Lib.hid hd; clear ho hl hd)
  have HB : Hid (Below w.heap.size w x.val) := by show Below _ _ _; repeat (first | exact Below.refl _ _ | (with_reducible assumption) | apply below_later | apply below_alloc | apply below_drew | apply below_drewN)
  have HR : Hid (∀ i, i < n → (decide (o.getD i 0 ≠ -1) = true ↔ Walks (near4 W H) may [from_] i)) := fun i hi => by
    rw [decide_eq_true_iff]
    exact HD.out.walks (one_mem HF.out) HX.out hi
  clear HD
  generalize x.val = VX at *
  go_loopw [7, 16] (fun v7 u wr => ∃ k : Nat, u = .int .i64 k ∧ k ≤ n ∧ Below VX.heap.size VX wr ∧ OwnI wr VX.heap.size v7 (natN (filt (fun i => decide (o.getD i 0 ≠ -1)) k))) (fun _ u _ => n - (intOf u).toNat)
  case atStart => exact ⟨0, rfl, by omega, Below.refl _ _, OwnI.nil _ _⟩
  case round =>
    obtain ⟨k, rfl, hk, hbm, hom⟩ := hrel
    have HBM := Lib.hid hbm
    have HOM := Lib.hid hom
    clear hbm hom
    by_cases hlt : k < n
    · obtain ⟨g1, f1, hA1, p1⟩ := (HI.out.later ⟨_, HBM.out⟩).at_ (by omega)
      subst hA1
      have ck : wr.cell? ⟨g1, f1 + k, none⟩ = some (.int .i64 (o.getD k 0)) := p1.at_ k hlt
      have l1 : g1 < wr.heap.size := p1.lt
      obtain ⟨lm, hlm⟩ : ∃ lm, (filt (fun i => decide (o.getD i 0 ≠ -1)) k).length = lm := ⟨_, rfl⟩
      have hlm9 : lm ≤ 256 := by have := filt_len (fun i => decide (o.getD i 0 ≠ -1)) k; omega
      have HLM : Hid ((natN (filt (fun i => decide (o.getD i 0 ≠ -1)) k)).length = lm) := by show _ = _; rw [← hlm]; simp [natN]
      clear p1 hlm
      by_cases ho : o.getD k 0 = -1
      · have E : Hid (filt (fun i => decide (o.getD i 0 ≠ -1)) (k + 1) = filt (fun i => decide (o.getD i 0 ≠ -1)) k) := filt_no (by rw [ho]; rfl)
        rw [ho] at ck
        clear ho
        go_wp2_with fail
        go_roundw
        case rel => exact ⟨k + 1, by go_num, by omega, HBM.out, by rw [E.out]; exact HOM.out⟩
        case measure => simp [intOf]; omega
      · have E : Hid (natN (filt (fun i => decide (o.getD i 0 ≠ -1)) (k + 1)) = natN (filt (fun i => decide (o.getD i 0 ≠ -1)) k) ++ [(k : Int)]) := by
          show _ = _
          rw [filt_yes (by simpa using ho)]; simp [natN]
        have d1 : (o.getD k 0 != -1) = true := by simpa using ho
        clear ho
        have HE1 := Lib.hid E.out
        generalize filt (fun i => decide (o.getD i 0 ≠ -1)) k = fl0 at *
        generalize o.getD k 0 = ok at *
        go_wp2_with (at_builtin; refine wpList_append_own _ rfl _ _ 22 rfl VX.heap.size 3 i0 (.int .i64 0) 1 8 Try.underlying22 hi0 hz0 hz1 hz2 rfl (by decide) _ _ _ rfl ((own_row HOM.out HLM.out).alloc _) ⟨_, 0, none⟩ 1 1 [.int .i64 (k : Nat)] rfl rfl lit_news one_int (by unfold maxLen; omega) (by omega) (by have := HBM.out.size; simp only [World.size_alloc]; omega) ?_; intro v5 w5 hown2 hgrow _; have HM5 : Hid (OwnI w5 VX.heap.size v5 (natN fl0 ++ [(k : Int)])) := push_own (P := Try.prog) (w := w5) (v := v5) (by rw [HLM.out]; exact hown2); have HB5 := Lib.hid ((HBM.out.alloc HBM.out.size _).grown hgrow (by have := HBM.out.size; simp; omega) fun k hk => (own_lt HOM.out k hk).1); clear hown2 hgrow)
        go_roundw
        case rel => exact ⟨k + 1, by go_num, by omega, HB5.out, by rw [E.out]; exact HM5.out⟩
        case measure => simp [intOf]; omega
    · obtain rfl : k = n := by omega
      go_wp2_with fail
      go_ret
      exact ⟨_, fun i => decide (o.getD i 0 ≠ -1), rfl, ⟨_, below_more HB.out HBM.out⟩, rfl, HOM.out.mono HB.out.size, HR.out⟩
end Go.Proofs.Ytelfinjnbncnlaa
