/- wale's isCircle. -/
import Derived.Test.YtnjloomhhgilcaaWCircle
namespace Go.Proofs.Ytnjloomhhgilcaa
open Go.RowKit Go.Maps

/-- Does a list come back to where it began? -/
def backB2 (m : Nat) (f t : Nat → Nat) (c : Nat → Int) (k : Nat) : Bool := match fol m f t c (f (c 0).toNat) k with
  | some a => decide (a = f (c 0).toNat)
  | none => false
def circB (m : Nat) (f t : Nat → Nat) (c : Nat → Int) (k : Nat) : Bool := (decide (0 < k) && inS m (c 0)) && (backB2 m f t c k && diffB f (fun i => (c i).toNat) k)
theorem fol_in {m : Nat} {f t : Nat → Nat} {c : Nat → Int} {start : Nat} : ∀ {k a : Nat}, fol m f t c start k = some a → ∀ i, i < k → inS m (c i) = true := by
  intro k
  induction k with
  | zero => intro a _ i hi; omega
  | succ k ih =>
    intro a h i hi
    rw [fol] at h
    rcases h1 : fol m f t c start k with _ | b
    · rw [h1] at h; cases h
    · rw [h1] at h
      simp only at h
      split at h
      · rename_i h2
        rcases Nat.lt_or_ge i k with h3 | h3
        · exact ih h1 i h3
        · obtain rfl : i = k := by omega
          exact h2.1
      · cases h
theorem fol_lt {n m : Nat} {f t : Nat → Nat} {V : Nat → Int} (R : Rot n m f t V) {c : Nat → Int} {start : Nat} (hs : start < n) : ∀ {k a : Nat}, fol m f t c start k = some a → a < n := by
  intro k
  induction k with
  | zero => intro a h; obtain rfl := Option.some.inj h; exact hs
  | succ k ih =>
    intro a h
    rw [fol] at h
    rcases h1 : fol m f t c start k with _ | b
    · rw [h1] at h; cases h
    · rw [h1] at h
      simp only at h
      split at h
      · rename_i h2
        obtain rfl := Option.some.inj h
        obtain ⟨i, hi, him⟩ := inS_true h2.1
        rw [hi, Int.toNat_natCast]
        exact R.t i him
      · cases h

set_option maxRecDepth 100000 in
set_option maxHeartbeats 6400000 in
theorem isCircle_any (n m cap k capB : Nat) (A B : Option Addr) (f t : Nat → Nat) (V : Nat → Int) (c : Nat → Int) (w : World) (hk : k ≤ 2000) (R : Rot n m f t V) (hp : IsChs w A m (fun i => (f i : Int)) (fun i => (t i : Int)) V) (hc : IsInts w B k c) :
    Gives Try.prog 52 #[.agg #[.int .i64 n, .slice A m cap], .slice B k capB] w (.bool (circB m f t c k)) := by
  have hn8 := R.n8
  have hm40 := R.m40
  have HR := Lib.hid R
  have HPW := Lib.hid hp
  have HCW := Lib.hid hc
  have hb : Below w.heap.size w (w.alloc (.cells #[.int .i64 n, .slice A m cap] 75)) := (Below.refl _ _).alloc (Nat.le_refl _) _
  have HP : Hid (IsChs (w.alloc (.cells #[.int .i64 n, .slice A m cap] 75)) A m (fun i => (f i : Int)) (fun i => (t i : Int)) V) := hp.below hb
  have HC : Hid (IsInts (w.alloc (.cells #[.int .i64 n, .slice A m cap] 75)) B k c) := hc.below hb
  have HB := Lib.hid hb
  obtain ⟨c0, c1, l0⟩ := box2 w (.int .i64 n) (.slice A m cap) 75
  have IC : Hid (∀ (x : Int) (w : World), Gives Try.prog 62 #[.agg #[.int .i64 n, .slice A m cap], .int .i64 x] w (.bool (inS m x))) := fun x w => isChange_any n m cap x A w
  have HX : Hid (circB m f t c k = ((decide (0 < k) && inS m (c 0)) && (backB2 m f t c k && diffB f (fun i => (c i).toNat) k))) := rfl
  have hmm := @run_makeMap Try.prog
  generalize circB m f t c k = rr at *
  clear hp hc hb R
  by_cases h0 : k = 0
  · subst h0
    have HF : Hid (rr = false) := by show _ = _; rw [HX.out]; simp
    go_enter Try.func52, Try.ntmps52
    go_wp2_with fail
    obtain ⟨b8, hb8⟩ : ∃ b8, w.heap.size = b8 := ⟨_, rfl⟩
    rw [hb8] at c0 c1 l0 ⊢
    clear hb8
    generalize w.alloc (.cells #[.int .i64 n, .slice A m cap] 75) = Z at *
    refine wp_region_later (by kernel_rfl) (by kernel_rfl) ?_
    repeat (go_big_quiet_step ((fail)))
    refine wpQuiet_nil ?_
    intro q
    go_wp2
    go_ret
    exact ⟨ret_bool (by rw [HF.out]), ⟨_, below_later HB.out⟩, rfl⟩
  · obtain ⟨bb, oo, rfl, qb⟩ := HCW.out.at_ (by omega)
    have HQB := Lib.hid (qb.below HB.out)
    have f0 : ((k : Int) == 0) = false := by rw [beq_eq_false_iff_ne]; omega
    have f00 : (0 : Int) < (k : Int) := by omega
    have HK0 : Hid (0 < k) := by show _ < _; omega
    have y0 := HQB.out.at_ 0 HK0.out
    rw [Nat.add_zero] at y0
    have y1 := HQB.out.lt
    clear qb HCW
    cases hi : inS m (c 0)
    · have HF : Hid (rr = false) := by show _ = _; rw [HX.out, hi]; simp
      have I1 := IC.out (c 0)
      rw [hi] at I1
      have I2 := Lib.hid I1
      clear I1 hi HX h0
      go_enter Try.func52, Try.ntmps52
      go_wp2_with fail
      obtain ⟨b8, hb8⟩ : ∃ b8, w.heap.size = b8 := ⟨_, rfl⟩
      rw [hb8] at c0 c1 l0 ⊢
      clear hb8
      generalize w.alloc (.cells #[.int .i64 n, .slice A m cap] 75) = Z at *
      refine wp_region_later (by kernel_rfl) (by kernel_rfl) ?_
      repeat (go_big_quiet_step (((go_at_call 62; (with_reducible refine Later.call _ (I2.out _))))))
      refine wpQuiet_nil ?_
      intro q
      go_wp2
      go_ret
      exact ⟨ret_bool (by rw [HF.out]), ⟨_, below_later HB.out⟩, rfl⟩
    · obtain ⟨i0, hi0, him0⟩ := inS_true hi
      have HX2 : Hid (rr = (backB2 m f t c k && diffB f (fun i => (c i).toNat) k)) := by show _ = _; rw [HX.out, hi]; simp [HK0.out]
      have I1 := IC.out (c 0)
      rw [hi, hi0] at I1
      have I2 := Lib.hid I1
      have HBK : Hid (backB2 m f t c k = match fol m f t c (f i0) k with | some a => decide (a = f i0) | none => false) := by show _ = _; unfold backB2; rw [hi0, Int.toNat_natCast]
      rw [hi0] at y0
      obtain ⟨ba, oa, rfl, pa⟩ := HPW.out.at_ (by omega)
      have HPA := Lib.hid (pa.below HB.out)
      have y2 := HPA.out.f i0 him0
      have y3 := HPA.out.lt
      have hf0 := HR.out.f i0 him0
      have FO : Hid (∀ w', IsChs w' (some ⟨ba, oa, none⟩) m (fun i => (f i : Int)) (fun i => (t i : Int)) V → IsInts w' (some ⟨bb, oo, none⟩) k c → Gives Try.prog 45 #[.agg #[.int .i64 n, .slice (some ⟨ba, oa, none⟩) m cap], .int .i64 (f i0 : Nat), .slice (some ⟨bb, oo, none⟩) k capB] w' (folV (fol m f t c (f i0) k))) := fun w' h1 h2 => follow_any n m cap k capB (f i0) _ _ f t V c w' (by omega) hk h1 h2
      clear pa I1 hi HX h0 HPW
      rcases hfo : fol m f t c (f i0) k with _ | a
      · have HF : Hid (rr = false) := by show _ = _; rw [HX2.out, HBK.out, hfo]; rfl
        have FO2 : Hid (∀ w', IsChs w' (some ⟨ba, oa, none⟩) m (fun i => (f i : Int)) (fun i => (t i : Int)) V → IsInts w' (some ⟨bb, oo, none⟩) k c → Gives Try.prog 45 #[.agg #[.int .i64 n, .slice (some ⟨ba, oa, none⟩) m cap], .int .i64 (f i0 : Nat), .slice (some ⟨bb, oo, none⟩) k capB] w' (.tuple #[.int .i64 0, .bool false])) := fun w' h1 h2 => by have h := FO.out w' h1 h2; rw [hfo] at h; exact h
        clear hfo FO hi0
        go_enter Try.func52, Try.ntmps52
        go_wp2_with fail
        obtain ⟨b8, hb8⟩ : ∃ b8, w.heap.size = b8 := ⟨_, rfl⟩
        rw [hb8] at c0 c1 l0 ⊢
        clear hb8
        generalize w.alloc (.cells #[.int .i64 n, .slice (some ⟨ba, oa, none⟩) m cap] 75) = Z at *
        refine wp_region_later (by kernel_rfl) (by kernel_rfl) ?_
        repeat (go_big_quiet_step (((go_at_call 62; (with_reducible refine Later.call _ (I2.out _))))))
        refine wpQuiet_nil ?_
        intro q
        go_wp2_with fail
        first | (with_reducible show Code.wp _ _ _ _ (Later.val _); refine wp_region_later_at _ (by kernel_rfl) (by kernel_rfl) ?_) | refine wp_region_later (by kernel_rfl) (by kernel_rfl) ?_
        repeat (go_big_quiet_step ((fail)))
        refine wpQuiet_nil ?_
        intro q2
        go_wp2_with (go_at_call 45; refine Calls.mono (Gives.calls (FO2.out _ (HP.out.later q2) (HC.out.later q2))) ?_; rintro e w1 ⟨rfl, q3, rfl⟩)
        go_ret
        exact ⟨ret_bool (by rw [HF.out]), ⟨_, below_later (below_later HB.out)⟩, rfl⟩
      · have FO2 : Hid (∀ w', IsChs w' (some ⟨ba, oa, none⟩) m (fun i => (f i : Int)) (fun i => (t i : Int)) V → IsInts w' (some ⟨bb, oo, none⟩) k c → Gives Try.prog 45 #[.agg #[.int .i64 n, .slice (some ⟨ba, oa, none⟩) m cap], .int .i64 (f i0 : Nat), .slice (some ⟨bb, oo, none⟩) k capB] w' (.tuple #[.int .i64 (a : Nat), .bool true])) := fun w' h1 h2 => by have h := FO.out w' h1 h2; rw [hfo] at h; exact h
        have HIN : Hid (∀ i, i < k → inS m (c i) = true) := fol_in hfo
        by_cases hae : a = f i0
        · have HX3 : Hid (rr = diffB f (fun i => (c i).toNat) k) := by show _ = _; rw [HX2.out, HBK.out, hfo]; simp [hae]
          have f2 : ((a : Int) != (f i0 : Int)) = false := by simp [hae]
          clear hfo FO hi0 hae
          go_enter Try.func52, Try.ntmps52
          go_wp2_with fail
          have hz : (w.alloc (.cells #[.int .i64 n, .slice (some ⟨ba, oa, none⟩) m cap] 75)).heap.size = w.heap.size + 1 := by simp
          obtain ⟨b8, hb8⟩ : ∃ b8, w.heap.size = b8 := ⟨_, rfl⟩
          rw [hb8] at c0 c1 l0 hz ⊢
          have HZ0 := Lib.hid hz
          clear hb8 hz
          generalize w.alloc (.cells #[.int .i64 n, .slice (some ⟨ba, oa, none⟩) m cap] 75) = Z at *
          refine wp_region_later (by kernel_rfl) (by kernel_rfl) ?_
          repeat (go_big_quiet_step (((go_at_call 62; (with_reducible refine Later.call _ (I2.out _))))))
          refine wpQuiet_nil ?_
          intro q
          go_wp2_with fail
          first | (with_reducible show Code.wp _ _ _ _ (Later.val _); refine wp_region_later_at _ (by kernel_rfl) (by kernel_rfl) ?_) | refine wp_region_later (by kernel_rfl) (by kernel_rfl) ?_
          repeat (go_big_quiet_step ((fail)))
          refine wpQuiet_nil ?_
          intro q2
          go_wp2_with (go_at_call 45; refine Calls.mono (Gives.calls (FO2.out _ (HP.out.later q2) (HC.out.later q2))) ?_; rintro e w1 ⟨rfl, q3, rfl⟩)
          have HBY : Hid (Below Z.heap.size Z q3.val) := below_later q2.ok
          generalize q3.val = Y at *
          have hzy : Hid (b8 < Y.heap.size) := by show _ < _; have := HBY.out.size; have := l0; omega
          have HM0 : Hid ((Y.alloc (.map #[] 0)).ownsMap Try.prog 3 (plainElem Try.prog 4) Y.heap.size 0 (.map [] : DataW Unit)) := World.ownsMap_made (H := Unit) Y Try.prog 3 (plainElem Try.prog 4)
          have HYP : Hid (Chs Y ba oa m (fun i => (f i : Int)) (fun i => (t i : Int)) V) := HPA.out.below HBY.out
          have HYQ : Hid (Ints Y bb oo k c) := HQB.out.below HBY.out
          have cY : Y.cell? ⟨b8, 1, none⟩ = some (.slice (some ⟨ba, oa, none⟩) m cap) := (HBY.out.cell (p := ⟨b8, 1, none⟩) l0).trans c1
          have CY := Lib.hid cY
          clear cY c0 c1 l0 y0 y1 y2 y3 hmm
          go_loopw [47] (fun v wr => ∃ (i : Nat) (D : DataW Unit), v = .int .i64 (i : Nat) ∧ i ≤ k ∧ Below Y.heap.size Y wr ∧ wr.ownsMap Try.prog 3 (plainElem Try.prog 4) Y.heap.size i D ∧ SeenS f (fun i => (c i).toNat) i D) (fun v _ => k - (intOf v).toNat)
          case atStart => exact ⟨0, .map [], rfl, by omega, (Below.refl _ _).alloc (Nat.le_refl _) _, HM0.out, SeenS.zero f _⟩
          case round =>
            obtain ⟨i, D, rfl, hik, hbl, hown, hs⟩ := hrel
            clear HM0
            have HS := Lib.hid hs
            have HO := Lib.hid hown
            have HBL := Lib.hid hbl
            by_cases hlt : i < k
            · obtain ⟨ci, hci, him⟩ := inS_true (HIN.out i hlt)
              have q0 := (HYQ.out.below hbl).at_ i hlt
              rw [hci] at q0
              have q1 := (HYQ.out.below hbl).lt
              have q2 := (hbl.cell (p := ⟨b8, 1, none⟩) hzy.out).trans CY.out
              have q3 := Nat.lt_of_lt_of_le hzy.out hbl.size
              have x1 := (HYP.out.below hbl).f ci him
              have x2 := (HYP.out.below hbl).lt
              have hfb := HR.out.f ci him
              have ST : Hid (SeenS f (fun i => (c i).toNat) (i + 1) (D.put (kN (f ci)) (.lit (.bool true)))) := by
                have h := HS.out.step
                simp only [hci, Int.toNat_natCast] at h
                exact h
              have k1 : keyOf Try.prog 3 (.int .i64 (f ci : Nat)) = some (kN (f ci)) := keyOf_int_mk Try.underlying3 (kN_wf (by omega))
              have K1 := Lib.hid k1
              clear k1 hs hown hbl hci
              generalize wr = WR at *
              go_wp2_with (at_mapUpdate; refine wpList_mapUpdate_own _ rfl _ _ _ 78 rfl 3 4 lawI Try.underlying78 (plainElem Try.prog 4) Y.heap.size i D rfl HO.out (by unfold maxLen; omega) _ _ _ rfl rfl K1.out _ [] (plainElem_bool Try.underlying4 true) ?_; intro w1 hown1 hgrow1; have HO1 := Lib.hid hown1; have HB1 : Hid (Below Y.heap.size Y w1) := HBL.out.grown hgrow1 HBL.out.size (fun j hj => by cases hj; omega); clear hown1 hgrow1)
              go_roundw
              case rel => exact ⟨i + 1, _, by go_num, by omega, HB1.out, HO1.out, ST.out⟩
              case measure => simp [intOf]; omega
            · obtain rfl : i = k := by omega
              clear hs hown hbl
              generalize wr = WR at *
              go_wp2_with (at_len; refine wpList_len_own _ rfl _ 78 rfl 3 4 Try.underlying78 _ Y.heap.size i D rfl HO.out ?_)
              go_ret
              refine ⟨ret_bool ?_, ⟨_, HB.out.trans ((HBY.out.trans (HBL.out.mono HBY.out.size)).mono HB.out.size)⟩, rfl⟩
              rw [HX3.out]
              have h4 := HS.out.2.2.2
              by_cases e : Maps.size D = i
              · rw [h4.2 e]; simp [e]
              · cases hd : diffB f (fun i => (c i).toNat) i
                · simp; omega
                · exact absurd (h4.1 hd) e
        · have HF : Hid (rr = false) := by show _ = _; rw [HX2.out, HBK.out, hfo]; simp [hae]
          have f2 : ((a : Int) != (f i0 : Int)) = true := by simp; omega
          clear hfo FO hi0 hae
          go_enter Try.func52, Try.ntmps52
          go_wp2_with fail
          obtain ⟨b8, hb8⟩ : ∃ b8, w.heap.size = b8 := ⟨_, rfl⟩
          rw [hb8] at c0 c1 l0 ⊢
          clear hb8
          generalize w.alloc (.cells #[.int .i64 n, .slice (some ⟨ba, oa, none⟩) m cap] 75) = Z at *
          refine wp_region_later (by kernel_rfl) (by kernel_rfl) ?_
          repeat (go_big_quiet_step (((go_at_call 62; (with_reducible refine Later.call _ (I2.out _))))))
          refine wpQuiet_nil ?_
          intro q
          go_wp2_with fail
          first | (with_reducible show Code.wp _ _ _ _ (Later.val _); refine wp_region_later_at _ (by kernel_rfl) (by kernel_rfl) ?_) | refine wp_region_later (by kernel_rfl) (by kernel_rfl) ?_
          repeat (go_big_quiet_step ((fail)))
          refine wpQuiet_nil ?_
          intro q2
          go_wp2_with (go_at_call 45; refine Calls.mono (Gives.calls (FO2.out _ (HP.out.later q2) (HC.out.later q2))) ?_; rintro e w1 ⟨rfl, q3, rfl⟩)
          go_ret
          exact ⟨ret_bool (by rw [HF.out]), ⟨_, below_later (below_later HB.out)⟩, rfl⟩
end Go.Proofs.Ytnjloomhhgilcaa
