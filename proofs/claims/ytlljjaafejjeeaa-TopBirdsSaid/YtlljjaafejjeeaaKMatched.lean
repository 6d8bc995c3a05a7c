/- wader's matched: walked. -/
import Derived.Test.YtlljjaafejjeeaaKOne
namespace Go.Proofs.Ytlljjaafejjeeaa
open Go.RowKit

set_option maxRecDepth 100000 in
theorem repeat_zero (g0 o0 c0 : Nat) (x : Int) (w : World) (hc : w.cell? ⟨g0, o0, none⟩ = some (.int .i64 x)) :
    Calls Try.prog 39 #[.slice (some ⟨g0, o0, none⟩) 1 c0, .int .i64 (0 : Int)] w (PostI w []) := by
  have lg := World.block_lt_of_cell? _ _ hc
  have BM : Hid (∀ w, Calls Try.prog 50 #[.int .u64 1, .int .u64 0] w fun e w' => e = .returned (.tuple #[.int .u64 0, .int .u64 0]) ∧ w' = w) := fun w => by
    have := Try.bits_Mul 1 0 (by omega) (by omega) w
    exact this
  have MK : ∀ w', (Instr.makeSlice 24 (.int .i64 (0 : Int)) (.int .i64 (0 : Int))).run Try.prog w' = .ok (.slice (some ⟨w'.heap.size, 0, none⟩) 0 0) (w'.alloc (.cells (madeCells #[Value.int .i64 0] 0) 3)) := fun w' => make_ints w' 0 (by omega)
  have M1 := Lib.hid (made_own w 0 w.heap.size (Nat.le_refl _) (by omega))
  go_enter Try.func39, Try.ntmps39
  go_wp2_with (go_at_call 50; refine Calls.mono (BM.out _) ?_; rintro e w1 ⟨rfl, rfl⟩; obtain ⟨w2, hr, hg2, hb2⟩ := copy_rep (w1.alloc (.cells (madeCells #[Value.int .i64 0] 0) 3)) w1.heap.size 0 0 0 0 0 1 c0 x ⟨g0, o0, none⟩ (made_rep w1 0 x) (by show 0 = min 1 0; omega) (by omega) (fun j hj => absurd hj (by omega)))
  have hb3 := (show Below w1.heap.size w1 (w1.alloc (.cells (madeCells #[Value.int .i64 0] 0) 3)) by repeat (first | exact Below.refl _ _ | (with_reducible assumption) | apply below_later | apply below_alloc | apply below_drew | apply below_drewN)).trans hb2
  have HG := Lib.hid hg2
  clear hg2 hb2 hr
  go_loopw [8] (fun v wr => v = .int .i64 0 ∧ wr.heap[w1.heap.size]? = some (.cells (rep 0 0 x).toArray 3 (0, 0)) ∧ Below w1.heap.size w1 wr) (fun _ _ => 0)
  case atStart => exact ⟨rfl, HG.out, hb3⟩
  case round =>
    obtain ⟨rfl, h, hb⟩ := hrel
    go_wp2
    go_ret
    exact ⟨_, rfl, ⟨_, hb⟩, rfl, ⟨by simp [cellsI], .inr ⟨w1.heap.size, 0, (rep 0 0 x).toArray, rfl, Nat.le_refl _, h, by simp, by simp [maxLen], by simp [rep], by simp [cellsI]⟩⟩⟩
theorem kbox_two (w : World) (o : Obj) (v : Value) (t : TypeId) : ((w.alloc o).alloc (.cells #[v] t)).heap[w.heap.size + 1]? = some (.cells #[v] t (0, 0)) := by
  have h := one_box (w.alloc o) v t
  rw [World.size_alloc] at h
  exact h
theorem repeat_neg (g0 n : Nat) (w : World) (hn : n ≤ 1000) (hc : w.cell? ⟨g0, 0, none⟩ = some (.int .i64 (-1))) :
    GivesI 39 #[.slice (some ⟨g0, 0, none⟩) 1 1, .int .i64 n] w (List.replicate n (-1)) := by
  rcases Nat.eq_zero_or_pos n with rfl | h
  · exact repeat_zero g0 0 1 (-1) w hc
  · refine Calls.mono (repeat_any g0 0 1 n (-1) w h (by omega) hc) ?_
    rintro e w' ⟨g, rfl, _, y, rfl, ho⟩
    exact ⟨_, rfl, y, rfl, ho⟩
theorem mat_succ (L : Nat → Nat → Bool) (n i : Nat) : matM L n (i + 1) = oneM L n i (matM L n i) := rfl
theorem own_isInts {w : World} {base : Nat} {v : Value} {l : List Int} (h : OwnI w base v l) (hs : l.length ≤ 100000) : ∃ A cap, v = .slice A l.length cap ∧ IsInts w A l.length fun i => l.getD i 0 := by
  obtain ⟨A, cap, rfl⟩ := h.shape
  exact ⟨A, cap, rfl, (h.ints (by omega)).2⟩
set_option maxRecDepth 100000 in
set_option maxHeartbeats 3200000 in
theorem matched_any (s : Int) (n cap : Nat) (A : Option Addr) (X Y T : Nat → Int) (w : World) (W : Watch n s X Y T) (hp : IsChs w A n X Y T) :
    GivesI 22 #[.agg #[.slice A n cap, .int .i64 s]] w (matM (leadsR s X Y T) n n) := by
  have hn30 := W.n30
  have hb : Below w.heap.size w (w.alloc (.cells #[.slice A n cap, .int .i64 s] 53)) := (Below.refl _ _).alloc (Nat.le_refl _) _
  obtain ⟨c0, c1, l0⟩ := box2 w (.slice A n cap) (.int .i64 s) 53
  have RP := Lib.hid fun (V : World) (g0 : Nat) (h : V.cell? ⟨g0, 0, none⟩ = some (.int .i64 (-1))) => repeat_neg g0 n V (by omega) h
  have ON := Lib.hid fun (i c1 : Nat) (O : Option Addr) (V : World) (hi : i < n) (hp : IsChs V A n X Y T) (ho : IsInts V O n fun k => (matM (leadsR s X Y T) n i).getD k 0) =>
    withOne_any s n cap i c1 A O X Y T (matM (leadsR s X Y T) n i) V hi W hp (mat_inv _ n i (by omega)).len (mat_inv _ n i (by omega)).okm ho
  have ML := Lib.hid fun i (h : i ≤ n) => (mat_inv (leadsR s X Y T) n i h).len
  have HP := Lib.hid (hp.below hb)
  have HB := Lib.hid hb
  have HM := Lib.hid (mat_succ (leadsR s X Y T) n)
  have HM0 : Hid (matM (leadsR s X Y T) n 0 = List.replicate n (-1)) := rfl
  generalize leadsR s X Y T = L at *
  clear hp W hb
  go_enter Try.func22, Try.ntmps22
  go_wp2_with (go_at_call 39; with_reducible refine Calls.mono (GivesI.calls (RP.out _ _ (cell_of_heap (kbox_two w _ _ _) 0 _ rfl))) ?_; rintro e w1 ⟨v, rfl, z, rfl, ho⟩)
  have HB2 : Hid (Below (w.alloc (.cells #[.slice A n cap, .int .i64 s] 53)).heap.size (w.alloc (.cells #[.slice A n cap, .int .i64 s] 53)) z.val) := by show Below _ _ _; repeat (first | exact Below.refl _ _ | (with_reducible assumption) | apply below_later | apply below_alloc | apply below_drew | apply below_drewN)
  have HO0 : Hid (OwnI z.val (w.alloc (.cells #[.slice A n cap, .int .i64 s] 53)).heap.size v (matM L n 0)) := by
    rw [HM0.out]
    exact ho.mono (by simp)
  obtain ⟨b9, hb9⟩ : ∃ b9, w.heap.size = b9 := ⟨_, rfl⟩
  have HB9 := Lib.hid hb9
  rw [hb9] at c0 c1 l0 ⊢
  clear hb9 ho HM0
  generalize w.alloc (.cells #[.slice A n cap, .int .i64 s] 53) = B at *
  have a0 := (HB2.out.cell (p := ⟨b9, 0, none⟩) l0).trans c0
  have a1 := (HB2.out.cell (p := ⟨b9, 1, none⟩) l0).trans c1
  have a2 := Nat.lt_of_lt_of_le l0 HB2.out.size
  go_wp2_with fail
  clear a0 a1 a2
  go_loopw [3, 13] (fun u v wr => ∃ i : Nat, v = .int .i64 (i : Nat) ∧ i ≤ n ∧ Below B.heap.size B wr ∧ OwnI wr B.heap.size u (matM L n i)) (fun _ v _ => n - (intOf v).toNat)
  case atStart => exact ⟨0, rfl, by omega, HB2.out, HO0.out⟩
  case round =>
    obtain ⟨i, rfl, hi, hbl, ho⟩ := hrel
    clear HO0 HB2
    obtain ⟨O, c2, rfl, ho2⟩ := own_isInts ho (by rw [ML.out i hi]; omega)
    rw [ML.out i hi] at ho2 ⊢
    have HBL := Lib.hid hbl
    have HO2 := Lib.hid ho2
    have HO := Lib.hid ho
    clear hbl ho2 ho
    by_cases hlt : i < n
    · have a0 := (HBL.out.cell (p := ⟨b9, 0, none⟩) l0).trans c0
      have a1 := (HBL.out.cell (p := ⟨b9, 1, none⟩) l0).trans c1
      have a2 := Nat.lt_of_lt_of_le l0 HBL.out.size
      go_wp2_with (go_at_call 40; with_reducible refine Calls.mono (GivesI.calls (ON.out i _ _ _ hlt (HP.out.below HBL.out) HO2.out)) ?_; rintro e w1 ⟨v, rfl, z, rfl, ho3⟩; have HO3 := Lib.hid ho3; clear ho3)
      go_roundw
      case rel => exact ⟨i + 1, by go_num, by omega, below_more HBL.out z.ok, by rw [HM.out]; exact HO3.out.mono HBL.out.size⟩
      case measure => simp [intOf]; omega
    · obtain rfl : i = n := by omega
      go_wp2_with fail
      go_ret
      have h := HO.out
      rw [ML.out i hi] at h
      exact ⟨_, rfl, ⟨_, below_more HB.out HBL.out⟩, rfl, h.mono HB.out.size⟩
end Go.Proofs.Ytlljjaafejjeeaa
