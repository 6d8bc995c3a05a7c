/- wale's Circle, MeanOf, Mean and Best of valid rotations. -/
import Derived.Test.YtnjloomhhgilcaaWIsCircle
namespace Go.Proofs.Ytnjloomhhgilcaa
open Go.RowKit

theorem rot_valid {n m : Nat} {f t : Nat → Nat} {V : Nat → Int} (R : Rot n m f t V) : validR n m (fun i => (f i : Int)) (fun i => (t i : Int)) V = true := by
  have h1 := R.n1
  have h2 := R.n8
  have h3 := R.m40
  unfold validR
  rw [decide_eq_true (by omega), decide_eq_true (by omega), decide_eq_true h3, allB_true fun i hi => ?_]
  · rfl
  · have hv := R.v i hi
    unfold okC
    rw [inS_nat (R.f i hi), inS_nat (R.t i hi), decide_eq_true hv.1, decide_eq_true hv.2]
    rfl
theorem valid_true {n m cap : Nat} {A : Option Addr} {f t : Nat → Nat} {V : Nat → Int} (R : Rot n m f t V) (w : World) (hp : IsChs w A m (fun i => (f i : Int)) (fun i => (t i : Int)) V) :
    Gives Try.prog 42 #[.int .i64 n, .slice A m cap] w (.bool true) := by
  have h := wvalid_any n A m cap _ _ V w (by have := R.m40; omega) hp
  rwa [rot_valid R] at h
theorem IsInts.congr {w : World} {A : Option Addr} {n : Nat} {f g : Nat → Int} (h : IsInts w A n f) (e : ∀ i, i < n → f i = g i) : IsInts w A n g :=
  ⟨h.small, fun h0 => let ⟨b, off, ea, hp⟩ := h.at_ h0; ⟨b, off, ea, hp.lt, fun i hi => by rw [← e i hi]; exact hp.at_ i hi⟩⟩
theorem circ_facts {m : Nat} {f t : Nat → Nat} {c : Nat → Int} {k : Nat} (h : circB m f t c k = true) : 0 < k ∧ (∀ i, i < k → c i = ((c i).toNat : Nat) ∧ (c i).toNat < m) ∧ fol m f t c (f (c 0).toNat) k = some (f (c 0).toNat) ∧ diffB f (fun i => (c i).toNat) k = true := by
  unfold circB at h
  simp only [Bool.and_eq_true, decide_eq_true_eq] at h
  obtain ⟨⟨h1, h2⟩, h3, h4⟩ := h
  have h5 : fol m f t c (f (c 0).toNat) k = some (f (c 0).toNat) := by
    unfold backB2 at h3
    split at h3
    · rename_i a ha
      rw [ha]
      simpa using h3
    · cases h3
  refine ⟨h1, fun i hi => ?_, h5, h4⟩
  obtain ⟨x, hx, hm⟩ := inS_true (fol_in h5 i hi)
  rw [hx, Int.toNat_natCast]
  exact ⟨rfl, hm⟩
theorem res_cell {w V : World} {o : Obj} (hb : Below (w.alloc o).heap.size (w.alloc o) V) : V.heap[w.heap.size]? = some o := (hb.block _ (by simp)).trans (World.alloc_heap_new _ _)

theorem res_facts {w V : World} {a b : Value} {t : TypeId} (hb : Below (w.alloc (.cells #[a, b] t)).heap.size (w.alloc (.cells #[a, b] t)) V) :
    V.cell? ⟨w.heap.size, 0, none⟩ = some a ∧ V.cell? ⟨w.heap.size, 1, none⟩ = some b ∧ w.heap.size < V.heap.size ∧ V.frozen? ⟨w.heap.size, 0, none⟩ = false ∧ V.frozen? ⟨w.heap.size, 1, none⟩ = false := by
  have hr := res_cell hb
  exact ⟨cell_of_heap hr 0 _ rfl, cell_of_heap hr 1 _ rfl, get_lt hr, by simp [World.frozen?, hr], by simp [World.frozen?, hr]⟩
theorem res_put {V : World} {g : Nat} {a b x y : Value} (h0 : V.cell? ⟨g, 0, none⟩ = some a) (h1 : V.cell? ⟨g, 1, none⟩ = some b) :
    ((V.setCell ⟨g, 0, none⟩ x).setCell ⟨g, 1, none⟩ y).cell? ⟨g, 0, none⟩ = some x ∧ ((V.setCell ⟨g, 0, none⟩ x).setCell ⟨g, 1, none⟩ y).cell? ⟨g, 1, none⟩ = some y := by
  constructor <;> simp [go_sem, h0, h1]

set_option maxRecDepth 100000 in
theorem Circle_none (n m cap : Nat) (A : Option Addr) (f t : Nat → Nat) (V : Nat → Int) (w : World) (R : Rot n m f t V) (hp : IsChs w A m (fun i => (f i : Int)) (fun i => (t i : Int)) V) (h0 : (bestC n m f t V n).length = 0) :
    Gives Try.prog 28 #[.int .i64 n, .slice A m cap] w (.tuple #[.slice none 0 0, .int .i64 5]) := by
  have VT : Hid (∀ w', IsChs w' A m (fun i => (f i : Int)) (fun i => (t i : Int)) V → Gives Try.prog 42 #[.int .i64 n, .slice A m cap] w' (.bool true)) := fun w' h => valid_true R w' h
  have CC : Hid (∀ w', IsChs w' A m (fun i => (f i : Int)) (fun i => (t i : Int)) V → Calls Try.prog 47 #[.agg #[.int .i64 n, .slice A m cap]] w' fun e w'' => ∃ B c, e = .returned (.slice B 0 c) ∧ ∃ x : Later w', w'' = x.val) := fun w' h => (circle_any n m cap A f t V w' R h).mono fun e w'' ⟨B, c, he, x, hx, _⟩ => by rw [h0] at he; exact ⟨B, c, he, x, hx⟩
  have HP := Lib.hid hp
  clear hp R h0
  go_enter Try.func28, Try.ntmps28
  go_wp2_with (first
    | (go_at_call 42; (first | (with_reducible show Calls _ _ _ (Later.val _) _; with_reducible refine Calls.mono (Later.call _ (VT.out _ (HP.out.later ⟨_, by repeat (first | exact Below.refl _ _ | (with_reducible assumption) | apply below_later | apply below_alloc | apply below_drew | apply below_drewN)⟩))) ?_) | (with_reducible refine Calls.mono (Gives.calls (VT.out _ (HP.out.later ⟨_, by repeat (first | exact Below.refl _ _ | (with_reducible assumption) | apply below_later | apply below_alloc | apply below_drew | apply below_drewN)⟩))) ?_)); rintro e w1 ⟨rfl, z, rfl⟩)
    | (go_at_call 47; refine Calls.mono (CC.out _ (HP.out.later ⟨_, by repeat (first | exact Below.refl _ _ | (with_reducible assumption) | apply below_later | apply below_alloc | apply below_drew | apply below_drewN)⟩)) ?_; rintro e w1 ⟨B, c, rfl, z2, rfl⟩))
  go_ret2
  exact ⟨rfl, later_of (by repeat (first | exact Below.refl _ _ | (with_reducible assumption) | apply below_later | apply below_alloc | apply below_drew | apply below_drewN))⟩
set_option maxRecDepth 100000 in
theorem Circle_some (n m cap : Nat) (A : Option Addr) (f t : Nat → Nat) (V : Nat → Int) (w : World) (R : Rot n m f t V) (hp : IsChs w A m (fun i => (f i : Int)) (fun i => (t i : Int)) V) (h0 : (bestC n m f t V n).length ≠ 0) :
    Calls Try.prog 28 #[.int .i64 n, .slice A m cap] w fun e w' => ∃ B c, e = .returned (.tuple #[.slice B (bestC n m f t V n).length c, .int .i64 0]) ∧ ∃ x : Later w, w' = x.val ∧ IsInts w' B (bestC n m f t V n).length fun i => ((bestC n m f t V n).getD i 0 : Nat) := by
  have VT : Hid (∀ w', IsChs w' A m (fun i => (f i : Int)) (fun i => (t i : Int)) V → Gives Try.prog 42 #[.int .i64 n, .slice A m cap] w' (.bool true)) := fun w' h => valid_true R w' h
  have CC : Hid (∀ w', IsChs w' A m (fun i => (f i : Int)) (fun i => (t i : Int)) V → Calls Try.prog 47 #[.agg #[.int .i64 n, .slice A m cap]] w' fun e w'' => ∃ B c, e = .returned (.slice B (bestC n m f t V n).length c) ∧ ∃ x : Later w', w'' = x.val ∧ IsInts w'' B (bestC n m f t V n).length fun i => ((bestC n m f t V n).getD i 0 : Nat)) := fun w' h => circle_any n m cap A f t V w' R h
  have HP := Lib.hid hp
  have f0 : (((bestC n m f t V n).length : Int) == 0) = false := by rw [beq_eq_false_iff_ne]; omega
  clear hp R h0
  generalize bestC n m f t V n = q at *
  have HLQ : Hid (∃ L, q.length = L) := ⟨_, rfl⟩
  go_enter Try.func28, Try.ntmps28
  go_wp2_with (first
    | (go_at_call 42; (first | (with_reducible show Calls _ _ _ (Later.val _) _; with_reducible refine Calls.mono (Later.call _ (VT.out _ (HP.out.later ⟨_, by repeat (first | exact Below.refl _ _ | (with_reducible assumption) | apply below_later | apply below_alloc | apply below_drew | apply below_drewN)⟩))) ?_) | (with_reducible refine Calls.mono (Gives.calls (VT.out _ (HP.out.later ⟨_, by repeat (first | exact Below.refl _ _ | (with_reducible assumption) | apply below_later | apply below_alloc | apply below_drew | apply below_drewN)⟩))) ?_)); rintro e w1 ⟨rfl, z, rfl⟩)
    | (go_at_call 47; refine Calls.mono (CC.out _ (HP.out.later ⟨_, by repeat (first | exact Below.refl _ _ | (with_reducible assumption) | apply below_later | apply below_alloc | apply below_drew | apply below_drewN)⟩)) ?_; rintro e w1 ⟨B, c, rfl, z2, rfl, hi⟩; have HI := Lib.hid hi; clear hi))
  go_ret2
  exact ⟨B, c, rfl, ⟨_, by repeat (first | exact Below.refl _ _ | (with_reducible assumption) | apply below_later | apply below_alloc | apply below_drew | apply below_drewN)⟩, rfl, HI.out⟩

set_option maxRecDepth 100000 in
set_option maxHeartbeats 1600000 in
theorem MeanOf_ok (n m cap k capB : Nat) (A B : Option Addr) (f t : Nat → Nat) (V : Nat → Int) (c : Nat → Int) (w : World) (hk : k ≤ 2000) (R : Rot n m f t V) (hp : IsChs w A m (fun i => (f i : Int)) (fun i => (t i : Int)) V) (hc : IsInts w B k c) (hcb : circB m f t c k = true) :
    Gives Try.prog 33 #[.int .i64 n, .slice A m cap, .slice B k capB] w (.tuple #[.agg #[.int .i64 (lowN (wor V (fun i => (c i).toNat) k) k), .int .i64 (lowD (wor V (fun i => (c i).toNat) k) k)], .int .i64 0]) := by
  obtain ⟨hk0, hcn, _, _⟩ := circ_facts hcb
  have VT : Hid (∀ w', IsChs w' A m (fun i => (f i : Int)) (fun i => (t i : Int)) V → Gives Try.prog 42 #[.int .i64 n, .slice A m cap] w' (.bool true)) := fun w' h => valid_true R w' h
  have CI : Hid (∀ w', IsChs w' A m (fun i => (f i : Int)) (fun i => (t i : Int)) V → IsInts w' B k c → Gives Try.prog 52 #[.agg #[.int .i64 n, .slice A m cap], .slice B k capB] w' (.bool true)) := fun w' h1 h2 => hcb ▸ isCircle_any n m cap k capB A B f t V c w' hk R h1 h2
  have WO : Hid (∀ w', IsChs w' A m (fun i => (f i : Int)) (fun i => (t i : Int)) V → IsInts w' B k c → Gives Try.prog 46 #[.agg #[.int .i64 n, .slice A m cap], .slice B k capB] w' (.int .i64 (wor V (fun i => (c i).toNat) k))) := fun w' h1 h2 => worth_any n m cap k capB A B f t V (fun i => (c i).toNat) w' (by have := R.m40; omega) hk R.v h1 (h2.congr fun i hi => (hcn i hi).1) fun i hi => (hcn i hi).2
  have hwb := wor_bd R.v k fun i hi => (hcn i hi).2
  have LO : Hid (∀ w', Gives Try.prog 53 #[.int .i64 (wor V (fun i => (c i).toNat) k), .int .i64 k] w' (.agg #[.int .i64 (lowN (wor V (fun i => (c i).toNat) k) k), .int .i64 (lowD (wor V (fun i => (c i).toNat) k) k)])) := fun w' => lowest_any _ k w' ⟨by omega, by omega⟩ hk0 (by omega)
  have HP := Lib.hid hp
  have HC := Lib.hid hc
  clear hp hc R hcb hcn hwb
  generalize wor V (fun i => (c i).toNat) k = W0 at *
  generalize lowN W0 k = r1 at *
  generalize lowD W0 k = r2 at *
  go_enter Try.func33, Try.ntmps33
  go_wp2_with (first
    | (go_at_call 42; (first | (with_reducible show Calls _ _ _ (Later.val _) _; with_reducible refine Calls.mono (Later.call _ (VT.out _ (HP.out.later ⟨_, by repeat (first | exact Below.refl _ _ | (with_reducible assumption) | apply below_later | apply below_alloc | apply below_drew | apply below_drewN)⟩))) ?_) | (with_reducible refine Calls.mono (Gives.calls (VT.out _ (HP.out.later ⟨_, by repeat (first | exact Below.refl _ _ | (with_reducible assumption) | apply below_later | apply below_alloc | apply below_drew | apply below_drewN)⟩))) ?_)); rintro e w1 ⟨rfl, z, rfl⟩)
    | (go_at_call 52; with_reducible refine Calls.mono (Gives.calls (CI.out _ (HP.out.later ⟨_, by repeat (first | exact Below.refl _ _ | (with_reducible assumption) | apply below_later | apply below_alloc | apply below_drew | apply below_drewN)⟩) (HC.out.later ⟨_, by repeat (first | exact Below.refl _ _ | (with_reducible assumption) | apply below_later | apply below_alloc | apply below_drew | apply below_drewN)⟩))) ?_; rintro e w1 ⟨rfl, z2, rfl⟩)
    | (go_at_call 46; with_reducible refine Calls.mono (Gives.calls (WO.out _ (HP.out.later ⟨_, by repeat (first | exact Below.refl _ _ | (with_reducible assumption) | apply below_later | apply below_alloc | apply below_drew | apply below_drewN)⟩) (HC.out.later ⟨_, by repeat (first | exact Below.refl _ _ | (with_reducible assumption) | apply below_later | apply below_alloc | apply below_drew | apply below_drewN)⟩))) ?_; rintro e w1 ⟨rfl, z3, rfl⟩))
  go_at_call 53
  refine Calls.mono (Gives.calls (LO.out _)) ?_
  rintro e w1 ⟨rfl, z4, rfl⟩
  have hbz : Below (w.alloc (.cells #[.int .i64 0, .int .i64 0] 44)).heap.size (w.alloc (.cells #[.int .i64 0, .int .i64 0] 44)) z4.val := by repeat (first | exact Below.refl _ _ | (with_reducible assumption) | apply below_later | apply below_alloc | apply below_drew | apply below_drewN)
  obtain ⟨d0, d1, lz, fz0, fz1⟩ := res_facts hbz
  have HBW : Hid (Below w.heap.size w z4.val) := by show Below _ _ _; repeat (first | exact Below.refl _ _ | (with_reducible assumption) | apply below_later | apply below_alloc | apply below_drew | apply below_drewN)
  clear hbz
  generalize z4.val = W5 at *
  go_wp2
  obtain ⟨r0, r1'⟩ := res_put (x := .int .i64 r1) (y := .int .i64 r2) d0 d1
  refine bodyPost_ret (v := .tuple #[.agg #[.int .i64 r1, .int .i64 r2], .int .i64 0]) (by simp [results, Try.results33, go_sem, r0, r1']) rfl ?_
  exact ⟨rfl, later_of ((HBW.out.setCell (by simp) _).setCell (by simp) _)⟩

set_option maxRecDepth 100000 in
set_option maxHeartbeats 1600000 in
theorem Mean_ok (n m cap : Nat) (A : Option Addr) (f t : Nat → Nat) (V : Nat → Int) (w : World) (R : Rot n m f t V) (hp : IsChs w A m (fun i => (f i : Int)) (fun i => (t i : Int)) V) (hcb : circB m f t (fun i => ((bestC n m f t V n).getD i 0 : Nat)) (bestC n m f t V n).length = true) :
    Gives Try.prog 19 #[.int .i64 n, .slice A m cap] w (.tuple #[.agg #[.int .i64 (lowN (worthL V (bestC n m f t V n)) (bestC n m f t V n).length), .int .i64 (lowD (worthL V (bestC n m f t V n)) (bestC n m f t V n).length)], .int .i64 0]) := by
  obtain ⟨hk0, _⟩ := circ_facts hcb
  have hle := (bestC_mem R n (Nat.le_refl _)).2
  have hn8 := R.n8
  have CS : Hid (∀ w', IsChs w' A m (fun i => (f i : Int)) (fun i => (t i : Int)) V → Calls Try.prog 28 #[.int .i64 n, .slice A m cap] w' fun e w'' => ∃ B c, e = .returned (.tuple #[.slice B (bestC n m f t V n).length c, .int .i64 0]) ∧ ∃ x : Later w', w'' = x.val ∧ IsInts w'' B (bestC n m f t V n).length fun i => ((bestC n m f t V n).getD i 0 : Nat)) := fun w' h => Circle_some n m cap A f t V w' R h (by omega)
  have MO : Hid (∀ w' B c, IsChs w' A m (fun i => (f i : Int)) (fun i => (t i : Int)) V → IsInts w' B (bestC n m f t V n).length (fun i => ((bestC n m f t V n).getD i 0 : Nat)) → Gives Try.prog 33 #[.int .i64 n, .slice A m cap, .slice B (bestC n m f t V n).length c] w' (.tuple #[.agg #[.int .i64 (lowN (worthL V (bestC n m f t V n)) (bestC n m f t V n).length), .int .i64 (lowD (worthL V (bestC n m f t V n)) (bestC n m f t V n).length)], .int .i64 0])) := fun w' B c h1 h2 => by
    have h := MeanOf_ok n m cap _ c A B f t V _ w' (by omega) R h1 h2 hcb
    simp only [Int.toNat_natCast] at h
    exact h
  have HP := Lib.hid hp
  clear hp R hcb hk0 hle
  generalize lowN (worthL V (bestC n m f t V n)) (bestC n m f t V n).length = r1 at *
  generalize lowD (worthL V (bestC n m f t V n)) (bestC n m f t V n).length = r2 at *
  generalize bestC n m f t V n = q at *
  generalize q.length = ql at *
  go_enter Try.func19, Try.ntmps19
  go_wp2_with (go_at_call 28; refine Calls.mono (CS.out _ (HP.out.later ⟨_, by repeat (first | exact Below.refl _ _ | (with_reducible assumption) | apply below_later | apply below_alloc | apply below_drew | apply below_drewN)⟩)) ?_; rintro e w1 ⟨B, c, rfl, z, rfl, hi⟩; have HI := Lib.hid hi; clear hi)
  go_at_call 33
  refine Calls.mono (Gives.calls (MO.out _ B c (HP.out.below (by repeat (first | exact Below.refl _ _ | (with_reducible assumption) | apply below_later | apply below_alloc | apply below_drew | apply below_drewN))) HI.out)) ?_
  rintro e w1 ⟨rfl, z4, rfl⟩
  have hbz : Below (w.alloc (.cells #[.int .i64 0, .int .i64 0] 44)).heap.size (w.alloc (.cells #[.int .i64 0, .int .i64 0] 44)) z4.val := by repeat (first | exact Below.refl _ _ | (with_reducible assumption) | apply below_later | apply below_alloc | apply below_drew | apply below_drewN)
  obtain ⟨d0, d1, lz, fz0, fz1⟩ := res_facts hbz
  have HBW : Hid (Below w.heap.size w z4.val) := by show Below _ _ _; repeat (first | exact Below.refl _ _ | (with_reducible assumption) | apply below_later | apply below_alloc | apply below_drew | apply below_drewN)
  clear hbz
  generalize z4.val = W5 at *
  go_wp2
  obtain ⟨r0, r1'⟩ := res_put (x := .int .i64 r1) (y := .int .i64 r2) d0 d1
  refine bodyPost_ret (v := .tuple #[.agg #[.int .i64 r1, .int .i64 r2], .int .i64 0]) (by simp [results, Try.results19, go_sem, r0, r1']) rfl ?_
  exact ⟨rfl, later_of ((HBW.out.setCell (by simp) _).setCell (by simp) _)⟩

/-- The first error of a rotation, a state and a number of years; of a list. -/
def cyE (n : Int) (m : Nat) (F T V : Nat → Int) (start years : Int) : Int := if validR n m F T V = false then 50 else if inS n start = true ∧ 0 ≤ years ∧ years ≤ 100 then 0 else 2
def cpE (n : Int) (m : Nat) (F T V : Nat → Int) (start : Int) (k : Nat) : Int := if validR n m F T V = false then 50 else if inS n start = true ∧ k ≤ 1000 then 0 else 2
set_option maxRecDepth 100000 in
theorem checkYears_any (n start years : Int) (m cap : Nat) (A : Option Addr) (F T V : Nat → Int) (w : World) (hm : m ≤ 1000) (hp : IsChs w A m F T V) :
    Gives Try.prog 35 #[.int .i64 n, .slice A m cap, .int .i64 start, .int .i64 years] w (.int .i64 (cyE n m F T V start years)) := by
  have VT : Hid (∀ w', IsChs w' A m F T V → Gives Try.prog 42 #[.int .i64 n, .slice A m cap] w' (.bool (validR n m F T V))) := fun w' h => wvalid_any n A m cap F T V w' hm h
  have IS : Hid (∀ w', Gives Try.prog 54 #[.int .i64 n, .int .i64 start] w' (.bool (inS n start))) := fun w' => isState_any n start w'
  have HE : Hid (cyE n m F T V start years = if validR n m F T V = false then 50 else if inS n start = true ∧ 0 ≤ years ∧ years ≤ 100 then 0 else 2) := rfl
  have HP := Lib.hid hp
  generalize cyE n m F T V start years = r at *
  generalize validR n m F T V = b1 at *
  generalize inS n start = b2 at *
  clear hp
  cases b1
  · go_enter Try.func35, Try.ntmps35
    go_wp2_with (go_at_call 42; (first | (with_reducible show Calls _ _ _ (Later.val _) _; with_reducible refine Calls.mono (Later.call _ (VT.out _ (HP.out.later ⟨_, by repeat (first | exact Below.refl _ _ | (with_reducible assumption) | apply below_later | apply below_alloc | apply below_drew | apply below_drewN)⟩))) ?_) | (with_reducible refine Calls.mono (Gives.calls (VT.out _ (HP.out.later ⟨_, by repeat (first | exact Below.refl _ _ | (with_reducible assumption) | apply below_later | apply below_alloc | apply below_drew | apply below_drewN)⟩))) ?_)); rintro e w1 ⟨rfl, z, rfl⟩)
    go_ret
    exact ⟨ret_int (by rw [HE.out]; simp), later_of (by repeat (first | exact Below.refl _ _ | (with_reducible assumption) | apply below_later | apply below_alloc | apply below_drew | apply below_drewN))⟩
  · cases b2
    · go_enter Try.func35, Try.ntmps35
      go_wp2_with (first | (go_at_call 42; (first | (with_reducible show Calls _ _ _ (Later.val _) _; with_reducible refine Calls.mono (Later.call _ (VT.out _ (HP.out.later ⟨_, by repeat (first | exact Below.refl _ _ | (with_reducible assumption) | apply below_later | apply below_alloc | apply below_drew | apply below_drewN)⟩))) ?_) | (with_reducible refine Calls.mono (Gives.calls (VT.out _ (HP.out.later ⟨_, by repeat (first | exact Below.refl _ _ | (with_reducible assumption) | apply below_later | apply below_alloc | apply below_drew | apply below_drewN)⟩))) ?_)); rintro e w1 ⟨rfl, z, rfl⟩) | (go_at_call 54; with_reducible refine Calls.mono (Gives.calls (IS.out _)) ?_; rintro e w1 ⟨rfl, z2, rfl⟩))
      go_ret
      exact ⟨ret_int (by rw [HE.out]; simp), later_of (by repeat (first | exact Below.refl _ _ | (with_reducible assumption) | apply below_later | apply below_alloc | apply below_drew | apply below_drewN))⟩
    · by_cases h1 : years < 0
      · have HF : Hid (r = 2) := by show _ = _; rw [HE.out]; simp; omega
        go_enter Try.func35, Try.ntmps35
        go_wp2_with (first | (go_at_call 42; (first | (with_reducible show Calls _ _ _ (Later.val _) _; with_reducible refine Calls.mono (Later.call _ (VT.out _ (HP.out.later ⟨_, by repeat (first | exact Below.refl _ _ | (with_reducible assumption) | apply below_later | apply below_alloc | apply below_drew | apply below_drewN)⟩))) ?_) | (with_reducible refine Calls.mono (Gives.calls (VT.out _ (HP.out.later ⟨_, by repeat (first | exact Below.refl _ _ | (with_reducible assumption) | apply below_later | apply below_alloc | apply below_drew | apply below_drewN)⟩))) ?_)); rintro e w1 ⟨rfl, z, rfl⟩) | (go_at_call 54; with_reducible refine Calls.mono (Gives.calls (IS.out _)) ?_; rintro e w1 ⟨rfl, z2, rfl⟩))
        go_ret
        exact ⟨ret_int HF.out.symm, later_of (by repeat (first | exact Below.refl _ _ | (with_reducible assumption) | apply below_later | apply below_alloc | apply below_drew | apply below_drewN))⟩
      · by_cases h2 : 100 < years
        · have HF : Hid (r = 2) := by show _ = _; rw [HE.out]; simp; omega
          go_enter Try.func35, Try.ntmps35
          go_wp2_with (first | (go_at_call 42; (first | (with_reducible show Calls _ _ _ (Later.val _) _; with_reducible refine Calls.mono (Later.call _ (VT.out _ (HP.out.later ⟨_, by repeat (first | exact Below.refl _ _ | (with_reducible assumption) | apply below_later | apply below_alloc | apply below_drew | apply below_drewN)⟩))) ?_) | (with_reducible refine Calls.mono (Gives.calls (VT.out _ (HP.out.later ⟨_, by repeat (first | exact Below.refl _ _ | (with_reducible assumption) | apply below_later | apply below_alloc | apply below_drew | apply below_drewN)⟩))) ?_)); rintro e w1 ⟨rfl, z, rfl⟩) | (go_at_call 54; with_reducible refine Calls.mono (Gives.calls (IS.out _)) ?_; rintro e w1 ⟨rfl, z2, rfl⟩))
          go_ret
          exact ⟨ret_int HF.out.symm, later_of (by repeat (first | exact Below.refl _ _ | (with_reducible assumption) | apply below_later | apply below_alloc | apply below_drew | apply below_drewN))⟩
        · have HF : Hid (r = 0) := by show _ = _; rw [HE.out]; simp; omega
          go_enter Try.func35, Try.ntmps35
          go_wp2_with (first | (go_at_call 42; (first | (with_reducible show Calls _ _ _ (Later.val _) _; with_reducible refine Calls.mono (Later.call _ (VT.out _ (HP.out.later ⟨_, by repeat (first | exact Below.refl _ _ | (with_reducible assumption) | apply below_later | apply below_alloc | apply below_drew | apply below_drewN)⟩))) ?_) | (with_reducible refine Calls.mono (Gives.calls (VT.out _ (HP.out.later ⟨_, by repeat (first | exact Below.refl _ _ | (with_reducible assumption) | apply below_later | apply below_alloc | apply below_drew | apply below_drewN)⟩))) ?_)); rintro e w1 ⟨rfl, z, rfl⟩) | (go_at_call 54; with_reducible refine Calls.mono (Gives.calls (IS.out _)) ?_; rintro e w1 ⟨rfl, z2, rfl⟩))
          go_ret
          exact ⟨ret_int HF.out.symm, later_of (by repeat (first | exact Below.refl _ _ | (with_reducible assumption) | apply below_later | apply below_alloc | apply below_drew | apply below_drewN))⟩
set_option maxRecDepth 100000 in
theorem checkPlan_any (n start : Int) (m cap k capB : Nat) (A B : Option Addr) (F T V : Nat → Int) (w : World) (hm : m ≤ 1000) (hp : IsChs w A m F T V) :
    Gives Try.prog 44 #[.int .i64 n, .slice A m cap, .int .i64 start, .slice B k capB] w (.int .i64 (cpE n m F T V start k)) := by
  have VT : Hid (∀ w', IsChs w' A m F T V → Gives Try.prog 42 #[.int .i64 n, .slice A m cap] w' (.bool (validR n m F T V))) := fun w' h => wvalid_any n A m cap F T V w' hm h
  have IS : Hid (∀ w', Gives Try.prog 54 #[.int .i64 n, .int .i64 start] w' (.bool (inS n start))) := fun w' => isState_any n start w'
  have HE : Hid (cpE n m F T V start k = if validR n m F T V = false then 50 else if inS n start = true ∧ k ≤ 1000 then 0 else 2) := rfl
  have HP := Lib.hid hp
  generalize cpE n m F T V start k = r at *
  generalize validR n m F T V = b1 at *
  generalize inS n start = b2 at *
  clear hp
  cases b1
  · go_enter Try.func44, Try.ntmps44
    go_wp2_with (go_at_call 42; (first | (with_reducible show Calls _ _ _ (Later.val _) _; with_reducible refine Calls.mono (Later.call _ (VT.out _ (HP.out.later ⟨_, by repeat (first | exact Below.refl _ _ | (with_reducible assumption) | apply below_later | apply below_alloc | apply below_drew | apply below_drewN)⟩))) ?_) | (with_reducible refine Calls.mono (Gives.calls (VT.out _ (HP.out.later ⟨_, by repeat (first | exact Below.refl _ _ | (with_reducible assumption) | apply below_later | apply below_alloc | apply below_drew | apply below_drewN)⟩))) ?_)); rintro e w1 ⟨rfl, z, rfl⟩)
    go_ret
    exact ⟨ret_int (by rw [HE.out]; simp), later_of (by repeat (first | exact Below.refl _ _ | (with_reducible assumption) | apply below_later | apply below_alloc | apply below_drew | apply below_drewN))⟩
  · cases b2
    · go_enter Try.func44, Try.ntmps44
      go_wp2_with (first | (go_at_call 42; (first | (with_reducible show Calls _ _ _ (Later.val _) _; with_reducible refine Calls.mono (Later.call _ (VT.out _ (HP.out.later ⟨_, by repeat (first | exact Below.refl _ _ | (with_reducible assumption) | apply below_later | apply below_alloc | apply below_drew | apply below_drewN)⟩))) ?_) | (with_reducible refine Calls.mono (Gives.calls (VT.out _ (HP.out.later ⟨_, by repeat (first | exact Below.refl _ _ | (with_reducible assumption) | apply below_later | apply below_alloc | apply below_drew | apply below_drewN)⟩))) ?_)); rintro e w1 ⟨rfl, z, rfl⟩) | (go_at_call 54; with_reducible refine Calls.mono (Gives.calls (IS.out _)) ?_; rintro e w1 ⟨rfl, z2, rfl⟩))
      go_ret
      exact ⟨ret_int (by rw [HE.out]; simp), later_of (by repeat (first | exact Below.refl _ _ | (with_reducible assumption) | apply below_later | apply below_alloc | apply below_drew | apply below_drewN))⟩
    · by_cases h1 : k ≤ 1000
      · have HF : Hid (r = 0) := by show _ = _; rw [HE.out]; simp; omega
        go_enter Try.func44, Try.ntmps44
        go_wp2_with (first | (go_at_call 42; (first | (with_reducible show Calls _ _ _ (Later.val _) _; with_reducible refine Calls.mono (Later.call _ (VT.out _ (HP.out.later ⟨_, by repeat (first | exact Below.refl _ _ | (with_reducible assumption) | apply below_later | apply below_alloc | apply below_drew | apply below_drewN)⟩))) ?_) | (with_reducible refine Calls.mono (Gives.calls (VT.out _ (HP.out.later ⟨_, by repeat (first | exact Below.refl _ _ | (with_reducible assumption) | apply below_later | apply below_alloc | apply below_drew | apply below_drewN)⟩))) ?_)); rintro e w1 ⟨rfl, z, rfl⟩) | (go_at_call 54; with_reducible refine Calls.mono (Gives.calls (IS.out _)) ?_; rintro e w1 ⟨rfl, z2, rfl⟩))
        go_ret
        exact ⟨ret_int HF.out.symm, later_of (by repeat (first | exact Below.refl _ _ | (with_reducible assumption) | apply below_later | apply below_alloc | apply below_drew | apply below_drewN))⟩
      · have HF : Hid (r = 2) := by show _ = _; rw [HE.out]; simp; omega
        go_enter Try.func44, Try.ntmps44
        go_wp2_with (first | (go_at_call 42; (first | (with_reducible show Calls _ _ _ (Later.val _) _; with_reducible refine Calls.mono (Later.call _ (VT.out _ (HP.out.later ⟨_, by repeat (first | exact Below.refl _ _ | (with_reducible assumption) | apply below_later | apply below_alloc | apply below_drew | apply below_drewN)⟩))) ?_) | (with_reducible refine Calls.mono (Gives.calls (VT.out _ (HP.out.later ⟨_, by repeat (first | exact Below.refl _ _ | (with_reducible assumption) | apply below_later | apply below_alloc | apply below_drew | apply below_drewN)⟩))) ?_)); rintro e w1 ⟨rfl, z, rfl⟩) | (go_at_call 54; with_reducible refine Calls.mono (Gives.calls (IS.out _)) ?_; rintro e w1 ⟨rfl, z2, rfl⟩))
        go_ret
        exact ⟨ret_int HF.out.symm, later_of (by repeat (first | exact Below.refl _ _ | (with_reducible assumption) | apply below_later | apply below_alloc | apply below_drew | apply below_drewN))⟩

set_option maxRecDepth 100000 in
set_option maxHeartbeats 1600000 in
/-- Best of a valid rotation, state and number of years. -/
theorem Best_ok (n m cap start years : Nat) (A : Option Addr) (f t : Nat → Nat) (V : Nat → Int) (w : World) (hs : start < n) (hy : years ≤ 100) (R : Rot n m f t V) (hp : IsChs w A m (fun i => (f i : Int)) (fun i => (t i : Int)) V) :
    Gives Try.prog 9 #[.int .i64 n, .slice A m cap, .int .i64 start, .int .i64 years] w (if (wrow n m f t V years).getD start 0 = nope then .tuple #[.int .i64 0, .int .i64 5] else .tuple #[.int .i64 ((wrow n m f t V years).getD start 0), .int .i64 0]) := by
  have CY : Hid (∀ w', IsChs w' A m (fun i => (f i : Int)) (fun i => (t i : Int)) V → Gives Try.prog 35 #[.int .i64 n, .slice A m cap, .int .i64 start, .int .i64 years] w' (.int .i64 0)) := fun w' h => by
    have h1 := checkYears_any n start years m cap A _ _ V w' (by have := R.m40; omega) h
    unfold cyE at h1
    rw [rot_valid R, if_neg (by simp), if_pos ⟨inS_nat hs, by omega, by omega⟩] at h1
    exact h1
  have WO : Hid (∀ w, IsChs w A m (fun i => (f i : Int)) (fun i => (t i : Int)) V → Calls Try.prog 36 #[.agg #[.int .i64 n, .slice A m cap], .int .i64 years] w fun e w' => ∃ v, e = .returned v ∧ ∃ x : Later w, w' = x.val ∧ Tab w' w.heap.size v (years + 1) n (wrow n m f t V)) := fun w h => worths_any n m cap years A f t V w hy R h
  have HP := Lib.hid hp
  clear hp R
  obtain ⟨s0, hs0⟩ : ∃ s0, (wrow n m f t V years).getD start 0 = s0 := ⟨_, rfl⟩
  have HS0 := Lib.hid hs0
  rw [hs0]
  by_cases hno : s0 = nope
  · rw [if_pos hno]
    have hd0 : (s0 == -9223372036854775808) = true := by rw [hno]; rfl
    clear hs0 hno
    go_enter Try.func9, Try.ntmps9
    go_wp2_with (first
      | (go_at_call 35; (first | (with_reducible show Calls _ _ _ (Later.val _) _; with_reducible refine Calls.mono (Later.call _ (CY.out _ (HP.out.later ⟨_, by repeat (first | exact Below.refl _ _ | (with_reducible assumption) | apply below_later | apply below_alloc | apply below_drew | apply below_drewN)⟩))) ?_) | (with_reducible refine Calls.mono (Gives.calls (CY.out _ (HP.out.later ⟨_, by repeat (first | exact Below.refl _ _ | (with_reducible assumption) | apply below_later | apply below_alloc | apply below_drew | apply below_drewN)⟩))) ?_)); rintro e w1 ⟨rfl, z2, rfl⟩)
      | (go_at_call 36; refine Calls.mono (WO.out _ (HP.out.below (by repeat (first | exact Below.refl _ _ | (with_reducible assumption) | apply below_later | apply below_alloc | apply below_drew | apply below_drewN)))) ?_; rintro e w1 ⟨v, rfl, z, rfl, ht⟩; obtain ⟨go, co, rfl, hg1, hg2, hrows⟩ := ht.form (by omega); obtain ⟨gr, cgr, lgr, ogr, hlr⟩ := hrows years (by omega); have c4 := (ogr.cell hlr hs).1; rw [HS0.out] at c4; clear ht hrows ogr hlr))
    go_ret2
    exact ⟨rfl, later_of (by repeat (first | exact Below.refl _ _ | (with_reducible assumption) | apply below_later | apply below_alloc | apply below_drew | apply below_drewN))⟩
  · rw [if_neg hno]
    have hd0 : (s0 == -9223372036854775808) = false := by simpa [nope] using hno
    clear hs0 hno
    go_enter Try.func9, Try.ntmps9
    go_wp2_with (first
      | (go_at_call 35; (first | (with_reducible show Calls _ _ _ (Later.val _) _; with_reducible refine Calls.mono (Later.call _ (CY.out _ (HP.out.later ⟨_, by repeat (first | exact Below.refl _ _ | (with_reducible assumption) | apply below_later | apply below_alloc | apply below_drew | apply below_drewN)⟩))) ?_) | (with_reducible refine Calls.mono (Gives.calls (CY.out _ (HP.out.later ⟨_, by repeat (first | exact Below.refl _ _ | (with_reducible assumption) | apply below_later | apply below_alloc | apply below_drew | apply below_drewN)⟩))) ?_)); rintro e w1 ⟨rfl, z2, rfl⟩)
      | (go_at_call 36; refine Calls.mono (WO.out _ (HP.out.below (by repeat (first | exact Below.refl _ _ | (with_reducible assumption) | apply below_later | apply below_alloc | apply below_drew | apply below_drewN)))) ?_; rintro e w1 ⟨v, rfl, z, rfl, ht⟩; obtain ⟨go, co, rfl, hg1, hg2, hrows⟩ := ht.form (by omega); obtain ⟨gr, cgr, lgr, ogr, hlr⟩ := hrows years (by omega); have c4 := (ogr.cell hlr hs).1; rw [HS0.out] at c4; clear ht hrows ogr hlr))
    go_ret2
    exact ⟨rfl, later_of (by repeat (first | exact Below.refl _ _ | (with_reducible assumption) | apply below_later | apply below_alloc | apply below_drew | apply below_drewN))⟩
end Go.Proofs.Ytnjloomhhgilcaa
