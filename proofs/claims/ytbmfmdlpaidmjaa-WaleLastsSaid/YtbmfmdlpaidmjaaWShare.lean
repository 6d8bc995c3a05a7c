/- Shares and means of circles: the program's and the document's. -/
import Derived.Test.YtbmfmdlpaidmjaaWCircRef
namespace Go.Proofs.Ytbmfmdlpaidmjaa
open Go.RowKit

/-- How many of the first k changes have From s. -/
def cntF (f p : Nat → Nat) (s : Nat) : Nat → Nat
  | 0 => 0
  | k + 1 => cntF f p s k + if f (p k) = s then 1 else 0
theorem cntF_le (f p : Nat → Nat) (s k : Nat) : cntF f p s k ≤ k := by
  induction k with
  | zero => simp [cntF]
  | succ k ih => unfold cntF; split <;> omega

set_option maxRecDepth 100000 in
set_option maxHeartbeats 1600000 in
theorem rshare_any (n m cap k capB s : Nat) (A B : Option Addr) (f t : Nat → Nat) (V : Nat → Int) (p : Nat → Nat) (w : World) (hk0 : 0 < k) (hk : k ≤ 2000) (hs : s ≤ 8) (R : Rot n m f t V) (hp : IsChs w A m (fun i => (f i : Int)) (fun i => (t i : Int)) V) (hc : IsInts w B k fun i => (p i : Int)) (hpm : ∀ i, i < k → p i < m) :
    Gives Try.prog 37 #[.slice A m cap, .slice B k capB, .int .i64 s] w (.agg #[.int .i64 (lowN (cntF f p s k) k), .int .i64 (lowD (cntF f p s k) k)]) := by
  have hn8 := R.n8
  have hm40 := R.m40
  have HR := Lib.hid R
  have LO : Hid (∀ w', Gives Try.prog 56 #[.int .i64 (cntF f p s k : Nat), .int .i64 k] w' (.agg #[.int .i64 (lowN (cntF f p s k) k), .int .i64 (lowD (cntF f p s k) k)])) := fun w' => ratio_any _ k w' ⟨by omega, by have := cntF_le f p s k; omega⟩ hk0 (by omega)
  have hb : Below w.heap.size w (w.alloc (.cells #[.int .i64 0, .int .i64 0] 50)) := (Below.refl _ _).alloc (Nat.le_refl _) _
  have HPZ : Hid (IsChs (w.alloc (.cells #[.int .i64 0, .int .i64 0] 50)) A m (fun i => (f i : Int)) (fun i => (t i : Int)) V) := hp.below hb
  have HCZ : Hid (IsInts (w.alloc (.cells #[.int .i64 0, .int .i64 0] 50)) B k fun i => (p i : Int)) := hc.below hb
  have HPM := Lib.hid hpm
  have RS : Hid (∀ V', Below (w.alloc (.cells #[.int .i64 0, .int .i64 0] 50)).heap.size (w.alloc (.cells #[.int .i64 0, .int .i64 0] 50)) V' → (V'.cell? ⟨w.heap.size, 0, none⟩ = some (.int .i64 0) ∧ V'.cell? ⟨w.heap.size, 1, none⟩ = some (.int .i64 0) ∧ w.heap.size < V'.heap.size ∧ V'.frozen? ⟨w.heap.size, 0, none⟩ = false ∧ V'.frozen? ⟨w.heap.size, 1, none⟩ = false) ∧ Below w.heap.size w V') := fun V' h => ⟨res_facts h, hb.trans (h.mono hb.size)⟩
  clear hp hc hb R hpm
  generalize lowN (cntF f p s k) k = r1 at *
  generalize lowD (cntF f p s k) k = r2 at *
  go_enter Try.func37, Try.ntmps37
  go_wp2
  obtain ⟨b8, hb8⟩ : ∃ b8, w.heap.size = b8 := ⟨_, rfl⟩
  have HB8 := Lib.hid hb8
  rw [hb8] at RS ⊢
  clear hb8
  generalize w.alloc (.cells #[.int .i64 0, .int .i64 0] 50) = Z at *
  go_loopw [7, 8] (fun u v wr => ∃ j : Nat, u = .int .i64 (cntF f p s j : Nat) ∧ v = .int .i64 (j : Nat) ∧ j ≤ k ∧ ∃ x : Later Z, wr = x.val) (fun _ v _ => k - (intOf v).toNat)
  case atStart => exact ⟨0, rfl, rfl, by omega, later_of (by repeat (first | exact Below.refl _ _ | (with_reducible assumption) | apply below_later | apply below_alloc | apply below_drew | apply below_drewN))⟩
  case round =>
    obtain ⟨j, rfl, rfl, hj, x, rfl⟩ := hrel
    by_cases hlt : j < k
    · obtain ⟨bb, oo, hB, q⟩ := (HCZ.out.later x).at_ (by omega)
      subst hB
      have cj := q.at_ j hlt
      have lq := q.lt
      have him := HPM.out j hlt
      obtain ⟨ba, oa, hA, pp⟩ := (HPZ.out.later x).at_ (by omega)
      subst hA
      have cf := pp.f _ him
      have lp := pp.lt
      have hcl := cntF_le f p s j
      have HW : Hid (cntF f p s (j + 1) = cntF f p s j + if f (p j) = s then 1 else 0) := rfl
      generalize cntF f p s j = g at *
      clear pp q
      by_cases e : f (p j) = s
      · have e1 : ((f (p j) : Int) == (s : Int)) = true := by simp [e]
        have HW2 : Hid (cntF f p s (j + 1) = g + 1) := by show _ = _; rw [HW.out, if_pos e]
        clear e HW
        go_wp2
        go_roundw
        case rel => exact ⟨j + 1, by rw [HW2.out]; go_num, by go_num, by omega, later_of (by repeat (first | exact Below.refl _ _ | (with_reducible assumption) | apply below_later | apply below_alloc | apply below_drew | apply below_drewN))⟩
        case measure => simp [intOf]; omega
      · have e1 : ((f (p j) : Int) == (s : Int)) = false := by rw [beq_eq_false_iff_ne]; omega
        have HW2 : Hid (cntF f p s (j + 1) = g) := by show _ = _; rw [HW.out, if_neg e]; rfl
        clear e HW
        go_wp2
        go_roundw
        case rel => exact ⟨j + 1, by rw [HW2.out], by go_num, by omega, later_of (by repeat (first | exact Below.refl _ _ | (with_reducible assumption) | apply below_later | apply below_alloc | apply below_drew | apply below_drewN))⟩
        case measure => simp [intOf]; omega
    · obtain rfl : j = k := by omega
      go_wp2_with fail
      go_at_call 56
      refine Calls.mono (Gives.calls (LO.out _)) ?_
      rintro e w1 ⟨rfl, z4, rfl⟩
      obtain ⟨⟨d0, d1, lz, fz0, fz1⟩, HBW⟩ := RS.out z4.val (below_later x.ok)
      have HBW2 : Hid (Below w.heap.size w z4.val) := by have h := HBW; rw [← HB8.out] at h; exact h
      clear HBW
      generalize z4.val = W5 at *
      go_wp2
      obtain ⟨r0, r1'⟩ := res_put (x := .int .i64 r1) (y := .int .i64 r2) d0 d1
      refine bodyPost_ret (v := .agg #[.int .i64 r1, .int .i64 r2]) (by simp [results, Try.results37, go_sem, r0, r1']) rfl ?_
      exact ⟨rfl, later_of ((HBW2.out.setCell (by have := HB8.out; simp; omega) _).setCell (by have := HB8.out; simp; omega) _)⟩

set_option maxRecDepth 100000 in
set_option maxHeartbeats 1600000 in
theorem rmeanof_any (m cap k capB : Nat) (A B : Option Addr) (f t : Nat → Nat) (V : Nat → Int) (p : Nat → Nat) (w : World) (hm : m ≤ 1000) (hk0 : 0 < k) (hk : k ≤ 2000) (hv : ∀ i, i < m → -1000 ≤ V i ∧ V i ≤ 1000) (hp : IsChs w A m (fun i => (f i : Int)) (fun i => (t i : Int)) V) (hc : IsInts w B k fun i => (p i : Int)) (hpm : ∀ i, i < k → p i < m) :
    Gives Try.prog 38 #[.slice A m cap, .slice B k capB] w (.agg #[.int .i64 (lowN (wor V p k) k), .int .i64 (lowD (wor V p k) k)]) := by
  have hwb := wor_bd hv k hpm
  have LO : Hid (∀ w', Gives Try.prog 56 #[.int .i64 (wor V p k), .int .i64 k] w' (.agg #[.int .i64 (lowN (wor V p k) k), .int .i64 (lowD (wor V p k) k)])) := fun w' => ratio_any _ k w' ⟨by omega, by omega⟩ hk0 (by omega)
  have WO : Hid (∀ w', IsChs w' A m (fun i => (f i : Int)) (fun i => (t i : Int)) V → IsInts w' B k (fun i => (p i : Int)) → Gives Try.prog 19 #[.slice A m cap, .slice B k capB] w' (.int .i64 (wor V p k))) := fun w' h1 h2 => rworth_any m cap k capB A B f t V p w' hm hk hv h1 h2 hpm
  have HP := Lib.hid hp
  have HC := Lib.hid hc
  clear hp hc hwb hv
  generalize wor V p k = W0 at *
  generalize lowN W0 k = r1 at *
  generalize lowD W0 k = r2 at *
  go_enter Try.func38, Try.ntmps38
  go_wp2_with (go_at_call 19; with_reducible refine Calls.mono (Gives.calls (WO.out _ (HP.out.below (by repeat (first | exact Below.refl _ _ | (with_reducible assumption) | apply below_later | apply below_alloc | apply below_drew | apply below_drewN))) (HC.out.below (by repeat (first | exact Below.refl _ _ | (with_reducible assumption) | apply below_later | apply below_alloc | apply below_drew | apply below_drewN))))) ?_; rintro e w1 ⟨rfl, z3, rfl⟩)
  go_at_call 56
  refine Calls.mono (Gives.calls (LO.out _)) ?_
  rintro e w1 ⟨rfl, z4, rfl⟩
  have hbz : Below (w.alloc (.cells #[.int .i64 0, .int .i64 0] 50)).heap.size (w.alloc (.cells #[.int .i64 0, .int .i64 0] 50)) z4.val := by repeat (first | exact Below.refl _ _ | (with_reducible assumption) | apply below_later | apply below_alloc | apply below_drew | apply below_drewN)
  obtain ⟨d0, d1, lz, fz0, fz1⟩ := res_facts hbz
  have HBW : Hid (Below w.heap.size w z4.val) := by show Below _ _ _; repeat (first | exact Below.refl _ _ | (with_reducible assumption) | apply below_later | apply below_alloc | apply below_drew | apply below_drewN)
  clear hbz
  generalize z4.val = W5 at *
  go_wp2
  obtain ⟨r0, r1'⟩ := res_put (x := .int .i64 r1) (y := .int .i64 r2) d0 d1
  refine bodyPost_ret (v := .agg #[.int .i64 r1, .int .i64 r2]) (by simp [results, Try.results38, go_sem, r0, r1']) rfl ?_
  exact ⟨rfl, later_of ((HBW.out.setCell (by simp) _).setCell (by simp) _)⟩

set_option maxRecDepth 100000 in
theorem IsCircle_ok (n m cap k capB : Nat) (A B : Option Addr) (f t : Nat → Nat) (V : Nat → Int) (c : Nat → Int) (w : World) (hk : k ≤ 2000) (R : Rot n m f t V) (hp : IsChs w A m (fun i => (f i : Int)) (fun i => (t i : Int)) V) (hc : IsInts w B k c) :
    Gives Try.prog 33 #[.int .i64 n, .slice A m cap, .slice B k capB] w (.tuple #[.bool (circB m f t c k), .int .i64 0]) := by
  have VT : Hid (∀ w', IsChs w' A m (fun i => (f i : Int)) (fun i => (t i : Int)) V → Gives Try.prog 15 #[.int .i64 n, .slice A m cap] w' (.bool true)) := fun w' h => valid_true R w' h
  have CI : Hid (∀ w', IsChs w' A m (fun i => (f i : Int)) (fun i => (t i : Int)) V → IsInts w' B k c → Gives Try.prog 57 #[.agg #[.int .i64 n, .slice A m cap], .slice B k capB] w' (.bool (circB m f t c k))) := fun w' h1 h2 => isCircle_any n m cap k capB A B f t V c w' hk R h1 h2
  have HP := Lib.hid hp
  have HC := Lib.hid hc
  clear hp hc R
  generalize circB m f t c k = rr at *
  go_enter Try.func33, Try.ntmps33
  go_wp2_with (first
    | (go_at_call 15; (first | (with_reducible show Calls _ _ _ (Later.val _) _; with_reducible refine Calls.mono (Later.call _ (VT.out _ (HP.out.below (by repeat (first | exact Below.refl _ _ | (with_reducible assumption) | apply below_later | apply below_alloc | apply below_drew | apply below_drewN))))) ?_) | (with_reducible refine Calls.mono (Gives.calls (VT.out _ (HP.out.below (by repeat (first | exact Below.refl _ _ | (with_reducible assumption) | apply below_later | apply below_alloc | apply below_drew | apply below_drewN))))) ?_)); rintro e w1 ⟨rfl, z, rfl⟩)
    | (go_at_call 57; (first | (with_reducible show Calls _ _ _ (Later.val _) _; with_reducible refine Calls.mono (Later.call _ (CI.out _ (HP.out.below (by repeat (first | exact Below.refl _ _ | (with_reducible assumption) | apply below_later | apply below_alloc | apply below_drew | apply below_drewN))) (HC.out.below (by repeat (first | exact Below.refl _ _ | (with_reducible assumption) | apply below_later | apply below_alloc | apply below_drew | apply below_drewN))))) ?_) | (with_reducible refine Calls.mono (Gives.calls (CI.out _ (HP.out.below (by repeat (first | exact Below.refl _ _ | (with_reducible assumption) | apply below_later | apply below_alloc | apply below_drew | apply below_drewN))) (HC.out.below (by repeat (first | exact Below.refl _ _ | (with_reducible assumption) | apply below_later | apply below_alloc | apply below_drew | apply below_drewN))))) ?_)); rintro e w1 ⟨rfl, z2, rfl⟩))
  go_ret2
  exact ⟨rfl, later_of (by repeat (first | exact Below.refl _ _ | (with_reducible assumption) | apply below_later | apply below_alloc | apply below_drew | apply below_drewN))⟩
set_option maxRecDepth 100000 in
theorem IsCircle_bad (n : Int) (m cap k capB : Nat) (A B : Option Addr) (F T V : Nat → Int) (w : World) (hm : m ≤ 1000) (hp : IsChs w A m F T V) (hv : validR n m F T V = false) :
    Gives Try.prog 33 #[.int .i64 n, .slice A m cap, .slice B k capB] w (.tuple #[.bool false, .int .i64 50]) := by
  have VT : Hid (∀ w', IsChs w' A m F T V → Gives Try.prog 15 #[.int .i64 n, .slice A m cap] w' (.bool false)) := fun w' h => hv ▸ wvalid_any n A m cap F T V w' hm h
  have HP := Lib.hid hp
  clear hp hv
  go_enter Try.func33, Try.ntmps33
  go_wp2_with (go_at_call 15; (first | (with_reducible show Calls _ _ _ (Later.val _) _; with_reducible refine Calls.mono (Later.call _ (VT.out _ (HP.out.below (by repeat (first | exact Below.refl _ _ | (with_reducible assumption) | apply below_later | apply below_alloc | apply below_drew | apply below_drewN))))) ?_) | (with_reducible refine Calls.mono (Gives.calls (VT.out _ (HP.out.below (by repeat (first | exact Below.refl _ _ | (with_reducible assumption) | apply below_later | apply below_alloc | apply below_drew | apply below_drewN))))) ?_)); rintro e w1 ⟨rfl, z, rfl⟩)
  go_ret2
  exact ⟨rfl, later_of (by repeat (first | exact Below.refl _ _ | (with_reducible assumption) | apply below_later | apply below_alloc | apply below_drew | apply below_drewN))⟩
end Go.Proofs.Ytbmfmdlpaidmjaa
