/- wale's Proves, whole, and the document's. -/
import Derived.Test.YtnjloomhhgilcaaWProves
namespace Go.Proofs.Ytnjloomhhgilcaa
open Go.RowKit

/-- The boxes that Proves' closure reads: the mean, the heights. -/
structure PM (w : World) (bm bh g o n hc : Nat) (N D : Int) (H : Nat → Int) : Prop where
  m0 : w.cell? ⟨bm, 0, none⟩ = some (.int .i64 N)
  m1 : w.cell? ⟨bm, 1, none⟩ = some (.int .i64 D)
  h0 : w.cell? ⟨bh, 0, none⟩ = some (.slice (some ⟨g, o, none⟩) n hc)
  hs : Ints w g o n H
theorem PM.later {w : World} {bm bh g o n hc : Nat} {N D : Int} {H : Nat → Int} (h : PM w bm bh g o n hc N D H) (x : Later w) : PM x.val bm bh g o n hc N D H :=
  ⟨(x.cell _ _ (World.block_lt_of_cell? _ _ h.m0)).trans h.m0, (x.cell _ _ (World.block_lt_of_cell? _ _ h.m1)).trans h.m1, (x.cell _ _ (World.block_lt_of_cell? _ _ h.h0)).trans h.h0, h.hs.later x⟩
theorem PM.below {w v : World} {bm bh g o n hc : Nat} {N D : Int} {H : Nat → Int} (h : PM w bm bh g o n hc N D H) (hb : Below w.heap.size w v) : PM v bm bh g o n hc N D H := h.later ⟨v, hb⟩
theorem prod_bd {n D V : Int} (hn8 : n ≤ 8) (hD : 1 ≤ D ∧ D ≤ n) (hV : -1000 ≤ V ∧ V ≤ 1000) : -8000 ≤ D * V ∧ D * V ≤ 8000 := by
  have := mul_bd (a := D) (b := V) 8 1000 (by omega) (by omega) hV.1 hV.2
  omega
set_option maxRecDepth 100000 in
set_option maxHeartbeats 1600000 in
theorem proves1_any (n bm bh g o hc i : Nat) (N D : Int) (H : Nat → Int) (f t : Nat → Nat) (V : Nat → Int) (w : World) (h : PM w bm bh g o n hc N D H) (hn8 : n ≤ 8) (hf : f i < n) (ht : t i < n) (hv : -1000 ≤ V i ∧ V i ≤ 1000)
    (hD : 1 ≤ D ∧ D ≤ n) (hN : -8000 ≤ N ∧ N ≤ 8000) (hH : ∀ i, i < n → -1000000 ≤ H i ∧ H i ≤ 1000000) :
    Gives Try.prog 51 #[.agg #[.int .i64 (f i : Nat), .int .i64 (t i : Nat), .int .i64 (V i)], .pointer (some ⟨bm, 0, none⟩), .pointer (some ⟨bh, 0, none⟩)] w (.bool (!stepOk f t V H N D i)) := by
  have hb : Below w.heap.size w (w.alloc (.cells #[.int .i64 (f i : Nat), .int .i64 (t i : Nat), .int .i64 (V i)] 50)) := (Below.refl _ _).alloc (Nat.le_refl _) _
  have h2 : PM (w.alloc (.cells #[.int .i64 (f i : Nat), .int .i64 (t i : Nat), .int .i64 (V i)] 50)) bm bh g o n hc N D H := h.below hb
  obtain ⟨e0, e1, e2, e3⟩ := box3 w (.int .i64 (f i : Nat)) (.int .i64 (t i : Nat)) (.int .i64 (V i)) 50
  have HB := Lib.hid hb
  have m0 := h2.m0
  have m1 := h2.m1
  have n0 := h2.h0
  have a1 := World.block_lt_of_cell? _ _ m0
  have n1 := World.block_lt_of_cell? _ _ n0
  have x1 := h2.hs.at_ _ hf
  have x2 := h2.hs.at_ _ ht
  have x3 := h2.hs.lt
  have HS : Hid (stepOk f t V H N D i = decide (D * V i - N + H (t i) ≤ H (f i))) := rfl
  have b1 := hH _ hf
  have b2 := hH _ ht
  have b3 := prod_bd (n := n) (by omega) hD hv
  generalize stepOk f t V H N D i = rr at *
  generalize H (f i) = hf0 at *
  generalize H (t i) = ht0 at *
  obtain ⟨P1, hP1⟩ : ∃ P1, D * V i = P1 := ⟨_, rfl⟩
  have u1 : IntKind.i64.wrap (D * V i) = P1 := by rw [hP1] at b3 ⊢; exact IntWalk.i64_in _ ⟨by omega, by omega⟩
  rw [hP1] at HS b3
  obtain ⟨P2, hP2⟩ : ∃ P2, P1 - N = P2 := ⟨_, rfl⟩
  have u2 : IntKind.i64.wrap (P1 - N) = P2 := by rw [← hP2]; exact IntWalk.i64_in _ ⟨by omega, by omega⟩
  have b4 : -16000 ≤ P2 ∧ P2 ≤ 16000 := by omega
  rw [hP2] at HS
  obtain ⟨P3, hP3⟩ : ∃ P3, P2 + ht0 = P3 := ⟨_, rfl⟩
  have u3 : IntKind.i64.wrap (P2 + ht0) = P3 := by rw [← hP3]; exact IntWalk.i64_in _ ⟨by omega, by omega⟩
  rw [hP3] at HS
  have HE : Hid ((!rr) = decide (hf0 < P3)) := by show _ = _; rw [HS.out, ← decide_not]; simp
  generalize (!rr) = r2 at *
  clear h h2 hb hH HS hP1 hP2 hP3 b1 b2 b3 b4 hv hD hN
  generalize hd : decide (hf0 < P3) = d3 at *
  go_enter Try.func51, Try.ntmps51
  go_wp2_with fail
  obtain ⟨b9, hb9⟩ : ∃ b9, w.heap.size = b9 := ⟨_, rfl⟩
  rw [hb9] at e0 e1 e2 e3 ⊢
  clear hb9
  generalize w.alloc (.cells #[.int .i64 (f i : Nat), .int .i64 (t i : Nat), .int .i64 (V i)] 50) = Z at *
  refine wp_region_later (by kernel_rfl) (by kernel_rfl) ?_
  repeat (go_big_quiet_step ((fail)))
  refine wpQuiet_nil ?_
  intro q
  go_wp2
  go_ret
  exact ⟨ret_bool (by rw [HE.out]; try first | exact hd | rfl | simp [hd]), later_of (below_more HB.out q.ok)⟩
set_option maxRecDepth 100000 in
set_option maxHeartbeats 1600000 in
theorem prindex_any (n m cap bm bh g o hc : Nat) (A : Option Addr) (N D : Int) (H : Nat → Int) (f t : Nat → Nat) (V : Nat → Int) (w : World) (R : Rot n m f t V) (hp : IsChs w A m (fun i => (f i : Int)) (fun i => (t i : Int)) V) (h : PM w bm bh g o n hc N D H)
    (hD : 1 ≤ D ∧ D ≤ n) (hN : -8000 ≤ N ∧ N ≤ 8000) (hH : ∀ i, i < n → -1000000 ≤ H i ∧ H i ≤ 1000000) :
    Calls Try.prog 56 #[.slice A m cap, .func (.func 51) #[] #[.pointer (some ⟨bm, 0, none⟩), .pointer (some ⟨bh, 0, none⟩)]] w fun e w' => ∃ r : Int, e = .returned (.int .i64 r) ∧ (∃ x : Later w, w' = x.val) ∧ (0 ≤ r ↔ allB m (stepOk f t V H N D) = false) ∧ -1 ≤ r ∧ r ≤ m := by
  have hm40 := R.m40
  have HP := Lib.hid hp
  have HPM := Lib.hid h
  have PO : Hid (∀ w' i, i < m → PM w' bm bh g o n hc N D H → Gives Try.prog 51 #[.agg #[.int .i64 (f i : Nat), .int .i64 (t i : Nat), .int .i64 (V i)], .pointer (some ⟨bm, 0, none⟩), .pointer (some ⟨bh, 0, none⟩)] w' (.bool (!stepOk f t V H N D i))) := fun w' i hi h => proves1_any n bm bh g o hc i N D H f t V w' h R.n8 (R.f i hi) (R.t i hi) (R.v i hi) hD hN hH
  clear hp h R hH
  go_enter Try.func56, Try.ntmps56
  go_wp2
  go_loopw [8] (fun u wr => ∃ k : Nat, k ≤ m ∧ u = .int .i64 k ∧ (∀ j, j < k → stepOk f t V H N D j = true) ∧ ∃ x : Later w, wr = x.val) (fun u _ => m - (intOf u).toNat)
  case atStart => exact ⟨0, by omega, rfl, by omega, later_of (by repeat (first | exact Below.refl _ _ | (with_reducible assumption) | apply below_later | apply below_alloc | apply below_drew | apply below_drewN))⟩
  case round =>
    obtain ⟨k, hk, rfl, hall, x, rfl⟩ := hrel
    have HALL := Lib.hid hall
    clear hall
    by_cases hlt : k < m
    · obtain ⟨b, off, hB, p⟩ := (HP.out.later x).at_ (by omega)
      subst hB
      have cf := p.f k hlt
      have ct := p.t k hlt
      have cv := p.v k hlt
      have lb := p.lt
      clear p
      have A1 := PO.out x.val k hlt (HPM.out.later x)
      cases hF : stepOk f t V H N D k
      · have F0 := Lib.hid hF
        rw [hF] at A1
        have A2 : Hid (Gives Try.prog 51 #[.agg #[.int .i64 (f k : Nat), .int .i64 (t k : Nat), .int .i64 (V k)], .pointer (some ⟨bm, 0, none⟩), .pointer (some ⟨bh, 0, none⟩)] x.val (.bool true)) := A1
        clear hF A1
        go_wp2_with (go_at_call 51; (first | (with_reducible show Calls _ _ _ (Later.val _) _; with_reducible refine Calls.mono (Later.call _ (A2.out)) ?_) | (with_reducible refine Calls.mono (Gives.calls (A2.out)) ?_)); rintro e w1 ⟨rfl, z, rfl⟩)
        go_ret
        exact ⟨(k : Int), rfl, later_of (by repeat (first | exact Below.refl _ _ | (with_reducible assumption) | apply below_later | apply below_alloc | apply below_drew | apply below_drewN)), ⟨fun _ => allB_false hlt F0.out, fun _ => by omega⟩, by omega, by omega⟩
      · have F0 := Lib.hid hF
        rw [hF] at A1
        have A2 : Hid (Gives Try.prog 51 #[.agg #[.int .i64 (f k : Nat), .int .i64 (t k : Nat), .int .i64 (V k)], .pointer (some ⟨bm, 0, none⟩), .pointer (some ⟨bh, 0, none⟩)] x.val (.bool false)) := A1
        clear hF A1
        go_wp2_with (go_at_call 51; (first | (with_reducible show Calls _ _ _ (Later.val _) _; with_reducible refine Calls.mono (Later.call _ (A2.out)) ?_) | (with_reducible refine Calls.mono (Gives.calls (A2.out)) ?_)); rintro e w1 ⟨rfl, z, rfl⟩)
        go_roundw
        case rel => exact ⟨k + 1, by omega, by go_num, all_step HALL.out F0.out, later_of (by repeat (first | exact Below.refl _ _ | (with_reducible assumption) | apply below_later | apply below_alloc | apply below_drew | apply below_drewN))⟩
        case measure => simp [intOf]; omega
    · obtain rfl : k = m := by omega
      go_wp2
      go_ret
      exact ⟨(-1 : Int), rfl, later_of (by repeat (first | exact Below.refl _ _ | (with_reducible assumption) | apply below_later | apply below_alloc | apply below_drew | apply below_drewN)), ⟨fun h => by omega, fun h => by rw [allB_true (p := stepOk f t V H N D) HALL.out] at h; cases h⟩, by omega, by omega⟩
theorem prcontains_any (n m cap bm bh g o hc : Nat) (A : Option Addr) (N D : Int) (H : Nat → Int) (f t : Nat → Nat) (V : Nat → Int) (w : World) (R : Rot n m f t V) (hp : IsChs w A m (fun i => (f i : Int)) (fun i => (t i : Int)) V) (h : PM w bm bh g o n hc N D H)
    (hD : 1 ≤ D ∧ D ≤ n) (hN : -8000 ≤ N ∧ N ≤ 8000) (hH : ∀ i, i < n → -1000000 ≤ H i ∧ H i ≤ 1000000) :
    Gives Try.prog 50 #[.slice A m cap, .func (.func 51) #[] #[.pointer (some ⟨bm, 0, none⟩), .pointer (some ⟨bh, 0, none⟩)]] w (.bool (!allB m (stepOk f t V H N D))) := by
  have HI := Lib.hid (prindex_any n m cap bm bh g o hc A N D H f t V w R hp h hD hN hH)
  clear h hp hH R hD hN
  generalize allB m (stepOk f t V H N D) = r at *
  go_enter Try.func50, Try.ntmps50
  go_wp2_with (go_at_call 56; refine Calls.mono HI.out ?_; rintro e w1 ⟨q, rfl, ⟨x, rfl⟩, hq, hq1, hq2⟩; have HQ := Lib.hid hq)
  go_ret
  refine ⟨ret_bool ?_, later_of (by repeat (first | exact Below.refl _ _ | (with_reducible assumption) | apply below_later | apply below_alloc | apply below_drew | apply below_drewN))⟩
  have := HQ.out
  cases r <;> simp_all

/-- Are heights and a mean within their bounds? -/
def argB (n : Int) (k : Nat) (H : Nat → Int) (N D : Int) : Bool := (decide ((k : Int) = n) && allB k fun i => okH (H i)) && canB n N D
set_option maxRecDepth 100000 in
theorem Proves_bad (n N D : Int) (m cap k hc : Nat) (A B : Option Addr) (F T V : Nat → Int) (w : World) (hm : m ≤ 1000) (hp : IsChs w A m F T V) (hv : validR n m F T V = false) :
    Gives Try.prog 32 #[.int .i64 n, .slice A m cap, .slice B k hc, .agg #[.int .i64 N, .int .i64 D]] w (.tuple #[.bool false, .int .i64 50]) := by
  have VT : Hid (∀ w', IsChs w' A m F T V → Gives Try.prog 42 #[.int .i64 n, .slice A m cap] w' (.bool false)) := fun w' h => hv ▸ wvalid_any n A m cap F T V w' hm h
  have HP := Lib.hid hp
  clear hp hv
  go_enter Try.func32, Try.ntmps32
  go_wp2_with (go_at_call 42; (first | (with_reducible show Calls _ _ _ (Later.val _) _; with_reducible refine Calls.mono (Later.call _ (VT.out _ (HP.out.below (by repeat (first | exact Below.refl _ _ | (with_reducible assumption) | apply below_later | apply below_alloc | apply below_drew | apply below_drewN))))) ?_) | (with_reducible refine Calls.mono (Gives.calls (VT.out _ (HP.out.below (by repeat (first | exact Below.refl _ _ | (with_reducible assumption) | apply below_later | apply below_alloc | apply below_drew | apply below_drewN))))) ?_)); rintro e w1 ⟨rfl, z, rfl⟩)
  go_ret2
  exact ⟨rfl, later_of (by repeat (first | exact Below.refl _ _ | (with_reducible assumption) | apply below_later | apply below_alloc | apply below_drew | apply below_drewN))⟩
set_option maxRecDepth 100000 in
set_option maxHeartbeats 1600000 in
theorem Proves_arg (n m cap k hc : Nat) (N D : Int) (A B : Option Addr) (f t : Nat → Nat) (V : Nat → Int) (H : Nat → Int) (w : World) (hk : k ≤ 1000) (R : Rot n m f t V) (hp : IsChs w A m (fun i => (f i : Int)) (fun i => (t i : Int)) V) (hh : IsInts w B k H) (ha : argB n k H N D = false) :
    Gives Try.prog 32 #[.int .i64 n, .slice A m cap, .slice B k hc, .agg #[.int .i64 N, .int .i64 D]] w (.tuple #[.bool false, .int .i64 2]) := by
  have hn1 := R.n1
  have hn8 := R.n8
  have VT : Hid (∀ w', IsChs w' A m (fun i => (f i : Int)) (fun i => (t i : Int)) V → Gives Try.prog 42 #[.int .i64 n, .slice A m cap] w' (.bool true)) := fun w' h => valid_true R w' h
  have AH0 := fun (w' : World) (h : IsInts w' B k H) => areHeights_any k hc B H w' hk h
  have CB0 := fun (w' : World) => canBeMean_any n N D w' (by omega) (by omega)
  have HP := Lib.hid hp
  have HH := Lib.hid hh
  have HA : Hid (((decide ((k : Int) = (n : Int)) && allB k fun i => okH (H i)) && canB n N D) = false) := ha
  clear hp hh R ha
  generalize allB k (fun i => okH (H i)) = b1 at *
  generalize canB n N D = b2 at *
  by_cases hkn : k = n
  · subst hkn
    have HA2 : Hid ((b1 && b2) = false) := by
      show _ = _
      have h := HA.out
      rw [decide_eq_true rfl, Bool.true_and] at h
      exact h
    cases b1
    · have AH : Hid (∀ w', IsInts w' B k H → Gives Try.prog 48 #[.slice B k hc] w' (.bool false)) := AH0
      clear AH0 CB0
      go_enter Try.func32, Try.ntmps32
      go_wp2_with (first | (go_at_call 42; with_reducible refine Calls.mono (Gives.calls (VT.out _ (HP.out.below (by repeat (first | exact Below.refl _ _ | (with_reducible assumption) | apply below_later | apply below_alloc | apply below_drew | apply below_drewN))))) ?_; rintro e w1 ⟨rfl, z, rfl⟩) | (go_at_call 48; with_reducible refine Calls.mono (Gives.calls (AH.out _ (HH.out.below (by repeat (first | exact Below.refl _ _ | (with_reducible assumption) | apply below_later | apply below_alloc | apply below_drew | apply below_drewN))))) ?_; rintro e w1 ⟨rfl, z2, rfl⟩))
      go_ret2
      exact ⟨rfl, later_of (by repeat (first | exact Below.refl _ _ | (with_reducible assumption) | apply below_later | apply below_alloc | apply below_drew | apply below_drewN))⟩
    · obtain rfl : b2 = false := by have := HA2.out; simpa using this
      have AH : Hid (∀ w', IsInts w' B k H → Gives Try.prog 48 #[.slice B k hc] w' (.bool true)) := AH0
      have CB : Hid (∀ w', Gives Try.prog 49 #[.int .i64 k, .agg #[.int .i64 N, .int .i64 D]] w' (.bool false)) := CB0
      clear AH0 CB0
      go_enter Try.func32, Try.ntmps32
      go_wp2_with (first | (go_at_call 42; with_reducible refine Calls.mono (Gives.calls (VT.out _ (HP.out.below (by repeat (first | exact Below.refl _ _ | (with_reducible assumption) | apply below_later | apply below_alloc | apply below_drew | apply below_drewN))))) ?_; rintro e w1 ⟨rfl, z, rfl⟩) | (go_at_call 48; with_reducible refine Calls.mono (Gives.calls (AH.out _ (HH.out.below (by repeat (first | exact Below.refl _ _ | (with_reducible assumption) | apply below_later | apply below_alloc | apply below_drew | apply below_drewN))))) ?_; rintro e w1 ⟨rfl, z2, rfl⟩) | (go_at_call 49; with_reducible refine Calls.mono (Gives.calls (CB.out _)) ?_; rintro e w1 ⟨rfl, z3, rfl⟩))
      go_ret2
      exact ⟨rfl, later_of (by repeat (first | exact Below.refl _ _ | (with_reducible assumption) | apply below_later | apply below_alloc | apply below_drew | apply below_drewN))⟩
  · have e1 : ((k : Int) != (n : Int)) = true := by simp; omega
    clear AH0 CB0 HA hkn
    go_enter Try.func32, Try.ntmps32
    go_wp2_with (first | (go_at_call 42; with_reducible refine Calls.mono (Gives.calls (VT.out _ (HP.out.below (by repeat (first | exact Below.refl _ _ | (with_reducible assumption) | apply below_later | apply below_alloc | apply below_drew | apply below_drewN))))) ?_; rintro e w1 ⟨rfl, z, rfl⟩))
    go_ret2
    exact ⟨rfl, later_of (by repeat (first | exact Below.refl _ _ | (with_reducible assumption) | apply below_later | apply below_alloc | apply below_drew | apply below_drewN))⟩
theorem argB_facts {n : Nat} {k : Nat} {H : Nat → Int} {N D : Int} (hn8 : n ≤ 8) (h : argB n k H N D = true) : k = n ∧ (1 ≤ D ∧ D ≤ n) ∧ (-8000 ≤ N ∧ N ≤ 8000) ∧ ∀ i, i < n → -1000000 ≤ H i ∧ H i ≤ 1000000 := by
  unfold argB canB at h
  simp only [Bool.and_eq_true, decide_eq_true_eq] at h
  obtain ⟨⟨h1, h2⟩, ⟨h3, h4⟩, h5, h6⟩ := h
  have hkn : k = n := by omega
  refine ⟨hkn, ⟨h3, h4⟩, ⟨by omega, by omega⟩, fun i hi => ?_⟩
  have := allB_iff.1 h2 i (by omega)
  unfold okH at this
  simpa using this
set_option maxRecDepth 100000 in
set_option maxHeartbeats 1600000 in
theorem Proves_ok (n m cap k hc : Nat) (N D : Int) (A B : Option Addr) (f t : Nat → Nat) (V : Nat → Int) (H : Nat → Int) (w : World) (R : Rot n m f t V) (hp : IsChs w A m (fun i => (f i : Int)) (fun i => (t i : Int)) V) (hh : IsInts w B k H) (ha : argB n k H N D = true) :
    Gives Try.prog 32 #[.int .i64 n, .slice A m cap, .slice B k hc, .agg #[.int .i64 N, .int .i64 D]] w (.tuple #[.bool (allB m (stepOk f t V H N D)), .int .i64 0]) := by
  have hn1 := R.n1
  have hn8 := R.n8
  obtain ⟨rfl, hD, hN, hH⟩ := argB_facts hn8 ha
  obtain ⟨g, o, rfl, hg⟩ := hh.at_ (by omega)
  have hcb : canB k N D = true := by unfold argB at ha; simp only [Bool.and_eq_true] at ha; exact ha.2
  have hah : (allB k fun i => okH (H i)) = true := by unfold argB at ha; simp only [Bool.and_eq_true] at ha; exact ha.1.2
  have VT : Hid (∀ w', IsChs w' A m (fun i => (f i : Int)) (fun i => (t i : Int)) V → Gives Try.prog 42 #[.int .i64 k, .slice A m cap] w' (.bool true)) := fun w' h => valid_true R w' h
  have AH : Hid (∀ w', IsInts w' (some ⟨g, o, none⟩) k H → Gives Try.prog 48 #[.slice (some ⟨g, o, none⟩) k hc] w' (.bool true)) := fun w' h => hah ▸ areHeights_any k hc _ H w' (by omega) h
  have CB : Hid (∀ w', Gives Try.prog 49 #[.int .i64 k, .agg #[.int .i64 N, .int .i64 D]] w' (.bool true)) := fun w' => hcb ▸ canBeMean_any k N D w' (by omega) (by omega)
  have PC : Hid (∀ w' bm bh, IsChs w' A m (fun i => (f i : Int)) (fun i => (t i : Int)) V → PM w' bm bh g o k hc N D H → Gives Try.prog 50 #[.slice A m cap, .func (.func 51) #[] #[.pointer (some ⟨bm, 0, none⟩), .pointer (some ⟨bh, 0, none⟩)]] w' (.bool (!allB m (stepOk f t V H N D)))) := fun w' bm bh h1 h2 => prcontains_any k m cap bm bh g o hc A N D H f t V w' R h1 h2 hD hN hH
  have hb1 : Below w.heap.size w (w.alloc (.cells #[.slice (some ⟨g, o, none⟩) k hc] 30)) := (Below.refl _ _).alloc (Nat.le_refl _) _
  have hb2 : Below (w.alloc (.cells #[.slice (some ⟨g, o, none⟩) k hc] 30)).heap.size (w.alloc (.cells #[.slice (some ⟨g, o, none⟩) k hc] 30)) ((w.alloc (.cells #[.slice (some ⟨g, o, none⟩) k hc] 30)).alloc (.cells #[.int .i64 N, .int .i64 D] 44)) := (Below.refl _ _).alloc (Nat.le_refl _) _
  obtain ⟨q0, q1, _⟩ := box2 (w.alloc (.cells #[.slice (some ⟨g, o, none⟩) k hc] 30)) (.int .i64 N) (.int .i64 D) 44
  rw [World.size_alloc] at q0 q1
  have q2 : (w.alloc (.cells #[.slice (some ⟨g, o, none⟩) k hc] 30)).cell? ⟨w.heap.size, 0, none⟩ = some (.slice (some ⟨g, o, none⟩) k hc) := cell_of_heap (World.alloc_heap_new _ _) 0 _ rfl
  have P0 : Hid (PM ((w.alloc (.cells #[.slice (some ⟨g, o, none⟩) k hc] 30)).alloc (.cells #[.int .i64 N, .int .i64 D] 44)) (w.heap.size + 1) w.heap.size g o k hc N D H) :=
    ⟨q0, q1, (hb2.cell (p := ⟨w.heap.size, 0, none⟩) (by simp)).trans q2, (hg.below hb1).below hb2⟩
  have HP := Lib.hid hp
  have HH := Lib.hid hh
  clear hp hh R ha hg hcb hah hb1 hb2 q0 q1 q2 hD hN hH
  generalize allB m (stepOk f t V H N D) = rr at *
  go_enter Try.func32, Try.ntmps32
  go_wp2_with (first
    | (go_at_call 42; with_reducible refine Calls.mono (Gives.calls (VT.out _ (HP.out.below (by repeat (first | exact Below.refl _ _ | (with_reducible assumption) | apply below_later | apply below_alloc | apply below_drew | apply below_drewN))))) ?_; rintro e w1 ⟨rfl, z, rfl⟩)
    | (go_at_call 48; with_reducible refine Calls.mono (Gives.calls (AH.out _ (HH.out.below (by repeat (first | exact Below.refl _ _ | (with_reducible assumption) | apply below_later | apply below_alloc | apply below_drew | apply below_drewN))))) ?_; rintro e w1 ⟨rfl, z2, rfl⟩)
    | (go_at_call 49; with_reducible refine Calls.mono (Gives.calls (CB.out _)) ?_; rintro e w1 ⟨rfl, z3, rfl⟩)
    | (go_at_call 50; with_reducible refine Calls.mono (Gives.calls (PC.out _ _ _ (HP.out.below (by repeat (first | exact Below.refl _ _ | (with_reducible assumption) | apply below_later | apply below_alloc | apply below_drew | apply below_drewN))) (P0.out.below (by repeat (first | exact Below.refl _ _ | (with_reducible assumption) | apply below_later | apply below_alloc | apply below_drew | apply below_drewN))))) ?_; rintro e w1 ⟨rfl, z4, rfl⟩))
  go_ret2
  exact ⟨by simp, later_of (by repeat (first | exact Below.refl _ _ | (with_reducible assumption) | apply below_later | apply below_alloc | apply below_drew | apply below_drewN))⟩

set_option maxRecDepth 100000 in
set_option maxHeartbeats 1600000 in
theorem rproves_any (n m cap k hc : Nat) (N D : Int) (A B : Option Addr) (f t : Nat → Nat) (V : Nat → Int) (H : Nat → Int) (w : World) (R : Rot n m f t V) (hp : IsChs w A m (fun i => (f i : Int)) (fun i => (t i : Int)) V) (hh : IsInts w B k H) (ha : argB n k H N D = true) :
    Gives Try.prog 34 #[.slice A m cap, .slice B k hc, .agg #[.int .i64 N, .int .i64 D]] w (.bool (allB m (stepOk f t V H N D))) := by
  have hn1 := R.n1
  have hn8 := R.n8
  have hm40 := R.m40
  obtain ⟨rfl, hD, hN, hH⟩ := argB_facts hn8 ha
  obtain ⟨g, o, rfl, hg⟩ := hh.at_ (by omega)
  have hb : Below w.heap.size w (w.alloc (.cells #[.int .i64 N, .int .i64 D] 44)) := (Below.refl _ _).alloc (Nat.le_refl _) _
  obtain ⟨c0, c1, l0⟩ := box2 w (.int .i64 N) (.int .i64 D) 44
  have HPZ : Hid (IsChs (w.alloc (.cells #[.int .i64 N, .int .i64 D] 44)) A m (fun i => (f i : Int)) (fun i => (t i : Int)) V) := hp.below hb
  have HGZ : Hid (Ints (w.alloc (.cells #[.int .i64 N, .int .i64 D] 44)) g o k H) := hg.below hb
  have HB := Lib.hid hb
  have HR := Lib.hid R
  have HH := Lib.hid hH
  clear hp hh R ha hg hb hH
  go_enter Try.func34, Try.ntmps34
  go_wp2
  obtain ⟨b8, hb8⟩ : ∃ b8, w.heap.size = b8 := ⟨_, rfl⟩
  rw [hb8] at c0 c1 l0 ⊢
  clear hb8
  generalize w.alloc (.cells #[.int .i64 N, .int .i64 D] 44) = Z at *
  go_loopw [7] (fun v wr => ∃ i : Nat, i ≤ m ∧ v = .int .i64 (i : Nat) ∧ (∀ j, j < i → stepOk f t V H N D j = true) ∧ ∃ x : Later Z, wr = x.val) (fun v _ => m - (intOf v).toNat)
  case atStart => exact ⟨0, by omega, rfl, by omega, later_of (by repeat (first | exact Below.refl _ _ | (with_reducible assumption) | apply below_later | apply below_alloc | apply below_drew | apply below_drewN))⟩
  case round =>
    obtain ⟨i, hi, rfl, hall, x, rfl⟩ := hrel
    have HALL := Lib.hid hall
    clear hall
    by_cases hlt : i < m
    · obtain ⟨ba, oa, hA, p⟩ := (HPZ.out.later x).at_ (by omega)
      subst hA
      have HXZ : Hid (Below Z.heap.size Z x.val) := x.ok
      have cf := p.f i hlt
      have ct := p.t i hlt
      have cv := p.v i hlt
      have lp := p.lt
      have hfi := HR.out.f i hlt
      have hti := HR.out.t i hlt
      have x1 := (HGZ.out.later x).at_ _ hfi
      have x2 := (HGZ.out.later x).at_ _ hti
      have x3 := (HGZ.out.later x).lt
      have d0 := (x.cell _ 0 l0).trans c0
      have d1 := (x.cell _ 1 l0).trans c1
      have l1 := x.lt _ l0
      have b1 := HH.out _ hfi
      have b2 := HH.out _ hti
      have b3 := prod_bd (n := k) (by omega) hD (HR.out.v i hlt)
      have HS : Hid (stepOk f t V H N D i = decide (D * V i - N + H (t i) ≤ H (f i))) := rfl
      clear p
      generalize x.val = X at *
      generalize H (f i) = hf0 at *
      generalize H (t i) = ht0 at *
      obtain ⟨P1, hP1⟩ : ∃ P1, D * V i = P1 := ⟨_, rfl⟩
      have u1 : IntKind.i64.wrap (D * V i) = P1 := by rw [hP1] at b3 ⊢; exact IntWalk.i64_in _ ⟨by omega, by omega⟩
      rw [hP1] at HS b3
      obtain ⟨P2, hP2⟩ : ∃ P2, P1 - N = P2 := ⟨_, rfl⟩
      have u2 : IntKind.i64.wrap (P1 - N) = P2 := by rw [← hP2]; exact IntWalk.i64_in _ ⟨by omega, by omega⟩
      have b4 : -16000 ≤ P2 ∧ P2 ≤ 16000 := by omega
      rw [hP2] at HS
      obtain ⟨P3, hP3⟩ : ∃ P3, P2 + ht0 = P3 := ⟨_, rfl⟩
      have u3 : IntKind.i64.wrap (P2 + ht0) = P3 := by rw [← hP3]; exact IntWalk.i64_in _ ⟨by omega, by omega⟩
      rw [hP3] at HS
      clear hP1 hP2 hP3 b1 b2 b3 b4
      by_cases hc3 : hf0 < P3
      · have hd3 : decide (hf0 < P3) = true := by simpa using hc3
        have HF := Lib.hid (allB_false (p := stepOk f t V H N D) hlt (by rw [HS.out]; simp; omega))
        clear hc3 HS
        go_wp2_with fail
        refine wp_region_later (by kernel_rfl) (by kernel_rfl) ?_
        repeat (go_big_quiet_step ((fail)))
        refine wpQuiet_nil ?_
        intro q
        go_wp2
        go_ret
        exact ⟨ret_bool (by rw [HF.out]), ⟨_, below_more (below_more HB.out HXZ.out) q.ok⟩, rfl⟩
      · have hd3 : decide (hf0 < P3) = false := by simpa using hc3
        have HN := Lib.hid (all_step (p := stepOk f t V H N D) HALL.out (by rw [HS.out]; simp; omega))
        clear hc3 HS
        go_wp2_with fail
        refine wp_region_later (by kernel_rfl) (by kernel_rfl) ?_
        repeat (go_big_quiet_step ((fail)))
        refine wpQuiet_nil ?_
        intro q
        go_wp2_with fail
        go_roundw
        case rel => exact ⟨i + 1, by omega, by go_num, HN.out, ⟨⟨_, below_more HXZ.out q.ok⟩, rfl⟩⟩
        case measure => simp [intOf]; omega
    · obtain rfl : i = m := by omega
      go_wp2
      go_ret
      exact ⟨ret_bool (allB_true HALL.out).symm, ⟨_, below_later HB.out⟩, rfl⟩
end Go.Proofs.Ytnjloomhhgilcaa
