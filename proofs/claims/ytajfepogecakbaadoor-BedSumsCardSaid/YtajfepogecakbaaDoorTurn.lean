/- bed.Turn and bed.Flip. -/
import Derived.Test.YtajfepogecakbaaDoorDraw
namespace Go.Proofs.YtajfepogecakbaaDoor
open Go.RowKit

/-- The square from which square i of the turned map comes; of the mirrored one. -/
def turnAt (W H i : Nat) : Nat := (H - 1 - i % H) * W + i / H
def flipAt (W i : Nat) : Nat := i / W * W + (W - 1 - i % W)
theorem turnAt_lt {W H i : Nat} (hH : 1 ≤ H) (hi : i < H * W) : turnAt W H i < W * H := by
  unfold turnAt
  have h1 : i / H < W := Nat.div_lt_of_lt_mul hi
  have h2 : (H - 1 - i % H) * W ≤ (H - 1) * W := Nat.mul_le_mul_right _ (by omega)
  have h3 : (H - 1) * W + W = W * H := by rw [Nat.sub_mul, Nat.one_mul, Nat.mul_comm W H]; have := Nat.mul_le_mul_right W hH; omega
  omega
theorem flipAt_lt {W H i : Nat} (hW : 1 ≤ W) (hi : i < W * H) : flipAt W i < W * H := by
  unfold flipAt
  have h1 : i / W < H := Nat.div_lt_of_lt_mul hi
  have h2 : i / W * W ≤ (H - 1) * W := Nat.mul_le_mul_right _ (by omega)
  have h3 : (H - 1) * W + W = W * H := by rw [Nat.sub_mul, Nat.one_mul, Nat.mul_comm W H]; have := Nat.mul_le_mul_right W (show 1 ≤ H from Nat.lt_of_le_of_lt (Nat.zero_le _) h1); omega
  omega
theorem turn_place {W H i : Nat} (hH : 1 ≤ H) (hi : i < H * W) : ((H : Int) - 1 - (i : Int) % (H : Int)) * (W : Int) + (i : Int) / (H : Int) = ((turnAt W H i : Nat) : Int) ∧ 0 ≤ ((H : Int) - 1 - (i : Int) % (H : Int)) * (W : Int) ∧ ((H : Int) - 1 - (i : Int) % (H : Int)) * (W : Int) ≤ (W * H : Nat) := by
  have l := turnAt_lt hH hi
  have e : (H : Int) - 1 - (i : Int) % (H : Int) = ((H - 1 - i % H : Nat) : Int) := by
    rw [← Int.natCast_emod]
    have := Nat.mod_lt i (show 0 < H by omega)
    omega
  have q := Nat.mul_comm W H
  have q2 : (H - 1 - i % H) * W ≤ H * W := Nat.mul_le_mul_right _ (by omega)
  unfold turnAt at l ⊢
  rw [e, ← Int.natCast_mul, ← Int.natCast_ediv]
  omega
theorem flip_place {W H i : Nat} (hW : 1 ≤ W) (hi : i < W * H) : (i : Int) / (W : Int) * (W : Int) + (W : Int) - 1 - (i : Int) % (W : Int) = ((flipAt W i : Nat) : Int) ∧ 0 ≤ (i : Int) / (W : Int) * (W : Int) ∧ (i : Int) / (W : Int) * (W : Int) ≤ (W * H : Nat) := by
  have l := flipAt_lt hW hi
  have := Nat.mod_lt i (show 0 < W by omega)
  unfold flipAt at l ⊢
  rw [← Int.natCast_ediv, ← Int.natCast_emod, ← Int.natCast_mul]
  omega

set_option maxRecDepth 100000 in
set_option maxHeartbeats 1600000 in
theorem turn1_any (W H b off n cap bm i : Nat) (f : Nat → Int) (w : World) (hW1 : 1 ≤ W) (hH1 : 1 ≤ H) (hW : W ≤ 30) (hH : H ≤ 30) (hn : n = W * H) (hi : i < H * W) (p : Ints w b off n f)
    (c0 : w.cell? ⟨bm, 0, none⟩ = some (.int .i64 W)) (c1 : w.cell? ⟨bm, 1, none⟩ = some (.int .i64 H)) (c2 : w.cell? ⟨bm, 2, none⟩ = some (.slice (some ⟨b, off, none⟩) n cap)) :
    Gives Tryd.prog 88 #[.int .i64 ((i : Int) % (H : Int)), .int .i64 ((i : Int) / (H : Int)), .pointer (some ⟨bm, 0, none⟩)] w (.int .i64 (f (turnAt W H i))) := by
  have lm := World.block_lt_of_cell? _ _ c0
  have lb := p.lt
  have l := turnAt_lt hH1 hi
  obtain ⟨e, e0, e1⟩ := turn_place hH1 hi
  have h9 : W * H ≤ 900 := Nat.mul_le_mul hW hH
  have b1 : (i : Int) % (H : Int) < 30 := by have := Int.emod_lt_of_pos (i : Int) (show (0 : Int) < H by omega); omega
  have b2 : 0 ≤ (i : Int) % (H : Int) := Int.emod_nonneg _ (by omega)
  have b3 : (i : Int) / (H : Int) < 900 := by
    have := Int.ediv_le_self (H : Int) (show 0 ≤ (i : Int) by omega)
    have : H * W ≤ 900 := by rw [Nat.mul_comm]; exact h9
    omega
  have b4 : 0 ≤ (i : Int) / (H : Int) := Int.ediv_nonneg (by omega) (by omega)
  have c := p.at_ (turnAt W H i) (by omega)
  have t1 : ((turnAt W H i : Nat) : Int) < (n : Int) := by omega
  generalize turnAt W H i = j at *
  rw [show ((j : Nat) : Int) = ((H : Int) - 1 - (i : Int) % (H : Int)) * (W : Int) + (i : Int) / (H : Int) from e.symm] at t1
  have tn : (((H : Int) - 1 - (i : Int) % (H : Int)) * (W : Int) + (i : Int) / (H : Int)).toNat = j := by omega
  have t0 : 0 ≤ ((H : Int) - 1 - (i : Int) % (H : Int)) * (W : Int) + (i : Int) / (H : Int) := by omega
  have e9 : ((H : Int) - 1 - (i : Int) % (H : Int)) * (W : Int) ≤ 900 := by omega
  rw [← tn] at c ⊢
  clear e tn hn l p hi e1
  go_enter Tryd.func88, Tryd.ntmps88
  go_wp2
  go_ret
  exact ⟨rfl, later_of (by repeat (first | exact Below.refl _ _ | (with_reducible assumption) | apply below_later | apply below_alloc | apply below_drew | apply below_drewN))⟩

set_option maxRecDepth 100000 in
set_option maxHeartbeats 1600000 in
theorem flip1_any (W H b off n cap bm i : Nat) (f : Nat → Int) (w : World) (hW1 : 1 ≤ W) (hH1 : 1 ≤ H) (hW : W ≤ 30) (hH : H ≤ 30) (hn : n = W * H) (hi : i < W * H) (p : Ints w b off n f)
    (c0 : w.cell? ⟨bm, 0, none⟩ = some (.int .i64 W)) (c1 : w.cell? ⟨bm, 1, none⟩ = some (.int .i64 H)) (c2 : w.cell? ⟨bm, 2, none⟩ = some (.slice (some ⟨b, off, none⟩) n cap)) :
    Gives Tryd.prog 87 #[.int .i64 ((i : Int) % (W : Int)), .int .i64 ((i : Int) / (W : Int)), .pointer (some ⟨bm, 0, none⟩)] w (.int .i64 (f (flipAt W i))) := by
  have lm := World.block_lt_of_cell? _ _ c0
  have lb := p.lt
  have l := flipAt_lt hW1 hi
  obtain ⟨e, e0, e1⟩ := flip_place hW1 hi
  have h9 : W * H ≤ 900 := Nat.mul_le_mul hW hH
  have b1 : (i : Int) % (W : Int) < 30 := by have := Int.emod_lt_of_pos (i : Int) (show (0 : Int) < W by omega); omega
  have b2 : 0 ≤ (i : Int) % (W : Int) := Int.emod_nonneg _ (by omega)
  have b3 : (i : Int) / (W : Int) < 900 := by
    have := Int.ediv_le_self (W : Int) (show 0 ≤ (i : Int) by omega)
    omega
  have b4 : 0 ≤ (i : Int) / (W : Int) := Int.ediv_nonneg (by omega) (by omega)
  have c := p.at_ (flipAt W i) (by omega)
  have t1 : ((flipAt W i : Nat) : Int) < (n : Int) := by omega
  generalize flipAt W i = j at *
  rw [show ((j : Nat) : Int) = (i : Int) / (W : Int) * (W : Int) + (W : Int) - 1 - (i : Int) % (W : Int) from e.symm] at t1
  have tn : ((i : Int) / (W : Int) * (W : Int) + (W : Int) - 1 - (i : Int) % (W : Int)).toNat = j := by omega
  have t0 : 0 ≤ (i : Int) / (W : Int) * (W : Int) + (W : Int) - 1 - (i : Int) % (W : Int) := by omega
  have e9 : (i : Int) / (W : Int) * (W : Int) ≤ 900 := by omega
  rw [← tn] at c ⊢
  clear e tn hn l p hi e1
  go_enter Tryd.func87, Tryd.ntmps87
  go_wp2
  go_ret
  exact ⟨rfl, later_of (by repeat (first | exact Below.refl _ _ | (with_reducible assumption) | apply below_later | apply below_alloc | apply below_drew | apply below_drewN))⟩

set_option maxRecDepth 100000 in
set_option maxHeartbeats 1600000 in
theorem Turn_bad (W H : Int) (n cap : Nat) (A : Option Addr) (f : Nat → Int) (w : World) (hp : IsInts w A n f) (hv : validM W H n f = false) :
    GivesME 43 #[.agg #[.int .i64 W, .int .i64 H, .slice A n cap]] w 0 0 [] 20 := by
  have V : Hid (∀ w', IsInts w' A n f → Gives Tryd.prog 19 #[.agg #[.int .i64 W, .int .i64 H, .slice A n cap]] w' (.bool false)) := fun w' h => hv ▸ bvalid_any W H A n cap f w' h
  have HP := Lib.hid hp
  clear hp hv
  go_enter Tryd.func43, Tryd.ntmps43
  go_wp2_with (go_at_call 19; (first | (with_reducible show Calls _ _ _ (Later.val _) _; with_reducible refine Calls.mono (Later.call _ (V.out _ (HP.out.later ⟨_, by repeat (first | exact Below.refl _ _ | (with_reducible assumption) | apply below_later | apply below_alloc | apply below_drew | apply below_drewN)⟩))) ?_) | (with_reducible refine Calls.mono (Gives.calls (V.out _ (HP.out.later ⟨_, by repeat (first | exact Below.refl _ _ | (with_reducible assumption) | apply below_later | apply below_alloc | apply below_drew | apply below_drewN)⟩))) ?_)); rintro e w1 ⟨rfl, z, rfl⟩)
  have g : z.val.heap[w.heap.size + 1]? = some (.cells #[.int .i64 0, .int .i64 0, .slice none 0 0] 24) := by
    rw [z.ok.block _ (by simp)]
    have := World.alloc_heap_new (w.alloc (.cells #[.int .i64 W, .int .i64 H, .slice A n cap] 24)) (.cells #[.int .i64 0, .int .i64 0, .slice none 0 0] 24)
    rwa [World.size_alloc] at this
  obtain ⟨⟨c0, c1, c2⟩, f0, f1, f2⟩ := cells3 g
  go_wp2
  have k3 := put3 (v0 := .int .i64 0) (v1 := .int .i64 0) (v2 := .slice none 0 0) g
  obtain ⟨⟨r0, r1, r2⟩, _⟩ := cells3 k3
  refine bodyPost_ret (v := .tuple #[.agg #[.int .i64 0, .int .i64 0, .slice none 0 0], .int .i64 20]) (by simp [results, Tryd.results43, go_sem, r0, r1, r2]) rfl ?_
  exact ⟨_, rfl, ⟨_, below_put3 (by repeat (first | exact Below.refl _ _ | (with_reducible assumption) | apply below_later | apply below_alloc | apply below_drew | apply below_drewN)) (by simp)⟩, rfl, OwnI.nil _ _⟩
set_option maxRecDepth 100000 in
set_option maxHeartbeats 1600000 in
theorem Flip_bad (W H : Int) (n cap : Nat) (A : Option Addr) (f : Nat → Int) (w : World) (hp : IsInts w A n f) (hv : validM W H n f = false) :
    GivesME 41 #[.agg #[.int .i64 W, .int .i64 H, .slice A n cap]] w 0 0 [] 20 := by
  have V : Hid (∀ w', IsInts w' A n f → Gives Tryd.prog 19 #[.agg #[.int .i64 W, .int .i64 H, .slice A n cap]] w' (.bool false)) := fun w' h => hv ▸ bvalid_any W H A n cap f w' h
  have HP := Lib.hid hp
  clear hp hv
  go_enter Tryd.func41, Tryd.ntmps41
  go_wp2_with (go_at_call 19; (first | (with_reducible show Calls _ _ _ (Later.val _) _; with_reducible refine Calls.mono (Later.call _ (V.out _ (HP.out.later ⟨_, by repeat (first | exact Below.refl _ _ | (with_reducible assumption) | apply below_later | apply below_alloc | apply below_drew | apply below_drewN)⟩))) ?_) | (with_reducible refine Calls.mono (Gives.calls (V.out _ (HP.out.later ⟨_, by repeat (first | exact Below.refl _ _ | (with_reducible assumption) | apply below_later | apply below_alloc | apply below_drew | apply below_drewN)⟩))) ?_)); rintro e w1 ⟨rfl, z, rfl⟩)
  have g : z.val.heap[w.heap.size + 1]? = some (.cells #[.int .i64 0, .int .i64 0, .slice none 0 0] 24) := by
    rw [z.ok.block _ (by simp)]
    have := World.alloc_heap_new (w.alloc (.cells #[.int .i64 W, .int .i64 H, .slice A n cap] 24)) (.cells #[.int .i64 0, .int .i64 0, .slice none 0 0] 24)
    rwa [World.size_alloc] at this
  obtain ⟨⟨c0, c1, c2⟩, f0, f1, f2⟩ := cells3 g
  go_wp2
  have k3 := put3 (v0 := .int .i64 0) (v1 := .int .i64 0) (v2 := .slice none 0 0) g
  obtain ⟨⟨r0, r1, r2⟩, _⟩ := cells3 k3
  refine bodyPost_ret (v := .tuple #[.agg #[.int .i64 0, .int .i64 0, .slice none 0 0], .int .i64 20]) (by simp [results, Tryd.results41, go_sem, r0, r1, r2]) rfl ?_
  exact ⟨_, rfl, ⟨_, below_put3 (by repeat (first | exact Below.refl _ _ | (with_reducible assumption) | apply below_later | apply below_alloc | apply below_drew | apply below_drewN)) (by simp)⟩, rfl, OwnI.nil _ _⟩
set_option maxRecDepth 100000 in
set_option maxHeartbeats 1600000 in
theorem Spread_bad (W H : Int) (n cap : Nat) (A : Option Addr) (f : Nat → Int) (w : World) (hp : IsInts w A n f) (hv : validM W H n f = false) :
    GivesME 37 #[.agg #[.int .i64 W, .int .i64 H, .slice A n cap]] w 0 0 [] 20 := by
  have V : Hid (∀ w', IsInts w' A n f → Gives Tryd.prog 19 #[.agg #[.int .i64 W, .int .i64 H, .slice A n cap]] w' (.bool false)) := fun w' h => hv ▸ bvalid_any W H A n cap f w' h
  have HP := Lib.hid hp
  clear hp hv
  go_enter Tryd.func37, Tryd.ntmps37
  go_wp2_with (go_at_call 19; (first | (with_reducible show Calls _ _ _ (Later.val _) _; with_reducible refine Calls.mono (Later.call _ (V.out _ (HP.out.later ⟨_, by repeat (first | exact Below.refl _ _ | (with_reducible assumption) | apply below_later | apply below_alloc | apply below_drew | apply below_drewN)⟩))) ?_) | (with_reducible refine Calls.mono (Gives.calls (V.out _ (HP.out.later ⟨_, by repeat (first | exact Below.refl _ _ | (with_reducible assumption) | apply below_later | apply below_alloc | apply below_drew | apply below_drewN)⟩))) ?_)); rintro e w1 ⟨rfl, z, rfl⟩)
  have g : z.val.heap[w.heap.size + 1]? = some (.cells #[.int .i64 0, .int .i64 0, .slice none 0 0] 24) := by
    rw [z.ok.block _ (by simp)]
    have := World.alloc_heap_new (w.alloc (.cells #[.int .i64 W, .int .i64 H, .slice A n cap] 24)) (.cells #[.int .i64 0, .int .i64 0, .slice none 0 0] 24)
    rwa [World.size_alloc] at this
  obtain ⟨⟨c0, c1, c2⟩, f0, f1, f2⟩ := cells3 g
  go_wp2
  have k3 := put3 (v0 := .int .i64 0) (v1 := .int .i64 0) (v2 := .slice none 0 0) g
  obtain ⟨⟨r0, r1, r2⟩, _⟩ := cells3 k3
  refine bodyPost_ret (v := .tuple #[.agg #[.int .i64 0, .int .i64 0, .slice none 0 0], .int .i64 20]) (by simp [results, Tryd.results37, go_sem, r0, r1, r2]) rfl ?_
  exact ⟨_, rfl, ⟨_, below_put3 (by repeat (first | exact Below.refl _ _ | (with_reducible assumption) | apply below_later | apply below_alloc | apply below_drew | apply below_drewN)) (by simp)⟩, rfl, OwnI.nil _ _⟩
set_option maxRecDepth 100000 in
set_option maxHeartbeats 1600000 in
theorem Mow_bad (W H : Int) (n cap : Nat) (A : Option Addr) (f : Nat → Int) (w : World) (hp : IsInts w A n f) (hv : validM W H n f = false) :
    GivesME 39 #[.agg #[.int .i64 W, .int .i64 H, .slice A n cap]] w 0 0 [] 20 := by
  have V : Hid (∀ w', IsInts w' A n f → Gives Tryd.prog 19 #[.agg #[.int .i64 W, .int .i64 H, .slice A n cap]] w' (.bool false)) := fun w' h => hv ▸ bvalid_any W H A n cap f w' h
  have HP := Lib.hid hp
  clear hp hv
  go_enter Tryd.func39, Tryd.ntmps39
  go_wp2_with (go_at_call 19; (first | (with_reducible show Calls _ _ _ (Later.val _) _; with_reducible refine Calls.mono (Later.call _ (V.out _ (HP.out.later ⟨_, by repeat (first | exact Below.refl _ _ | (with_reducible assumption) | apply below_later | apply below_alloc | apply below_drew | apply below_drewN)⟩))) ?_) | (with_reducible refine Calls.mono (Gives.calls (V.out _ (HP.out.later ⟨_, by repeat (first | exact Below.refl _ _ | (with_reducible assumption) | apply below_later | apply below_alloc | apply below_drew | apply below_drewN)⟩))) ?_)); rintro e w1 ⟨rfl, z, rfl⟩)
  have g : z.val.heap[w.heap.size + 1]? = some (.cells #[.int .i64 0, .int .i64 0, .slice none 0 0] 24) := by
    rw [z.ok.block _ (by simp)]
    have := World.alloc_heap_new (w.alloc (.cells #[.int .i64 W, .int .i64 H, .slice A n cap] 24)) (.cells #[.int .i64 0, .int .i64 0, .slice none 0 0] 24)
    rwa [World.size_alloc] at this
  obtain ⟨⟨c0, c1, c2⟩, f0, f1, f2⟩ := cells3 g
  go_wp2
  have k3 := put3 (v0 := .int .i64 0) (v1 := .int .i64 0) (v2 := .slice none 0 0) g
  obtain ⟨⟨r0, r1, r2⟩, _⟩ := cells3 k3
  refine bodyPost_ret (v := .tuple #[.agg #[.int .i64 0, .int .i64 0, .slice none 0 0], .int .i64 20]) (by simp [results, Tryd.results39, go_sem, r0, r1, r2]) rfl ?_
  exact ⟨_, rfl, ⟨_, below_put3 (by repeat (first | exact Below.refl _ _ | (with_reducible assumption) | apply below_later | apply below_alloc | apply below_drew | apply below_drewN)) (by simp)⟩, rfl, OwnI.nil _ _⟩

set_option maxRecDepth 100000 in
set_option maxHeartbeats 1600000 in
theorem Turn_ok (W H n cap : Nat) (A : Option Addr) (f : Nat → Int) (w : World) (hp : IsInts w A n f) (hv : validM W H n f = true) :
    GivesME 43 #[.agg #[.int .i64 W, .int .i64 H, .slice A n cap]] w H W ((List.range (H * W)).map fun i => f (turnAt W H i)) 0 := by
  have V : Hid (∀ w', IsInts w' A n f → Gives Tryd.prog 19 #[.agg #[.int .i64 W, .int .i64 H, .slice A n cap]] w' (.bool true)) := fun w' h => hv ▸ bvalid_any W H A n cap f w' h
  obtain ⟨⟨v1, v2⟩, ⟨v3, v4⟩, hn, _⟩ := validM_iff.1 hv
  have hn' : n = W * H := by rw [← Int.natCast_mul] at hn; omega
  have h0 : 0 < n := by
    have := Nat.mul_le_mul (show 1 ≤ W by omega) (show 1 ≤ H by omega)
    omega
  obtain ⟨b, off, rfl, p⟩ := hp.at_ h0
  have D : Hid (∀ (w' : World) (bm : Nat), w'.heap[bm]? = some (.cells #[.int .i64 W, .int .i64 H, .slice (some ⟨b, off, none⟩) n cap] 24) → Ints w' b off n f →
      GivesM 83 #[.int .i64 H, .int .i64 W, .func (.func 88) #[] #[.pointer (some ⟨bm, 0, none⟩)]] w' H W ((List.range (H * W)).map fun i => f (turnAt W H i))) := fun w' bm g q => by
    refine draw_turn H W bm _ w' (by omega) (by omega) (by omega) fun x i hi => ?_
    have g2 := (x.ok.block _ (Array.getElem?_eq_some_iff.1 g).1).trans g
    obtain ⟨⟨c0, c1, c2⟩, _⟩ := cells3 g2
    exact turn1_any W H b off n cap bm i f x.val (by omega) (by omega) (by omega) (by omega) hn' hi (q.later x) c0 c1 c2
  have HP := Lib.hid hp
  have P := Lib.hid p
  clear hp hv hn hn' p
  go_enter Tryd.func43, Tryd.ntmps43
  go_wp2_with (go_at_call 19; (first | (with_reducible show Calls _ _ _ (Later.val _) _; with_reducible refine Calls.mono (Later.call _ (V.out _ (HP.out.later ⟨_, by repeat (first | exact Below.refl _ _ | (with_reducible assumption) | apply below_later | apply below_alloc | apply below_drew | apply below_drewN)⟩))) ?_) | (with_reducible refine Calls.mono (Gives.calls (V.out _ (HP.out.later ⟨_, by repeat (first | exact Below.refl _ _ | (with_reducible assumption) | apply below_later | apply below_alloc | apply below_drew | apply below_drewN)⟩))) ?_)); rintro e w1 ⟨rfl, z, rfl⟩)
  have gm : z.val.heap[w.heap.size]? = some (.cells #[.int .i64 W, .int .i64 H, .slice (some ⟨b, off, none⟩) n cap] 24) := by
    rw [z.ok.block _ (by simp only [World.size_alloc]; omega), Below.heap_alloc _ _ _ (by simp)]; exact World.alloc_heap_new w _
  have g : z.val.heap[w.heap.size + 1]? = some (.cells #[.int .i64 0, .int .i64 0, .slice none 0 0] 24) := by
    rw [z.ok.block _ (by simp)]
    have := World.alloc_heap_new (w.alloc (.cells #[.int .i64 W, .int .i64 H, .slice (some ⟨b, off, none⟩) n cap] 24)) (.cells #[.int .i64 0, .int .i64 0, .slice none 0 0] 24)
    rwa [World.size_alloc] at this
  obtain ⟨⟨d0, d1, d2⟩, _⟩ := cells3 gm
  have lm := (Array.getElem?_eq_some_iff.1 gm).1
  have pz := P.out.later ⟨z.val, by repeat (first | exact Below.refl _ _ | (with_reducible assumption) | apply below_later | apply below_alloc | apply below_drew | apply below_drewN)⟩
  have DD := Lib.hid (D.out z.val _ gm pz)
  have GM := Lib.hid gm
  have G := Lib.hid g
  clear gm g pz D
  go_wp2_with (go_at_call 83; refine Calls.mono DD.out.calls ?_; rintro e w1 ⟨v, rfl, y, rfl, ho⟩; obtain ⟨A', cap', rfl⟩ := ho.shape_n (n := H * W) (by simp); obtain ⟨⟨c0, c1, c2⟩, f0, f1, f2⟩ := cells3 ((y.ok.block _ (Array.getElem?_eq_some_iff.1 G.out).1).trans G.out))
  have k3 := put3 (v0 := .int .i64 H) (v1 := .int .i64 W) (v2 := .slice A' (H * W) cap') ((y.ok.block _ (Array.getElem?_eq_some_iff.1 G.out).1).trans G.out)
  obtain ⟨⟨r0, r1, r2⟩, _⟩ := cells3 k3
  refine bodyPost_ret (v := .tuple #[.agg #[.int .i64 H, .int .i64 W, .slice A' (H * W) cap'], .int .i64 0]) (by simp [results, Tryd.results43, go_sem, r0, r1, r2]) rfl ?_
  have zz := z.size
  simp only [World.size_alloc] at zz
  refine ⟨_, rfl, ⟨_, below_put3 (by repeat (first | exact Below.refl _ _ | (with_reducible assumption) | apply below_later | apply below_alloc | apply below_drew | apply below_drewN)) (by simp)⟩, rfl, own_put3 (ho.mono (by omega)) ?_⟩
  intro g hg e
  have := (own_lt ho g hg).1
  omega
set_option maxRecDepth 100000 in
set_option maxHeartbeats 1600000 in
theorem Flip_ok (W H n cap : Nat) (A : Option Addr) (f : Nat → Int) (w : World) (hp : IsInts w A n f) (hv : validM W H n f = true) :
    GivesME 41 #[.agg #[.int .i64 W, .int .i64 H, .slice A n cap]] w W H ((List.range (W * H)).map fun i => f (flipAt W i)) 0 := by
  have V : Hid (∀ w', IsInts w' A n f → Gives Tryd.prog 19 #[.agg #[.int .i64 W, .int .i64 H, .slice A n cap]] w' (.bool true)) := fun w' h => hv ▸ bvalid_any W H A n cap f w' h
  obtain ⟨⟨v1, v2⟩, ⟨v3, v4⟩, hn, _⟩ := validM_iff.1 hv
  have hn' : n = W * H := by rw [← Int.natCast_mul] at hn; omega
  have h0 : 0 < n := by
    have := Nat.mul_le_mul (show 1 ≤ W by omega) (show 1 ≤ H by omega)
    omega
  obtain ⟨b, off, rfl, p⟩ := hp.at_ h0
  have D : Hid (∀ (w' : World) (bm : Nat), w'.heap[bm]? = some (.cells #[.int .i64 W, .int .i64 H, .slice (some ⟨b, off, none⟩) n cap] 24) → Ints w' b off n f →
      GivesM 83 #[.int .i64 W, .int .i64 H, .func (.func 87) #[] #[.pointer (some ⟨bm, 0, none⟩)]] w' W H ((List.range (W * H)).map fun i => f (flipAt W i))) := fun w' bm g q => by
    refine draw_flip W H bm _ w' (by omega) (by omega) (by omega) fun x i hi => ?_
    have g2 := (x.ok.block _ (Array.getElem?_eq_some_iff.1 g).1).trans g
    obtain ⟨⟨c0, c1, c2⟩, _⟩ := cells3 g2
    exact flip1_any W H b off n cap bm i f x.val (by omega) (by omega) (by omega) (by omega) hn' hi (q.later x) c0 c1 c2
  have HP := Lib.hid hp
  have P := Lib.hid p
  clear hp hv hn hn' p
  go_enter Tryd.func41, Tryd.ntmps41
  go_wp2_with (go_at_call 19; (first | (with_reducible show Calls _ _ _ (Later.val _) _; with_reducible refine Calls.mono (Later.call _ (V.out _ (HP.out.later ⟨_, by repeat (first | exact Below.refl _ _ | (with_reducible assumption) | apply below_later | apply below_alloc | apply below_drew | apply below_drewN)⟩))) ?_) | (with_reducible refine Calls.mono (Gives.calls (V.out _ (HP.out.later ⟨_, by repeat (first | exact Below.refl _ _ | (with_reducible assumption) | apply below_later | apply below_alloc | apply below_drew | apply below_drewN)⟩))) ?_)); rintro e w1 ⟨rfl, z, rfl⟩)
  have gm : z.val.heap[w.heap.size]? = some (.cells #[.int .i64 W, .int .i64 H, .slice (some ⟨b, off, none⟩) n cap] 24) := by
    rw [z.ok.block _ (by simp only [World.size_alloc]; omega), Below.heap_alloc _ _ _ (by simp)]; exact World.alloc_heap_new w _
  have g : z.val.heap[w.heap.size + 1]? = some (.cells #[.int .i64 0, .int .i64 0, .slice none 0 0] 24) := by
    rw [z.ok.block _ (by simp)]
    have := World.alloc_heap_new (w.alloc (.cells #[.int .i64 W, .int .i64 H, .slice (some ⟨b, off, none⟩) n cap] 24)) (.cells #[.int .i64 0, .int .i64 0, .slice none 0 0] 24)
    rwa [World.size_alloc] at this
  obtain ⟨⟨d0, d1, d2⟩, _⟩ := cells3 gm
  have lm := (Array.getElem?_eq_some_iff.1 gm).1
  have pz := P.out.later ⟨z.val, by repeat (first | exact Below.refl _ _ | (with_reducible assumption) | apply below_later | apply below_alloc | apply below_drew | apply below_drewN)⟩
  have DD := Lib.hid (D.out z.val _ gm pz)
  have GM := Lib.hid gm
  have G := Lib.hid g
  clear gm g pz D
  go_wp2_with (go_at_call 83; refine Calls.mono DD.out.calls ?_; rintro e w1 ⟨v, rfl, y, rfl, ho⟩; obtain ⟨A', cap', rfl⟩ := ho.shape_n (n := W * H) (by simp); obtain ⟨⟨c0, c1, c2⟩, f0, f1, f2⟩ := cells3 ((y.ok.block _ (Array.getElem?_eq_some_iff.1 G.out).1).trans G.out))
  have k3 := put3 (v0 := .int .i64 W) (v1 := .int .i64 H) (v2 := .slice A' (W * H) cap') ((y.ok.block _ (Array.getElem?_eq_some_iff.1 G.out).1).trans G.out)
  obtain ⟨⟨r0, r1, r2⟩, _⟩ := cells3 k3
  refine bodyPost_ret (v := .tuple #[.agg #[.int .i64 W, .int .i64 H, .slice A' (W * H) cap'], .int .i64 0]) (by simp [results, Tryd.results41, go_sem, r0, r1, r2]) rfl ?_
  have zz := z.size
  simp only [World.size_alloc] at zz
  refine ⟨_, rfl, ⟨_, below_put3 (by repeat (first | exact Below.refl _ _ | (with_reducible assumption) | apply below_later | apply below_alloc | apply below_drew | apply below_drewN)) (by simp)⟩, rfl, own_put3 (ho.mono (by omega)) ?_⟩
  intro g hg e
  have := (own_lt ho g hg).1
  omega
end Go.Proofs.YtajfepogecakbaaDoor
