/- The law BedGrows: walked. -/
import Derived.Test.YtmielpcidhphaaaDoorRTurn
import Derived.Test.YtmielpcidhphaaaDoorRGrow
import Derived.Test.YtmielpcidhphaaaDoorTurn
import Derived.Test.YtmielpcidhphaaaDoorGrow
import Derived.Test.YtmielpcidhphaaaDoorSame
import Derived.Test.YtmielpcidhphaaaDoorAwake
import Derived.Test.YtmielpcidhphaaaDoorBedRef
namespace Go.Proofs.YtmielpcidhphaaaDoor
open Go.RowKit

abbrev flipM (W _H : Nat) (f : Nat → Int) : Nat → Int := fun i => f (flipAt W i)
abbrev turnM (W H : Nat) (f : Nat → Int) : Nat → Int := fun i => f (turnAt W H i)
theorem both_Spread (W H : Int) (n cap : Nat) (A : Option Addr) (f : Nat → Int) : ∃ (W0 H0 : Int) (L0 : List Int) (E0 : Int), L0.length ≤ 1000 ∧
    (∀ w, IsInts w A n f → GivesME 37 #[.agg #[.int .i64 W, .int .i64 H, .slice A n cap]] w W0 H0 L0 E0) ∧ (∀ w, IsInts w A n f → GivesME 38 #[.agg #[.int .i64 W, .int .i64 H, .slice A n cap]] w W0 H0 L0 E0) := by
  cases hv : validM W H n f
  · exact ⟨0, 0, [], 20, by simp, fun w hp => Spread_bad W H n cap A f w hp hv, fun w hp => rSpread_bad W H n cap A f w hp hv⟩
  · obtain ⟨⟨v1, v2⟩, ⟨v3, v4⟩, hn, _⟩ := validM_iff.1 hv
    obtain ⟨W, rfl⟩ : ∃ x : Nat, W = x := ⟨W.toNat, by omega⟩
    obtain ⟨H, rfl⟩ : ∃ y : Nat, H = y := ⟨H.toNat, by omega⟩
    have hn' : n = W * H := by rw [← Int.natCast_mul] at hn; omega
    have hn9 : n ≤ 900 := by rw [hn']; exact Nat.mul_le_mul (show W ≤ 30 by omega) (show H ≤ 30 by omega)
    have hm : W * H = n := by first | exact hn'.symm | (rw [Nat.mul_comm]; exact hn'.symm)
    refine ⟨W, H, (List.range n).map (spreadF W H f), 0, by simp; omega, fun w hp => ?_, fun w hp => rSpread_ok W H n cap A f w hp hv⟩
    have := Spread_ok W H n cap A f w hp hv
    rw [hm] at this
    exact this
theorem both_Mow (W H : Int) (n cap : Nat) (A : Option Addr) (f : Nat → Int) : ∃ (W0 H0 : Int) (L0 : List Int) (E0 : Int), L0.length ≤ 1000 ∧
    (∀ w, IsInts w A n f → GivesME 39 #[.agg #[.int .i64 W, .int .i64 H, .slice A n cap]] w W0 H0 L0 E0) ∧ (∀ w, IsInts w A n f → GivesME 40 #[.agg #[.int .i64 W, .int .i64 H, .slice A n cap]] w W0 H0 L0 E0) := by
  cases hv : validM W H n f
  · exact ⟨0, 0, [], 20, by simp, fun w hp => Mow_bad W H n cap A f w hp hv, fun w hp => rMow_bad W H n cap A f w hp hv⟩
  · obtain ⟨⟨v1, v2⟩, ⟨v3, v4⟩, hn, _⟩ := validM_iff.1 hv
    obtain ⟨W, rfl⟩ : ∃ x : Nat, W = x := ⟨W.toNat, by omega⟩
    obtain ⟨H, rfl⟩ : ∃ y : Nat, H = y := ⟨H.toNat, by omega⟩
    have hn' : n = W * H := by rw [← Int.natCast_mul] at hn; omega
    have hn9 : n ≤ 900 := by rw [hn']; exact Nat.mul_le_mul (show W ≤ 30 by omega) (show H ≤ 30 by omega)
    have hm : W * H = n := by first | exact hn'.symm | (rw [Nat.mul_comm]; exact hn'.symm)
    refine ⟨W, H, (List.range n).map (mowF W H f), 0, by simp; omega, fun w hp => ?_, fun w hp => rMow_ok W H n cap A f w hp hv⟩
    have := Mow_ok W H n cap A f w hp hv
    rw [hm] at this
    exact this
theorem both_Flip (W H : Int) (n cap : Nat) (A : Option Addr) (f : Nat → Int) : ∃ (W0 H0 : Int) (L0 : List Int) (E0 : Int), L0.length ≤ 1000 ∧
    (∀ w, IsInts w A n f → GivesME 41 #[.agg #[.int .i64 W, .int .i64 H, .slice A n cap]] w W0 H0 L0 E0) ∧ (∀ w, IsInts w A n f → GivesME 42 #[.agg #[.int .i64 W, .int .i64 H, .slice A n cap]] w W0 H0 L0 E0) := by
  cases hv : validM W H n f
  · exact ⟨0, 0, [], 20, by simp, fun w hp => Flip_bad W H n cap A f w hp hv, fun w hp => rFlip_bad W H n cap A f w hp hv⟩
  · obtain ⟨⟨v1, v2⟩, ⟨v3, v4⟩, hn, _⟩ := validM_iff.1 hv
    obtain ⟨W, rfl⟩ : ∃ x : Nat, W = x := ⟨W.toNat, by omega⟩
    obtain ⟨H, rfl⟩ : ∃ y : Nat, H = y := ⟨H.toNat, by omega⟩
    have hn' : n = W * H := by rw [← Int.natCast_mul] at hn; omega
    have hn9 : n ≤ 900 := by rw [hn']; exact Nat.mul_le_mul (show W ≤ 30 by omega) (show H ≤ 30 by omega)
    have hm : W * H = n := by first | exact hn'.symm | (rw [Nat.mul_comm]; exact hn'.symm)
    refine ⟨W, H, (List.range n).map (flipM W H f), 0, by simp; omega, fun w hp => ?_, fun w hp => rFlip_ok W H n cap A f w hp hv⟩
    have := Flip_ok W H n cap A f w hp hv
    rw [hm] at this
    exact this
theorem both_Turn (W H : Int) (n cap : Nat) (A : Option Addr) (f : Nat → Int) : ∃ (W0 H0 : Int) (L0 : List Int) (E0 : Int), L0.length ≤ 1000 ∧
    (∀ w, IsInts w A n f → GivesME 43 #[.agg #[.int .i64 W, .int .i64 H, .slice A n cap]] w W0 H0 L0 E0) ∧ (∀ w, IsInts w A n f → GivesME 44 #[.agg #[.int .i64 W, .int .i64 H, .slice A n cap]] w W0 H0 L0 E0) := by
  cases hv : validM W H n f
  · exact ⟨0, 0, [], 20, by simp, fun w hp => Turn_bad W H n cap A f w hp hv, fun w hp => rTurn_bad W H n cap A f w hp hv⟩
  · obtain ⟨⟨v1, v2⟩, ⟨v3, v4⟩, hn, _⟩ := validM_iff.1 hv
    obtain ⟨W, rfl⟩ : ∃ x : Nat, W = x := ⟨W.toNat, by omega⟩
    obtain ⟨H, rfl⟩ : ∃ y : Nat, H = y := ⟨H.toNat, by omega⟩
    have hn' : n = W * H := by rw [← Int.natCast_mul] at hn; omega
    have hn9 : n ≤ 900 := by rw [hn']; exact Nat.mul_le_mul (show W ≤ 30 by omega) (show H ≤ 30 by omega)
    have hm : H * W = n := by first | exact hn'.symm | (rw [Nat.mul_comm]; exact hn'.symm)
    refine ⟨H, W, (List.range n).map (turnM W H f), 0, by simp; omega, fun w hp => ?_, fun w hp => rTurn_ok W H n cap A f w hp hv⟩
    have := Turn_ok W H n cap A f w hp hv
    rw [hm] at this
    exact this

/-- The law's boxes: the map that came in, and the two that are compared. -/
structure BX (M VA VB : Obj) (ba bb : Nat) (w V : World) : Prop where
  below : Below w.heap.size w V
  boxM : V.heap[w.heap.size]? = some M
  boxA : V.heap[ba]? = some VA
  boxB : V.heap[bb]? = some VB
  lo : w.heap.size < ba
  lt : ba < bb
section
variable {M VA VB : Obj} {ba bb : Nat} {w V : World} {u0 u1 u2 v0 v1 v2 : Value} {t : TypeId}
theorem BX.later (h : BX M VA VB ba bb w V) (x : Later V) : BX M VA VB ba bb w x.val :=
  ⟨below_more h.below x.ok, (x.ok.block _ (lt_of_get h.boxM)).trans h.boxM, (x.ok.block _ (lt_of_get h.boxA)).trans h.boxA, (x.ok.block _ (lt_of_get h.boxB)).trans h.boxB, h.lo, h.lt⟩
theorem far3 {b k : Nat} (hk : k ≠ b) : (((V.setCell ⟨b, 0, none⟩ v0).setCell ⟨b, 1, none⟩ v1).setCell ⟨b, 2, none⟩ v2).heap[k]? = V.heap[k]? := by
  rw [Below.heap_setCell _ _ _ _ hk, Below.heap_setCell _ _ _ _ hk, Below.heap_setCell _ _ _ _ hk]
theorem BX.putA (h : BX M (.cells #[u0, u1, u2] t (0, 0)) VB ba bb w V) : BX M (.cells #[v0, v1, v2] t (0, 0)) VB ba bb w (((V.setCell ⟨ba, 0, none⟩ v0).setCell ⟨ba, 1, none⟩ v1).setCell ⟨ba, 2, none⟩ v2) := by
  have := h.lo
  have := h.lt
  exact ⟨below_put3 h.below (by omega), (far3 (by omega)).trans h.boxM, put3 h.boxA, (far3 (by omega)).trans h.boxB, h.lo, h.lt⟩
theorem BX.putB (h : BX M VA (.cells #[u0, u1, u2] t (0, 0)) ba bb w V) : BX M VA (.cells #[v0, v1, v2] t (0, 0)) ba bb w (((V.setCell ⟨bb, 0, none⟩ v0).setCell ⟨bb, 1, none⟩ v1).setCell ⟨bb, 2, none⟩ v2) := by
  have := h.lo
  have := h.lt
  exact ⟨below_put3 h.below (by omega), (far3 (by omega)).trans h.boxM, (far3 (by omega)).trans h.boxA, put3 h.boxB, h.lo, h.lt⟩
end

set_option maxRecDepth 100000 in
set_option maxHeartbeats 3200000 in
theorem grows_law (W H : Int) (A : Option Addr) (n cap : Nat) (f : Nat → Int) (w : World) (hn : n ≤ maxLen) (hp : n ≤ 1000 → IsInts w A n f) :
    Gives Tryd.prog 7 #[.agg #[.int .i64 W, .int .i64 H, .slice A n cap]] w (.bool true) := by
  have hm : n < 9223372036854775808 := by unfold maxLen at hn; omega
  clear hn
  have AW : Hid (∀ w, Gives Tryd.prog 16 #[] w (.bool true)) := awake_any
  by_cases h : 1000 < n
  · have LG : Hid (∀ w, Gives Tryd.prog 15 #[.agg #[.int .i64 W, .int .i64 H, .slice A n cap]] w (.bool true)) := fun w => (show decide (1000 < n) = true by simpa using h) ▸ large_any W H A n cap w
    clear hp
    go_enter Tryd.func7, Tryd.ntmps7
    go_wp2_with (first | (go_at_call 15; (first | (with_reducible show Calls _ _ _ (Later.val _) _; with_reducible refine Calls.mono (Later.call _ (LG.out _)) ?_) | (with_reducible refine Calls.mono (Gives.calls (LG.out _)) ?_)); rintro e w1 ⟨rfl, y1, rfl⟩) | (go_at_call 16; (first | (with_reducible show Calls _ _ _ (Later.val _) _; with_reducible refine Calls.mono (Later.call _ (AW.out _)) ?_) | (with_reducible refine Calls.mono (Gives.calls (AW.out _)) ?_)); rintro e w1 ⟨rfl, y2, rfl⟩))
    go_ret
    exact ⟨rfl, later_of (by repeat (first | exact Below.refl _ _ | (with_reducible assumption) | apply below_later | apply below_alloc | apply below_drew | apply below_drewN))⟩
  · have LG : Hid (∀ w, Gives Tryd.prog 15 #[.agg #[.int .i64 W, .int .i64 H, .slice A n cap]] w (.bool false)) := fun w => (show decide (1000 < n) = false by simpa using h) ▸ large_any W H A n cap w
    have HP := Lib.hid (hp (by omega))
    have hn9 : n ≤ 1000 := by omega
    clear hp h
    obtain ⟨W1, H1, L1, E1, k1, a1, b1⟩ := both_Spread W H n cap A f
    obtain ⟨W2, H2, L2, E2, k2, a2, b2⟩ := both_Mow W H n cap A f
    obtain ⟨W3, H3, L3, E3, k3, a3, b3⟩ := both_Flip W H n cap A f
    obtain ⟨W4, H4, L4, E4, k4, a4, b4⟩ := both_Turn W H n cap A f
    obtain ⟨n1, hn1⟩ : ∃ k, L1.length = k := ⟨_, rfl⟩
    obtain ⟨n2, hn2⟩ : ∃ k, L2.length = k := ⟨_, rfl⟩
    obtain ⟨n3, hn3⟩ : ∃ k, L3.length = k := ⟨_, rfl⟩
    obtain ⟨n4, hn4⟩ : ∃ k, L4.length = k := ⟨_, rfl⟩
    have N1 := Lib.hid hn1
    have N2 := Lib.hid hn2
    have N3 := Lib.hid hn3
    have N4 := Lib.hid hn4
    have P1 := Lib.hid a1
    have P2 := Lib.hid a2
    have P3 := Lib.hid a3
    have P4 := Lib.hid a4
    have R1 := Lib.hid b1
    have R2 := Lib.hid b2
    have R3 := Lib.hid b3
    have R4 := Lib.hid b4
    rw [hn1] at k1
    rw [hn2] at k2
    rw [hn3] at k3
    rw [hn4] at k4
    have SM : Hid (∀ (w' : World) (W0 H0 : Int) (L0 : List Int) (m : Nat) (B C : Option Addr) (c1 c2 : Nat), m ≤ 1000 → IsInts w' B m (fun i => L0.getD i 0) → IsInts w' C m (fun i => L0.getD i 0) → Gives Tryd.prog 22 #[.agg #[.int .i64 W0, .int .i64 H0, .slice B m c1], .agg #[.int .i64 W0, .int .i64 H0, .slice C m c2]] w' (.bool true)) := fun w' W0 H0 L0 m B C c1 c2 hm h1 h2 =>
      same_maps W0 H0 B C m c1 c2 _ _ w' (by omega) h1 h2 fun i hi => rfl
    clear hn1 hn2 hn3 hn4 a1 a2 a3 a4 b1 b2 b3 b4
    go_enter Tryd.func7, Tryd.ntmps7
    go_wp2_with (first
      | (go_at_call 15; (first | (with_reducible show Calls _ _ _ (Later.val _) _; with_reducible refine Calls.mono (Later.call _ (LG.out _)) ?_) | (with_reducible refine Calls.mono (Gives.calls (LG.out _)) ?_)); rintro e w1 ⟨rfl, y1, rfl⟩)
      | (go_at_call 37; refine Calls.mono (GivesME.calls (P1.out _ (HP.out.later ⟨_, by repeat (first | exact Below.refl _ _ | (with_reducible assumption) | apply below_later | apply below_alloc | apply below_drew | apply below_drewN)⟩))) ?_; rintro e w1 ⟨v, rfl, x1, rfl, ho1⟩; obtain ⟨A1, cap1, rfl⟩ := ho1.shape_n (n := n1) N1.out; have HO1 := Lib.hid ho1; clear ho1; have ly := y1.size; have M1 : x1.val.heap[w.heap.size]? = some (.cells #[.int .i64 W, .int .i64 H, .slice A n cap] 24) := (by rw [x1.ok.block _ (by simp at ly; omega), y1.ok.block _ (by simp)]; exact World.alloc_heap_new w _); obtain ⟨⟨m0, m1, m2⟩, _⟩ := cells3 M1; have lM := lt_of_get M1; have bx1 := below_more (below_more (Below.alloc (Below.refl _ _) (Nat.le_refl _) (.cells #[.int .i64 W, .int .i64 H, .slice A n cap] 24)) y1.ok) x1.ok; have HBX1 := Lib.hid bx1; clear bx1)
      | (go_at_call 38; refine Calls.mono (GivesME.calls (R1.out _ (HP.out.later ⟨_, by repeat (first | exact Below.refl _ _ | (with_reducible assumption) | apply below_later | apply below_alloc | apply below_drew | apply below_drewN)⟩))) ?_; rintro e w1 ⟨v, rfl, y2, rfl, ho2⟩; obtain ⟨B1, cbp1, rfl⟩ := ho2.shape_n (n := n1) N1.out; have ly2 := y2.size; have BX1 : Hid (BX (.cells #[.int .i64 W, .int .i64 H, .slice A n cap] 24) (.cells #[.int .i64 W1, .int .i64 H1, .slice A1 n1 cap1] 24) (.cells #[.int .i64 W1, .int .i64 H1, .slice B1 n1 cbp1] 24) x1.val.heap.size y2.val.heap.size w (y2.val.alloc (.cells #[.int .i64 W1, .int .i64 H1, .slice B1 n1 cbp1] 24))) := ⟨Below.alloc (below_more (Below.alloc HBX1.out (by omega) _) y2.ok) (by simp at ly2; omega) _, (by rw [Below.heap_alloc _ _ _ (by simp at ly2; omega), y2.ok.block _ (by simp; omega), Below.heap_alloc _ _ _ lM]; exact M1), (by rw [Below.heap_alloc _ _ _ (by simp at ly2; omega), y2.ok.block _ (by simp)]; exact World.alloc_heap_new _ _), World.alloc_heap_new _ _, lM, (by simp at ly2; omega)⟩; have I1 := Lib.hid ((((HO1.out.alloc (.cells #[.int .i64 W1, .int .i64 H1, .slice A1 n1 cap1] 24)).later y2).alloc (.cells #[.int .i64 W1, .int .i64 H1, .slice B1 n1 cbp1] 24)).ints (by rw [N1.out]; omega)).2; have J1 := Lib.hid ((ho2.alloc (.cells #[.int .i64 W1, .int .i64 H1, .slice B1 n1 cbp1] 24)).ints (by rw [N1.out]; omega)).2; clear ho2 HO1 M1 m0 m1 m2 lM HBX1; obtain ⟨⟨m0, m1, m2⟩, _⟩ := cells3 (BX1.out).boxM; obtain ⟨⟨d0, d1, d2⟩, e0, e1, e2⟩ := cells3 (BX1.out).boxA; obtain ⟨⟨g0, g1, g2⟩, h0, h1, h2⟩ := cells3 (BX1.out).boxB; have lM := lt_of_get (BX1.out).boxM; have lA := lt_of_get (BX1.out).boxA; have lB := lt_of_get (BX1.out).boxB)
      | (go_at_call 39; refine Calls.mono (GivesME.calls (P2.out _ (HP.out.later ⟨_, S1.out.below⟩))) ?_; rintro e w1 ⟨v, rfl, x2, rfl, ho1⟩; obtain ⟨A2, cap2, rfl⟩ := ho1.shape_n (n := n2) N2.out; clear m0 m1 m2 d0 d1 d2 e0 e1 e2 g0 g1 g2 h0 h1 h2 lM lA lB; have BA2 := Lib.hid (S1.out.later x2); have O2 := Lib.hid (own_put3 (b := x1.val.heap.size) (v0 := .int .i64 W2) (v1 := .int .i64 H2) (v2 := .slice A2 n2 cap2) ho1 (fun g hg e => by have := (own_lt ho1 g hg).1; have := lt_of_get S1.out.boxA; omega)); have lq2 := lt_of_get S1.out.boxB; have HA2 : Hid (∀ g, Value.ownBlock (.slice A2 n2 cap2) = some g → y2.val.heap.size ≠ g) := (fun g hg e => by have := (own_lt ho1 g hg).1; omega); clear ho1; obtain ⟨⟨m0, m1, m2⟩, _⟩ := cells3 (BA2.out).boxM; obtain ⟨⟨d0, d1, d2⟩, e0, e1, e2⟩ := cells3 (BA2.out).boxA; obtain ⟨⟨g0, g1, g2⟩, h0, h1, h2⟩ := cells3 (BA2.out).boxB; have lM := lt_of_get (BA2.out).boxM; have lA := lt_of_get (BA2.out).boxA; have lB := lt_of_get (BA2.out).boxB; have PA2 := Lib.hid (BA2.out.putA (v0 := .int .i64 W2) (v1 := .int .i64 H2) (v2 := .slice A2 n2 cap2)); obtain ⟨⟨r0, r1, r2⟩, _⟩ := cells3 (PA2.out).boxM; obtain ⟨⟨s0, s1, s2⟩, _⟩ := cells3 (PA2.out).boxA; obtain ⟨⟨t0, t1, t2⟩, _⟩ := cells3 (PA2.out).boxB)
      | (go_at_call 40; refine Calls.mono (GivesME.calls (R2.out _ (HP.out.later ⟨_, PA2.out.below⟩))) ?_; rintro e w1 ⟨v, rfl, w2, rfl, ho2⟩; obtain ⟨B2, cbp2, rfl⟩ := ho2.shape_n (n := n2) N2.out; clear m0 m1 m2 d0 d1 d2 e0 e1 e2 g0 g1 g2 h0 h1 h2 lM lA lB; clear r0 r1 r2 s0 s1 s2 t0 t1 t2; have BB2 := Lib.hid (PA2.out.later w2); have I2 := Lib.hid ((own_put3 (b := y2.val.heap.size) (v0 := .int .i64 W2) (v1 := .int .i64 H2) (v2 := .slice B2 n2 cbp2) (O2.out.later w2) HA2.out).ints (by rw [N2.out]; omega)).2; have J2 := Lib.hid ((own_put3 (b := y2.val.heap.size) (v0 := .int .i64 W2) (v1 := .int .i64 H2) (v2 := .slice B2 n2 cbp2) ho2 (fun g hg e => by have := (own_lt ho2 g hg).1; have := lt_of_get PA2.out.boxB; omega)).ints (by rw [N2.out]; omega)).2; clear ho2; obtain ⟨⟨m0, m1, m2⟩, _⟩ := cells3 (BB2.out).boxM; obtain ⟨⟨d0, d1, d2⟩, e0, e1, e2⟩ := cells3 (BB2.out).boxA; obtain ⟨⟨g0, g1, g2⟩, h0, h1, h2⟩ := cells3 (BB2.out).boxB; have lM := lt_of_get (BB2.out).boxM; have lA := lt_of_get (BB2.out).boxA; have lB := lt_of_get (BB2.out).boxB; have PB2 := Lib.hid (BB2.out.putB (v0 := .int .i64 W2) (v1 := .int .i64 H2) (v2 := .slice B2 n2 cbp2)); obtain ⟨⟨r0, r1, r2⟩, _⟩ := cells3 (PB2.out).boxM; obtain ⟨⟨s0, s1, s2⟩, _⟩ := cells3 (PB2.out).boxA; obtain ⟨⟨t0, t1, t2⟩, _⟩ := cells3 (PB2.out).boxB)
      | (go_at_call 41; refine Calls.mono (GivesME.calls (P3.out _ (HP.out.later ⟨_, S2.out.below⟩))) ?_; rintro e w1 ⟨v, rfl, x3, rfl, ho1⟩; obtain ⟨A3, cap3, rfl⟩ := ho1.shape_n (n := n3) N3.out; clear m0 m1 m2 d0 d1 d2 e0 e1 e2 g0 g1 g2 h0 h1 h2 lM lA lB; have BA3 := Lib.hid (S2.out.later x3); have O3 := Lib.hid (own_put3 (b := x1.val.heap.size) (v0 := .int .i64 W3) (v1 := .int .i64 H3) (v2 := .slice A3 n3 cap3) ho1 (fun g hg e => by have := (own_lt ho1 g hg).1; have := lt_of_get S2.out.boxA; omega)); have lq3 := lt_of_get S2.out.boxB; have HA3 : Hid (∀ g, Value.ownBlock (.slice A3 n3 cap3) = some g → y2.val.heap.size ≠ g) := (fun g hg e => by have := (own_lt ho1 g hg).1; omega); clear ho1; obtain ⟨⟨m0, m1, m2⟩, _⟩ := cells3 (BA3.out).boxM; obtain ⟨⟨d0, d1, d2⟩, e0, e1, e2⟩ := cells3 (BA3.out).boxA; obtain ⟨⟨g0, g1, g2⟩, h0, h1, h2⟩ := cells3 (BA3.out).boxB; have lM := lt_of_get (BA3.out).boxM; have lA := lt_of_get (BA3.out).boxA; have lB := lt_of_get (BA3.out).boxB; have PA3 := Lib.hid (BA3.out.putA (v0 := .int .i64 W3) (v1 := .int .i64 H3) (v2 := .slice A3 n3 cap3)); obtain ⟨⟨r0, r1, r2⟩, _⟩ := cells3 (PA3.out).boxM; obtain ⟨⟨s0, s1, s2⟩, _⟩ := cells3 (PA3.out).boxA; obtain ⟨⟨t0, t1, t2⟩, _⟩ := cells3 (PA3.out).boxB)
      | (go_at_call 42; refine Calls.mono (GivesME.calls (R3.out _ (HP.out.later ⟨_, PA3.out.below⟩))) ?_; rintro e w1 ⟨v, rfl, w3, rfl, ho2⟩; obtain ⟨B3, cbp3, rfl⟩ := ho2.shape_n (n := n3) N3.out; clear m0 m1 m2 d0 d1 d2 e0 e1 e2 g0 g1 g2 h0 h1 h2 lM lA lB; clear r0 r1 r2 s0 s1 s2 t0 t1 t2; have BB3 := Lib.hid (PA3.out.later w3); have I3 := Lib.hid ((own_put3 (b := y2.val.heap.size) (v0 := .int .i64 W3) (v1 := .int .i64 H3) (v2 := .slice B3 n3 cbp3) (O3.out.later w3) HA3.out).ints (by rw [N3.out]; omega)).2; have J3 := Lib.hid ((own_put3 (b := y2.val.heap.size) (v0 := .int .i64 W3) (v1 := .int .i64 H3) (v2 := .slice B3 n3 cbp3) ho2 (fun g hg e => by have := (own_lt ho2 g hg).1; have := lt_of_get PA3.out.boxB; omega)).ints (by rw [N3.out]; omega)).2; clear ho2; obtain ⟨⟨m0, m1, m2⟩, _⟩ := cells3 (BB3.out).boxM; obtain ⟨⟨d0, d1, d2⟩, e0, e1, e2⟩ := cells3 (BB3.out).boxA; obtain ⟨⟨g0, g1, g2⟩, h0, h1, h2⟩ := cells3 (BB3.out).boxB; have lM := lt_of_get (BB3.out).boxM; have lA := lt_of_get (BB3.out).boxA; have lB := lt_of_get (BB3.out).boxB; have PB3 := Lib.hid (BB3.out.putB (v0 := .int .i64 W3) (v1 := .int .i64 H3) (v2 := .slice B3 n3 cbp3)); obtain ⟨⟨r0, r1, r2⟩, _⟩ := cells3 (PB3.out).boxM; obtain ⟨⟨s0, s1, s2⟩, _⟩ := cells3 (PB3.out).boxA; obtain ⟨⟨t0, t1, t2⟩, _⟩ := cells3 (PB3.out).boxB)
      | (go_at_call 43; refine Calls.mono (GivesME.calls (P4.out _ (HP.out.later ⟨_, S3.out.below⟩))) ?_; rintro e w1 ⟨v, rfl, x4, rfl, ho1⟩; obtain ⟨A4, cap4, rfl⟩ := ho1.shape_n (n := n4) N4.out; clear m0 m1 m2 d0 d1 d2 e0 e1 e2 g0 g1 g2 h0 h1 h2 lM lA lB; have BA4 := Lib.hid (S3.out.later x4); have O4 := Lib.hid (own_put3 (b := x1.val.heap.size) (v0 := .int .i64 W4) (v1 := .int .i64 H4) (v2 := .slice A4 n4 cap4) ho1 (fun g hg e => by have := (own_lt ho1 g hg).1; have := lt_of_get S3.out.boxA; omega)); have lq4 := lt_of_get S3.out.boxB; have HA4 : Hid (∀ g, Value.ownBlock (.slice A4 n4 cap4) = some g → y2.val.heap.size ≠ g) := (fun g hg e => by have := (own_lt ho1 g hg).1; omega); clear ho1; obtain ⟨⟨m0, m1, m2⟩, _⟩ := cells3 (BA4.out).boxM; obtain ⟨⟨d0, d1, d2⟩, e0, e1, e2⟩ := cells3 (BA4.out).boxA; obtain ⟨⟨g0, g1, g2⟩, h0, h1, h2⟩ := cells3 (BA4.out).boxB; have lM := lt_of_get (BA4.out).boxM; have lA := lt_of_get (BA4.out).boxA; have lB := lt_of_get (BA4.out).boxB; have PA4 := Lib.hid (BA4.out.putA (v0 := .int .i64 W4) (v1 := .int .i64 H4) (v2 := .slice A4 n4 cap4)); obtain ⟨⟨r0, r1, r2⟩, _⟩ := cells3 (PA4.out).boxM; obtain ⟨⟨s0, s1, s2⟩, _⟩ := cells3 (PA4.out).boxA; obtain ⟨⟨t0, t1, t2⟩, _⟩ := cells3 (PA4.out).boxB)
      | (go_at_call 44; refine Calls.mono (GivesME.calls (R4.out _ (HP.out.later ⟨_, PA4.out.below⟩))) ?_; rintro e w1 ⟨v, rfl, w4, rfl, ho2⟩; obtain ⟨B4, cbp4, rfl⟩ := ho2.shape_n (n := n4) N4.out; clear m0 m1 m2 d0 d1 d2 e0 e1 e2 g0 g1 g2 h0 h1 h2 lM lA lB; clear r0 r1 r2 s0 s1 s2 t0 t1 t2; have BB4 := Lib.hid (PA4.out.later w4); have I4 := Lib.hid ((own_put3 (b := y2.val.heap.size) (v0 := .int .i64 W4) (v1 := .int .i64 H4) (v2 := .slice B4 n4 cbp4) (O4.out.later w4) HA4.out).ints (by rw [N4.out]; omega)).2; have J4 := Lib.hid ((own_put3 (b := y2.val.heap.size) (v0 := .int .i64 W4) (v1 := .int .i64 H4) (v2 := .slice B4 n4 cbp4) ho2 (fun g hg e => by have := (own_lt ho2 g hg).1; have := lt_of_get PA4.out.boxB; omega)).ints (by rw [N4.out]; omega)).2; clear ho2; obtain ⟨⟨m0, m1, m2⟩, _⟩ := cells3 (BB4.out).boxM; obtain ⟨⟨d0, d1, d2⟩, e0, e1, e2⟩ := cells3 (BB4.out).boxA; obtain ⟨⟨g0, g1, g2⟩, h0, h1, h2⟩ := cells3 (BB4.out).boxB; have lM := lt_of_get (BB4.out).boxM; have lA := lt_of_get (BB4.out).boxA; have lB := lt_of_get (BB4.out).boxB; have PB4 := Lib.hid (BB4.out.putB (v0 := .int .i64 W4) (v1 := .int .i64 H4) (v2 := .slice B4 n4 cbp4)); obtain ⟨⟨r0, r1, r2⟩, _⟩ := cells3 (PB4.out).boxM; obtain ⟨⟨s0, s1, s2⟩, _⟩ := cells3 (PB4.out).boxA; obtain ⟨⟨t0, t1, t2⟩, _⟩ := cells3 (PB4.out).boxB)
      | (go_at_call 22; refine Calls.mono (Gives.calls (SM.out _ _ _ L4 _ _ _ _ _ k4 I4.out J4.out)) ?_; rintro e w1 ⟨rfl, z4, rfl⟩; clear m0 m1 m2 d0 d1 d2 e0 e1 e2 g0 g1 g2 h0 h1 h2 lM lA lB; clear r0 r1 r2 s0 s1 s2 t0 t1 t2; have S4 := Lib.hid (PB4.out.later z4); obtain ⟨⟨m0, m1, m2⟩, _⟩ := cells3 (S4.out).boxM; obtain ⟨⟨d0, d1, d2⟩, e0, e1, e2⟩ := cells3 (S4.out).boxA; obtain ⟨⟨g0, g1, g2⟩, h0, h1, h2⟩ := cells3 (S4.out).boxB; have lM := lt_of_get (S4.out).boxM; have lA := lt_of_get (S4.out).boxA; have lB := lt_of_get (S4.out).boxB)
      | (go_at_call 22; refine Calls.mono (Gives.calls (SM.out _ _ _ L3 _ _ _ _ _ k3 I3.out J3.out)) ?_; rintro e w1 ⟨rfl, z3, rfl⟩; clear m0 m1 m2 d0 d1 d2 e0 e1 e2 g0 g1 g2 h0 h1 h2 lM lA lB; clear r0 r1 r2 s0 s1 s2 t0 t1 t2; have S3 := Lib.hid (PB3.out.later z3); obtain ⟨⟨m0, m1, m2⟩, _⟩ := cells3 (S3.out).boxM; obtain ⟨⟨d0, d1, d2⟩, e0, e1, e2⟩ := cells3 (S3.out).boxA; obtain ⟨⟨g0, g1, g2⟩, h0, h1, h2⟩ := cells3 (S3.out).boxB; have lM := lt_of_get (S3.out).boxM; have lA := lt_of_get (S3.out).boxA; have lB := lt_of_get (S3.out).boxB)
      | (go_at_call 22; refine Calls.mono (Gives.calls (SM.out _ _ _ L2 _ _ _ _ _ k2 I2.out J2.out)) ?_; rintro e w1 ⟨rfl, z2, rfl⟩; clear m0 m1 m2 d0 d1 d2 e0 e1 e2 g0 g1 g2 h0 h1 h2 lM lA lB; clear r0 r1 r2 s0 s1 s2 t0 t1 t2; have S2 := Lib.hid (PB2.out.later z2); obtain ⟨⟨m0, m1, m2⟩, _⟩ := cells3 (S2.out).boxM; obtain ⟨⟨d0, d1, d2⟩, e0, e1, e2⟩ := cells3 (S2.out).boxA; obtain ⟨⟨g0, g1, g2⟩, h0, h1, h2⟩ := cells3 (S2.out).boxB; have lM := lt_of_get (S2.out).boxM; have lA := lt_of_get (S2.out).boxA; have lB := lt_of_get (S2.out).boxB)
      | (go_at_call 22; refine Calls.mono (Gives.calls (SM.out _ _ _ L1 _ _ _ _ _ k1 I1.out J1.out)) ?_; rintro e w1 ⟨rfl, z1, rfl⟩; clear m0 m1 m2 d0 d1 d2 e0 e1 e2 g0 g1 g2 h0 h1 h2 lM lA lB; have S1 := Lib.hid (BX1.out.later z1); obtain ⟨⟨m0, m1, m2⟩, _⟩ := cells3 (S1.out).boxM; obtain ⟨⟨d0, d1, d2⟩, e0, e1, e2⟩ := cells3 (S1.out).boxA; obtain ⟨⟨g0, g1, g2⟩, h0, h1, h2⟩ := cells3 (S1.out).boxB; have lM := lt_of_get (S1.out).boxM; have lA := lt_of_get (S1.out).boxA; have lB := lt_of_get (S1.out).boxB)
      | (go_at_call 16; (first | (with_reducible show Calls _ _ _ (Later.val _) _; with_reducible refine Calls.mono (Later.call _ (AW.out _)) ?_) | (with_reducible refine Calls.mono (Gives.calls (AW.out _)) ?_)); rintro e w1 ⟨rfl, y9, rfl⟩))
    go_ret
    exact ⟨rfl, later_of (by first | exact below_more S4.out.below y9.ok | exact below_more PB4.out.below y9.ok)⟩
end Go.Proofs.YtmielpcidhphaaaDoor
