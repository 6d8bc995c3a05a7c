/- bed.Sizes and bed.Sides. -/
import Derived.Test.YtajfepogecakbaaDoorSums
namespace Go.Proofs.YtajfepogecakbaaDoor
open Go.RowKit

/-- How many squares each bed has. -/
noncomputable def sizesL (W H : Nat) (f : Nat → Int) : List Int := parts (bedNo W H f) (fun _ => 1) (bedsN W H f) (W * H)
/-- How many sides each bed has. -/
noncomputable def sidesL (W H : Nat) (f : Nat → Int) : List Int := parts (bedNo W H f) (fun i => 4 - (reedsN W H f i : Nat)) (bedsN W H f) (W * H)

set_option maxRecDepth 100000 in
set_option maxHeartbeats 1600000 in
theorem Sizes_ok (W H n cap : Nat) (A : Option Addr) (f : Nat → Int) (w : World) (hp : IsInts w A n f) (hv : validM W H n f = true) :
    GivesIE 29 #[.agg #[.int .i64 W, .int .i64 H, .slice A n cap]] w (sizesL W H f) 0 := by
  have V : Hid (∀ w', IsInts w' A n f → Gives Tryd.prog 19 #[.agg #[.int .i64 W, .int .i64 H, .slice A n cap]] w' (.bool true)) := fun w' h => hv ▸ bvalid_any W H A n cap f w' h
  obtain ⟨⟨v1, v2⟩, ⟨v3, v4⟩, hn, _⟩ := validM_iff.1 hv
  have hn' : n = W * H := by rw [← Int.natCast_mul] at hn; omega
  have h0 : 0 < n := by
    have := Nat.mul_le_mul (show 1 ≤ W by omega) (show 1 ≤ H by omega)
    omega
  obtain ⟨b, off, rfl, p⟩ := hp.at_ h0
  have HP := Lib.hid hp
  have P := Lib.hid p
  have SZ : Hid (∀ w', Ints w' b off n f → GivesI 69 #[.agg #[.int .i64 W, .int .i64 H, .slice (some ⟨b, off, none⟩) n cap], .func (.func 70) #[] #[]] w' (sizesL W H f)) := fun w' h => by
    unfold sizesL
    have := sums_Sizes W H n cap b off f (fun _ => 1) w' (by omega) (by omega) (by omega) (by omega) hn' h (fun V _ i _ => sizes1_any i V) (fun _ _ => by omega)
    rwa [hn'] at this ⊢
  clear hp hv hn hn' p
  go_enter Tryd.func29, Tryd.ntmps29
  go_wp2_with (first
    | (go_at_call 19; (first | (with_reducible show Calls _ _ _ (Later.val _) _; with_reducible refine Calls.mono (Later.call _ (V.out _ (HP.out.later ⟨_, by repeat (first | exact Below.refl _ _ | (with_reducible assumption) | apply below_later | apply below_alloc | apply below_drew | apply below_drewN)⟩))) ?_) | (with_reducible refine Calls.mono (Gives.calls (V.out _ (HP.out.later ⟨_, by repeat (first | exact Below.refl _ _ | (with_reducible assumption) | apply below_later | apply below_alloc | apply below_drew | apply below_drewN)⟩))) ?_)); rintro e w1 ⟨rfl, z, rfl⟩)
    | (go_at_call 69; refine Calls.mono (GivesI.calls (SZ.out _ (P.out.later ⟨_, by repeat (first | exact Below.refl _ _ | (with_reducible assumption) | apply below_later | apply below_alloc | apply below_drew | apply below_drewN)⟩))) ?_; rintro e w1 ⟨v, rfl, y, rfl, ho⟩; have HO := Lib.hid ho; clear ho))
  go_ret2
  exact ⟨v, rfl, ⟨_, by repeat (first | exact Below.refl _ _ | (with_reducible assumption) | apply below_later | apply below_alloc | apply below_drew | apply below_drewN)⟩, rfl, HO.out.mono (by have := z.size; simp at this; omega)⟩

set_option maxRecDepth 100000 in
set_option maxHeartbeats 1600000 in
theorem Sides_ok (W H n cap : Nat) (A : Option Addr) (f : Nat → Int) (w : World) (hp : IsInts w A n f) (hv : validM W H n f = true) :
    GivesIE 31 #[.agg #[.int .i64 W, .int .i64 H, .slice A n cap]] w (sidesL W H f) 0 := by
  have V : Hid (∀ w', IsInts w' A n f → Gives Tryd.prog 19 #[.agg #[.int .i64 W, .int .i64 H, .slice A n cap]] w' (.bool true)) := fun w' h => hv ▸ bvalid_any W H A n cap f w' h
  obtain ⟨⟨v1, v2⟩, ⟨v3, v4⟩, hn, _⟩ := validM_iff.1 hv
  have hn' : n = W * H := by rw [← Int.natCast_mul] at hn; omega
  have h0 : 0 < n := by
    have := Nat.mul_le_mul (show 1 ≤ W by omega) (show 1 ≤ H by omega)
    omega
  obtain ⟨b, off, rfl, p⟩ := hp.at_ h0
  have HP := Lib.hid hp
  have P := Lib.hid p
  have SD : Hid (∀ (w' : World) (bm : Nat), Ints w' b off n f → w'.heap[bm]? = some (.cells #[.int .i64 W, .int .i64 H, .slice (some ⟨b, off, none⟩) n cap] 24) → GivesI 69 #[.agg #[.int .i64 W, .int .i64 H, .slice (some ⟨b, off, none⟩) n cap], .func (.func 71) #[] #[.pointer (some ⟨bm, 0, none⟩)]] w' (sidesL W H f)) := fun w' bm h hb => by
    unfold sidesL
    have lb := lt_of_get hb
    have := sums_Sides W H n cap b off bm f (fun i => 4 - (reedsN W H f i : Nat)) w' (by omega) (by omega) (by omega) (by omega) hn' h (fun V hV i hi => by
      have hb' := (hV.block bm lb).trans hb
      exact sides1_any W H b off n cap bm i f V (by omega) (by omega) (by omega) hn' (hn' ▸ hi) (h.later ⟨V, hV⟩) (cell_of_heap hb' 0 _ rfl) (cell_of_heap hb' 1 _ rfl) (cell_of_heap hb' 2 _ rfl)) (fun i _ => by have := reedsN_le W H f i; omega)
    rwa [hn'] at this ⊢
  clear hp hv hn hn' p
  go_enter Tryd.func31, Tryd.ntmps31
  go_wp2_with (first
    | (go_at_call 19; (first | (with_reducible show Calls _ _ _ (Later.val _) _; with_reducible refine Calls.mono (Later.call _ (V.out _ (HP.out.later ⟨_, by repeat (first | exact Below.refl _ _ | (with_reducible assumption) | apply below_later | apply below_alloc | apply below_drew | apply below_drewN)⟩))) ?_) | (with_reducible refine Calls.mono (Gives.calls (V.out _ (HP.out.later ⟨_, by repeat (first | exact Below.refl _ _ | (with_reducible assumption) | apply below_later | apply below_alloc | apply below_drew | apply below_drewN)⟩))) ?_)); rintro e w1 ⟨rfl, z, rfl⟩)
    | (go_at_call 69; refine Calls.mono (GivesI.calls (SD.out _ _ (P.out.later ⟨_, by repeat (first | exact Below.refl _ _ | (with_reducible assumption) | apply below_later | apply below_alloc | apply below_drew | apply below_drewN)⟩) ((z.ok.block _ (by simp)).trans (World.alloc_heap_new _ _)))) ?_; rintro e w1 ⟨v, rfl, y, rfl, ho⟩; have HO := Lib.hid ho; clear ho))
  go_ret2
  exact ⟨v, rfl, ⟨_, by repeat (first | exact Below.refl _ _ | (with_reducible assumption) | apply below_later | apply below_alloc | apply below_drew | apply below_drewN)⟩, rfl, HO.out.mono (by have := z.size; simp at this; omega)⟩
end Go.Proofs.YtajfepogecakbaaDoor
