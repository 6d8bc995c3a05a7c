/- bed.beds, bed.Beds; maps that are not valid. -/
import Derived.Test.YtajfepogecakbaaDoorGroups
import Derived.Test.YtajfepogecakbaaDoorNetMath
import Derived.Test.YtajfepogecakbaaDoorTurn
namespace Go.Proofs.YtajfepogecakbaaDoor
open Go.RowKit

/-- A call that returns a list of its own, and an error. -/
def GivesIE (f : FuncId) (args : Array Value) (w : World) (l : List Int) (E : Int) : Prop :=
  Calls Tryd.prog f args w fun e w' => ∃ v, e = .returned (.tuple #[v, .int .i64 E]) ∧ ∃ x : Later w, w' = x.val ∧ OwnI w' w.heap.size v l
theorem GivesIE.calls {f : FuncId} {args : Array Value} {w : World} {l : List Int} {E : Int} (h : GivesIE f args w l E) :
    Calls Tryd.prog f args w fun e w' => ∃ v, e = .returned (.tuple #[v, .int .i64 E]) ∧ ∃ x : Later w, w' = x.val ∧ OwnI w' w.heap.size v l := h

set_option maxRecDepth 100000 in
set_option maxHeartbeats 1600000 in
theorem Beds_bad (W H : Int) (n cap : Nat) (A : Option Addr) (f : Nat → Int) (w : World) (hp : IsInts w A n f) (hv : validM W H n f = false) :
    GivesIE 26 #[.agg #[.int .i64 W, .int .i64 H, .slice A n cap]] w [] 20 := by
  have V : Hid (∀ w', IsInts w' A n f → Gives Tryd.prog 19 #[.agg #[.int .i64 W, .int .i64 H, .slice A n cap]] w' (.bool false)) := fun w' h => hv ▸ bvalid_any W H A n cap f w' h
  have HP := Lib.hid hp
  clear hp hv
  go_enter Tryd.func26, Tryd.ntmps26
  go_wp2_with (go_at_call 19; (first | (with_reducible show Calls _ _ _ (Later.val _) _; with_reducible refine Calls.mono (Later.call _ (V.out _ (HP.out.later ⟨_, by repeat (first | exact Below.refl _ _ | (with_reducible assumption) | apply below_later | apply below_alloc | apply below_drew | apply below_drewN)⟩))) ?_) | (with_reducible refine Calls.mono (Gives.calls (V.out _ (HP.out.later ⟨_, by repeat (first | exact Below.refl _ _ | (with_reducible assumption) | apply below_later | apply below_alloc | apply below_drew | apply below_drewN)⟩))) ?_)); rintro e w1 ⟨rfl, z, rfl⟩)
  go_ret2
  exact ⟨_, rfl, ⟨_, by repeat (first | exact Below.refl _ _ | (with_reducible assumption) | apply below_later | apply below_alloc | apply below_drew | apply below_drewN)⟩, rfl, OwnI.nil _ _⟩
set_option maxRecDepth 100000 in
set_option maxHeartbeats 1600000 in
theorem Sizes_bad (W H : Int) (n cap : Nat) (A : Option Addr) (f : Nat → Int) (w : World) (hp : IsInts w A n f) (hv : validM W H n f = false) :
    GivesIE 29 #[.agg #[.int .i64 W, .int .i64 H, .slice A n cap]] w [] 20 := by
  have V : Hid (∀ w', IsInts w' A n f → Gives Tryd.prog 19 #[.agg #[.int .i64 W, .int .i64 H, .slice A n cap]] w' (.bool false)) := fun w' h => hv ▸ bvalid_any W H A n cap f w' h
  have HP := Lib.hid hp
  clear hp hv
  go_enter Tryd.func29, Tryd.ntmps29
  go_wp2_with (go_at_call 19; (first | (with_reducible show Calls _ _ _ (Later.val _) _; with_reducible refine Calls.mono (Later.call _ (V.out _ (HP.out.later ⟨_, by repeat (first | exact Below.refl _ _ | (with_reducible assumption) | apply below_later | apply below_alloc | apply below_drew | apply below_drewN)⟩))) ?_) | (with_reducible refine Calls.mono (Gives.calls (V.out _ (HP.out.later ⟨_, by repeat (first | exact Below.refl _ _ | (with_reducible assumption) | apply below_later | apply below_alloc | apply below_drew | apply below_drewN)⟩))) ?_)); rintro e w1 ⟨rfl, z, rfl⟩)
  go_ret2
  exact ⟨_, rfl, ⟨_, by repeat (first | exact Below.refl _ _ | (with_reducible assumption) | apply below_later | apply below_alloc | apply below_drew | apply below_drewN)⟩, rfl, OwnI.nil _ _⟩
set_option maxRecDepth 100000 in
set_option maxHeartbeats 1600000 in
theorem Sides_bad (W H : Int) (n cap : Nat) (A : Option Addr) (f : Nat → Int) (w : World) (hp : IsInts w A n f) (hv : validM W H n f = false) :
    GivesIE 31 #[.agg #[.int .i64 W, .int .i64 H, .slice A n cap]] w [] 20 := by
  have V : Hid (∀ w', IsInts w' A n f → Gives Tryd.prog 19 #[.agg #[.int .i64 W, .int .i64 H, .slice A n cap]] w' (.bool false)) := fun w' h => hv ▸ bvalid_any W H A n cap f w' h
  have HP := Lib.hid hp
  clear hp hv
  go_enter Tryd.func31, Tryd.ntmps31
  go_wp2_with (go_at_call 19; (first | (with_reducible show Calls _ _ _ (Later.val _) _; with_reducible refine Calls.mono (Later.call _ (V.out _ (HP.out.later ⟨_, by repeat (first | exact Below.refl _ _ | (with_reducible assumption) | apply below_later | apply below_alloc | apply below_drew | apply below_drewN)⟩))) ?_) | (with_reducible refine Calls.mono (Gives.calls (V.out _ (HP.out.later ⟨_, by repeat (first | exact Below.refl _ _ | (with_reducible assumption) | apply below_later | apply below_alloc | apply below_drew | apply below_drewN)⟩))) ?_)); rintro e w1 ⟨rfl, z, rfl⟩)
  go_ret2
  exact ⟨_, rfl, ⟨_, by repeat (first | exact Below.refl _ _ | (with_reducible assumption) | apply below_later | apply below_alloc | apply below_drew | apply below_drewN)⟩, rfl, OwnI.nil _ _⟩

set_option maxRecDepth 100000 in
set_option maxHeartbeats 1600000 in
theorem beds_any (W H n cap b off : Nat) (f : Nat → Int) (w : World) (hW : 1 ≤ W) (hW2 : W ≤ 30) (hH1 : 1 ≤ H) (hH : H ≤ 30) (hn : n = W * H) (p : Ints w b off n f) :
    Calls Tryd.prog 67 #[.agg #[.int .i64 W, .int .i64 H, .slice (some ⟨b, off, none⟩) n cap]] w (PostG w n (esBeds W H f) (belBeds f)) := by
  have GR : Hid (∀ (w1 : World) (bm : Nat), Ints w1 b off n f → w1.cell? ⟨bm, 0, none⟩ = some (.int .i64 W) → w1.cell? ⟨bm, 1, none⟩ = some (.int .i64 H) → w1.cell? ⟨bm, 2, none⟩ = some (.slice (some ⟨b, off, none⟩) n cap) →
      Calls Tryd.prog 74 #[.agg #[.int .i64 W, .int .i64 H, .slice (some ⟨b, off, none⟩) n cap], .func (.func 99) #[] #[.pointer (some ⟨bm, 0, none⟩)], .func (.func 100) #[] #[.pointer (some ⟨bm, 0, none⟩)]] w1 (PostG w1 n (esBeds W H f) (belBeds f))) := fun w1 bm q c0 c1 c2 =>
    groupsBeds W H n cap b off bm f w1 (esBeds W H f) hW hW2 hH1 hH hn q c0 c1 c2 (hn ▸ net_beds hW)
  have P := Lib.hid p
  have hg : (w.alloc (.cells #[.int .i64 W, .int .i64 H, .slice (some ⟨b, off, none⟩) n cap] 24)).heap[w.heap.size]? = some (.cells #[.int .i64 W, .int .i64 H, .slice (some ⟨b, off, none⟩) n cap] 24) := World.alloc_heap_new _ _
  have G1 := Lib.hid (GR.out _ w.heap.size (P.out.later ⟨_, by repeat (first | exact Below.refl _ _ | (with_reducible assumption) | apply below_later | apply below_alloc | apply below_drew | apply below_drewN)⟩) (cell_of_heap hg 0 _ rfl) (cell_of_heap hg 1 _ rfl) (cell_of_heap hg 2 _ rfl))
  generalize esBeds W H f = es at *
  have lb := p.lt
  clear p hg GR hn
  go_enter Tryd.func67, Tryd.ntmps67
  go_wp2_with (go_at_call 74; refine Calls.mono G1.out ?_; rintro e w1 ⟨v, nums, rfl, y, rfl, ho, hlen, hnum⟩; have HO := Lib.hid ho; have HL := Lib.hid hlen; have HNM := Lib.hid hnum; clear ho hlen hnum)
  go_ret2
  exact ⟨v, nums, rfl, ⟨_, by repeat (first | exact Below.refl _ _ | (with_reducible assumption) | apply below_later | apply below_alloc | apply below_drew | apply below_drewN)⟩, rfl, HO.out.mono (by simp), HL.out, HNM.out⟩

theorem nums_eq {l : List Int} {n : Nat} {g : Nat → Int} (hl : l.length = n) (h : ∀ i, i < n → l.getD i 0 = g i) : l = (List.range n).map g := by
  apply List.ext_getElem?
  intro i
  rw [List.getElem?_map]
  rcases Nat.lt_or_ge i n with hi | hi
  · rw [List.getElem?_range hi]
    have := h i hi
    rw [List.getD_eq_getElem?_getD, List.getElem?_eq_getElem (by omega)] at this
    rw [List.getElem?_eq_getElem (by omega)]
    simpa using this
  · rw [List.getElem?_eq_none (by omega), List.getElem?_eq_none (by simpa using hi)]
    rfl
/-- The number of a square's bed. -/
noncomputable def bedNo (W H : Nat) (f : Nat → Int) (i : Nat) : Int := grp (esBeds W H f) (belBeds f) i
/-- How many beds there are. -/
noncomputable def bedsN (W H : Nat) (f : Nat → Int) : Nat := setsTo (esBeds W H f) (belBeds f) (W * H)

set_option maxRecDepth 100000 in
set_option maxHeartbeats 1600000 in
theorem Beds_ok (W H n cap : Nat) (A : Option Addr) (f : Nat → Int) (w : World) (hp : IsInts w A n f) (hv : validM W H n f = true) :
    GivesIE 26 #[.agg #[.int .i64 W, .int .i64 H, .slice A n cap]] w ((List.range n).map (bedNo W H f)) 0 := by
  have V : Hid (∀ w', IsInts w' A n f → Gives Tryd.prog 19 #[.agg #[.int .i64 W, .int .i64 H, .slice A n cap]] w' (.bool true)) := fun w' h => hv ▸ bvalid_any W H A n cap f w' h
  obtain ⟨⟨v1, v2⟩, ⟨v3, v4⟩, hn, _⟩ := validM_iff.1 hv
  have hn' : n = W * H := by rw [← Int.natCast_mul] at hn; omega
  have h0 : 0 < n := by
    have := Nat.mul_le_mul (show 1 ≤ W by omega) (show 1 ≤ H by omega)
    omega
  obtain ⟨b, off, rfl, p⟩ := hp.at_ h0
  have HP := Lib.hid hp
  have BS : Hid (∀ w', IsInts w' (some ⟨b, off, none⟩) n f → Calls Tryd.prog 67 #[.agg #[.int .i64 W, .int .i64 H, .slice (some ⟨b, off, none⟩) n cap]] w' (PostG w' n (esBeds W H f) (belBeds f))) := fun w' h => by
    obtain ⟨b2, o2, e2, p2⟩ := h.at_ h0
    simp only [Option.some.injEq, Addr.mk.injEq, and_true] at e2
    obtain ⟨rfl, rfl⟩ := e2
    exact beds_any W H n cap b off f w' (by omega) (by omega) (by omega) (by omega) hn' p2
  clear hp hv hn hn' p
  go_enter Tryd.func26, Tryd.ntmps26
  go_wp2_with (first
    | (go_at_call 19; (first | (with_reducible show Calls _ _ _ (Later.val _) _; with_reducible refine Calls.mono (Later.call _ (V.out _ (HP.out.later ⟨_, by repeat (first | exact Below.refl _ _ | (with_reducible assumption) | apply below_later | apply below_alloc | apply below_drew | apply below_drewN)⟩))) ?_) | (with_reducible refine Calls.mono (Gives.calls (V.out _ (HP.out.later ⟨_, by repeat (first | exact Below.refl _ _ | (with_reducible assumption) | apply below_later | apply below_alloc | apply below_drew | apply below_drewN)⟩))) ?_)); rintro e w1 ⟨rfl, z, rfl⟩)
    | (go_at_call 67; refine Calls.mono (BS.out _ (HP.out.later ⟨_, by repeat (first | exact Below.refl _ _ | (with_reducible assumption) | apply below_later | apply below_alloc | apply below_drew | apply below_drewN)⟩)) ?_; rintro e w1 ⟨v, nums, rfl, y, rfl, ho, hlen, hnum⟩; have HO := Lib.hid ho; have HNM := Lib.hid (nums_eq hlen hnum); clear ho hlen hnum))
  go_ret2
  refine ⟨v, rfl, ⟨_, by repeat (first | exact Below.refl _ _ | (with_reducible assumption) | apply below_later | apply below_alloc | apply below_drew | apply below_drewN)⟩, rfl, ?_⟩
  have o := HO.out
  rw [HNM.out] at o
  exact o.mono (by have := z.size; simp at this; omega)
end Go.Proofs.YtajfepogecakbaaDoor
