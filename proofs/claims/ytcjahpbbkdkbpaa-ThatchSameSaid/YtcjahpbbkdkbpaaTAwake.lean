/- thatch's Layers; the examples with which each law of layer 8 ends: walked. -/
import Derived.Test.YtcjahpbbkdkbpaaTHours
namespace Go.Proofs.Ytcjahpbbkdkbpaa
open Go.RowKit

set_option maxRecDepth 100000 in
theorem Layers_bad (s g r : Int) (A : Option Addr) (n cap : Nat) (f : Nat → Int) (i : Int) (w : World) (hp : n ≤ 100 → IsInts w A n f) (hv : okCoat s g r n f = false) :
    Gives Try.prog 23 #[coatV s g r A n cap, .int .i64 i] w (.tuple #[.int .i64 0, .int .i64 81]) := by
  have VA := Lib.hid fun (V : World) (hb : Below w.heap.size w V) => hv ▸ ValidCoat_any s g r A n cap f V fun h => (hp h).below hb
  unfold coatV at VA ⊢
  clear hp hv
  go_enter Try.func23, Try.ntmps23
  go_wp2_with (go_at_call 39; with_reducible refine Calls.mono (Gives.calls (VA.out _ (by repeat (first | exact Below.refl _ _ | (with_reducible assumption) | apply below_later | apply below_alloc | apply below_drew | apply below_drewN)))) ?_; rintro e w1 ⟨rfl, z, rfl⟩)
  go_ret2
  exact ⟨rfl, later_of (by repeat (first | exact Below.refl _ _ | (with_reducible assumption) | apply below_later | apply below_alloc | apply below_drew | apply below_drewN))⟩
set_option maxRecDepth 100000 in
theorem Layers_arg (S G R n cap : Nat) (A : Option Addr) (f : Nat → Int) (i : Int) (w : World) (hS : S ≤ 5000) (hp : n ≤ 100 → IsInts w A n f) (hv : okCoat S G R n f = true) (hi : inI 0 i ((S : Int) - 1) = false) :
    Gives Try.prog 23 #[coatV S G R A n cap, .int .i64 i] w (.tuple #[.int .i64 0, .int .i64 2]) := by
  have VA := Lib.hid fun (V : World) (hb : Below w.heap.size w V) => hv ▸ ValidCoat_any S G R A n cap f V fun h => (hp h).below hb
  have BT := Lib.hid fun V => hi ▸ between_any 0 i ((S : Int) - 1) V
  unfold coatV at VA ⊢
  clear hp hv hi
  go_enter Try.func23, Try.ntmps23
  go_wp2_with (first | ((go_at_call 39; with_reducible refine Calls.mono (Gives.calls (VA.out _ (by repeat (first | exact Below.refl _ _ | (with_reducible assumption) | apply below_later | apply below_alloc | apply below_drew | apply below_drewN)))) ?_; rintro e w1 ⟨rfl, z, rfl⟩); obtain ⟨⟨x0, x1, x2, x3⟩, lx⟩ := coat_at (w := w) (V := z.val) (s := (S : Int)) (g := (G : Int)) (r := (R : Int)) (A := A) (n := n) (c := cap) (by repeat (first | exact Below.refl _ _ | (with_reducible assumption) | apply below_later | apply below_alloc | apply below_drew | apply below_drewN))) | (go_at_call 37; with_reducible refine Calls.mono (Gives.calls (BT.out _)) ?_; rintro e w1 ⟨rfl, z2, rfl⟩))
  go_ret2
  exact ⟨rfl, later_of (by repeat (first | exact Below.refl _ _ | (with_reducible assumption) | apply below_later | apply below_alloc | apply below_drew | apply below_drewN))⟩
set_option maxRecDepth 100000 in
theorem Layers_ok (S G R n cap i : Nat) (A : Option Addr) (f : Nat → Nat) (w : World) (C : Ct S G R n f) (hi : i < S) (hp : IsInts w A n fun j => ((f j : Nat) : Int)) (hv : okCoat S G R n (fun j => ((f j : Nat) : Int)) = true) :
    Gives Try.prog 23 #[coatV S G R A n cap, .int .i64 i] w (.tuple #[.int .i64 (layN G R n f i (upN S G) : Nat), .int .i64 0]) := by
  have hS := C.hs
  have VA := Lib.hid fun (V : World) (hb : Below w.heap.size w V) => hv ▸ ValidCoat_any S G R A n cap _ V fun _ => hp.below hb
  have BT : Hid (∀ V, Gives Try.prog 37 #[.int .i64 i, .int .i64 0, .int .i64 ((S : Int) - 1)] V (.bool true)) := fun V => (show inI 0 (i : Int) ((S : Int) - 1) = true from inI_iff.2 ⟨by omega, by omega⟩) ▸ between_any 0 i ((S : Int) - 1) V
  have LA := Lib.hid fun (V : World) (hb : Below w.heap.size w V) => layersAt_any S G R n cap i A f V C hi (hp.below hb)
  generalize layN G R n f i (upN S G) = res at *
  unfold coatV at VA LA ⊢
  clear hp hv C
  go_enter Try.func23, Try.ntmps23
  go_wp2_with (first
    | ((go_at_call 39; with_reducible refine Calls.mono (Gives.calls (VA.out _ (by repeat (first | exact Below.refl _ _ | (with_reducible assumption) | apply below_later | apply below_alloc | apply below_drew | apply below_drewN)))) ?_; rintro e w1 ⟨rfl, z, rfl⟩); obtain ⟨⟨x0, x1, x2, x3⟩, lx⟩ := coat_at (w := w) (V := z.val) (s := (S : Int)) (g := (G : Int)) (r := (R : Int)) (A := A) (n := n) (c := cap) (by repeat (first | exact Below.refl _ _ | (with_reducible assumption) | apply below_later | apply below_alloc | apply below_drew | apply below_drewN)))
    | ((go_at_call 37; with_reducible refine Calls.mono (Gives.calls (BT.out _)) ?_; rintro e w1 ⟨rfl, z2, rfl⟩); obtain ⟨⟨x0, x1, x2, x3⟩, lx⟩ := coat_at (w := w) (V := z2.val) (s := (S : Int)) (g := (G : Int)) (r := (R : Int)) (A := A) (n := n) (c := cap) (by repeat (first | exact Below.refl _ _ | (with_reducible assumption) | apply below_later | apply below_alloc | apply below_drew | apply below_drewN)))
    | (go_at_call 40; with_reducible refine Calls.mono (Gives.calls (LA.out _ (by repeat (first | exact Below.refl _ _ | (with_reducible assumption) | apply below_later | apply below_alloc | apply below_drew | apply below_drewN)))) ?_; rintro e w1 ⟨rfl, z3, rfl⟩))
  go_ret2
  exact ⟨rfl, later_of (by repeat (first | exact Below.refl _ _ | (with_reducible assumption) | apply below_later | apply below_alloc | apply below_drew | apply below_drewN))⟩
def exJ (i : Nat) : Nat := ([3, 1, 1] : List Nat).getD i 0
theorem ex_rf : Rf 40 24 12 3 4 5 := by constructor <;> omega
theorem ex_ok : okRoof (40 : Nat) (24 : Nat) (3 : Nat) (4 : Nat) (5 : Nat) = true := by decide
theorem ex_low : loN (40 * 24 * 5) 4 = 1200 ∧ loD (40 * 24 * 5) 4 = 1 := by decide
theorem ex_ct : Ct 20 8 18 0 fun _ => 0 := ⟨by omega, by omega, by omega, by omega, ⟨fun i h => absurd h (by omega), fun i h => absurd h (by omega)⟩⟩
theorem ex_coat : okCoat (20 : Nat) (8 : Nat) (18 : Nat) 0 (fun _ => ((0 : Nat) : Int)) = true := by decide
theorem ex_lay : layN 8 18 0 (fun _ => 0) 16 (upN 20 8) = 3 := by decide
theorem ex_hours : hoursN exJ 3 2 = 3 := by decide
theorem ex_job : jobE 3 (fun i => ((exJ i : Nat) : Int)) (2 : Nat) = 0 := by decide
theorem none_ints (w : World) (f : Nat → Int) : IsInts w none 0 f := ⟨by omega, fun h => absurd h (by omega)⟩
theorem ex_ints {V : World} {g : Nat} (hc : V.heap[g]? = some (.cells #[.int .i64 3, .int .i64 1, .int .i64 1] 3 (0, 0))) : IsInts V (some ⟨g, 0, none⟩) 3 fun i => ((exJ i : Nat) : Int) := by
  refine ⟨by omega, fun _ => ⟨g, 0, rfl, get_lt hc, fun i hi => ?_⟩⟩
  match i, hi with
  | 0, _ => exact cell_of_heap hc _ _ rfl
  | 1, _ => exact cell_of_heap hc _ _ rfl
  | 2, _ => exact cell_of_heap hc _ _ rfl
set_option maxRecDepth 100000 in
set_option maxHeartbeats 3200000 in
theorem awake_law (w : World) : Gives Try.prog 18 #[] w (.bool true) := by
  have AR : Hid (∀ V, Gives Try.prog 6 #[.agg #[.int .i64 40, .int .i64 24, .int .i64 3, .int .i64 4, .int .i64 5, .bool false]] V (.tuple #[.agg #[.int .i64 1200, .int .i64 1], .int .i64 0])) := fun V => by
    have h := Area_ok 40 24 12 3 4 5 false V ex_rf ex_ok
    unfold ratV at h
    rw [ex_low.1, ex_low.2] at h
    exact h
  have LA : Hid (∀ V, Gives Try.prog 23 #[.agg #[.int .i64 20, .int .i64 8, .int .i64 18, .slice none 0 0], .int .i64 16] V (.tuple #[.int .i64 3, .int .i64 0])) := fun V => by
    have h := Layers_ok 20 8 18 0 0 16 none (fun _ => 0) V ex_ct (by omega) (none_ints V _) ex_coat
    rw [ex_lay] at h
    exact h
  have HO : Hid (∀ V : World, Gives Try.prog 26 #[.slice (some ⟨V.heap.size, 0, none⟩) 3 3, .int .i64 2] (V.alloc (.cells #[.int .i64 3, .int .i64 1, .int .i64 1] 3)) (.tuple #[.int .i64 3, .int .i64 0])) := fun V => by
    have h := Hours_ok 3 3 2 _ exJ _ (ex_ints (World.alloc_heap_new V (.cells #[.int .i64 3, .int .i64 1, .int .i64 1] 3))) ex_job
    rw [ex_hours] at h
    exact h
  go_enter Try.func18, Try.ntmps18
  go_wp2_with (first
    | (go_at_call 6; with_reducible refine Calls.mono (Gives.calls (AR.out _)) ?_; rintro e w1 ⟨rfl, z1, rfl⟩)
    | ((go_at_call 23; with_reducible refine Calls.mono (Gives.calls (LA.out _)) ?_; rintro e w1 ⟨rfl, z2, rfl⟩))
    | ((go_at_call 26; with_reducible refine Calls.mono (Gives.calls (HO.out _)) ?_; rintro e w1 ⟨rfl, z3, rfl⟩); obtain ⟨d0, d1, lz, fz0, fz1⟩ := res_facts (w := z1.val) (V := z3.val) (a := .int .i64 1200) (b := .int .i64 1) (t := 27) (by repeat (first | exact Below.refl _ _ | (with_reducible assumption) | apply below_later | apply below_alloc | apply below_drew | apply below_drewN))))
  go_ret
  exact ⟨rfl, later_of (by repeat (first | exact Below.refl _ _ | (with_reducible assumption) | apply below_later | apply below_alloc | apply below_drew | apply below_drewN))⟩
end Go.Proofs.Ytcjahpbbkdkbpaa
