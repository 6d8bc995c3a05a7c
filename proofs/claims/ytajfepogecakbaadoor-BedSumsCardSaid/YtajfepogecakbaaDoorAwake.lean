/- The two examples with which each law of layer 2 ends. -/
import Derived.Test.YtajfepogecakbaaDoorPools
import Derived.Test.YtajfepogecakbaaDoorWindows
import Derived.Test.YtajfepogecakbaaDoorBedParse
import Derived.Test.YtajfepogecakbaaDoorBedFormat
import Derived.Test.YtajfepogecakbaaDoorTurn
namespace Go.Proofs.YtajfepogecakbaaDoor
open Go.RowKit

def exT : List UInt8 := [114, 114, 114, 47, 114, 119, 114, 47, 114, 114, 114]
def exL : List Int := [1, 1, 1, 1, 2, 1, 1, 1, 1]
def exF (i : Nat) : Int := exL.getD i 0
theorem ex_parse : parseM exT = some (3, 3, exL) := by decide
theorem ex_valid : validM 3 3 9 exF = true := by decide
theorem ex_win : winTo 3 (rdB 3 3 exF) 9 = 0 := by decide
theorem ex_reed : ∀ i, i < 9 → (isReed exF i = false ↔ i = 4) := by decide
theorem ex_bel : ∀ i, i < 9 → (belPools exF i = true ↔ i = 4) := by decide
theorem ex_pools : poolsN 3 3 exF = 1 := by
  unfold poolsN
  rw [num_congr (q := fun i => i = 4) fun i hi => ?_]
  · exact num_one (by omega)
  · have net := net_pools (W := 3) (H := 3) (f := exF) (by omega)
    constructor
    · intro h; exact (ex_reed i hi).1 h.2.1
    · rintro rfl
      refine ⟨fun j hj hc => ?_, (ex_reed 4 (by omega)).2 rfl, ?_⟩
      · have := (net.bel_iff hc).2 ((ex_bel 4 (by omega)).2 rfl)
        have := (ex_bel j (by omega)).1 this
        omega
      · rintro ⟨c, hc, hr, hcn⟩
        have := (net.bel_iff hcn).1 ((ex_bel 4 (by omega)).2 rfl)
        have := (ex_bel c hc).1 this
        subst this
        rw [← rimB_iff] at hr
        revert hr
        decide
def exT2 : List UInt8 := [115, 114, 47, 112, 119]
def exG (i : Nat) : Int := [1, 2, 3, 4].getD i 0
theorem ex_valid2 : validM 2 2 4 exG = true := by decide
theorem ex_turn : (List.range (2 * 2)).map (fun i => exG (turnAt 2 2 i)) = [3, 1, 4, 2] := by decide
def exK (i : Nat) : Int := ([3, 1, 4, 2] : List Int).getD i 0
theorem ex_valid3 : validM 2 2 4 exK = true := by decide
theorem ex_fmt : fmtTo 2 exK 4 = exT2 := by decide

set_option maxRecDepth 100000 in
theorem ex_parses (w : World) : GivesME 21 #[.string ⟨#[114, 114, 114, 47, 114, 119, 114, 47, 114, 114, 114]⟩] w (3 : Nat) (3 : Nat) exL 0 :=
  bparse_any exT w (by decide) 3 3 exL 0 (fun W H sq h => by rw [ex_parse] at h; simp only [Option.some.injEq, Prod.mk.injEq] at h; obtain ⟨rfl, rfl, rfl⟩ := h; exact ⟨rfl, rfl, rfl, rfl⟩) (fun h => by rw [ex_parse] at h; cases h)
theorem ex_windows (cap : Nat) (A : Option Addr) (w : World) (hp : IsInts w A 9 exF) : Gives Tryd.prog 35 #[.agg #[.int .i64 3, .int .i64 3, .slice A 9 cap]] w (.tuple #[.int .i64 0, .int .i64 0]) := by
  have := windows_ok 3 3 9 cap A exF w ex_valid hp
  rw [ex_win] at this
  exact this
theorem ex_poolsG (cap : Nat) (A : Option Addr) (w : World) (hp : IsInts w A 9 exF) : Gives Tryd.prog 33 #[.agg #[.int .i64 3, .int .i64 3, .slice A 9 cap]] w (.tuple #[.int .i64 1, .int .i64 0]) := by
  have := pools_ok 3 3 9 cap A exF w ex_valid hp
  rw [ex_pools] at this
  exact this
theorem ex_turnG (cap : Nat) (A : Option Addr) (w : World) (hp : IsInts w A 4 exG) : GivesME 43 #[.agg #[.int .i64 2, .int .i64 2, .slice A 4 cap]] w 2 2 [3, 1, 4, 2] 0 := by
  have := Turn_ok 2 2 4 cap A exG w hp ex_valid2
  rw [ex_turn] at this
  exact this
theorem ex_formatG (cap : Nat) (A : Option Addr) (w : World) (hp : IsInts w A 4 exK) : Gives Tryd.prog 17 #[.agg #[.int .i64 2, .int .i64 2, .slice A 4 cap]] w (.tuple #[.string ⟨#[115, 114, 47, 112, 119]⟩, .int .i64 0]) := by
  have := format_ok 2 2 4 cap A exK w hp ex_valid3
  rw [ex_fmt] at this
  exact this
theorem lit_ints (w : World) : IsInts (w.alloc (.cells #[.int .i64 1, .int .i64 2, .int .i64 3, .int .i64 4] 3)) (some ⟨w.heap.size, 0, none⟩) 4 exG :=
  ⟨by omega, fun _ => ⟨_, 0, rfl, by simp, fun i hi => by
    rcases i with _ | _ | _ | _ | i
    · exact cell_of_heap (World.alloc_heap_new _ _) 0 _ rfl
    · exact cell_of_heap (World.alloc_heap_new _ _) 1 _ rfl
    · exact cell_of_heap (World.alloc_heap_new _ _) 2 _ rfl
    · exact cell_of_heap (World.alloc_heap_new _ _) 3 _ rfl
    · omega⟩⟩

set_option maxRecDepth 100000 in
set_option maxHeartbeats 3200000 in
theorem awake_any (w : World) : Gives Tryd.prog 16 #[] w (.bool true) := by
  go_enter Tryd.func16, Tryd.ntmps16
  go_wp2_with (first
    | (go_at_call 21; refine Calls.mono (GivesME.calls (ex_parses _)) ?_; rintro e w1 ⟨v, rfl, y1, rfl, ho1⟩; obtain ⟨A1, cap1, rfl⟩ := ho1.shape_n (n := 9) rfl; have hi1 := Lib.hid (show IsInts _ _ 9 exF from (ho1.ints (by decide)).2); clear ho1)
    | (go_at_call 35; (first | (with_reducible show Calls _ _ _ (Later.val _) _; with_reducible refine Calls.mono (Later.call _ (ex_windows _ _ _ (hi1.out.later ⟨_, by repeat (first | exact Below.refl _ _ | (with_reducible assumption) | apply below_later | apply below_alloc | apply below_drew | apply below_drewN)⟩))) ?_) | (with_reducible refine Calls.mono (Gives.calls (ex_windows _ _ _ (hi1.out.later ⟨_, by repeat (first | exact Below.refl _ _ | (with_reducible assumption) | apply below_later | apply below_alloc | apply below_drew | apply below_drewN)⟩))) ?_)); rintro e w1 ⟨rfl, y2, rfl⟩)
    | (go_at_call 33; (first | (with_reducible show Calls _ _ _ (Later.val _) _; with_reducible refine Calls.mono (Later.call _ (ex_poolsG _ _ _ (hi1.out.later ⟨_, by repeat (first | exact Below.refl _ _ | (with_reducible assumption) | apply below_later | apply below_alloc | apply below_drew | apply below_drewN)⟩))) ?_) | (with_reducible refine Calls.mono (Gives.calls (ex_poolsG _ _ _ (hi1.out.later ⟨_, by repeat (first | exact Below.refl _ _ | (with_reducible assumption) | apply below_later | apply below_alloc | apply below_drew | apply below_drewN)⟩))) ?_)); rintro e w1 ⟨rfl, y3, rfl⟩)
    | (go_at_call 43; refine Calls.mono (GivesME.calls (ex_turnG _ _ _ (lit_ints _))) ?_; rintro e w1 ⟨v, rfl, y4, rfl, ho4⟩; obtain ⟨A4, cap4, rfl⟩ := ho4.shape_n (n := 4) rfl; have hi4 := Lib.hid (show IsInts _ _ 4 exK from (ho4.ints (by decide)).2); clear ho4)
    | (go_at_call 17; (first | (with_reducible show Calls _ _ _ (Later.val _) _; with_reducible refine Calls.mono (Later.call _ (ex_formatG _ _ _ (hi4.out.later ⟨_, by repeat (first | exact Below.refl _ _ | (with_reducible assumption) | apply below_later | apply below_alloc | apply below_drew | apply below_drewN)⟩))) ?_) | (with_reducible refine Calls.mono (Gives.calls (ex_formatG _ _ _ (hi4.out.later ⟨_, by repeat (first | exact Below.refl _ _ | (with_reducible assumption) | apply below_later | apply below_alloc | apply below_drew | apply below_drewN)⟩))) ?_)); rintro e w1 ⟨rfl, y5, rfl⟩))
  go_ret
  exact ⟨rfl, later_of (by repeat (first | exact Below.refl _ _ | (with_reducible assumption) | apply below_later | apply below_alloc | apply below_drew | apply below_drewN))⟩
end Go.Proofs.YtajfepogecakbaaDoor
