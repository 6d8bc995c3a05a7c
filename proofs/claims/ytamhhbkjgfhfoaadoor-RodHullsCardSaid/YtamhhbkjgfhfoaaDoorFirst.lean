/- First: the two examples hold. -/
import Derived.Test.YtamhhbkjgfhfoaaDoorFormat
import Derived.Test.YtamhhbkjgfhfoaaDoorArea
namespace Go.Proofs.YtamhhbkjgfhfoaaDoor
open Go.RowKit

/-- What the listed variables give the walks. -/
structure Units (w : World) : Prop where
  tab : Lib.TabIs Tryd.prog w "internal/strconv.uint64pow10" .u64 Lib.pow10Tab
  area : w.var? Tryd.prog "sedge/rod.areaUnits" = some areaCells
theorem Units.below {w w' : World} (h : Units w) (hb : Below w.heap.size w w') : Units w' := ⟨tab_below h.tab hb, later_var h.area ⟨w', hb⟩⟩

theorem text700 : formatT aB rB pB 160 40 700 = [52, 97, 32, 49, 114, 32, 50, 48, 112] := by
  simp [formatT, textL, wordsTo, word, Lib.itoa, Lib.decDigits, Lib.join, List.intercalate, aB, rB, pB]

def fx (i : Nat) : Int := if i = 0 then 0 else 4
def fy (i : Nat) : Int := if i = 2 then 3 else 0
theorem first_valid : validB 3 fx fy = true := by decide +kernel
theorem first_area : absI (areaI 3 fx fy) = 12 := by decide +kernel
theorem first_border : borderI 3 fx fy = 8 := by decide +kernel

set_option maxRecDepth 100000 in
set_option maxHeartbeats 1600000 in
theorem first_any (w : World) (hu : Units w) : Gives Tryd.prog 5 #[] w (.bool true) := by
  have F : ∀ w', Below w.heap.size w w' → Gives Tryd.prog 12 #[.int .i64 700] w' (.tuple #[.string ⟨#[52, 97, 32, 49, 114, 32, 50, 48, 112]⟩, .int .i64 0]) := fun w' hb => by
    have := formatArea_any 700 w' (hu.below hb).tab (hu.below hb).area
    rw [text700] at this
    exact this
  have hp : IsPosts (w.alloc (.cells #[.int .i64 0, .int .i64 0, .int .i64 4, .int .i64 0, .int .i64 4, .int .i64 3] 34)) (some ⟨w.heap.size, 0, none⟩) 3 fx fy :=
    ⟨by omega, fun _ => ⟨w.heap.size, 0, rfl, by simp, fun i hi => (by
      have : i = 0 ∨ i = 1 ∨ i = 2 := by omega
      rcases this with rfl | rfl | rfl <;> simp [fx]), fun i hi => (by
      have : i = 0 ∨ i = 1 ∨ i = 2 := by omega
      rcases this with rfl | rfl | rfl <;> simp [fy])⟩⟩
  have A : ∀ w' cap, IsPosts w' (some ⟨w.heap.size, 0, none⟩) 3 fx fy → Gives Tryd.prog 13 #[.slice (some ⟨w.heap.size, 0, none⟩) 3 cap] w' (.tuple #[.int .i64 12, .int .i64 0]) := fun w' cap h => by
    have := area_any _ 3 cap fx fy w' h
    rw [areaR, first_valid, if_pos rfl, first_area] at this
    exact this
  have B : ∀ w' cap, IsPosts w' (some ⟨w.heap.size, 0, none⟩) 3 fx fy → Gives Tryd.prog 14 #[.slice (some ⟨w.heap.size, 0, none⟩) 3 cap] w' (.tuple #[.int .i64 8, .int .i64 0]) := fun w' cap h => by
    have := border_any _ 3 cap fx fy w' h
    rw [borderR, first_valid, if_pos rfl, first_border] at this
    exact this
  have HF := Lib.hid F
  have HA := Lib.hid A
  have HB := Lib.hid B
  have Hp := Lib.hid hp
  clear F A B hp hu
  go_enter Tryd.func5, Tryd.ntmps5
  go_wp2_with (first | (go_at_call 12; refine Calls.mono (HF.out _ (by repeat (first | exact Below.refl _ _ | (with_reducible assumption) | apply below_later | apply below_alloc | apply below_drew | apply below_drewN))).calls ?_; rintro e w1 ⟨rfl, y1, rfl⟩) | (go_at_call 13; refine Calls.mono (HA.out _ _ (Hp.out.later y1)).calls ?_; rintro e w1 ⟨rfl, y2, rfl⟩) | (go_at_call 14; refine Calls.mono (HB.out _ _ ((Hp.out.later y1).later y2)).calls ?_; rintro e w1 ⟨rfl, y3, rfl⟩))

  go_ret
  exact ⟨rfl, later_of (by repeat (first | exact Below.refl _ _ | (with_reducible assumption) | apply below_later | apply below_alloc | apply below_drew | apply below_drewN))⟩
end Go.Proofs.YtamhhbkjgfhfoaaDoor
