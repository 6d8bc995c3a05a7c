/- rod.FormatArea, rod.FormatLength. -/
import Derived.Test.YtamhhbkjgfhfoaaDoorJoin
namespace Go.Proofs.YtamhhbkjgfhfoaaDoor
open Go.RowKit

/-- The text of a number in three units. -/
def textL (la lb lc : ByteArray) (s0 s1 n : Int) : List UInt8 := if n = 0 then 48 :: lc.data.toList else Lib.join (wordsTo la lb lc s0 s1 n 3) [32]

theorem zero_text (lc : ByteArray) : (⟨#[48]⟩ ++ lc : ByteArray) = ⟨(48 :: lc.data.toList).toArray⟩ := by
  apply ByteArray.ext
  simp [ByteArray.data_append]

set_option maxRecDepth 100000 in
set_option maxHeartbeats 800000 in
theorem join_zero (la lb lc : ByteArray) (s0 s1 : Int) (w : World) (gc : lc.size ≤ 100) :
    Gives Tryd.prog 47 #[.agg #[.string la, .int .i64 s0, .string lb, .int .i64 s1, .string lc, .int .i64 1], .int .i64 0] w (strV (48 :: lc.data.toList)) := by
  go_enter Tryd.func47, Tryd.ntmps47
  go_wp2
  go_ret
  exact ⟨by show Ending.returned (.string (⟨#[48]⟩ ++ lc)) = _; rw [zero_text]; rfl, later_of (by repeat (first | exact Below.refl _ _ | (with_reducible assumption) | apply below_later | apply below_alloc | apply below_drew | apply below_drewN))⟩

theorem join_text (la lb lc : ByteArray) (s0 s1 n : Int) (w : World) (ga : la.size ≤ 100) (gb : lb.size ≤ 100) (gc : lc.size ≤ 100) (h0 : 1 ≤ s0) (h1 : 1 ≤ s1) (hn : 0 ≤ n) (gn : n ≤ 1000000000) (htab : Lib.TabIs Tryd.prog w "internal/strconv.uint64pow10" .u64 Lib.pow10Tab) :
    Gives Tryd.prog 47 #[.agg #[.string la, .int .i64 s0, .string lb, .int .i64 s1, .string lc, .int .i64 1], .int .i64 n] w (strV (textL la lb lc s0 s1 n)) := by
  unfold textL
  by_cases h : n = 0
  · subst h
    rw [if_pos rfl]
    exact join_zero la lb lc s0 s1 w gc
  · rw [if_neg h]
    exact join_any la lb lc s0 s1 n w ga gb gc h0 h1 (by omega) gn htab

/-- The text and the error of a call that formats. -/
def formatT (la lb lc : ByteArray) (s0 s1 n : Int) : List UInt8 := if 0 ≤ n ∧ n ≤ 1000000000 then textL la lb lc s0 s1 n else []
def formatE (n : Int) : Int := if 0 ≤ n ∧ n ≤ 1000000000 then 0 else 2

set_option maxRecDepth 100000 in
set_option maxHeartbeats 800000 in
theorem format_any (la lb lc : ByteArray) (s0 s1 n : Int) (w : World) (ga : la.size ≤ 100) (gb : lb.size ≤ 100) (gc : lc.size ≤ 100) (h0 : 1 ≤ s0) (h1 : 1 ≤ s1) (htab : Lib.TabIs Tryd.prog w "internal/strconv.uint64pow10" .u64 Lib.pow10Tab) :
    Gives Tryd.prog 32 #[.agg #[.string la, .int .i64 s0, .string lb, .int .i64 s1, .string lc, .int .i64 1], .int .i64 n] w (.tuple #[strV (formatT la lb lc s0 s1 n), .int .i64 (formatE n)]) := by
  unfold formatT formatE
  by_cases hn : 0 ≤ n
  · by_cases gn : n ≤ 1000000000
    · rw [if_pos ⟨hn, gn⟩, if_pos ⟨hn, gn⟩]
      go_enter Tryd.func32, Tryd.ntmps32
      go_wp2_with (go_at_call 47; refine Calls.mono (join_text _ _ _ _ _ _ _ ga gb gc h0 h1 hn gn (tab_below htab (by repeat (first | exact Below.refl _ _ | (with_reducible assumption) | apply below_later | apply below_alloc | apply below_drew | apply below_drewN)))).calls ?_; rintro e w1 ⟨rfl, y, rfl⟩)
      go_ret2
      exact ⟨rfl, later_of (by repeat (first | exact Below.refl _ _ | (with_reducible assumption) | apply below_later | apply below_alloc | apply below_drew | apply below_drewN))⟩
    · rw [if_neg (by omega), if_neg (by omega)]
      go_enter Tryd.func32, Tryd.ntmps32
      go_wp2
      go_ret2
      exact ⟨rfl, later_of (by repeat (first | exact Below.refl _ _ | (with_reducible assumption) | apply below_later | apply below_alloc | apply below_drew | apply below_drewN))⟩
  · rw [if_neg (by omega), if_neg (by omega)]
    go_enter Tryd.func32, Tryd.ntmps32
    go_wp2
    go_ret2
    exact ⟨rfl, later_of (by repeat (first | exact Below.refl _ _ | (with_reducible assumption) | apply below_later | apply below_alloc | apply below_drew | apply below_drewN))⟩

def aB : ByteArray := ⟨#[97]⟩
def rB : ByteArray := ⟨#[114]⟩
def pB : ByteArray := ⟨#[112]⟩
def fB : ByteArray := ⟨#[102]⟩
def cB : ByteArray := ⟨#[99]⟩
def lB : ByteArray := ⟨#[108]⟩
def areaCells : Array Value := #[.string aB, .int .i64 160, .string rB, .int .i64 40, .string pB, .int .i64 1]
def lengthCells : Array Value := #[.string fB, .int .i64 1000, .string cB, .int .i64 100, .string lB, .int .i64 1]

theorem gArea : Tryd.prog.globalNamed "sedge/rod.areaUnits" = some 0 := by kernel_rfl
theorem units_small : aB.size ≤ 100 ∧ rB.size ≤ 100 ∧ pB.size ≤ 100 ∧ fB.size ≤ 100 ∧ cB.size ≤ 100 ∧ lB.size ≤ 100 := by decide

set_option maxRecDepth 100000 in
set_option maxHeartbeats 800000 in
theorem formatArea_any (n : Int) (w : World) (htab : Lib.TabIs Tryd.prog w "internal/strconv.uint64pow10" .u64 Lib.pow10Tab) (hv : w.var? Tryd.prog "sedge/rod.areaUnits" = some areaCells) :
    Gives Tryd.prog 12 #[.int .i64 n] w (.tuple #[strV (formatT aB rB pB 160 40 n), .int .i64 (formatE n)]) := by
  obtain ⟨z1, z2, z3, _, _, _⟩ := units_small
  have c0 : w.cell? ⟨0, 0, none⟩ = some (.string aB) := World.var?_cell gArea hv 0
  have c1 : w.cell? ⟨0, 1, none⟩ = some (.int .i64 160) := World.var?_cell gArea hv 1
  have c2 : w.cell? ⟨0, 2, none⟩ = some (.string rB) := World.var?_cell gArea hv 2
  have c3 : w.cell? ⟨0, 3, none⟩ = some (.int .i64 40) := World.var?_cell gArea hv 3
  have c4 : w.cell? ⟨0, 4, none⟩ = some (.string pB) := World.var?_cell gArea hv 4
  have c5 : w.cell? ⟨0, 5, none⟩ = some (.int .i64 1) := World.var?_cell gArea hv 5
  have Z := Lib.hid (format_any aB rB pB 160 40 n w z1 z2 z3 (by omega) (by omega) htab)
  clear hv htab
  go_enter Tryd.func12, Tryd.ntmps12
  go_wp2_with (go_at_call 32; refine Calls.mono Z.out.calls ?_; rintro e w1 ⟨rfl, y, rfl⟩)
  go_ret2
  exact ⟨rfl, later_of (by repeat (first | exact Below.refl _ _ | (with_reducible assumption) | apply below_later | apply below_alloc | apply below_drew | apply below_drewN))⟩

end Go.Proofs.YtamhhbkjgfhfoaaDoor
