/- From the rows' lists to what the walks ask of the world; a slice of posts, opened and shut. -/
import Derived.Test.YtamhhbkjgfhfoaaDoorFirst
import Derived.Test.YtamhhbkjgfhfoaaDoorCards
import Derived.Test.YtamhhbkjgfhfoaaDoorTie
import Derived.ProofKit
import Derived.OpenShut
import Derived.Lay
import Derived.LaidMore
import Derived.Lib.LaidU8
import Derived.Deep.SlicePairs
import Derived.Deep.DeepHandedRow
namespace Go.Proofs.YtamhhbkjgfhfoaaDoor
open Go.ChangeShapes Go.WideShapes Go.ChangeAt Go.RowKit Go.Deep

theorem own : ownKnob Tryd.prog.godebug = none := by kernel_rfl
theorem g_tab : Tryd.prog.globalNamed "internal/strconv.uint64pow10" = some 1 := by kernel_rfl
theorem g_area : Tryd.prog.globalNamed "sedge/rod.areaUnits" = some 0 := by kernel_rfl
theorem g_area_t : (Tryd.prog.globals[0]?).map (·.type) = some 51 := by kernel_rfl

def tabD : DataW Unit := Lib.tabData .u64 Lib.pow10Tab
def areaD : DataW Unit := .agg [.agg [.lit (.string [97]), .lit (.int .i64 160)], .agg [.lit (.string [114]), .lit (.int .i64 40)], .agg [.lit (.string [112]), .lit (.int .i64 1)]]

theorem list_two {α : Type} {l : List α} (h : l.length = 2) : ∃ a b, l = [a, b] := by
  cases l with
  | nil => simp at h
  | cons a l => cases l with
    | nil => simp at h
    | cons b l => cases l with
      | nil => exact ⟨a, b, rfl⟩
      | cons c l => simp at h
theorem list_more {α : Type} {l : List α} {n : Nat} (h : l.length = n + 1) : ∃ a m, l = a :: m ∧ m.length = n := by
  cases l with
  | nil => simp at h
  | cons a l => exact ⟨a, l, rfl, by simpa using h⟩

theorem unit_cells {w : World} {fuel : Nat} {cs : List Value} {p : List MemPlace} {b : UInt8} {n : Int}
    (h : DataW.trod (fun _ => ()) Tryd.prog w 0 (fun _ => true) false fuel 50 cs = some (.agg [.lit (.string [b]), .lit (.int .i64 n)], p)) : cs = [.string ⟨#[b]⟩, .int .i64 n] := by
  obtain ⟨xs, k, rfl, hx, hl, hn, hf⟩ := DataW.trod_struct Tryd.underlying50 h
  have hc : Tryd.prog.cellsOf 50 = 2 := by kernel_rfl
  have c9 : Tryd.prog.cellsOf 9 = 1 := by kernel_rfl
  have c3 : Tryd.prog.cellsOf 3 = 1 := by kernel_rfl
  rw [hc] at hl
  obtain ⟨x0, x1, rfl⟩ := list_two (l := xs) hn
  obtain ⟨v0, v1, rfl⟩ := list_two hl
  · have h0 := hf 0 _ rfl
    have h1 := hf 1 _ rfl
    simp [c9, c3] at h0 h1
    obtain ⟨s, e0, e1, _⟩ := DataW.trod_string Tryd.underlying9 h0
    obtain ⟨m, e2, e3, _⟩ := DataW.trod_int Tryd.underlying3 h1
    subst e1 e3
    simp only [Prod.mk.injEq, List.map_cons, List.map_nil, DataW.agg.injEq, List.cons.injEq, DataW.lit.injEq, Lit.string.injEq, Lit.int.injEq, true_and, and_true] at hx
    obtain ⟨⟨hs, hm⟩, _⟩ := hx
    simp only [List.cons.injEq, and_true] at e0 e2
    subst e0 e2
    subst hm
    have : s = ⟨#[b]⟩ := by
      have : s.data = #[b] := by apply Array.toList_inj.1; simpa using hs.symm
      cases s; simp_all
    subst this
    rfl

theorem units_of {W : World} {l : List (String × DataW Unit)} (h : laidMetH Tryd.prog l W) (hp : (l.all fun x => x.2.handleName?.isNone) = true) (h1 : ("internal/strconv.uint64pow10", tabD) ∈ l) (h2 : ("sedge/rod.areaUnits", areaD) ∈ l) : Units W := by
  rw [MakeChecks.laidMetH_plain _ _ _ hp] at h
  constructor
  · obtain ⟨g, t, cs, fuel, p, hg, ht, hv, hd⟩ := Lib.laidMet.reads h h1
    obtain rfl := Option.some.inj (g_tab.symm.trans hg)
    have hd' : DataW.trod (fun _ => ()) Tryd.prog W 0 (fun _ => true) false fuel t cs.toList = some (Lib.tabData .u64 Lib.pow10Tab, p) := hd
    obtain rfl := Option.some.inj ((show (Tryd.prog.globals[1]?).map (·.type) = some 112 by kernel_rfl).symm.trans ht)
    have := Lib.cells_of_tab Tryd.underlying112 Tryd.underlying76 (by kernel_rfl) (by kernel_rfl) hd'
    unfold Lib.TabIs
    rw [hv, ← this]
  · obtain ⟨g, t, cs, fuel, p, hg, ht, hv, hd⟩ := Lib.laidMet.reads h h2
    obtain rfl := Option.some.inj (g_area.symm.trans hg)
    obtain rfl := Option.some.inj (g_area_t.symm.trans ht)
    rw [hv]
    obtain ⟨xs, k, rfl, hx, hl, hn, hf⟩ := DataW.trod_array Tryd.underlying51 hd
    have hc : Tryd.prog.cellsOf 50 = 2 := by kernel_rfl
    have hc3 : Tryd.prog.cellsOf 51 = 6 := by kernel_rfl
    rw [hc3] at hl
    obtain ⟨cl⟩ := cs
    obtain ⟨x0, xs, rfl, hn2⟩ := list_more (n := 2) hn
    obtain ⟨x1, x2, rfl⟩ := list_two hn2
    obtain ⟨v0, cl, rfl, l1⟩ := list_more (l := cl) (n := 5) hl
    obtain ⟨v1, cl, rfl, l2⟩ := list_more (n := 4) l1
    obtain ⟨v2, cl, rfl, l3⟩ := list_more (n := 3) l2
    obtain ⟨v3, cl, rfl, l4⟩ := list_more (n := 2) l3
    obtain ⟨v4, v5, rfl⟩ := list_two l4
    · have h0 := hf 0 (by omega)
      have h1 := hf 1 (by omega)
      have h2 := hf 2 (by omega)
      simp [hc] at h0 h1 h2
      simp only [areaD, Prod.mk.injEq, List.map_cons, List.map_nil, DataW.agg.injEq, List.cons.injEq, and_true] at hx
      obtain ⟨⟨e0, e1, e2⟩, _⟩ := hx
      obtain ⟨y0, p0⟩ := x0
      obtain ⟨y1, p1⟩ := x1
      obtain ⟨y2, p2⟩ := x2
      simp only at e0 e1 e2
      subst e0 e1 e2
      have u0 := unit_cells h0
      have u1 := unit_cells h1
      have u2 := unit_cells h2
      simp only [List.cons.injEq, and_true] at u0 u1 u2
      obtain ⟨rfl, rfl⟩ := u0
      obtain ⟨rfl, rfl⟩ := u1
      obtain ⟨rfl, rfl⟩ := u2
      rfl
end Go.Proofs.YtamhhbkjgfhfoaaDoor
