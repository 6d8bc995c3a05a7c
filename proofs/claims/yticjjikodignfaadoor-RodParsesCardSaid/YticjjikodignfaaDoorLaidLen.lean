/- The other listed variable: the units of a length. -/
import Derived.Test.YticjjikodignfaaDoorLaw
namespace Go.Proofs.YticjjikodignfaaDoor
open Go.ChangeShapes Go.WideShapes Go.ChangeAt Go.RowKit Go.Deep

theorem g_length : Tryd.prog.globalNamed "sedge/rod.lengthUnits" = some 1 := by kernel_rfl
theorem g_length_t : (Tryd.prog.globals[1]?).map (·.type) = some 59 := by kernel_rfl
def lengthD : DataW Unit := .agg [.agg [.lit (.string [102]), .lit (.int .i64 1000)], .agg [.lit (.string [99]), .lit (.int .i64 100)], .agg [.lit (.string [108]), .lit (.int .i64 1)]]

theorem length_of {W : World} {l : List (String × DataW Unit)} (h : laidMet Tryd.prog l W) (h2 : ("sedge/rod.lengthUnits", lengthD) ∈ l) : W.var? Tryd.prog "sedge/rod.lengthUnits" = some lengthCells := by
  obtain ⟨g, t, cs, fuel, p, hg, ht, hv, hd⟩ := Lib.laidMet.reads h h2
  obtain rfl := Option.some.inj (g_length.symm.trans hg)
  obtain rfl := Option.some.inj (g_length_t.symm.trans ht)
  rw [hv]
  obtain ⟨xs, k, rfl, hx, hl, hn, hf⟩ := DataW.trod_array Tryd.underlying59 hd
  have hc : Tryd.prog.cellsOf 58 = 2 := by kernel_rfl
  have hc3 : Tryd.prog.cellsOf 59 = 6 := by kernel_rfl
  rw [hc3] at hl
  obtain ⟨cl⟩ := cs
  obtain ⟨x0, xs, rfl, hn2⟩ := list_more (n := 2) hn
  obtain ⟨x1, x2, rfl⟩ := list_two hn2
  obtain ⟨v0, cl, rfl, l1⟩ := list_more (l := cl) (n := 5) hl
  obtain ⟨v1, cl, rfl, l2⟩ := list_more (n := 4) l1
  obtain ⟨v2, cl, rfl, l3⟩ := list_more (n := 3) l2
  obtain ⟨v3, cl, rfl, l4⟩ := list_more (n := 2) l3
  obtain ⟨v4, v5, rfl⟩ := list_two l4
  · have h0 := hf 0 (by omega)
    have h1 := hf 1 (by omega)
    have h2 := hf 2 (by omega)
    simp [hc] at h0 h1 h2
    simp only [lengthD, Prod.mk.injEq, List.map_cons, List.map_nil, DataW.agg.injEq, List.cons.injEq, and_true] at hx
    obtain ⟨⟨e0, e1, e2⟩, _⟩ := hx
    obtain ⟨y0, p0⟩ := x0
    obtain ⟨y1, p1⟩ := x1
    obtain ⟨y2, p2⟩ := x2
    simp only at e0 e1 e2
    subst e0 e1 e2
    have u0 := unit_cells h0
    have u1 := unit_cells h1
    have u2 := unit_cells h2
    simp only [List.cons.injEq, and_true] at u0 u1 u2
    obtain ⟨rfl, rfl⟩ := u0
    obtain ⟨rfl, rfl⟩ := u1
    obtain ⟨rfl, rfl⟩ := u2
    rfl
end Go.Proofs.YticjjikodignfaaDoor
