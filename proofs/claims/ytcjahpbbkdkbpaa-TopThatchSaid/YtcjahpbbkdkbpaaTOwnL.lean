/- Lists of lists of one's own. -/
import Derived.Test.YtcjahpbbkdkbpaaTAwake
namespace Go.Proofs.Ytcjahpbbkdkbpaa
open Go.RowKit

theorem pick_ltL {α : Type} [Inhabited α] {n : Nat} {P : Nat → α → Prop} (h : ∀ i, i < n → ∃ x, P i x) : ∃ f : Nat → α, ∀ i, i < n → P i (f i) := by
  classical
  exact ⟨fun i => if hi : i < n then Classical.choose (h i hi) else default, fun i hi => by
    show P i (if hi : i < n then _ else _)
    rw [dif_pos hi]
    exact Classical.choose_spec (h i hi)⟩
/-- A list of lists of one's own. -/
def OwnL (V : World) (base : Nat) (v : Value) (rows : List (List Int)) : Prop :=
  ∃ vs : List Value, V.ownsRow base 44 1 v rows.length vs ∧ ∀ i, i < rows.length → OwnI V base (vs.getD i undef) (rows.getD i [])
section
variable {V : World} {base : Nat} {v : Value} {rows : List (List Int)}
theorem OwnL.nil (V : World) (base : Nat) : OwnL V base (.slice none 0 0) [] := ⟨[], World.ownsRow_nil _ _ _ _, fun i hi => absurd hi (by simp)⟩
theorem OwnL.opened (h : OwnL V base v rows) : ∃ vs : List Value, V.ownsRow base 44 1 v rows.length vs ∧ ∀ i, i < rows.length → OwnI V base (vs.getD i undef) (rows.getD i []) := h
theorem OwnL.later (h : OwnL V base v rows) (x : Later V) : OwnL x.val base v rows :=
  let ⟨vs, h1, h2⟩ := h
  ⟨vs, own_later h1 x, fun i hi => (h2 i hi).later x⟩
theorem OwnL.ready {A : Option Addr} {m c : Nat} {r : List Int} (h : OwnL V base v rows) (z : Later V) (ho : OwnI z.val V.heap.size (.slice A m c) r) (hb : base ≤ V.heap.size) :
    ∃ vs : List Value, Hid ((z.val.alloc (.cells #[.slice A m c] 44)).ownsRow base 44 1 v rows.length vs) ∧ Hid (∀ i, i < rows.length → OwnI (z.val.alloc (.cells #[.slice A m c] 44)) base (vs.getD i undef) (rows.getD i [])) ∧ Hid (OwnI (z.val.alloc (.cells #[.slice A m c] 44)) base (.slice A m c) r) := by
  obtain ⟨vs, h1, h2⟩ := h.later z
  exact ⟨vs, World.ownsRow.alloc h1 _, fun i hi => (h2 i hi).alloc _, (ho.mono hb).alloc _⟩
theorem OwnL.mono {base' : Nat} (h : OwnL V base v rows) (hb : base' ≤ base) : OwnL V base' v rows :=
  let ⟨vs, h1, h2⟩ := h
  ⟨vs, ⟨h1.1, h1.2.imp id fun ⟨g, cap, cur, e, hg, r⟩ => ⟨g, cap, cur, e, Nat.le_trans hb hg, r⟩⟩, fun i hi => (h2 i hi).mono hb⟩
theorem OwnL.shape (h : OwnL V base v rows) : ∃ A cap, v = .slice A rows.length cap := by
  obtain ⟨vs, h1, _⟩ := h
  rcases h1.2 with ⟨rfl, h0⟩ | ⟨g, cap, cur, rfl, _⟩
  · exact ⟨none, 0, by rw [h0]⟩
  · exact ⟨_, cap, rfl⟩
theorem OwnL.cell {A : Option Addr} {n cap i : Nat} (h : OwnL V base (.slice A n cap) rows) (hi : i < rows.length) : ∃ g B c, A = some ⟨g, 0, none⟩ ∧ g < V.heap.size ∧ V.cell? ⟨g, i, none⟩ = some (.slice B (rows.getD i []).length c) ∧ OwnI V base (.slice B (rows.getD i []).length c) (rows.getD i []) := by
  obtain ⟨vs, h1, h2⟩ := h
  have h3 := h2 i hi
  obtain ⟨B, c, e⟩ := h3.shape
  have h1' := h1
  rcases h1'.2 with ⟨_, h0⟩ | ⟨g, cap', cur, e2, hb, hh, _⟩
  · omega
  · simp only [Value.slice.injEq] at e2
    obtain ⟨rfl, rfl, rfl⟩ := e2
    refine ⟨g, B, c, rfl, get_lt hh, ?_, by rw [← e]; exact h3⟩
    rw [World.ownsRow.cellAt h1 i (by omega)]
    have hl : i < vs.length := by have := h1.1; omega
    rw [List.getD_eq_getElem?_getD, List.getElem?_eq_getElem hl] at e
    rw [List.getElem?_eq_getElem hl]
    exact congrArg some e
theorem own_any_kind {V : World} {base : Nat} {v : Value} {l : List Int} (h : OwnI V base v l) {g : Nat} (hg : v.ownBlock = some g) : ∃ cs, V.heap[g]? = some (.cells cs 3 (0, 0)) := own_int_kind h hg
theorem OwnL.push {V' : World} {v' u : Value} {vs : List Value} {r : List Int} (h1 : V.ownsRow base 44 1 v rows.length vs) (h2 : ∀ i, i < rows.length → OwnI V base (vs.getD i undef) (rows.getD i [])) (ho : OwnI V base u r) (hg : V.grownBy V' v.ownBlock)
    (hn : V'.ownsRow base 44 1 v' (rows.length + 1) (vs ++ [u])) : OwnL V' base v' (rows ++ [r]) := by
  have keep : ∀ {u : Value} {l : List Int}, OwnI V base u l → OwnI V' base u l := fun {u l} hu => hu.moved fun b hb => hg.block b (own_lt hu b hb).2 fun e => row_ne_int h1 hu b hb e.symm
  have hl : vs.length = rows.length := by have := h1.1; omega
  refine ⟨vs ++ [u], by rw [List.length_append]; exact hn, fun i hi => ?_⟩
  rw [List.length_append] at hi
  simp only [List.length_cons, List.length_nil] at hi
  simp only [List.getD_eq_getElem?_getD]
  by_cases e : i < rows.length
  · rw [List.getElem?_append_left (by omega), List.getElem?_append_left e]
    have := keep (h2 i e)
    simp only [List.getD_eq_getElem?_getD] at this
    exact this
  · obtain rfl : i = rows.length := by omega
    rw [List.getElem?_append_right (by omega), List.getElem?_append_right (by omega), hl, Nat.sub_self]
    exact keep ho
end
theorem one_sl {A : Option Addr} {n c : Nat} : ∀ u ∈ [Value.slice A n c], u.oneCell' = true := by intro u hu; simp at hu; subst hu; rfl
/-- A list of lists of one's own, read. -/
theorem OwnL.tab {V : World} {base : Nat} {v : Value} {rows : List (List Int)} (h : OwnL V base v rows) (hk : rows.length ≤ 9223372036854775807) (hr : ∀ i, i < rows.length → (rows.getD i []).length ≤ 9223372036854775807) :
    ∃ A c R, v = .slice A rows.length c ∧ IsTab V A rows.length R ∧ ∀ i, i < rows.length → (R i).n = (rows.getD i []).length ∧ ∀ j, (R i).f j = (rows.getD i []).getD j 0 := by
  obtain ⟨A, c, rfl⟩ := h.shape
  have each : ∀ i, i < rows.length → ∃ r : Row, (∃ g, A = some ⟨g, 0, none⟩ ∧ g < V.heap.size ∧ V.cell? ⟨g, i, none⟩ = some r.val) ∧ (IsInts V r.a r.n r.f ∧ r.n ≤ r.c) ∧ r.n = (rows.getD i []).length ∧ ∀ j, r.f j = (rows.getD i []).getD j 0 := fun i hi => by
    obtain ⟨g, B, c', e, hg, hcell, ho⟩ := h.cell hi
    have hcap : (rows.getD i []).length ≤ c' := by
      rcases ho.2 with ⟨e1, h0⟩ | ⟨g', cap, cur, e1, _, _, hn, _⟩
      · simp only [Value.slice.injEq] at e1; omega
      · simp only [Value.slice.injEq] at e1; obtain ⟨_, _, rfl⟩ := e1; exact hn
    exact ⟨⟨B, (rows.getD i []).length, c', fun j => (rows.getD i []).getD j 0⟩, ⟨g, e, hg, hcell⟩, ⟨(ho.ints (hr i hi)).2, hcap⟩, rfl, fun _ => rfl⟩
  obtain ⟨R, hR⟩ := pick_ltL each
  refine ⟨A, c, R, rfl, ⟨hk, fun h0 => ?_, fun i hi => (hR i hi).2.1⟩, fun i hi => (hR i hi).2.2⟩
  obtain ⟨⟨g, e, hg, _⟩, _⟩ := hR 0 h0
  refine ⟨g, 0, e, hg, fun i hi => ?_⟩
  obtain ⟨⟨g', e', _, hc⟩, _⟩ := hR i hi
  rw [e] at e'
  simp only [Option.some.injEq, Addr.mk.injEq, and_true] at e'
  rw [Nat.zero_add, e']
  exact hc
theorem OwnL.ready0 {V : World} {base : Nat} {v : Value} {rows : List (List Int)} {A : Option Addr} {m c : Nat} {r : List Int} (h : OwnL V base v rows) (ho : OwnI V base (.slice A m c) r) :
    ∃ vs : List Value, Hid ((V.alloc (.cells #[.slice A m c] 44)).ownsRow base 44 1 v rows.length vs) ∧ Hid (∀ i, i < rows.length → OwnI (V.alloc (.cells #[.slice A m c] 44)) base (vs.getD i undef) (rows.getD i [])) ∧ Hid (OwnI (V.alloc (.cells #[.slice A m c] 44)) base (.slice A m c) r) := by
  obtain ⟨vs, h1, h2⟩ := h
  exact ⟨vs, World.ownsRow.alloc h1 _, fun i hi => (h2 i hi).alloc _, ho.alloc _⟩
def lenOf : Value → Nat
  | .slice _ n _ => n
  | _ => 0
theorem lenOf_slice (A : Option Addr) (n c : Nat) : lenOf (.slice A n c) = n := rfl
theorem ownL_far {V : World} {base : Nat} {v : Value} {rows : List (List Int)} (h : OwnL V base v rows) {p : Addr} (hp : p.block < base) (u : Value) : OwnL (V.setCell p u) base v rows :=
  let ⟨vs, h1, h2⟩ := h
  ⟨vs, ownsRow_setCell_below h1 hp u, fun i hi => ownsRow_setCell_below (h2 i hi) hp u⟩
theorem ownI_grown {V V' : World} {base : Nat} {v u : Value} {l : List Int} (h : OwnI V base v l) (hg : V.grownBy V' u.ownBlock) (hne : ∀ b, v.ownBlock = some b → u.ownBlock ≠ some b) : OwnI V' base v l :=
  h.moved fun b hb => hg.block b (own_lt h b hb).2 fun e => hne b hb e.symm
end Go.Proofs.Ytcjahpbbkdkbpaa
