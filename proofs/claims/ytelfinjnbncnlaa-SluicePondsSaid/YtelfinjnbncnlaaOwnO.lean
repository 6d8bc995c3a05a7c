/- The list behind a heap: outlets, a row of cells of one's own. -/
import Derived.Test.YtelfinjnbncnlaaSeq
import Derived.Test.YtelfinjnbncnlaaTail
import Derived.Laws.OwnMore
import Derived.Maps.AppendAt
import Derived.OneCell
namespace Go.Proofs.Ytelfinjnbncnlaa
open Go.RowKit

abbrev Pt := Int × Int
def hx (h : List Pt) (i : Nat) : Int := (h.getD i (0, 0)).1
def hy (h : List Pt) (i : Nat) : Int := (h.getD i (0, 0)).2
/-- The cells of a list of pairs. -/
def cells2 : List Pt → List Value
  | [] => []
  | p :: l => .int .i64 p.1 :: .int .i64 p.2 :: cells2 l
theorem cells2_append (l k : List Pt) : cells2 (l ++ k) = cells2 l ++ cells2 k := by
  induction l with
  | nil => rfl
  | cons p l ih => simp only [List.cons_append, cells2, ih]
theorem cells2_length (l : List Pt) : (cells2 l).length = l.length * 2 := by
  induction l with
  | nil => rfl
  | cons p l ih => simp only [cells2, List.length_cons, ih]; omega
theorem cells2_x : ∀ (l : List Pt) (i : Nat), i < l.length → (cells2 l)[i * 2]? = some (.int .i64 (hx l i))
  | [], _, h => by simp at h
  | p :: l, 0, _ => by simp [cells2, hx]
  | p :: l, i + 1, h => by
    have := cells2_x l i (by simpa using h)
    rw [show (i + 1) * 2 = i * 2 + 1 + 1 by omega]
    simp only [cells2, List.getElem?_cons_succ]
    rw [this]; simp [hx]
theorem cells2_y : ∀ (l : List Pt) (i : Nat), i < l.length → (cells2 l)[i * 2 + 1]? = some (.int .i64 (hy l i))
  | [], _, h => by simp at h
  | p :: l, 0, _ => by simp [cells2, hy]
  | p :: l, i + 1, h => by
    have := cells2_y l i (by simpa using h)
    rw [show (i + 1) * 2 + 1 = i * 2 + 1 + 1 + 1 by omega]
    simp only [cells2, List.getElem?_cons_succ]
    rw [this]; simp [hy]
theorem cells2_one (l : List Pt) : ∀ u ∈ cells2 l, u.oneCell' = true := by
  induction l with
  | nil => intro u hu; cases hu
  | cons p l ih =>
    intro u hu
    simp only [cells2, List.mem_cons] at hu
    rcases hu with rfl | rfl | hu
    · rfl
    · rfl
    · exact ih u hu
theorem cells2_set : ∀ (l : List Pt) (i : Nat) (p : Pt), i < l.length → cells2 (l.set i p) = ((cells2 l).set (i * 2) (.int .i64 p.1)).set (i * 2 + 1) (.int .i64 p.2)
  | [], _, _, h => by simp at h
  | q :: l, 0, p, _ => by simp [cells2]
  | q :: l, i + 1, p, h => by
    have := cells2_set l i p (by simpa using h)
    rw [show (i + 1) * 2 + 1 = i * 2 + 1 + 1 + 1 by omega, show (i + 1) * 2 = i * 2 + 1 + 1 by omega]
    simp only [List.set_cons_succ, cells2]
    rw [this]

/-- A list of outlets of one's own. -/
def OwnO (w : World) (base : Nat) (v : Value) (l : List Pt) : Prop := w.ownsRow base 73 2 v l.length (cells2 l)
section
variable {w : World} {base : Nat} {v : Value} {l : List Pt}
theorem OwnO.nil (w : World) (base : Nat) : OwnO w base (.slice none 0 0) [] := World.ownsRow_nil _ _ _ _
theorem OwnO.alloc (h : OwnO w base v l) (o : Obj) : OwnO (w.alloc o) base v l := World.ownsRow.alloc h o
theorem OwnO.later (h : OwnO w base v l) (x : Later w) : OwnO x.val base v l := own_later h x
theorem OwnO.mono {base' : Nat} (h : OwnO w base v l) (hb : base' ≤ base) : OwnO w base' v l :=
  ⟨h.1, h.2.imp id fun ⟨g, cap, cur, e, hg, r⟩ => ⟨g, cap, cur, e, Nat.le_trans hb hg, r⟩⟩
theorem OwnO.shape (h : OwnO w base v l) : ∃ A cap, v = .slice A l.length cap := by
  rcases h.2 with ⟨rfl, h0⟩ | ⟨g, cap, cur, rfl, _⟩
  · exact ⟨none, 0, by rw [h0]⟩
  · exact ⟨_, cap, rfl⟩
theorem OwnO.shape_n {n : Nat} (h : OwnO w base v l) (hn : l.length = n) : ∃ A cap, v = .slice A n cap := hn ▸ h.shape
theorem OwnO.form {n : Nat} (h : OwnO w base v l) (hn : l.length = n) (h0 : 0 < n) : ∃ g cap, v = .slice (some ⟨g, 0, none⟩) n cap ∧ base ≤ g ∧ g < w.heap.size ∧ n ≤ cap := by
  subst hn
  rcases h.2 with ⟨_, h0'⟩ | ⟨g, cap', cur, e, hb, hh, hn, _⟩
  · omega
  · exact ⟨g, cap', e, hb, (Array.getElem?_eq_some_iff.1 hh).1, hn⟩
theorem OwnO.cell {g n cap : Nat} (h : OwnO w base (.slice (some ⟨g, 0, none⟩) n cap) l) (hn : l.length = n) {i : Nat} (hi : i < n) :
    w.cell? ⟨g, i * 2, none⟩ = some (.int .i64 (hx l i)) ∧ w.cell? ⟨g, i * 2 + 1, none⟩ = some (.int .i64 (hy l i)) ∧ (∀ j, w.frozen? ⟨g, j, none⟩ = false) := by
  subst hn
  refine ⟨?_, ?_, fun j => World.ownsRow.frozenAt h j⟩
  · rw [World.ownsRow.cellAt h (i * 2) (by omega), cells2_x l i hi]
  · rw [World.ownsRow.cellAt h (i * 2 + 1) (by omega), cells2_y l i hi]
theorem OwnO.set {g n cap : Nat} (h : OwnO w base (.slice (some ⟨g, 0, none⟩) n cap) l) (hn : l.length = n) {i : Nat} (hi : i < n) (x y : Int) :
    OwnO ((w.setCell ⟨g, i * 2, none⟩ (.int .i64 x)).setCell ⟨g, i * 2 + 1, none⟩ (.int .i64 y)) base (.slice (some ⟨g, 0, none⟩) n cap) (l.set i (x, y)) := by
  subst hn
  have h1 := (World.ownsRow.stored h (i * 2) (.int .i64 x)).1
  have h2 := (World.ownsRow.stored h1 (i * 2 + 1) (.int .i64 y)).1
  unfold OwnO
  rw [List.length_set, cells2_set l i (x, y) hi]
  exact h2
theorem OwnO.far {p : Addr} {u : Value} (h : OwnO w base v l) (hp : ∀ g, v.ownBlock = some g → p.block ≠ g) : OwnO (w.setCell p u) base v l := by
  refine World.ownsRow.kept h (row := some p.block) ?_ ?_
  · exact ⟨rfl, rfl, rfl, (KeepsWalks.setCell w p u).size, fun b _ hne => Below.heap_setCell w p u b (fun e => hne (by rw [e]))⟩
  · rcases hv : v.ownBlock with _ | g
    · exact .inl rfl
    · exact .inr fun e => hp g hv (Option.some.inj e).symm
theorem OwnO.moved {V' : World} (h : OwnO w base v l) (hk : ∀ g, v.ownBlock = some g → V'.heap[g]? = w.heap[g]?) : OwnO V' base v l := by
  refine ⟨h.1, ?_⟩
  rcases h.2 with h2 | ⟨g, cap, cur, rfl, hb, hh, r⟩
  · exact .inl h2
  · exact .inr ⟨g, cap, cur, rfl, hb, (hk g rfl).trans hh, r⟩
/-- The last ones given back. -/
theorem OwnO.pop {g n cap : Nat} (h : OwnO w base (.slice (some ⟨g, 0, none⟩) n cap) l) (hn : l.length = n) {m : Nat} (hm : m ≤ n) : OwnO w base (.slice (some ⟨g, 0, none⟩) m cap) (l.take m) := by
  subst hn
  have hl : (l.take m).length = m := by simp; omega
  have hc : cells2 (l.take m) = (cells2 l).take (m * 2) := by
    have e : cells2 l = cells2 (l.take m) ++ cells2 (l.drop m) := by rw [← cells2_append, List.take_append_drop]
    conv => rhs; rw [e]
    rw [List.take_append_of_le_length (by rw [cells2_length, hl]; omega)]
    exact (List.take_of_length_le (by rw [cells2_length, hl]; omega)).symm
  unfold OwnO World.ownsRow at *
  rw [hl]
  refine ⟨by rw [cells2_length, hl], ?_⟩
  rcases h.2 with ⟨e, _⟩ | ⟨g', cap', cur, e, h1, h2, h3, h4, h5, h6⟩
  · cases e
  · simp only [Value.slice.injEq, Option.some.injEq, Addr.mk.injEq] at e
    obtain ⟨⟨rfl, _, _⟩, _, rfl⟩ := e
    refine .inr ⟨g, cap, cur, rfl, h1, h2, by omega, h4, h5, ?_⟩
    rw [hc, ← h6, List.take_take]
    congr 1
    omega
end
theorem infoO : (Try.prog.info? 73).map (fun i => (i.zero, i.size, i.bytes)) = some (some (.agg #[.int .i64 0, .int .i64 0]), 2, 16) := by kernel_rfl
/-- Two of a list change places. -/
def swapL (l : List Pt) (i k : Nat) : List Pt := (l.set i (l.getD k (0, 0))).set k (l.getD i (0, 0))
theorem swapL_length (l : List Pt) (i k : Nat) : (swapL l i k).length = l.length := by simp [swapL]

set_option maxRecDepth 100000 in
theorem less_any (g n cap base i k : Nat) (l : List Pt) (w : World) (hn : l.length = n) (hi : i < n) (hk : k < n) (ho : OwnO w base (.slice (some ⟨g, 0, none⟩) n cap) l) :
    Gives Try.prog 81 #[.slice (some ⟨g, 0, none⟩) n cap, .int .i64 i, .int .i64 k] w (.bool (decide (hy l i < hy l k))) := by
  obtain ⟨a0, a1, _⟩ := ho.cell hn hi
  obtain ⟨b0, b1, _⟩ := ho.cell hn hk
  have lg := World.block_lt_of_cell? _ _ a0
  have r : ∀ b : Bool, b = decide (hy l i < hy l k) → b = decide (hy l i < hy l k) := fun _ h => h
  have R := Lib.hid r
  clear ho hn r
  generalize hy l i = a at *
  generalize hy l k = b at *
  go_enter Try.func81, Try.ntmps81
  go_wp2_with fail
  refine wp_region_later (by kernel_rfl) (by kernel_rfl) ?_
  repeat (go_big_quiet_step ((fail)))
  refine wpQuiet_nil ?_
  intro y
  go_wp2
  go_ret
  exact ⟨rfl, later_of (by repeat (first | exact Below.refl _ _ | (with_reducible assumption) | apply below_later | apply below_alloc | apply below_drew | apply below_drewN))⟩
set_option maxRecDepth 100000 in
set_option maxHeartbeats 1600000 in
theorem swap_any (g n cap base i k : Nat) (l : List Pt) (w : World) (hn : l.length = n) (hi : i < n) (hk : k < n) (ho : OwnO w base (.slice (some ⟨g, 0, none⟩) n cap) l) :
    Calls Try.prog 82 #[.slice (some ⟨g, 0, none⟩) n cap, .int .i64 i, .int .i64 k] w fun e w' => e = .returned (.tuple #[]) ∧ Only (fun b => b = g) w w' ∧ OwnO w' base (.slice (some ⟨g, 0, none⟩) n cap) (swapL l i k) := by
  obtain ⟨a0, a1, fz⟩ := ho.cell hn hi
  obtain ⟨b0, b1, _⟩ := ho.cell hn hk
  have f0 := fz (i * 2)
  have f1 := fz (i * 2 + 1)
  have f2 := fz (k * 2)
  have f3 := fz (k * 2 + 1)
  have lg := World.block_lt_of_cell? _ _ a0
  have HO := Lib.hid ho
  have HS : Hid (swapL l i k = (l.set i (hx l k, hy l k)).set k (hx l i, hy l i)) := rfl
  clear ho fz
  generalize hx l i = a at *
  generalize hy l i = a' at *
  generalize hx l k = b at *
  generalize hy l k = b' at *
  rcases Nat.lt_trichotomy i k with hlt | hlt | hlt
  · go_enter Try.func82, Try.ntmps82
    go_wp2_with fail
    refine wp_region_tail 4 12 (by kernel_rfl) (by kernel_rfl) ?_
    simp only [List.take_succ_cons, List.take_zero, List.drop_succ_cons, List.drop_zero]
    repeat (go_big_quiet_step ((fail)))
    refine wpQuiet_nil ?_
    intro x
    have hx1 := Lib.hid (HO.out.later x)
    go_wp2
    refine calm_normal ?_
    go_end0
    refine ⟨rfl, ?_, ?_⟩
    · refine Only.trans (Only.trans (Only.trans (Only.trans (Only.later x) (Only.setCell _ ?_)) (Only.setCell _ ?_)) (Only.setCell _ ?_)) (Only.setCell _ ?_)
      · exact rfl
      · exact rfl
      · exact rfl
      · exact rfl
    · rw [HS.out]
      exact (hx1.out.set hn hi _ _).set (by rw [List.length_set]; exact hn) hk _ _
  · subst hlt
    obtain rfl : a = b := by have := a0.symm.trans b0; simpa using this
    obtain rfl : a' = b' := by have := a1.symm.trans b1; simpa using this
    go_enter Try.func82, Try.ntmps82
    go_wp2_with fail
    refine wp_region_tail 4 12 (by kernel_rfl) (by kernel_rfl) ?_
    simp only [List.take_succ_cons, List.take_zero, List.drop_succ_cons, List.drop_zero]
    repeat (go_big_quiet_step ((fail)))
    refine wpQuiet_nil ?_
    intro x
    have hx1 := Lib.hid (HO.out.later x)
    go_wp2
    refine calm_normal ?_
    go_end0
    refine ⟨rfl, ?_, ?_⟩
    · refine Only.trans (Only.trans (Only.trans (Only.trans (Only.later x) (Only.setCell _ ?_)) (Only.setCell _ ?_)) (Only.setCell _ ?_)) (Only.setCell _ ?_)
      · exact rfl
      · exact rfl
      · exact rfl
      · exact rfl
    · rw [HS.out]
      exact (hx1.out.set hn hi _ _).set (by rw [List.length_set]; exact hn) hk _ _
  · go_enter Try.func82, Try.ntmps82
    go_wp2_with fail
    refine wp_region_tail 4 12 (by kernel_rfl) (by kernel_rfl) ?_
    simp only [List.take_succ_cons, List.take_zero, List.drop_succ_cons, List.drop_zero]
    repeat (go_big_quiet_step ((fail)))
    refine wpQuiet_nil ?_
    intro x
    have hx1 := Lib.hid (HO.out.later x)
    go_wp2
    refine calm_normal ?_
    go_end0
    refine ⟨rfl, ?_, ?_⟩
    · refine Only.trans (Only.trans (Only.trans (Only.trans (Only.later x) (Only.setCell _ ?_)) (Only.setCell _ ?_)) (Only.setCell _ ?_)) (Only.setCell _ ?_)
      · exact rfl
      · exact rfl
      · exact rfl
      · exact rfl
    · rw [HS.out]
      exact (hx1.out.set hn hi _ _).set (by rw [List.length_set]; exact hn) hk _ _
end Go.Proofs.Ytelfinjnbncnlaa
