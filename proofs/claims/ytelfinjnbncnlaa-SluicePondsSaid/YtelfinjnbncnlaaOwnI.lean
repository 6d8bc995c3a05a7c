/- Lists of whole numbers that a call has made: rows of cells of its own. -/
import Derived.Test.YtelfinjnbncnlaaMap
import Derived.Laws.OwnMore
import Derived.Laws.MakeOwn
import Derived.Maps.AppendAt
import Derived.OneCell
import Derived.Test.YtelfinjnbncnlaaSeq
namespace Go.Proofs.Ytelfinjnbncnlaa
open Go.RowKit

theorem cell_alloc1 {w : World} {o1 : Obj} {b o : Nat} (h : b < w.heap.size) : (w.alloc o1).cell? ⟨b, o, none⟩ = w.cell? ⟨b, o, none⟩ := World.cell?_alloc_lt _ _ _ (by simpa using h)
theorem below_set {w w1 : World} {p : Addr} {u : Value} (h : Below w.heap.size w w1) (hp : w.heap.size ≤ p.block) : Below w.heap.size w (w1.setCell p u) := h.setCell hp u
theorem cell_set_far {w : World} {p a : Addr} {v : Value} (h : p.block ≠ a.block) : (w.setCell p v).cell? a = w.cell? a := World.cell?_setCell_other w p a v (fun e => h (by rw [e]))

/-- The cells of a list of numbers. -/
def cellsI (l : List Int) : List Value := l.map fun x => .int .i64 x
theorem cellsI_length (l : List Int) : (cellsI l).length = l.length := by simp [cellsI]
theorem cellsI_get {l : List Int} {i : Nat} (h : i < l.length) : (cellsI l)[i]? = some (.int .i64 (l.getD i 0)) := by
  simp [cellsI, List.getD_eq_getElem?_getD, List.getElem?_eq_getElem h]
theorem cellsI_append (l k : List Int) : cellsI (l ++ k) = cellsI l ++ cellsI k := by simp [cellsI]
theorem cellsI_set (l : List Int) (i : Nat) (x : Int) : cellsI (l.set i x) = (cellsI l).set i (.int .i64 x) := by simp [cellsI, List.map_set]
theorem cellsI_one (l : List Int) : ∀ u ∈ cellsI l, u.oneCell' = true := by
  intro u hu
  obtain ⟨x, _, rfl⟩ := List.mem_map.1 hu
  rfl

/-- A list of numbers of one's own. -/
def OwnI (w : World) (base : Nat) (v : Value) (l : List Int) : Prop := w.ownsRow base 3 1 v l.length (cellsI l)
section
variable {w : World} {base : Nat} {v : Value} {l : List Int}
theorem OwnI.nil (w : World) (base : Nat) : OwnI w base (.slice none 0 0) [] := World.ownsRow_nil _ _ _ _
theorem OwnI.alloc (h : OwnI w base v l) (o : Obj) : OwnI (w.alloc o) base v l := World.ownsRow.alloc h o
theorem OwnI.later (h : OwnI w base v l) (x : Later w) : OwnI x.val base v l := own_later h x
theorem OwnI.drew (h : OwnI w base v l) : OwnI w.drew base v l := h
theorem OwnI.mono {base' : Nat} (h : OwnI w base v l) (hb : base' ≤ base) : OwnI w base' v l :=
  ⟨h.1, h.2.imp id fun ⟨g, cap, cur, e, hg, r⟩ => ⟨g, cap, cur, e, Nat.le_trans hb hg, r⟩⟩
theorem OwnI.shape (h : OwnI w base v l) : ∃ A cap, v = .slice A l.length cap := by
  rcases h.2 with ⟨rfl, h0⟩ | ⟨g, cap, cur, rfl, _⟩
  · exact ⟨none, 0, by rw [h0]⟩
  · exact ⟨_, cap, rfl⟩
theorem OwnI.shape_n {n : Nat} (h : OwnI w base v l) (hn : l.length = n) : ∃ A cap, v = .slice A n cap := hn ▸ h.shape
theorem OwnI.form {n : Nat} (h : OwnI w base v l) (hn : l.length = n) (h0 : 0 < n) : ∃ g cap, v = .slice (some ⟨g, 0, none⟩) n cap ∧ base ≤ g ∧ g < w.heap.size ∧ n ≤ cap := by
  subst hn
  rcases h.2 with ⟨_, h0'⟩ | ⟨g, cap', cur, e, hb, hh, hn, _⟩
  · omega
  · exact ⟨g, cap', e, hb, (Array.getElem?_eq_some_iff.1 hh).1, hn⟩
/-- What a list of one's own holds at one place. -/
theorem OwnI.cell {g n cap i : Nat} (h : OwnI w base (.slice (some ⟨g, 0, none⟩) n cap) l) (hn : l.length = n) (hi : i < n) :
    w.cell? ⟨g, i, none⟩ = some (.int .i64 (l.getD i 0)) ∧ ∀ j, w.frozen? ⟨g, j, none⟩ = false := by
  subst hn
  refine ⟨?_, fun j => World.ownsRow.frozenAt h j⟩
  rw [World.ownsRow.cellAt h i (by omega), cellsI_get hi]
/-- A number is written. -/
theorem OwnI.set {g n cap : Nat} (h : OwnI w base (.slice (some ⟨g, 0, none⟩) n cap) l) (hn : l.length = n) (i : Nat) (x : Int) :
    OwnI (w.setCell ⟨g, i, none⟩ (.int .i64 x)) base (.slice (some ⟨g, 0, none⟩) n cap) (l.set i x) := by
  subst hn
  have h1 := (World.ownsRow.stored h i (.int .i64 x)).1
  unfold OwnI
  rw [List.length_set, cellsI_set]
  exact h1
theorem OwnI.ints {A : Option Addr} {n cap : Nat} (h : OwnI w base (.slice A n cap) l) (hs : l.length ≤ 9223372036854775807) : n = l.length ∧ IsInts w A n (fun i => l.getD i 0) := by
  have hn : n = l.length := by
    rcases h.2 with ⟨e, h0⟩ | ⟨g, cap', cur, e, _⟩
    · simp only [Value.slice.injEq] at e; omega
    · simp only [Value.slice.injEq] at e; exact e.2.1
  refine ⟨hn, by omega, fun h0 => ?_⟩
  obtain ⟨g, cap', e, hb, hlt, hcap⟩ := h.form hn.symm h0
  simp only [Value.slice.injEq] at e
  obtain ⟨rfl, _, rfl⟩ := e
  exact ⟨g, 0, rfl, hlt, fun i hi => by rw [Nat.zero_add]; exact (h.cell hn.symm hi).1⟩
theorem OwnI.lt {g n cap : Nat} (h : OwnI w base (.slice (some ⟨g, 0, none⟩) n cap) l) : base ≤ g ∧ g < w.heap.size := own_lt h g rfl
/-- Another block is written, or a block is made. -/
theorem OwnI.far {p : Addr} {u : Value} (h : OwnI w base v l) (hp : ∀ g, v.ownBlock = some g → p.block ≠ g) : OwnI (w.setCell p u) base v l := by
  refine World.ownsRow.kept h (row := some p.block) ?_ ?_
  · exact ⟨rfl, rfl, rfl, (KeepsWalks.setCell w p u).size, fun b _ hne => Below.heap_setCell w p u b (fun e => hne (by rw [e]))⟩
  · rcases hv : v.ownBlock with _ | g
    · exact .inl rfl
    · exact .inr fun e => hp g hv (Option.some.inj e).symm
end
theorem infoI : (Try.prog.info? 3).map (fun i => (i.zero, i.size, i.bytes)) = some (some (.int .i64 0), 1, 8) := by kernel_rfl
theorem info_int : ∃ i, Try.prog.info? 3 = some i ∧ i.zero = some (.int .i64 0) ∧ i.size = 1 ∧ i.bytes = 8 := by
  have h := infoI
  cases hi : Try.prog.info? 3 with
  | none => rw [hi] at h; cases h
  | some i =>
    rw [hi] at h
    simp only [Option.map_some, Option.some.injEq, Prod.mk.injEq] at h
    exact ⟨i, rfl, h.1, h.2.1, h.2.2⟩

/-- make([]int, n). -/
theorem make_ints (w : World) (n : Nat) (hn : n ≤ 1000000) :
    (Instr.makeSlice 22 (.int .i64 (n : Int)) (.int .i64 (n : Int))).run Try.prog w = .ok (.slice (some ⟨w.heap.size, 0, none⟩) n n) (w.alloc (.cells (madeCells #[Value.int .i64 0] n) 3)) := by
  obtain ⟨i, hi, hz, hs, hb⟩ := info_int
  have := run_make (P := Try.prog) w 22 3 i (.int .i64 0) Try.underlying22 hi hz .i64 .i64 n n (by omega) (Int.le_refl _) (by rw [hb]; omega) (by omega)
  rw [hs, Nat.mul_one, Int.toNat_natCast] at this
  exact this
theorem madeI (n : Nat) : (madeCells #[Value.int .i64 0] n).toList = cellsI (List.replicate n 0) := by
  apply List.ext_getElem?
  intro i
  simp only [cellsI, madeCells]
  simp [Nat.mod_one]
  rcases Nat.lt_or_ge i n with h | h
  · simp [h]
  · simp [h]
theorem made_own (w : World) (n base : Nat) (hb : base ≤ w.heap.size) (hn : n ≤ 1000000) : OwnI (w.alloc (.cells (madeCells #[Value.int .i64 0] n) 3)) base (.slice (some ⟨w.heap.size, 0, none⟩) n n) (List.replicate n 0) := by
  unfold OwnI
  rw [List.length_replicate, ← madeI]
  exact World.ownsRow_lit w _ n hb (by unfold maxLen; omega) (by rw [size_madeCells, Nat.mul_one])

/-- One number is appended (an operation's law). -/
theorem push_own {P : Program} {w w' : World} {base : Nat} {v v' : Value} {l : List Int} {x : Int} (h : w'.ownsRow base 3 1 v' (l.length + 1) (cellsI l ++ [.int .i64 x])) : OwnI w' base v' (l ++ [x]) := by
  unfold OwnI
  rw [List.length_append, cellsI_append]
  exact h
theorem OwnI.moved {V V' : World} {base : Nat} {v : Value} {l : List Int} (h : OwnI V base v l) (hk : ∀ g, v.ownBlock = some g → V'.heap[g]? = V.heap[g]?) : OwnI V' base v l := by
  refine ⟨h.1, ?_⟩
  rcases h.2 with h2 | ⟨g, cap, cur, rfl, hb, hh, r⟩
  · exact .inl h2
  · exact .inr ⟨g, cap, cur, rfl, hb, (hk g rfl).trans hh, r⟩
theorem OwnI.stab {V V' : World} {base : Nat} {v : Value} {l : List Int} {S T : BSet} (h : OwnI V base v l) (hn : ∀ g, v.ownBlock = some g → ¬ S g) (ht : Takes S T V V') (ho : Only S V V') :
    OwnI V' base v l ∧ ∀ g, v.ownBlock = some g → ¬ T g := by
  refine ⟨h.moved fun g hg => ho.block _ (own_lt h g hg).2 (hn g hg), fun g hg k => ?_⟩
  have l := (own_lt h g hg).2
  rcases ht.2 _ k with q | q
  · exact hn g hg q
  · omega
theorem own_row {w : World} {base n : Nat} {v : Value} {l : List Int} (h : OwnI w base v l) (hn : l.length = n) : w.ownsRow base 3 1 v n (cellsI l) := by
  subst hn; exact h
end Go.Proofs.Ytelfinjnbncnlaa
