/- Words of layer 7: lists and tables in memory, lists of one's own, boxes. -/
import Derived.Test.YtcjahpbbkdkbpaaOwnI
import Derived.Lib.SliceRun
import Derived.Deep.LoopGhost
import Derived.Deep.DeepCutAuto
import Derived.RegionTactic
namespace Go.Proofs.Ytcjahpbbkdkbpaa
open Go.RowKit

/-- Is it a state? -/
def inS (n x : Int) : Bool := decide (0 ≤ x ∧ x < n)
theorem cell_of_heap {w : World} {b : Nat} {cs : Array Value} {t : TypeId} {z : Nat × Nat} (h : w.heap[b]? = some (.cells cs t z)) (i : Nat) (v : Value) (hi : cs[i]? = some v) : w.cell? ⟨b, i, none⟩ = some v := by
  simp [World.cell?, h, hi]
theorem get_lt {w : World} {b : Nat} {o : Obj} (h : w.heap[b]? = some o) : b < w.heap.size := (Array.getElem?_eq_some_iff.1 h).1
theorem own_row_kind {V : World} {base k : Nat} {v : Value} {xs : List Value} (h : V.ownsRow base 44 1 v k xs) {g : Nat} (hg : v.ownBlock = some g) : ∃ cs, V.heap[g]? = some (.cells cs 44 (0, 0)) := by
  rcases h.2 with ⟨rfl, _⟩ | ⟨g', cap, cur, rfl, _, hh, _⟩
  · simp [Value.ownBlock] at hg
  · simp [Value.ownBlock] at hg; subst hg; exact ⟨_, hh⟩
theorem own_int_kind {V : World} {base : Nat} {v : Value} {l : List Int} (h : OwnI V base v l) {g : Nat} (hg : v.ownBlock = some g) : ∃ cs, V.heap[g]? = some (.cells cs 3 (0, 0)) := by
  rcases h.2 with ⟨rfl, _⟩ | ⟨g', cap, cur, rfl, _, hh, _⟩
  · simp [Value.ownBlock] at hg
  · simp [Value.ownBlock] at hg; subst hg; exact ⟨_, hh⟩
theorem row_ne_int {V : World} {base base' k : Nat} {v u : Value} {xs : List Value} {l : List Int} (h : V.ownsRow base 44 1 v k xs) (ho : OwnI V base' u l) : ∀ g, u.ownBlock = some g → v.ownBlock ≠ some g := by
  intro g hg hv
  obtain ⟨c1, h1⟩ := own_row_kind h hv
  obtain ⟨c2, h2⟩ := own_int_kind ho hg
  rw [h1] at h2
  simp at h2
theorem infoL : (Try.prog.info? 44).map (fun i => (i.zero, i.size, i.bytes)) = some (some (.slice none 0 0), 1, 24) := by kernel_rfl
theorem info_list : ∃ i, Try.prog.info? 44 = some i ∧ i.zero = some (.slice none 0 0) ∧ i.size = 1 ∧ i.bytes = 24 := by
  have h := infoL
  cases hi : Try.prog.info? 44 with
  | none => rw [hi] at h; cases h
  | some i =>
    rw [hi] at h
    simp only [Option.map_some, Option.some.injEq, Prod.mk.injEq] at h
    exact ⟨i, rfl, h.1, h.2.1, h.2.2⟩
theorem lit_news {w : World} {v : Value} {t : TypeId} : ∀ (j : Nat) (u : Value), [v][j]? = some u → (w.alloc (.cells #[v] t)).cell? ((⟨w.heap.size, 0, none⟩ : Addr).add j) = some u := by
  intro j u hj
  match j, hj with
  | 0, hj => simp at hj; subst hj; simp [Addr.add]
theorem one_int {x : Int} : ∀ u ∈ [Value.int .i64 x], u.oneCell' = true := by intro u hu; simp at hu; subst hu; rfl
theorem one_slice {A : Option Addr} {n c : Nat} : ∀ u ∈ [Value.slice A n c], u.oneCell' = true := by intro u hu; simp at hu; subst hu; rfl
theorem inS_true {m : Nat} {x : Int} (h : inS m x = true) : ∃ i : Nat, x = i ∧ i < m := by
  simp only [inS, decide_eq_true_eq] at h
  exact ⟨x.toNat, by omega, by omega⟩
theorem inS_nat {m i : Nat} (h : i < m) : inS m (i : Int) = true := by simp [inS, h]
theorem box2 (w : World) (a b : Value) (t : TypeId) : (w.alloc (.cells #[a, b] t)).cell? ⟨w.heap.size, 0, none⟩ = some a ∧ (w.alloc (.cells #[a, b] t)).cell? ⟨w.heap.size, 1, none⟩ = some b ∧ w.heap.size < (w.alloc (.cells #[a, b] t)).heap.size :=
  ⟨cell_of_heap (World.alloc_heap_new _ _) 0 _ rfl, cell_of_heap (World.alloc_heap_new _ _) 1 _ rfl, by simp⟩
theorem box3 (w : World) (a b c : Value) (t : TypeId) : (w.alloc (.cells #[a, b, c] t)).cell? ⟨w.heap.size, 0, none⟩ = some a ∧ (w.alloc (.cells #[a, b, c] t)).cell? ⟨w.heap.size, 1, none⟩ = some b ∧ (w.alloc (.cells #[a, b, c] t)).cell? ⟨w.heap.size, 2, none⟩ = some c ∧ w.heap.size < (w.alloc (.cells #[a, b, c] t)).heap.size :=
  ⟨cell_of_heap (World.alloc_heap_new _ _) 0 _ rfl, cell_of_heap (World.alloc_heap_new _ _) 1 _ rfl, cell_of_heap (World.alloc_heap_new _ _) 2 _ rfl, by simp⟩
theorem IsInts.below {w v : World} {A : Option Addr} {n : Nat} {f : Nat → Int} (h : IsInts w A n f) (hb : Below w.heap.size w v) : IsInts v A n f := h.later ⟨v, hb⟩
/-- A call that returns a list of numbers of its own. -/
def PostI (w : World) (l : List Int) (e : Ending) (w' : World) : Prop := ∃ v, e = .returned v ∧ ∃ x : Later w, w' = x.val ∧ OwnI w' w.heap.size v l
def GivesI (f : FuncId) (args : Array Value) (w : World) (l : List Int) : Prop := Calls Try.prog f args w (PostI w l)
theorem GivesI.calls {f : FuncId} {args : Array Value} {w : World} {l : List Int} (h : GivesI f args w l) : Calls Try.prog f args w fun e w' => ∃ v, e = .returned v ∧ ∃ x : Later w, w' = x.val ∧ OwnI w' w.heap.size v l := h
theorem ints_news {w : World} {b off n : Nat} {f : Nat → Int} (h : Ints w b off n f) : ∀ (j : Nat) (u : Value), (cellsI ((List.range n).map f))[j]? = some u → w.cell? ((⟨b, off, none⟩ : Addr).add j) = some u := by
  intro j u hj
  have hl : j < n := by
    have := (List.getElem?_eq_some_iff.1 hj).1
    simpa [cellsI] using this
  have e : (cellsI ((List.range n).map f))[j]? = some (.int .i64 (f j)) := by simp [cellsI, hl]
  rw [e] at hj
  obtain rfl := Option.some.inj hj
  have : (⟨b, off, none⟩ : Addr).add j = ⟨b, off + j, none⟩ := by simp [Addr.add]
  rw [this]
  exact h.at_ j hl
set_option maxRecDepth 100000 in
theorem clone_ints (b off n cap : Nat) (f : Nat → Int) (w : World) (h0 : 0 < n) (hn : n ≤ 1000) (hp : Ints w b off n f) :
    GivesI 43 #[.slice (some ⟨b, off, none⟩) n cap] w ((List.range n).map f) := by
  have hl := hp.lt
  have Hp := Lib.hid hp
  clear hp
  have hnil := Lib.run_eql_slice_nil (P := Try.prog) w 44 3 (some ⟨b, off, none⟩) n cap 0 0 Try.underlying44
  go_enter Try.func43, Try.ntmps43
  obtain ⟨i0, hi, hz0, hz1, hz2⟩ := info_int
  have hown : OwnI (w.alloc (.cells #[] 3)) w.heap.size (.slice (some ⟨w.heap.size, 0, none⟩) 0 0) [] := World.ownsRow_made w #[] 0 (Nat.le_refl _) (by unfold maxLen; omega) rfl
  have hnews := ints_news (Hp.out.later ⟨w.alloc (.cells #[] 3), by repeat (first | exact Below.refl _ _ | (with_reducible assumption) | apply below_later | apply below_alloc | apply below_drew | apply below_drewN)⟩)
  have HN := Lib.hid hnews
  clear hnews
  go_wp2_with (at_builtin; refine wpList_append_own _ rfl _ _ 44 rfl w.heap.size 3 i0 (.int .i64 0) 1 8 Try.underlying44 hi hz0 hz1 hz2 rfl (by decide) _ _ _ rfl hown ⟨b, off, none⟩ n cap (cellsI ((List.range n).map f)) rfl ?c1 HN.out (cellsI_one _) ?c3 ?c4 ?c5 ?_)
  case c1 => rw [cellsI_length]; simp
  case c3 => simp only [maxLen]; omega
  case c4 => omega
  intro v' w1 hown2 hg1 _
  go_wp2
  go_ret
  refine ⟨v', rfl, ⟨w1, below_own (by repeat (first | exact Below.refl _ _ | (with_reducible assumption) | apply below_later | apply below_alloc | apply below_drew | apply below_drewN)) hown (Nat.le_refl _) hg1⟩, rfl, ?_⟩
  unfold OwnI
  rw [show ((List.range n).map f).length = n by simp]
  exact hown2

/-! Bools of one's own. -/
def cellsBl (l : List Bool) : List Value := l.map Value.bool
theorem cellsBl_length (l : List Bool) : (cellsBl l).length = l.length := by simp [cellsBl]
theorem cellsBl_get {l : List Bool} {i : Nat} (h : i < l.length) : (cellsBl l)[i]? = some (.bool (l.getD i true)) := by
  simp [cellsBl, List.getD_eq_getElem?_getD, List.getElem?_eq_getElem h]
theorem cellsBl_set (l : List Bool) (i : Nat) (x : Bool) : cellsBl (l.set i x) = (cellsBl l).set i (.bool x) := by simp [cellsBl, List.map_set]
def OwnBl (w : World) (base : Nat) (v : Value) (l : List Bool) : Prop := w.ownsRow base 4 1 v l.length (cellsBl l)
section
variable {w : World} {base g n cap : Nat} {v : Value} {l : List Bool}
theorem OwnBl.later (h : OwnBl w base v l) (x : Later w) : OwnBl x.val base v l := own_later h x
theorem OwnBl.below {V : World} (h : OwnBl w base v l) (hb : Below w.heap.size w V) : OwnBl V base v l := own_later h ⟨V, hb⟩
theorem OwnBl.mono {base' : Nat} (h : OwnBl w base v l) (hb : base' ≤ base) : OwnBl w base' v l :=
  ⟨h.1, h.2.imp id fun ⟨g, cap, cur, e, hg, r⟩ => ⟨g, cap, cur, e, Nat.le_trans hb hg, r⟩⟩
theorem OwnBl.cell {i : Nat} (h : OwnBl w base (.slice (some ⟨g, 0, none⟩) n cap) l) (hn : l.length = n) (hi : i < n) : w.cell? ⟨g, i, none⟩ = some (.bool (l.getD i true)) ∧ (∀ j, w.frozen? ⟨g, j, none⟩ = false) ∧ g < w.heap.size := by
  subst hn
  refine ⟨?_, fun j => World.ownsRow.frozenAt h j, (own_lt h g rfl).2⟩
  rw [World.ownsRow.cellAt h i (by omega), cellsBl_get hi]
theorem OwnBl.set (h : OwnBl w base (.slice (some ⟨g, 0, none⟩) n cap) l) (hn : l.length = n) (j : Nat) (b : Bool) : OwnBl (w.setCell ⟨g, j, none⟩ (.bool b)) base (.slice (some ⟨g, 0, none⟩) n cap) (l.set j b) := by
  subst hn
  have h1 := (World.ownsRow.stored h j (.bool b)).1
  unfold OwnBl
  rw [List.length_set, cellsBl_set]
  exact h1
theorem OwnBl.far {p : Addr} {u : Value} (h : OwnBl w base v l) (hp : ∀ g, v.ownBlock = some g → p.block ≠ g) : OwnBl (w.setCell p u) base v l := by
  refine World.ownsRow.kept h (row := some p.block) ?_ ?_
  · exact ⟨rfl, rfl, rfl, (KeepsWalks.setCell w p u).size, fun b _ hne => Below.heap_setCell w p u b (fun e => hne (by rw [e]))⟩
  · rcases hv : v.ownBlock with _ | g
    · exact .inl rfl
    · exact .inr fun e => hp g hv (Option.some.inj e).symm
end
theorem infoBl : (Try.prog.info? 4).map (fun i => (i.zero, i.size, i.bytes)) = some (some (.bool false), 1, 1) := by kernel_rfl
theorem madeBl (n : Nat) : (madeCells #[Value.bool false] n).toList = cellsBl (List.replicate n false) := by
  apply List.ext_getElem?
  intro i
  simp only [cellsBl, madeCells]
  simp [Nat.mod_one]
  rcases Nat.lt_or_ge i n with h | h
  · simp [h]
  · simp [h]
theorem made_ownBl (w : World) (n base : Nat) (hb : base ≤ w.heap.size) (hn : n ≤ 1000000) : OwnBl (w.alloc (.cells (madeCells #[Value.bool false] n) 4)) base (.slice (some ⟨w.heap.size, 0, none⟩) n n) (List.replicate n false) := by
  unfold OwnBl
  rw [List.length_replicate, ← madeBl]
  exact World.ownsRow_lit w _ n hb (by unfold maxLen; omega) (by rw [size_madeCells, Nat.mul_one])
/-- A box of one cell that is written. -/
theorem one_box (w : World) (v : Value) (t : TypeId) : (w.alloc (.cells #[v] t)).heap[w.heap.size]? = some (.cells #[v] t (0, 0)) := World.alloc_heap_new _ _
theorem box_facts {w : World} {b : Nat} {v : Value} {t : TypeId} (h : w.heap[b]? = some (.cells #[v] t (0, 0))) : w.cell? ⟨b, 0, none⟩ = some v ∧ w.frozen? ⟨b, 0, none⟩ = false ∧ b < w.heap.size :=
  ⟨cell_of_heap h 0 _ rfl, by simp [World.frozen?, h], get_lt h⟩
theorem box_far {w : World} {b : Nat} {o : Obj} {p : Addr} {u : Value} (h : w.heap[b]? = some o) (hp : p.block ≠ b) : (w.setCell p u).heap[b]? = some o :=
  (Below.heap_setCell w p u b (fun e => hp e.symm)).trans h
theorem IsInts.take {w : World} {A : Option Addr} {m k : Nat} {c : Nat → Int} (h : IsInts w A m c) (hk : k ≤ m) : IsInts w A k c :=
  ⟨by have := h.small; omega, fun h0 => let ⟨b, off, e, hp⟩ := h.at_ (by omega); ⟨b, off, e, hp.lt, fun i hi => hp.at_ i (by omega)⟩⟩
theorem IsInts.congr {w : World} {A : Option Addr} {n : Nat} {f g : Nat → Int} (h : IsInts w A n f) (e : ∀ i, i < n → f i = g i) : IsInts w A n g :=
  ⟨h.small, fun h0 => let ⟨b, off, ea, hp⟩ := h.at_ h0; ⟨b, off, ea, hp.lt, fun i hi => by rw [← e i hi]; exact hp.at_ i hi⟩⟩
/-- What a list of lists holds: of each its address, length, room and numbers. -/
structure Row where
  a : Option Addr
  n : Nat
  c : Nat
  f : Nat → Int
instance : Inhabited Row := ⟨⟨none, 0, 0, fun _ => 0⟩⟩
def Row.val (r : Row) : Value := .slice r.a r.n r.c
structure IsTab (w : World) (A : Option Addr) (k : Nat) (R : Nat → Row) : Prop where
  small : k ≤ 9223372036854775807
  at_ : 0 < k → ∃ b off, A = some ⟨b, off, none⟩ ∧ b < w.heap.size ∧ ∀ i, i < k → w.cell? ⟨b, off + i, none⟩ = some (R i).val
  row : ∀ i, i < k → IsInts w (R i).a (R i).n (R i).f ∧ (R i).n ≤ (R i).c
theorem IsTab.later {w : World} {A : Option Addr} {k : Nat} {R : Nat → Row} (h : IsTab w A k R) (x : Later w) : IsTab x.val A k R :=
  ⟨h.small, fun h0 => let ⟨b, off, e, hl, hp⟩ := h.at_ h0; ⟨b, off, e, Nat.lt_of_lt_of_le hl x.size, fun i hi => (x.cell _ _ hl).trans (hp i hi)⟩, fun i hi => ⟨(h.row i hi).1.later x, (h.row i hi).2⟩⟩
theorem IsTab.below {w V : World} {A : Option Addr} {k : Nat} {R : Nat → Row} (h : IsTab w A k R) (hb : Below w.heap.size w V) : IsTab V A k R := h.later ⟨V, hb⟩
theorem getD_rep {n i : Nat} {x : Int} (h : i < n) : (List.replicate n x).getD i 0 = x := by simp [List.getD_eq_getElem?_getD, List.getElem?_replicate, h]
end Go.Proofs.Ytcjahpbbkdkbpaa
