/- Rows of two and of three numbers: lists of one's own, and lists that are read. -/
import Derived.Test.YtcjahpbbkdkbpaaDBase
namespace Go.Proofs.Ytcjahpbbkdkbpaa
open Go.RowKit

abbrev Pt := Int × Int
def hx (h : List Pt) (i : Nat) : Int := (h.getD i (0, 0)).1
def hy (h : List Pt) (i : Nat) : Int := (h.getD i (0, 0)).2
/-- The cells of a list of pairs. -/
def cells2 : List Pt → List Value
  | [] => []
  | p :: l => .int .i64 p.1 :: .int .i64 p.2 :: cells2 l
theorem cells2_append (l k : List Pt) : cells2 (l ++ k) = cells2 l ++ cells2 k := by
  induction l with
  | nil => rfl
  | cons p l ih => simp only [List.cons_append, cells2, ih]
theorem cells2_length (l : List Pt) : (cells2 l).length = l.length * 2 := by
  induction l with
  | nil => rfl
  | cons p l ih => simp only [cells2, List.length_cons, ih]; omega
theorem cells2_x : ∀ (l : List Pt) (i : Nat), i < l.length → (cells2 l)[i * 2]? = some (.int .i64 (hx l i))
  | [], _, h => by simp at h
  | p :: l, 0, _ => by simp [cells2, hx]
  | p :: l, i + 1, h => by
    have := cells2_x l i (by simpa using h)
    rw [show (i + 1) * 2 = i * 2 + 1 + 1 by omega]
    simp only [cells2, List.getElem?_cons_succ]
    rw [this]; simp [hx]
theorem cells2_y : ∀ (l : List Pt) (i : Nat), i < l.length → (cells2 l)[i * 2 + 1]? = some (.int .i64 (hy l i))
  | [], _, h => by simp at h
  | p :: l, 0, _ => by simp [cells2, hy]
  | p :: l, i + 1, h => by
    have := cells2_y l i (by simpa using h)
    rw [show (i + 1) * 2 + 1 = i * 2 + 1 + 1 + 1 by omega]
    simp only [cells2, List.getElem?_cons_succ]
    rw [this]; simp [hy]
theorem cells2_one (l : List Pt) : ∀ u ∈ cells2 l, u.oneCell' = true := by
  induction l with
  | nil => intro u hu; cases hu
  | cons p l ih =>
    intro u hu
    simp only [cells2, List.mem_cons] at hu
    rcases hu with rfl | rfl | hu
    · rfl
    · rfl
    · exact ih u hu
theorem cells2_set : ∀ (l : List Pt) (i : Nat) (p : Pt), i < l.length → cells2 (l.set i p) = ((cells2 l).set (i * 2) (.int .i64 p.1)).set (i * 2 + 1) (.int .i64 p.2)
  | [], _, _, h => by simp at h
  | q :: l, 0, p, _ => by simp [cells2]
  | q :: l, i + 1, p, h => by
    have := cells2_set l i p (by simpa using h)
    rw [show (i + 1) * 2 + 1 = i * 2 + 1 + 1 + 1 by omega, show (i + 1) * 2 = i * 2 + 1 + 1 by omega]
    simp only [List.set_cons_succ, cells2]
    rw [this]

/-- A list of pairs of one's own, of a type of two numbers. -/
def OwnQ (T : TypeId) (w : World) (base : Nat) (v : Value) (l : List Pt) : Prop := w.ownsRow base T 2 v l.length (cells2 l)
section
variable {T : TypeId} {w : World} {base : Nat} {v : Value} {l : List Pt}
theorem OwnQ.nil (T : TypeId) (w : World) (base : Nat) : OwnQ T w base (.slice none 0 0) [] := World.ownsRow_nil _ _ _ _
theorem OwnQ.alloc (h : OwnQ T w base v l) (o : Obj) : OwnQ T (w.alloc o) base v l := World.ownsRow.alloc h o
theorem OwnQ.later (h : OwnQ T w base v l) (x : Later w) : OwnQ T x.val base v l := own_later h x
theorem OwnQ.mono {base' : Nat} (h : OwnQ T w base v l) (hb : base' ≤ base) : OwnQ T w base' v l :=
  ⟨h.1, h.2.imp id fun ⟨g, cap, cur, e, hg, r⟩ => ⟨g, cap, cur, e, Nat.le_trans hb hg, r⟩⟩
theorem OwnQ.shape (h : OwnQ T w base v l) : ∃ A cap, v = .slice A l.length cap := by
  rcases h.2 with ⟨rfl, h0⟩ | ⟨g, cap, cur, rfl, _⟩
  · exact ⟨none, 0, by rw [h0]⟩
  · exact ⟨_, cap, rfl⟩
theorem OwnQ.shape_n {n : Nat} (h : OwnQ T w base v l) (hn : l.length = n) : ∃ A cap, v = .slice A n cap := hn ▸ h.shape
theorem OwnQ.form {n : Nat} (h : OwnQ T w base v l) (hn : l.length = n) (h0 : 0 < n) : ∃ g cap, v = .slice (some ⟨g, 0, none⟩) n cap ∧ base ≤ g ∧ g < w.heap.size ∧ n ≤ cap := by
  subst hn
  rcases h.2 with ⟨_, h0'⟩ | ⟨g, cap', cur, e, hb, hh, hn, _⟩
  · omega
  · exact ⟨g, cap', e, hb, (Array.getElem?_eq_some_iff.1 hh).1, hn⟩
theorem OwnQ.cell {g n cap : Nat} (h : OwnQ T w base (.slice (some ⟨g, 0, none⟩) n cap) l) (hn : l.length = n) {i : Nat} (hi : i < n) :
    w.cell? ⟨g, i * 2, none⟩ = some (.int .i64 (hx l i)) ∧ w.cell? ⟨g, i * 2 + 1, none⟩ = some (.int .i64 (hy l i)) ∧ (∀ j, w.frozen? ⟨g, j, none⟩ = false) := by
  subst hn
  refine ⟨?_, ?_, fun j => World.ownsRow.frozenAt h j⟩
  · rw [World.ownsRow.cellAt h (i * 2) (by omega), cells2_x l i hi]
  · rw [World.ownsRow.cellAt h (i * 2 + 1) (by omega), cells2_y l i hi]
theorem OwnQ.set {g n cap : Nat} (h : OwnQ T w base (.slice (some ⟨g, 0, none⟩) n cap) l) (hn : l.length = n) {i : Nat} (hi : i < n) (x y : Int) :
    OwnQ T ((w.setCell ⟨g, i * 2, none⟩ (.int .i64 x)).setCell ⟨g, i * 2 + 1, none⟩ (.int .i64 y)) base (.slice (some ⟨g, 0, none⟩) n cap) (l.set i (x, y)) := by
  subst hn
  have h1 := (World.ownsRow.stored h (i * 2) (.int .i64 x)).1
  have h2 := (World.ownsRow.stored h1 (i * 2 + 1) (.int .i64 y)).1
  unfold OwnQ
  rw [List.length_set, cells2_set l i (x, y) hi]
  exact h2
theorem OwnQ.far {p : Addr} {u : Value} (h : OwnQ T w base v l) (hp : ∀ g, v.ownBlock = some g → p.block ≠ g) : OwnQ T (w.setCell p u) base v l := by
  refine World.ownsRow.kept h (row := some p.block) ?_ ?_
  · exact ⟨rfl, rfl, rfl, (KeepsWalks.setCell w p u).size, fun b _ hne => Below.heap_setCell w p u b (fun e => hne (by rw [e]))⟩
  · rcases hv : v.ownBlock with _ | g
    · exact .inl rfl
    · exact .inr fun e => hp g hv (Option.some.inj e).symm
theorem OwnQ.moved {V' : World} (h : OwnQ T w base v l) (hk : ∀ g, v.ownBlock = some g → V'.heap[g]? = w.heap[g]?) : OwnQ T V' base v l := by
  refine ⟨h.1, ?_⟩
  rcases h.2 with h2 | ⟨g, cap, cur, rfl, hb, hh, r⟩
  · exact .inl h2
  · exact .inr ⟨g, cap, cur, rfl, hb, (hk g rfl).trans hh, r⟩
/-- The last ones given back. -/
theorem OwnQ.pop {g n cap : Nat} (h : OwnQ T w base (.slice (some ⟨g, 0, none⟩) n cap) l) (hn : l.length = n) {m : Nat} (hm : m ≤ n) : OwnQ T w base (.slice (some ⟨g, 0, none⟩) m cap) (l.take m) := by
  subst hn
  have hl : (l.take m).length = m := by simp; omega
  have hc : cells2 (l.take m) = (cells2 l).take (m * 2) := by
    have e : cells2 l = cells2 (l.take m) ++ cells2 (l.drop m) := by rw [← cells2_append, List.take_append_drop]
    conv => rhs; rw [e]
    rw [List.take_append_of_le_length (by rw [cells2_length, hl]; omega)]
    exact (List.take_of_length_le (by rw [cells2_length, hl]; omega)).symm
  unfold OwnQ World.ownsRow at *
  rw [hl]
  refine ⟨by rw [cells2_length, hl], ?_⟩
  rcases h.2 with ⟨e, _⟩ | ⟨g', cap', cur, e, h1, h2, h3, h4, h5, h6⟩
  · cases e
  · simp only [Value.slice.injEq, Option.some.injEq, Addr.mk.injEq] at e
    obtain ⟨⟨rfl, _, _⟩, _, rfl⟩ := e
    refine .inr ⟨g, cap, cur, rfl, h1, h2, by omega, h4, h5, ?_⟩
    rw [hc, ← h6, List.take_take]
    congr 1
    omega
end

theorem own_rowQ {T : TypeId} {w : World} {base n : Nat} {v : Value} {l : List Pt} (h : OwnQ T w base v l) (hn : l.length = n) : w.ownsRow base T 2 v n (cells2 l) := by
  subst hn; exact h
theorem lit_news2 {w : World} {u v : Value} {t : TypeId} : ∀ (j : Nat) (x : Value), [u, v][j]? = some x → (w.alloc (.cells #[u, v] t)).cell? ((⟨w.heap.size, 0, none⟩ : Addr).add j) = some x := by
  intro j x hj
  match j, hj with
  | 0, hj => simp at hj; subst hj; simp [Addr.add]
  | 1, hj => simp at hj; subst hj; simp [Addr.add]
theorem two_int {x y : Int} : ∀ u ∈ [Value.int .i64 x, .int .i64 y], u.oneCell' = true := by
  intro u hu
  simp at hu
  rcases hu with rfl | rfl <;> rfl
theorem OwnQ.below {T : TypeId} {w V : World} {base : Nat} {v : Value} {l : List Pt} (h : OwnQ T w base v l) (hb : Below w.heap.size w V) : OwnQ T V base v l := h.later ⟨V, hb⟩
/-- Rows of two numbers, read. -/
structure IsPairs (w : World) (A : Option Addr) (n : Nat) (x y : Nat → Int) : Prop where
  small : n ≤ 9223372036854775807
  at_ : 0 < n → ∃ b off, A = some ⟨b, off, none⟩ ∧ b < w.heap.size ∧ ∀ i, i < n → w.cell? ⟨b, off + i * 2, none⟩ = some (.int .i64 (x i)) ∧ w.cell? ⟨b, off + i * 2 + 1, none⟩ = some (.int .i64 (y i))
theorem IsPairs.below {w V : World} {A : Option Addr} {n : Nat} {x y : Nat → Int} (h : IsPairs w A n x y) (hb : Below w.heap.size w V) : IsPairs V A n x y :=
  ⟨h.small, fun h0 => let ⟨b, off, e, hl, hc⟩ := h.at_ h0; ⟨b, off, e, Nat.lt_of_lt_of_le hl hb.size, fun i hi => ⟨(hb.cell (p := ⟨b, off + i * 2, none⟩) hl).trans (hc i hi).1, (hb.cell (p := ⟨b, off + i * 2 + 1, none⟩) hl).trans (hc i hi).2⟩⟩⟩
theorem OwnQ.pairs {T : TypeId} {w : World} {base : Nat} {A : Option Addr} {n cap : Nat} {l : List Pt} (h : OwnQ T w base (.slice A n cap) l) (hn : l.length = n) (hs : n ≤ 9223372036854775807) : IsPairs w A n (hx l) (hy l) := by
  refine ⟨hs, fun h0 => ?_⟩
  obtain ⟨g, cap', e, hb, hlt, hcap⟩ := h.form hn h0
  simp only [Value.slice.injEq] at e
  obtain ⟨rfl, _, rfl⟩ := e
  exact ⟨g, 0, rfl, hlt, fun i hi => by
    obtain ⟨h1, h2, _⟩ := h.cell hn hi
    rw [Nat.zero_add]
    exact ⟨h1, h2⟩⟩
/-! Rows of three numbers. -/
abbrev Tri := Int × Int × Int
def tx (h : List Tri) (i : Nat) : Int := (h.getD i (0, 0, 0)).1
def ty (h : List Tri) (i : Nat) : Int := (h.getD i (0, 0, 0)).2.1
def tz (h : List Tri) (i : Nat) : Int := (h.getD i (0, 0, 0)).2.2
def cells3 : List Tri → List Value
  | [] => []
  | p :: l => .int .i64 p.1 :: .int .i64 p.2.1 :: .int .i64 p.2.2 :: cells3 l
theorem cells3_append (l k : List Tri) : cells3 (l ++ k) = cells3 l ++ cells3 k := by
  induction l with
  | nil => rfl
  | cons p l ih => simp only [List.cons_append, cells3, ih]
theorem cells3_length (l : List Tri) : (cells3 l).length = l.length * 3 := by
  induction l with
  | nil => rfl
  | cons p l ih => simp only [cells3, List.length_cons, ih]; omega
theorem cells3_get : ∀ (l : List Tri) (i : Nat), i < l.length → (cells3 l)[i * 3]? = some (.int .i64 (tx l i)) ∧ (cells3 l)[i * 3 + 1]? = some (.int .i64 (ty l i)) ∧ (cells3 l)[i * 3 + 2]? = some (.int .i64 (tz l i))
  | [], _, h => by simp at h
  | p :: l, 0, _ => by simp [cells3, tx, ty, tz]
  | p :: l, i + 1, h => by
    have := cells3_get l i (by simpa using h)
    rw [show (i + 1) * 3 + 1 = i * 3 + 1 + 1 + 1 + 1 by omega, show (i + 1) * 3 + 2 = i * 3 + 2 + 1 + 1 + 1 by omega, show (i + 1) * 3 = i * 3 + 1 + 1 + 1 by omega]
    simp only [cells3, List.getElem?_cons_succ]
    rw [this.1, this.2.1, this.2.2]; simp [tx, ty, tz]
theorem cells3_one (l : List Tri) : ∀ u ∈ cells3 l, u.oneCell' = true := by
  induction l with
  | nil => intro u hu; cases hu
  | cons p l ih =>
    intro u hu
    simp only [cells3, List.mem_cons] at hu
    rcases hu with rfl | rfl | rfl | hu
    · rfl
    · rfl
    · rfl
    · exact ih u hu
def OwnT3 (T : TypeId) (w : World) (base : Nat) (v : Value) (l : List Tri) : Prop := w.ownsRow base T 3 v l.length (cells3 l)
section
variable {T : TypeId} {w : World} {base : Nat} {v : Value} {l : List Tri}
theorem OwnT3.nil (T : TypeId) (w : World) (base : Nat) : OwnT3 T w base (.slice none 0 0) [] := World.ownsRow_nil _ _ _ _
theorem OwnT3.alloc (h : OwnT3 T w base v l) (o : Obj) : OwnT3 T (w.alloc o) base v l := World.ownsRow.alloc h o
theorem OwnT3.later (h : OwnT3 T w base v l) (x : Later w) : OwnT3 T x.val base v l := own_later h x
theorem OwnT3.below {V : World} (h : OwnT3 T w base v l) (hb : Below w.heap.size w V) : OwnT3 T V base v l := h.later ⟨V, hb⟩
theorem OwnT3.mono {base' : Nat} (h : OwnT3 T w base v l) (hb : base' ≤ base) : OwnT3 T w base' v l :=
  ⟨h.1, h.2.imp id fun ⟨g, cap, cur, e, hg, r⟩ => ⟨g, cap, cur, e, Nat.le_trans hb hg, r⟩⟩
theorem OwnT3.shape (h : OwnT3 T w base v l) : ∃ A cap, v = .slice A l.length cap := by
  rcases h.2 with ⟨rfl, h0⟩ | ⟨g, cap, cur, rfl, _⟩
  · exact ⟨none, 0, by rw [h0]⟩
  · exact ⟨_, cap, rfl⟩
theorem OwnT3.shape_n {n : Nat} (h : OwnT3 T w base v l) (hn : l.length = n) : ∃ A cap, v = .slice A n cap := hn ▸ h.shape
theorem OwnT3.form {n : Nat} (h : OwnT3 T w base v l) (hn : l.length = n) (h0 : 0 < n) : ∃ g cap, v = .slice (some ⟨g, 0, none⟩) n cap ∧ base ≤ g ∧ g < w.heap.size ∧ n ≤ cap := by
  subst hn
  rcases h.2 with ⟨_, h0'⟩ | ⟨g, cap', cur, e, hb, hh, hn, _⟩
  · omega
  · exact ⟨g, cap', e, hb, (Array.getElem?_eq_some_iff.1 hh).1, hn⟩
end
theorem own_rowT3 {T : TypeId} {w : World} {base n : Nat} {v : Value} {l : List Tri} (h : OwnT3 T w base v l) (hn : l.length = n) : w.ownsRow base T 3 v n (cells3 l) := by
  subst hn; exact h
theorem lit_news3 {w : World} {u v x : Value} {t : TypeId} : ∀ (j : Nat) (y : Value), [u, v, x][j]? = some y → (w.alloc (.cells #[u, v, x] t)).cell? ((⟨w.heap.size, 0, none⟩ : Addr).add j) = some y := by
  intro j y hj
  match j, hj with
  | 0, hj => simp at hj; subst hj; simp [Addr.add]
  | 1, hj => simp at hj; subst hj; simp [Addr.add]
  | 2, hj => simp at hj; subst hj; simp [Addr.add]
theorem three_int {x y z : Int} : ∀ u ∈ [Value.int .i64 x, .int .i64 y, .int .i64 z], u.oneCell' = true := by
  intro u hu
  simp at hu
  rcases hu with rfl | rfl | rfl <;> rfl
structure IsTris (w : World) (A : Option Addr) (n : Nat) (x y z : Nat → Int) : Prop where
  small : n ≤ 9223372036854775807
  at_ : 0 < n → ∃ b off, A = some ⟨b, off, none⟩ ∧ b < w.heap.size ∧ ∀ i, i < n → w.cell? ⟨b, off + i * 3, none⟩ = some (.int .i64 (x i)) ∧ w.cell? ⟨b, off + i * 3 + 1, none⟩ = some (.int .i64 (y i)) ∧ w.cell? ⟨b, off + i * 3 + 2, none⟩ = some (.int .i64 (z i))
theorem IsTris.below {w V : World} {A : Option Addr} {n : Nat} {x y z : Nat → Int} (h : IsTris w A n x y z) (hb : Below w.heap.size w V) : IsTris V A n x y z :=
  ⟨h.small, fun h0 => let ⟨b, off, e, hl, hc⟩ := h.at_ h0; ⟨b, off, e, Nat.lt_of_lt_of_le hl hb.size, fun i hi => ⟨(hb.cell (p := ⟨b, off + i * 3, none⟩) hl).trans (hc i hi).1, (hb.cell (p := ⟨b, off + i * 3 + 1, none⟩) hl).trans (hc i hi).2.1, (hb.cell (p := ⟨b, off + i * 3 + 2, none⟩) hl).trans (hc i hi).2.2⟩⟩⟩
theorem OwnT3.tris {T : TypeId} {w : World} {base : Nat} {A : Option Addr} {n cap : Nat} {l : List Tri} (h : OwnT3 T w base (.slice A n cap) l) (hn : l.length = n) (hs : n ≤ 9223372036854775807) : IsTris w A n (tx l) (ty l) (tz l) := by
  refine ⟨hs, fun h0 => ?_⟩
  obtain ⟨g, cap', e, hb, hlt, hcap⟩ := h.form hn h0
  simp only [Value.slice.injEq] at e
  obtain ⟨rfl, _, rfl⟩ := e
  subst hn
  exact ⟨g, 0, rfl, hlt, fun i hi => by
    have hc := cells3_get l i hi
    have k1 := World.ownsRow.cellAt h (i * 3) (by omega)
    have k2 := World.ownsRow.cellAt h (i * 3 + 1) (by omega)
    have k3 := World.ownsRow.cellAt h (i * 3 + 2) (by omega)
    rw [hc.1] at k1
    rw [hc.2.1] at k2
    rw [hc.2.2] at k3
    rw [Nat.zero_add]
    exact ⟨k1, k2, k3⟩⟩
theorem infoQ : (Try.prog.info? 57).map (fun i => (i.zero, i.size, i.bytes)) = some (some (.agg #[.int .i64 0, .int .i64 0]), 2, 16) := by kernel_rfl
theorem info_pair : ∃ i, Try.prog.info? 57 = some i ∧ i.zero = some (.agg #[.int .i64 0, .int .i64 0]) ∧ i.size = 2 ∧ i.bytes = 16 := by
  have h := infoQ
  cases hi : Try.prog.info? 57 with
  | none => rw [hi] at h; cases h
  | some i =>
    rw [hi] at h
    simp only [Option.map_some, Option.some.injEq, Prod.mk.injEq] at h
    exact ⟨i, rfl, h.1, h.2.1, h.2.2⟩
theorem infoRt : (Try.prog.info? 27).map (fun i => (i.zero, i.size, i.bytes)) = some (some (.agg #[.int .i64 0, .int .i64 0]), 2, 16) := by kernel_rfl
theorem info_ratio : ∃ i, Try.prog.info? 27 = some i ∧ i.zero = some (.agg #[.int .i64 0, .int .i64 0]) ∧ i.size = 2 ∧ i.bytes = 16 := by
  have h := infoRt
  cases hi : Try.prog.info? 27 with
  | none => rw [hi] at h; cases h
  | some i =>
    rw [hi] at h
    simp only [Option.map_some, Option.some.injEq, Prod.mk.injEq] at h
    exact ⟨i, rfl, h.1, h.2.1, h.2.2⟩
theorem infoPt : (Try.prog.info? 23).map (fun i => (i.zero, i.size, i.bytes)) = some (some (.agg #[.int .i64 0, .int .i64 0, .int .i64 0]), 3, 24) := by kernel_rfl
theorem info_pitch : ∃ i, Try.prog.info? 23 = some i ∧ i.zero = some (.agg #[.int .i64 0, .int .i64 0, .int .i64 0]) ∧ i.size = 3 ∧ i.bytes = 24 := by
  have h := infoPt
  cases hi : Try.prog.info? 23 with
  | none => rw [hi] at h; cases h
  | some i =>
    rw [hi] at h
    simp only [Option.map_some, Option.some.injEq, Prod.mk.injEq] at h
    exact ⟨i, rfl, h.1, h.2.1, h.2.2⟩
end Go.Proofs.Ytcjahpbbkdkbpaa
