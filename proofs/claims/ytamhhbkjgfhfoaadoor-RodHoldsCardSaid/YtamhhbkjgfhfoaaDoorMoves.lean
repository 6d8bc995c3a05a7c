/- rod.Move and the document's: a parcel that is moved. -/
import Derived.Test.YtamhhbkjgfhfoaaDoorOwn
import Derived.Test.YtamhhbkjgfhfoaaDoorRefValid
import Derived.RegionTactic
import Derived.BigRegion
namespace Go.Proofs.YtamhhbkjgfhfoaaDoor
open Go.RowKit

theorem posts_news {w : World} {b off n : Nat} {px py : Nat → Int} (h : Posts w b off n px py) : ∀ j u, (cells2 (ptsOf n px py))[j]? = some u → w.cell? ((⟨b, off, none⟩ : Addr).add j) = some u := by
  intro j u hu
  have hl : j < n * 2 := by
    have := (List.getElem?_eq_some_iff.1 hu).1
    rwa [cells2_length, ptsOf_length] at this
  have hj : j = (j / 2) * 2 ∨ j = (j / 2) * 2 + 1 := by omega
  have hi : j / 2 < n := by omega
  generalize j / 2 = i at *
  rcases hj with rfl | rfl
  · rw [cells2_x _ _ (by rw [ptsOf_length]; exact hi), hx_pts hi] at hu
    obtain rfl := Option.some.inj hu
    have := h.x i hi
    rcases Nat.eq_zero_or_pos i with rfl | h0
    · simpa [Addr.add] using this
    · have : i * 2 ≠ 0 := by omega
      simpa [Addr.add, this] using h.x i hi
  · rw [cells2_y _ _ (by rw [ptsOf_length]; exact hi), hy_pts hi] at hu
    obtain rfl := Option.some.inj hu
    have := h.y i hi
    simpa [Addr.add, Nat.add_assoc] using this

theorem valid_bounds' {n : Nat} {px py : Nat → Int} (h : validB n px py = true) : 3 ≤ n ∧ n ≤ 40 := by
  simp only [validB, Bool.and_eq_true, decide_eq_true_eq] at h
  exact ⟨h.1.1.1, h.1.1.2⟩

set_option maxRecDepth 100000 in
set_option maxHeartbeats 800000 in
theorem clone_any (b off n cap : Nat) (px py : Nat → Int) (w : World) (h0 : 0 < n) (hn : n ≤ 1000) (hp : Posts w b off n px py) :
    GivesL 16 #[.slice (some ⟨b, off, none⟩) n cap] w (ptsOf n px py) := by
  have hl := hp.lt
  have Hp := Lib.hid hp
  clear hp
  have hnil := Lib.run_eql_slice_nil (P := Tryd.prog) w 22 34 (some ⟨b, off, none⟩) n cap 0 0 Tryd.underlying22
  go_enter Tryd.func16, Tryd.ntmps16
  obtain ⟨i0, hi, hz0, hz1, hz2⟩ := info_parts infoXY
  have hown : OwnP (w.alloc (.cells #[] 34)) w.heap.size (.slice (some ⟨w.heap.size, 0, none⟩) 0 0) [] := World.ownsRow_made w #[] 0 (Nat.le_refl _) (by unfold maxLen; omega) rfl
  have hnews := posts_news (Hp.out.later ⟨w.alloc (.cells #[] 34), by repeat (first | exact Below.refl _ _ | (with_reducible assumption) | apply below_later | apply below_alloc | apply below_drew | apply below_drewN)⟩)
  have HN := Lib.hid hnews
  clear hnews
  go_wp2_with (at_builtin; refine wpList_append_own _ rfl _ _ 22 rfl w.heap.size 34 i0 (.agg #[.int .i64 0, .int .i64 0]) 2 16 Tryd.underlying22 hi hz0 hz1 hz2 rfl (by decide) _ _ _ rfl hown ⟨b, off, none⟩ n cap (cells2 (ptsOf n px py)) rfl ?c1 HN.out (cells2_one _) ?c3 ?c4 ?c5 ?_)
  case c1 => rw [cells2_length, ptsOf_length]
  case c3 => simp only [maxLen]; omega
  case c4 => omega
  intro v' w1 hown2 hg1 _
  go_wp2
  go_ret
  refine ⟨v', rfl, ⟨w1, below_own (by repeat (first | exact Below.refl _ _ | (with_reducible assumption) | apply below_later | apply below_alloc | apply below_drew | apply below_drewN)) hown (Nat.le_refl _) hg1⟩, rfl, ?_⟩
  unfold OwnP
  rw [ptsOf_length]
  exact hown2


def betB (n a b : Int) : Bool := decide (a ≤ n) && decide (n ≤ b)
theorem between_any (n a b : Int) (w : World) : Gives Tryd.prog 45 #[.int .i64 n, .int .i64 a, .int .i64 b] w (.bool (betB n a b)) := by
  by_cases h1 : a ≤ n <;> by_cases h2 : n ≤ b
  all_goals
    have e : betB n a b = (decide (a ≤ n) && decide (n ≤ b)) := rfl
    rw [e]
    clear e
    go_enter Tryd.func45, Tryd.ntmps45
    go_wp2
    go_ret
    exact ⟨ret_bool (by simp [h1, h2]), later_of (by repeat (first | exact Below.refl _ _ | (with_reducible assumption) | apply below_later | apply below_alloc | apply below_drew | apply below_drewN))⟩

def moveI (p : Nat → Int) (d : Int) (i : Nat) : Int := p i + d
def farB (d : Int) : Bool := betB d (-2000) 2000
/-- Part of the way: the first k corners are moved. -/
def partMoved (n k : Nat) (px py : Nat → Int) (dx dy : Int) : List Pt := ptsOf n (fun i => if i < k then px i + dx else px i) (fun i => if i < k then py i + dy else py i)
theorem pts_congr {n : Nat} {px py qx qy : Nat → Int} (h : ∀ i, i < n → px i = qx i ∧ py i = qy i) : ptsOf n px py = ptsOf n qx qy := by
  unfold ptsOf
  apply List.map_congr_left
  intro i hi
  obtain ⟨a, b⟩ := h i (List.mem_range.1 hi)
  rw [a, b]
theorem part_zero (n : Nat) (px py : Nat → Int) (dx dy : Int) : partMoved n 0 px py dx dy = ptsOf n px py := pts_congr fun i _ => by simp
theorem part_all (n : Nat) (px py : Nat → Int) (dx dy : Int) : partMoved n n px py dx dy = ptsOf n (moveI px dx) (moveI py dy) := pts_congr fun i hi => by simp [hi, moveI]
theorem part_step {n k : Nat} (hk : k < n) (px py : Nat → Int) (dx dy : Int) : partMoved n (k + 1) px py dx dy = (partMoved n k px py dx dy).set k (px k + dx, py k + dy) := by
  apply List.ext_getElem?
  intro i
  unfold partMoved
  rw [List.getElem?_set]
  rcases Nat.lt_or_ge i n with h | h
  · rw [ptsOf_get h]
    by_cases e : k = i
    · subst e
      rw [if_pos rfl, if_pos (show k < (ptsOf n (fun i => if i < k then px i + dx else px i) fun i => if i < k then py i + dy else py i).length by rw [ptsOf_length]; exact hk)]
      simp
    · rw [if_neg e, ptsOf_get h]
      have : (i < k + 1) = (i < k) := by rw [eq_iff_iff]; omega
      simp only [this]
  · rw [List.getElem?_eq_none (by rw [ptsOf_length]; exact h)]
    rw [if_neg (by omega), List.getElem?_eq_none (by rw [ptsOf_length]; exact h)]

theorem OwnP.form {w : World} {base n : Nat} {v : Value} {l : List Pt} (h : OwnP w base v l) (hn : l.length = n) (h0 : 0 < n) : ∃ g cap, v = .slice (some ⟨g, 0, none⟩) n cap ∧ base ≤ g ∧ g < w.heap.size ∧ n ≤ cap := by
  subst hn
  obtain ⟨A, cap, rfl⟩ := h.shape
  obtain ⟨_, g, rfl, h1, h2, h3⟩ := h.at_ h0
  exact ⟨g, cap, rfl, h1, h2, h3⟩
/-- What a list of one's own holds at one place. -/
theorem OwnP.cell {w : World} {base g n cap : Nat} {l : List Pt} (h : OwnP w base (.slice (some ⟨g, 0, none⟩) n cap) l) (hn : l.length = n) {i : Nat} (hi : i < n) :
    w.cell? ⟨g, i * 2, none⟩ = some (.int .i64 (hx l i)) ∧ w.cell? ⟨g, i * 2 + 1, none⟩ = some (.int .i64 (hy l i)) ∧ (∀ j, w.frozen? ⟨g, j, none⟩ = false) := by
  subst hn
  refine ⟨?_, ?_, fun j => World.ownsRow.frozenAt h j⟩
  · rw [World.ownsRow.cellAt h (i * 2) (by omega), cells2_x l i hi]
  · rw [World.ownsRow.cellAt h (i * 2 + 1) (by omega), cells2_y l i hi]
/-- A post is written. -/
theorem OwnP.set {w : World} {base g n cap : Nat} {l : List Pt} (h : OwnP w base (.slice (some ⟨g, 0, none⟩) n cap) l) (hn : l.length = n) {i : Nat} (hi : i < n) (x y : Int) :
    OwnP ((w.setCell ⟨g, i * 2, none⟩ (.int .i64 x)).setCell ⟨g, i * 2 + 1, none⟩ (.int .i64 y)) base (.slice (some ⟨g, 0, none⟩) n cap) (l.set i (x, y)) := by
  subst hn
  have h1 := (World.ownsRow.stored h (i * 2) (.int .i64 x)).1
  have h2 := (World.ownsRow.stored h1 (i * 2 + 1) (.int .i64 y)).1
  unfold OwnP
  rw [List.length_set, cells2_set l i (x, y) hi]
  exact h2

theorem betB_iff {n a b : Int} : betB n a b = true ↔ a ≤ n ∧ n ≤ b := by simp [betB]

theorem pts_snoc (k : Nat) (px py : Nat → Int) : ptsOf (k + 1) px py = ptsOf k px py ++ [(px k, py k)] := by
  unfold ptsOf
  rw [List.range_succ, List.map_append]; rfl
theorem OwnP.push {w : World} {base : Nat} {v : Value} {l : List Pt} {x y : Int} (h : w.ownsRow base 34 2 v (l.length + 1) (cells2 l ++ [.int .i64 x, .int .i64 y])) : OwnP w base v (l ++ [(x, y)]) := by
  unfold OwnP
  rw [List.length_append, cells2_append]
  exact h
theorem cells2_pair (x y : Int) : cells2 [(x, y)] = [.int .i64 x, .int .i64 y] := rfl
theorem cell_two_new (w : World) (x y : Value) (t : TypeId) : ∀ j u, [x, y][j]? = some u → (w.alloc (.cells #[x, y] t)).cell? ((⟨w.heap.size, 0, none⟩ : Addr).add j) = some u := by
  intro j u hj
  match j, hj with
  | 0, hj => simp at hj; subst hj; simp [Addr.add]
  | 1, hj => simp at hj; subst hj; simp [Addr.add]

end Go.Proofs.YtamhhbkjgfhfoaaDoor
