/- Lists of posts that a call has made: rows of cells of its own. -/
import Derived.Test.YtamhhbkjgfhfoaaDoorValid
import Derived.Laws.OwnMore
import Derived.Maps.AppendAt
import Derived.OneCell
namespace Go.Proofs.YtamhhbkjgfhfoaaDoor
open Go.RowKit

theorem below_put {w w1 : World} {p : Addr} {u : Value} (h : Below w.heap.size w w1) (hp : w.heap.size ≤ p.block) : Below w.heap.size w (w1.setCell p u) := h.setCell hp u
theorem cell_put_far {w : World} {p a : Addr} {v : Value} (h : p.block ≠ a.block) : (w.setCell p v).cell? a = w.cell? a := World.cell?_setCell_other w p a v (fun e => h (by rw [e]))

abbrev Pt := Int × Int
def hx (h : List Pt) (i : Nat) : Int := (h.getD i (0, 0)).1
def hy (h : List Pt) (i : Nat) : Int := (h.getD i (0, 0)).2
/-- The cells of a list of posts. -/
def cells2 : List Pt → List Value
  | [] => []
  | p :: l => .int .i64 p.1 :: .int .i64 p.2 :: cells2 l
theorem cells2_append (l k : List Pt) : cells2 (l ++ k) = cells2 l ++ cells2 k := by
  induction l with
  | nil => rfl
  | cons p l ih => simp only [List.cons_append, cells2, ih]
theorem cells2_length (l : List Pt) : (cells2 l).length = l.length * 2 := by
  induction l with
  | nil => rfl
  | cons p l ih => simp only [cells2, List.length_cons, ih]; omega
theorem cells2_x : ∀ (l : List Pt) (i : Nat), i < l.length → (cells2 l)[i * 2]? = some (.int .i64 (hx l i))
  | [], _, h => by simp at h
  | p :: l, 0, _ => by simp [cells2, hx]
  | p :: l, i + 1, h => by
    have := cells2_x l i (by simpa using h)
    rw [show (i + 1) * 2 = i * 2 + 1 + 1 by omega]
    simp only [cells2, List.getElem?_cons_succ]
    rw [this]; simp [hx]
theorem cells2_y : ∀ (l : List Pt) (i : Nat), i < l.length → (cells2 l)[i * 2 + 1]? = some (.int .i64 (hy l i))
  | [], _, h => by simp at h
  | p :: l, 0, _ => by simp [cells2, hy]
  | p :: l, i + 1, h => by
    have := cells2_y l i (by simpa using h)
    rw [show (i + 1) * 2 + 1 = i * 2 + 1 + 1 + 1 by omega]
    simp only [cells2, List.getElem?_cons_succ]
    rw [this]; simp [hy]
theorem cells2_one (l : List Pt) : ∀ u ∈ cells2 l, u.oneCell' = true := by
  induction l with
  | nil => intro u hu; cases hu
  | cons p l ih =>
    intro u hu
    simp only [cells2, List.mem_cons] at hu
    rcases hu with rfl | rfl | hu
    · rfl
    · rfl
    · exact ih u hu
theorem cells2_set : ∀ (l : List Pt) (i : Nat) (p : Pt), i < l.length → cells2 (l.set i p) = ((cells2 l).set (i * 2) (.int .i64 p.1)).set (i * 2 + 1) (.int .i64 p.2)
  | [], _, _, h => by simp at h
  | q :: l, 0, p, _ => by simp [cells2]
  | q :: l, i + 1, p, h => by
    have := cells2_set l i p (by simpa using h)
    rw [show (i + 1) * 2 + 1 = i * 2 + 1 + 1 + 1 by omega, show (i + 1) * 2 = i * 2 + 1 + 1 by omega]
    simp only [List.set_cons_succ, cells2]
    rw [this]

/-- The posts of parcel p: n of them. -/
def ptsOf (n : Nat) (px py : Nat → Int) : List Pt := (List.range n).map fun i => (px i, py i)
theorem ptsOf_length (n : Nat) (px py : Nat → Int) : (ptsOf n px py).length = n := by simp [ptsOf]
theorem ptsOf_get {n : Nat} {px py : Nat → Int} {i : Nat} (h : i < n) : (ptsOf n px py)[i]? = some (px i, py i) := by simp [ptsOf, h]
theorem hx_pts {n : Nat} {px py : Nat → Int} {i : Nat} (h : i < n) : hx (ptsOf n px py) i = px i := by unfold hx; rw [List.getD_eq_getElem?_getD, ptsOf_get h]; rfl
theorem hy_pts {n : Nat} {px py : Nat → Int} {i : Nat} (h : i < n) : hy (ptsOf n px py) i = py i := by unfold hy; rw [List.getD_eq_getElem?_getD, ptsOf_get h]; rfl

/-- A list of posts of one's own. -/
def OwnP (w : World) (base : Nat) (v : Value) (l : List Pt) : Prop := w.ownsRow base 34 2 v l.length (cells2 l)
theorem OwnP.nil (w : World) (base : Nat) : OwnP w base (.slice none 0 0) [] := World.ownsRow_nil _ _ _ _
theorem OwnP.alloc {w : World} {base : Nat} {v : Value} {l : List Pt} (h : OwnP w base v l) (o : Obj) : OwnP (w.alloc o) base v l := World.ownsRow.alloc h o
theorem OwnP.later {w : World} {base : Nat} {v : Value} {l : List Pt} (h : OwnP w base v l) (x : Later w) : OwnP x.val base v l := own_later h x
theorem OwnP.mono {w : World} {base base' : Nat} {v : Value} {l : List Pt} (h : OwnP w base v l) (hb : base' ≤ base) : OwnP w base' v l :=
  ⟨h.1, h.2.imp id fun ⟨g, cap, cur, e, hg, r⟩ => ⟨g, cap, cur, e, Nat.le_trans hb hg, r⟩⟩
theorem OwnP.shape {w : World} {base : Nat} {v : Value} {l : List Pt} (h : OwnP w base v l) : ∃ A cap, v = .slice A l.length cap := by
  rcases h.2 with ⟨rfl, h0⟩ | ⟨g, cap, cur, rfl, _⟩
  · exact ⟨none, 0, by rw [h0]⟩
  · exact ⟨_, cap, rfl⟩
theorem OwnP.shape_n {w : World} {base n : Nat} {v : Value} {l : List Pt} (h : OwnP w base v l) (hn : l.length = n) : ∃ A cap, v = .slice A n cap := hn ▸ h.shape
theorem OwnP.drew {w : World} {base : Nat} {v : Value} {l : List Pt} (h : OwnP w base v l) : OwnP w.drew base v l := h
theorem OwnP.at_ {w : World} {base : Nat} {A : Option Addr} {n cap : Nat} {l : List Pt} (h : OwnP w base (.slice A n cap) l) (h0 : 0 < l.length) : n = l.length ∧ ∃ g, A = some ⟨g, 0, none⟩ ∧ base ≤ g ∧ g < w.heap.size ∧ l.length ≤ cap := by
  rcases h.2 with ⟨_, h0'⟩ | ⟨g, cap', cur, e, hb, hh, hn, _⟩
  · omega
  · simp only [Value.slice.injEq] at e
    obtain ⟨rfl, rfl, rfl⟩ := e
    exact ⟨rfl, g, rfl, hb, (Array.getElem?_eq_some_iff.1 hh).1, hn⟩
theorem OwnP.posts {w : World} {base : Nat} {A : Option Addr} {n cap : Nat} {l : List Pt} (h : OwnP w base (.slice A n cap) l) (hs : l.length ≤ 4611686018427387904) : n = l.length ∧ IsPosts w A n (hx l) (hy l) := by
  have hn : n = l.length := by
    rcases h.2 with ⟨e, h0⟩ | ⟨g, cap', cur, e, _⟩
    · simp only [Value.slice.injEq] at e; omega
    · simp only [Value.slice.injEq] at e; exact e.2.1
  refine ⟨hn, by omega, fun h0 => ?_⟩
  obtain ⟨_, g, rfl, hb, hlt, hcap⟩ := h.at_ (by omega)
  have hn' := hn
  subst hn
  refine ⟨g, 0, rfl, hlt, fun i hi => ?_, fun i hi => ?_⟩
  · have := World.ownsRow.cellAt h (i * 2) (by omega)
    rw [cells2_x l i hi] at this
    simpa using this
  · have := World.ownsRow.cellAt h (i * 2 + 1) (by omega)
    rw [cells2_y l i hi] at this
    simpa using this

theorem infoXY : (Tryd.prog.info? 34).map (fun i => (i.zero, i.size, i.bytes)) = some (some (.agg #[.int .i64 0, .int .i64 0]), 2, 16) := by kernel_rfl

def PostP (w : World) (l : List Pt) (err : Int) (e : Ending) (w' : World) : Prop := ∃ v, e = .returned (.tuple #[v, .int .i64 err]) ∧ ∃ x : Later w, w' = x.val ∧ OwnP w' w.heap.size v l
/-- A call that returns a list of posts of its own, and an error. -/
def GivesP (f : FuncId) (args : Array Value) (w : World) (l : List Pt) (err : Int) : Prop := Calls Tryd.prog f args w (PostP w l err)
theorem GivesP.at_ {f : FuncId} {args : Array Value} {w : World} (x : Later w) {l : List Pt} {err : Int} (h : GivesP f args x.val l err) : Calls Tryd.prog f args x.val fun e w' => ∃ v, e = .returned (.tuple #[v, .int .i64 err]) ∧ ∃ y : Later w, w' = y.val ∧ OwnP w' x.val.heap.size v l :=
  Calls.mono h fun _ w' ⟨v, he, y, hy, ho⟩ => ⟨v, he, ⟨w', by rw [hy]; exact below_more x.ok y.ok⟩, rfl, ho⟩
theorem GivesP.calls {f : FuncId} {args : Array Value} {w : World} {l : List Pt} {err : Int} (h : GivesP f args w l err) :
    Calls Tryd.prog f args w fun e w' => ∃ v, e = .returned (.tuple #[v, .int .i64 err]) ∧ ∃ x : Later w, w' = x.val ∧ OwnP w' w.heap.size v l := h
def PostL (w : World) (l : List Pt) (e : Ending) (w' : World) : Prop := ∃ v, e = .returned v ∧ ∃ x : Later w, w' = x.val ∧ OwnP w' w.heap.size v l
/-- A call that returns a list of posts of its own. -/
def GivesL (f : FuncId) (args : Array Value) (w : World) (l : List Pt) : Prop := Calls Tryd.prog f args w (PostL w l)
theorem GivesL.at_ {f : FuncId} {args : Array Value} {w : World} (x : Later w) {l : List Pt} (h : GivesL f args x.val l) : Calls Tryd.prog f args x.val fun e w' => ∃ v, e = .returned v ∧ ∃ y : Later w, w' = y.val ∧ OwnP w' x.val.heap.size v l :=
  Calls.mono h fun _ w' ⟨v, he, y, hy, ho⟩ => ⟨v, he, ⟨w', by rw [hy]; exact below_more x.ok y.ok⟩, rfl, ho⟩
theorem GivesL.calls {f : FuncId} {args : Array Value} {w : World} {l : List Pt} (h : GivesL f args w l) : Calls Tryd.prog f args w fun e w' => ∃ v, e = .returned v ∧ ∃ x : Later w, w' = x.val ∧ OwnP w' w.heap.size v l := h

/-- The same posts. -/
def sameL (l k : List Pt) : Bool := decide (l = k)
theorem list_eq_of {l k : List Pt} (hl : l.length = k.length) (h : ∀ i, i < l.length → hx l i = hx k i ∧ hy l i = hy k i) : l = k := by
  apply List.ext_getElem hl
  intro i h1 h2
  obtain ⟨a, b⟩ := h i h1
  unfold hx at a
  unfold hy at b
  rw [List.getD_eq_getElem?_getD, List.getD_eq_getElem?_getD, List.getElem?_eq_getElem h1, List.getElem?_eq_getElem h2] at a
  rw [List.getD_eq_getElem?_getD, List.getD_eq_getElem?_getD, List.getElem?_eq_getElem h1, List.getElem?_eq_getElem h2] at b
  exact Prod.ext a b

set_option maxRecDepth 100000 in
set_option maxHeartbeats 1600000 in
theorem same_any (A B : Option Addr) (n m cap cap' : Nat) (px py qx qy : Nat → Int) (w : World) (hp : IsPosts w A n px py) (hq : IsPosts w B m qx qy) (b : Bool) (hb : b = (decide (n = m) && allB n fun i => px i == qx i && py i == qy i)) :
    Gives Tryd.prog 8 #[.slice A n cap, .slice B m cap'] w (.bool b) := by
  subst hb
  have h1 := hp.small
  have h2 := hq.small
  by_cases hnm : n = m
  · subst hnm
    rw [decide_eq_true (rfl : n = n), Bool.true_and]
    rcases Nat.eq_zero_or_pos n with h0 | h0
    · subst h0
      clear hp hq
      have e : allB 0 (fun i => px i == qx i && py i == qy i) = true := rfl
      rw [e]
      go_enter Tryd.func8, Tryd.ntmps8
      go_wp2
      go_loopw [5] (fun v wr => v = .int .i64 0 ∧ ∃ x : Later w, wr = x.val) (fun _ _ => 0)
      case atStart => exact ⟨rfl, later_of (by repeat (first | exact Below.refl _ _ | (with_reducible assumption) | apply below_later | apply below_alloc | apply below_drew | apply below_drewN))⟩
      case round =>
        obtain ⟨rfl, x, rfl⟩ := hrel
        go_wp2
        go_ret
        exact ⟨rfl, later_of (by repeat (first | exact Below.refl _ _ | (with_reducible assumption) | apply below_later | apply below_alloc | apply below_drew | apply below_drewN))⟩
    · obtain ⟨b1, o1, rfl, p1⟩ := hp.at_ h0
      obtain ⟨b2, o2, rfl, p2⟩ := hq.at_ h0
      have P1 := Lib.hid p1
      have P2 := Lib.hid p2
      have l1 := p1.lt
      have l2 := p2.lt
      clear p1 p2 hp hq
      go_enter Tryd.func8, Tryd.ntmps8
      go_wp2
      go_loopw [5] (fun v wr => ∃ k : Nat, k ≤ n ∧ v = .int .i64 k ∧ (∀ j, j < k → (px j == qx j && py j == qy j) = true) ∧ ∃ x : Later w, wr = x.val) (fun v _ => n - (intOf v).toNat)
      case atStart => exact ⟨0, by omega, rfl, by omega, later_of (by repeat (first | exact Below.refl _ _ | (with_reducible assumption) | apply below_later | apply below_alloc | apply below_drew | apply below_drewN))⟩
      case round =>
        obtain ⟨k, hk, rfl, hj, x, rfl⟩ := hrel
        have Hj := Lib.hid hj
        clear hj
        by_cases hlt : k < n
        · have c1 := P1.out.x k hlt
          have c2 := P1.out.y k hlt
          have c3 := P2.out.x k hlt
          have c4 := P2.out.y k hlt
          by_cases g1 : px k = qx k
          · by_cases g2 : py k = qy k
            · have G1 := Lib.hid g1
              have G2 := Lib.hid g2
              go_wp2_with fail
              first | (with_reducible show Code.wp _ _ _ _ (Later.val _); refine wp_region_later_at _ (by kernel_rfl) (by kernel_rfl) ?_) | refine wp_region_later (by kernel_rfl) (by kernel_rfl) ?_
              repeat (go_big_quiet_step ((fail)))
              refine wpQuiet_nil ?_
              intro z
              go_wp2
              go_roundw
              case rel => exact ⟨k + 1, by omega, by go_num, all_step Hj.out (by simp [G1.out, G2.out]), later_of (by repeat (first | exact Below.refl _ _ | (with_reducible assumption) | apply below_later | apply below_alloc | apply below_drew | apply below_drewN))⟩
              case measure => simp [intOf]; omega
            · have G2 := Lib.hid g2
              have n2 : (py k == qy k) = false := by simpa using g2
              go_wp2_with fail
              first | (with_reducible show Code.wp _ _ _ _ (Later.val _); refine wp_region_later_at _ (by kernel_rfl) (by kernel_rfl) ?_) | refine wp_region_later (by kernel_rfl) (by kernel_rfl) ?_
              repeat (go_big_quiet_step ((fail)))
              refine wpQuiet_nil ?_
              intro z
              go_wp2
              go_ret
              exact ⟨ret_bool (by symm; exact allB_false hlt (by simp [G2.out])), later_of (by repeat (first | exact Below.refl _ _ | (with_reducible assumption) | apply below_later | apply below_alloc | apply below_drew | apply below_drewN))⟩
          · have G1 := Lib.hid g1
            have n1 : (px k == qx k) = false := by simpa using g1
            go_wp2_with fail
            first | (with_reducible show Code.wp _ _ _ _ (Later.val _); refine wp_region_later_at _ (by kernel_rfl) (by kernel_rfl) ?_) | refine wp_region_later (by kernel_rfl) (by kernel_rfl) ?_
            repeat (go_big_quiet_step ((fail)))
            refine wpQuiet_nil ?_
            intro z
            go_wp2
            go_ret
            exact ⟨ret_bool (by symm; exact allB_false hlt (by simp [G1.out])), later_of (by repeat (first | exact Below.refl _ _ | (with_reducible assumption) | apply below_later | apply below_alloc | apply below_drew | apply below_drewN))⟩
        · go_wp2
          go_ret
          exact ⟨ret_bool (by symm; exact allB_true fun i hi => Hj.out i (by omega)), later_of (by repeat (first | exact Below.refl _ _ | (with_reducible assumption) | apply below_later | apply below_alloc | apply below_drew | apply below_drewN))⟩
  · have hne : ((n : Int) != (m : Int)) = true := by simp; omega
    have e : (decide (n = m) && allB n fun i => px i == qx i && py i == qy i) = false := by simp [hnm]
    rw [e]
    have Hnm := Lib.hid hnm
    clear hnm hp hq e
    go_enter Tryd.func8, Tryd.ntmps8
    go_wp2
    go_ret
    exact ⟨rfl, later_of (by repeat (first | exact Below.refl _ _ | (with_reducible assumption) | apply below_later | apply below_alloc | apply below_drew | apply below_drewN))⟩

/-- Same, of two lists that were made. -/
theorem same_lists (v v' : Value) (l k : List Pt) (w : World) (base base' : Nat) (h1 : OwnP w base v l) (h2 : OwnP w base' v' k) (g1 : l.length ≤ 1000) (g2 : k.length ≤ 1000) : Gives Tryd.prog 8 #[v, v'] w (.bool (sameL l k)) := by
  obtain ⟨A, cap, rfl⟩ := h1.shape
  obtain ⟨B, cap', rfl⟩ := h2.shape
  refine same_any A B _ _ cap cap' (hx l) (hy l) (hx k) (hy k) w (h1.posts (by omega)).2 (h2.posts (by omega)).2 _ ?_
  unfold sameL
  rw [Bool.eq_iff_iff]
  simp only [decide_eq_true_eq, Bool.and_eq_true]
  constructor
  · rintro rfl
    exact ⟨rfl, allB_true fun i _ => by simp⟩
  · rintro ⟨e1, e2⟩
    refine list_eq_of e1 fun i hi => ?_
    have := allB_iff.1 e2 i hi
    simpa using this
end Go.Proofs.YtamhhbkjgfhfoaaDoor
