/- Lists of pairs of one's own. -/
import Derived.Test.YtjmjafpjfhgfdaaDEnvy
namespace Go.Proofs.Ytjmjafpjfhgfdaa
open Go.RowKit

abbrev Pt := Int × Int
def hx (h : List Pt) (i : Nat) : Int := (h.getD i (0, 0)).1
def hy (h : List Pt) (i : Nat) : Int := (h.getD i (0, 0)).2
/-- The cells of a list of pairs. -/
def cells2 : List Pt → List Value
  | [] => []
  | p :: l => .int .i64 p.1 :: .int .i64 p.2 :: cells2 l
theorem cells2_append (l k : List Pt) : cells2 (l ++ k) = cells2 l ++ cells2 k := by
  induction l with
  | nil => rfl
  | cons p l ih => simp only [List.cons_append, cells2, ih]
theorem cells2_length (l : List Pt) : (cells2 l).length = l.length * 2 := by
  induction l with
  | nil => rfl
  | cons p l ih => simp only [cells2, List.length_cons, ih]; omega
theorem cells2_x : ∀ (l : List Pt) (i : Nat), i < l.length → (cells2 l)[i * 2]? = some (.int .i64 (hx l i))
  | [], _, h => by simp at h
  | p :: l, 0, _ => by simp [cells2, hx]
  | p :: l, i + 1, h => by
    have := cells2_x l i (by simpa using h)
    rw [show (i + 1) * 2 = i * 2 + 1 + 1 by omega]
    simp only [cells2, List.getElem?_cons_succ]
    rw [this]; simp [hx]
theorem cells2_y : ∀ (l : List Pt) (i : Nat), i < l.length → (cells2 l)[i * 2 + 1]? = some (.int .i64 (hy l i))
  | [], _, h => by simp at h
  | p :: l, 0, _ => by simp [cells2, hy]
  | p :: l, i + 1, h => by
    have := cells2_y l i (by simpa using h)
    rw [show (i + 1) * 2 + 1 = i * 2 + 1 + 1 + 1 by omega]
    simp only [cells2, List.getElem?_cons_succ]
    rw [this]; simp [hy]
theorem cells2_one (l : List Pt) : ∀ u ∈ cells2 l, u.oneCell' = true := by
  induction l with
  | nil => intro u hu; cases hu
  | cons p l ih =>
    intro u hu
    simp only [cells2, List.mem_cons] at hu
    rcases hu with rfl | rfl | hu
    · rfl
    · rfl
    · exact ih u hu
theorem cells2_set : ∀ (l : List Pt) (i : Nat) (p : Pt), i < l.length → cells2 (l.set i p) = ((cells2 l).set (i * 2) (.int .i64 p.1)).set (i * 2 + 1) (.int .i64 p.2)
  | [], _, _, h => by simp at h
  | q :: l, 0, p, _ => by simp [cells2]
  | q :: l, i + 1, p, h => by
    have := cells2_set l i p (by simpa using h)
    rw [show (i + 1) * 2 + 1 = i * 2 + 1 + 1 + 1 by omega, show (i + 1) * 2 = i * 2 + 1 + 1 by omega]
    simp only [List.set_cons_succ, cells2]
    rw [this]

/-- A list of outlets of one's own. -/
def OwnQ (w : World) (base : Nat) (v : Value) (l : List Pt) : Prop := w.ownsRow base 44 2 v l.length (cells2 l)
section
variable {w : World} {base : Nat} {v : Value} {l : List Pt}
theorem OwnQ.nil (w : World) (base : Nat) : OwnQ w base (.slice none 0 0) [] := World.ownsRow_nil _ _ _ _
theorem OwnQ.alloc (h : OwnQ w base v l) (o : Obj) : OwnQ (w.alloc o) base v l := World.ownsRow.alloc h o
theorem OwnQ.later (h : OwnQ w base v l) (x : Later w) : OwnQ x.val base v l := own_later h x
theorem OwnQ.mono {base' : Nat} (h : OwnQ w base v l) (hb : base' ≤ base) : OwnQ w base' v l :=
  ⟨h.1, h.2.imp id fun ⟨g, cap, cur, e, hg, r⟩ => ⟨g, cap, cur, e, Nat.le_trans hb hg, r⟩⟩
theorem OwnQ.shape (h : OwnQ w base v l) : ∃ A cap, v = .slice A l.length cap := by
  rcases h.2 with ⟨rfl, h0⟩ | ⟨g, cap, cur, rfl, _⟩
  · exact ⟨none, 0, by rw [h0]⟩
  · exact ⟨_, cap, rfl⟩
theorem OwnQ.shape_n {n : Nat} (h : OwnQ w base v l) (hn : l.length = n) : ∃ A cap, v = .slice A n cap := hn ▸ h.shape
theorem OwnQ.form {n : Nat} (h : OwnQ w base v l) (hn : l.length = n) (h0 : 0 < n) : ∃ g cap, v = .slice (some ⟨g, 0, none⟩) n cap ∧ base ≤ g ∧ g < w.heap.size ∧ n ≤ cap := by
  subst hn
  rcases h.2 with ⟨_, h0'⟩ | ⟨g, cap', cur, e, hb, hh, hn, _⟩
  · omega
  · exact ⟨g, cap', e, hb, (Array.getElem?_eq_some_iff.1 hh).1, hn⟩
theorem OwnQ.cell {g n cap : Nat} (h : OwnQ w base (.slice (some ⟨g, 0, none⟩) n cap) l) (hn : l.length = n) {i : Nat} (hi : i < n) :
    w.cell? ⟨g, i * 2, none⟩ = some (.int .i64 (hx l i)) ∧ w.cell? ⟨g, i * 2 + 1, none⟩ = some (.int .i64 (hy l i)) ∧ (∀ j, w.frozen? ⟨g, j, none⟩ = false) := by
  subst hn
  refine ⟨?_, ?_, fun j => World.ownsRow.frozenAt h j⟩
  · rw [World.ownsRow.cellAt h (i * 2) (by omega), cells2_x l i hi]
  · rw [World.ownsRow.cellAt h (i * 2 + 1) (by omega), cells2_y l i hi]
theorem OwnQ.set {g n cap : Nat} (h : OwnQ w base (.slice (some ⟨g, 0, none⟩) n cap) l) (hn : l.length = n) {i : Nat} (hi : i < n) (x y : Int) :
    OwnQ ((w.setCell ⟨g, i * 2, none⟩ (.int .i64 x)).setCell ⟨g, i * 2 + 1, none⟩ (.int .i64 y)) base (.slice (some ⟨g, 0, none⟩) n cap) (l.set i (x, y)) := by
  subst hn
  have h1 := (World.ownsRow.stored h (i * 2) (.int .i64 x)).1
  have h2 := (World.ownsRow.stored h1 (i * 2 + 1) (.int .i64 y)).1
  unfold OwnQ
  rw [List.length_set, cells2_set l i (x, y) hi]
  exact h2
theorem OwnQ.far {p : Addr} {u : Value} (h : OwnQ w base v l) (hp : ∀ g, v.ownBlock = some g → p.block ≠ g) : OwnQ (w.setCell p u) base v l := by
  refine World.ownsRow.kept h (row := some p.block) ?_ ?_
  · exact ⟨rfl, rfl, rfl, (KeepsWalks.setCell w p u).size, fun b _ hne => Below.heap_setCell w p u b (fun e => hne (by rw [e]))⟩
  · rcases hv : v.ownBlock with _ | g
    · exact .inl rfl
    · exact .inr fun e => hp g hv (Option.some.inj e).symm
theorem OwnQ.moved {V' : World} (h : OwnQ w base v l) (hk : ∀ g, v.ownBlock = some g → V'.heap[g]? = w.heap[g]?) : OwnQ V' base v l := by
  refine ⟨h.1, ?_⟩
  rcases h.2 with h2 | ⟨g, cap, cur, rfl, hb, hh, r⟩
  · exact .inl h2
  · exact .inr ⟨g, cap, cur, rfl, hb, (hk g rfl).trans hh, r⟩
/-- The last ones given back. -/
theorem OwnQ.pop {g n cap : Nat} (h : OwnQ w base (.slice (some ⟨g, 0, none⟩) n cap) l) (hn : l.length = n) {m : Nat} (hm : m ≤ n) : OwnQ w base (.slice (some ⟨g, 0, none⟩) m cap) (l.take m) := by
  subst hn
  have hl : (l.take m).length = m := by simp; omega
  have hc : cells2 (l.take m) = (cells2 l).take (m * 2) := by
    have e : cells2 l = cells2 (l.take m) ++ cells2 (l.drop m) := by rw [← cells2_append, List.take_append_drop]
    conv => rhs; rw [e]
    rw [List.take_append_of_le_length (by rw [cells2_length, hl]; omega)]
    exact (List.take_of_length_le (by rw [cells2_length, hl]; omega)).symm
  unfold OwnQ World.ownsRow at *
  rw [hl]
  refine ⟨by rw [cells2_length, hl], ?_⟩
  rcases h.2 with ⟨e, _⟩ | ⟨g', cap', cur, e, h1, h2, h3, h4, h5, h6⟩
  · cases e
  · simp only [Value.slice.injEq, Option.some.injEq, Addr.mk.injEq] at e
    obtain ⟨⟨rfl, _, _⟩, _, rfl⟩ := e
    refine .inr ⟨g, cap, cur, rfl, h1, h2, by omega, h4, h5, ?_⟩
    rw [hc, ← h6, List.take_take]
    congr 1
    omega
end
theorem infoQ : (Try.prog.info? 44).map (fun i => (i.zero, i.size, i.bytes)) = some (some (.agg #[.int .i64 0, .int .i64 0]), 2, 16) := by kernel_rfl
theorem info_pair : ∃ i, Try.prog.info? 44 = some i ∧ i.zero = some (.agg #[.int .i64 0, .int .i64 0]) ∧ i.size = 2 ∧ i.bytes = 16 := by
  have h := infoQ
  cases hi : Try.prog.info? 44 with
  | none => rw [hi] at h; cases h
  | some i =>
    rw [hi] at h
    simp only [Option.map_some, Option.some.injEq, Prod.mk.injEq] at h
    exact ⟨i, rfl, h.1, h.2.1, h.2.2⟩
theorem own_rowQ {w : World} {base n : Nat} {v : Value} {l : List Pt} (h : OwnQ w base v l) (hn : l.length = n) : w.ownsRow base 44 2 v n (cells2 l) := by
  subst hn; exact h
theorem lit_news2 {w : World} {u v : Value} {t : TypeId} : ∀ (j : Nat) (x : Value), [u, v][j]? = some x → (w.alloc (.cells #[u, v] t)).cell? ((⟨w.heap.size, 0, none⟩ : Addr).add j) = some x := by
  intro j x hj
  match j, hj with
  | 0, hj => simp at hj; subst hj; simp [Addr.add]
  | 1, hj => simp at hj; subst hj; simp [Addr.add]
theorem two_int {x y : Int} : ∀ u ∈ [Value.int .i64 x, .int .i64 y], u.oneCell' = true := by
  intro u hu
  simp at hu
  rcases hu with rfl | rfl <;> rfl
/-- All pairs with a property, in ascending order. -/
def prsR (E : Nat → Nat → Bool) (i : Nat) : Nat → List Pt
  | 0 => []
  | j + 1 => if E i j = true then prsR E i j ++ [((i : Int), (j : Int))] else prsR E i j
def prsT (E : Nat → Nat → Bool) (k : Nat) : Nat → List Pt
  | 0 => []
  | i + 1 => prsT E k i ++ prsR E i k
theorem prsR_succ (E : Nat → Nat → Bool) (i j : Nat) : prsR E i (j + 1) = if E i j = true then prsR E i j ++ [((i : Int), (j : Int))] else prsR E i j := rfl
theorem prsT_succ (E : Nat → Nat → Bool) (k i : Nat) : prsT E k (i + 1) = prsT E k i ++ prsR E i k := rfl
theorem prsR_le (E : Nat → Nat → Bool) (i : Nat) : ∀ j, (prsR E i j).length ≤ j := by
  intro j
  induction j with
  | zero => simp [prsR]
  | succ j ih =>
    rw [prsR_succ]
    split
    · simp; omega
    · omega
theorem prsT_le (E : Nat → Nat → Bool) (k : Nat) : ∀ i, (prsT E k i).length ≤ k * i := by
  intro i
  induction i with
  | zero => simp [prsT]
  | succ i ih =>
    have := prsR_le E i k
    rw [prsT_succ, List.length_append, Nat.mul_succ]
    omega
theorem prs_le {E : Nat → Nat → Bool} {k i j : Nat} (hk : k ≤ 6) (hi : i ≤ k) (hj : j ≤ k) : (prsT E k i ++ prsR E i j).length ≤ 42 := by
  have h1 := prsT_le E k i
  have h2 := prsR_le E i j
  have h3 : k * i ≤ 6 * 6 := Nat.mul_le_mul hk (by omega)
  rw [List.length_append]
  omega
/-- A call that returns a list of pairs of its own, and an error. -/
def PostQE (w : World) (l : List Pt) (E : Int) (e : Ending) (w' : World) : Prop := ∃ v, e = .returned (.tuple #[v, .int .i64 E]) ∧ ∃ x : Later w, w' = x.val ∧ OwnQ w' w.heap.size v l
def PostQ (w : World) (l : List Pt) (e : Ending) (w' : World) : Prop := ∃ v, e = .returned v ∧ ∃ x : Later w, w' = x.val ∧ OwnQ w' w.heap.size v l
set_option maxRecDepth 100000 in
theorem Envies_bad (k cap m cS : Nat) (A S : Option Addr) (R : Nat → Row) (c : Nat → Int) (w : World) (hp : IsTab w A k R) (hc : IsInts w S m c) (h : errE k R m c ≠ 0) :
    Gives Try.prog 26 #[.slice A k cap, .slice S m cS] w (.tuple #[.slice none 0 0, .int .i64 (errE k R m c)]) := by
  have CH := Lib.hid fun (V : World) (hb : Below w.heap.size w V) => check_any k cap m cS A S R c V (hp.below hb) (hc.below hb)
  generalize errE k R m c = E at *
  have e1 : (E != 0) = true := by simpa using h
  clear hp hc h
  go_enter Try.func26, Try.ntmps26
  go_wp2_with (go_at_call 51; with_reducible refine Calls.mono (Gives.calls (CH.out _ (by repeat (first | exact Below.refl _ _ | (with_reducible assumption) | apply below_later | apply below_alloc | apply below_drew | apply below_drewN)))) ?_; rintro e w1 ⟨rfl, z, rfl⟩)
  go_ret2
  exact ⟨rfl, later_of (by repeat (first | exact Below.refl _ _ | (with_reducible assumption) | apply below_later | apply below_alloc | apply below_drew | apply below_drewN))⟩
set_option maxRecDepth 100000 in
theorem Fair_bad (k cap m cS : Nat) (A S : Option Addr) (R : Nat → Row) (c : Nat → Int) (w : World) (hp : IsTab w A k R) (hc : IsInts w S m c) (h : errE k R m c ≠ 0) :
    Gives Try.prog 27 #[.slice A k cap, .slice S m cS] w (.tuple #[.bool false, .int .i64 (errE k R m c)]) := by
  have CH := Lib.hid fun (V : World) (hb : Below w.heap.size w V) => check_any k cap m cS A S R c V (hp.below hb) (hc.below hb)
  generalize errE k R m c = E at *
  have e1 : (E != 0) = true := by simpa using h
  clear hp hc h
  go_enter Try.func27, Try.ntmps27
  go_wp2_with (go_at_call 51; with_reducible refine Calls.mono (Gives.calls (CH.out _ (by repeat (first | exact Below.refl _ _ | (with_reducible assumption) | apply below_later | apply below_alloc | apply below_drew | apply below_drewN)))) ?_; rintro e w1 ⟨rfl, z, rfl⟩)
  go_ret2
  exact ⟨rfl, later_of (by repeat (first | exact Below.refl _ _ | (with_reducible assumption) | apply below_later | apply below_alloc | apply below_drew | apply below_drewN))⟩
set_option maxRecDepth 100000 in
set_option maxHeartbeats 3200000 in
theorem Envies_ok (k cap m cS : Nat) (A S : Option Addr) (R : Nat → Row) (c : Nat → Int) (w : World) (hp : IsTab w A k R) (hc : IsInts w S m c) (h : errE k R m c = 0) :
    Calls Try.prog 26 #[.slice A k cap, .slice S m cS] w (PostQE w (prsT (envT R c m) k k) 0) := by
  obtain ⟨W, hm, _⟩ := errE_ok h
  have hk6 := W.k6
  have CH : Hid (∀ (V : World), Below w.heap.size w V → Gives Try.prog 51 #[.slice A k cap, .slice S m cS] V (.int .i64 0)) := fun V hb => h ▸ check_any k cap m cS A S R c V (hp.below hb) (hc.below hb)
  have EV := Lib.hid fun (i j : Nat) (V : World) (hi : i < k) (hb : Below w.heap.size w V) => envies_any k cap (R 0).n m cS i j A S R c V hi (by omega) W (hp.below hb) (hc.below hb)
  generalize envT R c m = E at *
  have PT := Lib.hid (prsT_succ E k)
  have PR := Lib.hid (prsR_succ E)
  have P0 : Hid (prsT E k 0 = [] ∧ ∀ i, prsR E i 0 = []) := ⟨rfl, fun _ => rfl⟩
  have PL := Lib.hid fun i j (hi : i ≤ k) (hj : j ≤ k) => prs_le (E := E) (k := k) hk6 hi hj
  generalize prsT E k = PTT at *
  generalize prsR E = PRR at *
  obtain ⟨i0, hi0, hz0, hz1, hz2⟩ := info_pair
  clear hp hc h W hm
  go_enter Try.func26, Try.ntmps26
  go_wp2_with (go_at_call 51; with_reducible refine Calls.mono (Gives.calls (CH.out _ (by repeat (first | exact Below.refl _ _ | (with_reducible assumption) | apply below_later | apply below_alloc | apply below_drew | apply below_drewN)))) ?_; rintro e w1 ⟨rfl, z, rfl⟩)
  have hbz : Below w.heap.size w (z.val.alloc (.cells #[.slice A k cap, .slice S m cS] 62)) := z.ok.alloc z.ok.size _
  obtain ⟨c0, c1, l0⟩ := box2 z.val (.slice A k cap) (.slice S m cS) 62
  have HB := Lib.hid hbz
  obtain ⟨b8, hb8⟩ : ∃ b8, z.val.heap.size = b8 := ⟨_, rfl⟩
  rw [hb8] at c0 c1 l0 ⊢
  clear hb8 hbz
  generalize z.val.alloc (.cells #[.slice A k cap, .slice S m cS] 62) = Z at *
  go_loopw [8, 22] (fun u v wr => ∃ i : Nat, v = .int .i64 (i : Nat) ∧ i ≤ k ∧ Below Z.heap.size Z wr ∧ OwnQ wr Z.heap.size u (PTT i)) (fun _ v _ => k - (intOf v).toNat)
  case atStart => exact ⟨0, rfl, by omega, Below.refl _ _, by rw [P0.out.1]; exact OwnQ.nil _ _⟩
  case round =>
    obtain ⟨i, rfl, hi, hbl, ho⟩ := hrel
    have HBL := Lib.hid hbl
    have HO := Lib.hid ho
    clear hbl ho
    by_cases hlt : i < k
    · have hg : decide ((i : Int) < (k : Int)) = true := by simp; omega
      have EVi := Lib.hid fun j V h => EV.out i j V hlt h
      have PRi := Lib.hid fun j => PR.out i j
      have P0i : Hid (PRR i 0 = []) := P0.out.2 i
      have PTi := Lib.hid (PT.out i)
      have PLi := Lib.hid fun j hj => PL.out i j hi hj
      generalize PRR i = PRi2 at *
      go_wp2_with fail
      go_loopw [8, 27] (fun u v wr => ∃ j : Nat, v = .int .i64 (j : Nat) ∧ j ≤ k ∧ Below Z.heap.size Z wr ∧ OwnQ wr Z.heap.size u (PTT i ++ PRi2 j)) (fun _ v _ => k - (intOf v).toNat)
      case atStart => exact ⟨0, rfl, by omega, HBL.out, by rw [P0i.out, List.append_nil]; exact HO.out⟩
      case round =>
        obtain ⟨j, rfl, hj, hbl, ho⟩ := hrel
        have HBL2 := Lib.hid hbl
        have HO2 := Lib.hid ho
        obtain ⟨O, cO, eO⟩ := ho.shape
        subst eO
        have d0 := (hbl.cell (p := ⟨b8, 0, none⟩) l0).trans c0
        have d1 := (hbl.cell (p := ⟨b8, 1, none⟩) l0).trans c1
        have d2 := Nat.lt_of_lt_of_le l0 hbl.size
        have HBW : Hid (Below w.heap.size w wr) := below_more HB.out hbl
        clear hbl ho
        by_cases hlt2 : j < k
        · have hlen := PLi.out j hj
          have EVj := Lib.hid fun V h => EVi.out j V h
          have PRj := Lib.hid (PRi.out j)
          have HOV : Hid (∀ y : Later wr, OwnQ y.val Z.heap.size (.slice O (PTT i ++ PRi2 j).length cO) (PTT i ++ PRi2 j)) := fun y => HO2.out.later y
          have HBV : Hid (∀ y : Later wr, Below Z.heap.size Z y.val) := fun y => below_more HBL2.out y.ok
          generalize hPP : PTT i ++ PRi2 j = PP at *
          cases hE : E i j
          · rw [hE] at EVj PRj
            rw [if_neg (by simp)] at PRj
            have HN : Hid (PTT i ++ PRi2 (j + 1) = PP) := by show _ = _; rw [PRj.out, hPP]
            clear hE hPP
            go_wp2_with (go_at_call 57; with_reducible refine Calls.mono (Gives.calls (EVj.out _ (below_more HBW.out (by repeat (first | exact Below.refl _ _ | (with_reducible assumption) | apply below_later | apply below_alloc | apply below_drew | apply below_drewN))))) ?_; rintro e w1 ⟨rfl, y, rfl⟩)
            first
              | (go_roundw
                 case rel => exact ⟨j + 1, by go_num, by omega, HBV.out y, by rw [HN.out]; exact HOV.out y⟩
                 case measure => simp [intOf]; omega)
              | (refine ⟨⟨j + 1, by go_num, by omega, HBV.out y, by rw [HN.out]; exact HOV.out y⟩, ?_⟩; simp [intOf]; omega)
          · rw [hE] at EVj PRj
            rw [if_pos rfl] at PRj
            have HN : Hid (PTT i ++ PRi2 (j + 1) = PP ++ [((i : Int), (j : Int))]) := by show _ = _; rw [PRj.out, ← List.append_assoc, hPP]
            clear hE hPP
            go_wp2_with (first
              | (go_at_call 57; with_reducible refine Calls.mono (Gives.calls (EVj.out _ (below_more HBW.out (by repeat (first | exact Below.refl _ _ | (with_reducible assumption) | apply below_later | apply below_alloc | apply below_drew | apply below_drewN))))) ?_; rintro e w1 ⟨rfl, y, rfl⟩)
              | (at_builtin; refine wpList_append_own_at _ rfl _ _ 40 rfl Z.heap.size 44 i0 (.agg #[.int .i64 0, .int .i64 0]) 2 16 Try.underlying40 hi0 hz0 hz1 hz2 rfl (by decide) _ _ _ rfl ((own_rowQ (HOV.out y) rfl).alloc _) ⟨_, 0, none⟩ 1 1 [.int .i64 (i : Nat), .int .i64 (j : Nat)] rfl rfl lit_news2 two_int ?g1 ?g2 ?g3 ?_))
            case g1 => unfold maxLen; omega
            case g2 => omega
            case g3 => have := (HBV.out y).size; simp only [World.size_alloc]; omega
            intro v6 w6 hown2 hgrow _ hat
            have hb6 : Below Z.heap.size Z w6 := below_own (w1 := y.val.alloc (.cells #[.int .i64 (i : Nat), .int .i64 (j : Nat)] 44)) (below_alloc (HBV.out y)) ((own_rowQ (HOV.out y) rfl).alloc _) (Nat.le_refl _) hgrow
            have HO6 : Hid (OwnQ w6 Z.heap.size v6 (PTT i ++ PRi2 (j + 1))) := by
              show OwnQ _ _ _ _
              rw [HN.out]
              unfold OwnQ
              rw [List.length_append, cells2_append]
              exact hown2
            have HB6 := Lib.hid hb6
            clear hown2 hgrow hat hb6
            go_wp2_with fail
            first
              | (refine ⟨⟨j + 1, by go_num, by omega, HB6.out, HO6.out⟩, ?_⟩; simp [intOf]; omega)
              | (go_roundw
                 case rel => exact ⟨j + 1, by go_num, by omega, HB6.out, HO6.out⟩
                 case measure => simp [intOf]; omega)
        · obtain rfl : j = k := by omega
          go_wp2_with fail
          first
            | (refine ⟨⟨i + 1, by go_num, by omega, HBL2.out, by rw [PTi.out]; exact HO2.out⟩, ?_⟩; simp [intOf]; omega)
            | (go_roundw
               case rel => exact ⟨i + 1, by go_num, by omega, HBL2.out, by rw [PTi.out]; exact HO2.out⟩
               case measure => simp [intOf]; omega)
    · obtain rfl : i = k := by omega
      go_wp2_with fail
      go_ret2
      exact ⟨_, rfl, ⟨_, below_more HB.out HBL.out⟩, rfl, HO.out.mono HB.out.size⟩
end Go.Proofs.Ytjmjafpjfhgfdaa
