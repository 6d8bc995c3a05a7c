/- rod.parse: the number of a text. -/
import Derived.Test.YticjjikodignfaaDoorValue
import Derived.Test.YticjjikodignfaaDoorSplitC
namespace Go.Proofs.YticjjikodignfaaDoor
open Go.RowKit
attribute [local go_sem] Oper.semAt_some

/-- The sum of words, from a sum on. -/
def sumW (la lb lc : UInt8) (s0 s1 : Int) : List (List UInt8) → Int → Option Int
  | [], s => some s
  | x :: r, s => match wordN la lb lc s0 s1 x with
    | none => none
    | some v => if 1000000000 - s < v then none else sumW la lb lc s0 s1 r (s + v)
/-- What rod.parse answers. -/
def parseV (la lb lc : UInt8) (s0 s1 : Int) (x : List UInt8) : Value := match sumW la lb lc s0 s1 (pieces 32 x) 0 with
  | none => .tuple #[.int .i64 0, .int .i64 3]
  | some s => if textL ⟨#[la]⟩ ⟨#[lb]⟩ ⟨#[lc]⟩ s0 s1 s = x then .tuple #[.int .i64 s, .int .i64 0] else .tuple #[.int .i64 0, .int .i64 3]
theorem oneN_bd {l : UInt8} {s v : Int} {x : List UInt8} (h1 : 1 ≤ s) (h : oneN l s x = some v) : 0 ≤ v ∧ v ≤ 1000000000 := by
  unfold oneN at h
  split at h
  · rename_i n _
    split at h
    · cases h
    · obtain rfl := Option.some.inj h
      have a := Int.mul_le_mul_of_nonneg_right (show n ≤ 1000000000 / s by omega) (show 0 ≤ s by omega)
      have b := Int.ediv_mul_le 1000000000 (show s ≠ 0 by omega)
      exact ⟨Int.mul_nonneg (by omega) (by omega), by omega⟩
  · cases h
theorem wordN_bd {la lb lc : UInt8} {s0 s1 v : Int} {x : List UInt8} (h0 : 1 ≤ s0) (h1 : 1 ≤ s1) (h : wordN la lb lc s0 s1 x = some v) : 0 ≤ v ∧ v ≤ 1000000000 := by
  unfold wordN at h
  split at h
  · exact oneN_bd h0 h
  · split at h
    · exact oneN_bd h1 h
    · split at h
      · exact oneN_bd (by omega) h
      · cases h

theorem pieces_le (x : List UInt8) : ∀ y ∈ pieces 32 x, y.length ≤ x.length := by
  induction x with
  | nil => intro y hy; simp [pieces] at hy; simp [hy]
  | cons a r ih =>
    intro y hy
    unfold pieces at hy
    split at hy
    · rcases List.mem_cons.1 hy with rfl | hy
      · simp
      · have := ih y hy; simp; omega
    · split at hy
      · simp at hy; simp [hy]
      · rename_i p ps e
        rcases List.mem_cons.1 hy with rfl | hy
        · have := ih p (by rw [e]; simp)
          simp; omega
        · have := ih y (by rw [e]; simp [hy])
          simp; omega
theorem alloc_get (w : World) (o : Obj) (b : Nat) : (w.alloc o).heap[b]? = if b = w.heap.size then some o else w.heap[b]? := by
  by_cases h : b = w.heap.size
  · subst h
    rw [if_pos rfl]
    exact World.alloc_heap_new w o
  · rw [if_neg h]
    rcases Nat.lt_or_ge b w.heap.size with hl | hl
    · exact Below.heap_alloc w o b hl
    · rw [Array.getElem?_eq_none hl, Array.getElem?_eq_none]
      simp
      omega
/-- The boxes of rod.parse. -/
structure PBox (u : Array Value) (b2 b4 b5 b6 : Nat) (S : BSet) (s : Int) (v4 v5 : Int) (V : World) : Prop where
  d : b2 < b4 ∧ b4 < b5 ∧ b5 < b6
  h2 : V.heap[b2]? = some (.cells u 59)
  h4 : V.heap[b4]? = some (.cells #[.int .i64 v4] 3)
  h5 : V.heap[b5]? = some (.cells #[.int .i64 v5] 22)
  h6 : V.heap[b6]? = some (.cells #[.int .i64 s] 3)
  n2 : ¬ S b2
  n4 : ¬ S b4
  n5 : ¬ S b5
  n6 : ¬ S b6
section
variable {u : Array Value} {b2 b4 b5 b6 : Nat} {S T : BSet} {s v4 v5 : Int} {W W' : World}
theorem PBox.stab (h : PBox u b2 b4 b5 b6 S s v4 v5 W) (ht : Takes S T W) (ho : Only S W W') : PBox u b2 b4 b5 b6 T s v4 v5 W' := by
  have at_lt : ∀ {b : Nat} {o : Obj}, W.heap[b]? = some o → b < W.heap.size := fun h => (Array.getElem?_eq_some_iff.1 h).1
  have no : ∀ {c : Nat} {o : Obj}, W.heap[c]? = some o → ¬ S c → ¬ T c := fun h hs k => by
    have := at_lt h
    rcases ht.2 _ k with q | q
    · exact hs q
    · omega
  exact ⟨h.d, (ho.block _ (at_lt h.h2) h.n2).trans h.h2, (ho.block _ (at_lt h.h4) h.n4).trans h.h4, (ho.block _ (at_lt h.h5) h.n5).trans h.h5, (ho.block _ (at_lt h.h6) h.n6).trans h.h6, no h.h2 h.n2, no h.h4 h.n4, no h.h5 h.n5, no h.h6 h.n6⟩
theorem PBox.later (h : PBox u b2 b4 b5 b6 S s v4 v5 W) (x : Later W) : PBox u b2 b4 b5 b6 S s v4 v5 x.val := h.stab (Takes.refl _ _) (Only.later x)
theorem PBox.six (h : PBox u b2 b4 b5 b6 S s v4 v5 W) (s' : Int) : PBox u b2 b4 b5 b6 S s' v4 v5 (W.setCell ⟨b6, 0, none⟩ (.int .i64 s')) := by
  have := h.d
  exact ⟨h.d, (setCell_block_ne _ _ (by omega)).trans h.h2, (setCell_block_ne _ _ (by omega)).trans h.h4, (setCell_block_ne _ _ (by omega)).trans h.h5, one_setCell h.h6, h.n2, h.n4, h.n5, h.n6⟩
theorem PBox.four (h : PBox u b2 b4 b5 b6 S s v4 v5 W) (s' : Int) : PBox u b2 b4 b5 b6 S s s' v5 (W.setCell ⟨b4, 0, none⟩ (.int .i64 s')) := by
  have := h.d
  exact ⟨h.d, (setCell_block_ne _ _ (by omega)).trans h.h2, one_setCell h.h4, (setCell_block_ne _ _ (by omega)).trans h.h5, (setCell_block_ne _ _ (by omega)).trans h.h6, h.n2, h.n4, h.n5, h.n6⟩
theorem PBox.five (h : PBox u b2 b4 b5 b6 S s v4 v5 W) (s' : Int) : PBox u b2 b4 b5 b6 S s v4 s' (W.setCell ⟨b5, 0, none⟩ (.int .i64 s')) := by
  have := h.d
  exact ⟨h.d, (setCell_block_ne _ _ (by omega)).trans h.h2, (setCell_block_ne _ _ (by omega)).trans h.h4, one_setCell h.h5, (setCell_block_ne _ _ (by omega)).trans h.h6, h.n2, h.n4, h.n5, h.n6⟩
/-- What the walk reads of the boxes. -/
theorem PBox.cells (h : PBox u b2 b4 b5 b6 S s v4 v5 W) : W.cell? ⟨b6, 0, none⟩ = some (.int .i64 s) ∧ W.frozen? ⟨b6, 0, none⟩ = false ∧ W.frozen? ⟨b4, 0, none⟩ = false ∧ W.frozen? ⟨b5, 0, none⟩ = false ∧ W.cell? ⟨b4, 0, none⟩ = some (.int .i64 v4) ∧ W.cell? ⟨b5, 0, none⟩ = some (.int .i64 v5) :=
  ⟨cell_of_box h.h6 0 _ rfl, thaw_of_box h.h6 0, thaw_of_box h.h4 0, thaw_of_box h.h5 0, cell_of_box h.h4 0 _ rfl, cell_of_box h.h5 0 _ rfl⟩
end

/-- The world behind the loop's end. -/
theorem PBox.ended {u : Array Value} {b2 b4 b5 b6 : Nat} {S : BSet} {s v4 v5 : Int} {V : World} (h : PBox u b2 b4 b5 b6 S s v4 v5 V) {D : Nat} (hD : S D) (o : Obj) : (V.putObj D o).cell? ⟨b4, 0, none⟩ = some (.int .i64 v4) ∧ (V.putObj D o).cell? ⟨b5, 0, none⟩ = some (.int .i64 v5) := by
  have e4 : (V.putObj D o).heap[b4]? = V.heap[b4]? := World.putObj_heap_other (fun e => h.n4 (e ▸ hD))
  have e5 : (V.putObj D o).heap[b5]? = V.heap[b5]? := World.putObj_heap_other (fun e => h.n5 (e ▸ hD))
  exact ⟨cell_of_box (e4.trans h.h4) 0 _ rfl, cell_of_box (e5.trans h.h5) 0 _ rfl⟩
theorem below_put {w V : World} (h : Below w.heap.size w V) {D : Nat} (hD : w.heap.size ≤ D) (o : Obj) : Below w.heap.size w (V.putObj D o) :=
  (Only.putObj (S := fun b => b = D) o rfl).below h (fun b e => by omega) h.size

set_option maxRecDepth 100000 in
set_option maxHeartbeats 1600000 in
theorem parse_any (la lb lc : UInt8) (s0 s1 : Int) (x : List UInt8) (w : World) (hx : x.length ≤ 1000000) (h0 : 1 ≤ s0) (h1 : 1 ≤ s1) (g0 : s0 ≤ 100000) (g1 : s1 ≤ 100000) (he : Errs w) (htab : Lib.TabIs Tryd.prog w "internal/strconv.uint64pow10" .u64 Lib.pow10Tab) :
    Gives Tryd.prog 55 #[unitsU la lb lc s0 s1, .string ⟨x.toArray⟩] w (parseV la lb lc s0 s1 x) := by
  refine (callsIn_wide (n := 0)).1 ?_
  unfold unitsU
  refine callsIn_of_wp_marks Tryd.func55 rfl trivial ?_ rfl
  simp only [Tryd.ntmps55, List.size_toArray, List.length_cons, List.length_nil, Nat.reduceAdd, Nat.reduceSub, Array.replicate_succ, Array.replicate_zero, List.push_toArray, List.append_toArray, List.nil_append, List.cons_append]
  gi_wp2_with (gi_at_call 90; refine (callsIn_wide.2 (splitSeq_any ⟨x.toArray⟩ 32 _)).mono ?_; rintro e w' ⟨rfl, rfl⟩)
  obtain ⟨u, hu⟩ : ∃ u : Array Value, #[Value.string ⟨#[la]⟩, Value.int .i64 s0, Value.string ⟨#[lb]⟩, Value.int .i64 s1, Value.string ⟨#[lc]⟩, Value.int .i64 1] = u := ⟨_, rfl⟩
  obtain ⟨W1, hW1⟩ : ∃ W1, ((((((w.alloc (.cells #[.string ⟨#[la]⟩, .int .i64 s0, .string ⟨#[lb]⟩, .int .i64 s1, .string ⟨#[lc]⟩, .int .i64 1] 59)).alloc (.cells #[.int .i64 0] 3)).alloc (.cells #[.int .i64 0] 22)).alloc (.cells #[.int .i64 0] 3)).alloc (.cells #[.string ⟨x.toArray⟩] 9)).alloc (.cells #[.string ⟨#[32]⟩] 9)).alloc (.cells #[.int .i64 0] 3) = W1 := ⟨_, rfl⟩
  rw [hW1]
  have sz : W1.heap.size = w.heap.size + 7 := by rw [← hW1]; simp
  have hb : Below w.heap.size w W1 := by rw [← hW1]; repeat (first | exact Below.refl _ _ | (with_reducible assumption) | apply below_later | apply below_alloc | apply below_drew | apply below_drewN)
  have p2 : W1.heap[w.heap.size]? = some (.cells u 59) := by rw [← hW1, ← hu]; repeat (first | (rw [alloc_get, if_neg (by simp only [World.size_alloc]; omega)]) | (rw [alloc_get, if_pos (by simp only [World.size_alloc])]))
  have p4 : W1.heap[w.heap.size + 1]? = some (.cells #[.int .i64 0] 3) := by rw [← hW1]; repeat (first | (rw [alloc_get, if_neg (by simp only [World.size_alloc]; omega)]) | (rw [alloc_get, if_pos (by simp only [World.size_alloc])]))
  have p5 : W1.heap[w.heap.size + 1 + 1]? = some (.cells #[.int .i64 0] 22) := by rw [← hW1]; repeat (first | (rw [alloc_get, if_neg (by simp only [World.size_alloc]; omega)]) | (rw [alloc_get, if_pos (by simp only [World.size_alloc])]))
  have p6 : W1.heap[w.heap.size + 1 + 1 + 1]? = some (.cells #[.int .i64 0] 3) := by rw [← hW1]; repeat (first | (rw [alloc_get, if_neg (by simp only [World.size_alloc]; omega)]) | (rw [alloc_get, if_pos (by simp only [World.size_alloc])]))
  have q1 : W1.heap[w.heap.size + 1 + 1 + 1 + 1]? = some (.cells #[.string ⟨x.toArray⟩] 9) := by rw [← hW1]; repeat (first | (rw [alloc_get, if_neg (by simp only [World.size_alloc]; omega)]) | (rw [alloc_get, if_pos (by simp only [World.size_alloc])]))
  have q2 : W1.heap[w.heap.size + 1 + 1 + 1 + 1 + 1]? = some (.cells #[.string ⟨#[32]⟩] 9) := by rw [← hW1]; repeat (first | (rw [alloc_get, if_neg (by simp only [World.size_alloc]; omega)]) | (rw [alloc_get, if_pos (by simp only [World.size_alloc])]))
  have q3 : W1.heap[w.heap.size + 1 + 1 + 1 + 1 + 2]? = some (.cells #[.int .i64 0] 3) := by rw [← hW1]; repeat (first | (rw [alloc_get, if_neg (by simp only [World.size_alloc]; omega)]) | (rw [alloc_get, if_pos (by simp only [World.size_alloc])]))
  have hpl : ∀ y ∈ pieces 32 x, y.length ≤ 1000000 := fun y hy => Nat.le_trans (pieces_le x y hy) hx
  have CV : Hid (∀ y : List UInt8, y.length ≤ 1000000 → ∀ V, Errs V → Gives Tryd.prog 91 #[.agg #[.string ⟨#[la]⟩, .int .i64 s0, .string ⟨#[lb]⟩, .int .i64 s1, .string ⟨#[lc]⟩, .int .i64 1], .string ⟨y.toArray⟩] V (optV (wordN la lb lc s0 s1 y))) := fun y hy V hV => value_any la lb lc s0 s1 y V hy h0 h1 g0 g1 hV
  have HE := Lib.hid he
  have HTab := Lib.hid htab
  have HPL := Lib.hid hpl
  have HB := Lib.hid hb
  have SZ := Lib.hid sz
  have cu : ∀ V : World, V.heap[w.heap.size]? = some (.cells u 59) → V.cell? ⟨w.heap.size, 0, none⟩ = some (.string ⟨#[la]⟩) ∧ V.cell? ⟨w.heap.size, 1, none⟩ = some (.int .i64 s0) ∧ V.cell? ⟨w.heap.size, 2, none⟩ = some (.string ⟨#[lb]⟩) ∧ V.cell? ⟨w.heap.size, 3, none⟩ = some (.int .i64 s1) ∧ V.cell? ⟨w.heap.size, 4, none⟩ = some (.string ⟨#[lc]⟩) ∧ V.cell? ⟨w.heap.size, 5, none⟩ = some (.int .i64 1) := fun V h => by
    rw [← hu] at h
    exact ⟨cell_of_box h 0 _ rfl, cell_of_box h 1 _ rfl, cell_of_box h 2 _ rfl, cell_of_box h 3 _ rfl, cell_of_box h 4 _ rfl, cell_of_box h 5 _ rfl⟩
  have it := splitSeq1_iter x hx 32 W1 (w.heap.size + 1 + 1 + 1 + 1) (w.heap.size + 1 + 1 + 1 + 1 + 1) (w.heap.size + 1 + 1 + 1 + 1 + 2) (by omega) (by omega) q1 q2 q3
  have hlt0 : ∀ b, (b = w.heap.size + 1 + 1 + 1 + 1 ∨ b = w.heap.size + 1 + 1 + 1 + 1 + 1 ∨ b = w.heap.size + 1 + 1 + 1 + 1 + 2) → b < W1.heap.size ∧ w.heap.size ≤ b := fun b hb => by omega
  have pb : PBox u w.heap.size (w.heap.size + 1) (w.heap.size + 1 + 1) (w.heap.size + 1 + 1 + 1) (fun b => b = w.heap.size + 1 + 1 + 1 + 1 ∨ b = w.heap.size + 1 + 1 + 1 + 1 + 1 ∨ b = w.heap.size + 1 + 1 + 1 + 1 + 2) 0 0 0 W1 :=
    ⟨⟨by omega, by omega, by omega⟩, p2, p4, p5, p6, by omega, by omega, by omega, by omega⟩
  have CU := Lib.hid cu
  have IT := Lib.hid it
  have L0 := Lib.hid hlt0
  have PB := Lib.hid pb
  clear he htab hpl hb sz cu it hlt0 pb p2 p4 p5 p6 q1 q2 q3 hu hW1
  have hget : ∀ k, k < (pieces 32 x).length → ∃ y, (pieces 32 x)[k]? = some y := fun k hk => ⟨_, List.getElem?_eq_getElem hk⟩
  have HG := Lib.hid hget
  clear hget
  generalize e6 : w.heap.size + 1 + 1 + 1 = b6 at *
  generalize e5 : w.heap.size + 1 + 1 = b5 at *
  generalize e4 : w.heap.size + 1 = b4 at *
  have E6 := Lib.hid e6
  have E5 := Lib.hid e5
  have E4 := Lib.hid e4
  clear e6 e5 e4
  refine range_law (gf := 126) (lb := #[.pointer (some ⟨b6 + 1 + 1, 0, none⟩), .pointer (some ⟨b6 + 1, 0, none⟩), .pointer (some ⟨b6 + 1 + 2, 0, none⟩)]) rfl (enters_of Tryd.func126 (by kernel_rfl) rfl)
    IT.out (fun b hb => (L0.out b hb).1) (fun k hk => by
      rw [wordVals_length] at hk
      obtain ⟨y, hy⟩ := HG.out k hk
      rw [wordVals_get hy]; rfl)
    (fun S k V => ∃ s, 0 ≤ s ∧ s ≤ 1000000000 ∧ sumW la lb lc s0 s1 (pieces 32 x) 0 = sumW la lb lc s0 s1 ((pieces 32 x).drop k) s ∧ PBox u w.heap.size b4 b5 b6 S s 0 0 V ∧ Below w.heap.size w V ∧ ∀ b, S b → w.heap.size ≤ b)
    (fun S k c V => c = Code.ret ∧ sumW la lb lc s0 s1 (pieces 32 x) 0 = none ∧ (∃ s, PBox u w.heap.size b4 b5 b6 S s 0 3 V) ∧ Below w.heap.size w V ∧ ∀ b, S b → w.heap.size ≤ b)
    ?stI ?stX ?i0
    (fun k => { tmps := #[.agg #[.string ⟨#[la]⟩, .int .i64 s0, .string ⟨#[lb]⟩, .int .i64 s1, .string ⟨#[lc]⟩, .int .i64 1], .string ⟨x.toArray⟩, .pointer (some ⟨w.heap.size, 0, none⟩), undef, .pointer (some ⟨b4, 0, none⟩), .pointer (some ⟨b5, 0, none⟩), .pointer (some ⟨b6, 0, none⟩), .string ⟨((pieces 32 x).getD k []).toArray⟩, undef, undef, .string ⟨x.toArray⟩, .func (.func 126) #[] #[.pointer (some ⟨b6 + 1 + 1, 0, none⟩), .pointer (some ⟨b6 + 1, 0, none⟩), .pointer (some ⟨b6 + 1 + 2, 0, none⟩)], .string ⟨((pieces 32 x).getD k []).toArray⟩, undef, undef, undef, undef, undef, undef, undef, undef, undef, undef, undef, undef, undef, undef, undef, undef, undef, undef, undef, undef, undef, undef, undef], defers := [] })
    ?assign ?body ?done ?stop
  case stI =>
    rintro S T k W W' ⟨s, a1, a2, a3, a4, a5, a6⟩ ht ho
    have hT : ∀ b, T b → w.heap.size ≤ b := fun b hb => (ht.2 b hb).elim (a6 b) fun q => Nat.le_trans a5.size q
    exact ⟨s, a1, a2, a3, a4.stab ht ho, ho.below a5 a6 a5.size, hT⟩
  case stX =>
    rintro c S T k W W' ⟨a1, a2, ⟨s, a4⟩, a5, a6⟩ ht ho
    have hT : ∀ b, T b → w.heap.size ≤ b := fun b hb => (ht.2 b hb).elim (a6 b) fun q => Nat.le_trans a5.size q
    exact ⟨a1, a2, ⟨s, a4.stab ht ho⟩, ho.below a5 a6 a5.size, hT⟩
  case i0 => exact ⟨0, by omega, by omega, rfl, PB.out, HB.out, fun b hb => (L0.out b hb).2⟩
  case assign =>
    intro l2 k V K hk hK
    rw [wordVals_length] at hk
    obtain ⟨y, hy⟩ := HG.out k hk
    have e : (pieces 32 x).getD k [] = y := by rw [List.getD_eq_getElem?_getD, hy]; rfl
    rw [wordVals_get hy]
    rw [e] at hK
    gi_wp2
    exact hK
  case body =>
    rintro l2 T k V hk ⟨s, a1, a2, a3, a4, a5, a6⟩
    rw [wordVals_length] at hk
    obtain ⟨y, hy⟩ := HG.out k hk
    have e : (pieces 32 x).getD k [] = y := by rw [List.getD_eq_getElem?_getD, hy]; rfl
    rw [e]
    have hyl := HPL.out y (List.mem_of_getElem? hy)
    have hd : (pieces 32 x).drop k = y :: (pieces 32 x).drop (k + 1) := by
      obtain ⟨h1, h2⟩ := List.getElem?_eq_some_iff.1 hy
      rw [← h2]
      exact List.drop_eq_getElem_cons h1
    rw [hd] at a3
    have A3 := Lib.hid a3
    have A4 := Lib.hid a4
    have A5 := Lib.hid a5
    have A6 := Lib.hid a6
    obtain ⟨c1, c2, c3, c4, c5, c6⟩ := a4.cells
    obtain ⟨u0, u1, u2, u3, u4', u5⟩ := CU.out V a4.h2
    have n45 : b4 ≠ b5 := by have := a4.d; omega
    have n54 : b5 ≠ b4 := by omega
    have lt6 : b6 < V.heap.size := (Array.getElem?_eq_some_iff.1 a4.h6).1
    have lt5 : b5 < V.heap.size := (Array.getElem?_eq_some_iff.1 a4.h5).1
    have lt4 : b4 < V.heap.size := (Array.getElem?_eq_some_iff.1 a4.h4).1
    have C1 := Lib.hid (CV.out y hyl V (HE.out.below a5))
    clear a3 a4 a5 a6 hd hy e hk
    cases hw : wordN la lb lc s0 s1 y with
    | none =>
      have A7 : Hid (sumW la lb lc s0 s1 (pieces 32 x) 0 = none) := by
        have := A3.out
        rw [sumW, hw] at this
        exact this
      rw [hw] at C1
      replace C1 : Hid (Gives Tryd.prog 91 #[.agg #[.string ⟨#[la]⟩, .int .i64 s0, .string ⟨#[lb]⟩, .int .i64 s1, .string ⟨#[lc]⟩, .int .i64 1], .string ⟨y.toArray⟩] V (.tuple #[.int .i64 0, .bool false])) := C1
      clear hw A3
      gi_wp2_with (gi_at_call 91; refine (CallsIn.inRound l2 (callsIn_wide.2 (Gives.calls C1.out))).mono ?_; rintro e w1 ⟨rfl, z, rfl⟩)
      exact ⟨((Kept.later z).trans (Kept.setCell _ A4.out.n4)).trans (Kept.setCell _ A4.out.n5), rfl, A7.out, ⟨s, ((A4.out.later z).four 0).five 3⟩, ((below_more A5.out z.ok).setCell (show _ ≤ b4 by have := E4.out; have := E5.out; have := E6.out; omega) _).setCell (show _ ≤ b5 by have := E4.out; have := E5.out; have := E6.out; omega) _, A6.out⟩
    | some v =>
      obtain ⟨v1, v2⟩ := wordN_bd h0 h1 hw
      rw [hw] at C1
      replace C1 : Hid (Gives Tryd.prog 91 #[.agg #[.string ⟨#[la]⟩, .int .i64 s0, .string ⟨#[lb]⟩, .int .i64 s1, .string ⟨#[lc]⟩, .int .i64 1], .string ⟨y.toArray⟩] V (.tuple #[.int .i64 v, .bool true])) := C1
      by_cases hle : v ≤ 1000000000 - s
      · have A7 : Hid (sumW la lb lc s0 s1 (pieces 32 x) 0 = sumW la lb lc s0 s1 ((pieces 32 x).drop (k + 1)) (s + v)) := by
          have := A3.out
          rw [sumW, hw] at this
          simp only at this
          rw [if_neg (by omega)] at this
          exact this
        clear hw A3
        gi_wp2_with (gi_at_call 91; refine (CallsIn.inRound l2 (callsIn_wide.2 (Gives.calls C1.out))).mono ?_; rintro e w1 ⟨rfl, z, rfl⟩)
        exact ⟨(Kept.later z).trans (Kept.setCell _ A4.out.n6), s + v, by omega, by omega, A7.out, (A4.out.later z).six _, (below_more A5.out z.ok).setCell (show _ ≤ b6 by have := E4.out; have := E5.out; have := E6.out; omega) _, A6.out⟩
      · have A7 : Hid (sumW la lb lc s0 s1 (pieces 32 x) 0 = none) := by
          have := A3.out
          rw [sumW, hw] at this
          simp only at this
          rw [if_pos (by omega)] at this
          exact this
        clear hw A3
        gi_wp2_with (gi_at_call 91; refine (CallsIn.inRound l2 (callsIn_wide.2 (Gives.calls C1.out))).mono ?_; rintro e w1 ⟨rfl, z, rfl⟩)
        exact ⟨((Kept.later z).trans (Kept.setCell _ A4.out.n4)).trans (Kept.setCell _ A4.out.n5), rfl, A7.out, ⟨s, ((A4.out.later z).four 0).five 3⟩, ((below_more A5.out z.ok).setCell (show _ ≤ b4 by have := E4.out; have := E5.out; have := E6.out; omega) _).setCell (show _ ≤ b5 by have := E4.out; have := E5.out; have := E6.out; omega) _, A6.out⟩
  case done =>
    rintro D T V hD hTD hT0 ⟨s, a1, a2, a3, a4, a5, a6⟩ hK
    rw [wordVals_length] at a3
    rw [List.drop_length] at a3
    obtain ⟨c1, c2, c3, c4, c5, c6⟩ := a4.cells
    obtain ⟨u0, u1, u2, u3, u4', u5⟩ := CU.out V a4.h2
    have n45 : b4 ≠ b5 := by have := a4.d; omega
    have n54 : b5 ≠ b4 := by omega
    have lt6 : b6 < V.heap.size := (Array.getElem?_eq_some_iff.1 a4.h6).1
    have lt5 : b5 < V.heap.size := (Array.getElem?_eq_some_iff.1 a4.h5).1
    have lt4 : b4 < V.heap.size := (Array.getElem?_eq_some_iff.1 a4.h4).1
    have C2 : Hid (Gives Tryd.prog 88 #[.agg #[.string ⟨#[la]⟩, .int .i64 s0, .string ⟨#[lb]⟩, .int .i64 s1, .string ⟨#[lc]⟩, .int .i64 1], .int .i64 s] V (.string ⟨(textL ⟨#[la]⟩ ⟨#[lb]⟩ ⟨#[lc]⟩ s0 s1 s).toArray⟩)) := join_text _ _ _ _ _ _ _ (by show #[la].size ≤ 100; simp) (by show #[lb].size ≤ 100; simp) (by show #[lc].size ≤ 100; simp) h0 h1 a1 a2 (tab_below HTab.out a5)
    have A3 : Hid (parseV la lb lc s0 s1 x = if textL ⟨#[la]⟩ ⟨#[lb]⟩ ⟨#[lc]⟩ s0 s1 s = x then .tuple #[.int .i64 s, .int .i64 0] else .tuple #[.int .i64 0, .int .i64 3]) := by
      unfold parseV
      rw [a3]
      rfl
    have A4 := Lib.hid a4
    have A5 := Lib.hid a5
    have A6 := Lib.hid a6
    clear a3 a4 a5 a6
    generalize textL ⟨#[la]⟩ ⟨#[lb]⟩ ⟨#[lc]⟩ s0 s1 s = tx at *
    by_cases ht : tx = x
    · subst ht
      gi_wp2_with (gi_at_call 88; refine (callsIn_wide.2 (Gives.calls C2.out)).mono ?_; rintro e w1 ⟨rfl, z, rfl⟩)
      have hD2 : (((z.val.setCell ⟨b4, 0, none⟩ (.int .i64 s)).setCell ⟨b5, 0, none⟩ (.int .i64 0))).heap[D]? = some (.deferred (some [])) := by
        rw [setCell_block_ne _ _ (by have := E4.out; have := E5.out; have := E6.out; have := SZ.out; omega), setCell_block_ne _ _ (by have := E4.out; have := E5.out; have := E6.out; have := SZ.out; omega)]
        exact (z.ok.block _ (Array.getElem?_eq_some_iff.1 hK).1).trans hK
      refine ⟨by simp, .inl ⟨_, _, rfl, run_takeDeferred hD2, ?_⟩⟩
      obtain ⟨r4, r5⟩ := (((A4.out.later z).four s).five 0).ended hTD (.deferred none)
      refine ⟨.tuple #[.int .i64 s, .int .i64 0], by simp [results, Tryd.results55, go_sem, r4, r5], by rw [A3.out, if_pos (by trivial)], later_of ?_⟩
      exact below_put (((below_more A5.out z.ok).setCell (show _ ≤ b4 by have := E4.out; have := E5.out; have := E6.out; omega) _).setCell (show _ ≤ b5 by have := E4.out; have := E5.out; have := E6.out; omega) _) (A6.out _ hTD) _
    · have hne : (tx == x) = false := by simpa using ht
      gi_wp2_with (gi_at_call 88; refine (callsIn_wide.2 (Gives.calls C2.out)).mono ?_; rintro e w1 ⟨rfl, z, rfl⟩)
      have hD2 : (((z.val.setCell ⟨b4, 0, none⟩ (.int .i64 0)).setCell ⟨b5, 0, none⟩ (.int .i64 3))).heap[D]? = some (.deferred (some [])) := by
        rw [setCell_block_ne _ _ (by have := E4.out; have := E5.out; have := E6.out; have := SZ.out; omega), setCell_block_ne _ _ (by have := E4.out; have := E5.out; have := E6.out; have := SZ.out; omega)]
        exact (z.ok.block _ (Array.getElem?_eq_some_iff.1 hK).1).trans hK
      refine ⟨by simp, .inl ⟨_, _, rfl, run_takeDeferred hD2, ?_⟩⟩
      obtain ⟨r4, r5⟩ := (((A4.out.later z).four 0).five 3).ended hTD (.deferred none)
      refine ⟨.tuple #[.int .i64 0, .int .i64 3], by simp [results, Tryd.results55, go_sem, r4, r5], by rw [A3.out, if_neg ht], later_of ?_⟩
      exact below_put (((below_more A5.out z.ok).setCell (show _ ≤ b4 by have := E4.out; have := E5.out; have := E6.out; omega) _).setCell (show _ ≤ b5 by have := E4.out; have := E5.out; have := E6.out; omega) _) (A6.out _ hTD) _
  case stop =>
    rintro D c T k V hk hD hTD hT0 ⟨rfl, a2, ⟨s, a4⟩, a5, a6⟩ hK
    have A3 : Hid (parseV la lb lc s0 s1 x = .tuple #[.int .i64 0, .int .i64 3]) := by
      unfold parseV
      rw [a2]
      rfl
    have A4 := Lib.hid a4
    have A5 := Lib.hid a5
    have A6 := Lib.hid a6
    clear a2 a4 a5 a6
    gi_wp2
    refine ⟨by simp, .inl ⟨_, _, rfl, run_takeDeferred hK, ?_⟩⟩
    obtain ⟨r4, r5⟩ := A4.out.ended hTD (.deferred none)
    refine ⟨.tuple #[.int .i64 0, .int .i64 3], by simp [results, Tryd.results55, go_sem, r4, r5], by rw [A3.out], later_of ?_⟩
    exact below_put A5.out (A6.out _ hTD) _
end Go.Proofs.YticjjikodignfaaDoor
