/- wader's Rounds: walked; lists of lists of one's own that grow each by itself. -/
import Derived.Test.YtlljjaafejjeeaaKRowD
namespace Go.Proofs.Ytlljjaafejjeeaa
open Go.RowKit

theorem row_moved {V V' : World} {base k : Nat} {e : TypeId} {v : Value} {xs : List Value} (h : V.ownsRow base e 1 v k xs) (hk : ∀ g, v.ownBlock = some g → V'.heap[g]? = V.heap[g]?) : V'.ownsRow base e 1 v k xs := by
  refine ⟨h.1, ?_⟩
  rcases h.2 with h2 | ⟨g, cap, cur, rfl, hb, hh, r⟩
  · exact .inl h2
  · exact .inr ⟨g, cap, cur, rfl, hb, (hk g rfl).trans hh, r⟩
theorem make_lists (w : World) (n : Nat) (hn : n ≤ 1000000) :
    (Instr.makeSlice 23 (.int .i64 (n : Int)) (.int .i64 (n : Int))).run Try.prog w = .ok (.slice (some ⟨w.heap.size, 0, none⟩) n n) (w.alloc (.cells (madeCells #[Value.slice none 0 0] n) 24)) := by
  obtain ⟨i, hi, hz, hs, hb⟩ := info_list
  have := run_make (P := Try.prog) w 23 24 i (.slice none 0 0) Try.underlying23 hi hz .i64 .i64 n n (by omega) (Int.le_refl _) (by rw [hb]; omega) (by omega)
  rw [hs, Nat.mul_one, Int.toNat_natCast] at this
  exact this
theorem madeT (n : Nat) : (madeCells #[Value.slice none 0 0] n).toList = List.replicate n (Value.slice none 0 0) := by
  apply List.ext_getElem?
  intro i
  simp only [madeCells]
  simp [Nat.mod_one]
  rcases Nat.lt_or_ge i n with h | h
  · simp [h]
  · simp [h]
/-- Lists of one's own in a row of one's own, each with a row of its own. -/
structure RdS (base : Nat) (V : World) (go G : Nat) (vs : List Value) (rows : List (List Int)) : Prop where
  len : vs.length = G
  rl : rows.length = G
  arr : V.ownsRow base 24 1 (.slice (some ⟨go, 0, none⟩) G G) G vs
  row : ∀ i, i < G → OwnI V base (vs.getD i undef) (rows.getD i [])
  dis : ∀ i j, i < G → j < G → i ≠ j → ∀ g, (vs.getD i undef).ownBlock = some g → (vs.getD j undef).ownBlock ≠ some g
theorem getD_repA {α : Type} {n i : Nat} {a d : α} (h : i < n) : (List.replicate n a).getD i d = a := by
  rw [List.getD_eq_getElem?_getD, List.getElem?_replicate, if_pos h]; rfl
theorem getD_setA {α : Type} {l : List α} {i j : Nat} {x d : α} (hi : i < l.length) : (l.set i x).getD j d = if j = i then x else l.getD j d := by
  simp only [List.getD_eq_getElem?_getD, List.getElem?_set]
  by_cases e : i = j
  · subst e; simp [hi]
  · have : j ≠ i := fun h => e h.symm
    simp [e, this]
theorem RdS.made (w : World) (n base : Nat) (hb : base ≤ w.heap.size) (hn : n ≤ 1000000) : RdS base (w.alloc (.cells (madeCells #[Value.slice none 0 0] n) 24)) w.heap.size n (List.replicate n (.slice none 0 0)) (List.replicate n []) := by
  refine ⟨by simp, by simp, ?_, fun i hi => ?_, fun i j hi hj _ g hg => ?_⟩
  · rw [← madeT]
    exact World.ownsRow_lit w _ n hb (by unfold maxLen; omega) (by rw [size_madeCells, Nat.mul_one])
  · rw [getD_repA hi, getD_repA hi]
    exact OwnI.nil _ _
  · rw [getD_repA hi] at hg
    simp [Value.ownBlock] at hg
section
variable {base : Nat} {V : World} {go G : Nat} {vs : List Value} {rows : List (List Int)}
theorem RdS.later (h : RdS base V go G vs rows) (x : Later V) : RdS base x.val go G vs rows :=
  ⟨h.len, h.rl, own_later h.arr x, fun i hi => (h.row i hi).later x, h.dis⟩
theorem RdS.own (h : RdS base V go G vs rows) : OwnT V base (.slice (some ⟨go, 0, none⟩) G G) rows := ⟨vs, by rw [h.rl]; exact h.arr, fun i hi => h.row i (by rw [h.rl] at hi; exact hi)⟩
theorem RdS.lt (h : RdS base V go G vs rows) : base ≤ go ∧ go < V.heap.size := own_lt h.arr go rfl
theorem RdS.cell (h : RdS base V go G vs rows) {d : Nat} (hd : d < G) : V.cell? ⟨go, d, none⟩ = some (vs.getD d undef) ∧ V.frozen? ⟨go, d, none⟩ = false := by
  refine ⟨?_, World.ownsRow.frozenAt h.arr d⟩
  rw [World.ownsRow.cellAt h.arr d (by omega)]
  have hl : d < vs.length := by rw [h.len]; exact hd
  rw [List.getD_eq_getElem?_getD, List.getElem?_eq_getElem hl]
  rfl
theorem RdS.mid (h : RdS base V go G vs rows) {d : Nat} (hd : d < G) (o : Obj) {w5 : World} (hg : (V.alloc o).grownBy w5 (vs.getD d undef).ownBlock) : w5.cell? ⟨go, d, none⟩ = some (vs.getD d undef) ∧ w5.frozen? ⟨go, d, none⟩ = false ∧ go < w5.heap.size := by
  have h1 : (V.alloc o).ownsRow base 24 1 (.slice (some ⟨go, 0, none⟩) G G) G vs := World.ownsRow.alloc h.arr o
  have hgo : go < (V.alloc o).heap.size := (own_lt h1 go rfl).2
  have h2 : w5.ownsRow base 24 1 (.slice (some ⟨go, 0, none⟩) G G) G vs := row_moved h1 fun g hgg => by
    have e : go = g := by simpa [Value.ownBlock] using hgg
    subst e
    exact hg.block go hgo fun e2 => row_ne_int h1 ((h.row d hd).alloc o) go e2.symm rfl
  refine ⟨?_, World.ownsRow.frozenAt h2 d, (own_lt h2 go rfl).2⟩
  rw [World.ownsRow.cellAt h2 d (by omega)]
  have hl : d < vs.length := by rw [h.len]; exact hd
  rw [List.getD_eq_getElem?_getD, List.getElem?_eq_getElem hl]
  rfl
theorem RdS.step (h : RdS base V go G vs rows) {d : Nat} (hd : d < G) (o : Obj) {w5 : World} {v5 : Value} {r : List Int} (hg : (V.alloc o).grownBy w5 (vs.getD d undef).ownBlock) (ho : OwnI w5 base v5 r) (hat : v5.ownBlock = (vs.getD d undef).ownBlock ∨ v5.ownBlock = some (V.alloc o).heap.size) :
    RdS base (w5.setCell ⟨go, d, none⟩ v5) go G (vs.set d v5) (rows.set d r) := by
  have h1 : (V.alloc o).ownsRow base 24 1 (.slice (some ⟨go, 0, none⟩) G G) G vs := World.ownsRow.alloc h.arr o
  have hrow : ∀ i, i < G → OwnI (V.alloc o) base (vs.getD i undef) (rows.getD i []) := fun i hi => (h.row i hi).alloc o
  have hgo : go < (V.alloc o).heap.size := (own_lt h1 go rfl).2
  have h2 : w5.ownsRow base 24 1 (.slice (some ⟨go, 0, none⟩) G G) G vs := row_moved h1 fun g hgg => by
    have e : go = g := by simpa [Value.ownBlock] using hgg
    subst e
    exact hg.block go hgo fun e2 => row_ne_int h1 (hrow d hd) go e2.symm rfl
  have hvl : d < vs.length := by rw [h.len]; exact hd
  have hrl : d < rows.length := by rw [h.rl]; exact hd
  have far : ∀ {u : Value} {l : List Int}, OwnI w5 base u l → OwnI (w5.setCell ⟨go, d, none⟩ v5) base u l := fun {u l} hu => hu.far fun g hgg e => by
    have e2 : go = g := e
    subst e2
    exact row_ne_int h2 hu go hgg rfl
  refine ⟨by rw [List.length_set]; exact h.len, by rw [List.length_set]; exact h.rl, (World.ownsRow.stored h2 d v5).1, fun i hi => ?_, fun i j hi hj hij g h3 h4 => ?_⟩
  · rw [getD_setA hvl, getD_setA hrl]
    by_cases e : i = d
    · rw [if_pos e, if_pos e]
      exact far ho
    · rw [if_neg e, if_neg e]
      exact far ((hrow i hi).moved fun g hgg => hg.block g (own_lt (hrow i hi) g hgg).2 fun e2 => h.dis i d hi hd e g hgg e2.symm)
  · rw [getD_setA hvl] at h3 h4
    by_cases e : i = d
    · rw [if_pos e] at h3
      rw [if_neg (by omega)] at h4
      rcases hat with h5 | h5
      · rw [h5] at h3
        subst e
        exact h.dis i j hi hj hij g h3 h4
      · rw [h5] at h3
        have := (own_lt (hrow j hj) g h4).2
        simp only [Option.some.injEq] at h3
        omega
    · rw [if_neg e] at h3
      by_cases e2 : j = d
      · rw [if_pos e2] at h4
        rcases hat with h5 | h5
        · rw [h5] at h4
          subst e2
          exact h.dis i j hi hj hij g h3 h4
        · rw [h5] at h4
          have := (own_lt (hrow i hi) g h3).2
          simp only [Option.some.injEq] at h4
          omega
      · rw [if_neg e2] at h4
        exact h.dis i j hi hj hij g h3 h4
end
end Go.Proofs.Ytlljjaafejjeeaa
