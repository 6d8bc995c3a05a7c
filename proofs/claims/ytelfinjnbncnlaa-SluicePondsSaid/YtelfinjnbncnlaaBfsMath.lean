/- Plain facts on a search square by square: how many steps it takes to each. -/
import Derived.Test.YtelfinjnbncnlaaPileMath
namespace Go.Proofs.Ytelfinjnbncnlaa

/-- Which squares a walk reaches. -/
inductive Walks (nx : Nat → List Nat) (may : Nat → Bool) (src : List Nat) : Nat → Prop
  | at_ {i : Nat} : i ∈ src → Walks nx may src i
  | on {i j : Nat} : Walks nx may src j → i ∈ nx j → may i = true → Walks nx may src i
/-- How many steps it takes to each square; -1: no walk leads there. -/
structure Dist (n : Nat) (nx : Nat → List Nat) (may : Nat → Bool) (src : List Nat) (o : Nat → Int) : Prop where
  sgn : ∀ i, i < n → o i = -1 ∨ 0 ≤ o i
  orig : ∀ i, i ∈ src → o i = 0
  val : ∀ i, i < n → o i ≠ -1 → (o i = 0 ∧ i ∈ src) ∨ ∃ j, j < n ∧ i ∈ nx j ∧ may i = true ∧ o j ≠ -1 ∧ o i = o j + 1
  done : ∀ j, j < n → o j ≠ -1 → ∀ i, i ∈ nx j → may i = true → o i ≠ -1 ∧ o i ≤ o j + 1
theorem Dist.le {n : Nat} {nx : Nat → List Nat} {may : Nat → Bool} {src : List Nat} {o p : Nat → Int} (h : Dist n nx may src o) (k : Dist n nx may src p) (hs : ∀ i, i ∈ src → i < n) : ∀ (d i : Nat), i < n → o i = d → p i ≠ -1 ∧ p i ≤ o i
  | 0, i, hi, e => by
    rcases h.val i hi (by omega) with ⟨_, hm⟩ | ⟨j, hj, _, _, h1, h2⟩
    · have := k.orig i hm; omega
    · have := h.sgn j hj; omega
  | d + 1, i, hi, e => by
    rcases h.val i hi (by omega) with ⟨h0, _⟩ | ⟨j, hj, hji, hm, h1, h2⟩
    · omega
    · obtain ⟨a, b⟩ := Dist.le h k hs d j hj (by omega)
      obtain ⟨c, e'⟩ := k.done j hj a i hji hm
      exact ⟨c, by omega⟩
theorem dist_unique {n : Nat} {nx : Nat → List Nat} {may : Nat → Bool} {src : List Nat} {o p : Nat → Int} (h : Dist n nx may src o) (k : Dist n nx may src p) (hs : ∀ i, i ∈ src → i < n) {i : Nat} (hi : i < n) : o i = p i := by
  rcases h.sgn i hi with a | a
  · rcases k.sgn i hi with b | b
    · omega
    · have := (k.le h hs (p i).toNat i hi (by omega)).1; omega
  · have h1 := h.le k hs (o i).toNat i hi (by omega)
    have h2 := k.le h hs (p i).toNat i hi (by have := k.sgn i hi; omega)
    omega
theorem Dist.walks {n : Nat} {nx : Nat → List Nat} {may : Nat → Bool} {src : List Nat} {o : Nat → Int} (h : Dist n nx may src o) (hs : ∀ i, i ∈ src → i < n) (hx : ∀ i j, i < n → j ∈ nx i → j < n) {i : Nat} (hi : i < n) : o i ≠ -1 ↔ Walks nx may src i := by
  constructor
  · intro ho
    have key : ∀ (d i : Nat), i < n → o i = d → Walks nx may src i := by
      intro d
      induction d with
      | zero =>
        intro i hi e
        rcases h.val i hi (by omega) with ⟨_, hm⟩ | ⟨j, hj, _, _, h1, h2⟩
        · exact .at_ hm
        · have := h.sgn j hj; omega
      | succ d ih =>
        intro i hi e
        rcases h.val i hi (by omega) with ⟨h0, _⟩ | ⟨j, hj, hji, hm, h1, h2⟩
        · omega
        · exact .on (ih j hj (by omega)) hji hm
    exact key (o i).toNat i hi (by have := h.sgn i hi; omega)
  · intro hw
    have key : i < n ∧ o i ≠ -1 := by
      clear hi
      induction hw with
      | at_ hm => exact ⟨hs _ hm, by rw [h.orig _ hm]; decide⟩
      | on _ hji hm ih => exact ⟨hx _ _ ih.1 hji, (h.done _ ih.1 ih.2 _ hji hm).1⟩
    exact key.2
/-- What a search keeps: o the steps that are found, q the squares ahead; of square c the neighbours from the m-th on are still to be seen (c = n: none is under way). -/
structure Bfs (n : Nat) (nx : Nat → List Nat) (may : Nat → Bool) (src : List Nat) (o : List Int) (q : List Nat) (P : Nat → Nat → Prop) (top : Int) : Prop where
  len : o.length = n
  sgn : ∀ i, i < n → o.getD i 0 = -1 ∨ 0 ≤ o.getD i 0
  orig : ∀ i, i ∈ src → o.getD i 0 = 0
  val : ∀ i, i < n → o.getD i 0 ≠ -1 → (o.getD i 0 = 0 ∧ i ∈ src) ∨ ∃ j, j < n ∧ i ∈ nx j ∧ may i = true ∧ o.getD j 0 ≠ -1 ∧ o.getD i 0 = o.getD j 0 + 1
  ahead : ∀ j, j ∈ q → j < n ∧ o.getD j 0 ≠ -1 ∧ top ≤ o.getD j 0
  order : q.Pairwise fun a b => o.getD a 0 ≤ o.getD b 0
  low : ∀ i, i < n → o.getD i 0 ≤ top + 1
  done : ∀ j, j < n → o.getD j 0 ≠ -1 → j ∉ q → ∀ i, i ∈ nx j → may i = true → ¬ P j i → o.getD i 0 ≠ -1 ∧ o.getD i 0 ≤ o.getD j 0 + 1
section
variable {n : Nat} {nx : Nat → List Nat} {may : Nat → Bool} {src : List Nat} {o : List Int} {q : List Nat} {top : Int}
theorem getD_at {o : List Int} {n i j : Nat} {x : Int} (hl : o.length = n) (hi : i < n) : (o.set i x).getD j 0 = if j = i then x else o.getD j 0 := getD_put (by rw [hl]; exact hi)
theorem bfs_start {o : List Int} (hl : o.length = n) (hs : ∀ i, i ∈ src → i < n) (ho : ∀ i, i < n → o.getD i 0 = if i ∈ src then 0 else -1) : Bfs n nx may src o src (fun _ _ => False) 0 where
  len := hl
  sgn i hi := by rw [ho i hi]; split <;> omega
  orig i hi := by rw [ho i (hs i hi), if_pos hi]
  val i hi h := by
    rw [ho i hi] at h ⊢
    by_cases e : i ∈ src
    · rw [if_pos e]; exact .inl ⟨rfl, e⟩
    · rw [if_neg e] at h; exact absurd rfl h
  ahead j hj := ⟨hs j hj, by rw [ho j (hs j hj), if_pos hj]; decide, by rw [ho j (hs j hj), if_pos hj]; omega⟩
  order := by
    have key : ∀ l : List Nat, (∀ j, j ∈ l → j ∈ src) → l.Pairwise fun a b => o.getD a 0 ≤ o.getD b 0 := by
      intro l
      induction l with
      | nil => intro _; exact List.Pairwise.nil
      | cons a l ih =>
        intro h
        refine List.pairwise_cons.2 ⟨fun b hb => ?_, ih fun j hj => h j (List.mem_cons_of_mem _ hj)⟩
        have h1 := h a (List.mem_cons_self ..)
        have h2 := h b (List.mem_cons_of_mem _ hb)
        rw [ho a (hs a h1), ho b (hs b h2), if_pos h1, if_pos h2]; omega
    exact key src fun j hj => hj
  low i hi := by rw [ho i hi]; split <;> omega
  done j hj h hq := by
    rw [ho j hj] at h
    rw [if_neg hq] at h
    exact absurd rfl h
/-- The first square is taken. -/
theorem Bfs.take {c : Nat} (h : Bfs n nx may src o (c :: q) (fun _ _ => False) top) : Bfs n nx may src o q (fun j i => j = c ∧ i ∈ (nx c).drop 0) (o.getD c 0) where
  len := h.len
  sgn := h.sgn
  orig := h.orig
  val := h.val
  ahead j hj := ⟨(h.ahead j (List.mem_cons_of_mem _ hj)).1, (h.ahead j (List.mem_cons_of_mem _ hj)).2.1, (List.pairwise_cons.1 h.order).1 j hj⟩
  order := (List.pairwise_cons.1 h.order).2
  low i hi := by have := h.low i hi; have := (h.ahead c (List.mem_cons_self ..)).2.2; omega
  done j hj ho hq i hi hm hP := by
    by_cases e : j = c
    · subst e; exact absurd ⟨rfl, by rw [List.drop_zero]; exact hi⟩ hP
    · exact h.done j hj ho (fun k => (List.mem_cons.1 k).elim e hq) i hi hm (fun k => k)
/-- A neighbour that is set, or may not be walked on. -/
theorem Bfs.skip {c m b : Nat} (h : Bfs n nx may src o q (fun j i => j = c ∧ i ∈ (nx c).drop m) (o.getD c 0)) (hb : (nx c)[m]? = some b) (hbn : b < n) (hno : o.getD b 0 ≠ -1 ∨ may b = false) : Bfs n nx may src o q (fun j i => j = c ∧ i ∈ (nx c).drop (m + 1)) (o.getD c 0) where
  len := h.len
  sgn := h.sgn
  orig := h.orig
  val := h.val
  ahead := h.ahead
  order := h.order
  low := h.low
  done j hj ho hq i hi hm hP := by
    by_cases e : j = c ∧ i ∈ (nx c).drop m
    · obtain ⟨rfl, hd⟩ := e
      have hlt := (List.getElem?_eq_some_iff.1 hb).1
      rw [List.drop_eq_getElem_cons hlt] at hd
      rcases List.mem_cons.1 hd with h1 | h1
      · have eb : i = b := by rw [h1]; exact (List.getElem?_eq_some_iff.1 hb).2
        subst eb
        rcases hno with k | k
        · exact ⟨k, h.low i hbn⟩
        · rw [hm] at k; cases k
      · exact absurd ⟨rfl, h1⟩ hP
    · exact h.done j hj ho hq i hi hm e
/-- A neighbour that is new. -/
theorem Bfs.new {c m b : Nat} (h : Bfs n nx may src o q (fun j i => j = c ∧ i ∈ (nx c).drop m) (o.getD c 0)) (hc : c < n) (hoc : o.getD c 0 ≠ -1) (hb : (nx c)[m]? = some b) (hbn : b < n) (hno : o.getD b 0 = -1) (hm : may b = true) :
    Bfs n nx may src (o.set b (o.getD c 0 + 1)) (q ++ [b]) (fun j i => j = c ∧ i ∈ (nx c).drop (m + 1)) ((o.set b (o.getD c 0 + 1)).getD c 0) := by
  have hcb : c ≠ b := fun e => hoc (by rw [e]; exact hno)
  have hs := h.sgn c hc
  have ec : (o.set b (o.getD c 0 + 1)).getD c 0 = o.getD c 0 := by rw [getD_at h.len hbn, if_neg hcb]
  have g : ∀ j, (o.set b (o.getD c 0 + 1)).getD j 0 = if j = b then o.getD c 0 + 1 else o.getD j 0 := fun j => getD_at h.len hbn
  rw [ec]
  refine ⟨by rw [List.length_set]; exact h.len, fun i hi => ?_, fun i hi => ?_, fun i hi ho => ?_, fun j hj => ?_, ?_, fun i hi => ?_, fun j hj ho hq i hi hm2 hP => ?_⟩
  · rw [g]; split
    · omega
    · exact h.sgn i hi
  · rw [g]; split
    · rename_i e; subst e; have := h.orig i hi; omega
    · exact h.orig i hi
  · rw [g] at ho ⊢
    by_cases e : i = b
    · subst e
      rw [if_pos rfl]
      exact .inr ⟨c, hc, List.mem_of_getElem? hb, hm, by rw [ec]; exact hoc, by rw [ec]⟩
    · rw [if_neg e] at ho ⊢
      rcases h.val i hi ho with k | ⟨j, hj, k1, k2, k3, k4⟩
      · exact .inl k
      · have ej : j ≠ b := fun e => k3 (by rw [e]; exact hno)
        exact .inr ⟨j, hj, k1, k2, by rw [g, if_neg ej]; exact k3, by rw [g, if_neg ej]; exact k4⟩
  · rw [g]
    rcases List.mem_append.1 hj with hj | hj
    · obtain ⟨k1, k2, k3⟩ := h.ahead j hj
      have ej : j ≠ b := fun e => k2 (by rw [e]; exact hno)
      rw [if_neg ej]; exact ⟨k1, k2, k3⟩
    · obtain rfl : j = b := by simpa using hj
      rw [if_pos rfl]; exact ⟨hbn, by omega, by omega⟩
  · rw [List.pairwise_append]
    refine ⟨?_, List.pairwise_singleton _ _, fun x hx y hy => ?_⟩
    · refine h.order.imp_of_mem fun {x y} hx hy hxy => ?_
      have e1 : x ≠ b := fun e => (h.ahead x hx).2.1 (by rw [e]; exact hno)
      have e2 : y ≠ b := fun e => (h.ahead y hy).2.1 (by rw [e]; exact hno)
      rw [g, g, if_neg e1, if_neg e2]; exact hxy
    · obtain rfl : y = b := by simpa using hy
      obtain ⟨k1, k2, k3⟩ := h.ahead x hx
      have e1 : x ≠ y := fun e => k2 (by rw [e]; exact hno)
      rw [g, g, if_neg e1, if_pos rfl]
      exact h.low x k1
  · rw [g]; split
    · omega
    · exact h.low i hi
  · have hjb : j ≠ b := fun e => hq (List.mem_append_right _ (by rw [e]; simp))
    have hjq : j ∉ q := fun k => hq (List.mem_append_left _ k)
    rw [g, if_neg hjb] at ho
    by_cases e : j = c ∧ i ∈ (nx c).drop m
    · obtain ⟨rfl, hd⟩ := e
      have hlt := (List.getElem?_eq_some_iff.1 hb).1
      rw [List.drop_eq_getElem_cons hlt] at hd
      rcases List.mem_cons.1 hd with h1 | h1
      · have eb : i = b := by rw [h1]; exact (List.getElem?_eq_some_iff.1 hb).2
        subst eb
        rw [g, if_pos rfl, g, if_neg hjb]
        exact ⟨by omega, by omega⟩
      · exact absurd ⟨rfl, h1⟩ hP
    · obtain ⟨k1, k2⟩ := h.done j hj ho hjq i hi hm2 e
      have eib : i ≠ b := fun e => k1 (by rw [e]; exact hno)
      rw [g, if_neg eib, g, if_neg hjb]
      exact ⟨k1, k2⟩
/-- All neighbours are seen. -/
theorem Bfs.end_ {c m : Nat} (h : Bfs n nx may src o q (fun j i => j = c ∧ i ∈ (nx c).drop m) (o.getD c 0)) (hm : (nx c).length ≤ m) : Bfs n nx may src o q (fun _ _ => False) (o.getD c 0) where
  len := h.len
  sgn := h.sgn
  orig := h.orig
  val := h.val
  ahead := h.ahead
  order := h.order
  low := h.low
  done j hj ho hq i hi hm2 _ := h.done j hj ho hq i hi hm2 fun ⟨_, e⟩ => by rw [List.drop_of_length_le hm] at e; cases e
theorem Bfs.dist (h : Bfs n nx may src o [] (fun _ _ => False) top) : Dist n nx may src fun i => o.getD i 0 where
  sgn := h.sgn
  orig := h.orig
  val := h.val
  done j hj ho i hi hm := h.done j hj ho (by simp) i hi hm (fun k => k)
/-- How many squares are not found yet. -/
def unset1 (o : List Int) : Nat → Nat
  | 0 => 0
  | k + 1 => unset1 o k + if o.getD k 0 = -1 then 1 else 0
theorem unset1_le (o : List Int) : ∀ k, unset1 o k ≤ k
  | 0 => Nat.le_refl _
  | k + 1 => by have := unset1_le o k; unfold unset1; split <;> omega
theorem unset1_set {o : List Int} {n b : Nat} {x : Int} (hl : o.length = n) (hb : b < n) (hno : o.getD b 0 = -1) (hx : x ≠ -1) : ∀ k, unset1 (o.set b x) k + (if b < k then 1 else 0) = unset1 o k
  | 0 => by rw [if_neg (by omega)]; rfl
  | k + 1 => by
    have ih := unset1_set hl hb hno hx k
    unfold unset1
    rw [getD_at hl hb]
    by_cases e : k = b
    · subst e
      rw [if_pos rfl, if_neg hx, if_pos hno, if_pos (by omega)]
      rw [if_neg (by omega)] at ih
      omega
    · rw [if_neg e]
      by_cases c : b < k
      · rw [if_pos c] at ih; rw [if_pos (show b < k + 1 by omega)]; omega
      · rw [if_neg c] at ih; rw [if_neg (show ¬ b < k + 1 by omega)]; omega
/-- No square is further away than there are squares that are found. -/
def Near1 (n : Nat) (o : List Int) : Prop := ∀ i, i < n → o.getD i 0 + (unset1 o n : Nat) ≤ n
theorem near_start (hl : o.length = n) (ho : ∀ i, i < n → o.getD i 0 ≤ 0) : Near1 n o := fun i hi => by
  have := unset1_le o n
  have := ho i hi
  omega
theorem near_new {c b : Nat} (h : Near1 n o) (hl : o.length = n) (hc : c < n) (hb : b < n) (hno : o.getD b 0 = -1) (hx : o.getD c 0 + 1 ≠ -1) : Near1 n (o.set b (o.getD c 0 + 1)) := fun i hi => by
  have u := unset1_set (x := o.getD c 0 + 1) hl hb hno hx n
  rw [if_pos hb] at u
  have h1 := h c hc
  have h2 := h i hi
  rw [getD_at hl hb]
  split <;> omega
end
end Go.Proofs.Ytelfinjnbncnlaa
