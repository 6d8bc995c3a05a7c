/- Plain facts on levels: at which height water leaves a square, and what a search by the lowest way out finds. -/
import Derived.Test.YtelfinjnbncnlaaHeapMath
namespace Go.Proofs.Ytelfinjnbncnlaa

/-- Water as high as x leaves square i: nx are the neighbours, h the heights, sl the sluices, each a square and a sill. -/
inductive Leaves (n : Nat) (nx : Nat → List Nat) (h : Nat → Int) (sl : List (Nat × Int)) (x : Int) : Nat → Prop
  | out {i : Nat} {s : Int} : i < n → (i, s) ∈ sl → s ≤ x → h i ≤ x → Leaves n nx h sl x i
  | on {i j : Nat} : i < n → Leaves n nx h sl x j → i ∈ nx j → h i ≤ x → Leaves n nx h sl x i
section
variable {n : Nat} {nx : Nat → List Nat} {h : Nat → Int} {sl : List (Nat × Int)}
theorem Leaves.lt {x : Int} {i : Nat} (k : Leaves n nx h sl x i) : i < n := by cases k <;> assumption
theorem Leaves.high {x : Int} {i : Nat} (k : Leaves n nx h sl x i) : h i ≤ x := by cases k <;> assumption
theorem Leaves.more {x y : Int} {i : Nat} (k : Leaves n nx h sl x i) (hx : x ≤ y) : Leaves n nx h sl y i := by
  induction k with
  | out a b c d => exact .out a b (Int.le_trans c hx) (Int.le_trans d hx)
  | on a _ c d ih => exact .on a ih c (Int.le_trans d hx)
/-- The levels: the least height at which water leaves. -/
def IsLevel (n : Nat) (nx : Nat → List Nat) (h : Nat → Int) (sl : List (Nat × Int)) (L : Nat → Int) : Prop := ∀ i, i < n → ∀ x, Leaves n nx h sl x i ↔ L i ≤ x
theorem level_unique {L M : Nat → Int} (a : IsLevel n nx h sl L) (b : IsLevel n nx h sl M) {i : Nat} (hi : i < n) : L i = M i := by
  have h1 := (b i hi (L i)).1 ((a i hi (L i)).2 (Int.le_refl _))
  have h2 := (a i hi (M i)).1 ((b i hi (M i)).2 (Int.le_refl _))
  omega

variable (n nx h sl)
/-- What holds of a search by the lowest way out: o has the levels that are found (-1: none yet), q what stands in the heap; the first k sluices are in; P: of a square that is found, the neighbours that are not seen to yet. -/
structure Dij (o : Nat → Int) (q : List Pt) (k : Nat) (P : Nat → Nat → Prop) : Prop where
  q_ok : ∀ p, p ∈ q → ∃ a : Nat, p.1 = (a : Int) ∧ 0 ≤ p.2 ∧ Leaves n nx h sl p.2 a
  o_ok : ∀ i, i < n → o i ≠ -1 → 0 ≤ o i ∧ Leaves n nx h sl (o i) i
  order : ∀ i, i < n → o i ≠ -1 → ∀ p, p ∈ q → o i ≤ p.2
  gates : ∀ i s, (i, s) ∈ sl.take k → (o i ≠ -1 ∧ o i ≤ max s (h i)) ∨ ∃ p, p ∈ q ∧ p.1 = (i : Int) ∧ p.2 ≤ max s (h i)
  steps : ∀ j, j < n → o j ≠ -1 → ∀ i, i ∈ nx j → ¬ P j i → (o i ≠ -1 ∧ o i ≤ max (o j) (h i)) ∨ ∃ p, p ∈ q ∧ p.1 = (i : Int) ∧ p.2 ≤ max (o j) (h i)
variable {n nx h sl}
theorem Dij.perm {o : Nat → Int} {q q' : List Pt} {k : Nat} {P : Nat → Nat → Prop} (d : Dij n nx h sl o q k P) (hp : q'.Perm q) : Dij n nx h sl o q' k P where
  q_ok p hm := d.q_ok p (hp.mem_iff.1 hm)
  o_ok := d.o_ok
  order i hi ho p hm := d.order i hi ho p (hp.mem_iff.1 hm)
  gates i s hm := (d.gates i s hm).imp id fun ⟨p, a, b⟩ => ⟨p, hp.mem_iff.2 a, b⟩
  steps j hj ho i hi hP := (d.steps j hj ho i hi hP).imp id fun ⟨p, a, b⟩ => ⟨p, hp.mem_iff.2 a, b⟩
theorem dij_start : Dij n nx h sl (fun _ => -1) [] 0 (fun _ _ => False) where
  q_ok p hm := by cases hm
  o_ok i _ ho := absurd rfl ho
  order i _ ho := absurd rfl ho
  gates i s hm := by simp at hm
  steps j _ ho := absurd rfl ho
/-- A sluice goes in. -/
theorem Dij.gate {q : List Pt} {k a : Nat} {s : Int} (d : Dij n nx h sl (fun _ => -1) q k (fun _ _ => False)) (hk : sl[k]? = some (a, s)) (ha : a < n) (h0 : 0 ≤ s) : Dij n nx h sl (fun _ => -1) (q ++ [((a : Int), max s (h a))]) (k + 1) (fun _ _ => False) where
  q_ok p hm := by
    rcases List.mem_append.1 hm with hm | hm
    · exact d.q_ok p hm
    · obtain rfl : p = ((a : Int), max s (h a)) := by simpa using hm
      exact ⟨a, rfl, by show 0 ≤ max s (h a); omega, .out ha (List.mem_of_getElem? hk) (by show s ≤ max s (h a); omega) (by show h a ≤ max s (h a); omega)⟩
  o_ok i _ ho := absurd rfl ho
  order i _ ho := absurd rfl ho
  gates i s' hm := by
    rw [List.take_add_one, hk, Option.toList_some] at hm
    rcases List.mem_append.1 hm with hm | hm
    · rcases d.gates i s' hm with ⟨ho, _⟩ | ⟨p, a, b⟩
      · exact absurd rfl ho
      · exact .inr ⟨p, List.mem_append_left _ a, b⟩
    · obtain ⟨rfl, rfl⟩ : i = a ∧ s' = s := by simpa using hm
      exact .inr ⟨_, List.mem_append_right _ (List.mem_singleton.2 rfl), rfl, Int.le_refl _⟩
  steps j _ ho := absurd rfl ho
/-- What comes out of the heap is found already. -/
theorem Dij.skip {o : Nat → Int} {q : List Pt} {k a : Nat} {x : Int} (d : Dij n nx h sl o (q ++ [((a : Int), x)]) k (fun _ _ => False)) (ha : a < n) (ho : o a ≠ -1) : Dij n nx h sl o q k (fun _ _ => False) where
  q_ok p hm := d.q_ok p (List.mem_append_left _ hm)
  o_ok := d.o_ok
  order i hi hoi p hm := d.order i hi hoi p (List.mem_append_left _ hm)
  gates i s hm := by
    rcases d.gates i s hm with h1 | ⟨p, h1, h2, h3⟩
    · exact .inl h1
    · rcases List.mem_append.1 h1 with h1 | h1
      · exact .inr ⟨p, h1, h2, h3⟩
      · obtain rfl : p = ((a : Int), x) := by simpa using h1
        have e : a = i := by have : (a : Int) = (i : Int) := h2; omega
        subst e
        exact .inl ⟨ho, Int.le_trans (d.order a ha ho _ (List.mem_append_right _ (List.mem_singleton.2 rfl))) h3⟩
  steps j hj hoj i hi hP := by
    rcases d.steps j hj hoj i hi hP with h1 | ⟨p, h1, h2, h3⟩
    · exact .inl h1
    · rcases List.mem_append.1 h1 with h1 | h1
      · exact .inr ⟨p, h1, h2, h3⟩
      · obtain rfl : p = ((a : Int), x) := by simpa using h1
        have e : a = i := by have : (a : Int) = (i : Int) := h2; omega
        subst e
        exact .inl ⟨ho, Int.le_trans (d.order a ha ho _ (List.mem_append_right _ (List.mem_singleton.2 rfl))) h3⟩
/-- .. or it is new: it is the least. -/
theorem Dij.found {o : Nat → Int} {q : List Pt} {k a : Nat} {x : Int} (d : Dij n nx h sl o (q ++ [((a : Int), x)]) k (fun _ _ => False)) (ha : a < n) (ho : o a = -1) (hmin : ∀ p, p ∈ q → x ≤ p.2) :
    Dij n nx h sl (fun i => if i = a then x else o i) q k (fun j _ => j = a) where
  q_ok p hm := d.q_ok p (List.mem_append_left _ hm)
  o_ok i hi hoi := by
    obtain ⟨a', e1, e2, e3⟩ := d.q_ok _ (List.mem_append_right _ (List.mem_singleton.2 rfl))
    have ea : a = a' := by have : (a : Int) = (a' : Int) := e1; omega
    subst ea
    show 0 ≤ (if i = a then x else o i) ∧ Leaves n nx h sl (if i = a then x else o i) i
    by_cases e : i = a
    · rw [if_pos e]; subst e; exact ⟨e2, e3⟩
    · rw [if_neg e]
      exact d.o_ok i hi (by have h9 : (if i = a then x else o i) ≠ -1 := hoi; rwa [if_neg e] at h9)
  order i hi hoi p hm := by
    show (if i = a then x else o i) ≤ p.2
    by_cases e : i = a
    · rw [if_pos e]; exact hmin p hm
    · rw [if_neg e]
      exact d.order i hi (by have h9 : (if i = a then x else o i) ≠ -1 := hoi; rwa [if_neg e] at h9) p (List.mem_append_left _ hm)
  gates i s hm := by
    obtain ⟨a', e1, e2, e3⟩ := d.q_ok _ (List.mem_append_right _ (List.mem_singleton.2 rfl))
    have e2' : 0 ≤ x := e2
    show ((if i = a then x else o i) ≠ -1 ∧ (if i = a then x else o i) ≤ max s (h i)) ∨ _
    by_cases e : i = a
    · rw [if_pos e]
      subst e
      rcases d.gates i s hm with ⟨h1, _⟩ | ⟨p, h1, h2, h3⟩
      · exact absurd ho h1
      · refine .inl ⟨by omega, ?_⟩
        rcases List.mem_append.1 h1 with h1 | h1
        · exact Int.le_trans (hmin p h1) h3
        · obtain rfl : p = ((i : Int), x) := by simpa using h1
          exact h3
    · rw [if_neg e]
      rcases d.gates i s hm with h1 | ⟨p, h1, h2, h3⟩
      · exact .inl h1
      · rcases List.mem_append.1 h1 with h1 | h1
        · exact .inr ⟨p, h1, h2, h3⟩
        · obtain rfl : p = ((a : Int), x) := by simpa using h1
          exact absurd (show i = a by have : (a : Int) = (i : Int) := h2; omega) e
  steps j hj hoj i hi hP := by
    obtain ⟨a', e1, e2, e3⟩ := d.q_ok _ (List.mem_append_right _ (List.mem_singleton.2 rfl))
    have e2' : 0 ≤ x := e2
    have ej : ¬ j = a := hP
    have hoj' : o j ≠ -1 := by have h9 : (if j = a then x else o j) ≠ -1 := hoj; rwa [if_neg ej] at h9
    show ((if i = a then x else o i) ≠ -1 ∧ (if i = a then x else o i) ≤ max (if j = a then x else o j) (h i)) ∨ ∃ p, p ∈ q ∧ p.1 = (i : Int) ∧ p.2 ≤ max (if j = a then x else o j) (h i)
    rw [if_neg ej]
    by_cases e : i = a
    · rw [if_pos e]
      subst e
      rcases d.steps j hj hoj' i hi (fun k => k) with ⟨h1, _⟩ | ⟨p, h1, h2, h3⟩
      · exact absurd ho h1
      · refine .inl ⟨by omega, ?_⟩
        rcases List.mem_append.1 h1 with h1 | h1
        · exact Int.le_trans (hmin p h1) h3
        · obtain rfl : p = ((i : Int), x) := by simpa using h1
          exact h3
    · rw [if_neg e]
      rcases d.steps j hj hoj' i hi (fun k => k) with h1 | ⟨p, h1, h2, h3⟩
      · exact .inl h1
      · rcases List.mem_append.1 h1 with h1 | h1
        · exact .inr ⟨p, h1, h2, h3⟩
        · obtain rfl : p = ((a : Int), x) := by simpa using h1
          exact absurd (show i = a by have : (a : Int) = (i : Int) := h2; omega) e
/-- A neighbour of the square that was found goes in. -/
theorem Dij.near {o : Nat → Int} {q : List Pt} {k a m i : Nat} (d : Dij n nx h sl o q k (fun j b => j = a ∧ b ∈ (nx a).drop m)) (ha : a < n) (ho : o a ≠ -1) (hm : (nx a)[m]? = some i) (hi : i < n) (hmax : ∀ j, j < n → o j ≠ -1 → o j ≤ o a) :
    Dij n nx h sl o (q ++ [((i : Int), max (o a) (h i))]) k (fun j b => j = a ∧ b ∈ (nx a).drop (m + 1)) where
  q_ok p hp := by
    rcases List.mem_append.1 hp with hp | hp
    · exact d.q_ok p hp
    · obtain rfl : p = ((i : Int), max (o a) (h i)) := by simpa using hp
      obtain ⟨h0, hl⟩ := d.o_ok a ha ho
      exact ⟨i, rfl, by show 0 ≤ max (o a) (h i); omega, .on hi (hl.more (by show o a ≤ max (o a) (h i); omega)) (List.mem_of_getElem? hm) (by show h i ≤ max (o a) (h i); omega)⟩
  o_ok := d.o_ok
  order j hj hoj p hp := by
    rcases List.mem_append.1 hp with hp | hp
    · exact d.order j hj hoj p hp
    · obtain rfl : p = ((i : Int), max (o a) (h i)) := by simpa using hp
      have := hmax j hj hoj
      show o j ≤ max (o a) (h i)
      omega
  gates b s hb := (d.gates b s hb).imp id fun ⟨p, h1, h2⟩ => ⟨p, List.mem_append_left _ h1, h2⟩
  steps j hj hoj b hb hP := by
    by_cases e : j = a ∧ b ∈ (nx a).drop m
    · obtain ⟨rfl, hd⟩ := e
      have hlt := (List.getElem?_eq_some_iff.1 hm).1
      have eb : b = i := by
        rw [List.drop_eq_getElem_cons hlt] at hd
        rcases List.mem_cons.1 hd with h1 | h1
        · rw [h1]; exact (List.getElem?_eq_some_iff.1 hm).2
        · exact absurd ⟨rfl, h1⟩ hP
      subst eb
      exact .inr ⟨_, List.mem_append_right _ (List.mem_singleton.2 rfl), rfl, Int.le_refl _⟩
    · exact (d.steps j hj hoj b hb e).imp id fun ⟨p, h1, h2⟩ => ⟨p, List.mem_append_left _ h1, h2⟩
theorem Dij.begin_ {o : Nat → Int} {q : List Pt} {k a : Nat} (d : Dij n nx h sl o q k (fun j _ => j = a)) : Dij n nx h sl o q k (fun j b => j = a ∧ b ∈ (nx a).drop 0) where
  q_ok := d.q_ok
  o_ok := d.o_ok
  order := d.order
  gates := d.gates
  steps j hj ho i hi hP := d.steps j hj ho i hi fun e => hP ⟨e, by rw [List.drop_zero]; exact e ▸ hi⟩
theorem Dij.end_ {o : Nat → Int} {q : List Pt} {k a m : Nat} (d : Dij n nx h sl o q k (fun j b => j = a ∧ b ∈ (nx a).drop m)) (hm : (nx a).length ≤ m) : Dij n nx h sl o q k (fun _ _ => False) where
  q_ok := d.q_ok
  o_ok := d.o_ok
  order := d.order
  gates := d.gates
  steps j hj ho i hi _ := d.steps j hj ho i hi fun ⟨_, e⟩ => by rw [List.drop_of_length_le hm] at e; cases e
/-- When the heap is empty all levels are found. -/
theorem Dij.level {o : Nat → Int} {k : Nat} (d : Dij n nx h sl o [] k (fun _ _ => False)) (hk : sl.length ≤ k) (hall : ∀ i, i < n → ∃ x, Leaves n nx h sl x i) : IsLevel n nx h sl o ∧ ∀ i, i < n → 0 ≤ o i := by
  have key : ∀ x i, Leaves n nx h sl x i → o i ≠ -1 ∧ o i ≤ x := by
    intro x i hl
    induction hl with
    | @out i s hi hs h1 h2 =>
      rcases d.gates i s (by rw [List.take_of_length_le hk]; exact hs) with ⟨a, b⟩ | ⟨p, hp, _⟩
      · exact ⟨a, by omega⟩
      · cases hp
    | @on i j hi hj hn h2 ih =>
      rcases d.steps j hj.lt ih.1 i hn (fun e => e) with ⟨a, b⟩ | ⟨p, hp, _⟩
      · exact ⟨a, by have := ih.2; omega⟩
      · cases hp
  refine ⟨fun i hi x => ⟨fun hl => (key x i hl).2, fun hx => ?_⟩, fun i hi => ?_⟩
  · obtain ⟨y, hy⟩ := hall i hi
    exact (d.o_ok i hi (key y i hy).1).2.more hx
  · obtain ⟨y, hy⟩ := hall i hi
    exact (d.o_ok i hi (key y i hy).1).1
end
end Go.Proofs.Ytelfinjnbncnlaa
