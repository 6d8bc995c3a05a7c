/- Plain facts on levels that sink from above, and on sills. -/
import Derived.Test.YtelfinjnbncnlaaPileMath
namespace Go.Proofs.Ytelfinjnbncnlaa

theorem cnt_pos {j : Nat} : ∀ {l : List Nat}, 0 < cnt j l ↔ j ∈ l
  | [] => by simp [cnt]
  | i :: l => by
    have := cnt_nonneg j l
    have ih := cnt_pos (j := j) (l := l)
    show 0 < (if i = j then (1 : Int) else 0) + cnt j l ↔ _
    by_cases e : i = j
    · subst e; rw [if_pos rfl]; simp; omega
    · rw [if_neg e, Int.zero_add, ih, List.mem_cons]
      exact ⟨.inr, fun h => h.resolve_left fun h => e h.symm⟩
theorem near_flip {W H i j : Nat} (hi : i < W * H) (h : j ∈ near4 W H i) : i ∈ near4 W H j :=
  cnt_pos.1 (by rw [cnt_symm (near_lt h hi) hi]; exact cnt_pos.2 h)
/-- The least sill at a square among the first so many sluices; -1: there is none. -/
def sillTo (a s : Nat → Int) (i : Int) : Nat → Int
  | 0 => -1
  | k + 1 => if a k = i ∧ (sillTo a s i k < 0 ∨ s k < sillTo a s i k) then s k else sillTo a s i k
theorem sill_facts {a s : Nat → Int} {i : Int} : ∀ {k : Nat}, (∀ j, j < k → 0 ≤ s j) → (sillTo a s i k = -1 ∧ ∀ j, j < k → a j ≠ i) ∨ (∃ j, j < k ∧ a j = i ∧ sillTo a s i k = s j ∧ ∀ j', j' < k → a j' = i → s j ≤ s j')
  | 0, _ => .inl ⟨rfl, fun j hj => by omega⟩
  | k + 1, h => by
    have h0 := h k (by omega)
    show (sillTo a s i (k + 1) = -1 ∧ _) ∨ _
    rcases sill_facts (i := i) fun j hj => h j (Nat.lt_succ_of_lt hj) with ⟨e, f⟩ | ⟨j, hj, e1, e2, e3⟩
    · by_cases c : a k = i
      · refine .inr ⟨k, by omega, c, ?_, fun j' hj' he => ?_⟩
        · show (if a k = i ∧ (sillTo a s i k < 0 ∨ s k < sillTo a s i k) then s k else sillTo a s i k) = s k
          exact if_pos ⟨c, .inl (by rw [e]; decide)⟩
        · rcases Nat.lt_or_ge j' k with q | q
          · exact absurd he (f j' q)
          · rw [show j' = k by omega]; omega
      · refine .inl ⟨?_, fun j hj => ?_⟩
        · show (if a k = i ∧ (sillTo a s i k < 0 ∨ s k < sillTo a s i k) then s k else sillTo a s i k) = -1
          rw [if_neg fun q => c q.1, e]
        · rcases Nat.lt_or_ge j k with q | q
          · exact f j q
          · rwa [show j = k by omega]
    · have hj0 := h j (by omega)
      by_cases c : a k = i ∧ (sillTo a s i k < 0 ∨ s k < sillTo a s i k)
      · refine .inr ⟨k, by omega, c.1, ?_, fun j' hj' he => ?_⟩
        · show (if a k = i ∧ (sillTo a s i k < 0 ∨ s k < sillTo a s i k) then s k else sillTo a s i k) = s k
          rw [if_pos c]
        · have c2 := c.2
          rcases Nat.lt_or_ge j' k with q | q
          · have := e3 j' q he; omega
          · rw [show j' = k by omega]; omega
      · refine .inr ⟨j, by omega, e1, ?_, fun j' hj' he => ?_⟩
        · show (if a k = i ∧ (sillTo a s i k < 0 ∨ s k < sillTo a s i k) then s k else sillTo a s i k) = s j
          rw [if_neg c, e2]
        · rcases Nat.lt_or_ge j' k with q | q
          · exact e3 j' q he
          · have ek : j' = k := by omega
            subst ek
            rcases Int.lt_or_le (s j') (s j) with q | q
            · exact absurd ⟨he, .inr (by omega)⟩ c
            · exact q
theorem mem_slOf {m : Nat} {a s : Nat → Int} {i : Nat} {x : Int} (ha : ∀ j, j < m → 0 ≤ a j) : (i, x) ∈ slOf m a s ↔ ∃ j, j < m ∧ a j = i ∧ s j = x := by
  unfold slOf
  rw [List.mem_map]
  constructor
  · rintro ⟨j, hj, e⟩
    have hj := List.mem_range.1 hj
    have := ha j hj
    simp only [Prod.mk.injEq] at e
    exact ⟨j, hj, by omega, e.2⟩
  · rintro ⟨j, hj, e1, e2⟩
    exact ⟨j, List.mem_range.2 hj, by simp only [Prod.mk.injEq]; exact ⟨by omega, e2⟩⟩
/-- The least of a number and of what a list has at some places. -/
def lowOf (out : List Int) (x : Int) (js : List Nat) : Int := js.foldl (fun y j => min y (out.getD j 0)) x
theorem lowOf_le : ∀ (out : List Int) (js : List Nat) (x : Int), lowOf out x js ≤ x ∧ ∀ j, j ∈ js → lowOf out x js ≤ out.getD j 0
  | _, [], x => ⟨Int.le_refl _, fun j hj => by cases hj⟩
  | out, i :: js, x => by
    have ih := lowOf_le out js (min x (out.getD i 0))
    have e : lowOf out x (i :: js) = lowOf out (min x (out.getD i 0)) js := rfl
    rw [e]
    refine ⟨by omega, fun j hj => ?_⟩
    rcases List.mem_cons.1 hj with rfl | hj
    · omega
    · exact ih.2 j hj
theorem lowOf_is : ∀ (out : List Int) (js : List Nat) (x : Int), lowOf out x js = x ∨ ∃ j, j ∈ js ∧ lowOf out x js = out.getD j 0
  | _, [], _ => .inl rfl
  | out, i :: js, x => by
    have e : lowOf out x (i :: js) = lowOf out (min x (out.getD i 0)) js := rfl
    rw [e]
    rcases lowOf_is out js (min x (out.getD i 0)) with h | ⟨j, hj, h⟩
    · rcases Int.le_total x (out.getD i 0) with q | q
      · exact .inl (by omega)
      · exact .inr ⟨i, List.mem_cons_self .., by omega⟩
    · exact .inr ⟨j, List.mem_cons_of_mem _ hj, h⟩
/-- How low a square may sink. -/
def sinkTo (W H : Nat) (h : Nat → Int) (m : Nat) (a s : Nat → Int) (out : List Int) (i : Nat) : Int :=
  max (h i) (lowOf out (if 0 ≤ sillTo a s i m then sillTo a s i m else 1000) (near4 W H i))
/-- What sinks stays above the level. -/
structure Sunk (n : Nat) (L : Nat → Int) (out : List Int) : Prop where
  len : out.length = n
  ge : ∀ i, i < n → L i ≤ out.getD i 0
  le : ∀ i, i < n → out.getD i 0 ≤ 1000
section
variable {W H n m : Nat} {h a s L : Nat → Int} {out : List Int}
theorem Sunk.step (k : Sunk n L out) (hn : n = W * H) (ha : ∀ j, j < m → 0 ≤ a j) (hs : ∀ j, j < m → 0 ≤ s j) (hL : IsLevel n (near4 W H) h (slOf m a s) L) (hL1 : ∀ i, i < n → L i ≤ 1000) {i : Nat} (hi : i < n) (hlt : sinkTo W H h m a s out i < out.getD i 0) :
    Sunk n L (out.set i (sinkTo W H h m a s out i)) where
  len := by rw [List.length_set]; exact k.len
  ge j hj := by
    rw [getD_put (by rw [k.len]; exact hi)]
    by_cases c : j = i
    · subst c
      rw [if_pos rfl]
      unfold sinkTo
      rcases lowOf_is out (near4 W H j) (if 0 ≤ sillTo a s j m then sillTo a s j m else 1000) with e | ⟨b, hb, e⟩
      · rw [e]
        split
        · rename_i h0
          rcases sill_facts (i := (j : Int)) hs with ⟨q, _⟩ | ⟨b, hb, q1, q2, _⟩
          · rw [q] at h0; exact absurd h0 (by decide)
          · exact (hL j hi _).1 (.out hi ((mem_slOf ha).2 ⟨b, hb, q1, rfl⟩) (by omega) (by omega))
        · have := hL1 j hi; omega
      · rw [e]
        have hb2 : b < n := by rw [hn] at hi ⊢; exact near_lt hb hi
        have l1 := ((hL b hb2 (L b)).2 (Int.le_refl _)).more (show L b ≤ max (h j) (out.getD b 0) by have := k.ge b hb2; omega)
        exact (hL j hi _).1 (.on hi l1 (near_flip (hn ▸ hi) hb) (by omega))
    · rw [if_neg c]; exact k.ge j hj
  le j hj := by
    rw [getD_put (by rw [k.len]; exact hi)]
    have := k.le i hi
    split
    · omega
    · exact k.le j hj
/-- Where nothing sinks any more the levels stand. -/
theorem Sunk.level (k : Sunk n L out) (hn : n = W * H) (ha : ∀ j, j < m → 0 ≤ a j) (hs : ∀ j, j < m → 0 ≤ s j) (hL : IsLevel n (near4 W H) h (slOf m a s) L) (hno : ∀ i, i < n → ¬ sinkTo W H h m a s out i < out.getD i 0) :
    ∀ i, i < n → out.getD i 0 = L i := by
  have key : ∀ x i, Leaves n (near4 W H) h (slOf m a s) x i → out.getD i 0 ≤ x := by
    intro x i hl
    induction hl with
    | @out i t hi hm h1 h2 =>
      obtain ⟨b, hb, e1, e2⟩ := (mem_slOf ha).1 hm
      have h3 := hno i hi
      unfold sinkTo at h3
      have h4 := (lowOf_le out (near4 W H i) (if 0 ≤ sillTo a s i m then sillTo a s i m else 1000)).1
      rcases sill_facts (i := (i : Int)) hs with ⟨_, q⟩ | ⟨c, hc, q1, q2, q3⟩
      · exact absurd e1 (q b hb)
      · have := q3 b hb e1
        have := hs c hc
        rw [if_pos (by omega)] at h4 h3
        omega
    | @on i j hi hj hji h2 ih =>
      have h3 := hno i hi
      unfold sinkTo at h3
      have h4 := (lowOf_le out (near4 W H i) (if 0 ≤ sillTo a s i m then sillTo a s i m else 1000)).2 j (near_flip (by have := hj.lt; omega) hji)
      omega
  intro i hi
  have h1 := key (L i) i ((hL i hi _).2 (Int.le_refl _))
  have h2 := k.ge i hi
  omega
end
end Go.Proofs.Ytelfinjnbncnlaa
