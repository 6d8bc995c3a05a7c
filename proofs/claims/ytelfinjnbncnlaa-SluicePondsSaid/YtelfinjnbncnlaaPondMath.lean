/- Plain facts on ponds. -/
import Derived.Test.YtelfinjnbncnlaaBfsMath
namespace Go.Proofs.Ytelfinjnbncnlaa

/-- The ponds that the first k squares tell: which number each square has, and how many there are; R tells which squares hang together. -/
def pondsTo (R : Nat → Nat → Bool) (f L : Nat → Int) : Nat → (Nat → Int) × Nat
  | 0 => (fun _ => -1, 0)
  | k + 1 => if f k = L k ∨ (pondsTo R f L k).1 k ≠ -1 then pondsTo R f L k else (fun i => if R k i = true then ((pondsTo R f L k).2 : Int) else (pondsTo R f L k).1 i, (pondsTo R f L k).2 + 1)
/-- R tells which squares hang together. -/
def Hangs (nx : Nat → List Nat) (f L : Nat → Int) (R : Nat → Nat → Bool) : Prop := ∀ k i, R k i = true ↔ Walks nx (fun j => decide (L j = L k ∧ f j < L k)) [k] i
theorem hangs_there (nx : Nat → List Nat) (f L : Nat → Int) : ∃ R, Hangs nx f L R :=
  ⟨fun k i => @decide (Walks nx (fun j => decide (L j = L k ∧ f j < L k)) [k] i) (Classical.propDecidable _), fun _ _ => @decide_eq_true_iff _ (Classical.propDecidable _)⟩
/-- What is true of ponds. -/
structure Ponds (n : Nat) (nx : Nat → List Nat) (f L : Nat → Int) (k : Nat) (p : Nat → Int) (a : Nat) : Prop where
  sgn : ∀ i, i < n → p i = -1 ∨ (0 ≤ p i ∧ p i < a)
  wet : ∀ i, i < n → p i ≠ -1 → f i < L i
  all : ∀ i, i < k → i < n → f i < L i → p i ≠ -1
  one : ∀ i j, i < n → j < n → p i ≠ -1 → p i = p j → L i = L j
  near : ∀ i j, i < n → j < n → j ∈ nx i → p i ≠ -1 → f j < L j → L i = L j → p j = p i
  few : a ≤ k
section
variable {n : Nat} {nx : Nat → List Nat} {f L : Nat → Int}
theorem walks_one {k i : Nat} (hk : f k < L k) (h : Walks nx (fun j => decide (L j = L k ∧ f j < L k)) [k] i) : L i = L k ∧ f i < L i := by
  cases h with
  | at_ h => obtain rfl : i = k := by simpa using h
             exact ⟨rfl, hk⟩
  | on _ _ h => have := of_decide_eq_true h; omega
theorem ponds_step {k a : Nat} {p : Nat → Int} (h : Ponds n nx f L k p a) (hx : ∀ i j, i < n → j ∈ nx i → j < n) (hs : ∀ i j, i < n → j ∈ nx i → i ∈ nx j) (hk : k < n) (hw : f k < L k) (hno : p k = -1) {q : Nat → Int} (hq : ∀ i, (Walks nx (fun j => decide (L j = L k ∧ f j < L k)) [k] i → q i = a) ∧ (¬ Walks nx (fun j => decide (L j = L k ∧ f j < L k)) [k] i → q i = p i)) :
    Ponds n nx f L (k + 1) q (a + 1) := by
  have key : ∀ i, Walks nx (fun j => decide (L j = L k ∧ f j < L k)) [k] i → i < n ∧ p i = -1 := by
    intro i hi
    induction hi with
    | @at_ i h => obtain rfl : i = k := by simpa using h
                  exact ⟨hk, hno⟩
    | @on i j hj hji hm ih =>
      have hin := hx j i ih.1 hji
      refine ⟨hin, ?_⟩
      rcases h.sgn i hin with e | e
      · exact e
      · have hm := of_decide_eq_true hm
        have hj1 := walks_one hw hj
        have := h.near i j hin ih.1 (hs j i ih.1 hji) (by omega) (by omega) (by omega)
        omega
  refine ⟨fun i hi => ?_, fun i hi ho => ?_, fun i hik hi hwet => ?_, fun i j hi hj ho he => ?_, fun i j hi hj hji ho hwet he => ?_, by have := h.few; omega⟩
  · rcases Classical.em (Walks nx (fun j => decide (L j = L k ∧ f j < L k)) [k] i) with w | w
    · rw [(hq i).1 w]; omega
    · rw [(hq i).2 w]; have := h.sgn i hi; omega
  · rcases Classical.em (Walks nx (fun j => decide (L j = L k ∧ f j < L k)) [k] i) with w | w
    · exact (walks_one hw w).2
    · rw [(hq i).2 w] at ho; exact h.wet i hi ho
  · rcases Classical.em (Walks nx (fun j => decide (L j = L k ∧ f j < L k)) [k] i) with w | w
    · rw [(hq i).1 w]; omega
    · rw [(hq i).2 w]
      rcases Nat.lt_or_ge i k with c | c
      · exact h.all i c hi hwet
      · obtain rfl : i = k := by omega
        exact absurd (.at_ (by simp)) w
  · rcases Classical.em (Walks nx (fun j => decide (L j = L k ∧ f j < L k)) [k] i) with w | w
    · rcases Classical.em (Walks nx (fun j => decide (L j = L k ∧ f j < L k)) [k] j) with v | v
      · rw [(walks_one hw w).1, (walks_one hw v).1]
      · rw [(hq i).1 w, (hq j).2 v] at he; have := h.sgn j hj; omega
    · rcases Classical.em (Walks nx (fun j => decide (L j = L k ∧ f j < L k)) [k] j) with v | v
      · rw [(hq i).2 w, (hq j).1 v] at he; have := h.sgn i hi; omega
      · rw [(hq i).2 w] at he ho
        rw [(hq j).2 v] at he
        exact h.one i j hi hj ho he
  · rcases Classical.em (Walks nx (fun j => decide (L j = L k ∧ f j < L k)) [k] i) with w | w
    · have e := walks_one hw w
      have v : Walks nx (fun j => decide (L j = L k ∧ f j < L k)) [k] j := .on w hji (decide_eq_true ⟨by omega, by omega⟩)
      rw [(hq i).1 w, (hq j).1 v]
    · rw [(hq i).2 w] at ho ⊢
      have e := h.near i j hi hj hji ho hwet he
      have v : ¬ Walks nx (fun j => decide (L j = L k ∧ f j < L k)) [k] j := fun v => by have := (key j v).2; omega
      rw [(hq j).2 v, e]
theorem ponds_to {R : Nat → Nat → Bool} (hR : Hangs nx f L R) (hfl : ∀ i, i < n → f i ≤ L i) (hx : ∀ i j, i < n → j ∈ nx i → j < n) (hs : ∀ i j, i < n → j ∈ nx i → i ∈ nx j) : ∀ k, k ≤ n → Ponds n nx f L k (pondsTo R f L k).1 (pondsTo R f L k).2
  | 0, _ => ⟨fun i _ => .inl rfl, fun i _ h => absurd rfl h, fun i h => by omega, fun i j _ _ h => absurd rfl h, fun i j _ _ _ h => absurd rfl h, Nat.le_refl _⟩
  | k + 1, hk => by
    have h := ponds_to hR hfl hx hs k (by omega)
    unfold pondsTo
    by_cases c : f k = L k ∨ (pondsTo R f L k).1 k ≠ -1
    · simp only [if_pos c]
      refine ⟨h.sgn, h.wet, fun i hik hi hwet => ?_, h.one, h.near, by have := h.few; omega⟩
      rcases Nat.lt_or_ge i k with d | d
      · exact h.all i d hi hwet
      · obtain rfl : i = k := by omega
        rcases c with c | c
        · omega
        · exact c
    · simp only [if_neg c]
      have hw : f k < L k := by have := hfl k (by omega); omega
      have hno : (pondsTo R f L k).1 k = -1 := by
        rcases h.sgn k (by omega) with e | e
        · exact e
        · exact absurd (Or.inr (by omega)) c
      exact ponds_step h hx hs (by omega) hw hno fun i => ⟨fun w => if_pos ((hR k i).2 w), fun w => if_neg fun e => w ((hR k i).1 e)⟩
end
end Go.Proofs.Ytelfinjnbncnlaa
