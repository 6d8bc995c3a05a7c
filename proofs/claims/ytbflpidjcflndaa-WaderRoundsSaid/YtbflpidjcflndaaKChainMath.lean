/- Chains by sweeps: plain facts. -/
import Derived.Test.YtbflpidjcflndaaKLenMath
import Derived.Test.YtbflpidjcflndaaKMatch
namespace Go.Proofs.Ytbflpidjcflndaa
def valL (l : List Nat) (i : Nat) : Nat := l.getD i 0
/-- What a sweep lays at a place. -/
def upL (R : Nat → Nat → Bool) (n : Nat) (l : List Nat) (i : Nat) : Nat := maxTo (R i) (valL l) n + 1
theorem valL_set {l : List Nat} {i j x : Nat} (hi : i < l.length) : valL (l.set i x) j = if j = i then x else valL l j := by
  unfold valL
  simp only [List.getD_eq_getElem?_getD, List.getElem?_set]
  by_cases e : i = j
  · subst e; simp [hi]
  · have : j ≠ i := fun h => e h.symm
    simp [e, this]
theorem maxTo_mono {p : Nat → Bool} {g h : Nat → Nat} : ∀ k, (∀ j, j < k → p j = true → g j ≤ h j) → maxTo p g k ≤ maxTo p h k := fun k e => maxTo_le k fun j hj hp => Nat.le_trans (e j hj hp) (maxTo_ge k j hj hp)
structure CInv (R : Nat → Nat → Bool) (n : Nat) (l : List Nat) : Prop where
  len : l.length = n
  le : ∀ i, i < n → valL l i ≤ hgt R n i
  lo : ∀ i, i < n → valL l i ≤ upL R n l i
theorem CInv.zero (R : Nat → Nat → Bool) (n : Nat) : CInv R n (List.replicate n 0) := by
  have h : ∀ i, valL (List.replicate n 0) i = 0 := fun i => by
    unfold valL
    simp only [List.getD_eq_getElem?_getD, List.getElem?_replicate]
    split <;> rfl
  exact ⟨by simp, fun i _ => by rw [h]; omega, fun i _ => by rw [h]; omega⟩
section
variable {R : Nat → Nat → Bool} {n : Nat} {μ : Nat → Nat} {l : List Nat}
theorem up_le (D : Down R n μ) (C : CInv R n l) {i : Nat} (hi : i < n) : upL R n l i ≤ hgt R n i := by
  rw [hgt_eq D hi]
  unfold upL
  have := maxTo_mono (p := R i) (g := valL l) (h := hgt R n) n fun j hj _ => C.le j hj
  omega
theorem CInv.step (D : Down R n μ) (C : CInv R n l) {i : Nat} (hi : i < n) : CInv R n (l.set i (upL R n l i)) := by
  have hl : i < l.length := by rw [C.len]; exact hi
  have hg : ∀ j, j < n → valL l j ≤ valL (l.set i (upL R n l i)) j := fun j hj => by
    rw [valL_set hl]
    split
    · rename_i e; subst e; exact C.lo j hj
    · exact Nat.le_refl _
  have hu : ∀ j, upL R n l j ≤ upL R n (l.set i (upL R n l i)) j := fun j => by
    have := maxTo_mono (p := R j) (g := valL l) (h := valL (l.set i (upL R n l i))) n fun k hk _ => hg k hk
    unfold upL at *
    omega
  refine ⟨by rw [List.length_set]; exact C.len, fun j hj => ?_, fun j hj => ?_⟩
  · rw [valL_set hl]
    split
    · rename_i e; subst e; exact up_le D C hj
    · exact C.le j hj
  · rw [valL_set hl]
    split
    · rename_i e; subst e; exact hu j
    · exact Nat.le_trans (C.lo j hj) (hu j)
theorem sum_setN {l : List Nat} {i : Nat} (h : i < l.length) (x : Nat) : (l.set i x).sum + valL l i = l.sum + x := by
  unfold valL
  induction l generalizing i with
  | nil => simp at h
  | cons a l ih =>
    cases i with
    | zero => simp only [List.set_cons_zero, List.sum_cons, List.getD_cons_zero]; omega
    | succ i =>
      have := ih (i := i) (by simpa using h)
      simp only [List.set_cons_succ, List.sum_cons, List.getD_cons_succ]
      omega
theorem CInv.more (C : CInv R n l) {i : Nat} (hi : i < n) (h : upL R n l i ≠ valL l i) : l.sum < (l.set i (upL R n l i)).sum := by
  have h1 := sum_setN (l := l) (i := i) (by rw [C.len]; exact hi) (upL R n l i)
  have h2 := C.lo i hi
  omega
theorem sum_leN {c : Nat} : ∀ {l : List Nat}, (∀ x ∈ l, x ≤ c) → l.sum ≤ c * l.length := by
  intro l
  induction l with
  | nil => intro _; simp
  | cons a l ih =>
    intro h
    have h1 := h a (List.mem_cons_self ..)
    have h2 := ih fun x hx => h x (List.mem_cons_of_mem _ hx)
    simp only [List.sum_cons, List.length_cons, Nat.mul_add, Nat.mul_one]
    omega
theorem CInv.sum (C : CInv R n l) : l.sum ≤ n * n := by
  have h := sum_leN (c := n) (l := l) fun x hx => by
    obtain ⟨i, hi, e⟩ := List.getElem_of_mem hx
    have h1 := C.le i (by rw [← C.len]; exact hi)
    have h2 := hgt_le R n i
    unfold valL at h1
    rw [List.getD_eq_getElem?_getD, List.getElem?_eq_getElem hi] at h1
    simp only [Option.getD_some, e] at h1
    omega
  rw [C.len] at h
  exact h
theorem CInv.fix (D : Down R n μ) (hf : ∀ i, i < n → valL l i = upL R n l i) : ∀ m i, i < n → μ i < m → valL l i = hgt R n i := by
  intro m
  induction m with
  | zero => intro i _ h; omega
  | succ m ih =>
    intro i hi hm
    rw [hf i hi, hgt_eq D hi]
    unfold upL
    rw [maxTo_congr n fun j hj hp => ih j hj (by have := D.lt i j hi hj hp; omega)]
end
end Go.Proofs.Ytbflpidjcflndaa
