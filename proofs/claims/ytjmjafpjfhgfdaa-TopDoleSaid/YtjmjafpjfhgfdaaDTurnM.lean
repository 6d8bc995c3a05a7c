/- Picking in turn is fair but for one strip, and the first commoner envies nobody: maths. -/
import Derived.Test.YtjmjafpjfhgfdaaDTopM
namespace Go.Proofs.Ytjmjafpjfhgfdaa
open Go.RowKit

def pk (l : List Int) (j : Nat) : Int := l.getD j 0
theorem wth_set {f : Nat → Int} {l : List Int} {s : Nat} {x o : Int} (hs : s < l.length) (hf : pk l s ≠ o) : ∀ m, wth f (pk (l.set s x)) o m = wth f (pk l) o m + if s < m ∧ x = o then f s else 0 := by
  have hg : ∀ j, pk (l.set s x) j = if j = s then x else pk l j := fun j => getD_setI hs
  intro m
  induction m with
  | zero => simp [wth]
  | succ m ih =>
    rw [wth_succ, wth_succ, ih, hg m]
    by_cases e : m = s
    · subst e
      rw [if_pos rfl, if_neg (by omega : ¬ (m < m ∧ x = o)), if_neg hf]
      by_cases h : x = o
      · rw [if_pos h, if_pos ⟨by omega, h⟩]
        omega
      · rw [if_neg h, if_neg fun h' => h h'.2]
    · rw [if_neg e]
      have : (s < m + 1 ∧ x = o) ↔ (s < m ∧ x = o) := by omega
      by_cases h : s < m ∧ x = o
      · rw [if_pos h, if_pos (this.2 h)]
        split <;> omega
      · rw [if_neg h, if_neg fun h' => h (this.1 h')]
        split <;> omega
theorem topO_set {f : Nat → Int} {l : List Int} {s m : Nat} {x o : Int} (hs : s < l.length) (hf : pk l s ≠ o) (h0 : ∀ j, j < m → 0 ≤ f j ∧ f j ≤ 1000) : topO f (pk l) o m ≤ topO f (pk (l.set s x)) o m ∧ (s < m → x = o → f s ≤ topO f (pk (l.set s x)) o m) := by
  have hg : ∀ j, pk (l.set s x) j = if j = s then x else pk l j := fun j => getD_setI hs
  constructor
  · rcases topO_at (f := f) (c := pk l) (o := o) (m := m) with h | ⟨j, hj, hc, he⟩
    · rw [h]
      exact (topO_bd (c := pk (l.set s x)) (o := o) h0).1
    · rw [← he]
      refine topO_ge hj ?_
      rw [hg j, if_neg (by intro e; rw [e] at hc; exact hf hc)]
      exact hc
  · intro hsm hx
    refine topO_ge hsm ?_
    rw [hg s, if_pos rfl]
    exact hx
/-- How far one who picks before another one is, and one who picks behind it. -/
structure InvT (F : Nat → Nat → Int) (k n i : Nat) (l : List Int) : Prop where
  bef : ∀ a o : Nat, a < o → o < k → wth (F a) (pk l) (o : Nat) n ≤ wth (F a) (pk l) (a : Nat) n ∧ (a < i % k → i % k ≤ o → ∀ j, j < n → pk l j = -1 → wth (F a) (pk l) (o : Nat) n + F a j ≤ wth (F a) (pk l) (a : Nat) n)
  beh : ∀ a o : Nat, o < a → a < k → (i ≤ o → wth (F a) (pk l) (o : Nat) n = 0) ∧ ∃ X : Int, X ≤ topO (F a) (pk l) (o : Nat) n ∧ wth (F a) (pk l) (o : Nat) n - X ≤ wth (F a) (pk l) (a : Nat) n ∧ (o < i → ¬ (o < i % k ∧ i % k ≤ a) → ∀ j, j < n → pk l j = -1 → wth (F a) (pk l) (o : Nat) n - X + F a j ≤ wth (F a) (pk l) (a : Nat) n)
theorem next_mod {k i : Nat} (hk : 0 < k) : (i % k + 1 < k ∧ (i + 1) % k = i % k + 1) ∨ (i % k + 1 = k ∧ (i + 1) % k = 0) := by
  have h := Nat.mod_lt i hk
  have e : (i + 1) % k = (i % k + 1) % k := (Nat.mod_add_mod i k 1).symm
  by_cases h1 : i % k + 1 < k
  · exact .inl ⟨h1, by rw [e, Nat.mod_eq_of_lt h1]⟩
  · have h2 : i % k + 1 = k := by omega
    exact .inr ⟨h2, by rw [e, h2, Nat.mod_self]⟩
theorem inv_step {F : Nat → Nat → Int} {k n i s : Nat} {l : List Int} (hk : 0 < k) (hF : ∀ a, a < k → ∀ j, j < n → 0 ≤ F a j ∧ F a j ≤ 1000) (hl : l.length = n) (hs : s < n) (hfs : pk l s = -1) (hbest : ∀ j, j < n → pk l j = -1 → F (i % k) j ≤ F (i % k) s) (I : InvT F k n i l) : InvT F k n (i + 1) (l.set s ((i % k : Nat) : Int)) := by
  have hr := Nat.mod_lt i hk
  have hnx := next_mod (i := i) hk
  have hile : i % k ≤ i := Nat.mod_le i k
  have hg : ∀ j, pk (l.set s ((i % k : Nat) : Int)) j = if j = s then ((i % k : Nat) : Int) else pk l j := fun j => getD_setI (by omega)
  have hfree : ∀ j, pk (l.set s ((i % k : Nat) : Int)) j = -1 → pk l j = -1 := fun j h => by
    rw [hg] at h
    split at h
    · omega
    · exact h
  have hw : ∀ (a o : Nat), wth (F a) (pk (l.set s ((i % k : Nat) : Int))) (o : Nat) n = wth (F a) (pk l) (o : Nat) n + if i % k = o then F a s else 0 := fun a o => by
    rw [wth_set (by omega) (by rw [hfs]; omega)]
    congr 1
    by_cases e : i % k = o
    · rw [if_pos e, if_pos ⟨hs, by omega⟩]
    · rw [if_neg e, if_neg fun h => e (by omega)]
  have ht : ∀ (a o : Nat), a < k → topO (F a) (pk l) (o : Nat) n ≤ topO (F a) (pk (l.set s ((i % k : Nat) : Int))) (o : Nat) n ∧ (i % k = o → F a s ≤ topO (F a) (pk (l.set s ((i % k : Nat) : Int))) (o : Nat) n) := fun a o ha => by
    have h := topO_set (f := F a) (l := l) (s := s) (m := n) (x := ((i % k : Nat) : Int)) (o := (o : Nat)) (by omega) (by rw [hfs]; omega) (hF a ha)
    exact ⟨h.1, fun e => h.2 hs (by omega)⟩
  have hmod : ∀ o, i ≤ o → o < k → i % k = i := fun o h1 h2 => Nat.mod_eq_of_lt (by omega)
  generalize hL : l.set s ((i % k : Nat) : Int) = l' at *
  have hwn : ∀ a o : Nat, a < k → 0 ≤ wth (F a) (pk l) (o : Nat) n := fun a o ha => (wth_bd (hF a ha)).1
  refine ⟨fun a o hao ho => ?_, fun a o hoa ha => ?_⟩
  · obtain ⟨b1, b2⟩ := I.bef a o hao ho
    have ha : a < k := by omega
    have hs0 := (hF a ha s hs).1
    rw [hw a o, hw a a]
    by_cases e1 : i % k = a
    · rw [if_pos e1, if_neg (by omega)]
      refine ⟨by omega, fun _ _ j hj hfj => ?_⟩
      have := hbest j hj (hfree j hfj)
      rw [e1] at this
      omega
    · rw [if_neg e1]
      by_cases e2 : i % k = o
      · rw [if_pos e2]
        have := b2 (by omega) (by omega) s hs hfs
        exact ⟨by omega, fun _ _ => by omega⟩
      · rw [if_neg e2]
        refine ⟨by omega, fun h1 h2 j hj hfj => ?_⟩
        have := b2 (by omega) (by omega) j hj (hfree j hfj)
        omega
  · obtain ⟨b0, X, b1, b2, b3⟩ := I.beh a o hoa ha
    have hs0 := (hF a ha s hs).1
    have ho : o < k := by omega
    obtain ⟨t1, t2⟩ := ht a o ha
    rw [hw a o, hw a a]
    refine ⟨fun h => ?_, ?_⟩
    · have := hmod o (by omega) ho
      rw [if_neg (by omega), b0 (by omega)]
      rfl
    · by_cases e2 : i % k = o
      · rw [if_pos e2, if_neg (by omega)]
        by_cases e3 : i ≤ o
        · have h0 := b0 e3
          have h1 := hwn a a ha
          exact ⟨F a s, t2 e2, by omega, fun _ h => absurd h (by omega)⟩
        · have := b3 (by omega) (by omega) s hs hfs
          exact ⟨X, by omega, by omega, fun _ h => absurd h (by omega)⟩
      · rw [if_neg e2]
        by_cases e1 : i % k = a
        · rw [if_pos e1]
          refine ⟨X, by omega, by omega, fun _ _ j hj hfj => ?_⟩
          have := hbest j hj (hfree j hfj)
          rw [e1] at this
          omega
        · rw [if_neg e1]
          refine ⟨X, by omega, by omega, fun h1 h2 j hj hfj => ?_⟩
          have h3 : o < i := by
            rcases Nat.lt_or_ge o i with h | h
            · exact h
            · have := hmod o h ho
              omega
          have := b3 h3 (by omega) j hj (hfree j hfj)
          omega
theorem inv_zero (F : Nat → Nat → Int) {k n : Nat} : InvT F k n 0 (List.replicate n (-1)) := by
  have hw : ∀ (f : Nat → Int) (o : Nat), wth f (pk (List.replicate n (-1))) (o : Nat) n = 0 := fun f o => wth_none fun j hj => by
    unfold pk
    rw [getD_rep hj]
    omega
  refine ⟨fun a o _ _ => ?_, fun a o _ _ => ⟨fun _ => hw _ _, 0, ?_, ?_, fun h => absurd h (by omega)⟩⟩
  · rw [hw, hw]
    exact ⟨Int.le_refl _, fun h => absurd h (by simp)⟩
  · rcases topO_at (f := F a) (c := pk (List.replicate n (-1))) (o := (o : Nat)) (m := n) with h | ⟨j, hj, hc, _⟩
    · rw [h]
      exact Int.le_refl _
    · unfold pk at hc
      rw [getD_rep hj] at hc
      omega
  · rw [hw, hw]
    exact Int.le_refl _
theorem turnI_nat {k j : Nat} : (turnI k j).toNat = j % k ∧ turnI k j = ((j % k : Nat) : Int) := by
  have e : turnI k j = ((j % k : Nat) : Int) := by
    unfold turnI
    rw [Int.natCast_emod]
  exact ⟨by rw [e]; exact Int.toNat_natCast _, e⟩
theorem inv_pick {F : Nat → Nat → Int} {k n : Nat} (hk : 0 < k) (hF : ∀ a, a < k → ∀ j, j < n → 0 ≤ F a j ∧ F a j ≤ 1000) : ∀ i, i ≤ n → InvT F k n i (pickL F (turnI k) n i) := by
  intro i
  induction i with
  | zero => intro _; exact inv_zero F
  | succ i ih =>
    intro hi
    have h1 := ih (by omega)
    obtain ⟨p1, p2, p3⟩ := pick_some (F := F) (c := turnI k) (K := k) (n := n) (k := i) hF (fun j _ => turnI_in hk) (by omega)
    have hf := (favP_ok (f := F (turnI k i).toNat) (s := fun j => (pickL F (turnI k) n i).getD j 0) (j := n) fun j hj => hF _ (by rw [turnI_nat.1]; exact Nat.mod_lt _ hk) j hj).1
    rw [pickL_succ, turnI_nat.2]
    rw [turnI_nat.2, Int.toNat_natCast] at p1 p2 p3 hf
    rw [Int.toNat_natCast]
    refine inv_step hk hF (pickL_length _ _ _ _) p1 p3 (fun j hj hfj => ?_) h1
    rcases hf with ⟨h, _, _⟩ | ⟨_, _, e, _, h⟩
    · omega
    · have := h j hj hfj
      rw [e] at this
      exact this
/-- All strips are picked. -/
theorem pick_all {F : Nat → Nat → Int} {k n : Nat} (hk : 0 < k) (hF : ∀ a, a < k → ∀ j, j < n → 0 ≤ F a j ∧ F a j ≤ 1000) : ∀ j, j < n → 0 ≤ pk (pickL F (turnI k) n n) j ∧ pk (pickL F (turnI k) n n) j < k := by
  obtain ⟨h1, h2⟩ := pick_ok (F := F) (c := turnI k) (K := k) (n := n) hF (fun j _ => turnI_in hk) n (Nat.le_refl _)
  intro j hj
  rcases h2 j hj with h | h
  · exfalso
    have hm : (-1 : Int) ∈ pickL F (turnI k) n n := by
      rw [List.mem_iff_getElem]
      have hl : j < (pickL F (turnI k) n n).length := by rw [pickL_length]; exact hj
      refine ⟨j, hl, ?_⟩
      rw [List.getD_eq_getElem?_getD, List.getElem?_eq_getElem hl] at h
      exact h
    have := List.count_pos_iff.2 hm
    omega
  · exact h
theorem turn_ef {R : Nat → Row} {k n : Nat} (W : Vals k n R) : EF1 R (pk (pickL (fT R) (turnI k) n n)) n k ∧ ∀ o, 0 < o → o < k → envT R (pk (pickL (fT R) (turnI k) n n)) n 0 o = false := by
  have hF : ∀ a, a < k → ∀ j, j < n → 0 ≤ fT R a j ∧ fT R a j ≤ 1000 := fun a ha j hj => W.val a ha j hj
  have I := inv_pick W.k1 hF n (Nat.le_refl _)
  refine ⟨fun a o ha ho => ?_, fun o h0 ho => ?_⟩
  · have ht := (topO_bd (f := (R a).f) (c := pk (pickL (fT R) (turnI k) n n)) (o := (o : Nat)) (m := n) fun j hj => W.val a ha j hj).1
    rcases Nat.lt_trichotomy a o with h | h | h
    · have h1 := (I.bef a o h ho).1
      have h2 : wth (R a).f (pk (pickL (fT R) (turnI k) n n)) (o : Nat) n ≤ wth (R a).f (pk (pickL (fT R) (turnI k) n n)) (a : Nat) n := h1
      omega
    · subst h
      omega
    · obtain ⟨_, X, b1, b2, _⟩ := I.beh a o h ha
      have h1 : X ≤ topO (R a).f (pk (pickL (fT R) (turnI k) n n)) (o : Nat) n := b1
      have h2 : wth (R a).f (pk (pickL (fT R) (turnI k) n n)) (o : Nat) n - X ≤ wth (R a).f (pk (pickL (fT R) (turnI k) n n)) (a : Nat) n := b2
      omega
  · have h1 := (I.bef 0 o h0 ho).1
    have h2 : wth (R 0).f (pk (pickL (fT R) (turnI k) n n)) (o : Nat) n ≤ wth (R 0).f (pk (pickL (fT R) (turnI k) n n)) ((0 : Nat) : Int) n := h1
    unfold envT
    exact decide_eq_false (by omega)
end Go.Proofs.Ytjmjafpjfhgfdaa
