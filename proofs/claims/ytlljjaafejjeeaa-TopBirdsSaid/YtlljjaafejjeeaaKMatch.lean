/- Matchings that grow by walks: plain facts. -/
import Derived.Test.YtlljjaafejjeeaaBase
namespace Go.Proofs.Ytlljjaafejjeeaa
/-- Where a sighting looks for one behind it, from n - d on. -/
def augL (R : Nat → List Bool → List Int → Bool × List Bool × List Int) (L : Nat → Nat → Bool) (i n : Nat) : Nat → List Bool → List Int → Bool × List Bool × List Int
  | 0, tr, out => (false, tr, out)
  | d + 1, tr, out =>
    if tr.getD (n - (d + 1)) true = true ∨ L i (n - (d + 1)) = false then augL R L i n d tr out
    else if out.getD (n - (d + 1)) 0 = -1 then (true, tr.set (n - (d + 1)) true, out.set (n - (d + 1)) (i : Int))
    else if (R (out.getD (n - (d + 1)) 0).toNat (tr.set (n - (d + 1)) true) out).1 = true then
      (true, (R (out.getD (n - (d + 1)) 0).toNat (tr.set (n - (d + 1)) true) out).2.1, (R (out.getD (n - (d + 1)) 0).toNat (tr.set (n - (d + 1)) true) out).2.2.set (n - (d + 1)) (i : Int))
    else augL R L i n d (R (out.getD (n - (d + 1)) 0).toNat (tr.set (n - (d + 1)) true) out).2.1 (R (out.getD (n - (d + 1)) 0).toNat (tr.set (n - (d + 1)) true) out).2.2
def aug (L : Nat → Nat → Bool) (n : Nat) : Nat → Nat → List Bool → List Int → Bool × List Bool × List Int
  | 0, _, tr, out => (false, tr, out)
  | f + 1, i, tr, out => augL (aug L n f) L i n n tr out

theorem getD_setI {l : List Int} {i j : Nat} {x : Int} (hi : i < l.length) : (l.set i x).getD j 0 = if j = i then x else l.getD j 0 := by
  simp only [List.getD_eq_getElem?_getD, List.getElem?_set]
  by_cases e : i = j
  · subst e; simp [hi]
  · have : j ≠ i := fun h => e h.symm
    simp [e, this]
theorem getD_setB {l : List Bool} {i j : Nat} {x d : Bool} (hi : i < l.length) : (l.set i x).getD j d = if j = i then x else l.getD j d := by
  simp only [List.getD_eq_getElem?_getD, List.getElem?_set]
  by_cases e : i = j
  · subst e; simp [hi]
  · have : j ≠ i := fun h => e h.symm
    simp [e, this]
theorem count_setI {l : List Int} {k : Nat} (h : k < l.length) (a x : Int) : (l.set k a).count x + (if l.getD k 0 = x then 1 else 0) = l.count x + (if a = x then 1 else 0) := by
  induction l generalizing k with
  | nil => simp at h
  | cons b l ih =>
    cases k with
    | zero =>
      simp only [List.set_cons_zero, List.count_cons, List.getD_cons_zero, beq_iff_eq]
      omega
    | succ k =>
      have := ih (k := k) (by simpa using h)
      simp only [List.set_cons_succ, List.count_cons, List.getD_cons_succ]
      omega
theorem count_setF {l : List Bool} {k : Nat} (h : k < l.length) (hf : l.getD k true = false) : (l.set k true).count false + 1 = l.count false := by
  induction l generalizing k with
  | nil => simp at h
  | cons b l ih =>
    cases k with
    | zero =>
      simp only [List.getD_cons_zero] at hf
      subst hf
      simp [List.count_cons]
    | succ k =>
      have := ih (k := k) (by simpa using h) (by simpa using hf)
      simp only [List.set_cons_succ, List.count_cons]
      omega
/-- Entries are none, or sightings that lead to theirs. -/
def OkM (L : Nat → Nat → Bool) (n : Nat) (out : List Int) : Prop := ∀ k, k < n → out.getD k 0 = -1 ∨ ∃ j, j < n ∧ out.getD k 0 = (j : Nat) ∧ L j k = true
/-- What is closed: all matched, and all to which their sightings lead. -/
def Clo (L : Nat → Nat → Bool) (n : Nat) (out : List Int) (S T : Nat → Prop) : Prop := ∀ k, k < n → S k → out.getD k 0 ≠ -1 ∧ ∀ k', k' < n → L (out.getD k 0).toNat k' = true → T k'
/-- What is known of a walk's end. -/
structure AugPost (L : Nat → Nat → Bool) (n i lo : Nat) (tr : List Bool) (out : List Int) (r : Bool × List Bool × List Int) : Prop where
  trl : r.2.1.length = n
  len : r.2.2.length = n
  grow : ∀ k, k < n → tr.getD k true = true → r.2.1.getD k true = true
  old : ∀ k, k < n → tr.getD k true = true → r.2.2.getD k 0 = out.getD k 0
  no : r.1 = false → r.2.2 = out ∧ (∀ k, lo ≤ k → k < n → L i k = true → r.2.1.getD k true = true) ∧ Clo L n out (fun k => tr.getD k true = false ∧ r.2.1.getD k true = true) (fun k => r.2.1.getD k true = true)
  far : ∀ T : Nat → Prop, Clo L n out T T → r.1 = true → (∃ k, k < n ∧ L i k = true ∧ ¬ T k) ∧ ∀ k, k < n → T k → r.2.2.getD k 0 = out.getD k 0
  okm : OkM L n r.2.2
  cnt : r.1 = true → ∀ x : Int, r.2.2.count x + (if -1 = x then 1 else 0) = out.count x + (if (i : Int) = x then 1 else 0)
theorem augL_post {L : Nat → Nat → Bool} {n f i : Nat} (hi : i < n) {R : Nat → List Bool → List Int → Bool × List Bool × List Int}
    (HR : ∀ j tr out, j < n → tr.length = n → out.length = n → OkM L n out → tr.count false < f → AugPost L n j 0 tr out (R j tr out)) :
    ∀ d tr out, d ≤ n → tr.length = n → out.length = n → OkM L n out → tr.count false ≤ f → AugPost L n i (n - d) tr out (augL R L i n d tr out) := by
  intro d
  induction d with
  | zero =>
    intro tr out hd ht ho hok hc
    exact ⟨ht, ho, fun _ _ h => h, fun _ _ _ => rfl, fun _ => ⟨rfl, fun k h1 h2 => by omega, fun k _ ⟨h1, h2⟩ => by rw [augL] at h2; simp_all⟩, fun _ _ h => by simp [augL] at h, hok, fun h => by simp [augL] at h⟩
  | succ d ih =>
    intro tr out hd ht ho hok hc
    have hk : n - (d + 1) < n := by omega
    have hlo : n - d = n - (d + 1) + 1 := by omega
    unfold augL
    generalize n - (d + 1) = k0 at *
    split
    · rename_i hs
      have P := ih tr out (by omega) ht ho hok hc
      refine ⟨P.trl, P.len, P.grow, P.old, fun h => ?_, P.far, P.okm, P.cnt⟩
      obtain ⟨a, b, c⟩ := P.no h
      refine ⟨a, fun k h1 h2 h3 => ?_, c⟩
      by_cases e : k = k0
      · subst e
        rcases hs with hs | hs
        · exact P.grow _ h2 hs
        · rw [hs] at h3; cases h3
      · exact b k (by omega) h2 h3
    · rename_i hs
      simp only [not_or, Bool.not_eq_true, Bool.not_eq_false] at hs
      obtain ⟨hs1, hs2⟩ := hs
      have htl : (tr.set k0 true).length = n := by simp [ht]
      have hgr : ∀ k, k < n → tr.getD k true = true → (tr.set k0 true).getD k true = true := fun k h1 h2 => by
        rw [getD_setB (by omega)]; split <;> simp_all
      split
      · rename_i hm
        refine ⟨htl, by simp [ho], hgr, fun k h1 h2 => ?_, fun h => by simp at h, fun T hT _ => ⟨⟨k0, hk, hs2, fun h => (hT k0 hk h).1 hm⟩, fun k h1 h2 => ?_⟩, fun k h1 => ?_, fun _ x => ?_⟩
        · dsimp only
          rw [getD_setI (by omega), if_neg]
          rintro rfl
          rw [hs1] at h2; cases h2
        · dsimp only
          rw [getD_setI (by omega), if_neg]
          rintro rfl
          exact (hT k hk h2).1 hm
        · dsimp only
          rw [getD_setI (by omega)]
          split
          · rename_i e; subst e
            exact .inr ⟨i, hi, rfl, hs2⟩
          · exact hok k h1
        · have := count_setI (l := out) (k := k0) (by omega) (i : Int) x
          rw [hm] at this
          exact this
      · rename_i hm
        obtain ⟨j, hj, hoj, hL⟩ := (hok k0 hk).resolve_left hm
        have hc2 := count_setF (l := tr) (k := k0) (by omega) hs1
        have hjn : (out.getD k0 0).toNat = j := by rw [hoj]; simp
        have PR := HR j (tr.set k0 true) out hj htl ho hok (by omega)
        rw [hjn]
        generalize R j (tr.set k0 true) out = r at *
        have hk0 : r.2.2.getD k0 0 = out.getD k0 0 := PR.old k0 hk (by rw [getD_setB (by omega)]; simp)
        split
        · rename_i hr
          refine ⟨PR.trl, by simp [PR.len], fun k h1 h2 => PR.grow k h1 (hgr k h1 h2), fun k h1 h2 => ?_, fun h => by simp at h, fun T hT _ => ?_, fun k h1 => ?_, fun _ x => ?_⟩
          · dsimp only
            rw [getD_setI (by have := PR.len; omega), if_neg]
            · exact PR.old k h1 (hgr k h1 h2)
            · rintro rfl
              rw [hs1] at h2; cases h2
          · obtain ⟨⟨k1, a1, a2, a3⟩, b⟩ := PR.far T hT hr
            have hnT : ¬ T k0 := fun h => a3 ((hT k0 hk h).2 k1 a1 (by rw [hjn]; exact a2))
            refine ⟨⟨k0, hk, hs2, hnT⟩, fun k h1 h2 => ?_⟩
            dsimp only
            rw [getD_setI (by have := PR.len; omega), if_neg]
            · exact b k h1 h2
            · rintro rfl
              exact hnT h2
          · dsimp only
            rw [getD_setI (by have := PR.len; omega)]
            split
            · rename_i e; subst e
              exact .inr ⟨i, hi, rfl, hs2⟩
            · exact PR.okm k h1
          · have h1 := PR.cnt hr x
            have h2 := count_setI (l := r.2.2) (k := k0) (by have := PR.len; omega) (i : Int) x
            rw [hk0, hoj] at h2
            dsimp only
            omega
        · rename_i hr
          simp only [Bool.not_eq_true] at hr
          obtain ⟨e1, e2, e3⟩ := PR.no hr
          rw [e1]
          have hcr : r.2.1.count false ≤ f := by
            have key : ∀ (a b : List Bool), a.length = b.length → (∀ k, k < a.length → a.getD k true = true → b.getD k true = true) → b.count false ≤ a.count false := by
              intro a
              induction a with
              | nil => intro b hb _; cases b <;> simp_all
              | cons x a iha =>
                intro b hb h
                cases b with
                | nil => simp at hb
                | cons y b =>
                  have h1 := iha b (by simpa using hb) fun k hk hx => by
                    have := h (k + 1) (by simp; omega) (by simpa using hx)
                    simpa using this
                  have h2 := h 0 (by simp)
                  simp only [List.getD_cons_zero] at h2
                  simp only [List.count_cons]
                  cases x <;> cases y <;> simp_all <;> omega
            have := key (tr.set k0 true) r.2.1 (by rw [htl, PR.trl]) fun k h1 h2 => PR.grow k (by omega) h2
            omega
          have P := ih r.2.1 out (by omega) PR.trl ho hok hcr
          refine ⟨P.trl, P.len, fun k h1 h2 => P.grow k h1 (PR.grow k h1 (hgr k h1 h2)), fun k h1 h2 => P.old k h1 (PR.grow k h1 (hgr k h1 h2)), fun h => ?_, P.far, P.okm, P.cnt⟩
          obtain ⟨a, b, c⟩ := P.no h
          refine ⟨a, fun k h1 h2 h3 => ?_, fun k h1 ⟨h2, h3⟩ => ?_⟩
          · by_cases e : k = k0
            · subst e
              exact P.grow _ hk (PR.grow _ hk (by rw [getD_setB (by omega)]; simp))
            · exact b k (by omega) h2 h3
          · by_cases e : k = k0
            · subst e
              refine ⟨hm, fun k' h4 h5 => P.grow k' h4 (e2 k' (Nat.zero_le _) h4 (by rw [← hjn]; exact h5))⟩
            · by_cases e5 : r.2.1.getD k true = true
              · obtain ⟨g1, g2⟩ := e3 k h1 ⟨by rw [getD_setB (by omega), if_neg e]; exact h2, e5⟩
                exact ⟨g1, fun k' h4 h5 => P.grow k' h4 (g2 k' h4 h5)⟩
              · exact c k h1 ⟨by simpa using e5, h3⟩
theorem aug_post {L : Nat → Nat → Bool} {n : Nat} : ∀ (f j : Nat) tr out, j < n → tr.length = n → out.length = n → OkM L n out → tr.count false < f → AugPost L n j 0 tr out (aug L n f j tr out) := by
  intro f
  induction f with
  | zero => intro j tr out _ _ _ _ h; omega
  | succ f ih =>
    intro j tr out hj ht ho hok hc
    have := augL_post (f := f) hj (fun j tr out a b c d e => ih j tr out a b c d e) n tr out (Nat.le_refl _) ht ho hok (by omega)
    rw [Nat.sub_self] at this
    exact this
/-- The matching when the first i sightings have looked for one behind them. -/
def matM (L : Nat → Nat → Bool) (n : Nat) : Nat → List Int
  | 0 => List.replicate n (-1)
  | i + 1 => (aug L n (n + 1) i (List.replicate n false) (matM L n i)).2.2
structure MInv (L : Nat → Nat → Bool) (n i : Nat) (out : List Int) : Prop where
  len : out.length = n
  okm : OkM L n out
  one : ∀ x : Nat, out.count (x : Int) ≤ 1
  fresh : ∀ x : Nat, i ≤ x → out.count (x : Int) = 0
  clo : ∃ T : Nat → Prop, Clo L n out T T ∧ ∀ j : Nat, j < i → out.count (j : Int) = 0 → ∀ k, k < n → L j k = true → T k
theorem getD_repB (n k : Nat) : (List.replicate n false).getD k true = decide (n ≤ k) := by
  simp only [List.getD_eq_getElem?_getD, List.getElem?_replicate]
  by_cases h : k < n <;> simp [h] <;> omega
theorem mat_inv (L : Nat → Nat → Bool) (n : Nat) : ∀ i, i ≤ n → MInv L n i (matM L n i) := by
  intro i
  induction i with
  | zero =>
    intro _
    refine ⟨by simp [matM], fun k hk => .inl (by simp [matM, List.getD_eq_getElem?_getD, hk]), fun x => ?_, fun x _ => ?_, ⟨fun _ => False, fun _ _ h => h.elim, fun j h => by omega⟩⟩
    all_goals
      have : (matM L n 0).count (x : Int) = 0 := by
        unfold matM
        rw [List.count_replicate]
        simp
      omega
  | succ i ih =>
    intro hi
    obtain ⟨h1, h2, h3, h4, T, h5, h6⟩ := ih (by omega)
    have P := aug_post (n + 1) i (List.replicate n false) (matM L n i) (by omega) (by simp) h1 h2 (by simp [List.count_replicate])
    unfold matM
    generalize matM L n i = out at *
    generalize aug L n (n + 1) i (List.replicate n false) out = r at *
    cases hr : r.1
    · obtain ⟨e, a, b⟩ := P.no hr
      rw [e]
      refine ⟨h1, h2, h3, fun x hx => h4 x (by omega), fun k => T k ∨ (k < n ∧ r.2.1.getD k true = true), fun k hk h => ?_, fun j hj hc k hk hl => ?_⟩
      · rcases h with h | ⟨_, h⟩
        · exact ⟨(h5 k hk h).1, fun k' a b => .inl ((h5 k hk h).2 k' a b)⟩
        · obtain ⟨c, d⟩ := b k hk ⟨by rw [getD_repB]; simp [hk], h⟩
          exact ⟨c, fun k' a b => .inr ⟨a, d k' a b⟩⟩
      · by_cases e2 : j = i
        · subst e2
          exact .inr ⟨hk, a k (Nat.zero_le _) hk hl⟩
        · exact .inl (h6 j (by omega) hc k hk hl)
    · have C := P.cnt hr
      have F := (P.far T h5 hr).2
      have key : ∀ x : Nat, r.2.2.count (x : Int) = out.count (x : Int) + if i = x then 1 else 0 := fun x => by
        have := C x
        rw [if_neg (by omega)] at this
        simp only [Int.ofNat_inj] at this
        omega
      refine ⟨P.len, P.okm, fun x => ?_, fun x hx => ?_, T, fun k hk h => ?_, fun j hj hc k hk hl => ?_⟩
      · rw [key]
        split
        · rename_i e; subst e; rw [h4 i (Nat.le_refl _)]; omega
        · exact h3 x
      · rw [key, if_neg (by omega), h4 x (by omega)]
      · rw [F k hk h]
        exact h5 k hk h
      · rw [key] at hc
        by_cases e2 : i = j
        · rw [if_pos e2] at hc; omega
        · rw [if_neg e2] at hc
          exact h6 j (by omega) (by omega) k hk hl
/-- How many find one. -/
def winM (L : Nat → Nat → Bool) (n : Nat) : Nat → Nat
  | 0 => 0
  | i + 1 => winM L n i + if (aug L n (n + 1) i (List.replicate n false) (matM L n i)).1 = true then 1 else 0
theorem win_count (L : Nat → Nat → Bool) (n : Nat) : ∀ i, i ≤ n → (matM L n i).count (-1) + winM L n i = n := by
  intro i
  induction i with
  | zero => intro _; simp [matM, winM, List.count_replicate]
  | succ i ih =>
    intro hi
    have ih := ih (by omega)
    obtain ⟨h1, h2, _⟩ := mat_inv L n i (by omega)
    have P := aug_post (n + 1) i (List.replicate n false) (matM L n i) (by omega) (by simp) h1 h2 (by simp [List.count_replicate])
    unfold matM winM
    generalize matM L n i = out at *
    generalize aug L n (n + 1) i (List.replicate n false) out = r at *
    cases hr : r.1
    · rw [(P.no hr).1]
      simpa using ih
    · have C := P.cnt hr (-1)
      rw [if_pos rfl, if_neg (by omega)] at C
      simp only [if_true]
      omega
/-- An order: what leads is lower, and leads on. -/
structure Ord (L : Nat → Nat → Bool) (n : Nat) (ρ : Nat → Nat) : Prop where
  lt : ∀ i k, i < n → k < n → L i k = true → ρ i < ρ k
  le : ∀ i, i < n → ρ i < n
  tr : ∀ i j k, i < n → j < n → k < n → L i j = true → L j k = true → L i k = true
theorem ord_irrefl {L : Nat → Nat → Bool} {n : Nat} {ρ : Nat → Nat} (O : Ord L n ρ) {i : Nat} (h : i < n) : L i i = false := by
  cases e : L i i
  · rfl
  · exact absurd (O.lt i i h h e) (Nat.lt_irrefl _)
/-- The first place of a number. -/
def idx (x : Int) : List Int → Option Nat
  | [] => none
  | y :: l => if y = x then some 0 else (idx x l).map (· + 1)
theorem idx_some {x : Int} {l : List Int} {k : Nat} (h : idx x l = some k) : k < l.length ∧ l.getD k 0 = x ∧ ∀ j, j < k → l.getD j 0 ≠ x := by
  induction l generalizing k with
  | nil => simp [idx] at h
  | cons y l ih =>
    unfold idx at h
    split at h
    · rename_i e
      cases h
      exact ⟨by simp, by simpa using e, fun j hj => by omega⟩
    · rename_i e
      cases h' : idx x l with
      | none => rw [h'] at h; cases h
      | some q =>
        rw [h'] at h
        simp only [Option.map_some, Option.some.injEq] at h
        subst h
        obtain ⟨a, b, c⟩ := ih h'
        refine ⟨by simp; omega, by simpa using b, fun j hj => ?_⟩
        cases j with
        | zero => simpa using e
        | succ j => simpa using c j (by omega)
theorem idx_none {x : Int} {l : List Int} (h : idx x l = none) : ∀ j, j < l.length → l.getD j 0 ≠ x := by
  induction l with
  | nil => intro j hj; simp at hj
  | cons y l ih =>
    unfold idx at h
    split at h
    · cases h
    · rename_i e
      cases h' : idx x l with
      | some q => rw [h'] at h; cases h
      | none =>
        intro j hj
        cases j with
        | zero => simpa using e
        | succ j => simpa using ih h' j (by simpa using hj)
theorem count_two {l : List Int} {i j : Nat} {x : Int} (hi : i < l.length) (hj : j < l.length) (hij : i < j) (h1 : l.getD i 0 = x) (h2 : l.getD j 0 = x) : 2 ≤ l.count x := by
  induction l generalizing i j with
  | nil => simp at hi
  | cons y l ih =>
    cases j with
    | zero => omega
    | succ j =>
      rw [List.count_cons]
      cases i with
      | zero =>
        have : 1 ≤ l.count x := by
          apply List.count_pos_iff.2
          rw [← h2, List.getD_cons_succ, List.getD_eq_getElem?_getD, List.getElem?_eq_getElem (by simpa using hj)]
          exact List.getElem_mem ..
        have e : (y == x) = true := by simpa using h1
        rw [if_pos e]
        omega
      | succ i =>
        have := ih (i := i) (j := j) (by simpa using hi) (by simpa using hj) (by omega) (by simpa using h1) (by simpa using h2)
        omega
theorem count_zero {l : List Int} {x : Int} (h : l.count x = 0) {j : Nat} (hj : j < l.length) : l.getD j 0 ≠ x := by
  intro e
  have : 0 < l.count x := by
    apply List.count_pos_iff.2
    rw [← e, List.getD_eq_getElem?_getD, List.getElem?_eq_getElem hj]
    exact List.getElem_mem ..
  omega
/-- A bird of a matching, from a sighting on. -/
def birdM (out : List Int) : Nat → Nat → List Nat
  | 0, i => [i]
  | f + 1, i => match idx (i : Int) out with
    | none => [i]
    | some k => i :: birdM out f k
/-- A chain: each leads to the next. -/
def Chain (L : Nat → Nat → Bool) (l : List Nat) : Prop := l.Pairwise fun i k => L i k = true
section
variable {L : Nat → Nat → Bool} {n : Nat} {ρ : Nat → Nat} {out : List Int}
theorem next_led (I : MInv L n n out) {i k : Nat} (h : idx (i : Int) out = some k) : k < n ∧ i < n ∧ out.getD k 0 = (i : Nat) ∧ L i k = true := by
  obtain ⟨a, b, _⟩ := idx_some h
  have hk : k < n := I.len ▸ a
  rcases I.okm k hk with e | ⟨j, h1, h2, h3⟩
  · rw [b] at e; omega
  · rw [b] at h2
    obtain rfl : i = j := by omega
    exact ⟨hk, h1, b, h3⟩
theorem bird_mem (I : MInv L n n out) : ∀ f i, i < n → ∀ j, j ∈ birdM out f i → j < n ∧ (j = i ∨ (L i j = true ∨ True) ∧ ∃ p, p ∈ birdM out f i ∧ out.getD j 0 = (p : Nat)) := by
  intro f
  induction f with
  | zero => intro i hi j hj; simp [birdM] at hj; subst hj; exact ⟨hi, .inl rfl⟩
  | succ f ih =>
    intro i hi j hj
    unfold birdM at hj ⊢
    cases e : idx (i : Int) out with
    | none => rw [e] at hj; simp at hj; subst hj; exact ⟨hi, .inl rfl⟩
    | some k =>
      rw [e] at hj
      obtain ⟨a, b, c, d⟩ := next_led I e
      rcases List.mem_cons.1 hj with rfl | hj
      · exact ⟨hi, .inl rfl⟩
      · obtain ⟨h1, h2⟩ := ih k a j hj
        refine ⟨h1, .inr ⟨.inr trivial, ?_⟩⟩
        rcases h2 with rfl | ⟨_, p, hp, hq⟩
        · exact ⟨i, List.mem_cons_self .., c⟩
        · exact ⟨p, List.mem_cons_of_mem _ hp, hq⟩
theorem bird_chain (O : Ord L n ρ) (I : MInv L n n out) : ∀ f i, i < n → Chain L (birdM out f i) ∧ ∀ j, j ∈ birdM out f i → j = i ∨ L i j = true := by
  intro f
  induction f with
  | zero => intro i hi; simp [birdM, Chain]
  | succ f ih =>
    intro i hi
    unfold birdM
    cases e : idx (i : Int) out with
    | none => simp [Chain]
    | some k =>
      obtain ⟨a, b, c, d⟩ := next_led I e
      obtain ⟨h1, h2⟩ := ih k a
      have h3 : ∀ j, j ∈ birdM out f k → L i j = true := fun j hj => by
        rcases h2 j hj with rfl | h
        · exact d
        · exact O.tr i k j hi a (bird_mem I f k a j hj).1 d h
      refine ⟨List.pairwise_cons.2 ⟨h3, h1⟩, fun j hj => ?_⟩
      rcases List.mem_cons.1 hj with rfl | hj
      · exact .inl rfl
      · exact .inr (h3 j hj)
/-- With fuel enough what comes next is in it. -/
theorem bird_next (O : Ord L n ρ) (I : MInv L n n out) : ∀ f i, i < n → n ≤ f + ρ i + 1 → ∀ p, p ∈ birdM out f i → ∀ k, idx (p : Int) out = some k → k ∈ birdM out f i := by
  intro f
  induction f with
  | zero =>
    intro i hi hf p hp k hk
    simp [birdM] at hp
    subst hp
    obtain ⟨a, b, c, d⟩ := next_led I hk
    have := O.lt p k b a d
    have := O.le k a
    omega
  | succ f ih =>
    intro i hi hf p hp k hk
    unfold birdM at hp ⊢
    cases e : idx (i : Int) out with
    | none => rw [e] at hp; simp at hp; subst hp; rw [e] at hk; cases hk
    | some q =>
      rw [e] at hp
      obtain ⟨a, b, c, d⟩ := next_led I e
      have := O.lt i q b a d
      rcases List.mem_cons.1 hp with rfl | hp
      · rw [e] at hk
        cases hk
        refine List.mem_cons_of_mem _ ?_
        cases f <;> unfold birdM <;> (try split) <;> simp
      · exact List.mem_cons_of_mem _ (ih q a (by omega) p hp k hk)
/-- All birds. -/
def birdsM (n : Nat) (out : List Int) : List (List Nat) := ((List.range n).filter fun i => decide (out.getD i 0 = -1)).map fun i => birdM out n i
theorem bird_cover (O : Ord L n ρ) (I : MInv L n n out) : ∀ m j, j < n → ρ j < m → ∃ i, i < n ∧ out.getD i 0 = -1 ∧ j ∈ birdM out n i := by
  intro m
  induction m with
  | zero => intro j _ h; omega
  | succ m ih =>
    intro j hj hm
    rcases I.okm j hj with e | ⟨p, h1, h2, h3⟩
    · refine ⟨j, hj, e, ?_⟩
      cases n <;> unfold birdM <;> (try split) <;> simp
    · obtain ⟨i, a, b, c⟩ := ih p h1 (by have := O.lt p j h1 hj h3; omega)
      refine ⟨i, a, b, bird_next O I n i a (by omega) p c j ?_⟩
      cases e : idx (p : Int) out with
      | none => exact absurd h2 (idx_none e j (by rw [I.len]; exact hj))
      | some k =>
        obtain ⟨k1, k2, k3⟩ := idx_some e
        congr 1
        rcases Nat.lt_trichotomy k j with h | h | h
        · have := count_two k1 (by rw [I.len]; exact hj) h k2 h2
          have := I.one p
          omega
        · exact h
        · exact absurd h2 (k3 j h)
theorem bird_only (O : Ord L n ρ) (I : MInv L n n out) : ∀ m j i i', ρ j < m → i < n → i' < n → out.getD i 0 = -1 → out.getD i' 0 = -1 → j ∈ birdM out n i → j ∈ birdM out n i' → i = i' := by
  intro m
  induction m with
  | zero => intro j _ _ h; omega
  | succ m ih =>
    intro j i i' hm hi hi' h1 h2 h3 h4
    obtain ⟨hj, a⟩ := bird_mem I n i hi j h3
    obtain ⟨_, b⟩ := bird_mem I n i' hi' j h4
    rcases a with rfl | ⟨_, p, hp, hq⟩
    · rcases b with rfl | ⟨_, p, hp, hq⟩
      · rfl
      · rw [h1] at hq; omega
    · rcases b with rfl | ⟨_, p', hp', hq'⟩
      · rw [h2] at hq; omega
      · obtain rfl : p = p' := by omega
        rcases I.okm j hj with e | ⟨q, g1, g2, g3⟩
        · rw [hq] at e; omega
        · obtain rfl : p = q := by omega
          exact ih p i i' (by have := O.lt p j g1 hj g3; omega) hi hi' h1 h2 hp hp'
end
theorem countF_le : ∀ (a b : List Bool), a.length = b.length → (∀ k, k < a.length → a.getD k true = true → b.getD k true = true) → b.count false ≤ a.count false := by
  intro a
  induction a with
  | nil => intro b hb _; cases b <;> simp_all
  | cons x a iha =>
    intro b hb h
    cases b with
    | nil => simp at hb
    | cons y b =>
      have h1 := iha b (by simpa using hb) fun k hk hx => by
        have := h (k + 1) (by simp; omega) (by simpa using hx)
        simpa using this
      have h2 := h 0 (by simp)
      simp only [List.getD_cons_zero] at h2
      simp only [List.count_cons]
      cases x <;> cases y <;> simp_all <;> omega
section
variable {R : Nat → List Bool → List Int → Bool × List Bool × List Int} {L : Nat → Nat → Bool} {i n d k : Nat} {tr : List Bool} {out : List Int}
theorem augL_skip (hk : n - (d + 1) = k) (h : tr.getD k true = true ∨ L i k = false) : augL R L i n (d + 1) tr out = augL R L i n d tr out := by
  subst hk
  rw [augL, if_pos h]
theorem augL_free (hk : n - (d + 1) = k) (h : tr.getD k true = false) (h2 : L i k = true) (h3 : out.getD k 0 = -1) : augL R L i n (d + 1) tr out = (true, tr.set k true, out.set k (i : Int)) := by
  subst hk
  rw [augL, if_neg (by rw [h, h2]; simp), if_pos h3]
theorem augL_yes (hk : n - (d + 1) = k) (h : tr.getD k true = false) (h2 : L i k = true) {j : Nat} (h3 : out.getD k 0 = (j : Nat)) (h4 : (R j (tr.set k true) out).1 = true) : augL R L i n (d + 1) tr out = (true, (R j (tr.set k true) out).2.1, (R j (tr.set k true) out).2.2.set k (i : Int)) := by
  subst hk
  have e : (out.getD (n - (d + 1)) 0).toNat = j := by rw [h3]; simp
  rw [augL, if_neg (by rw [h, h2]; simp), if_neg (by omega), e, if_pos h4]
theorem augL_no (hk : n - (d + 1) = k) (h : tr.getD k true = false) (h2 : L i k = true) {j : Nat} (h3 : out.getD k 0 = (j : Nat)) (h4 : (R j (tr.set k true) out).1 = false) : augL R L i n (d + 1) tr out = augL R L i n d (R j (tr.set k true) out).2.1 (R j (tr.set k true) out).2.2 := by
  subst hk
  have e : (out.getD (n - (d + 1)) 0).toNat = j := by rw [h3]; simp
  rw [augL, if_neg (by rw [h, h2]; simp), if_neg (by omega), e, if_neg (by rw [h4]; simp)]
end
end Go.Proofs.Ytlljjaafejjeeaa
