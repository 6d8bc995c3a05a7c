/- Layer 7, mathematics: circles of envy and their turns. -/
import Derived.Test.YtjmjafpjfhgfdaaDBase
import Derived.Test.YtjmjafpjfhgfdaaDMath
namespace Go.Proofs.Ytjmjafpjfhgfdaa

section
/-- The first of some lists that is not empty. -/
def scanF (g : Nat → List Nat) : Nat → Nat → List Nat
  | 0, _ => []
  | c + 1, x => if g x = [] then scanF g c (x + 1) else g x
/-- The first circle of envy that begins with a path. -/
def circF (E : Nat → Nat → Bool) (k : Nat) : Nat → List Nat → List Nat
  | 0, _ => []
  | d + 1, p => if E (p.getD (p.length - 1) 0) (p.getD 0 0) = true then p
    else scanF (fun x => if p.contains x = true ∨ E (p.getD (p.length - 1) 0) x = false then [] else circF E k d (p ++ [x])) (k - (p.getD 0 0 + 1)) (p.getD 0 0 + 1)
/-- The first circle of all. -/
def circA (E : Nat → Nat → Bool) (k : Nat) : List Nat := scanF (fun c => circF E k k [c]) k 0
/-- A path of envy. -/
structure Path (E : Nat → Nat → Bool) (k : Nat) (p : List Nat) : Prop where
  pos : 0 < p.length
  lt : ∀ i, i < p.length → p.getD i 0 < k
  low : ∀ i, i < p.length → 0 < i → p.getD 0 0 < p.getD i 0
  dif : ∀ i j, i < p.length → j < p.length → p.getD i 0 = p.getD j 0 → i = j
  env : ∀ i, i + 1 < p.length → E (p.getD i 0) (p.getD (i + 1) 0) = true
def Cyc (E : Nat → Nat → Bool) (k : Nat) (p : List Nat) : Prop := Path E k p ∧ E (p.getD (p.length - 1) 0) (p.getD 0 0) = true
variable {E : Nat → Nat → Bool} {k : Nat}
theorem getD_app {p : List Nat} {x i : Nat} : (p ++ [x]).getD i 0 = if i < p.length then p.getD i 0 else if i = p.length then x else 0 := by
  simp only [List.getD_eq_getElem?_getD]
  by_cases h : i < p.length
  · rw [if_pos h, List.getElem?_append_left h]
  · rw [if_neg h, List.getElem?_append_right (by omega)]
    by_cases e : i = p.length
    · subst e; simp
    · rw [if_neg e]
      have : 0 < i - p.length := by omega
      obtain ⟨q, hq⟩ : ∃ q, i - p.length = q + 1 := ⟨i - p.length - 1, by omega⟩
      rw [hq]; rfl
theorem mem_getD {p : List Nat} {x : Nat} : x ∈ p ↔ ∃ i, i < p.length ∧ p.getD i 0 = x := by
  rw [List.mem_iff_getElem]
  constructor
  · rintro ⟨i, hi, e⟩
    exact ⟨i, hi, by rw [List.getD_eq_getElem?_getD, List.getElem?_eq_getElem hi]; exact e⟩
  · rintro ⟨i, hi, e⟩
    exact ⟨i, hi, by rw [List.getD_eq_getElem?_getD, List.getElem?_eq_getElem hi] at e; exact e⟩
theorem Path.one {c : Nat} (h : c < k) : Path E k [c] :=
  ⟨by simp, fun i hi => by simp at hi; subst hi; exact h, fun i hi h0 => by simp at hi; omega, fun i j hi hj _ => by simp at hi hj; omega, fun i hi => by simp at hi⟩
theorem Path.more {p : List Nat} {x : Nat} (P : Path E k p) (h1 : p.getD 0 0 < x) (h2 : x < k) (h3 : p.contains x = false) (h4 : E (p.getD (p.length - 1) 0) x = true) : Path E k (p ++ [x]) := by
  have hp := P.pos
  have hx : ∀ i, i < p.length → p.getD i 0 ≠ x := fun i hi e => by
    have : x ∈ p := mem_getD.2 ⟨i, hi, e⟩
    simp at h3
    exact h3 this
  refine ⟨by simp, fun i hi => ?_, fun i hi h0 => ?_, fun i j hi hj e => ?_, fun i hi => ?_⟩
  · rw [getD_app]
    simp at hi
    split
    · exact P.lt i (by omega)
    · rw [if_pos (by omega)]; exact h2
  · simp at hi
    rw [getD_app, getD_app, if_pos hp]
    split
    · exact P.low i (by omega) h0
    · rw [if_pos (by omega)]; exact h1
  · simp at hi hj
    rw [getD_app, getD_app] at e
    by_cases a : i < p.length <;> by_cases b : j < p.length
    · rw [if_pos a, if_pos b] at e; exact P.dif i j a b e
    · rw [if_pos a, if_neg b, if_pos (by omega)] at e; exact absurd e (hx i a)
    · rw [if_neg a, if_pos b, if_pos (by omega)] at e; exact absurd e.symm (hx j b)
    · omega
  · simp at hi
    rw [getD_app, getD_app, if_pos (by omega)]
    by_cases b : i + 1 < p.length
    · rw [if_pos b]; exact P.env i b
    · rw [if_neg b, if_pos (by omega)]
      have : i = p.length - 1 := by omega
      rw [this]; exact h4
theorem nodup_len : ∀ (k : Nat) (p : List Nat), (∀ x, x ∈ p → x < k) → p.Nodup → p.length ≤ k := by
  intro k
  induction k with
  | zero =>
    intro p h _
    cases p with
    | nil => simp
    | cons a p => exact absurd (h a (by simp)) (by omega)
  | succ k ih =>
    intro p h hn
    have h1 := ih (p.filter fun x => decide (x ≠ k)) (fun x hx => by
      have := List.mem_filter.1 hx
      have h2 := h x this.1
      simp at this
      omega) (hn.sublist List.filter_sublist)
    by_cases hk : k ∈ p
    · have h2 : (p.filter fun x => decide (x ≠ k)).length + 1 = p.length := by
        have e1 := List.Nodup.count hn (a := k)
        rw [if_pos hk] at e1
        have e2 : ∀ (q : List Nat), (q.filter fun x => decide (x ≠ k)).length + q.count k = q.length := by
          intro q
          induction q with
          | nil => rfl
          | cons a q ihq =>
            by_cases e : a = k
            · subst e; simp at ihq ⊢; omega
            · simp [e] at ihq ⊢; omega
        have := e2 p
        omega
      omega
    · have h2 : (p.filter fun x => decide (x ≠ k)) = p := List.filter_eq_self.2 fun x hx => by
        simp; intro e; subst e; exact hk hx
      rw [h2] at h1
      omega
theorem nodup_getD {p : List Nat} (h : ∀ i j, i < p.length → j < p.length → p.getD i 0 = p.getD j 0 → i = j) : p.Nodup := by
  rw [List.nodup_iff_pairwise_ne, List.pairwise_iff_getElem]
  intro i j hi hj hij e
  have := h i j hi hj (by rw [List.getD_eq_getElem?_getD, List.getD_eq_getElem?_getD, List.getElem?_eq_getElem hi, List.getElem?_eq_getElem hj]; exact e)
  omega
theorem Path.len {p : List Nat} (P : Path E k p) : p.length ≤ k :=
  nodup_len k p (fun x hx => by obtain ⟨i, hi, e⟩ := mem_getD.1 hx; rw [← e]; exact P.lt i hi) (nodup_getD P.dif)
theorem scanF_some {g : Nat → List Nat} : ∀ (c x : Nat), scanF g c x ≠ [] → ∃ y, x ≤ y ∧ y < x + c ∧ scanF g c x = g y ∧ g y ≠ [] := by
  intro c
  induction c with
  | zero => intro x h; exact absurd rfl h
  | succ c ih =>
    intro x h
    unfold scanF at h ⊢
    by_cases e : g x = []
    · rw [if_pos e] at h ⊢
      obtain ⟨y, h1, h2, h3, h4⟩ := ih (x + 1) h
      exact ⟨y, by omega, by omega, h3, h4⟩
    · rw [if_neg e]
      exact ⟨x, by omega, by omega, rfl, e⟩
theorem scanF_has {g : Nat → List Nat} : ∀ (c x y : Nat), x ≤ y → y < x + c → g y ≠ [] → scanF g c x ≠ [] := by
  intro c
  induction c with
  | zero => intro x y h1 h2; omega
  | succ c ih =>
    intro x y h1 h2 h3
    unfold scanF
    by_cases e : g x = []
    · rw [if_pos e]
      by_cases q : x = y
      · subst q; exact absurd e h3
      · exact ih (x + 1) y (by omega) (by omega) h3
    · rw [if_neg e]; exact e
theorem circF_cyc : ∀ (d : Nat) (p : List Nat), Path E k p → circF E k d p ≠ [] → Cyc E k (circF E k d p) := by
  intro d
  induction d with
  | zero => intro p _ h; exact absurd rfl h
  | succ d ih =>
    intro p P h
    unfold circF at h ⊢
    by_cases e : E (p.getD (p.length - 1) 0) (p.getD 0 0) = true
    · rw [if_pos e]; exact ⟨P, e⟩
    · rw [if_neg e] at h ⊢
      obtain ⟨y, h1, h2, h3, h4⟩ := scanF_some _ _ h
      rw [h3]
      by_cases q : p.contains y = true ∨ E (p.getD (p.length - 1) 0) y = false
      · rw [if_pos q] at h4; exact absurd rfl h4
      · rw [if_neg q] at h4 ⊢
        have hp := P.lt 0 P.pos
        exact ih _ (P.more (by omega) (by omega) (by simp at q ⊢; exact q.1) (by simp at q ⊢; exact q.2)) h4
theorem circA_cyc (h : circA E k ≠ []) : Cyc E k (circA E k) := by
  unfold circA at h ⊢
  obtain ⟨y, h1, h2, h3, h4⟩ := scanF_some _ _ h
  rw [h3]
  exact circF_cyc _ _ (Path.one (by omega)) h4
/-- A circle is found if there is one. -/
theorem circF_has {l : List Nat} (C : Cyc E k l) : ∀ (c d i : Nat), l.length = i + c → 0 < i → c < d → circF E k d (l.take i) ≠ [] := by
  have P := C.1
  intro c
  induction c with
  | zero =>
    intro d i hl h0 hd
    obtain ⟨d, rfl⟩ : ∃ e, d = e + 1 := ⟨d - 1, by omega⟩
    have e : l.take i = l := List.take_of_length_le (by omega)
    rw [e]
    unfold circF
    rw [if_pos C.2]
    intro h
    have := P.pos
    rw [h] at this
    simp at this
  | succ c ih =>
    intro d i hl h0 hd
    obtain ⟨d, rfl⟩ : ∃ e, d = e + 1 := ⟨d - 1, by omega⟩
    have hli : (l.take i).length = i := by simp; omega
    have g : ∀ j, j < i → (l.take i).getD j 0 = l.getD j 0 := fun j hj => by
      simp only [List.getD_eq_getElem?_getD, List.getElem?_take, if_pos hj]
    unfold circF
    rw [hli, g 0 h0, g (i - 1) (by omega)]
    by_cases e : E (l.getD (i - 1) 0) (l.getD 0 0) = true
    · rw [if_pos e]
      intro h
      rw [h] at hli
      simp at hli
      omega
    · rw [if_neg e]
      have hx := P.lt i (by omega)
      have hlo := P.low i (by omega) h0
      refine scanF_has _ _ (l.getD i 0) (by omega) (by omega) ?_
      have q : ¬ ((l.take i).contains (l.getD i 0) = true ∨ E (l.getD (i - 1) 0) (l.getD i 0) = false) := by
        intro q
        rcases q with q | q
        · simp only [List.contains_iff_mem] at q
          obtain ⟨j, hj, ej⟩ := mem_getD.1 q
          rw [hli] at hj
          rw [g j hj] at ej
          have := P.dif j i (by omega) (by omega) ej
          omega
        · have := P.env (i - 1) (by omega)
          rw [show i - 1 + 1 = i by omega] at this
          rw [this] at q
          cases q
      rw [if_neg q]
      have e2 : l.take i ++ [l.getD i 0] = l.take (i + 1) := by
        rw [List.take_add_one, List.getElem?_eq_getElem (by omega : i < l.length), List.getD_eq_getElem?_getD, List.getElem?_eq_getElem (by omega : i < l.length)]
        rfl
      rw [e2]
      exact ih d (i + 1) (by omega) (by omega) (by omega)
theorem circA_has {l : List Nat} (C : Cyc E k l) : circA E k ≠ [] := by
  have hp := C.1.pos
  have hl := C.1.len
  have h0 := C.1.lt 0 hp
  unfold circA
  refine scanF_has _ _ (l.getD 0 0) (by omega) (by omega) ?_
  have h := circF_has C (l.length - 1) k 1 (by omega) (by omega) (by omega)
  have e : l.take 1 = [l.getD 0 0] := by
    cases l with
    | nil => simp at hp
    | cons a l => rfl
  rw [e] at h
  exact h
/-- Is a list a circle of envy? -/
def okC (k : Nat) (c : Nat → Int) (i : Nat) : Bool := (inS k (c i) && decide (c 0 ≤ c i)) && allB i fun j => !decide (c j = c i)
def cirB (E : Nat → Nat → Bool) (k : Nat) (c : Nat → Int) (m : Nat) : Bool := (allB m (okC k c) && allB m fun i => E (c i).toNat (c ((i + 1) % m)).toNat) && decide (1 < m)
theorem cir_of_cyc (hE : ∀ i, E i i = false) {p : List Nat} (C : Cyc E k p) {c : Nat → Int} (hc : ∀ i, i < p.length → c i = (p.getD i 0 : Nat)) : cirB E k c p.length = true := by
  have P := C.1
  have hp := P.pos
  unfold cirB okC inS
  simp only [Bool.and_eq_true, allB_iff, decide_eq_true_eq]
  refine ⟨⟨fun i hi => ⟨⟨?_, ?_⟩, fun j hj => ?_⟩, fun i hi => ?_⟩, ?_⟩
  · rw [hc i hi]
    have := P.lt i hi
    omega
  · rw [hc i hi, hc 0 hp]
    by_cases e : i = 0
    · subst e; exact Int.le_refl _
    · have := P.low i hi (by omega); omega
  · rw [hc i hi, hc j (by omega)]
    simp
    intro e
    have := P.dif j i (by omega) hi (by simp only [List.getD_eq_getElem?_getD]; omega)
    omega
  · rw [hc i hi, hc _ (Nat.mod_lt _ hp)]
    simp only [Int.toNat_natCast]
    by_cases e : i + 1 = p.length
    · rw [e, Nat.mod_self]
      have := C.2
      rw [show p.length - 1 = i by omega] at this
      exact this
    · rw [Nat.mod_eq_of_lt (by omega)]
      exact P.env i (by omega)
  · apply Decidable.byContradiction
    intro h
    have h1 : p.length = 1 := by omega
    have := C.2
    rw [h1, hE] at this
    cases this
/-- What becomes of a strip's owner when a circle is turned. -/
def turnTo (c : Nat → Int) (m : Nat) (x : Int) : Nat → Int
  | 0 => x
  | p + 1 => if x = c p then (if p = 0 then c (m - 1) else c (p - 1)) else turnTo c m x p
def rturnTo (c : Nat → Int) (m : Nat) (x : Int) : Nat → Int
  | 0 => x
  | p + 1 => if x = c ((p + 1) % m) then c p else rturnTo c m x p
theorem turnTo_at {c : Nat → Int} {m : Nat} {x : Int} : ∀ p, p ≤ m → (∀ i j, i < m → j < m → c i = c j → i = j) → ∀ q, q < p → x = c q → turnTo c m x p = if q = 0 then c (m - 1) else c (q - 1) := by
  intro p
  induction p with
  | zero => intro _ _ q hq; omega
  | succ p ih =>
    intro hp hd q hq hx
    unfold turnTo
    by_cases e : x = c p
    · rw [if_pos e]
      have : q = p := hd q p (by omega) (by omega) (by rw [← hx, e])
      subst this
      rfl
    · rw [if_neg e]
      have : q ≠ p := fun h => e (by rw [hx, h])
      exact ih (by omega) hd q (by omega) hx
theorem turnTo_none {c : Nat → Int} {m : Nat} {x : Int} : ∀ p, (∀ q, q < p → x ≠ c q) → turnTo c m x p = x := by
  intro p
  induction p with
  | zero => intro _; rfl
  | succ p ih =>
    intro h
    unfold turnTo
    rw [if_neg (h p (by omega))]
    exact ih fun q hq => h q (by omega)
theorem rturnTo_at {c : Nat → Int} {m : Nat} {x : Int} : ∀ p, p ≤ m → (∀ i j, i < m → j < m → c i = c j → i = j) → ∀ q, q < p → x = c ((q + 1) % m) → rturnTo c m x p = c q := by
  intro p
  induction p with
  | zero => intro _ _ q hq; omega
  | succ p ih =>
    intro hp hd q hq hx
    unfold rturnTo
    have hm : 0 < m := by omega
    by_cases e : x = c ((p + 1) % m)
    · rw [if_pos e]
      have h1 := hd ((q + 1) % m) ((p + 1) % m) (Nat.mod_lt _ hm) (Nat.mod_lt _ hm) (by rw [← hx, e])
      have h2 : q = p := by
        by_cases a : q + 1 = m
        · omega
        · rw [Nat.mod_eq_of_lt (by omega)] at h1
          by_cases b : p + 1 = m
          · rw [b, Nat.mod_self] at h1; omega
          · rw [Nat.mod_eq_of_lt (by omega)] at h1; omega
      rw [h2]
    · rw [if_neg e]
      have : q ≠ p := fun h => e (by rw [hx, h])
      exact ih (by omega) hd q (by omega) hx
theorem rturnTo_none {c : Nat → Int} {m : Nat} {x : Int} : ∀ p, (∀ q, q < p → x ≠ c ((q + 1) % m)) → rturnTo c m x p = x := by
  intro p
  induction p with
  | zero => intro _; rfl
  | succ p ih =>
    intro h
    unfold rturnTo
    rw [if_neg (h p (by omega))]
    exact ih fun q hq => h q (by omega)
theorem turn_same {c : Nat → Int} {m : Nat} {x : Int} (hd : ∀ i j, i < m → j < m → c i = c j → i = j) : turnTo c m x m = rturnTo c m x m := by
  by_cases h : ∃ q, q < m ∧ x = c q
  · obtain ⟨q, hq, hx⟩ := h
    rw [turnTo_at m (Nat.le_refl _) hd q hq hx]
    by_cases e : q = 0
    · rw [if_pos e]
      subst e
      refine (rturnTo_at m (Nat.le_refl _) hd (m - 1) (by omega) ?_).symm
      rw [show m - 1 + 1 = m by omega, Nat.mod_self]; exact hx
    · rw [if_neg e]
      refine (rturnTo_at m (Nat.le_refl _) hd (q - 1) (by omega) ?_).symm
      rw [show q - 1 + 1 = q by omega, Nat.mod_eq_of_lt hq]; exact hx
  · rw [turnTo_none m fun q hq hx => h ⟨q, hq, hx⟩, rturnTo_none m fun q hq hx => h ⟨_, Nat.mod_lt _ (by omega), hx⟩]
theorem cir_dif {c : Nat → Int} {m : Nat} (h : cirB E k c m = true) : (∀ i j, i < m → j < m → c i = c j → i = j) ∧ (∀ i, i < m → 0 ≤ c i ∧ c i < k) ∧ (∀ i, i < m → E (c i).toNat (c ((i + 1) % m)).toNat = true) ∧ 1 < m := by
  unfold cirB okC inS at h
  simp only [Bool.and_eq_true, allB_iff, decide_eq_true_eq] at h
  obtain ⟨⟨h1, h2⟩, h3⟩ := h
  refine ⟨fun i j hi hj e => ?_, fun i hi => (h1 i hi).1.1, h2, h3⟩
  rcases Nat.lt_trichotomy i j with q | q | q
  · have := (h1 j hj).2 i q
    simp at this
    exact absurd e this
  · exact q
  · have := (h1 i hi).2 j q
    simp at this
    exact absurd e.symm this
/-- What the strips are worth behind a turn. -/
theorem wth_turn {f s c : Nat → Int} {m n : Nat} (hd : ∀ i j, i < m → j < m → c i = c j → i = j) (hm : 0 < m) {p : Nat} (hp : p < m) : wth f (fun j => turnTo c m (s j) m) (c p) n = wth f s (c ((p + 1) % m)) n := by
  have key : ∀ x : Int, turnTo c m x m = c p ↔ x = c ((p + 1) % m) := by
    intro x
    rw [turn_same hd]
    constructor
    · intro h
      by_cases e : ∃ q, q < m ∧ x = c ((q + 1) % m)
      · obtain ⟨q, hq, hx⟩ := e
        rw [rturnTo_at m (Nat.le_refl _) hd q hq hx] at h
        rw [hd q p hq hp h] at hx
        exact hx
      · rw [rturnTo_none m fun q hq hx => e ⟨q, hq, hx⟩] at h
        exfalso
        apply e
        by_cases e2 : p = 0
        · exact ⟨m - 1, by omega, by rw [show m - 1 + 1 = m by omega, Nat.mod_self, ← e2]; exact h⟩
        · exact ⟨p - 1, by omega, by rw [show p - 1 + 1 = p by omega, Nat.mod_eq_of_lt hp]; exact h⟩
    · intro h
      exact rturnTo_at m (Nat.le_refl _) hd p hp h
  induction n with
  | zero => rfl
  | succ n ih =>
    rw [wth_succ, wth_succ, ih]
    by_cases e : s n = c ((p + 1) % m)
    · rw [if_pos e, if_pos ((key _).2 e)]
    · rw [if_neg e, if_neg fun h => e ((key _).1 h)]
theorem wth_out {f s c : Nat → Int} {m n : Nat} (hd : ∀ i j, i < m → j < m → c i = c j → i = j) {o : Int} (ho : ∀ p, p < m → c p ≠ o) : wth f (fun j => turnTo c m (s j) m) o n = wth f s o n := by
  have key : ∀ x : Int, turnTo c m x m = o ↔ x = o := by
    intro x
    by_cases e : ∃ q, q < m ∧ x = c q
    · obtain ⟨q, hq, hx⟩ := e
      rw [turnTo_at m (Nat.le_refl _) hd q hq hx]
      constructor
      · intro h
        split at h
        · exact absurd h (ho _ (by omega))
        · exact absurd h (ho _ (by omega))
      · intro h
        exact absurd (hx.symm.trans h) (ho q hq)
    · rw [turnTo_none m fun q hq hx => e ⟨q, hq, hx⟩]
  induction n with
  | zero => rfl
  | succ n ih =>
    rw [wth_succ, wth_succ, ih]
    by_cases e : s n = o
    · rw [if_pos e, if_pos ((key _).2 e)]
    · rw [if_neg e, if_neg fun h => e ((key _).1 h)]
theorem turnTo_in {c : Nat → Int} {m : Nat} {x : Int} {K : Int} (hc : ∀ i, i < m → 0 ≤ c i ∧ c i < K) (hx : 0 ≤ x ∧ x < K) : ∀ p, p ≤ m → 0 ≤ turnTo c m x p ∧ turnTo c m x p < K := by
  intro p
  induction p with
  | zero => intro _; exact hx
  | succ p ih =>
    intro hp
    unfold turnTo
    split
    · split
      · exact hc _ (by omega)
      · exact hc _ (by omega)
    · exact ih (by omega)
end
end Go.Proofs.Ytjmjafpjfhgfdaa
