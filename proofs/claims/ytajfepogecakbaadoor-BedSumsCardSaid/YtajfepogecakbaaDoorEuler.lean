/- Plain facts on what hangs together: sets over the first edges and over the others, counted against each other. -/
import Init
namespace Go.Proofs.YtajfepogecakbaaDoor

/-! Plain facts on what hangs together. -/
/-- Hanging together over a list of pairs. -/
inductive Conn (es : List (Nat × Nat)) : Nat → Nat → Prop
  | refl (u : Nat) : Conn es u u
  | fwd {u v w : Nat} : Conn es u v → (v, w) ∈ es → Conn es u w
  | bwd {u v w : Nat} : Conn es u v → (w, v) ∈ es → Conn es u w

theorem Conn.trans {es : List (Nat × Nat)} {u v w : Nat} (h : Conn es u v) (k : Conn es v w) : Conn es u w := by
  induction k with
  | refl => exact h
  | fwd _ e ih => exact .fwd ih e
  | bwd _ e ih => exact .bwd ih e
theorem Conn.edge {es : List (Nat × Nat)} {u v : Nat} (h : (u, v) ∈ es) : Conn es u v := .fwd (.refl u) h
theorem Conn.edge' {es : List (Nat × Nat)} {u v : Nat} (h : (u, v) ∈ es) : Conn es v u := .bwd (.refl v) h
theorem Conn.symm {es : List (Nat × Nat)} {u v : Nat} (h : Conn es u v) : Conn es v u := by
  induction h with
  | refl => exact .refl _
  | fwd _ e ih => exact (Conn.edge' e).trans ih
  | bwd _ e ih => exact (Conn.edge e).trans ih
theorem Conn.mono {es fs : List (Nat × Nat)} (hs : ∀ e ∈ es, e ∈ fs) {u v : Nat} (h : Conn es u v) : Conn fs u v := by
  induction h with
  | refl => exact .refl _
  | fwd _ e ih => exact .fwd ih (hs _ e)
  | bwd _ e ih => exact .bwd ih (hs _ e)
/-- What every pair keeps, all that hangs together keeps. -/
theorem Conn.keeps {es : List (Nat × Nat)} {p : Nat → Prop} (hp : ∀ a b, (a, b) ∈ es → (p a ↔ p b)) {u v : Nat} (h : Conn es u v) : p u ↔ p v := by
  induction h with
  | refl => exact Iff.rfl
  | fwd _ e ih => exact ih.trans (hp _ _ e)
  | bwd _ e ih => exact ih.trans (hp _ _ e).symm
/-- One pair more. -/
theorem conn_cons {es : List (Nat × Nat)} {a b u v : Nat} : Conn ((a, b) :: es) u v ↔ Conn es u v ∨ (Conn es u a ∧ Conn es b v) ∨ (Conn es u b ∧ Conn es a v) := by
  constructor
  · intro h
    induction h with
    | refl => exact .inl (.refl _)
    | @fwd v w _ e ih =>
      rcases List.mem_cons.1 e with e | e
      · cases e
        rcases ih with h | ⟨h, k⟩ | ⟨h, k⟩
        · exact .inr (.inl ⟨h, .refl _⟩)
        · exact .inr (.inl ⟨h, .refl _⟩)
        · exact .inl h
      · rcases ih with h | ⟨h, k⟩ | ⟨h, k⟩
        · exact .inl (.fwd h e)
        · exact .inr (.inl ⟨h, .fwd k e⟩)
        · exact .inr (.inr ⟨h, .fwd k e⟩)
    | @bwd v w _ e ih =>
      rcases List.mem_cons.1 e with e | e
      · cases e
        rcases ih with h | ⟨h, k⟩ | ⟨h, k⟩
        · exact .inr (.inr ⟨h, .refl _⟩)
        · exact .inl h
        · exact .inr (.inr ⟨h, .refl _⟩)
      · rcases ih with h | ⟨h, k⟩ | ⟨h, k⟩
        · exact .inl (.bwd h e)
        · exact .inr (.inl ⟨h, .bwd k e⟩)
        · exact .inr (.inr ⟨h, .bwd k e⟩)
  · have m : ∀ {u v}, Conn es u v → Conn ((a, b) :: es) u v := fun h => h.mono fun e he => List.mem_cons_of_mem _ he
    have e0 : Conn ((a, b) :: es) a b := .edge (by simp)
    rintro (h | ⟨h, k⟩ | ⟨h, k⟩)
    · exact m h
    · exact ((m h).trans e0).trans (m k)
    · exact ((m h).trans e0.symm).trans (m k)

/-- The least that hangs together with it. -/
def IsRoot (R : Nat → Nat → Prop) (i : Nat) : Prop := ∀ j, j < i → ¬ R j i
open Classical in
/-- How many sets hang together, of 0 to n - 1. -/
noncomputable def comps (n : Nat) (R : Nat → Nat → Prop) : Nat := ((List.range n).filter fun i => decide (IsRoot R i)).length

theorem root_of {R : Nat → Nat → Prop} (hr : ∀ a, R a a) (ht : ∀ {a b c}, R a b → R b c → R a c) : ∀ i, ∃ r, r ≤ i ∧ IsRoot R r ∧ R r i := by
  intro i
  induction i using Nat.strongRecOn with
  | _ i ih =>
    by_cases h : IsRoot R i
    · exact ⟨i, Nat.le_refl _, h, hr i⟩
    · unfold IsRoot at h
      have : ∃ j, j < i ∧ R j i := by
        apply Classical.byContradiction
        intro hne
        exact h fun j hj hR => hne ⟨j, hj, hR⟩
      obtain ⟨j, hj, hR⟩ := this
      obtain ⟨r, h1, h2, h3⟩ := ih j hj
      exact ⟨r, by omega, h2, ht h3 hR⟩
theorem root_unique {R : Nat → Nat → Prop} (hs : ∀ {a b}, R a b → R b a) {r s : Nat} (h1 : IsRoot R r) (h2 : IsRoot R s) (h : R r s) : r = s := by
  rcases Nat.lt_trichotomy r s with h3 | h3 | h3
  · exact absurd h (h2 r h3)
  · exact h3
  · exact absurd (hs h) (h1 s h3)

theorem comps_congr {n : Nat} {R S : Nat → Nat → Prop} (h : ∀ i j, i < n → j < n → (R i j ↔ S i j)) : comps n R = comps n S := by
  unfold comps
  congr 1
  apply List.filter_congr
  intro i hi
  have hi := List.mem_range.1 hi
  have : IsRoot R i ↔ IsRoot S i := by
    unfold IsRoot
    constructor
    · intro k j hj hS; exact k j hj ((h j i (by omega) hi).2 hS)
    · intro k j hj hR; exact k j hj ((h j i (by omega) hi).1 hR)
  simp [this]

theorem filter_but {p : Nat → Bool} {r : Nat} (hr : p r = true) : ∀ n, r < n → ((List.range n).filter p).length = ((List.range n).filter fun i => p i && decide (i ≠ r)).length + 1
  | 0, h => by omega
  | n + 1, h => by
    rw [List.range_succ, List.filter_append, List.filter_append, List.length_append, List.length_append]
    by_cases e : r = n
    · subst e
      have : ((List.range r).filter p) = ((List.range r).filter fun i => p i && decide (i ≠ r)) := by
        apply List.filter_congr
        intro i hi
        have := List.mem_range.1 hi
        have : decide (i ≠ r) = true := by simp; omega
        rw [this, Bool.and_true]
      rw [this]
      simp [hr]
    · rw [filter_but hr n (by omega)]
      have : (List.filter p [n]).length = (List.filter (fun i => p i && decide (i ≠ r)) [n]).length := by
        have : decide (n ≠ r) = true := by simp; omega
        simp only [List.filter_cons, List.filter_nil, this, Bool.and_true]
      omega

/-- One pair more joins two sets, or none. -/
theorem comps_cons {n : Nat} {es : List (Nat × Nat)} {a b : Nat} (ha : a < n) (hb : b < n) :
    (Conn es a b ∧ comps n (Conn ((a, b) :: es)) = comps n (Conn es)) ∨ (¬ Conn es a b ∧ comps n (Conn es) = comps n (Conn ((a, b) :: es)) + 1) := by
  by_cases h : Conn es a b
  · refine .inl ⟨h, comps_congr fun i j _ _ => ?_⟩
    rw [conn_cons]
    constructor
    · rintro (k | ⟨k, l⟩ | ⟨k, l⟩)
      · exact k
      · exact (k.trans h).trans l
      · exact (k.trans h.symm).trans l
    · exact .inl
  · refine .inr ⟨h, ?_⟩
    obtain ⟨r, r1, r2, r3⟩ := root_of (R := Conn es) .refl Conn.trans a
    obtain ⟨s, s1, s2, s3⟩ := root_of (R := Conn es) .refl Conn.trans b
    have hrs : ¬ Conn es r s := fun k => h ((r3.symm.trans k).trans s3)
    -- the greater one of r and s is none any more
    have key : ∀ (x y : Nat) (a b : Nat), a < n → b < n → ¬ Conn es a b → IsRoot (Conn es) x → Conn es x a → IsRoot (Conn es) y → Conn es y b → x < y → y < n → ∀ i, IsRoot (Conn ((a, b) :: es)) i ↔ (IsRoot (Conn es) i ∧ i ≠ y) := by
      intro x y a b ha hb hab hx1 hx2 hy1 hy2 hxy hyn i
      constructor
      · intro hi
        refine ⟨fun j hj hc => hi j hj (conn_cons.2 (.inl hc)), ?_⟩
        rintro rfl
        exact hi x hxy (conn_cons.2 (.inr (.inl ⟨hx2, hy2.symm⟩)))
      · rintro ⟨hi, hne⟩ j hj hc
        rcases conn_cons.1 hc with hc | ⟨h1, h2⟩ | ⟨h1, h2⟩
        · exact hi j hj hc
        · exact hne (root_unique (R := Conn es) Conn.symm hi hy1 (h2.symm.trans hy2.symm))
        · have e : i = x := root_unique (R := Conn es) Conn.symm hi hx1 (h2.symm.trans hx2.symm)
          -- j hangs together with b, so y is not greater than j
          have hjy : Conn es y j := hy2.trans h1.symm
          rcases Nat.lt_or_ge j y with hlt | hge
          · exact hy1 j hlt hjy.symm
          · omega
    have fin : ∀ y, y < n → IsRoot (Conn es) y → (∀ i, IsRoot (Conn ((a, b) :: es)) i ↔ (IsRoot (Conn es) i ∧ i ≠ y)) → comps n (Conn es) = comps n (Conn ((a, b) :: es)) + 1 := by
      intro y hy hy1 hk
      unfold comps
      rw [filter_but (p := fun i => @decide (IsRoot (Conn es) i) (Classical.propDecidable _)) (r := y) (by simpa using hy1) n hy]
      congr 2
      apply List.filter_congr
      intro i _
      have := hk i
      rw [Bool.eq_iff_iff]
      simp [this]
    rcases Nat.lt_trichotomy r s with hlt | heq | hgt
    · exact fin s (by omega) s2 (key r s a b ha hb h r2 r3 s2 s3 hlt (by omega))
    · exact absurd (heq ▸ .refl r) hrs
    · refine fin r (by omega) r2 fun i => ?_
      have := key s r b a hb ha (fun k => h k.symm) s2 s3 r2 r3 hgt (by omega) i
      rw [← this]
      unfold IsRoot
      have sw : ∀ u v, Conn ((a, b) :: es) u v ↔ Conn ((b, a) :: es) u v := fun u v => by rw [conn_cons, conn_cons]; exact ⟨fun h => h.elim .inl fun h => h.elim (.inr ∘ .inr) (.inr ∘ .inl), fun h => h.elim .inl fun h => h.elim (.inr ∘ .inr) (.inr ∘ .inl)⟩
      simp only [sw]

theorem comps_nil (n : Nat) : comps n (Conn []) = n := by
  unfold comps
  have : ∀ i j, Conn [] i j → i = j := fun i j h => by
    induction h with
    | refl => rfl
    | fwd _ e => cases e
    | bwd _ e => cases e
  rw [List.filter_eq_self.2, List.length_range]
  intro i _
  simp only [decide_eq_true_eq]
  intro j hj hc
  have := this j i hc
  omega
theorem comps_one {n : Nat} {R : Nat → Nat → Prop} (h0 : 0 < n) (h : ∀ i, i < n → R 0 i) : comps n R = 1 := by
  obtain ⟨m, rfl⟩ : ∃ m, n = m + 1 := ⟨n - 1, by omega⟩
  unfold comps
  rw [List.range_succ_eq_map, List.filter_cons]
  have z : IsRoot R 0 := fun j hj => absurd hj (Nat.not_lt_zero j)
  rw [if_pos (by simpa using z), List.filter_map, List.length_cons, List.length_map]
  have : List.filter ((fun i => @decide (IsRoot R i) (Classical.propDecidable _)) ∘ Nat.succ) (List.range m) = [] := by
    rw [List.filter_eq_nil_iff]
    intro i hi
    have := List.mem_range.1 hi
    simp only [Function.comp, decide_eq_true_eq]
    intro hr
    exact hr 0 (by omega) (h _ (by omega))
  rw [this]; rfl

/-! Sums over lists. -/
def lsum {α : Type} (l : List α) (f : α → Nat) : Nat := (l.map f).sum
theorem lsum_nil {α : Type} (f : α → Nat) : lsum [] f = 0 := rfl
theorem lsum_cons {α : Type} (a : α) (l : List α) (f : α → Nat) : lsum (a :: l) f = f a + lsum l f := by simp [lsum]
theorem lsum_append {α : Type} (l k : List α) (f : α → Nat) : lsum (l ++ k) f = lsum l f + lsum k f := by simp [lsum]
theorem lsum_add {α : Type} (l : List α) (f g : α → Nat) : (lsum l fun a => f a + g a) = lsum l f + lsum l g := by
  induction l with
  | nil => rfl
  | cons a l ih => simp only [lsum_cons, ih]; omega
theorem lsum_comm {α β : Type} (l : List α) (k : List β) (f : α → β → Nat) : (lsum l fun a => lsum k fun b => f a b) = lsum k fun b => lsum l fun a => f a b := by
  induction l with
  | nil => simp only [lsum_nil]; induction k with
    | nil => rfl
    | cons b k ih => rw [lsum_cons, ← ih]
  | cons a l ih => simp only [lsum_cons, ih, lsum_add]
theorem lsum_congr {α : Type} {l : List α} {f g : α → Nat} (h : ∀ a ∈ l, f a = g a) : lsum l f = lsum l g := by
  induction l with
  | nil => rfl
  | cons a l ih => rw [lsum_cons, lsum_cons, h a (by simp), ih fun b hb => h b (List.mem_cons_of_mem _ hb)]
theorem lsum_even {α : Type} {l : List α} {f : α → Nat} (h : ∀ a ∈ l, f a % 2 = 0) : lsum l f % 2 = 0 := by
  induction l with
  | nil => rfl
  | cons a l ih => rw [lsum_cons]; have := h a (by simp); have := ih fun b hb => h b (List.mem_cons_of_mem _ hb); omega
theorem lsum_one {n x : Nat} (c : Nat) : (lsum (List.range n) fun i => if i = x then c else 0) = if x < n then c else 0 := by
  induction n with
  | zero => simp [lsum]
  | succ n ih =>
    rw [List.range_succ, lsum_append, ih, lsum_cons, lsum_nil]
    by_cases h1 : x < n
    · rw [if_pos h1, if_neg (by omega), if_pos (by omega)]; omega
    · by_cases h2 : n = x
      · rw [if_neg h1, if_pos h2, if_pos (by omega)]; omega
      · rw [if_neg h1, if_neg h2, if_neg (by omega)]

/-! Pairs with their crossings: an edge (u, v) of squares and the pair (f, g) of places on its two sides. -/
structure Dual where
  u : Nat
  v : Nat
  f : Nat
  g : Nat
def prim (l : List Dual) : List (Nat × Nat) := l.map fun d => (d.u, d.v)
def dual (l : List Dual) : List (Nat × Nat) := l.map fun d => (d.f, d.g)

open Classical in
noncomputable def ind (p : Prop) : Nat := if p then 1 else 0
theorem ind_pos {p : Prop} (h : p) : ind p = 1 := by unfold ind; rw [if_pos h]
theorem ind_neg {p : Prop} (h : ¬ p) : ind p = 0 := by unfold ind; rw [if_neg h]

/-- At every square an even number of edges lead between places within a set and places without. -/
def EvenAt (n : Nat) (all : List Dual) : Prop := ∀ (A : Nat → Prop) (x : Nat), x < n → (lsum all fun d => ind (A d.f ∧ ¬ A d.g ∨ ¬ A d.f ∧ A d.g) * (ind (d.u = x) + ind (d.v = x))) % 2 = 0

/-- Where the places beside an edge do not hang together over later edges, its ends do over earlier ones. -/
theorem joined {n : Nat} {pre post : List Dual} {e : Dual} (hev : EvenAt n (pre ++ e :: post)) (hlt : ∀ d ∈ pre ++ e :: post, d.u < n ∧ d.v < n) (h : ¬ Conn (dual post) e.f e.g) : Conn (prim pre) e.u e.v := by
  apply Classical.byContradiction
  intro hno
  -- A: the places that hang together with e.f
  let A : Nat → Prop := fun x => Conn (dual post) e.f x
  let B : Nat → Prop := fun x => Conn (prim (pre.filter fun d => @decide (A d.f ∧ ¬ A d.g ∨ ¬ A d.f ∧ A d.g) (Classical.propDecidable _))) e.u x
  have total : (lsum (List.range n) fun x => ind (B x) * lsum (pre ++ e :: post) fun d => ind (A d.f ∧ ¬ A d.g ∨ ¬ A d.f ∧ A d.g) * (ind (d.u = x) + ind (d.v = x))) % 2 = 0 := by
    apply lsum_even
    intro x hx
    have := hev A x (List.mem_range.1 hx)
    rw [Nat.mul_mod, this]; simp
  have swap : (lsum (List.range n) fun x => ind (B x) * lsum (pre ++ e :: post) fun d => ind (A d.f ∧ ¬ A d.g ∨ ¬ A d.f ∧ A d.g) * (ind (d.u = x) + ind (d.v = x)))
      = lsum (pre ++ e :: post) fun d => ind (A d.f ∧ ¬ A d.g ∨ ¬ A d.f ∧ A d.g) * (ind (B d.u) + ind (B d.v)) := by
    have e1 : (lsum (List.range n) fun x => ind (B x) * lsum (pre ++ e :: post) fun d => ind (A d.f ∧ ¬ A d.g ∨ ¬ A d.f ∧ A d.g) * (ind (d.u = x) + ind (d.v = x)))
        = lsum (List.range n) fun x => lsum (pre ++ e :: post) fun d => ind (B x) * (ind (A d.f ∧ ¬ A d.g ∨ ¬ A d.f ∧ A d.g) * (ind (d.u = x) + ind (d.v = x))) := by
      apply lsum_congr
      intro x _
      generalize pre ++ e :: post = L
      induction L with
      | nil => simp [lsum]
      | cons d L ih => rw [lsum_cons, lsum_cons, Nat.mul_add, ih]
    rw [e1, lsum_comm]
    apply lsum_congr
    intro d hd
    obtain ⟨hu, hv⟩ := hlt d hd
    have one : ∀ y, y < n → (lsum (List.range n) fun x => ind (B x) * (ind (A d.f ∧ ¬ A d.g ∨ ¬ A d.f ∧ A d.g) * ind (y = x))) = ind (A d.f ∧ ¬ A d.g ∨ ¬ A d.f ∧ A d.g) * ind (B y) := by
      intro y hy
      have := lsum_one (n := n) (x := y) (ind (A d.f ∧ ¬ A d.g ∨ ¬ A d.f ∧ A d.g) * ind (B y))
      rw [if_pos hy] at this
      rw [← this]
      apply lsum_congr
      intro x _
      by_cases hxy : x = y
      · subst hxy; rw [if_pos rfl, ind_pos (p := x = x) rfl, Nat.mul_one, Nat.mul_comm]
      · rw [if_neg hxy, ind_neg (p := y = x) (fun e => hxy e.symm)]; simp
    have e2 : (fun x => ind (B x) * (ind (A d.f ∧ ¬ A d.g ∨ ¬ A d.f ∧ A d.g) * (ind (d.u = x) + ind (d.v = x)))) = fun x => ind (B x) * (ind (A d.f ∧ ¬ A d.g ∨ ¬ A d.f ∧ A d.g) * ind (d.u = x)) + ind (B x) * (ind (A d.f ∧ ¬ A d.g ∨ ¬ A d.f ∧ A d.g) * ind (d.v = x)) := by
      funext x; rw [Nat.mul_add, Nat.mul_add]
    rw [e2, lsum_add, one _ hu, one _ hv, ← Nat.mul_add]
  rw [swap, lsum_append, lsum_cons] at total
  -- earlier edges that lead out of A have both ends within B, or none
  have h1 : (lsum pre fun d => ind (A d.f ∧ ¬ A d.g ∨ ¬ A d.f ∧ A d.g) * (ind (B d.u) + ind (B d.v))) % 2 = 0 := by
    apply lsum_even
    intro d hd
    by_cases hx : A d.f ∧ ¬ A d.g ∨ ¬ A d.f ∧ A d.g
    · have hm : (d.u, d.v) ∈ prim (pre.filter fun d => @decide (A d.f ∧ ¬ A d.g ∨ ¬ A d.f ∧ A d.g) (Classical.propDecidable _)) := by
        refine List.mem_map.2 ⟨d, List.mem_filter.2 ⟨hd, by simpa using hx⟩, rfl⟩
      have hb : B d.u ↔ B d.v := ⟨fun k => .fwd k hm, fun k => .bwd k hm⟩
      by_cases hu : B d.u
      · rw [ind_pos hx, ind_pos hu, ind_pos (hb.1 hu)]
      · rw [ind_pos hx, ind_neg hu, ind_neg (fun k => hu (hb.2 k))]
    · rw [ind_neg hx]; simp
  -- later edges do not lead out of A
  have h2 : (lsum post fun d => ind (A d.f ∧ ¬ A d.g ∨ ¬ A d.f ∧ A d.g) * (ind (B d.u) + ind (B d.v))) % 2 = 0 := by
    apply lsum_even
    intro d hd
    have hm : (d.f, d.g) ∈ dual post := List.mem_map.2 ⟨d, hd, rfl⟩
    have ha : A d.f ↔ A d.g := ⟨fun k => .fwd k hm, fun k => .bwd k hm⟩
    rw [ind_neg (by rintro (⟨k1, k2⟩ | ⟨k1, k2⟩); exact k2 (ha.1 k1); exact k1 (ha.2 k2))]; simp
  -- the edge itself leads out of A, and has one end within B
  have hBu : B e.u := .refl _
  have hBv : ¬ B e.v := fun k => hno (k.mono fun p hp => by
    obtain ⟨d, hd, rfl⟩ := List.mem_map.1 hp
    exact List.mem_map.2 ⟨d, (List.mem_filter.1 hd).1, rfl⟩)
  have hA : A e.f ∧ ¬ A e.g ∨ ¬ A e.f ∧ A e.g := .inl ⟨.refl _, h⟩
  rw [ind_pos hA, ind_pos hBu, ind_neg hBv] at total
  omega

/-- The sets of squares over the first edges, and the sets of places over the others. -/
theorem euler {n m : Nat} {all : List Dual} (hev : EvenAt n all) (hlt : ∀ d ∈ all, d.u < n ∧ d.v < n) (hlt' : ∀ d ∈ all, d.f < m ∧ d.g < m) (h1 : comps n (Conn (prim all)) = 1) (h2 : comps m (Conn (dual all)) = 1) (hcount : all.length + 2 = n + m) :
    ∀ pre post, all = pre ++ post → n + comps m (Conn (dual post)) = comps n (Conn (prim pre)) + pre.length + 1 := by
  -- of both numbers together at most one changes at each edge
  have step : ∀ pre e post, all = pre ++ e :: post → comps n (Conn (prim pre)) + comps m (Conn (dual (e :: post))) + (pre ++ [e]).length ≥ comps n (Conn (prim (pre ++ [e]))) + comps m (Conn (dual post)) + pre.length := by
    intro pre e post he
    have hm := hlt e (by rw [he]; simp)
    have hm' := hlt' e (by rw [he]; simp)
    have hswap : comps n (Conn (prim (pre ++ [e]))) = comps n (Conn ((e.u, e.v) :: prim pre)) := comps_congr fun i j _ _ => by
      constructor
      · intro h; exact h.mono fun p hp => by simp only [prim, List.map_append, List.mem_append, List.map_cons, List.map_nil, List.mem_cons, List.not_mem_nil, or_false] at hp ⊢; exact hp.elim .inr .inl
      · intro h; exact h.mono fun p hp => by simp only [prim, List.map_append, List.mem_append, List.map_cons, List.map_nil, List.mem_cons, List.not_mem_nil, or_false] at hp ⊢; exact hp.elim .inr .inl
    have hd : dual (e :: post) = (e.f, e.g) :: dual post := rfl
    rw [hswap, hd, List.length_append]
    simp only [List.length_cons, List.length_nil]
    rcases comps_cons (es := prim pre) hm.1 hm.2 with ⟨c1, c2⟩ | ⟨c1, c2⟩ <;> rcases comps_cons (es := dual post) hm'.1 hm'.2 with ⟨d1, d2⟩ | ⟨d1, d2⟩
    all_goals omega
  have step2 : ∀ pre e post, all = pre ++ e :: post → comps m (Conn (dual post)) + comps n (Conn (prim pre)) ≤ comps m (Conn (dual (e :: post))) + comps n (Conn (prim (pre ++ [e]))) + 1 := by
    intro pre e post he
    have hm := hlt e (by rw [he]; simp)
    have hm' := hlt' e (by rw [he]; simp)
    have hswap : comps n (Conn (prim (pre ++ [e]))) = comps n (Conn ((e.u, e.v) :: prim pre)) := comps_congr fun i j _ _ => by
      constructor
      · intro h; exact h.mono fun p hp => by simp only [prim, List.map_append, List.mem_append, List.map_cons, List.map_nil, List.mem_cons, List.not_mem_nil, or_false] at hp ⊢; exact hp.elim .inr .inl
      · intro h; exact h.mono fun p hp => by simp only [prim, List.map_append, List.mem_append, List.map_cons, List.map_nil, List.mem_cons, List.not_mem_nil, or_false] at hp ⊢; exact hp.elim .inr .inl
    have hd : dual (e :: post) = (e.f, e.g) :: dual post := rfl
    rw [hswap, hd]
    rcases comps_cons (es := prim pre) hm.1 hm.2 with ⟨c1, c2⟩ | ⟨c1, c2⟩ <;> rcases comps_cons (es := dual post) hm'.1 hm'.2 with ⟨d1, d2⟩ | ⟨d1, d2⟩
    · omega
    · omega
    · omega
    · exact absurd (joined (by rw [← he]; exact hev) (by rw [← he]; exact hlt) d1) c1
  -- from the front and from the back
  have front : ∀ k pre post, pre.length = k → all = pre ++ post → comps m (Conn (dual post)) + n ≤ comps m (Conn (dual all)) + comps n (Conn (prim pre)) + pre.length := by
    intro k
    induction k with
    | zero =>
      intro pre post hk he
      obtain rfl := List.eq_nil_of_length_eq_zero hk
      rw [List.nil_append] at he
      subst he
      have := comps_nil n
      show comps m (Conn (dual all)) + n ≤ comps m (Conn (dual all)) + comps n (Conn []) + 0
      omega
    | succ k ih =>
      intro pre post hk he
      obtain ⟨init, e, rfl⟩ : ∃ init e, pre = init ++ [e] := ⟨pre.dropLast, pre.getLast (fun h => by rw [h] at hk; cases hk), (List.dropLast_concat_getLast _).symm⟩
      rw [List.append_assoc, List.singleton_append] at he
      have hl : init.length = k := by simpa using hk
      have := ih init (e :: post) hl he
      have := step2 init e post he
      rw [List.length_append]
      simp only [List.length_cons, List.length_nil]
      omega
  have back : ∀ k pre post, post.length = k → all = pre ++ post → comps n (Conn (prim pre)) + m ≤ comps n (Conn (prim all)) + comps m (Conn (dual post)) + post.length := by
    intro k
    induction k with
    | zero =>
      intro pre post hk he
      obtain rfl := List.eq_nil_of_length_eq_zero hk
      rw [List.append_nil] at he
      subst he
      have := comps_nil m
      show comps n (Conn (prim all)) + m ≤ comps n (Conn (prim all)) + comps m (Conn []) + 0
      omega
    | succ k ih =>
      intro pre post hk he
      cases post with
      | nil => cases hk
      | cons e post =>
        have hl : post.length = k := by simpa using hk
        have := ih (pre ++ [e]) post hl (by rw [he]; simp)
        have := step2 pre e post he
        simp only [List.length_cons]
        omega
  intro pre post he
  have a := front _ pre post rfl he
  have b := back _ pre post rfl he
  have c : all.length = pre.length + post.length := by rw [he, List.length_append]
  omega
end Go.Proofs.YtajfepogecakbaaDoor
