/- Layer 7, mathematics: worths, envy, picks, halves. -/
import Derived.Test.YtjmjafpjfhgfdaaMap
namespace Go.Proofs.Ytjmjafpjfhgfdaa

/-- What the strips of one owner are worth by a row of values. -/
def wth (f c : Nat → Int) (o : Int) : Nat → Int
  | 0 => 0
  | m + 1 => if c m = o then wth f c o m + f m else wth f c o m
theorem wth_bd {f c : Nat → Int} {o : Int} : ∀ {m : Nat}, (∀ j, j < m → 0 ≤ f j ∧ f j ≤ 1000) → 0 ≤ wth f c o m ∧ wth f c o m ≤ 1000 * m := by
  intro m
  induction m with
  | zero => intro _; simp [wth]
  | succ m ih =>
    intro h
    have h1 := ih fun j hj => h j (by omega)
    have h2 := h m (by omega)
    unfold wth
    split <;> omega
theorem wth_congr {f g c d : Nat → Int} {o : Int} : ∀ {m : Nat}, (∀ j, j < m → f j = g j ∧ c j = d j) → wth f c o m = wth g d o m := by
  intro m
  induction m with
  | zero => intro _; rfl
  | succ m ih =>
    intro h
    have h1 := ih fun j hj => h j (by omega)
    obtain ⟨h2, h3⟩ := h m (by omega)
    unfold wth
    rw [h1, h2, h3]
/-- A sum. -/
def sumN (g : Nat → Int) : Nat → Int
  | 0 => 0
  | k + 1 => sumN g k + g k
theorem sumN_bd {g : Nat → Int} {M : Int} : ∀ {k : Nat}, (∀ j, j < k → 0 ≤ g j ∧ g j ≤ M) → 0 ≤ sumN g k ∧ sumN g k ≤ M * k := by
  intro k
  induction k with
  | zero => intro _; simp [sumN]
  | succ k ih =>
    intro h
    have h1 := ih fun j hj => h j (by omega)
    have h2 := h k (by omega)
    unfold sumN
    rw [Int.natCast_succ, Int.mul_add, Int.mul_one]
    omega
theorem sumN_congr {g h : Nat → Int} : ∀ {k : Nat}, (∀ j, j < k → g j = h j) → sumN g k = sumN h k := by
  intro k
  induction k with
  | zero => intro _; rfl
  | succ k ih => intro e; unfold sumN; rw [ih fun j hj => e j (by omega), e k (by omega)]
theorem sumN_le {g h : Nat → Int} : ∀ {k : Nat}, (∀ j, j < k → g j ≤ h j) → sumN g k ≤ sumN h k := by
  intro k
  induction k with
  | zero => intro _; exact Int.le_refl _
  | succ k ih => intro e; have := ih fun j hj => e j (by omega); have := e k (by omega); unfold sumN; omega
theorem sumN_one {g : Nat → Int} {x : Int} {i : Nat} : ∀ {k : Nat}, sumN (fun j => if i = j then g j + x else g j) k = sumN g k + if i < k then x else 0 := by
  intro k
  induction k with
  | zero => simp [sumN]
  | succ k ih =>
    unfold sumN
    rw [ih]
    by_cases e : i = k
    · subst e; rw [if_pos rfl, if_neg (by omega), if_pos (by omega)]; omega
    · rw [if_neg e]
      by_cases h : i < k
      · rw [if_pos h, if_pos (by omega)]; omega
      · rw [if_neg h, if_neg (by omega)]; omega
/-- What all strips are worth to those who have them. -/
def sumS (F : Nat → Nat → Int) (c : Nat → Int) (m : Nat) : Int := sumN (fun j => F (c j).toNat j) m
theorem wth_succ (f c : Nat → Int) (o : Int) (m : Nat) : wth f c o (m + 1) = if c m = o then wth f c o m + f m else wth f c o m := rfl
theorem sumN_succ (g : Nat → Int) (k : Nat) : sumN g (k + 1) = sumN g k + g k := rfl
theorem sumN_zeros : ∀ k, sumN (fun _ => 0) k = 0 := by
  intro k
  induction k with
  | zero => rfl
  | succ k ih => rw [sumN_succ, ih]; rfl
theorem sum_worths {F : Nat → Nat → Int} {c : Nat → Int} {k : Nat} : ∀ {m : Nat}, (∀ j, j < m → 0 ≤ c j ∧ c j < k) → sumN (fun i => wth (F i) c i m) k = sumS F c m := by
  intro m
  induction m with
  | zero => intro _; exact sumN_zeros k
  | succ m ih =>
    intro h
    obtain ⟨h0, h1⟩ := h m (by omega)
    have h2 := ih fun j hj => h j (by omega)
    have e : sumN (fun i => wth (F i) c i (m + 1)) k = sumN (fun i => if (c m).toNat = i then wth (F i) c i m + F (c m).toNat m else wth (F i) c i m) k := sumN_congr fun i hi => by
      rw [wth_succ]
      by_cases e : (c m).toNat = i
      · rw [if_pos e, if_pos (by omega), e]
      · rw [if_neg e, if_neg (by omega)]
    rw [e, sumN_one, if_pos (by omega), h2]
    exact (sumN_succ _ _).symm
/-- The greatest of some numbers, 0 if there is no greater one. -/
def topN (g : Nat → Int) : Nat → Int
  | 0 => 0
  | k + 1 => max (topN g k) (g k)
theorem topN_bd {g : Nat → Int} : ∀ {k : Nat}, (∀ j, j < k → 0 ≤ g j ∧ g j ≤ 1000) → 0 ≤ topN g k ∧ topN g k ≤ 1000 := by
  intro k
  induction k with
  | zero => intro _; simp [topN]
  | succ k ih =>
    intro h
    have h1 := ih fun j hj => h j (by omega)
    have h2 := h k (by omega)
    unfold topN
    omega
theorem topN_ge {g : Nat → Int} : ∀ {k i : Nat}, i < k → g i ≤ topN g k := by
  intro k
  induction k with
  | zero => intro i hi; omega
  | succ k ih =>
    intro i hi
    unfold topN
    by_cases e : i = k
    · subst e; omega
    · have := ih (i := i) (by omega); omega
def mostN (F : Nat → Nat → Int) (k n : Nat) : Int := sumN (fun j => topN (fun i => F i j) k) n
theorem sum_le_most {F : Nat → Nat → Int} {c : Nat → Int} {k n : Nat} (h : ∀ j, j < n → 0 ≤ c j ∧ c j < k) : sumS F c n ≤ mostN F k n :=
  sumN_le fun j hj => by
    obtain ⟨h0, h1⟩ := h j hj
    exact topN_ge (g := fun i => F i j) (i := (c j).toNat) (by omega)
/-- Does one envy another one? -/
def envB (F : Nat → Nat → Int) (c : Nat → Int) (m i j : Nat) : Bool := decide (wth (F i) c i m < wth (F i) c j m)
/-- The greatest value of an owner's strips. -/
def topO (f c : Nat → Int) (o : Int) : Nat → Int
  | 0 => 0
  | m + 1 => if c m = o then max (topO f c o m) (f m) else topO f c o m
/-- Is there a strip without which the rest is worth no more? -/
def butB (f c : Nat → Int) (o own other : Int) (m : Nat) : Bool := !allB m fun j => !(decide (c j = o) && decide (other - f j ≤ own))
theorem topO_ge {f c : Nat → Int} {o : Int} : ∀ {m j : Nat}, j < m → c j = o → f j ≤ topO f c o m := by
  intro m
  induction m with
  | zero => intro j hj; omega
  | succ m ih =>
    intro j hj hc
    unfold topO
    by_cases e : j = m
    · subst e; rw [if_pos hc]; omega
    · have := ih (j := j) (by omega) hc
      split <;> omega
theorem topO_bd {f c : Nat → Int} {o : Int} : ∀ {m : Nat}, (∀ j, j < m → 0 ≤ f j ∧ f j ≤ 1000) → 0 ≤ topO f c o m ∧ topO f c o m ≤ 1000 := by
  intro m
  induction m with
  | zero => intro _; simp [topO]
  | succ m ih =>
    intro h
    have h1 := ih fun j hj => h j (by omega)
    have h2 := h m (by omega)
    unfold topO
    split <;> omega
theorem topO_at {f c : Nat → Int} {o : Int} : ∀ {m : Nat}, topO f c o m = 0 ∨ ∃ j, j < m ∧ c j = o ∧ f j = topO f c o m := by
  intro m
  induction m with
  | zero => exact .inl rfl
  | succ m ih =>
    unfold topO
    split
    · rename_i e
      by_cases h : topO f c o m ≤ f m
      · exact .inr ⟨m, by omega, e, by omega⟩
      · rcases ih with h1 | ⟨j, hj, hc, hf⟩
        · exact .inl (by omega)
        · exact .inr ⟨j, by omega, hc, by omega⟩
    · rcases ih with h1 | ⟨j, hj, hc, hf⟩
      · exact .inl h1
      · exact .inr ⟨j, by omega, hc, hf⟩
theorem wth_none {f c : Nat → Int} {o : Int} : ∀ {m : Nat}, (∀ j, j < m → c j ≠ o) → wth f c o m = 0 := by
  intro m
  induction m with
  | zero => intro _; rfl
  | succ m ih => intro h; unfold wth; rw [if_neg (h m (by omega)), ih fun j hj => h j (by omega)]
theorem but_top {f c : Nat → Int} {o own : Int} {m : Nat} (h : own < wth f c o m) :
    butB f c o own (wth f c o m) m = decide (wth f c o m - topO f c o m ≤ own) := by
  by_cases hd : wth f c o m - topO f c o m ≤ own
  · rw [decide_eq_true hd]
    have : ∃ j, j < m ∧ c j = o ∧ f j = topO f c o m := by
      rcases topO_at (f := f) (c := c) (o := o) (m := m) with h1 | h1
      · omega
      · exact h1
    obtain ⟨j, hj, hc, he⟩ := this
    have e : allB m (fun j => !(decide (c j = o) && decide (wth f c o m - f j ≤ own))) = false := by
      cases hh : allB m (fun j => !(decide (c j = o) && decide (wth f c o m - f j ≤ own)))
      · rfl
      · have := allB_iff.1 hh j hj
        simp [hc] at this
        omega
    unfold butB
    rw [e]
    rfl
  · rw [decide_eq_false hd]
    have e : allB m (fun j => !(decide (c j = o) && decide (wth f c o m - f j ≤ own))) = true := allB_iff.2 fun j hj => by
      by_cases hc : c j = o
      · have := topO_ge (f := f) hj hc
        simp [hc]
        omega
      · simp [hc]
    unfold butB
    rw [e]
    rfl
def fairB (F : Nat → Nat → Int) (c : Nat → Int) (k m : Nat) : Bool := allB k fun i => allB k fun j => !(envB F c m i j && !butB (F i) c j (wth (F i) c i m) (wth (F i) c j m) m)
/-- Is the first share-out better than the second one? -/
def moreB (x y : Nat → Int) (k : Nat) : Bool := !allB k fun i => decide (x i ≤ y i)
def betterB (x y : Nat → Int) (k : Nat) : Bool := (allB k fun i => decide (y i ≤ x i)) && moreB x y k
/-- What is picked. -/
def favP (f s : Nat → Int) : Nat → Nat × Int
  | 0 => (0, -1)
  | j + 1 => if s j = -1 ∧ (favP f s j).2 < f j then (j, f j) else favP f s j
theorem favP_le {f s : Nat → Int} : ∀ {j : Nat}, (favP f s j).1 = 0 ∨ (favP f s j).1 < j := by
  intro j
  induction j with
  | zero => exact .inl rfl
  | succ j ih =>
    unfold favP
    split
    · exact .inr (by simp)
    · omega
theorem favP_ok {f s : Nat → Int} : ∀ {j : Nat}, (∀ i, i < j → 0 ≤ f i ∧ f i ≤ 1000) → (((favP f s j).2 = -1 ∧ (favP f s j).1 = 0 ∧ ∀ i, i < j → s i ≠ -1) ∨ ((favP f s j).1 < j ∧ s (favP f s j).1 = -1 ∧ (favP f s j).2 = f (favP f s j).1 ∧ 0 ≤ (favP f s j).2 ∧ ∀ i, i < j → s i = -1 → f i ≤ (favP f s j).2)) ∧ -1 ≤ (favP f s j).2 ∧ (favP f s j).2 ≤ 1000 := by
  intro j
  induction j with
  | zero => intro _; exact ⟨.inl ⟨rfl, rfl, by omega⟩, by simp [favP], by simp [favP]⟩
  | succ j ih =>
    intro h
    obtain ⟨h1, h2, h3⟩ := ih fun i hi => h i (by omega)
    obtain ⟨h4, h5⟩ := h j (by omega)
    unfold favP
    by_cases e : s j = -1 ∧ (favP f s j).2 < f j
    · rw [if_pos e]
      refine ⟨.inr ⟨by simp, e.1, rfl, h4, fun i hi hs => ?_⟩, by dsimp only; omega, h5⟩
      by_cases q : i = j
      · subst q; exact Int.le_refl _
      · rcases h1 with ⟨_, _, h6⟩ | ⟨_, _, _, _, h6⟩
        · exact absurd hs (h6 i (by omega))
        · have := h6 i (by omega) hs; dsimp only; omega
    · rw [if_neg e]
      refine ⟨?_, h2, h3⟩
      rcases h1 with ⟨a, b, h6⟩ | ⟨a, b, d, g, h6⟩
      · refine .inl ⟨a, b, fun i hi hs => ?_⟩
        by_cases q : i = j
        · subst q; exact e ⟨hs, by omega⟩
        · exact h6 i (by omega) hs
      · refine .inr ⟨by omega, b, d, g, fun i hi hs => ?_⟩
        by_cases q : i = j
        · subst q
          have : ¬ (favP f s i).2 < f i := fun hh => e ⟨hs, hh⟩
          omega
        · exact h6 i (by omega) hs
def favN (f s : Nat → Int) (n : Nat) : Nat := (favP f s n).1
def pickL (F : Nat → Nat → Int) (c : Nat → Int) (n : Nat) : Nat → List Int
  | 0 => List.replicate n (-1)
  | k + 1 => (pickL F c n k).set (favN (F (c k).toNat) (fun j => (pickL F c n k).getD j 0) n) (c k)
theorem pickL_length (F : Nat → Nat → Int) (c : Nat → Int) (n : Nat) : ∀ k, (pickL F c n k).length = n := by
  intro k
  induction k with
  | zero => simp [pickL]
  | succ k ih => simp [pickL, ih]
theorem getD_setI {l : List Int} {i j : Nat} {x : Int} (hi : i < l.length) : (l.set i x).getD j 0 = if j = i then x else l.getD j 0 := by
  rw [List.getD_eq_getElem?_getD, List.getElem?_set, List.getD_eq_getElem?_getD]
  by_cases e : i = j
  · subst e; rw [if_pos rfl, if_pos rfl, if_pos hi]; rfl
  · rw [if_neg e, if_neg (by omega)]
theorem count_setI {l : List Int} {k : Nat} (h : k < l.length) (a x : Int) : (l.set k a).count x + (if l.getD k 0 = x then 1 else 0) = l.count x + (if a = x then 1 else 0) := by
  induction l generalizing k with
  | nil => simp at h
  | cons b l ih =>
    cases k with
    | zero => simp only [List.set_cons_zero, List.count_cons, List.getD_cons_zero, beq_iff_eq]; omega
    | succ k =>
      have := ih (k := k) (by simpa using h)
      simp only [List.set_cons_succ, List.count_cons, List.getD_cons_succ]
      omega
theorem count_pos_at {l : List Int} {x : Int} (h : 0 < l.count x) : ∃ j, j < l.length ∧ l.getD j 0 = x := by
  have := List.count_pos_iff.1 h
  obtain ⟨j, hj, e⟩ := List.mem_iff_getElem.1 this
  exact ⟨j, hj, by rw [List.getD_eq_getElem?_getD, List.getElem?_eq_getElem hj]; exact e⟩
structure PickOk (F : Nat → Nat → Int) (c : Nat → Int) (K n k : Nat) : Prop where
  free : (pickL F c n k).count (-1) = n - k
  low : ∀ j, j < n → (pickL F c n k).getD j 0 = -1 ∨ (0 ≤ (pickL F c n k).getD j 0 ∧ (pickL F c n k).getD j 0 < K)
theorem pick_ok {F : Nat → Nat → Int} {c : Nat → Int} {K n : Nat} (hF : ∀ i, i < K → ∀ j, j < n → 0 ≤ F i j ∧ F i j ≤ 1000) (hc : ∀ j, j < n → 0 ≤ c j ∧ c j < K) : ∀ k, k ≤ n → PickOk F c K n k := by
  intro k
  induction k with
  | zero => intro _; exact ⟨by simp [pickL], fun j hj => .inl (by simp [pickL, List.getD_eq_getElem?_getD, List.getElem?_replicate, hj])⟩
  | succ k ih =>
    intro hk
    obtain ⟨h1, h2⟩ := ih (by omega)
    have hl := pickL_length F c n k
    obtain ⟨c0, c1⟩ := hc k (by omega)
    obtain ⟨hf, _, _⟩ := favP_ok (f := F (c k).toNat) (s := fun j => (pickL F c n k).getD j 0) (j := n) fun i hi => hF _ (by omega) i hi
    obtain ⟨j, hj, hv⟩ := count_pos_at (l := pickL F c n k) (x := -1) (by omega)
    rcases hf with ⟨_, _, h6⟩ | ⟨a, b, _, _, _⟩
    · exact absurd hv (h6 j (by omega))
    · have hcnt := count_setI (l := pickL F c n k) (k := favN (F (c k).toNat) (fun j => (pickL F c n k).getD j 0) n) (by rw [hl]; exact a) (c k) (-1)
      have b' : (pickL F c n k).getD (favN (F (c k).toNat) (fun j => (pickL F c n k).getD j 0) n) 0 = -1 := b
      rw [b', if_pos rfl, if_neg (by omega), h1] at hcnt
      refine ⟨by show (List.set _ _ _).count (-1) = _; omega, fun i hi => ?_⟩
      show (List.set _ _ _).getD i 0 = -1 ∨ _
      have hx : (pickL F c n (k + 1)).getD i 0 = _ := getD_setI (l := pickL F c n k) (i := favN (F (c k).toNat) (fun j => (pickL F c n k).getD j 0) n) (j := i) (x := c k) (by rw [hl]; exact a)
      have hx2 : (List.set (pickL F c n k) (favN (F (c k).toNat) (fun j => (pickL F c n k).getD j 0) n) (c k)).getD i 0 = _ := hx
      rw [hx2, hx]
      split
      · exact .inr ⟨c0, c1⟩
      · exact h2 i hi
theorem pick_some {F : Nat → Nat → Int} {c : Nat → Int} {K n k : Nat} (hF : ∀ i, i < K → ∀ j, j < n → 0 ≤ F i j ∧ F i j ≤ 1000) (hc : ∀ j, j < n → 0 ≤ c j ∧ c j < K) (hk : k < n) :
    favN (F (c k).toNat) (fun j => (pickL F c n k).getD j 0) n < n ∧ 0 ≤ (favP (F (c k).toNat) (fun j => (pickL F c n k).getD j 0) n).2 ∧ (pickL F c n k).getD (favN (F (c k).toNat) (fun j => (pickL F c n k).getD j 0) n) 0 = -1 := by
  obtain ⟨h1, h2⟩ := pick_ok hF hc k (by omega)
  obtain ⟨c0, c1⟩ := hc k (by omega)
  obtain ⟨hf, _, _⟩ := favP_ok (f := F (c k).toNat) (s := fun j => (pickL F c n k).getD j 0) (j := n) fun i hi => hF _ (by omega) i hi
  have hl := pickL_length F c n k
  obtain ⟨j, hj, hv⟩ := count_pos_at (l := pickL F c n k) (x := -1) (by omega)
  rcases hf with ⟨_, _, h6⟩ | ⟨a, b, _, d, _⟩
  · exact absurd hv (h6 j (by omega))
  · exact ⟨a, d, b⟩
/-- Sets of strips: is a strip in a set of n? -/
def bitN (n s j : Nat) : Nat := s / 2 ^ (n - 1 - j) % 2
/-- What the strips are worth that are on one side. -/
def ptN (f : Nat → Int) (b : Nat → Nat) (x : Nat) : Nat → Int
  | 0 => 0
  | j + 1 => if b j = x then ptN f b x j + f j else ptN f b x j
theorem ptN_bd {f : Nat → Int} {b : Nat → Nat} {x : Nat} : ∀ {m : Nat}, (∀ j, j < m → 0 ≤ f j ∧ f j ≤ 1000) → 0 ≤ ptN f b x m ∧ ptN f b x m ≤ 1000 * m := by
  intro m
  induction m with
  | zero => intro _; simp [ptN]
  | succ m ih =>
    intro h
    have h1 := ih fun j hj => h j (by omega)
    have h2 := h m (by omega)
    unfold ptN
    split <;> omega
def lesserN (f : Nat → Int) (n s : Nat) : Int := min (ptN f (bitN n s) 0 n) (ptN f (bitN n s) 1 n)
def halfP (g : Nat → Int) : Nat → Nat × Int
  | 0 => (0, 0)
  | s + 1 => if (halfP g s).2 < g s then (s, g s) else halfP g s
theorem bit_zero (n j : Nat) : bitN n 0 j = 0 := by simp [bitN]
theorem bit_lt (n s j : Nat) : bitN n s j = 0 ∨ bitN n s j = 1 := by unfold bitN; omega
theorem ptN_zero {f : Nat → Int} {b : Nat → Nat} {x : Nat} : ∀ {m : Nat}, (∀ j, b j ≠ x) → ptN f b x m = 0 := by
  intro m
  induction m with
  | zero => intro _; rfl
  | succ m ih => intro h; unfold ptN; rw [if_neg (h m), ih h]
theorem lesser_zero {f : Nat → Int} {n : Nat} (hf : ∀ j, j < n → 0 ≤ f j ∧ f j ≤ 1000) : lesserN f n 0 = 0 := by
  unfold lesserN
  rw [ptN_zero (x := 1) fun j => by rw [bit_zero]; decide]
  have := (ptN_bd (b := bitN n 0) (x := 0) hf).1
  omega
theorem lesser_bd {f : Nat → Int} {n s : Nat} (hf : ∀ j, j < n → 0 ≤ f j ∧ f j ≤ 1000) : 0 ≤ lesserN f n s ∧ lesserN f n s ≤ 1000 * n := by
  have h0 := ptN_bd (b := bitN n s) (x := 0) hf
  have h1 := ptN_bd (b := bitN n s) (x := 1) hf
  unfold lesserN
  omega
theorem halfP_bd {g : Nat → Int} {M : Int} (hM : 0 ≤ M) (h : ∀ s, 0 ≤ g s ∧ g s ≤ M) : ∀ s, 0 ≤ (halfP g s).2 ∧ (halfP g s).2 ≤ M := by
  intro s
  induction s with
  | zero => simp [halfP, hM]
  | succ s ih =>
    unfold halfP
    split
    · exact h s
    · exact ih
theorem halfP_lt {g : Nat → Int} : ∀ s, (halfP g s).1 = 0 ∨ (halfP g s).1 < s := by
  intro s
  induction s with
  | zero => exact .inl rfl
  | succ s ih =>
    unfold halfP
    split
    · exact .inr (by simp)
    · omega
end Go.Proofs.Ytjmjafpjfhgfdaa
