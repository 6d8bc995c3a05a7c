/- Plain facts on buckets: what runs over is told by how often each square ran over; the order plays no part. -/
import Derived.Test.YtelfinjnbncnlaaSettleMath
namespace Go.Proofs.Ytelfinjnbncnlaa

theorem getD_put {l : List Int} {i j : Nat} {x : Int} (hi : i < l.length) : (l.set i x).getD j 0 = if j = i then x else l.getD j 0 := by
  rw [List.getD_eq_getElem?_getD, List.getElem?_set, List.getD_eq_getElem?_getD]
  by_cases e : i = j
  · subst e; rw [if_pos rfl, if_pos hi, if_pos rfl]; rfl
  · rw [if_neg e, if_neg (fun h => e h.symm)]
/-- How often j stands in a list, as an integer. -/
def cnt (j : Nat) : List Nat → Int
  | [] => 0
  | i :: l => (if i = j then 1 else 0) + cnt j l
theorem cnt_nonneg (j : Nat) : ∀ l, 0 ≤ cnt j l
  | [] => Int.le_refl _
  | i :: l => by have := cnt_nonneg j l; show 0 ≤ (if i = j then (1 : Int) else 0) + cnt j l; split <;> omega
theorem cnt_app (j : Nat) : ∀ l k, cnt j (l ++ k) = cnt j l + cnt j k
  | [], k => by show _ = 0 + _; simp
  | i :: l, k => by show (if i = j then (1 : Int) else 0) + cnt j (l ++ k) = (if i = j then (1 : Int) else 0) + cnt j l + cnt j k; rw [cnt_app j l k]; omega
theorem fold_at (t : Int) : ∀ (js : List Nat) (l : List Int) (i : Nat), (∀ j, j ∈ js → j < l.length) → (js.foldl (addL t) l).getD i 0 = l.getD i 0 + t * cnt i js
  | [], l, i, _ => by show l.getD i 0 = l.getD i 0 + t * 0; omega
  | j :: js, l, i, h => by
    have hj := h j (List.mem_cons_self ..)
    rw [List.foldl_cons, fold_at t js _ i fun k hk => by rw [addL_length]; exact h k (List.mem_cons_of_mem _ hk)]
    unfold addL
    rw [getD_put hj]
    show _ = l.getD i 0 + t * ((if j = i then 1 else 0) + cnt i js)
    by_cases e : i = j
    · subst e; rw [if_pos rfl, if_pos rfl, Int.mul_add]; omega
    · rw [if_neg e, if_neg (fun h => e h.symm), Int.mul_add]; omega
theorem psum_set {o : List Int} {k : Nat} (hk : k < o.length) (t : Int) : ∀ js : List Nat, psum (fun j => (o.set k (o.getD k 0 + t)).getD j 0) js = psum (fun j => o.getD j 0) js + t * cnt k js
  | [] => by show (0 : Int) = 0 + t * 0; omega
  | j :: js => by
    show (o.set k (o.getD k 0 + t)).getD j 0 + psum _ js = o.getD j 0 + psum _ js + t * ((if j = k then 1 else 0) + cnt k js)
    rw [psum_set hk t js, getD_put hk, Int.mul_add]
    by_cases e : j = k
    · subst e; rw [if_pos rfl, if_pos rfl]; omega
    · rw [if_neg e, if_neg e]; omega
theorem psum_mono {p q : Nat → Int} : ∀ js : List Nat, (∀ j, j ∈ js → p j ≤ q j) → psum p js ≤ psum q js
  | [], _ => Int.le_refl _
  | j :: js, h => by
    have h1 := h j (List.mem_cons_self ..)
    have h2 := psum_mono js fun i hi => h i (List.mem_cons_of_mem _ hi)
    show p j + psum p js ≤ q j + psum q js
    omega
theorem cnt_one (j : Nat) (c : Bool) (i : Nat) : cnt j (if c = true then [i] else []) = if c = true ∧ i = j then 1 else 0 := by
  cases c
  · simp [cnt]
  · by_cases e : i = j <;> simp [cnt, e]
theorem cnt_if (j : Nat) (c : Prop) [Decidable c] (i : Nat) : cnt j (if c then [i] else []) = if c ∧ i = j then 1 else 0 := by
  by_cases h : c <;> by_cases e : i = j <;> simp [cnt, e, h]
theorem cnt_near (W H i j : Nat) : cnt j (near4 W H i) = (if 0 < i / W ∧ i - W = j then 1 else 0) + (if 0 < i % W ∧ i - 1 = j then 1 else 0) + (if i % W + 1 < W ∧ i + 1 = j then 1 else 0) + (if i / W + 1 < H ∧ i + W = j then 1 else 0) := by
  unfold near4
  rw [cnt_app, cnt_app, cnt_app, cnt_if, cnt_if, cnt_if, cnt_if]
theorem cnt_symm {W H i j : Nat} (hi : i < W * H) (hj : j < W * H) : cnt j (near4 W H i) = cnt i (near4 W H j) := by
  obtain ⟨x, y, hx, hy, rfl⟩ := by_place hi
  obtain ⟨u, v, hu, hv, rfl⟩ := by_place hj
  rw [cnt_near, cnt_near, at_x hx, at_y hx, at_x hu, at_y hu]
  have a1 : (0 < y ∧ y * W + x - W = v * W + u) ↔ (v + 1 < H ∧ v * W + u + W = y * W + x) := by
    constructor
    · rintro ⟨h0, h⟩
      obtain ⟨y', rfl⟩ : ∃ y', y = y' + 1 := ⟨y - 1, by omega⟩
      rw [Nat.add_mul, Nat.one_mul] at h ⊢
      have e : y' * W + x = v * W + u := by omega
      have e1 : y' = v := by rw [← at_y (y := y') hx, e, at_y hu]
      omega
    · rintro ⟨h0, h⟩
      have h' : (v + 1) * W + u = y * W + x := by rw [Nat.add_mul, Nat.one_mul]; omega
      have e1 : v + 1 = y := by rw [← at_y (y := v + 1) hu, h', at_y hx]
      exact ⟨by omega, by omega⟩
  have a2 : (0 < v ∧ v * W + u - W = y * W + x) ↔ (y + 1 < H ∧ y * W + x + W = v * W + u) := by
    constructor
    · rintro ⟨h0, h⟩
      obtain ⟨v', rfl⟩ : ∃ v', v = v' + 1 := ⟨v - 1, by omega⟩
      rw [Nat.add_mul, Nat.one_mul] at h ⊢
      have e : v' * W + u = y * W + x := by omega
      have e1 : v' = y := by rw [← at_y (y := v') hu, e, at_y hx]
      omega
    · rintro ⟨h0, h⟩
      have h' : (y + 1) * W + x = v * W + u := by rw [Nat.add_mul, Nat.one_mul]; omega
      have e1 : y + 1 = v := by rw [← at_y (y := y + 1) hx, h', at_y hu]
      exact ⟨by omega, by omega⟩
  have a3 : (0 < x ∧ y * W + x - 1 = v * W + u) ↔ (u + 1 < W ∧ v * W + u + 1 = y * W + x) := by
    constructor
    · rintro ⟨h0, h⟩
      obtain ⟨x', rfl⟩ : ∃ x', x = x' + 1 := ⟨x - 1, by omega⟩
      have e : y * W + x' = v * W + u := by omega
      have e1 : x' = u := by rw [← at_x (y := y) (show x' < W by omega), e, at_x hu]
      omega
    · rintro ⟨h0, h⟩
      have h' : v * W + (u + 1) = y * W + x := by omega
      have e1 : u + 1 = x := by rw [← at_x (y := v) h0, h', at_x hx]
      omega
  have a4 : (0 < u ∧ v * W + u - 1 = y * W + x) ↔ (x + 1 < W ∧ y * W + x + 1 = v * W + u) := by
    constructor
    · rintro ⟨h0, h⟩
      obtain ⟨u', rfl⟩ : ∃ u', u = u' + 1 := ⟨u - 1, by omega⟩
      have e : v * W + u' = y * W + x := by omega
      have e1 : u' = x := by rw [← at_x (y := v) (show u' < W by omega), e, at_x hx]
      omega
    · rintro ⟨h0, h⟩
      have h' : y * W + (x + 1) = v * W + u := by omega
      have e1 : x + 1 = u := by rw [← at_x (y := y) h0, h', at_x hu]
      omega
  have b1 : (if 0 < y ∧ y * W + x - W = v * W + u then (1 : Int) else 0) = if v + 1 < H ∧ v * W + u + W = y * W + x then 1 else 0 := by simp only [a1]
  have b2 : (if 0 < v ∧ v * W + u - W = y * W + x then (1 : Int) else 0) = if y + 1 < H ∧ y * W + x + W = v * W + u then 1 else 0 := by simp only [a2]
  have b3 : (if 0 < x ∧ y * W + x - 1 = v * W + u then (1 : Int) else 0) = if u + 1 < W ∧ v * W + u + 1 = y * W + x then 1 else 0 := by simp only [a3]
  have b4 : (if 0 < u ∧ v * W + u - 1 = y * W + x then (1 : Int) else 0) = if x + 1 < W ∧ y * W + x + 1 = v * W + u then 1 else 0 := by simp only [a4]
  rw [b1, b2, b3, b4]
  omega
/-- What a square gets from its neighbours when each has run over so often. -/
def inflow (W H : Nat) (o : List Int) (i : Nat) : Int := psum (fun j => o.getD j 0) (near4 W H i)
/-- b is what stands when from f each square has run over as often as o says. -/
structure Lin (W H n : Nat) (f : Nat → Int) (b o : List Int) : Prop where
  lb : b.length = n
  lo : o.length = n
  eq : ∀ i, i < n → b.getD i 0 = f i - 4 * o.getD i 0 + inflow W H o i
theorem psum_zero (n : Nat) : ∀ js : List Nat, psum (fun j => (List.replicate n (0 : Int)).getD j 0) js = 0
  | [] => rfl
  | j :: js => by
    show (List.replicate n (0 : Int)).getD j 0 + psum _ js = 0
    rw [psum_zero n js, List.getD_eq_getElem?_getD, List.getElem?_replicate]
    split <;> rfl
theorem lin_start (W H n : Nat) (f : Nat → Int) : Lin W H n f ((List.range n).map f) (List.replicate n 0) where
  lb := by simp
  lo := by simp
  eq i hi := by
    have e1 : ((List.range n).map f).getD i 0 = f i := by simp [List.getD_eq_getElem?_getD, hi]
    have e2 : (List.replicate n (0 : Int)).getD i 0 = 0 := by rw [List.getD_eq_getElem?_getD, List.getElem?_replicate]; split <;> rfl
    rw [e1, e2, inflow, psum_zero]; omega
theorem Lin.step {W H n : Nat} {f : Nat → Int} {b o : List Int} (h : Lin W H n f b o) (hn : n = W * H) {k : Nat} (hk : k < n) (t : Int) : Lin W H n f (runL W H b k t) (o.set k (o.getD k 0 + t)) where
  lb := by rw [runL_length]; exact h.lb
  lo := by rw [List.length_set]; exact h.lo
  eq i hi := by
    have e := h.eq i hi
    have hj : ∀ j, j ∈ near4 W H k → j < (b.set k (b.getD k 0 - 4 * t)).length := fun j hj => by
      rw [List.length_set, h.lb, hn]
      exact near_lt hj (hn ▸ hk)
    unfold runL inflow
    rw [fold_at t _ _ _ hj, getD_put (by rw [h.lb]; exact hk), psum_set (by rw [h.lo]; exact hk), getD_put (by rw [h.lo]; exact hk)]
    rw [cnt_symm (hn ▸ hk) (hn ▸ hi)]
    unfold inflow at e
    by_cases c : i = k
    · subst c; rw [if_pos rfl, if_pos rfl]; omega
    · rw [if_neg c, if_neg c]; omega
theorem passTo_lin {W H n : Nat} {f : Nat → Int} {S : List Int × List Int} (hn : n = W * H) (h : Lin W H n f S.1 S.2) : ∀ k, k ≤ n → Lin W H n f (passTo W H S k).1 (passTo W H S k).2
  | 0, _ => h
  | k + 1, hk => by
    have ih := passTo_lin hn h k (by omega)
    show Lin W H n f (stepS W H (passTo W H S k) k).1 (stepS W H (passTo W H S k) k).2
    unfold stepS
    split
    · exact ih.step hn (by omega) _
    · exact ih
theorem passes_lin {W H n : Nat} {f : Nat → Int} {S : List Int × List Int} (hn : n = W * H) (h : Lin W H n f S.1 S.2) : ∀ k, Lin W H n f (passes W H n S k).1 (passes W H n S k).2
  | 0 => h
  | k + 1 => passTo_lin hn (passes_lin hn h k) n (Nat.le_refl _)
/-- What lets all settle. -/
def Stills (W H n : Nat) (f : Nat → Int) (m : List Int) : Prop := m.length = n ∧ ∀ i, i < n → f i - 4 * m.getD i 0 + inflow W H m i < 4
/-- A square that may run over has not yet run over as often as what settles says. -/
theorem least_run {W H n : Nat} {f : Nat → Int} {b o m : List Int} (h : Lin W H n f b o) (hn : n = W * H) (hm : Stills W H n f m) (hle : ∀ i, i < n → o.getD i 0 ≤ m.getD i 0) {k : Nat} (hk : k < n) {t : Int} (ht : 4 * t ≤ b.getD k 0) :
    ∀ i, i < n → (o.set k (o.getD k 0 + t)).getD i 0 ≤ m.getD i 0 := fun i hi => by
  rw [getD_put (by rw [h.lo]; exact hk)]
  by_cases c : i = k
  · subst c
    rw [if_pos rfl]
    have e := h.eq i hi
    have e2 := hm.2 i hi
    have e3 : inflow W H o i ≤ inflow W H m i := psum_mono _ fun j hj => hle j (by rw [hn] at hi ⊢; exact near_lt hj hi)
    have := hle i hi
    omega
  · rw [if_neg c]; exact hle i hi
theorem passTo_least {W H n : Nat} {f : Nat → Int} {m : List Int} {S : List Int × List Int} (hn : n = W * H) (hm : Stills W H n f m) (h : Lin W H n f S.1 S.2) (hle : ∀ i, i < n → S.2.getD i 0 ≤ m.getD i 0) : ∀ k, k ≤ n → ∀ i, i < n → (passTo W H S k).2.getD i 0 ≤ m.getD i 0
  | 0, _ => hle
  | k + 1, hk => by
    have ih := passTo_least hn hm h hle k (by omega)
    have hl := passTo_lin hn h k (by omega)
    show ∀ i, i < n → (stepS W H (passTo W H S k) k).2.getD i 0 ≤ m.getD i 0
    unfold stepS
    split
    · rename_i hp
      exact least_run hl hn hm ih (by omega) (by omega)
    · exact ih
theorem passes_least {W H n : Nat} {f : Nat → Int} {m : List Int} {S : List Int × List Int} (hn : n = W * H) (hm : Stills W H n f m) (h : Lin W H n f S.1 S.2) (hle : ∀ i, i < n → S.2.getD i 0 ≤ m.getD i 0) : ∀ k, ∀ i, i < n → (passes W H n S k).2.getD i 0 ≤ m.getD i 0
  | 0 => hle
  | k + 1 => passTo_least hn hm (passes_lin hn h k) (passes_least hn hm h hle k) n (Nat.le_refl _)
theorem Lin.stills {W H n : Nat} {f : Nat → Int} {b o : List Int} (h : Lin W H n f b o) (hs : ∀ j, j < n → b.getD j 0 < 4) : Stills W H n f o :=
  ⟨h.lo, fun i hi => by have := h.eq i hi; have := hs i hi; omega⟩
theorem rep_nil (n i : Nat) : (List.replicate n (0 : Int)).getD i 0 = 0 := by rw [List.getD_eq_getElem?_getD, List.getElem?_replicate]; split <;> rfl
/-- Settled ends: no square runs over more often than what settles more says. -/
theorem settled_le {W H n : Nat} {f : Nat → Int} {m b o : List Int} {k : Nat} (hn : n = W * H) (hm : Stills W H n f m) (hN : NonN m) (h : (b, o) = passes W H n ((List.range n).map f, List.replicate n 0) k) : ∀ i, i < n → o.getD i 0 ≤ m.getD i 0 := by
  have e := passes_least hn hm (S := ((List.range n).map f, List.replicate n 0)) (lin_start W H n f) (fun i hi => by
    show (List.replicate n (0 : Int)).getD i 0 ≤ _
    rw [rep_nil]; exact hN i (by rw [hm.1]; exact hi)) k
  rw [← h] at e
  exact e
theorem settled_lin {W H n : Nat} {f : Nat → Int} {b o : List Int} {k : Nat} (hn : n = W * H) (h : (b, o) = passes W H n ((List.range n).map f, List.replicate n 0) k) : Lin W H n f b o := by
  have e := passes_lin hn (S := ((List.range n).map f, List.replicate n 0)) (lin_start W H n f) k
  rw [← h] at e
  exact e
theorem Stills.less {W H n : Nat} {f g : Nat → Int} {m : List Int} (h : Stills W H n g m) (hfg : ∀ i, i < n → f i ≤ g i) : Stills W H n f m :=
  ⟨h.1, fun i hi => by have := h.2 i hi; have := hfg i hi; omega⟩
/-- Where the buckets come to rest: what stands there then, and how often each square ran over. -/
structure Rests (W H n : Nat) (f : Nat → Int) (b o : List Int) : Prop where
  lin : Lin W H n f b o
  nb : ∀ i, i < n → 0 ≤ b.getD i 0 ∧ b.getD i 0 < 4
  no : NonN o
  least : ∀ m, Stills W H n f m → NonN m → ∀ i, i < n → o.getD i 0 ≤ m.getD i 0
theorem list_eq {a b : List Int} {n : Nat} (ha : a.length = n) (hb : b.length = n) (h : ∀ i, i < n → a.getD i 0 = b.getD i 0) : a = b := by
  apply List.ext_getElem (by omega)
  intro i h1 h2
  have := h i (by omega)
  rwa [List.getD_eq_getElem?_getD, List.getD_eq_getElem?_getD, List.getElem?_eq_getElem h1, List.getElem?_eq_getElem h2] at this
theorem Rests.unique {W H n : Nat} {f : Nat → Int} {b o b' o' : List Int} (h : Rests W H n f b o) (k : Rests W H n f b' o') : b = b' ∧ o = o' := by
  have e : o = o' := list_eq h.lin.lo k.lin.lo fun i hi => by
    have h1 := h.least o' (k.lin.stills fun j hj => (k.nb j hj).2) k.no i hi
    have h2 := k.least o (h.lin.stills fun j hj => (h.nb j hj).2) h.no i hi
    omega
  subst e
  exact ⟨list_eq h.lin.lb k.lin.lb fun i hi => by rw [h.lin.eq i hi, k.lin.eq i hi], rfl⟩
theorem Rests.more {W H n : Nat} {f g : Nat → Int} {b o b' o' : List Int} (h : Rests W H n f b o) (k : Rests W H n g b' o') (hfg : ∀ i, i < n → f i ≤ g i) : ∀ i, i < n → o.getD i 0 ≤ o'.getD i 0 :=
  h.least o' ((k.lin.stills fun j hj => (k.nb j hj).2).less hfg) k.no
theorem rest_still {W H n : Nat} {b : List Int} (hl : b.length = n) (hb : ∀ i, i < n → 0 ≤ b.getD i 0 ∧ b.getD i 0 < 4) : Rests W H n (fun i => b.getD i 0) b (List.replicate n 0) where
  lin := ⟨hl, by simp, fun i hi => by rw [rep_nil, inflow, psum_zero]; omega⟩
  nb := hb
  no i hi := by rw [rep_nil]; omega
  least m hm h0 i hi := by rw [rep_nil]; exact h0 i (by rw [hm.1]; exact hi)
def tab (n : Nat) (g : Nat → Int) : List Int := (List.range n).map g
theorem tab_get {n : Nat} {g : Nat → Int} {i : Nat} (hi : i < n) : (tab n g).getD i 0 = g i := by simp [tab, List.getD_eq_getElem?_getD, hi]
theorem tab_len (n : Nat) (g : Nat → Int) : (tab n g).length = n := by simp [tab]
theorem psum_congr {p q : Nat → Int} : ∀ js : List Nat, (∀ j, j ∈ js → p j = q j) → psum p js = psum q js
  | [], _ => rfl
  | j :: js, h => by
    show p j + psum p js = q j + psum q js
    rw [h j (List.mem_cons_self ..), psum_congr js fun i hi => h i (List.mem_cons_of_mem _ hi)]
theorem psum_add (p q : Nat → Int) : ∀ js : List Nat, psum (fun j => p j + q j) js = psum p js + psum q js
  | [] => rfl
  | j :: js => by show p j + q j + psum _ js = p j + psum p js + (q j + psum q js); rw [psum_add p q js]; omega
theorem inflow_add {W H n : Nat} (hn : n = W * H) {o c s : List Int} (hs : ∀ i, i < n → s.getD i 0 = o.getD i 0 + c.getD i 0) {i : Nat} (hi : i < n) : inflow W H s i = inflow W H o i + inflow W H c i := by
  unfold inflow
  rw [← psum_add]
  exact psum_congr _ fun j hj => hs j (by rw [hn] at hi ⊢; exact near_lt hj hi)
/-- A lawful list, so far: it is never ahead of what settles. -/
structure Lawf (W H n : Nat) (f : Nat → Int) (b o : List Int) : Prop where
  lin : Lin W H n f b o
  no : NonN o
  nb : NonN b
  least : ∀ m, Stills W H n f m → NonN m → ∀ i, i < n → o.getD i 0 ≤ m.getD i 0
theorem law_start {W H n : Nat} {f : Nat → Int} (hf : ∀ i, i < n → 0 ≤ f i) : Lawf W H n f ((List.range n).map f) (List.replicate n 0) where
  lin := lin_start W H n f
  no i hi := by rw [rep_nil]; omega
  nb i hi := by
    have h9 : i < n := by simpa using hi
    have e1 : ((List.range n).map f).getD i 0 = f i := by simp [List.getD_eq_getElem?_getD, h9]
    rw [e1]; exact hf i h9
  least m hm h0 i hi := by rw [rep_nil]; exact h0 i (by rw [hm.1]; exact hi)
theorem Lawf.step {W H n : Nat} {f : Nat → Int} {b o : List Int} (h : Lawf W H n f b o) (hn : n = W * H) {k : Nat} (hk : k < n) (ht : 4 ≤ b.getD k 0) (hnb : NonN (runL W H b k 1)) : Lawf W H n f (runL W H b k 1) (o.set k (o.getD k 0 + 1)) where
  lin := h.lin.step hn hk 1
  no i hi := by
    rw [List.length_set] at hi
    rw [getD_put (by rw [h.lin.lo]; exact hk)]
    have h1 := h.no i hi
    have h2 := h.no k (by rw [h.lin.lo]; exact hk)
    split <;> omega
  nb := hnb
  least m hm h0 := least_run h.lin hn hm (h.least m hm h0) hk (by omega)
/-- Carried on, a lawful list comes to the same rest. -/
theorem Lawf.rest {W H n : Nat} {f : Nat → Int} {b o r c s : List Int} (h : Lawf W H n f b o) (hn : n = W * H) (k : Rests W H n (fun i => b.getD i 0) r c) (hl : s.length = n) (hs : ∀ i, i < n → s.getD i 0 = o.getD i 0 + c.getD i 0) : Rests W H n f r s where
  lin := ⟨k.lin.lb, hl, fun i hi => by
    have e1 := h.lin.eq i hi
    have e2 := k.lin.eq i hi
    have e3 := hs i hi
    have e4 := inflow_add hn hs hi
    omega⟩
  nb := k.nb
  no i hi := by
    have h1 := h.no i (by rw [h.lin.lo]; omega)
    have h2 := k.no i (by rw [k.lin.lo]; omega)
    rw [hs i (by omega)]; omega
  least m hm h0 i hi := by
    have d : ∀ i, i < n → (tab n fun i => m.getD i 0 - o.getD i 0).getD i 0 = m.getD i 0 - o.getD i 0 := fun i hi => tab_get hi
    have e := k.least (tab n fun i => m.getD i 0 - o.getD i 0) ⟨tab_len _ _, fun j hj => by
      have e1 := h.lin.eq j hj
      have e2 := hm.2 j hj
      have e4 := inflow_add hn (o := o) (c := tab n fun i => m.getD i 0 - o.getD i 0) (s := m) (fun i hi => by rw [d i hi]; omega) hj
      have e5 := d j hj
      show b.getD j 0 - 4 * _ + _ < 4
      omega⟩ (fun j hj => by
        rw [tab_len] at hj
        rw [d j hj]
        have := h.least m hm h0 j hj
        omega) i hi
    rw [d i hi] at e
    rw [hs i hi]; omega
end Go.Proofs.Ytelfinjnbncnlaa
