/- Plain mathematics of coats: counts, layers over an inch, reed counted both ways, thin places. -/
import Derived.Test.YtcjahpbbkdkbpaaBase
namespace Go.Proofs.Ytcjahpbbkdkbpaa

/-- How many of the first numbers are so. -/
def cntN (p : Nat → Bool) : Nat → Nat
  | 0 => 0
  | k + 1 => cntN p k + (if p k then 1 else 0)
/-- Is a number among the first of a list? -/
def hasN (f : Nat → Nat) (x : Nat) : Nat → Bool
  | 0 => false
  | k + 1 => hasN f x k || f k == x
def addN (g : Nat → Nat) : Nat → Nat
  | 0 => 0
  | k + 1 => addN g k + g k
def lstN (g : Nat → Nat) : Nat → Nat
  | 0 => g 0
  | k + 1 => min (lstN g k) (g k)
theorem cntN_succ (p : Nat → Bool) (k : Nat) : cntN p (k + 1) = cntN p k + (if p k then 1 else 0) := rfl
theorem addN_succ (g : Nat → Nat) (k : Nat) : addN g (k + 1) = addN g k + g k := rfl
theorem lstN_succ (g : Nat → Nat) (k : Nat) : lstN g (k + 1) = min (lstN g k) (g k) := rfl
theorem cntN_le (p : Nat → Bool) (k : Nat) : cntN p k ≤ k := by
  induction k with
  | zero => exact Nat.le_refl _
  | succ k ih => rw [cntN_succ]; split <;> omega
theorem cntN_mono (p : Nat → Bool) {j k : Nat} (h : j ≤ k) : cntN p j ≤ cntN p k := by
  induction k with
  | zero => obtain rfl : j = 0 := by omega
            exact Nat.le_refl _
  | succ k ih =>
    rcases Nat.lt_or_ge k j with h1 | h1
    · obtain rfl : j = k + 1 := by omega
      exact Nat.le_refl _
    · have := ih h1
      rw [cntN_succ]
      omega
theorem cntN_congr {p q : Nat → Bool} {k : Nat} (h : ∀ m, m < k → p m = q m) : cntN p k = cntN q k := by
  induction k with
  | zero => rfl
  | succ k ih => rw [cntN_succ, cntN_succ, ih fun m hm => h m (by omega), h k (by omega)]
theorem cntN_none {p : Nat → Bool} {k : Nat} (h : ∀ m, m < k → p m = false) : cntN p k = 0 := by
  induction k with
  | zero => rfl
  | succ k ih => rw [cntN_succ, ih fun m hm => h m (by omega), h k (by omega)]; rfl
theorem hasN_iff {f : Nat → Nat} {x k : Nat} : hasN f x k = true ↔ ∃ j, j < k ∧ f j = x := by
  induction k with
  | zero => simp [hasN]
  | succ k ih =>
    rw [hasN, Bool.or_eq_true, ih]
    constructor
    · rintro (⟨j, h1, h2⟩ | h)
      · exact ⟨j, by omega, h2⟩
      · exact ⟨k, by omega, by simpa using h⟩
    · rintro ⟨j, h1, h2⟩
      rcases Nat.lt_or_ge j k with h3 | h3
      · exact .inl ⟨j, h3, h2⟩
      · obtain rfl : j = k := by omega
        exact .inr (by simpa using h2)
theorem cntN_split (p q : Nat → Bool) (k : Nat) : cntN (fun m => p m && !q m) k + cntN (fun m => p m && q m) k = cntN p k := by
  induction k with
  | zero => rfl
  | succ k ih =>
    rw [cntN_succ, cntN_succ, cntN_succ]
    cases p k <;> cases q k <;> simp <;> omega
theorem cntN_span {a b k : Nat} (h1 : a ≤ b + 1) (h2 : b < k) : cntN (fun m => decide (a ≤ m) && decide (m ≤ b)) k = b + 1 - a := by
  have hall : ∀ j, cntN (fun m => decide (a ≤ m) && decide (m ≤ b)) j = min j (b + 1) - min j a := by
    intro j
    induction j with
    | zero => rw [Nat.zero_min, Nat.zero_min]; rfl
    | succ j ih =>
      rw [cntN_succ, ih]
      by_cases c1 : a ≤ j <;> by_cases c2 : j ≤ b <;> simp [c1, c2] <;> omega
  rw [hall]
  omega
theorem cntN_one {p q : Nat → Bool} {c k : Nat} (hc : c < k) (hp : p c = false) (hq : q c = true) (h : ∀ m, m ≠ c → q m = p m) : cntN q k = cntN p k + 1 := by
  induction k with
  | zero => omega
  | succ k ih =>
    rw [cntN_succ, cntN_succ]
    rcases Nat.lt_or_ge c k with h1 | h1
    · rw [ih h1, h k (by omega)]
      omega
    · obtain rfl : c = k := by omega
      rw [hp, hq, cntN_congr (p := q) (q := p) fun m hm => h m (by omega)]
      simp
/-- The courses that are missing: in strictly ascending order, each a course. -/
structure Miss (n j : Nat) (f : Nat → Nat) : Prop where
  lt : ∀ i, i < j → f i < n
  up : ∀ i, i + 1 < j → f i < f (i + 1)
theorem Miss.asc {n j : Nat} {f : Nat → Nat} (h : Miss n j f) {a b : Nat} (hab : a < b) (hb : b < j) : f a < f b := by
  induction b with
  | zero => omega
  | succ b ih =>
    have h1 := h.up b hb
    rcases Nat.lt_or_ge a b with h2 | h2
    · have := ih h2 (by omega)
      omega
    · obtain rfl : a = b := by omega
      exact h1
theorem cntN_miss {n j : Nat} {f : Nat → Nat} (h : Miss n j f) (q : Nat → Bool) (k : Nat) (hk : k ≤ j) : cntN (fun m => q m && hasN f m k) n = cntN (fun i => q (f i)) k := by
  induction k with
  | zero => exact cntN_none fun m _ => by simp [hasN]
  | succ k ih =>
    have ih := ih (by omega)
    rw [cntN_succ, ← ih]
    have hno : hasN f (f k) k = false := by
      cases hh : hasN f (f k) k
      · rfl
      · obtain ⟨i, h1, h2⟩ := hasN_iff.1 hh
        have := h.asc h1 (by omega)
        omega
    cases hq : q (f k)
    · rw [if_neg (by simp)]
      refine cntN_congr fun m hm => ?_
      show (q m && (hasN f m k || f k == m)) = _
      by_cases e : f k = m
      · subst e; simp [hq]
      · have : (f k == m) = false := by simpa using e
        simp [this]
    · rw [if_pos rfl]
      refine cntN_one (c := f k) (h.lt k (by omega)) (by simp [hno]) (by simp [hq, hasN]) fun m hm => ?_
      have : (f k == m) = false := by simpa using fun e => hm e.symm
      simp [hasN, this]
/-- Does a course lie over an inch? -/
def liesB (G R j : Nat) (f : Nat → Nat) (i m : Nat) : Bool := (decide (m * G ≤ i) && decide (i < m * G + R)) && !hasN f m j
/-- The layers over an inch, of the first courses. -/
def layN (G R j : Nat) (f : Nat → Nat) (i : Nat) (k : Nat) : Nat := cntN (liesB G R j f i) k
def firstN (G R i : Nat) : Nat := if R ≤ i then (i - R) / G + 1 else 0
theorem lies_span {G R m i : Nat} (hG : 1 ≤ G) : (decide (m * G ≤ i) && decide (i < m * G + R)) = (decide (firstN G R i ≤ m) && decide (m ≤ i / G)) := by
  have h1 : m * G ≤ i ↔ m ≤ i / G := (Nat.le_div_iff_mul_le (by omega)).symm
  have h2 : i < m * G + R ↔ firstN G R i ≤ m := by
    unfold firstN
    split
    · rename_i h
      rw [Nat.add_one_le_iff, Nat.div_lt_iff_lt_mul (by omega)]
      omega
    · constructor
      · intro _; omega
      · intro _; omega
  rw [decide_eq_decide.2 h1, decide_eq_decide.2 h2, Bool.and_comm]
theorem first_le {G R i : Nat} (hG : 1 ≤ G) (hR : 1 ≤ R) : firstN G R i ≤ i / G + 1 := by
  unfold firstN
  split
  · have := Nat.div_le_div_right (c := G) (show i - R ≤ i by omega)
    omega
  · exact Nat.zero_le _
def upN (n d : Nat) : Nat := (n + d - 1) / d
theorem upN_le_iff {n d k : Nat} (hd : 1 ≤ d) : upN n d ≤ k ↔ n ≤ k * d := by
  unfold upN
  rw [Nat.div_le_iff_le_mul_add_pred (by omega)]
  have := Nat.mul_comm d k
  omega
theorem lt_upN_iff {n d k : Nat} (hd : 1 ≤ d) : k < upN n d ↔ k * d < n := by
  have := upN_le_iff (n := n) (k := k) hd
  omega
/-- What the program counts over an inch. -/
theorem layers_count {G R S j : Nat} {f : Nat → Nat} {i : Nat} (hG : 1 ≤ G) (hR : 1 ≤ R) (hi : i < S) (h : Miss (upN S G) j f) :
    layN G R j f i (upN S G) + cntN (fun q => decide (firstN G R i ≤ f q) && decide (f q ≤ i / G)) j = i / G + 1 - firstN G R i := by
  have hlast : i / G < upN S G := (lt_upN_iff hG).2 (by have := Nat.div_mul_le_self i G; omega)
  rw [← cntN_miss h (fun m => decide (firstN G R i ≤ m) && decide (m ≤ i / G)) j (Nat.le_refl _), ← cntN_span (first_le hG hR) hlast, ← cntN_split (fun m => decide (firstN G R i ≤ m) && decide (m ≤ i / G)) (fun m => hasN f m j)]
  congr 1
  refine cntN_congr fun m _ => ?_
  unfold liesB
  rw [lies_span hG]
theorem addN_congr {g h : Nat → Nat} {k : Nat} (e : ∀ i, i < k → g i = h i) : addN g k = addN h k := by
  induction k with
  | zero => rfl
  | succ k ih => rw [addN_succ, addN_succ, ih fun i hi => e i (by omega), e k (by omega)]
theorem addN_add (g h : Nat → Nat) (k : Nat) : addN (fun i => g i + h i) k = addN g k + addN h k := by
  induction k with
  | zero => rfl
  | succ k ih => rw [addN_succ, addN_succ, addN_succ, ih]; omega
theorem addN_zero (k : Nat) : addN (fun _ => 0) k = 0 := by
  induction k with
  | zero => rfl
  | succ k ih => rw [addN_succ, ih]
theorem addN_le {g : Nat → Nat} {b k : Nat} (h : ∀ i, i < k → g i ≤ b) : addN g k ≤ k * b := by
  induction k with
  | zero => simp [addN]
  | succ k ih => rw [addN_succ, Nat.succ_mul]; have := ih fun i hi => h i (by omega); have := h k (by omega); omega
theorem cntN_addN (p : Nat → Bool) (k : Nat) : cntN p k = addN (fun m => if p m then 1 else 0) k := by
  induction k with
  | zero => rfl
  | succ k ih => rw [cntN_succ, addN_succ, ih]
/-- Counted by inches or by courses. -/
theorem count_both (p : Nat → Nat → Bool) (S n : Nat) : addN (fun i => cntN (p i) n) S = addN (fun m => cntN (fun i => p i m) S) n := by
  induction n with
  | zero => exact addN_zero S
  | succ n ih =>
    rw [addN_succ, ← ih, cntN_addN (fun i => p i n) S, ← addN_add]
    rfl
def reedN (G R S j : Nat) (f : Nat → Nat) (m : Nat) : Nat := if hasN f m j then 0 else min R (S - m * G)
theorem reed_course {G R S j : Nat} {f : Nat → Nat} {m : Nat} (hm : m * G < S) (hR : 1 ≤ R) : cntN (fun i => liesB G R j f i m) S = reedN G R S j f m := by
  unfold reedN
  cases hh : hasN f m j
  · rw [if_neg (by simp)]
    have e : cntN (fun i => liesB G R j f i m) S = cntN (fun i => decide (m * G ≤ i) && decide (i ≤ m * G + R - 1)) S := by
      refine cntN_congr fun i _ => ?_
      unfold liesB
      rw [hh, Bool.not_false, Bool.and_true]
      congr 1
      exact decide_eq_decide.2 (by omega)
    rw [e]
    rcases Nat.lt_or_ge (m * G + R - 1) S with h1 | h1
    · rw [cntN_span (by omega) h1]; omega
    · have e2 : cntN (fun i => decide (m * G ≤ i) && decide (i ≤ m * G + R - 1)) S = cntN (fun i => decide (m * G ≤ i) && decide (i ≤ S - 1)) S := by
        refine cntN_congr fun i hi => ?_
        congr 1
        exact decide_eq_decide.2 (by omega)
      rw [e2, cntN_span (by omega) (by omega)]; omega
  · rw [if_pos rfl]
    exact cntN_none fun i _ => by simp [liesB, hh]
theorem reed_both {G R S j : Nat} {f : Nat → Nat} (hG : 1 ≤ G) (hR : 1 ≤ R) : addN (fun i => layN G R j f i (upN S G)) S = addN (reedN G R S j f) (upN S G) := by
  have h1 : addN (fun i => layN G R j f i (upN S G)) S = addN (fun m => cntN (fun i => liesB G R j f i m) S) (upN S G) := count_both _ S (upN S G)
  rw [h1]
  exact addN_congr fun m hm => reed_course ((lt_upN_iff hG).1 hm) hR
/-- Places with too few layers. -/
def thinN (lay : Nat → Nat) (t : Nat) : Nat → List (Nat × Nat)
  | 0 => []
  | i + 1 => if t ≤ lay i then thinN lay t i else if 0 < i ∧ lay (i - 1) < t then (thinN lay t i).set ((thinN lay t i).length - 1) (((thinN lay t i).getD ((thinN lay t i).length - 1) (0, 0)).1, i) else thinN lay t i ++ [(i, i)]
theorem thinN_succ (lay : Nat → Nat) (t i : Nat) : thinN lay t (i + 1) = if t ≤ lay i then thinN lay t i else if 0 < i ∧ lay (i - 1) < t then (thinN lay t i).set ((thinN lay t i).length - 1) (((thinN lay t i).getD ((thinN lay t i).length - 1) (0, 0)).1, i) else thinN lay t i ++ [(i, i)] := rfl
/-- What the list keeps. -/
structure ThinI (lay : Nat → Nat) (t i : Nat) (l : List (Nat × Nat)) : Prop where
  len : l.length ≤ i
  val : ∀ q, q < l.length → (l.getD q (0, 0)).1 ≤ (l.getD q (0, 0)).2 ∧ (l.getD q (0, 0)).2 < i
  gap : ∀ q, q + 1 < l.length → (l.getD q (0, 0)).2 + 1 < (l.getD (q + 1) (0, 0)).1
  has : ∀ x, x < i → (lay x < t ↔ ∃ q, q < l.length ∧ (l.getD q (0, 0)).1 ≤ x ∧ x ≤ (l.getD q (0, 0)).2)
theorem ThinI.before {lay : Nat → Nat} {t i : Nat} {l : List (Nat × Nat)} (h : ThinI lay t i l) {a b : Nat} (hab : a < b) (hb : b < l.length) : (l.getD a (0, 0)).2 + 1 < (l.getD b (0, 0)).1 := by
  induction b with
  | zero => omega
  | succ b ih =>
    have h1 := h.gap b hb
    rcases Nat.lt_or_ge a b with h2 | h2
    · have h3 := ih h2 (by omega)
      have h4 := h.val b (by omega)
      omega
    · obtain rfl : a = b := by omega
      exact h1
/-- The last place ends just here, exactly if the inch before has too few. -/
theorem ThinI.last {lay : Nat → Nat} {t i : Nat} {l : List (Nat × Nat)} (h : ThinI lay t i l) : (0 < i ∧ lay (i - 1) < t) ↔ (0 < l.length ∧ (l.getD (l.length - 1) (0, 0)).2 + 1 = i) := by
  constructor
  · rintro ⟨h0, h1⟩
    obtain ⟨q, hq, h2, h3⟩ := (h.has (i - 1) (by omega)).1 h1
    have h4 := h.val q hq
    refine ⟨by omega, ?_⟩
    rcases Nat.lt_or_ge q (l.length - 1) with h5 | h5
    · have h6 := h.before h5 (by omega)
      have h7 := h.val (l.length - 1) (by omega)
      omega
    · obtain rfl : q = l.length - 1 := by omega
      omega
  · rintro ⟨h0, h1⟩
    have h4 := h.val (l.length - 1) (by omega)
    exact ⟨by omega, (h.has (i - 1) (by omega)).2 ⟨l.length - 1, by omega, by omega, by omega⟩⟩
theorem getD_setP {l : List (Nat × Nat)} {i j : Nat} {x : Nat × Nat} (hi : i < l.length) : (l.set i x).getD j (0, 0) = if j = i then x else l.getD j (0, 0) := by
  rw [List.getD_eq_getElem?_getD, List.getElem?_set, List.getD_eq_getElem?_getD]
  by_cases e : i = j
  · subst e; rw [if_pos rfl, if_pos rfl, if_pos hi]; rfl
  · rw [if_neg e, if_neg (by omega)]
theorem getD_appP {l : List (Nat × Nat)} {j : Nat} {x : Nat × Nat} (hj : j ≤ l.length) : (l ++ [x]).getD j (0, 0) = if j = l.length then x else l.getD j (0, 0) := by
  rw [List.getD_eq_getElem?_getD, List.getD_eq_getElem?_getD]
  by_cases e : j = l.length
  · subst e; simp
  · rw [if_neg e, List.getElem?_append_left (by omega)]
theorem thinN_ok (lay : Nat → Nat) (t i : Nat) : ThinI lay t i (thinN lay t i) := by
  induction i with
  | zero => exact ⟨Nat.le_refl _, fun q hq => absurd hq (Nat.not_lt_zero _), fun q hq => absurd hq (Nat.not_lt_zero _), fun x hx => absurd hx (Nat.not_lt_zero _)⟩
  | succ i ih =>
    rw [thinN_succ]
    by_cases h1 : t ≤ lay i
    · rw [if_pos h1]
      refine ⟨by have := ih.len; omega, fun q hq => by have := ih.val q hq; omega, ih.gap, fun x hx => ?_⟩
      rcases Nat.lt_or_ge x i with h2 | h2
      · exact ih.has x h2
      · obtain rfl : x = i := by omega
        constructor
        · intro h; omega
        · rintro ⟨q, hq, h3, h4⟩
          have := ih.val q hq
          omega
    · rw [if_neg h1]
      by_cases h2 : 0 < i ∧ lay (i - 1) < t
      · rw [if_pos h2]
        obtain ⟨h3, h4⟩ := ih.last.1 h2
        have h5 := ih.len
        generalize thinN lay t i = l at *
        have hg : ∀ j, (l.set (l.length - 1) ((l.getD (l.length - 1) (0, 0)).1, i)).getD j (0, 0) = if j = l.length - 1 then ((l.getD (l.length - 1) (0, 0)).1, i) else l.getD j (0, 0) := fun j => getD_setP (by omega)
        refine ⟨by rw [List.length_set]; omega, fun q hq => ?_, fun q hq => ?_, fun x hx => ?_⟩
        · rw [List.length_set] at hq
          rw [hg]
          have := ih.val q hq
          split
          · rename_i e
            subst e
            simp only
            omega
          · omega
        · rw [List.length_set] at hq
          rw [hg, hg, if_neg (by omega)]
          have := ih.gap q hq
          split
          · rename_i e
            rw [e] at this
            exact this
          · exact this
        · rw [List.length_set]
          rcases Nat.lt_or_ge x i with h6 | h6
          · rw [ih.has x h6]
            constructor
            · rintro ⟨q, hq, h7, h8⟩
              refine ⟨q, hq, ?_⟩
              rw [hg]
              split
              · rename_i e
                subst e
                simp only
                omega
              · omega
            · rintro ⟨q, hq, h7, h8⟩
              rw [hg] at h7 h8
              split at h7
              · rename_i e
                rw [if_pos e] at h8
                subst e
                simp only at h7 h8
                exact ⟨_, hq, h7, by omega⟩
              · rename_i e
                rw [if_neg e] at h8
                exact ⟨q, hq, h7, h8⟩
          · obtain rfl : x = i := by omega
            refine ⟨fun _ => ⟨l.length - 1, by omega, ?_⟩, fun _ => by omega⟩
            rw [hg, if_pos rfl]
            have := ih.val (l.length - 1) (by omega)
            simp only
            omega
      · rw [if_neg h2]
        have h3 : ¬ (0 < (thinN lay t i).length ∧ ((thinN lay t i).getD ((thinN lay t i).length - 1) (0, 0)).2 + 1 = i) := fun h => h2 (ih.last.2 h)
        have h5 := ih.len
        generalize thinN lay t i = l at *
        have hg : ∀ j, j ≤ l.length → (l ++ [(i, i)]).getD j (0, 0) = if j = l.length then (i, i) else l.getD j (0, 0) := fun j hj => getD_appP hj
        refine ⟨by simp; omega, fun q hq => ?_, fun q hq => ?_, fun x hx => ?_⟩
        · simp only [List.length_append, List.length_cons, List.length_nil] at hq
          rw [hg q (by omega)]
          split
          · simp only; omega
          · have := ih.val q (by omega)
            omega
        · simp only [List.length_append, List.length_cons, List.length_nil] at hq
          rw [hg q (by omega), hg (q + 1) (by omega), if_neg (by omega)]
          split
          · rename_i e
            have h6 := ih.val q (by omega)
            have e2 : l.length - 1 = q := by omega
            rw [e2] at h3
            simp only
            omega
          · exact ih.gap q (by omega)
        · simp only [List.length_append, List.length_cons, List.length_nil]
          rcases Nat.lt_or_ge x i with h6 | h6
          · rw [ih.has x h6]
            constructor
            · rintro ⟨q, hq, h7, h8⟩
              refine ⟨q, by omega, ?_⟩
              rw [hg q (by omega), if_neg (by omega)]
              exact ⟨h7, h8⟩
            · rintro ⟨q, hq, h7, h8⟩
              rw [hg q (by omega)] at h7 h8
              split at h7
              · simp only at h7; omega
              · rename_i e
                rw [if_neg e] at h8
                exact ⟨q, by omega, h7, h8⟩
          · obtain rfl : x = i := by omega
            refine ⟨fun _ => ⟨l.length, by omega, ?_⟩, fun _ => by omega⟩
            rw [hg _ (by omega), if_pos rfl]
            simp
end Go.Proofs.Ytcjahpbbkdkbpaa
