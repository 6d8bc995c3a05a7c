/- Strips given one by one: maths. -/
import Derived.Test.YtjmjafpjfhgfdaaDTurnsM
namespace Go.Proofs.Ytjmjafpjfhgfdaa
open Go.RowKit

theorem least {P : Nat → Prop} (h : ∃ n, P n) : ∃ n, P n ∧ ∀ m, m < n → ¬ P m := by
  obtain ⟨n, hn⟩ := h
  induction n using Nat.strongRecOn with
  | _ n ih =>
    by_cases h : ∃ m, m < n ∧ P m
    · obtain ⟨m, hm, hP⟩ := h
      exact ih m hm hP
    · exact ⟨n, hn, fun m hm hP => h ⟨m, hm, hP⟩⟩
open Classical in
/-- The least number of which something is so. -/
noncomputable def minD (P : Nat → Prop) : Nat := if h : ∃ n, P n then Classical.choose (least h) else 0
theorem minD_ok {P : Nat → Prop} (h : ∃ n, P n) : P (minD P) := by
  unfold minD
  rw [dif_pos h]
  exact (Classical.choose_spec (least h)).1
theorem minD_le {P : Nat → Prop} {n : Nat} (h : P n) : minD P ≤ n := by
  have h1 : ∃ n, P n := ⟨n, h⟩
  unfold minD
  rw [dif_pos h1]
  exact Nat.le_of_not_lt fun hlt => (Classical.choose_spec (least h1)).2 n hlt h
variable {E : Nat → Nat → Bool} {k : Nat}
/-- Who envies b? -/
def itX (g : Nat → Nat) : Nat → Nat
  | 0 => 0
  | i + 1 => g (itX g i)
theorem itX_per {g : Nat → Nat} {i L : Nat} (h : itX g (i + L) = itX g i) : ∀ q, itX g (i + q + L) = itX g (i + q) := by
  intro q
  induction q with
  | zero => exact h
  | succ q ih =>
    rw [show i + (q + 1) + L = (i + q + L) + 1 by omega, show i + (q + 1) = (i + q) + 1 by omega]
    show g (itX g (i + q + L)) = g (itX g (i + q))
    rw [ih]
/-- If each one is envied, there is a circle. -/
theorem all_envied (hk : 0 < k) (h : ∀ b, b < k → ∃ a, a < k ∧ E a b = true) : circA E k ≠ [] := by
  have hg : ∃ g : Nat → Nat, ∀ b, b < k → g b < k ∧ E (g b) b = true := by
    classical
    exact ⟨fun b => if hb : b < k then Classical.choose (h b hb) else 0, fun b hb => by
      simp only [dif_pos hb]
      exact Classical.choose_spec (h b hb)⟩
  obtain ⟨g, hg⟩ := hg
  have hx : ∀ i, itX g i < k := by
    intro i
    induction i with
    | zero => exact hk
    | succ i ih => exact (hg _ ih).1
  have hE : ∀ i, E (itX g (i + 1)) (itX g i) = true := fun i => (hg _ (hx i)).2
  generalize hX : itX g = x at *
  have hper : ∀ i L, x (i + L) = x i → ∀ q, x (i + q + L) = x (i + q) := fun i L h => by
    rw [← hX] at h ⊢
    exact itX_per h
  have hL0 : ∃ L, 0 < L ∧ ∃ i, x (i + L) = x i := by
    apply Classical.byContradiction
    intro hno
    have hd : ((List.range (k + 1)).map x).Nodup := by
      refine nodup_getD fun i j hi hj e => ?_
      simp only [List.length_map, List.length_range] at hi hj
      simp only [List.getD_eq_getElem?_getD, List.getElem?_map, List.getElem?_range hi, List.getElem?_range hj, Option.map_some, Option.getD_some] at e
      apply Classical.byContradiction
      intro hij
      rcases Nat.lt_or_gt_of_ne hij with hlt | hlt
      · exact hno ⟨j - i, by omega, i, by rw [show i + (j - i) = j by omega, e]⟩
      · exact hno ⟨i - j, by omega, j, by rw [show j + (i - j) = i by omega, e]⟩
    have := nodup_len k _ (fun y hy => by
      obtain ⟨i, _, e⟩ := List.mem_map.1 hy
      rw [← e]
      exact hx i) hd
    simp only [List.length_map, List.length_range] at this
    omega
  obtain ⟨L, ⟨hL, i, hi⟩, hmin⟩ := least hL0
  have hv : ∃ v a, i + L ≤ a ∧ x a = v := ⟨_, i + L, Nat.le_refl _, rfl⟩
  obtain ⟨v, ⟨a, ha, hav⟩, hvm⟩ := least hv
  have hge : ∀ b, i ≤ b → v ≤ x b := fun b hb => Nat.le_of_not_lt fun hlt => by
    have h1 := hper i L hi (b - i)
    rw [show i + (b - i) = b by omega] at h1
    exact hvm (x b) hlt ⟨b + L, by omega, h1⟩
  have hdif : ∀ b d, i ≤ b → 0 < d → d < L → x (b + d) ≠ x b := fun b d _ hd0 hdL e => hmin d hdL ⟨hd0, b, e⟩
  have hget : ∀ q, q < L → ((List.range L).map fun q => x (a - q)).getD q 0 = x (a - q) := fun q hq => by
    simp [List.getD_eq_getElem?_getD, hq]
  have hlen : ((List.range L).map fun q => x (a - q)).length = L := by simp
  have hdd : ∀ p q, p < L → q < L → x (a - p) = x (a - q) → p = q := fun p q hp hq e => by
    apply Classical.byContradiction
    intro hne
    rcases Nat.lt_or_gt_of_ne hne with h1 | h1
    · exact hdif (a - q) (q - p) (by omega) (by omega) (by omega) (by rw [show a - q + (q - p) = a - p by omega]; exact e)
    · exact hdif (a - p) (p - q) (by omega) (by omega) (by omega) (by rw [show a - p + (p - q) = a - q by omega]; exact e.symm)
  have C : Cyc E k ((List.range L).map fun q => x (a - q)) := by
    refine ⟨⟨by rw [hlen]; exact hL, ?_, ?_, ?_, ?_⟩, ?_⟩
    · intro q hq
      rw [hlen] at hq
      rw [hget q hq]
      exact hx _
    · intro q hq h0
      rw [hlen] at hq
      rw [hget q hq, hget 0 hL]
      have h1 := hge (a - q) (by omega)
      have h2 : x (a - q) ≠ x (a - 0) := fun e => by
        have := hdd q 0 hq hL e
        omega
      rw [Nat.sub_zero, hav] at h2 ⊢
      omega
    · intro p q hp hq e
      rw [hlen] at hp hq
      rw [hget p hp, hget q hq] at e
      exact hdd p q hp hq e
    · intro q hq
      rw [hlen] at hq
      rw [hget q (by omega), hget (q + 1) hq]
      have := hE (a - (q + 1))
      rw [show a - (q + 1) + 1 = a - q by omega] at this
      exact this
    · rw [hlen, hget (L - 1) (by omega), hget 0 hL]
      have h1 := hper i L hi (a - L - i)
      rw [show i + (a - L - i) + L = a by omega, show i + (a - L - i) = a - L by omega] at h1
      have h2 := hE (a - L)
      rw [show a - (L - 1) = a - L + 1 by omega, Nat.sub_zero, h1]
      exact h2
  exact circA_has C
/-- The first one whom nobody envies. -/
def Free (E : Nat → Nat → Bool) (k r : Nat) : Prop := r < k ∧ (∀ a, a < k → E a r = false) ∧ ∀ b, b < r → ∃ a, a < k ∧ E a b = true
theorem free_some (hk : 0 < k) (h : circA E k = []) : ∃ r, Free E k r := by
  have h1 : ∃ b, b < k ∧ ∀ a, a < k → E a b = false := by
    apply Classical.byContradiction
    intro hno
    refine all_envied (E := E) hk (fun b hb => ?_) h
    apply Classical.byContradiction
    intro h2
    refine hno ⟨b, hb, fun a ha => ?_⟩
    cases e : E a b
    · rfl
    · exact absurd ⟨a, ha, e⟩ h2
  obtain ⟨r, ⟨hr, hf⟩, hmin⟩ := least h1
  refine ⟨r, hr, hf, fun b hb => ?_⟩
  apply Classical.byContradiction
  intro h2
  refine hmin b hb ⟨by omega, fun a ha => ?_⟩
  cases e : E a b
  · rfl
  · exact absurd ⟨a, ha, e⟩ h2
/-- What lies in a list. -/
def gt (t : List Int) (j : Nat) : Int := t.getD j 0
/-- The first circle of a share-out of the first strips. -/
def cirT (R : Nat → Row) (k : Nat) (t : List Int) : List Nat := circA (envT R (gt t) t.length) k
def turnL (R : Nat → Row) (k : Nat) (t : List Int) : List Int := listN (aft (cirT R k t) (gt t)) t.length
theorem turnL_length (R : Nat → Row) (k : Nat) (t : List Int) : (turnL R k t).length = t.length := listN_length _ _
/-- Circles are turned d times, and then there is none. -/
def Stl (R : Nat → Row) (k : Nat) : Nat → List Int → List Int → Prop
  | 0, t, u => t = u ∧ cirT R k t = []
  | d + 1, t, u => cirT R k t ≠ [] ∧ Stl R k d (turnL R k t) u
theorem stl_none {R : Nat → Row} {d : Nat} {t u : List Int} (h : Stl R k d t u) (hc : cirT R k t = []) : t = u := by
  cases d with
  | zero => exact h.1
  | succ d => exact absurd hc h.1
theorem stl_some {R : Nat → Row} {d : Nat} {t u : List Int} (h : Stl R k d t u) (hc : cirT R k t ≠ []) : ∃ d', d = d' + 1 ∧ Stl R k d' (turnL R k t) u := by
  cases d with
  | zero => exact absurd h.2 hc
  | succ d => exact ⟨d, rfl, h.2⟩
/-- Numbers of commoners. -/
def Inr (k : Nat) (t : List Int) : Prop := ∀ j, j < t.length → 0 ≤ gt t j ∧ gt t j < k
structure Up (k : Nat) (R : Nat → Row) (m : Nat) (s : Nat → Int) (l : List Nat) : Prop where
  cir : cirB (envT R s m) k (zl l) l.length = true
  two : 1 < l.length
  len : l.length ≤ k
  inr : (∀ j, j < m → 0 ≤ s j ∧ s j < k) → ∀ j, j < m → 0 ≤ aft l s j ∧ aft l s j < k
  up : sumN (ownW R s m) k < sumN (ownW R (aft l s) m) k
theorem sumN_lt {f g : Nat → Int} {i : Nat} : ∀ {k : Nat}, (∀ j, j < k → f j ≤ g j) → i < k → f i < g i → sumN f k < sumN g k := by
  intro k
  induction k with
  | zero => intro _ hi; omega
  | succ k ih =>
    intro h hi hlt
    rw [sumN_succ, sumN_succ]
    by_cases e : i = k
    · subst e
      have := sumN_le (k := i) fun j hj => h j (by omega)
      omega
    · have := ih (fun j hj => h j (by omega)) (by omega) hlt
      have := h k (by omega)
      omega
theorem up_ok {m : Nat} {R : Nat → Row} {s : Nat → Int} (hne : circA (envT R s m) k ≠ []) : Up k R m s (circA (envT R s m) k) := by
  have C := circA_cyc hne
  have hc := cir_of_cyc (env_self R s m) C (c := zl (circA (envT R s m) k)) fun i _ => rfl
  have hlen := C.1.len
  have hlt := C.1.lt
  generalize circA (envT R s m) k = l at *
  obtain ⟨hd, hk, he, h1⟩ := cir_dif hc
  have hz : ∀ p, zl l p = (l.getD p 0 : Nat) := fun p => rfl
  have up : ∀ p, p < l.length → ownW R s m (l.getD p 0) < ownW R (aft l s) m (l.getD p 0) := fun p hp => by
    have h2 := he p hp
    have h3 := wth_turn (f := (R (l.getD p 0)).f) (s := s) (n := m) hd (by omega) hp
    rw [hz, hz] at h2
    simp only [Int.toNat_natCast] at h2
    unfold envT at h2
    have h4 := of_decide_eq_true h2
    rw [hz, hz] at h3
    unfold ownW aft
    rw [h3]
    exact h4
  refine ⟨hc, h1, hlen, fun hin j hj => turnTo_in hk (hin j hj) l.length (Nat.le_refl _), sumN_lt (fun i hi => ?_) (hlt 0 (by omega)) (up 0 (by omega))⟩
  by_cases hx : ∃ p, p < l.length ∧ l.getD p 0 = i
  · obtain ⟨p, hp, e⟩ := hx
    subst e
    have := up p hp
    omega
  · have h3 := wth_out (f := (R i).f) (s := s) (n := m) hd (o := (i : Nat)) fun p hp e => hx ⟨p, hp, by rw [hz] at e; omega⟩
    unfold ownW aft
    rw [h3]
    exact Int.le_refl _
theorem gt_listN {g : Nat → Int} {m j : Nat} (h : j < m) : gt (listN g m) j = g j := listN_get h
theorem ownW_congr {R : Nat → Row} {c d : Nat → Int} {m i : Nat} (h : ∀ j, j < m → c j = d j) : ownW R c m i = ownW R d m i := wth_congr fun j hj => ⟨rfl, h j hj⟩
theorem stl_ex {n : Nat} {R : Nat → Row} (W : Vals k n R) : ∀ (M : Nat) (t : List Int), t.length ≤ n → Inr k t → 72000 - sumN (ownW R (gt t) t.length) k ≤ (M : Int) → ∃ d u, Stl R k d t u ∧ Inr k u ∧ u.length = t.length := by
  have hk6 := W.k6
  intro M
  induction M with
  | zero =>
    intro t ht hin hM
    by_cases hc : cirT R k t = []
    · exact ⟨0, t, ⟨rfl, hc⟩, hin, rfl⟩
    · have U := up_ok hc
      have h1 := U.up
      have h2 := sumN_bd (g := ownW R (aft (circA (envT R (gt t) t.length) k) (gt t)) t.length) (M := 12000) (k := k) fun j hj => ownW_bd W ht hj
      have h3 : (12000 : Int) * k ≤ 72000 := by omega
      omega
  | succ M ih =>
    intro t ht hin hM
    by_cases hc : cirT R k t = []
    · exact ⟨0, t, ⟨rfl, hc⟩, hin, rfl⟩
    · have U := up_ok hc
      have h1 := U.up
      have hl := turnL_length R k t
      have hge : ∀ j, j < t.length → gt (turnL R k t) j = aft (cirT R k t) (gt t) j := fun j hj => gt_listN hj
      obtain ⟨d, u, h2, h3, h4⟩ := ih (turnL R k t) (by rw [hl]; exact ht) (fun j hj => by
        rw [hl] at hj
        rw [hge j hj]
        exact U.inr hin j hj) (by
        rw [hl]
        have e : ownW R (gt (turnL R k t)) t.length = ownW R (aft (cirT R k t) (gt t)) t.length := funext fun i => ownW_congr hge
        rw [e]
        have h1' : sumN (ownW R (gt t) t.length) k < sumN (ownW R (aft (cirT R k t) (gt t)) t.length) k := h1
        omega)
      exact ⟨d + 1, u, ⟨hc, h2⟩, h3, h4.trans hl⟩
/-- A strip is given. -/
def Step (R : Nat → Row) (k : Nat) (t t' : List Int) : Prop := ∃ d u r, Stl R k d t u ∧ u.length = t.length ∧ cirT R k u = [] ∧ Free (envT R (gt u) u.length) k r ∧ t' = u ++ [((r : Nat) : Int)]
theorem stl_end {R : Nat → Row} : ∀ {d : Nat} {t u : List Int}, Stl R k d t u → cirT R k u = [] := by
  intro d
  induction d with
  | zero => intro t u h; rw [← h.1]; exact h.2
  | succ d ih => intro t u h; exact ih h.2
theorem gt_snoc {u : List Int} {x : Int} {j : Nat} (hj : j < (u ++ [x]).length) : gt (u ++ [x]) j = if j < u.length then gt u j else x := by
  rw [List.length_append, List.length_cons, List.length_nil] at hj
  unfold gt
  rw [List.getD_eq_getElem?_getD, List.getD_eq_getElem?_getD]
  by_cases h : j < u.length
  · rw [if_pos h, List.getElem?_append_left h]
  · rw [if_neg h, List.getElem?_append_right (by omega)]
    obtain rfl : j = u.length := by omega
    simp
theorem step_ex {n : Nat} {R : Nat → Row} (W : Vals k n R) {t : List Int} (ht : t.length < n) (hin : Inr k t) : ∃ t', Step R k t t' ∧ Inr k t' ∧ t'.length = t.length + 1 := by
  obtain ⟨d, u, h1, h2, h3⟩ := stl_ex W (72000 - sumN (ownW R (gt t) t.length) k).toNat t (by omega) hin (by omega)
  have h4 := stl_end h1
  obtain ⟨r, hr⟩ := free_some (E := envT R (gt u) u.length) W.k1 h4
  refine ⟨u ++ [((r : Nat) : Int)], ⟨d, u, r, h1, h3, h4, hr, rfl⟩, fun j hj => ?_, by rw [List.length_append, h3]; rfl⟩
  rw [gt_snoc hj]
  by_cases h : j < u.length
  · rw [if_pos h]
    exact h2 j h
  · rw [if_neg h]
    have := hr.1
    omega
/-- Strips given, one after the other. -/
theorem give_ex {n : Nat} {R : Nat → Row} (W : Vals k n R) : ∀ i, i ≤ n → ∃ gl : Nat → List Int, gl 0 = [] ∧ (∀ j, j ≤ i → (gl j).length = j ∧ Inr k (gl j)) ∧ ∀ j, j < i → Step R k (gl j) (gl (j + 1)) := by
  intro i
  induction i with
  | zero =>
    intro _
    refine ⟨fun _ => [], rfl, fun j hj => ⟨?_, fun j hj => by simp at hj⟩, fun j hj => by omega⟩
    obtain rfl : j = 0 := by omega
    rfl
  | succ i ih =>
    intro hi
    obtain ⟨gl, h0, h1, h2⟩ := ih (by omega)
    obtain ⟨hl, hin⟩ := h1 i (Nat.le_refl _)
    obtain ⟨t', h3, h4, h5⟩ := step_ex W (t := gl i) (by omega) hin
    refine ⟨fun j => if j = i + 1 then t' else gl j, ?_, fun j hj => ?_, fun j hj => ?_⟩
    · show (if 0 = i + 1 then t' else gl 0) = []
      rw [if_neg (by omega)]
      exact h0
    · show (if j = i + 1 then t' else gl j).length = j ∧ Inr k (if j = i + 1 then t' else gl j)
      by_cases e : j = i + 1
      · rw [if_pos e]
        exact ⟨by omega, h4⟩
      · rw [if_neg e]
        exact h1 j (by omega)
    · show Step R k (if j = i + 1 then t' else gl j) (if j + 1 = i + 1 then t' else gl (j + 1))
      rw [if_neg (by omega)]
      by_cases e : j = i
      · subst e
        rw [if_pos rfl]
        exact h3
      · rw [if_neg (by omega)]
        exact h2 j (by omega)
end Go.Proofs.Ytjmjafpjfhgfdaa
