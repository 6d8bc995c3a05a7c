/- Fair but for one strip; halves and two: maths. -/
import Derived.Test.YtjmjafpjfhgfdaaDGiveM
import Derived.Test.YtjmjafpjfhgfdaaDTwo
namespace Go.Proofs.Ytjmjafpjfhgfdaa
open Go.RowKit

/-- The greatest worth of a lesser part. -/
theorem halfP_ge {g : Nat → Int} : ∀ (s x : Nat), x < s → g x ≤ (halfP g s).2 := by
  intro s
  induction s with
  | zero => intro x hx; omega
  | succ s ih =>
    intro x hx
    unfold halfP
    by_cases e : x = s
    · subst e
      split
      · exact Int.le_refl _
      · omega
    · have := ih x (by omega)
      split
      · show g x ≤ g s
        omega
      · exact this
theorem halfP_at {g : Nat → Int} (h0 : g 0 = 0) : ∀ s, (halfP g s).2 = g (halfP g s).1 := by
  intro s
  induction s with
  | zero => exact h0.symm
  | succ s ih =>
    unfold halfP
    split
    · rfl
    · exact ih
theorem leastH_at {n : Nat} {f : Nat → Int} (hf : ∀ j, j < n → 0 ≤ f j ∧ f j ≤ 1000) : leastH n f = lesserN f n (setH n f) := halfP_at (g := lesserN f n) (lesser_zero hf) (2 ^ n)
/-- Bits that stand for a number. -/
def numN (b : Nat → Nat) : Nat → Nat
  | 0 => 0
  | n + 1 => 2 * numN b n + b n
theorem numN_lt {b : Nat → Nat} : ∀ n, (∀ j, j < n → b j ≤ 1) → numN b n < 2 ^ n := by
  intro n
  induction n with
  | zero => intro _; simp [numN]
  | succ n ih =>
    intro h
    have h1 := ih fun j hj => h j (by omega)
    have h2 := h n (by omega)
    unfold numN
    rw [Nat.pow_succ]
    omega
theorem numN_bit {b : Nat → Nat} : ∀ n, (∀ j, j < n → b j ≤ 1) → ∀ j, j < n → bitN n (numN b n) j = b j := by
  intro n
  induction n with
  | zero => intro _ j hj; omega
  | succ n ih =>
    intro h j hj
    have h2 := h n (by omega)
    unfold bitN numN
    by_cases e : j = n
    · subst e
      rw [show j + 1 - 1 - j = 0 by omega, Nat.pow_zero, Nat.div_one]
      omega
    · have h1 := ih (fun j hj => h j (by omega)) j (by omega)
      unfold bitN at h1
      rw [show n + 1 - 1 - j = (n - 1 - j) + 1 by omega, Nat.pow_succ, Nat.mul_comm (2 ^ (n - 1 - j)) 2, ← Nat.div_div_eq_div_mul, show (2 * numN b n + b n) / 2 = numN b n by omega]
      exact h1
theorem ptN_congr {f : Nat → Int} {b d : Nat → Nat} {x : Nat} : ∀ {m : Nat}, (∀ j, j < m → b j = d j) → ptN f b x m = ptN f d x m := by
  intro m
  induction m with
  | zero => intro _; rfl
  | succ m ih =>
    intro h
    rw [ptN_succ, ptN_succ, ih fun j hj => h j (by omega), h m (by omega)]
theorem wth_pt {f c : Nat → Int} {b : Nat → Nat} {o : Int} {x : Nat} : ∀ {m : Nat}, (∀ j, j < m → (c j = o ↔ b j = x)) → wth f c o m = ptN f b x m := by
  intro m
  induction m with
  | zero => intro _; rfl
  | succ m ih =>
    intro h
    rw [wth_succ, ptN_succ, ih fun j hj => h j (by omega)]
    by_cases e : c m = o
    · rw [if_pos e, if_pos ((h m (by omega)).1 e)]
    · rw [if_neg e, if_neg fun h' => e ((h m (by omega)).2 h')]
/-- No share-out between two gives the lesser more than the halves. -/
theorem share_le {n : Nat} {f c : Nat → Int} (hc : ∀ j, j < n → 0 ≤ c j ∧ c j < 2) : min (wth f c 0 n) (wth f c 1 n) ≤ leastH n f := by
  have hb : ∀ j, j < n → (c j).toNat ≤ 1 := fun j hj => by have := hc j hj; omega
  have h1 := numN_lt (b := fun j => (c j).toNat) n hb
  have h2 := numN_bit (b := fun j => (c j).toNat) n hb
  have h3 := halfP_ge (g := lesserN f n) (2 ^ n) _ h1
  have e0 : wth f c 0 n = ptN f (bitN n (numN (fun j => (c j).toNat) n)) 0 n := wth_pt fun j hj => by
    rw [h2 j hj]
    have := hc j hj
    show _ ↔ (c j).toNat = 0
    omega
  have e1 : wth f c 1 n = ptN f (bitN n (numN (fun j => (c j).toNat) n)) 1 n := wth_pt fun j hj => by
    rw [h2 j hj]
    have := hc j hj
    show _ ↔ (c j).toNat = 1
    omega
  rw [e0, e1]
  exact h3
theorem two_one {f : Nat → Int} {n s t : Nat} : wth f (twoI n s t) 1 n = ptN f (bitN n s) t n := wth_pt fun j _ => by
  unfold twoI
  by_cases e : bitN n s j = t
  · rw [if_pos e]
    simp [e]
  · rw [if_neg e]
    simp [e]
theorem two_zero {f : Nat → Int} {n s t : Nat} (ht : t = 0 ∨ t = 1) : wth f (twoI n s t) 0 n = ptN f (bitN n s) (1 - t) n := wth_pt fun j _ => by
  have h := bit_lt n s j
  unfold twoI
  by_cases e : bitN n s j = t
  · rw [if_pos e]
    constructor
    · intro h; omega
    · intro h; omega
  · rw [if_neg e]
    constructor
    · intro _; omega
    · intro _; rfl
/-- What two share out. -/
structure TwoOk (n : Nat) (f g : Nat → Int) (c : Nat → Int) : Prop where
  inr : ∀ j, j < n → 0 ≤ c j ∧ c j < 2
  env : wth g c 0 n ≤ wth g c 1 n
  least : leastH n f ≤ wth f c 0 n
  same : f = g → min (wth f c 0 n) (wth f c 1 n) = leastH n f
theorem two_ok {n : Nat} {f g c : Nat → Int} (hf : ∀ j, j < n → 0 ≤ f j ∧ f j ≤ 1000) (hc : ∀ j, j < n → c j = twoI n (setH n f) (tookN n (setH n f) g) j) : TwoOk n f g c := by
  have ht := took_le n (setH n f) g
  have e0 : ∀ h : Nat → Int, wth h c 0 n = ptN h (bitN n (setH n f)) (1 - tookN n (setH n f) g) n := fun h => (wth_congr fun j hj => ⟨rfl, hc j hj⟩).trans (two_zero ht)
  have e1 : ∀ h : Nat → Int, wth h c 1 n = ptN h (bitN n (setH n f)) (tookN n (setH n f) g) n := fun h => (wth_congr fun j hj => ⟨rfl, hc j hj⟩).trans two_one
  have hl := leastH_at hf
  unfold lesserN at hl
  refine ⟨fun j hj => ?_, ?_, ?_, fun hfg => ?_⟩
  · rw [hc j hj]
    unfold twoI
    split <;> omega
  · rw [e0, e1]
    unfold tookN
    split
    · rename_i h
      exact Int.le_of_lt h
    · rename_i h
      exact Int.not_lt.1 h
  · rw [e0, hl]
    rcases ht with h | h
    · rw [h]
      exact Int.min_le_right _ _
    · rw [h]
      exact Int.min_le_left _ _
  · rw [e0, e1, hl]
    rcases ht with h | h
    · rw [h, show 1 - 0 = 1 from rfl, Int.min_comm]
    · rw [h]
/-- Fair but for one strip. -/
def EF1 (R : Nat → Row) (c : Nat → Int) (m k : Nat) : Prop := ∀ a o : Nat, a < k → o < k → wth (R a).f c o m - topO (R a).f c o m ≤ wth (R a).f c a m
theorem fair_ef {R : Nat → Row} {c : Nat → Int} {m k : Nat} (h : EF1 R c m k) : fairT R c m k = true := by
  unfold fairT
  refine allB_iff.2 fun a ha => allB_iff.2 fun o ho => ?_
  cases he : envT R c m a o
  · rw [hard_none he]
    rfl
  · rw [hard_top (k := k) (n := m) he, decide_eq_false (by have := h a o ha ho; omega)]
    rfl
theorem topO_iff {f c d : Nat → Int} {o p : Int} : ∀ {m : Nat}, (∀ j, j < m → (c j = o ↔ d j = p)) → topO f c o m = topO f d p m := by
  intro m
  induction m with
  | zero => intro _; rfl
  | succ m ih =>
    intro h
    rw [topO_succ, topO_succ, ih fun j hj => h j (by omega)]
    by_cases e : c m = o
    · rw [if_pos e, if_pos ((h m (by omega)).1 e)]
    · rw [if_neg e, if_neg fun h' => e ((h m (by omega)).2 h')]
theorem wth_iff {f c d : Nat → Int} {o p : Int} : ∀ {m : Nat}, (∀ j, j < m → (c j = o ↔ d j = p)) → wth f c o m = wth f d p m := by
  intro m
  induction m with
  | zero => intro _; rfl
  | succ m ih =>
    intro h
    rw [wth_succ, wth_succ, ih fun j hj => h j (by omega)]
    by_cases e : c m = o
    · rw [if_pos e, if_pos ((h m (by omega)).1 e)]
    · rw [if_neg e, if_neg fun h' => e ((h m (by omega)).2 h')]
/-- Whose bundle goes to whom. -/
theorem turn_key {c : Nat → Int} {m k : Nat} (hd : ∀ i j, i < m → j < m → c i = c j → i = j) (hk : ∀ i, i < m → 0 ≤ c i ∧ c i < k) (hm : 0 < m) {o : Nat} (ho : o < k) : ∃ p : Nat, p < k ∧ ∀ x : Int, turnTo c m x m = (o : Nat) ↔ x = (p : Nat) := by
  by_cases e : ∃ q, q < m ∧ c q = (o : Nat)
  · obtain ⟨q, hq, hqo⟩ := e
    have hb := hk ((q + 1) % m) (Nat.mod_lt _ hm)
    refine ⟨(c ((q + 1) % m)).toNat, by omega, fun x => ?_⟩
    rw [turn_same hd, show (((c ((q + 1) % m)).toNat : Nat) : Int) = c ((q + 1) % m) by omega, ← hqo]
    constructor
    · intro h
      by_cases e : ∃ q, q < m ∧ x = c ((q + 1) % m)
      · obtain ⟨p, hp, hx⟩ := e
        rw [rturnTo_at m (Nat.le_refl _) hd p hp hx] at h
        rw [hd p q hp hq h] at hx
        exact hx
      · rw [rturnTo_none m fun q hq hx => e ⟨q, hq, hx⟩] at h
        exfalso
        apply e
        by_cases e2 : q = 0
        · exact ⟨m - 1, by omega, by rw [show m - 1 + 1 = m by omega, Nat.mod_self, ← e2]; exact h⟩
        · exact ⟨q - 1, by omega, by rw [show q - 1 + 1 = q by omega, Nat.mod_eq_of_lt hq]; exact h⟩
    · intro h
      exact rturnTo_at m (Nat.le_refl _) hd q hq h
  · refine ⟨o, ho, fun x => ?_⟩
    have ho' : ∀ p, p < m → c p ≠ (o : Nat) := fun p hp h => e ⟨p, hp, h⟩
    by_cases e : ∃ q, q < m ∧ x = c q
    · obtain ⟨q, hq, hx⟩ := e
      rw [turnTo_at m (Nat.le_refl _) hd q hq hx]
      constructor
      · intro h
        split at h
        · exact absurd h (ho' _ (by omega))
        · exact absurd h (ho' _ (by omega))
      · intro h
        exact absurd (hx.symm.trans h) (ho' q hq)
    · rw [turnTo_none m fun q hq hx => e ⟨q, hq, hx⟩]
theorem up_all {k m : Nat} {R : Nat → Row} {s : Nat → Int} (hne : circA (envT R s m) k ≠ []) : ∀ i, ownW R s m i ≤ ownW R (aft (circA (envT R s m) k) s) m i := by
  have C := circA_cyc hne
  have hc := cir_of_cyc (env_self R s m) C (c := zl (circA (envT R s m) k)) fun i _ => rfl
  generalize circA (envT R s m) k = l at *
  obtain ⟨hd, hk, he, h1⟩ := cir_dif hc
  have hz : ∀ p, zl l p = (l.getD p 0 : Nat) := fun p => rfl
  intro i
  by_cases hx : ∃ p, p < l.length ∧ l.getD p 0 = i
  · obtain ⟨p, hp, e⟩ := hx
    subst e
    have h2 := he p hp
    have h3 := wth_turn (f := (R (l.getD p 0)).f) (s := s) (n := m) hd (by omega) hp
    rw [hz, hz] at h2
    simp only [Int.toNat_natCast] at h2
    unfold envT at h2
    have h4 := of_decide_eq_true h2
    rw [hz, hz] at h3
    unfold ownW aft
    rw [h3]
    omega
  · have h3 := wth_out (f := (R i).f) (s := s) (n := m) hd (o := (i : Nat)) fun p hp e => hx ⟨p, hp, by rw [hz] at e; omega⟩
    unfold ownW aft
    rw [h3]
    exact Int.le_refl _
theorem ef_turn {k : Nat} {R : Nat → Row} {t : List Int} (hne : cirT R k t ≠ []) (h : EF1 R (gt t) t.length k) : EF1 R (gt (turnL R k t)) (turnL R k t).length k := by
  obtain ⟨hd, hk, _, h1⟩ := cir_dif (show cirB (envT R (gt t) t.length) k (zl (cirT R k t)) (cirT R k t).length = true from (up_ok hne).cir)
  have hup := up_all (R := R) (s := gt t) (m := t.length) hne
  rw [turnL_length]
  have hg : ∀ j, j < t.length → gt (turnL R k t) j = turnTo (zl (cirT R k t)) (cirT R k t).length (gt t j) (cirT R k t).length := fun j hj => gt_listN hj
  intro a o ha ho
  obtain ⟨p, hp, hkey⟩ := turn_key hd hk (by omega) ho
  have e1 : wth (R a).f (gt (turnL R k t)) (o : Nat) t.length = wth (R a).f (gt t) (p : Nat) t.length := wth_iff fun j hj => by rw [hg j hj]; exact hkey _
  have e2 : topO (R a).f (gt (turnL R k t)) (o : Nat) t.length = topO (R a).f (gt t) (p : Nat) t.length := topO_iff fun j hj => by rw [hg j hj]; exact hkey _
  have e3 : wth (R a).f (gt (turnL R k t)) (a : Nat) t.length = ownW R (aft (cirT R k t) (gt t)) t.length a := wth_congr fun j hj => ⟨rfl, hg j hj⟩
  have h4 := hup a
  have h5 := h a p ha hp
  rw [e1, e2, e3]
  have h6 : ownW R (gt t) t.length a = wth (R a).f (gt t) (a : Nat) t.length := rfl
  have h7 : ownW R (gt t) t.length a ≤ ownW R (aft (cirT R k t) (gt t)) t.length a := h4
  omega
theorem ef_stl {k : Nat} {R : Nat → Row} : ∀ {d : Nat} {t u : List Int}, Stl R k d t u → EF1 R (gt t) t.length k → EF1 R (gt u) u.length k := by
  intro d
  induction d with
  | zero => intro t u h he; rw [← h.1]; exact he
  | succ d ih => intro t u h he; exact ih h.2 (ef_turn h.1 he)
theorem ef_step {k n : Nat} {R : Nat → Row} (W : Vals k n R) {t t' : List Int} (ht : t.length < n) (hs : Step R k t t') (he : EF1 R (gt t) t.length k) : EF1 R (gt t') t'.length k := by
  obtain ⟨d, u, r, h1, h2, _, hfr, rfl⟩ := hs
  have hu := ef_stl h1 he
  have hl : (u ++ [((r : Nat) : Int)]).length = u.length + 1 := by rw [List.length_append]; rfl
  rw [hl]
  have hg : ∀ j, j < u.length → gt (u ++ [((r : Nat) : Int)]) j = gt u j := fun j hj => by
    rw [gt_snoc (by omega), if_pos hj]
  have hx : gt (u ++ [((r : Nat) : Int)]) u.length = (r : Nat) := by
    rw [gt_snoc (by omega), if_neg (by omega)]
  have ew : ∀ (f : Nat → Int) (o : Int), wth f (gt (u ++ [((r : Nat) : Int)])) o u.length = wth f (gt u) o u.length := fun f o => wth_congr fun j hj => ⟨rfl, hg j hj⟩
  have et : ∀ (f : Nat → Int) (o : Int), topO f (gt (u ++ [((r : Nat) : Int)])) o u.length = topO f (gt u) o u.length := fun f o => topO_iff fun j hj => by rw [hg j hj]
  intro a o ha ho
  have hv := W.val a ha u.length (by omega)
  have h3 := hu a o ha ho
  rw [wth_succ, wth_succ, topO_succ, hx, ew, ew, et]
  by_cases hro : ((r : Nat) : Int) = (o : Nat)
  · rw [if_pos hro, if_pos hro]
    obtain rfl : r = o := by omega
    have hne := hfr.2.1 a ha
    unfold envT at hne
    have h4 := of_decide_eq_false hne
    split <;> omega
  · rw [if_neg hro, if_neg hro]
    split <;> omega
theorem ef_give {k n : Nat} {R : Nat → Row} (W : Vals k n R) {gl : Nat → List Int} (h0 : gl 0 = []) (h1 : ∀ j, j ≤ n → (gl j).length = j) (h2 : ∀ j, j < n → Step R k (gl j) (gl (j + 1))) : ∀ j, j ≤ n → EF1 R (gt (gl j)) (gl j).length k := by
  intro j
  induction j with
  | zero =>
    intro _ a o _ _
    rw [h0]
    exact Int.le_refl _
  | succ j ih =>
    intro hj
    exact ef_step W (by rw [h1 j (by omega)]; omega) (h2 j (by omega)) (ih (by omega))
end Go.Proofs.Ytjmjafpjfhgfdaa
