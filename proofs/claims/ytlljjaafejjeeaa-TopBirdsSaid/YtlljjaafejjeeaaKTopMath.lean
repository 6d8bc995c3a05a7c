/- As many rounds as sightings of one bird: plain facts. -/
import Derived.Test.YtlljjaafejjeeaaKRoundsW
import Derived.Test.YtlljjaafejjeeaaKAreRounds
import Derived.Test.YtlljjaafejjeeaaKFewest
namespace Go.Proofs.Ytlljjaafejjeeaa
open Go.RowKit

theorem hgt_both {R R' : Nat → Nat → Bool} {n : Nat} {μ μ' : Nat → Nat} (D : Down R n μ) (D' : Down R' n μ') (h : ∀ i k, R i k = true → R' k i = true) : ∀ t i, i < n → hgt R n i = t + 1 → ∃ j, j < n ∧ t + hgt R' n i ≤ hgt R' n j := by
  intro t
  induction t with
  | zero => intro i hi _; exact ⟨i, hi, by omega⟩
  | succ t ih =>
    intro i hi e
    obtain ⟨k, hk, e1, e2⟩ := hgt_next D hi (by omega)
    obtain ⟨j, hj, e3⟩ := ih k hk (by omega)
    have := hgt_lt D' hk hi (h i k e1)
    exact ⟨j, hj, by omega⟩
theorem grt_le {R R' : Nat → Nat → Bool} {n : Nat} {μ μ' : Nat → Nat} (D : Down R n μ) (D' : Down R' n μ') (h : ∀ i k, R i k = true → R' k i = true) : grt (hgt R n) n ≤ grt (hgt R' n) n := by
  rcases maxTo_at (p := fun _ => true) (g := hgt R n) n with h1 | ⟨i, hi, _, e⟩
  · unfold grt; rw [h1]; exact Nat.zero_le _
  · have hp := hgt_pos D hi
    have hp' := hgt_pos D' hi
    obtain ⟨j, hj, e2⟩ := hgt_both D D' h (hgt R n i - 1) i hi (by omega)
    have h3 := maxTo_ge (p := fun _ => true) (g := hgt R' n) n j hj rfl
    unfold grt
    omega
/-- As many rounds as the longest bird has sightings. -/
theorem grt_same {n : Nat} {s : Int} {X Y T : Nat → Int} (W : Watch n s X Y T) : grt (hgt (onL s X Y T) n) n = grt (hgt (onF s X Y T) n) n :=
  Nat.le_antisymm (grt_le (down_L W) (down_F W) fun _ _ h => h) (grt_le (down_F W) (down_L W) fun _ _ h => h)
theorem fstN_is {p : Nat → Bool} {n i : Nat} (hi : i < n) (h : p i = true) : ∃ k, fstN p n = some k ∧ k < n ∧ p k = true := by
  cases e : fstN p n with
  | none =>
    unfold fstN at e
    have := List.find?_eq_none.1 e i (by simpa using hi)
    exact absurd h this
  | some k =>
    obtain ⟨a, b⟩ := fstN_spec e
    exact ⟨k, rfl, a, b⟩
/-- Each leads to the next, and the last one has so many behind it. -/
structure LongI (L : Nat → Nat → Bool) (n d : Nat) (l : List Nat) : Prop where
  lt : ∀ x ∈ l, x < n
  ch : Chain L l
  nx : (l = [] ∧ ∃ i, i < n ∧ hgt L n i = d + 1) ∨ ∃ l' j, l = l' ++ [j] ∧ hgt L n j = d + 1 + 1
theorem chain_snoc {L : Nat → Nat → Bool} {n : Nat} {ρ : Nat → Nat} (O : Ord L n ρ) {l : List Nat} {j i : Nat} (hl : ∀ x ∈ l ++ [j], x < n) (hi : i < n) (h : Chain L (l ++ [j])) (e : L j i = true) : Chain L (l ++ [j] ++ [i]) := by
  refine List.pairwise_append.2 ⟨h, by simp, fun x hx y hy => ?_⟩
  simp only [List.mem_singleton] at hy
  subst hy
  rcases List.mem_append.1 hx with h1 | h1
  · exact O.tr x j y (hl x hx) (hl j (by simp)) hi ((List.pairwise_append.1 h).2.2 x h1 j (by simp)) e
  · simp only [List.mem_singleton] at h1
    subst h1
    exact e
theorem longL_all {L : Nat → Nat → Bool} {n : Nat} {μ ρ : Nat → Nat} (D : Down L n μ) (O : Ord L n ρ) : ∀ d l, LongI L n d l → (∀ x ∈ longL L n (hgt L n) (d + 1) l, x < n) ∧ Chain L (longL L n (hgt L n) (d + 1) l) ∧ (longL L n (hgt L n) (d + 1) l).length = l.length + d + 1 := by
  intro d
  induction d with
  | zero =>
    intro l I
    have hx : ∃ i, i < n ∧ (decide (hgt L n i = 0 + 1) && behind L l i) = true := by
      rcases I.nx with ⟨rfl, i, hi, e⟩ | ⟨l', j, rfl, e⟩
      · exact ⟨i, hi, by simp [e, behind]⟩
      · have hj : j < n := I.lt j (by simp)
        obtain ⟨k, hk, e1, e2⟩ := hgt_next D hj (by omega)
        exact ⟨k, hk, by rw [behind_last, e1]; simp; omega⟩
    obtain ⟨i, hi, hp⟩ := hx
    obtain ⟨k, e, hk, hp⟩ := fstN_is (p := fun i => decide (hgt L n i = 0 + 1) && behind L l i) hi hp
    simp only [Bool.and_eq_true, decide_eq_true_eq] at hp
    rw [longL, e]
    simp only [longL]
    refine ⟨fun x hx => ?_, ?_, by simp⟩
    · rcases List.mem_append.1 hx with h | h
      · exact I.lt x h
      · simp at h; omega
    · rcases I.nx with ⟨rfl, _⟩ | ⟨l', j, rfl, _⟩
      · simp [Chain]
      · rw [behind_last] at hp
        exact chain_snoc O I.lt hk I.ch hp.2
  | succ d ih =>
    intro l I
    have hx : ∃ i, i < n ∧ (decide (hgt L n i = d + 1 + 1) && behind L l i) = true := by
      rcases I.nx with ⟨rfl, i, hi, e⟩ | ⟨l', j, rfl, e⟩
      · exact ⟨i, hi, by simp [e, behind]⟩
      · have hj : j < n := I.lt j (by simp)
        obtain ⟨k, hk, e1, e2⟩ := hgt_next D hj (by omega)
        exact ⟨k, hk, by rw [behind_last, e1]; simp; omega⟩
    obtain ⟨i, hi, hp⟩ := hx
    obtain ⟨k, e, hk, hp⟩ := fstN_is (p := fun i => decide (hgt L n i = d + 1 + 1) && behind L l i) hi hp
    simp only [Bool.and_eq_true, decide_eq_true_eq] at hp
    rw [longL, e]
    have J : LongI L n d (l ++ [k]) := by
      refine ⟨fun x hx => ?_, ?_, .inr ⟨l, k, rfl, hp.1⟩⟩
      · rcases List.mem_append.1 hx with h | h
        · exact I.lt x h
        · simp at h; omega
      · rcases I.nx with ⟨rfl, _⟩ | ⟨l', j, rfl, _⟩
        · simp [Chain]
        · rw [behind_last] at hp
          exact chain_snoc O I.lt hk I.ch hp.2
    obtain ⟨a, b, c⟩ := ih (l ++ [k]) J
    refine ⟨a, b, ?_⟩
    rw [c]
    simp only [List.length_append, List.length_cons, List.length_nil]
    omega
/-- The longest bird is a bird, and as long as there are rounds. -/
theorem longW_bird {n : Nat} {s : Int} {X Y T : Nat → Int} (W : Watch n s X Y T) : (∀ x ∈ longW n s X Y T, x < n) ∧ Chain (leadsR s X Y T) (longW n s X Y T) ∧ (longW n s X Y T).length = grt (hgt (onF s X Y T) n) n := by
  rw [← grt_same W]
  unfold longW longM
  rcases maxTo_at (p := fun _ => true) (g := hgt (onL s X Y T) n) n with h1 | ⟨i, hi, _, e⟩
  · have h2 : grt (hgt (onL s X Y T) n) n = 0 := h1
    rw [h2]
    exact ⟨by simp [longL], by simp [longL, Chain], by simp [longL]⟩
  · have hp := hgt_pos (down_L W) hi
    have h2 : grt (hgt (onL s X Y T) n) n = (hgt (onL s X Y T) n i - 1) + 1 := by unfold grt; omega
    rw [h2]
    have h3 := longL_all (ρ := rank n (keyS T)) (down_L W) (watch_ord W) (hgt (onL s X Y T) n i - 1) [] ⟨by simp, by simp [Chain], .inl ⟨rfl, i, hi, by omega⟩⟩
    refine ⟨h3.1, h3.2.1, by rw [h3.2.2]; simp⟩
theorem rowTo_get {r : Row} {n i : Nat} (h : i < (rowTo r n).length) : (rowTo r n)[i] = (r.f i).toNat := by simp [rowTo]
theorem row_chain {L : Nat → Nat → Bool} {n : Nat} {ρ : Nat → Nat} (O : Ord L n ρ) {r : Row} (h : birdB L n r.f r.n = true) : (∀ x ∈ rowTo r r.n, x < n) ∧ Chain L (rowTo r r.n) := by
  have hin := birdB_in h
  have hlt : ∀ i, i < r.n → (r.f i).toNat < n := fun i hi => by
    obtain ⟨x, e, hx⟩ := hin i hi
    rw [e, Int.toNat_natCast]; exact hx
  have hst : ∀ i, i + 1 < r.n → L (r.f i).toNat (r.f (i + 1)).toNat = true := fun i hi => by
    unfold birdB at h
    simp only [Bool.and_eq_true] at h
    have h1 := allB_iff.1 h.1 (i + 1) hi
    unfold okB at h1
    simp only [Bool.and_eq_true] at h1
    simpa using h1.2
  refine ⟨fun x hx => ?_, ?_⟩
  · obtain ⟨i, hi, rfl⟩ := List.getElem_of_mem hx
    rw [rowTo_get]
    rw [rowTo_len] at hi
    exact hlt i hi
  · refine List.pairwise_iff_getElem.2 fun i j hi hj hij => ?_
    rw [rowTo_get, rowTo_get]
    rw [rowTo_len] at hi hj
    have key : ∀ t, i + 1 + t < r.n → L (r.f i).toNat (r.f (i + 1 + t)).toNat = true := by
      intro t
      induction t with
      | zero => intro h; exact hst i h
      | succ t ih =>
        intro h
        exact O.tr _ _ _ (hlt i hi) (hlt (i + 1 + t) (by omega)) (hlt (i + 1 + (t + 1)) h) (ih (by omega)) (hst (i + 1 + t) h)
    have := key (j - (i + 1)) (by omega)
    rw [show i + 1 + (j - (i + 1)) = j by omega] at this
    exact this
theorem apart_list {L : Nat → Nat → Bool} {n : Nat} {ρ : Nat → Nat} (O : Ord L n ρ) {r : Row} (h : apartB L n r.f r.n = true) : ApartL L n (rowTo r r.n) := by
  have hin := apartB_in h
  have hlt : ∀ i, i < r.n → (r.f i).toNat < n := fun i hi => by
    obtain ⟨x, e, hx⟩ := hin i hi
    rw [e, Int.toNat_natCast]; exact hx
  have hok : ∀ i, i < r.n → okA L n r.f i = true := allB_iff.1 h
  have hst : ∀ i, i + 1 < r.n → (r.f i).toNat < (r.f (i + 1)).toNat := fun i hi => by
    have h1 := hok (i + 1) hi
    unfold okA at h1
    simp only [Bool.and_eq_true, Bool.or_eq_true, decide_eq_true_eq] at h1
    obtain ⟨x, e, _⟩ := hin i (by omega)
    obtain ⟨y, e2, _⟩ := hin (i + 1) hi
    rcases h1.2.1 with h2 | h2
    · omega
    · rw [Nat.add_sub_cancel] at h2
      omega
  refine ⟨fun x hx => ?_, ?_, fun x hx y hy => ?_⟩
  · obtain ⟨i, hi, rfl⟩ := List.getElem_of_mem hx
    rw [rowTo_get]
    rw [rowTo_len] at hi
    exact hlt i hi
  · refine List.pairwise_iff_getElem.2 fun i j hi hj hij => ?_
    rw [rowTo_get, rowTo_get]
    rw [rowTo_len] at hi hj
    have key : ∀ t, i + 1 + t < r.n → (r.f i).toNat < (r.f (i + 1 + t)).toNat := by
      intro t
      induction t with
      | zero => intro h; exact hst i h
      | succ t ih =>
        intro h
        have := ih (by omega)
        have := hst (i + 1 + t) h
        rw [show i + 1 + (t + 1) = i + 1 + t + 1 by omega]
        omega
    have := key (j - (i + 1)) (by omega)
    rw [show i + 1 + (j - (i + 1)) = j by omega] at this
    exact this
  · obtain ⟨i, hi, rfl⟩ := List.getElem_of_mem hx
    obtain ⟨j, hj, rfl⟩ := List.getElem_of_mem hy
    rw [rowTo_get, rowTo_get]
    rw [rowTo_len] at hi hj
    have two : ∀ a b, b < a → a < r.n → L (r.f a).toNat (r.f b).toNat = false ∧ L (r.f b).toNat (r.f a).toNat = false := fun a b hab ha => by
      have h1 := hok a ha
      unfold okA at h1
      simp only [Bool.and_eq_true] at h1
      have h2 := allB_iff.1 h1.2.2 b hab
      simp only [Bool.not_eq_true', Bool.or_eq_false_iff] at h2
      exact h2
    rcases Nat.lt_trichotomy i j with h1 | h1 | h1
    · exact (two j i h1 hj).2
    · subst h1
      exact ord_irrefl O (hlt i hi)
    · exact (two i j h1 hi).1
theorem flat_map {R : Nat → Row} : ∀ k, flatN R k = ((List.range k).map fun i => rowTo (R i) (R i).n).flatten := by
  intro k
  induction k with
  | zero => simp [flatN]
  | succ k ih => rw [flatN, ih, List.range_succ, List.map_append, List.flatten_append]; simp
theorem div_once {n k : Nat} {R : Nat → Row} {q : Nat → Bool} (h : divB n k R q = true) (hq : ∀ i, i < k → q i = true → ∀ x ∈ rowTo (R i) (R i).n, x < n) :
    (∀ i, i < k → q i = true) ∧ Once n ((List.range k).map fun i => rowTo (R i) (R i).n) ∧ ((List.range k).map fun i => rowTo (R i) (R i).n).length = k := by
  unfold divB at h
  simp only [Bool.and_eq_true, decide_eq_true_eq] at h
  obtain ⟨h1, h2, h3⟩ := h
  rw [flat_map] at h2 h3
  have h4 := allB_iff.1 h1
  refine ⟨h4, once_of h2 (fun x hx => ?_) h3, by simp⟩
  obtain ⟨p, hp, hx⟩ := List.mem_flatten.1 hx
  obtain ⟨i, hi, rfl⟩ := List.mem_map.1 hp
  have hi' : i < k := by simpa using hi
  exact hq i hi' (h4 i hi') x hx
theorem exp_list {L : Nat → Nat → Bool} {n k : Nat} {ρ : Nat → Nat} (O : Ord L n ρ) {R : Nat → Row} (h : expB L n k R = true) : ∃ P : List (List Nat), Once n P ∧ (∀ p ∈ P, Chain L p) ∧ P.length = k := by
  obtain ⟨h1, h2, h3⟩ := div_once h fun i _ hq => (row_chain O hq).1
  refine ⟨_, h2, fun p hp => ?_, h3⟩
  obtain ⟨i, hi, rfl⟩ := List.mem_map.1 hp
  exact (row_chain O (h1 i (by simpa using hi))).2
theorem rnd_list {L : Nat → Nat → Bool} {n k : Nat} {ρ : Nat → Nat} (O : Ord L n ρ) {R : Nat → Row} (h : rndsB L n k R = true) : ∃ P : List (List Nat), Once n P ∧ (∀ p ∈ P, ApartL L n p) ∧ P.length = k := by
  have hq : ∀ i, rndB L n (R i) = true → ApartL L n (rowTo (R i) (R i).n) := fun i h => by
    unfold rndB at h
    simp only [Bool.and_eq_true] at h
    exact apart_list O h.2
  obtain ⟨h1, h2, h3⟩ := div_once h fun i _ h => (hq i h).1
  refine ⟨_, h2, fun p hp => ?_, h3⟩
  obtain ⟨i, hi, rfl⟩ := List.mem_map.1 hp
  exact hq i (h1 i (by simpa using hi))
theorem rnds_true {L : Nat → Nat → Bool} {n k : Nat} {R : Nat → Row} {P : List (List Nat)} (hP : Once n P) (hc : ∀ p ∈ P, ApartL L n p ∧ 0 < p.length) (hk : k = P.length) (hn : ∀ i, i < P.length → (R i).n = (P.getD i []).length) (hf : ∀ i, i < P.length → ∀ j, (R i).f j = ((P.getD i []).getD j 0 : Nat)) : rndsB L n k R = true := by
  subst hk
  unfold rndsB divB
  have h1 := flat_rows hn hf P.length (Nat.le_refl _)
  rw [List.take_length] at h1
  rw [h1, decide_eq_true hP.1, decide_eq_true (once_length hP), Bool.and_true, Bool.and_true, allB_iff]
  intro i hi
  obtain ⟨h2, h3⟩ := hc _ (getD_mem (d := []) hi)
  unfold rndB
  rw [apart_true h2 (hn i hi) (hf i hi), Bool.and_true, decide_eq_true_eq, hn i hi]
  exact h3
/-- The rounds of a watch. -/
def lvls (n : Nat) (H : Nat → Nat) (G : Nat) : List (List Nat) := (List.range G).map fun d => rowD n H d
theorem rdsTo_map (n : Nat) (H : Nat → Nat) (G : Nat) : rdsTo n H G = (lvls n H G).map natZ := by
  unfold rdsTo lvls
  rw [List.map_map]
  rfl
theorem rowD_mem {n : Nat} {H : Nat → Nat} {d x : Nat} : x ∈ rowD n H d ↔ x < n ∧ H x = d + 1 := by
  unfold rowD
  simp only [List.mem_filter, List.mem_range, decide_eq_true_eq]
theorem lvls_once {n G : Nat} {H : Nat → Nat} (h1 : ∀ i, i < n → 1 ≤ H i) (h2 : ∀ i, i < n → H i ≤ G) : Once n (lvls n H G) := by
  refine ⟨?_, fun x => ⟨fun hx => ?_, fun hx => ?_⟩⟩
  · rw [List.nodup_iff_pairwise_ne]
    refine List.pairwise_flatten.2 ⟨fun p hp => ?_, ?_⟩
    · obtain ⟨d, _, rfl⟩ := List.mem_map.1 hp
      exact (sorted_filter n _).imp fun h => Nat.ne_of_lt h
    · refine List.pairwise_map.2 (List.Pairwise.imp ?_ List.pairwise_lt_range)
      intro a b hab x hx y hy e
      have e1 := (rowD_mem.1 hx).2
      have e2 := (rowD_mem.1 hy).2
      rw [e] at e1
      omega
  · obtain ⟨p, hp, hx⟩ := List.mem_flatten.1 hx
    obtain ⟨d, _, rfl⟩ := List.mem_map.1 hp
    exact (rowD_mem.1 hx).1
  · have a := h1 x hx
    have b := h2 x hx
    exact List.mem_flatten.2 ⟨rowD n H (H x - 1), List.mem_map.2 ⟨H x - 1, by simp; omega, rfl⟩, rowD_mem.2 ⟨hx, by omega⟩⟩
theorem lvls_apart {n : Nat} {s : Int} {X Y T : Nat → Int} (W : Watch n s X Y T) (d : Nat) : ApartL (leadsR s X Y T) n (rowD n (hgt (onF s X Y T) n) d) := by
  refine ⟨fun x hx => (rowD_mem.1 hx).1, sorted_filter n _, fun x hx y hy => ?_⟩
  obtain ⟨a, b⟩ := rowD_mem.1 hx
  obtain ⟨a', b'⟩ := rowD_mem.1 hy
  cases e : leadsR s X Y T x y
  · rfl
  · have := hgt_lt (down_F W) a' a (show onF s X Y T y x = true from e)
    omega
end Go.Proofs.Ytlljjaafejjeeaa
