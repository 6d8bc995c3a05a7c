/- The fewest birds are as many as the most sightings apart: plain facts. -/
import Derived.Test.YtlljjaafejjeeaaKMatch
namespace Go.Proofs.Ytlljjaafejjeeaa
/-- No more lists than ways: what is apart lies in different parts. -/
theorem nodup_le {l : List Nat} : ∀ {n : Nat}, l.Nodup → (∀ x ∈ l, x < n) → l.length ≤ n := by
  intro n
  induction n generalizing l with
  | zero =>
    intro _ h
    cases l with
    | nil => simp
    | cons a l => exact absurd (h a (List.mem_cons_self ..)) (by omega)
  | succ n ih =>
    intro hd h
    have h1 := ih (l := l.erase n) (hd.erase n) fun x hx => by
      have h2 := h x (List.mem_of_mem_erase hx)
      have h3 : x ≠ n := by
        rintro rfl
        exact (List.Nodup.not_mem_erase hd) hx
      omega
    by_cases e : n ∈ l
    · rw [List.length_erase_of_mem e] at h1; omega
    · rw [List.erase_of_not_mem e] at h1; omega
theorem nodup_full {l : List Nat} {n : Nat} (hd : l.Nodup) (h : ∀ x, x < n → x ∈ l) : n ≤ l.length := by
  induction n generalizing l with
  | zero => omega
  | succ n ih =>
    have h1 := ih (l := l.erase n) (hd.erase n) fun x hx => by
      rw [List.mem_erase_of_ne (by omega)]
      exact h x (by omega)
    rw [List.length_erase_of_mem (h n (by omega))] at h1
    have := List.length_pos_of_mem (h n (by omega))
    omega
/-- Where it lies. -/
def partOf (P : List (List Nat)) (x : Nat) : Nat := match P with
  | [] => 0
  | p :: P => if x ∈ p then 0 else partOf P x + 1
theorem partOf_spec {P : List (List Nat)} {x : Nat} (h : ∃ p ∈ P, x ∈ p) : partOf P x < P.length ∧ x ∈ P.getD (partOf P x) [] := by
  induction P with
  | nil => obtain ⟨p, hp, _⟩ := h; simp at hp
  | cons q P ih =>
    unfold partOf
    split
    · rename_i hx; exact ⟨by simp, by simpa using hx⟩
    · rename_i hx
      obtain ⟨p, hp, hxp⟩ := h
      rcases List.mem_cons.1 hp with rfl | hp
      · exact absurd hxp hx
      · obtain ⟨a, b⟩ := ih ⟨p, hp, hxp⟩
        exact ⟨by simp; omega, by simpa using b⟩
theorem dual {X : List Nat} {P : List (List Nat)} (hX : X.Nodup) (hc : ∀ x ∈ X, ∃ p ∈ P, x ∈ p) (hp : ∀ p ∈ P, ∀ x ∈ X, ∀ y ∈ X, x ∈ p → y ∈ p → x = y) : X.length ≤ P.length := by
  have h1 : (X.map (partOf P)).Nodup := by
    rw [List.nodup_iff_pairwise_ne, List.pairwise_map]
    refine List.Pairwise.imp_of_mem ?_ (List.nodup_iff_pairwise_ne.1 hX)
    intro a b ha hb hab e
    obtain ⟨a1, a2⟩ := partOf_spec (hc a ha)
    obtain ⟨b1, b2⟩ := partOf_spec (hc b hb)
    rw [e] at a2
    refine hab (hp (P.getD (partOf P b) []) ?_ a ha b hb a2 b2)
    rw [List.getD_eq_getElem?_getD, List.getElem?_eq_getElem b1]
    exact List.getElem_mem ..
  have h2 := nodup_le h1 (n := P.length) fun x hx => by
    obtain ⟨a, ha, rfl⟩ := List.mem_map.1 hx
    exact (partOf_spec (hc a ha)).1
  simpa using h2
/-- In order and apart. -/
def ApartL (L : Nat → Nat → Bool) (n : Nat) (l : List Nat) : Prop := (∀ x ∈ l, x < n) ∧ l.Pairwise (· < ·) ∧ ∀ x ∈ l, ∀ y ∈ l, L x y = false
/-- Each sighting once. -/
def Once (n : Nat) (P : List (List Nat)) : Prop := P.flatten.Nodup ∧ (∀ x, x ∈ P.flatten ↔ x < n)
theorem once_length {n : Nat} {P : List (List Nat)} (h : Once n P) : P.flatten.length = n :=
  Nat.le_antisymm (nodup_le h.1 fun x hx => (h.2 x).1 hx) (nodup_full h.1 fun x hx => (h.2 x).2 hx)
theorem once_of {n : Nat} {P : List (List Nat)} (h1 : P.flatten.Nodup) (h2 : ∀ x ∈ P.flatten, x < n) (h3 : P.flatten.length = n) : Once n P := by
  refine ⟨h1, fun x => ⟨h2 x, fun hx => Classical.byContradiction fun hn => ?_⟩⟩
  have h4 := nodup_le (l := x :: P.flatten) (n := n) (List.nodup_cons.2 ⟨hn, h1⟩) fun y hy => by
    rcases List.mem_cons.1 hy with rfl | hy
    · exact hx
    · exact h2 y hy
  simp only [List.length_cons] at h4
  omega
section
variable {L : Nat → Nat → Bool} {n : Nat} {ρ : Nat → Nat}
theorem chain_pair {l : List Nat} (h : Chain L l) {x y : Nat} (hx : x ∈ l) (hy : y ∈ l) : x = y ∨ L x y = true ∨ L y x = true := by
  unfold Chain at h
  induction l with
  | nil => simp at hx
  | cons a l ih =>
    obtain ⟨h1, h2⟩ := List.pairwise_cons.1 h
    rcases List.mem_cons.1 hx with ex | hx'
    · subst ex
      rcases List.mem_cons.1 hy with ey | hy'
      · exact .inl ey.symm
      · exact .inr (.inl (h1 y hy'))
    · rcases List.mem_cons.1 hy with ey | hy'
      · subst ey
        exact .inr (.inr (h1 x hx'))
      · exact ih h2 hx' hy'
theorem chain_nodup (O : Ord L n ρ) {l : List Nat} (hl : ∀ x ∈ l, x < n) (h : Chain L l) : l.Nodup := by
  rw [List.nodup_iff_pairwise_ne]
  refine List.Pairwise.imp_of_mem ?_ h
  intro a b ha hb hab e
  subst e
  rw [ord_irrefl O (hl a ha)] at hab
  cases hab
theorem apart_nodup {l : List Nat} (h : ApartL L n l) : l.Nodup := by
  rw [List.nodup_iff_pairwise_ne]
  exact h.2.1.imp fun h => Nat.ne_of_lt h
/-- No sightings apart are more than birds that explain. -/
theorem apart_le {A : List Nat} {P : List (List Nat)} (hA : ApartL L n A) (hP : Once n P) (hc : ∀ p ∈ P, Chain L p) : A.length ≤ P.length :=
  dual (apart_nodup hA) (fun x hx => by
    obtain ⟨p, hp, h⟩ := List.mem_flatten.1 ((hP.2 x).2 (hA.1 x hx))
    exact ⟨p, hp, h⟩) fun p hp x hx y hy h1 h2 => by
      rcases chain_pair (hc p hp) h1 h2 with h | h | h
      · exact h
      · rw [hA.2.2 x hx y hy] at h; cases h
      · rw [hA.2.2 y hy x hx] at h; cases h
/-- No bird has more sightings than there are rounds. -/
theorem bird_le (O : Ord L n ρ) {B : List Nat} {P : List (List Nat)} (hB : ∀ x ∈ B, x < n) (hb : Chain L B) (hP : Once n P) (hc : ∀ p ∈ P, ApartL L n p) : B.length ≤ P.length :=
  dual (chain_nodup O hB hb) (fun x hx => by
    obtain ⟨p, hp, h⟩ := List.mem_flatten.1 ((hP.2 x).2 (hB x hx))
    exact ⟨p, hp, h⟩) fun p hp x hx y hy h1 h2 => by
      rcases chain_pair hb hx hy with h | h | h
      · exact h
      · rw [(hc p hp).2.2 x h1 y h2] at h; cases h
      · rw [(hc p hp).2.2 y h2 x h1] at h; cases h
/-- The birds of a matching explain. -/
theorem birds_ok {out : List Int} (O : Ord L n ρ) (I : MInv L n n out) : Once n (birdsM n out) ∧ (∀ p ∈ birdsM n out, Chain L p ∧ p ≠ []) ∧ (birdsM n out).length = out.count (-1) := by
  have hmem : ∀ p, p ∈ birdsM n out ↔ ∃ i, i < n ∧ out.getD i 0 = -1 ∧ p = birdM out n i := fun p => by
    unfold birdsM
    simp only [List.mem_map, List.mem_filter, List.mem_range, decide_eq_true_eq]
    constructor
    · rintro ⟨i, ⟨a, b⟩, rfl⟩; exact ⟨i, a, b, rfl⟩
    · rintro ⟨i, a, b, rfl⟩; exact ⟨i, ⟨a, b⟩, rfl⟩
  refine ⟨⟨?_, fun x => ⟨fun hx => ?_, fun hx => ?_⟩⟩, fun p hp => ?_, ?_⟩
  · rw [List.nodup_iff_pairwise_ne, List.pairwise_flatten]
    refine ⟨fun p hp => ?_, ?_⟩
    · obtain ⟨i, hi, _, rfl⟩ := (hmem p).1 hp
      exact List.nodup_iff_pairwise_ne.1 (chain_nodup O (fun x hx => (bird_mem I n i hi x hx).1) (bird_chain O I n i hi).1)
    · unfold birdsM
      rw [List.pairwise_map]
      refine List.Pairwise.imp_of_mem ?_ ((List.nodup_iff_pairwise_ne.1 List.nodup_range).filter _)
      intro i j hi hj hij x hx y hy e
      subst e
      simp only [List.mem_filter, List.mem_range, decide_eq_true_eq] at hi hj
      exact hij (bird_only O I (ρ x + 1) x i j (by omega) hi.1 hj.1 hi.2 hj.2 hx hy)
  · obtain ⟨p, hp, hx⟩ := List.mem_flatten.1 hx
    obtain ⟨i, hi, _, rfl⟩ := (hmem p).1 hp
    exact (bird_mem I n i hi x hx).1
  · obtain ⟨i, a, b, c⟩ := bird_cover O I (ρ x + 1) x hx (by omega)
    exact List.mem_flatten.2 ⟨_, (hmem _).2 ⟨i, a, b, rfl⟩, c⟩
  · obtain ⟨i, hi, _, rfl⟩ := (hmem p).1 hp
    refine ⟨(bird_chain O I n i hi).1, ?_⟩
    cases n <;> unfold birdM <;> (try split) <;> simp
  · unfold birdsM
    rw [List.length_map]
    have h : ∀ (l : List Int) (n : Nat), l.length = n → ((List.range n).filter fun i => decide (l.getD i 0 = -1)).length = l.count (-1) := by
      intro l
      induction l with
      | nil => intro n h; simp at h; subst h; rfl
      | cons a l ih =>
        intro n h
        cases n with
        | zero => simp at h
        | succ n =>
          have := ih n (by simpa using h)
          rw [List.range_succ_eq_map, List.filter_cons, List.filter_map, List.count_cons]
          have e : ((fun i => decide ((a :: l).getD i 0 = -1)) ∘ Nat.succ) = fun i => decide (l.getD i 0 = -1) := by funext i; simp
          rw [e]
          by_cases ha : a = -1
          · simpa [ha] using this
          · simpa [ha] using this
    exact h out n I.len
end
/-! What open sightings cut off. -/
def opnL (R : Nat → List Bool × List Bool → List Bool × List Bool) (L : Nat → Nat → Bool) (be : List Int) (i n : Nat) : Nat → List Bool × List Bool → List Bool × List Bool
  | 0, s => s
  | d + 1, s =>
    if s.2.getD (n - (d + 1)) true = true ∨ L i (n - (d + 1)) = false then opnL R L be i n d s
    else opnL R L be i n d (R (be.getD (n - (d + 1)) 0).toNat (s.1, s.2.set (n - (d + 1)) true))
def opn (L : Nat → Nat → Bool) (be : List Int) (n : Nat) : Nat → Nat → List Bool × List Bool → List Bool × List Bool
  | 0, _, s => s
  | f + 1, i, s => opnL (opn L be n f) L be i n n (s.1.set i true, s.2)
structure OpnPost (L : Nat → Nat → Bool) (be : List Int) (n i lo : Nat) (T : Nat → Prop) (s r : List Bool × List Bool) : Prop where
  l1 : r.1.length = n
  l2 : r.2.length = n
  g1 : ∀ k, k < n → s.1.getD k true = true → r.1.getD k true = true
  g2 : ∀ k, k < n → s.2.getD k true = true → r.2.getD k true = true
  cut : ∀ k, k < n → s.2.getD k true = false → r.2.getD k true = true → T k ∧ r.1.getD (be.getD k 0).toNat true = true
  me : ∀ k, lo ≤ k → k < n → L i k = true → r.2.getD k true = true
  opn : ∀ j, j < n → s.1.getD j true = false → r.1.getD j true = true → ∀ k, k < n → L j k = true → r.2.getD k true = true
theorem opnL_post {L : Nat → Nat → Bool} {n f i : Nat} {be : List Int} {T : Nat → Prop} (hT : Clo L n be T T) (hok : OkM L n be) (hi : ∀ k, k < n → L i k = true → T k) {R : Nat → List Bool × List Bool → List Bool × List Bool}
    (HR : ∀ j s, j < n → (∀ k, k < n → L j k = true → T k) → s.1.length = n → s.2.length = n → s.2.count false < f → OpnPost L be n j 0 T s (R j s) ∧ (R j s).1.getD j true = true) :
    ∀ d s, d ≤ n → s.1.length = n → s.2.length = n → s.2.count false ≤ f → OpnPost L be n i (n - d) T s (opnL R L be i n d s) := by
  intro d
  induction d with
  | zero =>
    intro s hd h1 h2 hc
    exact ⟨h1, h2, fun _ _ h => h, fun _ _ h => h, fun k _ a b => absurd (a.symm.trans b) (by simp), fun k a b => by omega, fun j _ a b => absurd (a.symm.trans b) (by simp)⟩
  | succ d ih =>
    intro s hd h1 h2 hc
    have hk : n - (d + 1) < n := by omega
    have hlo : n - d = n - (d + 1) + 1 := by omega
    unfold opnL
    generalize n - (d + 1) = k0 at *
    split
    · rename_i hs
      have P := ih s (by omega) h1 h2 hc
      refine ⟨P.l1, P.l2, P.g1, P.g2, P.cut, fun k a b c => ?_, P.opn⟩
      by_cases e : k = k0
      · subst e
        rcases hs with hs | hs
        · exact P.g2 _ b hs
        · rw [hs] at c; cases c
      · exact P.me k (by omega) b c
    · rename_i hs
      simp only [not_or, Bool.not_eq_true, Bool.not_eq_false] at hs
      obtain ⟨hs1, hs2⟩ := hs
      have hTk : T k0 := hi k0 hk hs2
      obtain ⟨hne, hcl⟩ := hT k0 hk hTk
      obtain ⟨j, hj, hbj, hL⟩ := (hok k0 hk).resolve_left hne
      have hjn : (be.getD k0 0).toNat = j := by rw [hbj]; simp
      have hc2 := count_setF (l := s.2) (k := k0) (by omega) hs1
      have hgr : ∀ k, k < n → s.2.getD k true = true → (s.2.set k0 true).getD k true = true := fun k h1 h2 => by
        rw [getD_setB (by omega)]; split <;> simp_all
      obtain ⟨PR, hme⟩ := HR j (s.1, s.2.set k0 true) hj (fun k a b => hcl k a (by rw [hjn]; exact b)) h1 (by simp [h2]) (by dsimp only; omega)
      rw [hjn]
      generalize R j (s.1, s.2.set k0 true) = r at *
      have hkc : r.2.getD k0 true = true := PR.g2 k0 hk (by dsimp only; rw [getD_setB (by omega)]; simp)
      have hcr : r.2.count false ≤ f := by
        have key : ∀ (a b : List Bool), a.length = b.length → (∀ k, k < a.length → a.getD k true = true → b.getD k true = true) → b.count false ≤ a.count false := by
          intro a
          induction a with
          | nil => intro b hb _; cases b <;> simp_all
          | cons x a iha =>
            intro b hb h
            cases b with
            | nil => simp at hb
            | cons y b =>
              have h1 := iha b (by simpa using hb) fun k hk hx => by
                have := h (k + 1) (by simp; omega) (by simpa using hx)
                simpa using this
              have h2 := h 0 (by simp)
              simp only [List.getD_cons_zero] at h2
              simp only [List.count_cons]
              cases x <;> cases y <;> simp_all <;> omega
        have := key (s.2.set k0 true) r.2 (by simp [h2, PR.l2]) fun k a b => PR.g2 k (by simp at a; omega) b
        omega
      have P := ih r (by omega) PR.l1 PR.l2 hcr
      refine ⟨P.l1, P.l2, fun k a b => P.g1 k a (PR.g1 k a b), fun k a b => P.g2 k a (PR.g2 k a (hgr k a b)), fun k a b c => ?_, fun k a b c => ?_, fun q a b c k e1 e2 => ?_⟩
      · by_cases e : k = k0
        · subst e
          exact ⟨hTk, by rw [hjn]; exact P.g1 j hj hme⟩
        · by_cases e2 : r.2.getD k true = true
          · obtain ⟨x, y⟩ := PR.cut k a (by dsimp only; rw [getD_setB (by omega), if_neg e]; exact b) e2
            refine ⟨x, ?_⟩
            obtain ⟨hne', _⟩ := hT k a x
            obtain ⟨j', hj', hbj', _⟩ := (hok k a).resolve_left hne'
            have : (be.getD k 0).toNat = j' := by rw [hbj']; simp
            rw [this] at y ⊢
            exact P.g1 j' hj' y
          · exact P.cut k a (by simpa using e2) c
      · by_cases e : k = k0
        · subst e; exact P.g2 _ b hkc
        · exact P.me k (by omega) b c
      · by_cases e3 : r.1.getD q true = true
        · exact P.g2 k e1 (PR.opn q a b e3 k e1 e2)
        · exact P.opn q a (by simpa using e3) c k e1 e2
theorem opn_post {L : Nat → Nat → Bool} {n : Nat} {be : List Int} {T : Nat → Prop} (hT : Clo L n be T T) (hok : OkM L n be) : ∀ (f j : Nat) s, j < n → (∀ k, k < n → L j k = true → T k) → s.1.length = n → s.2.length = n → s.2.count false < f → OpnPost L be n j 0 T s (opn L be n f j s) ∧ (opn L be n f j s).1.getD j true = true := by
  intro f
  induction f with
  | zero => intro j s _ _ _ _ h; omega
  | succ f ih =>
    intro j s hj hl h1 h2 hc
    have P := opnL_post (f := f) hT hok hl (fun j s a b c d e => ih j s a b c d e) n (s.1.set j true, s.2) (Nat.le_refl _) (by simp [h1]) h2 (by dsimp only; omega)
    rw [Nat.sub_self] at P
    have hg : ∀ k, k < n → s.1.getD k true = true → (s.1.set j true).getD k true = true := fun k h1 h2 => by
      rw [getD_setB (by omega)]; split <;> simp_all
    unfold opn
    refine ⟨⟨P.l1, P.l2, fun k a b => P.g1 k a (hg k a b), P.g2, P.cut, P.me, fun q a b c k e1 e2 => ?_⟩, P.g1 j hj (by dsimp only; rw [getD_setB (by omega)]; simp)⟩
    by_cases e : q = j
    · subst e; exact P.me k (Nat.zero_le _) e1 e2
    · exact P.opn q a (by dsimp only; rw [getD_setB (by omega), if_neg e]; exact b) c k e1 e2
/-- Opened from all that lead to none, up to i. -/
def opnM (L : Nat → Nat → Bool) (be : List Int) (n : Nat) : Nat → List Bool × List Bool
  | 0 => (List.replicate n false, List.replicate n false)
  | i + 1 => if be.count (i : Int) = 0 then opn L be n (n + 1) i (opnM L be n i) else opnM L be n i
structure OInv (L : Nat → Nat → Bool) (be : List Int) (n i : Nat) (T : Nat → Prop) (s : List Bool × List Bool) : Prop where
  l1 : s.1.length = n
  l2 : s.2.length = n
  cut : ∀ k, k < n → s.2.getD k true = true → T k ∧ s.1.getD (be.getD k 0).toNat true = true
  opn : ∀ j, j < n → s.1.getD j true = true → ∀ k, k < n → L j k = true → s.2.getD k true = true
  me : ∀ j, j < i → be.count (j : Int) = 0 → s.1.getD j true = true
theorem opnM_inv {L : Nat → Nat → Bool} {n : Nat} {be : List Int} {T : Nat → Prop} (hT : Clo L n be T T) (hok : OkM L n be) (hf : ∀ j : Nat, j < n → be.count (j : Int) = 0 → ∀ k, k < n → L j k = true → T k) : ∀ i, i ≤ n → OInv L be n i T (opnM L be n i) := by
  intro i
  induction i with
  | zero =>
    intro _
    refine ⟨by simp [opnM], by simp [opnM], fun k a b => ?_, fun k a b => ?_, fun j h => by omega⟩
    · unfold opnM at b; rw [getD_repB] at b; simp at b; omega
    · unfold opnM at b; rw [getD_repB] at b; simp at b; omega
  | succ i ih =>
    intro hi
    have I := ih (by omega)
    unfold opnM
    generalize opnM L be n i = s at *
    split
    · rename_i hc
      obtain ⟨P, hme⟩ := opn_post hT hok (n + 1) i s (by omega) (hf i (by omega) hc) I.l1 I.l2 (by have := List.count_le_length (a := false) (l := s.2); have := I.l2; omega)
      generalize opn L be n (n + 1) i s = r at *
      refine ⟨P.l1, P.l2, fun k a b => ?_, fun j a b k c d => ?_, fun j a b => ?_⟩
      · by_cases e : s.2.getD k true = true
        · obtain ⟨x, y⟩ := I.cut k a e
          obtain ⟨j', hj', hbj', _⟩ := (hok k a).resolve_left (hT k a x).1
          have e9 : (be.getD k 0).toNat = j' := by rw [hbj']; simp
          rw [e9] at y ⊢
          exact ⟨x, P.g1 j' hj' y⟩
        · exact P.cut k a (by simpa using e) b
      · by_cases e : s.1.getD j true = true
        · exact P.g2 k c (I.opn j a e k c d)
        · exact P.opn j a (by simpa using e) b k c d
      · by_cases e : j = i
        · subst e; exact hme
        · exact P.g1 j (by omega) (I.me j (by omega) b)
    · rename_i hc
      refine ⟨I.l1, I.l2, I.cut, I.opn, fun j a b => ?_⟩
      by_cases e : j = i
      · subst e; exact absurd b hc
      · exact I.me j (by omega) b
/-- The sightings that are open and not cut off. -/
def apartM (n : Nat) (s : List Bool × List Bool) : List Nat := (List.range n).filter fun i => s.1.getD i true && !s.2.getD i true
theorem nodup_sub {l : List Nat} : ∀ {k : List Nat}, l.Nodup → (∀ x ∈ l, x ∈ k) → l.length ≤ k.length := by
  induction l with
  | nil => intro k _ _; simp
  | cons a l ih =>
    intro k hd h
    obtain ⟨h1, h2⟩ := List.nodup_cons.1 hd
    have h3 := ih (k := k.erase a) h2 fun x hx => by
      rw [List.mem_erase_of_ne (by rintro rfl; exact h1 hx)]
      exact h x (List.mem_cons_of_mem _ hx)
    have ha := h a (List.mem_cons_self ..)
    rw [List.length_erase_of_mem ha] at h3
    have := List.length_pos_of_mem ha
    simp only [List.length_cons]
    omega
theorem sorted_filter (n : Nat) (p : Nat → Bool) : ((List.range n).filter p).Pairwise (· < ·) := List.Pairwise.filter _ List.pairwise_lt_range
theorem count_split (n : Nat) (p : Nat → Bool) : ((List.range n).filter p).length + ((List.range n).filter fun i => !p i).length = n := by
  induction n with
  | zero => rfl
  | succ n ih =>
    rw [List.range_succ, List.filter_append, List.filter_append, List.length_append, List.length_append]
    cases h : p n <;> simp [h] <;> omega
section
variable {L : Nat → Nat → Bool} {n : Nat} {ρ : Nat → Nat} {out : List Int}
/-- As many apart as there are birds. -/
theorem apart_ok (O : Ord L n ρ) (I : MInv L n n out) : ApartL L n (apartM n (opnM L out n n)) ∧ (apartM n (opnM L out n n)).length = out.count (-1) := by
  obtain ⟨T, hT, hf⟩ := I.clo
  have J := opnM_inv hT I.okm hf n (Nat.le_refl _)
  generalize opnM L out n n = s at *
  have hm : ∀ x, x ∈ apartM n s ↔ x < n ∧ s.1.getD x true = true ∧ s.2.getD x true = false := fun x => by
    unfold apartM
    simp only [List.mem_filter, List.mem_range, Bool.and_eq_true, Bool.not_eq_true']
  have hA : ApartL L n (apartM n s) := by
    refine ⟨fun x hx => ((hm x).1 hx).1, sorted_filter n _, fun x hx y hy => ?_⟩
    obtain ⟨a, b, c⟩ := (hm x).1 hx
    obtain ⟨a', b', c'⟩ := (hm y).1 hy
    cases e : L x y
    · rfl
    · rw [J.opn x a b y a' e] at c'; cases c'
  refine ⟨hA, Nat.le_antisymm ?_ ?_⟩
  · obtain ⟨h1, h2, h3⟩ := birds_ok O I
    rw [← h3]
    exact apart_le hA h1 fun p hp => (h2 p hp).1
  · -- the sightings that lead to none, and those ahead of what is cut, are open
    have toN : ∀ k, k < n → out.getD k 0 ≠ -1 → ∃ j, j < n ∧ out.getD k 0 = (j : Nat) ∧ (out.getD k 0).toNat = j ∧ out.count (j : Int) ≠ 0 := fun k hk h => by
      obtain ⟨j, a, b, _⟩ := (I.okm k hk).resolve_left h
      exact ⟨j, a, b, by rw [b]; simp, fun h0 => count_zero h0 (by rw [I.len]; exact hk) b⟩
    have inj : ∀ k k', k < n → k' < n → out.getD k 0 ≠ -1 → out.getD k 0 = out.getD k' 0 → k = k' := fun k k' hk hk' h e => by
      obtain ⟨j, _, b, _⟩ := toN k hk h
      have := I.one j
      rcases Nat.lt_trichotomy k k' with h1 | h1 | h1
      · have := count_two (x := (j : Int)) (by rw [I.len]; exact hk) (by rw [I.len]; exact hk') h1 b (by rw [← e]; exact b); omega
      · exact h1
      · have := count_two (x := (j : Int)) (by rw [I.len]; exact hk') (by rw [I.len]; exact hk) h1 (by rw [← e]; exact b) b; omega
    have mapnd : ∀ p : Nat → Bool, (∀ k, k < n → p k = true → out.getD k 0 ≠ -1) → (((List.range n).filter p).map fun k => (out.getD k 0).toNat).Nodup := fun p hp => by
      rw [List.nodup_iff_pairwise_ne, List.pairwise_map]
      refine List.Pairwise.imp_of_mem ?_ (sorted_filter n p)
      intro a b ha hb hab e
      simp only [List.mem_filter, List.mem_range] at ha hb
      obtain ⟨j, _, x, y, _⟩ := toN a ha.1 (hp a ha.1 ha.2)
      obtain ⟨j', _, x', y', _⟩ := toN b hb.1 (hp b hb.1 hb.2)
      have := inj a b ha.1 hb.1 (hp a ha.1 ha.2) (by omega)
      omega
    -- U: those that lead to none
    have hU : ((List.range n).filter fun i : Nat => decide (out.count (i : Int) = 0)).length = out.count (-1) := by
      have e1 := count_split n fun k => decide (out.getD k 0 = -1)
      have e2 : ((List.range n).filter fun k => decide (out.getD k 0 = -1)).length = out.count (-1) := by
        have := (birds_ok O I).2.2
        unfold birdsM at this
        rw [List.length_map] at this
        exact this
      have e3 := count_split n fun i : Nat => decide (out.count (i : Int) = 0)
      have e4 : ((List.range n).filter fun i : Nat => !decide (out.count (i : Int) = 0)).length = ((List.range n).filter fun k => !decide (out.getD k 0 = -1)).length := by
        apply Nat.le_antisymm
        · have := nodup_sub (l := (List.range n).filter fun i : Nat => !decide (out.count (i : Int) = 0)) (k := ((List.range n).filter fun k => !decide (out.getD k 0 = -1)).map fun k => (out.getD k 0).toNat)
            (List.nodup_iff_pairwise_ne.2 ((sorted_filter n _).imp fun h => Nat.ne_of_lt h)) fun x hx => by
              simp only [List.mem_filter, List.mem_range, Bool.not_eq_true', decide_eq_false_iff_not] at hx
              have h1 : (x : Int) ∈ out := List.count_pos_iff.1 (by omega)
              obtain ⟨k, hk, e⟩ := List.getElem_of_mem h1
              rw [I.len] at hk
              have e' : out.getD k 0 = (x : Nat) := by rw [List.getD_eq_getElem?_getD, List.getElem?_eq_getElem (by rw [I.len]; exact hk)]; exact e
              refine List.mem_map.2 ⟨k, ?_, by rw [e']; simp⟩
              simp only [List.mem_filter, List.mem_range, Bool.not_eq_true', decide_eq_false_iff_not]
              exact ⟨hk, by omega⟩
          rw [List.length_map] at this
          exact this
        · have := nodup_sub (k := (List.range n).filter fun i : Nat => !decide (out.count (i : Int) = 0)) (mapnd (fun k => !decide (out.getD k 0 = -1)) fun k _ h => by simpa using h) fun x hx => by
            obtain ⟨k, hk, rfl⟩ := List.mem_map.1 hx
            simp only [List.mem_filter, List.mem_range, Bool.not_eq_true', decide_eq_false_iff_not] at hk ⊢
            obtain ⟨j, a, b, c, d⟩ := toN k hk.1 hk.2
            rw [c]
            exact ⟨a, d⟩
          rw [List.length_map] at this
          exact this
      omega
    -- all of them, and those ahead of what is cut, are open
    have hopen : ((List.range n).filter fun i : Nat => decide (out.count (i : Int) = 0)).length + ((List.range n).filter fun k => s.2.getD k true).length ≤ ((List.range n).filter fun i => s.1.getD i true).length := by
      have hc : ∀ k, k < n → s.2.getD k true = true → out.getD k 0 ≠ -1 := fun k hk h => (hT k hk (J.cut k hk h).1).1
      have := nodup_sub (l := ((List.range n).filter fun i : Nat => decide (out.count (i : Int) = 0)) ++ ((List.range n).filter fun k => s.2.getD k true).map fun k => (out.getD k 0).toNat) (k := (List.range n).filter fun i => s.1.getD i true) (by
          rw [List.nodup_append]
          refine ⟨List.nodup_iff_pairwise_ne.2 ((sorted_filter n _).imp fun h => Nat.ne_of_lt h), mapnd _ hc, fun x hx y hy e => ?_⟩
          subst e
          obtain ⟨k, hk, e⟩ := List.mem_map.1 hy
          simp only [List.mem_filter, List.mem_range, decide_eq_true_eq] at hx hk
          obtain ⟨j, _, _, c, d⟩ := toN k hk.1 (hc k hk.1 hk.2)
          rw [c] at e
          subst e
          exact d hx.2) fun x hx => by
          simp only [List.mem_append, List.mem_filter, List.mem_range, decide_eq_true_eq, List.mem_map] at hx ⊢
          rcases hx with ⟨a, b⟩ | ⟨k, ⟨a, b⟩, rfl⟩
          · exact ⟨a, J.me x a b⟩
          · obtain ⟨j, c, _, d, _⟩ := toN k a (hc k a b)
            have := (J.cut k a b).2
            rw [d] at this ⊢
            exact ⟨c, this⟩
      rw [List.length_append, List.length_map] at this
      exact this
    have hsub : ((List.range n).filter fun i => s.1.getD i true).length ≤ (apartM n s).length + ((List.range n).filter fun k => s.2.getD k true).length := by
      have := nodup_sub (l := (List.range n).filter fun i => s.1.getD i true) (k := apartM n s ++ (List.range n).filter fun k => s.2.getD k true) (List.nodup_iff_pairwise_ne.2 ((sorted_filter n _).imp fun h => Nat.ne_of_lt h)) fun x hx => by
        simp only [List.mem_append, hm, List.mem_filter, List.mem_range] at hx ⊢
        cases e : s.2.getD x true
        · exact .inl ⟨hx.1, hx.2, rfl⟩
        · exact .inr ⟨hx.1, rfl⟩
      rw [List.length_append] at this
      exact this
    omega
end
end Go.Proofs.Ytlljjaafejjeeaa
