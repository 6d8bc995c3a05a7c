/- What is written is read again: plain lists. -/
import Derived.Test.YticjjikodignfaaDoorParse
import Derived.Test.YticjjikodignfaaDoorRefValue
import Derived.Lib.AtoiAllCases
namespace Go.Proofs.YticjjikodignfaaDoor
open Go.RowKit

theorem suf_snoc (a : List UInt8) (l m : UInt8) : Lib.hasSuffix (a ++ [l]) [m] = decide (m = l) := by
  unfold Lib.hasSuffix
  rw [Bool.eq_iff_iff]
  simp only [List.isSuffixOf_iff_suffix, decide_eq_true_eq]
  constructor
  · rintro ⟨t, ht⟩
    have := congrArg List.getLast? ht
    simpa using this
  · rintro rfl
    exact ⟨a, rfl⟩
theorem trim_snoc (a : List UInt8) (l : UInt8) : Lib.trimSuffix (a ++ [l]) [l] = a := by
  unfold Lib.trimSuffix
  rw [suf_snoc]
  simp
theorem digit_val (d : Nat) (h : d < 10) : (UInt8.ofNat (48 + d)).toNat = 48 + d := by
  rw [UInt8.toNat_ofNat']
  omega
theorem dec_digits : ∀ (k q : Nat), q ≤ k → ∀ x ∈ Lib.decDigits q, 48 ≤ x.toNat ∧ x.toNat ≤ 57 := by
  intro k
  induction k with
  | zero =>
    intro q h x hx
    obtain rfl : q = 0 := by omega
    rw [Lib.decDigits_one (by omega)] at hx
    obtain rfl := List.mem_singleton.1 hx
    rw [digit_val _ (by omega)]; omega
  | succ k ih =>
    intro q h x hx
    by_cases h10 : q < 10
    · rw [Lib.decDigits_one h10] at hx
      obtain rfl := List.mem_singleton.1 hx
      rw [digit_val _ h10]; omega
    · rw [Lib.decDigits, dif_neg h10] at hx
      rcases List.mem_append.1 hx with hx | hx
      · exact ih (q / 10) (by omega) x hx
      · obtain rfl := List.mem_singleton.1 hx
        rw [digit_val _ (by omega)]; omega
theorem mag_dec : ∀ (k q : Nat) (r : List UInt8), q ≤ k → q ≤ 1000000000 → Lib.parseUint10 0 (Lib.decDigits q ++ r) = Lib.parseUint10 q r := by
  have one : ∀ (a d : Nat) (r : List UInt8), d < 10 → a ≤ 1000000000 → Lib.parseUint10 a (UInt8.ofNat (48 + d) :: r) = Lib.parseUint10 (a * 10 + d) r := by
    intro a d r hd ha
    rw [Lib.parseUint10, digit_val d hd, if_pos (by omega), if_neg (by omega), if_neg (by omega)]
    congr 1
    omega
  intro k
  induction k with
  | zero =>
    intro q r h _
    obtain rfl : q = 0 := by omega
    rw [Lib.decDigits_one (by omega), List.singleton_append, one _ _ _ (by omega) (by omega)]
  | succ k ih =>
    intro q r h hq
    by_cases h10 : q < 10
    · rw [Lib.decDigits_one h10, List.singleton_append, one _ _ _ h10 (by omega)]
      congr 1
      omega
    · rw [Lib.decDigits, dif_neg h10, List.append_assoc, ih (q / 10) _ (by omega) (by omega), List.singleton_append, one _ _ _ (by omega) (by omega)]
      congr 1
      omega
theorem dec_ne (q : Nat) : Lib.decDigits q ≠ [] := by
  unfold Lib.decDigits
  split <;> simp
theorem atoi_dec (q : Nat) (h : q ≤ 1000000000) : Lib.atoiAll (Lib.decDigits q) = .ok (q : Int) := by
  cases hd : Lib.decDigits q with
  | nil => exact absurd hd (dec_ne q)
  | cons c r =>
    have hc := dec_digits q q (Nat.le_refl _) c (by rw [hd]; simp)
    rw [Lib.atoiAll_plain c r (by omega) (by omega), ← hd]
    have hm : Lib.parseMag (Lib.decDigits q) = .ok q := by
      unfold Lib.parseMag
      rw [if_neg (dec_ne q)]
      have := mag_dec q q [] (Nat.le_refl _) h
      rw [List.append_nil] at this
      rw [this]
      rfl
    rw [hm]
    unfold Lib.signless
    simp
    omega
theorem join_more (a b : List UInt8) (r : List (List UInt8)) : Lib.join (a :: b :: r) [32] = a ++ 32 :: Lib.join (b :: r) [32] := by
  rw [Lib.join_cons, Lib.join_cons]
  simp [Lib.joinTail]
theorem pieces_join : ∀ {ws : List (List UInt8)}, ws ≠ [] → (∀ a ∈ ws, ∀ x ∈ a, x ≠ 32) → pieces 32 (Lib.join ws [32]) = ws
  | [], h, _ => absurd rfl h
  | [a], _, h => by
    rw [Lib.join_one]
    exact pieces_none fun x hx => h a (by simp) x hx
  | a :: b :: r, _, h => by
    rw [join_more, pieces_at fun x hx => h a (by simp) x hx, pieces_join (by simp) fun c hc => h c (by simp [hc])]

/-- The letters are three, and none is a digit or a space. -/
structure Lets (la lb lc : UInt8) : Prop where
  ab : la ≠ lb
  ac : la ≠ lc
  bc : lb ≠ lc
  a : ¬ (48 ≤ la.toNat ∧ la.toNat ≤ 57) ∧ la ≠ 32
  b : ¬ (48 ≤ lb.toNat ∧ lb.toNat ≤ 57) ∧ lb ≠ 32
  c : ¬ (48 ≤ lc.toNat ∧ lc.toNat ≤ 57) ∧ lc ≠ 32
section
variable {la lb lc : UInt8} {s0 s1 : Int}
theorem one_of (l : UInt8) {s q : Int} (hs : 1 ≤ s) (h0 : 0 ≤ q) (h1 : q ≤ 1000000000 / s) : oneN l s (Lib.itoa q ++ [l]) = some (q * s) := by
  unfold oneN
  have hq : q ≤ 1000000000 := Int.le_trans h1 (Int.ediv_le_self _ (by omega))
  rw [trim_snoc, ← dec_itoa h0, atoi_dec _ (by omega)]
  simp only
  rw [if_neg (by omega), show ((q.toNat : Nat) : Int) = q by omega]
theorem word_a (H : Lets la lb lc) {q : Int} (hs : 1 ≤ s0) (h0 : 0 ≤ q) (h1 : q ≤ 1000000000 / s0) : wordN la lb lc s0 s1 (Lib.itoa q ++ [la]) = some (q * s0) := by
  unfold wordN
  rw [suf_snoc, if_pos (by simp), one_of la hs h0 h1]
theorem word_b (H : Lets la lb lc) {q : Int} (hs : 1 ≤ s1) (h0 : 0 ≤ q) (h1 : q ≤ 1000000000 / s1) : wordN la lb lc s0 s1 (Lib.itoa q ++ [lb]) = some (q * s1) := by
  unfold wordN
  rw [suf_snoc, suf_snoc, if_neg (by simpa using H.ab), if_pos (by simp), one_of lb hs h0 h1]
theorem word_c (H : Lets la lb lc) {q : Int} (h0 : 0 ≤ q) (h1 : q ≤ 1000000000 / 1) : wordN la lb lc s0 s1 (Lib.itoa q ++ [lc]) = some (q * 1) := by
  unfold wordN
  rw [suf_snoc, suf_snoc, suf_snoc, if_neg (by simpa using H.ac), if_neg (by simpa using H.bc), if_pos (by simp), one_of lc (by omega) h0 h1]
theorem sumW_app : ∀ (a b : List (List UInt8)) (s : Int), sumW la lb lc s0 s1 (a ++ b) s = (sumW la lb lc s0 s1 a s).bind (sumW la lb lc s0 s1 b)
  | [], b, s => rfl
  | x :: a, b, s => by
    rw [List.cons_append, sumW, sumW]
    cases wordN la lb lc s0 s1 x with
    | none => rfl
    | some v =>
      simp only
      split
      · rfl
      · exact sumW_app a b _
theorem sumW_word (l : UInt8) {s m acc : Int} (hw : ∀ q, 0 ≤ q → q ≤ 1000000000 / s → wordN la lb lc s0 s1 (Lib.itoa q ++ [l]) = some (q * s)) (hs : 1 ≤ s) (hm : 0 ≤ m) (ha : 0 ≤ acc) (hb : acc + m ≤ 1000000000) :
    sumW la lb lc s0 s1 (word ⟨#[l]⟩ s m) acc = some (acc + m / s * s) := by
  unfold word
  by_cases h : s ≤ m
  · have d1 : 0 ≤ m / s := Int.ediv_nonneg hm (by omega)
    have d2 : m / s ≤ 1000000000 / s := Int.ediv_le_ediv (by omega) (by omega)
    have d3 : m / s * s ≤ m := Int.ediv_mul_le _ (by omega)
    rw [if_pos h]
    show sumW la lb lc s0 s1 [Lib.itoa (m / s) ++ [l]] acc = _
    rw [sumW, hw _ d1 d2]
    simp only
    rw [if_neg (by omega), sumW]
  · rw [if_neg h, sumW, Int.ediv_eq_zero_of_lt hm (by omega)]
    simp
theorem sumW_words (H : Lets la lb lc) {n : Int} (h0 : 1 ≤ s0) (h1 : 1 ≤ s1) (hn : 0 ≤ n) (gn : n ≤ 1000000000) : sumW la lb lc s0 s1 (wordsTo ⟨#[la]⟩ ⟨#[lb]⟩ ⟨#[lc]⟩ s0 s1 n 3) 0 = some n := by
  have a1 : 0 ≤ n % s0 := Int.emod_nonneg _ (by omega)
  have a2 : n / s0 * s0 + n % s0 = n := by have := Int.ediv_mul_add_emod n s0; omega
  have a3 : 0 ≤ n / s0 * s0 := Int.mul_nonneg (Int.ediv_nonneg hn (by omega)) (by omega)
  have b1 : 0 ≤ n % s0 % s1 := Int.emod_nonneg _ (by omega)
  have b2 : n % s0 / s1 * s1 + n % s0 % s1 = n % s0 := by have := Int.ediv_mul_add_emod (n % s0) s1; omega
  have b3 : 0 ≤ n % s0 / s1 * s1 := Int.mul_nonneg (Int.ediv_nonneg a1 (by omega)) (by omega)
  show sumW la lb lc s0 s1 (word _ s0 n ++ word _ s1 (n % s0) ++ word _ 1 (n % s0 % s1)) 0 = _
  rw [sumW_app, sumW_app, sumW_word la (fun q => word_a H h0) h0 hn (by omega) (by omega)]
  show ((sumW la lb lc s0 s1 (word ⟨#[lb]⟩ s1 (n % s0)) (0 + n / s0 * s0)).bind _) = _
  rw [sumW_word lb (fun q => word_b H h1) h1 a1 (by omega) (by omega)]
  show sumW la lb lc s0 s1 (word ⟨#[lc]⟩ 1 (n % s0 % s1)) _ = _
  rw [sumW_word lc (fun q => word_c H) (by omega) b1 (by omega) (by omega), Int.ediv_one]
  congr 1
  omega
theorem word_plain (H : Lets la lb lc) (l : UInt8) (hl : l ≠ 32) (s m : Int) (hm : 0 ≤ m) (hs : 1 ≤ s) : ∀ a ∈ word ⟨#[l]⟩ s m, ∀ x ∈ a, x ≠ 32 := by
  intro a ha x hx
  unfold word at ha
  split at ha
  · obtain rfl := List.mem_singleton.1 ha
    rw [← dec_itoa (Int.ediv_nonneg hm (by omega))] at hx
    rcases List.mem_append.1 hx with hx | hx
    · have := dec_digits _ _ (Nat.le_refl _) x hx
      rintro rfl
      have h32 : (32 : UInt8).toNat = 32 := rfl
      omega
    · have : x = l := by simpa using hx
      exact this ▸ hl
  · cases ha
theorem words_plain (H : Lets la lb lc) {n : Int} (h0 : 1 ≤ s0) (h1 : 1 ≤ s1) (hn : 0 ≤ n) : ∀ a ∈ wordsTo ⟨#[la]⟩ ⟨#[lb]⟩ ⟨#[lc]⟩ s0 s1 n 3, ∀ x ∈ a, x ≠ 32 := by
  have a1 : 0 ≤ n % s0 := Int.emod_nonneg _ (by omega)
  have b1 : 0 ≤ n % s0 % s1 := Int.emod_nonneg _ (by omega)
  intro a ha
  simp only [wordsTo, List.mem_append] at ha
  rcases ha with (ha | ha) | ha
  · exact word_plain H la H.a.2 _ _ hn h0 a ha
  · exact word_plain H lb H.b.2 _ _ a1 h1 a ha
  · exact word_plain H lc H.c.2 _ _ b1 (by omega) a ha
theorem sum_text (H : Lets la lb lc) {n : Int} (h0 : 1 ≤ s0) (h1 : 1 ≤ s1) (hn : 0 ≤ n) (gn : n ≤ 1000000000) : sumW la lb lc s0 s1 (pieces 32 (textL ⟨#[la]⟩ ⟨#[lb]⟩ ⟨#[lc]⟩ s0 s1 n)) 0 = some n := by
  unfold textL
  by_cases hz : n = 0
  · rw [if_pos hz, hz]
    have e : (48 :: (⟨#[lc]⟩ : ByteArray).data.toList) = Lib.itoa 0 ++ [lc] := by
      show [48, lc] = _
      rw [← dec_itoa (by omega), Lib.decDigits_one (by decide)]
      rfl
    have := word_c (s0 := s0) (s1 := s1) H (q := 0) (by omega) (by omega)
    rw [e, pieces_none, sumW, this]
    · simp [sumW]
    · intro x hx
      have : x = 48 ∨ x = lc := by
        rw [← e] at hx
        simpa using hx
      rcases this with rfl | rfl
      · decide
      · exact H.c.2
  · rw [if_neg hz, pieces_join (fun h => hz ((words_none h0 h1 hn).1 h)) (words_plain H h0 h1 hn), sumW_words H h0 h1 hn gn]
theorem parse_text (H : Lets la lb lc) {n : Int} (h0 : 1 ≤ s0) (h1 : 1 ≤ s1) (hn : 0 ≤ n) (gn : n ≤ 1000000000) : parseV la lb lc s0 s1 (textL ⟨#[la]⟩ ⟨#[lb]⟩ ⟨#[lc]⟩ s0 s1 n) = .tuple #[.int .i64 n, .int .i64 0] := by
  unfold parseV
  rw [sum_text H h0 h1 hn gn]
  simp only [if_true]
theorem sumW_bd (h0 : 1 ≤ s0) (h1 : 1 ≤ s1) : ∀ (l : List (List UInt8)) (s t : Int), 0 ≤ s → s ≤ 1000000000 → sumW la lb lc s0 s1 l s = some t → 0 ≤ t ∧ t ≤ 1000000000
  | [], s, t, a, b, h => by
    obtain rfl := Option.some.inj h
    exact ⟨a, b⟩
  | x :: r, s, t, a, b, h => by
    rw [sumW] at h
    cases hw : wordN la lb lc s0 s1 x with
    | none => rw [hw] at h; cases h
    | some v =>
      rw [hw] at h
      simp only at h
      have := wordN_bd h0 h1 hw
      split at h
      · cases h
      · exact sumW_bd h0 h1 r _ t (by omega) (by omega) h
/-- What rod.parse answers is a number with that text, or an error. -/
theorem parse_cases (h0 : 1 ≤ s0) (h1 : 1 ≤ s1) (x : List UInt8) : (∃ n : Int, 0 ≤ n ∧ n ≤ 1000000000 ∧ textL ⟨#[la]⟩ ⟨#[lb]⟩ ⟨#[lc]⟩ s0 s1 n = x ∧ parseV la lb lc s0 s1 x = .tuple #[.int .i64 n, .int .i64 0]) ∨ parseV la lb lc s0 s1 x = .tuple #[.int .i64 0, .int .i64 3] := by
  unfold parseV
  cases hs : sumW la lb lc s0 s1 (pieces 32 x) 0 with
  | none => exact .inr rfl
  | some s =>
    have := sumW_bd h0 h1 _ _ _ (by omega) (by omega) hs
    simp only
    split
    · rename_i ht
      exact .inl ⟨s, this.1, this.2, ht, rfl⟩
    · exact .inr rfl

/-! The document's own reading. -/
theorem step_digit {q d : Nat} (hd : d < 10) (s : Int) : stepS la lb lc s0 s1 (UInt8.ofNat (48 + d)) (s, q) = (s, ((10 * q + d : Nat) : Int)) := by
  unfold stepS
  rw [digit_val d hd, if_pos (by omega)]
  simp only [Prod.mk.injEq, true_and]
  omega
theorem valS_dec : ∀ (k q : Nat) (r : List UInt8) (s : Int), q ≤ k → q ≤ 1000000000 → 0 ≤ s → s ≤ 1000000000 → valS la lb lc s0 s1 (Lib.decDigits q ++ r) (s, 0) = valS la lb lc s0 s1 r (s, (q : Int)) := by
  have one : ∀ (a d : Nat) (r : List UInt8) (s : Int), d < 10 → 10 * a + d ≤ 1000000000 → s ≤ 1000000000 → valS la lb lc s0 s1 (UInt8.ofNat (48 + d) :: r) (s, (a : Int)) = valS la lb lc s0 s1 r (s, ((10 * a + d : Nat) : Int)) := by
    intro a d r s hd ha hs
    rw [valS, step_digit hd, if_neg (by simp only; omega)]
  intro k
  induction k with
  | zero =>
    intro q r s h _ _ hs
    obtain rfl : q = 0 := by omega
    rw [Lib.decDigits_one (by omega), List.singleton_append]
    exact one 0 0 r s (by omega) (by omega) hs
  | succ k ih =>
    intro q r s h hq h0 hs
    by_cases h10 : q < 10
    · rw [Lib.decDigits_one h10, List.singleton_append]
      have := one 0 q r s h10 (by omega) hs
      rw [show 10 * 0 + q = q by omega] at this
      exact this
    · rw [Lib.decDigits, dif_neg h10, List.append_assoc, ih (q / 10) _ s (by omega) (by omega) h0 hs, List.singleton_append, one _ _ _ _ (by omega) (by omega) hs]
      rw [show 10 * (q / 10) + q % 10 = q by omega]
/-- A word adds its value. -/
def Adds (la lb lc : UInt8) (s0 s1 : Int) (x : List UInt8) (v : Int) : Prop := ∀ (r : List UInt8) (s : Int), 0 ≤ s → s + v ≤ 1000000000 → valS la lb lc s0 s1 (x ++ r) (s, 0) = valS la lb lc s0 s1 r (s + v, 0)
theorem adds_word (l : UInt8) {q t : Int} (hst : ∀ s q, stepS la lb lc s0 s1 l (s, q) = (s + q * t, 0)) (h0 : 0 ≤ q) (hq : q ≤ 1000000000) (ht : 1 ≤ t) : Adds la lb lc s0 s1 (Lib.itoa q ++ [l]) (q * t) := by
  intro r s hs hb
  have hn : 0 ≤ q * t := Int.mul_nonneg h0 (by omega)
  rw [← dec_itoa h0, List.append_assoc, valS_dec _ _ _ _ (Nat.le_refl _) (by omega) hs (by omega), List.singleton_append, valS, hst, show ((q.toNat : Nat) : Int) = q by omega, if_neg (by simp only; omega)]
theorem step_a (H : Lets la lb lc) (s q : Int) : stepS la lb lc s0 s1 la (s, q) = (s + q * s0, 0) := by
  unfold stepS
  rw [if_neg H.a.1, if_pos rfl]
theorem step_b (H : Lets la lb lc) (s q : Int) : stepS la lb lc s0 s1 lb (s, q) = (s + q * s1, 0) := by
  unfold stepS
  rw [if_neg H.b.1, if_neg (Ne.symm H.ab), if_pos rfl]
theorem step_c (H : Lets la lb lc) (s q : Int) : stepS la lb lc s0 s1 lc (s, q) = (s + q * 1, 0) := by
  unfold stepS
  rw [if_neg H.c.1, if_neg (Ne.symm H.ac), if_neg (Ne.symm H.bc), if_pos rfl, Int.mul_one]
theorem step_space (H : Lets la lb lc) (p : Int × Int) : stepS la lb lc s0 s1 32 p = p := by
  unfold stepS
  rw [if_neg (by decide), if_neg (Ne.symm H.a.2), if_neg (Ne.symm H.b.2), if_neg (Ne.symm H.c.2)]
/-- Words that add their values, one after the other. -/
def AddAll (la lb lc : UInt8) (s0 s1 : Int) : List (List UInt8) → Int → Prop
  | [], t => t = 0
  | x :: r, t => ∃ v, 0 ≤ v ∧ Adds la lb lc s0 s1 x v ∧ AddAll la lb lc s0 s1 r (t - v)
theorem addAll_nonneg : ∀ (l : List (List UInt8)) (t : Int), AddAll la lb lc s0 s1 l t → 0 ≤ t
  | [], t, h => by have h : t = 0 := h; omega
  | x :: r, t, ⟨v, hv, _, h⟩ => by have := addAll_nonneg r _ h; omega
theorem addAll_app : ∀ (a b : List (List UInt8)) (t u : Int), AddAll la lb lc s0 s1 a t → AddAll la lb lc s0 s1 b u → AddAll la lb lc s0 s1 (a ++ b) (t + u)
  | [], b, t, u, ha, hb => by
    have ha : t = 0 := ha
    rw [ha, Int.zero_add]
    exact hb
  | x :: a, b, t, u, ⟨v, hv, h1, h2⟩, hb => ⟨v, hv, h1, by
    have := addAll_app a b _ _ h2 hb
    rwa [show t + u - v = t - v + u by omega]⟩
theorem addAll_word (l : UInt8) {s m : Int} (hst : ∀ a q, stepS la lb lc s0 s1 l (a, q) = (a + q * s, 0)) (hs : 1 ≤ s) (hm : 0 ≤ m) (gm : m ≤ 1000000000) : AddAll la lb lc s0 s1 (word ⟨#[l]⟩ s m) (m / s * s) := by
  unfold word
  have d1 : 0 ≤ m / s := Int.ediv_nonneg hm (by omega)
  by_cases h : s ≤ m
  · have d2 : m / s ≤ m := Int.ediv_le_self _ hm
    rw [if_pos h]
    exact ⟨m / s * s, Int.mul_nonneg d1 (by omega), adds_word l hst d1 (by omega) hs, Int.sub_self _⟩
  · rw [if_neg h, Int.ediv_eq_zero_of_lt hm (by omega), Int.zero_mul]
    rfl
theorem valS_join (H : Lets la lb lc) : ∀ (l : List (List UInt8)) (t s : Int), AddAll la lb lc s0 s1 l t → 0 ≤ s → s + t ≤ 1000000000 → valS la lb lc s0 s1 (Lib.join l [32]) (s, 0) = s + t
  | [], t, s, h, _, _ => by
    have h : t = 0 := h
    rw [h, Int.add_zero, Lib.join_nil, valS]
  | [a], t, s, ⟨v, hv, h1, h2⟩, hs, hb => by
    have h2 : t - v = 0 := h2
    have := h1 [] s hs (by omega)
    rw [List.append_nil] at this
    rw [Lib.join_one, this, valS]
    simp only
    omega
  | a :: b :: r, t, s, ⟨v, hv, h1, h2⟩, hs, hb => by
    have hn := addAll_nonneg _ _ h2
    rw [join_more, h1 _ s hs (by omega), valS, step_space H, if_neg (by simp only; omega), valS_join H (b :: r) (t - v) (s + v) h2 (by omega) (by omega)]
    omega
theorem valS_words (H : Lets la lb lc) {n : Int} (h0 : 1 ≤ s0) (h1 : 1 ≤ s1) (hn : 0 ≤ n) (gn : n ≤ 1000000000) : valS la lb lc s0 s1 (Lib.join (wordsTo ⟨#[la]⟩ ⟨#[lb]⟩ ⟨#[lc]⟩ s0 s1 n 3) [32]) (0, 0) = n := by
  have a1 : 0 ≤ n % s0 := Int.emod_nonneg _ (by omega)
  have a2 : n / s0 * s0 + n % s0 = n := by have := Int.ediv_mul_add_emod n s0; omega
  have a3 : 0 ≤ n / s0 * s0 := Int.mul_nonneg (Int.ediv_nonneg hn (by omega)) (by omega)
  have b1 : 0 ≤ n % s0 % s1 := Int.emod_nonneg _ (by omega)
  have b2 : n % s0 / s1 * s1 + n % s0 % s1 = n % s0 := by have := Int.ediv_mul_add_emod (n % s0) s1; omega
  have b3 : 0 ≤ n % s0 / s1 * s1 := Int.mul_nonneg (Int.ediv_nonneg a1 (by omega)) (by omega)
  have c1 := addAll_word la (fun a q => step_a (s0 := s0) (s1 := s1) H a q) h0 hn gn
  have c2 := addAll_word lb (fun a q => step_b (s0 := s0) (s1 := s1) H a q) h1 a1 (by omega)
  have c3 := addAll_word lc (fun a q => step_c (s0 := s0) (s1 := s1) H a q) (by omega) b1 (by omega)
  have c := addAll_app _ _ _ _ (addAll_app _ _ _ _ c1 c2) c3
  have e : n / s0 * s0 + n % s0 / s1 * s1 + n % s0 % s1 / 1 * 1 = n := by rw [Int.ediv_one]; omega
  rw [e] at c
  have := valS_join H _ _ 0 c (by omega) (by omega)
  rw [Int.zero_add] at this
  exact this
theorem dec_ten : ∀ (k q : Nat), q < 10 ^ (k + 1) → (Lib.decDigits q).length ≤ k + 1
  | 0, q, h => by rw [Lib.decDigits_one (by omega)]; simp
  | k + 1, q, h => by
    by_cases h10 : q < 10
    · rw [Lib.decDigits_one h10]; simp
    · have := dec_ten k (q / 10) (by rw [Nat.pow_succ] at h; omega)
      rw [Lib.decDigits, dif_neg h10]
      simp
      omega
theorem word_short (l : UInt8) {s m : Int} (hm : 0 ≤ m) (gm : m ≤ 1000000000) (hs : 1 ≤ s) : (Lib.joinTail [32] (word ⟨#[l]⟩ s m)).length ≤ 12 := by
  unfold word
  have d1 : 0 ≤ m / s := Int.ediv_nonneg hm (by omega)
  have d2 : m / s ≤ m := Int.ediv_le_self _ hm
  split
  · have := dec_ten 9 (m / s).toNat (by omega)
    rw [dec_itoa d1] at this
    simp [Lib.joinTail]
    omega
  · simp [Lib.joinTail]
theorem join_tail_le (l : List (List UInt8)) : (Lib.join l [32]).length ≤ (Lib.joinTail [32] l).length := by
  cases l with
  | nil => simp [Lib.join_nil]
  | cons a r => rw [Lib.join_cons]; simp [Lib.joinTail]
theorem text_short {n : Int} (h0 : 1 ≤ s0) (h1 : 1 ≤ s1) (hn : 0 ≤ n) (gn : n ≤ 1000000000) : (textL ⟨#[la]⟩ ⟨#[lb]⟩ ⟨#[lc]⟩ s0 s1 n).length ≤ 36 := by
  unfold textL
  split
  · simp
  · have a1 : 0 ≤ n % s0 := Int.emod_nonneg _ (by omega)
    have a2 : n % s0 ≤ n := emod_le hn h0
    have b1 : 0 ≤ n % s0 % s1 := Int.emod_nonneg _ (by omega)
    have b2 : n % s0 % s1 ≤ n % s0 := emod_le a1 h1
    have c1 := word_short la (s := s0) hn gn h0
    have c2 := word_short lb (s := s1) a1 (by omega) h1
    have c3 := word_short lc (s := 1) b1 (by omega) (by omega)
    refine Nat.le_trans (join_tail_le _) ?_
    simp only [wordsTo, Lib.joinTail, List.map_append, List.flatten_append, List.length_append] at c1 c2 c3 ⊢
    omega
theorem valR_text (H : Lets la lb lc) {n : Int} (h0 : 1 ≤ s0) (h1 : 1 ≤ s1) (hn : 0 ≤ n) (gn : n ≤ 1000000000) : valR la lb lc s0 s1 (textL ⟨#[la]⟩ ⟨#[lb]⟩ ⟨#[lc]⟩ s0 s1 n) = n := by
  have hl := text_short (la := la) (lb := lb) (lc := lc) h0 h1 hn gn
  unfold valR
  rw [if_neg (by omega)]
  unfold textL
  by_cases hz : n = 0
  · rw [if_pos hz, hz]
    have e : (48 :: (⟨#[lc]⟩ : ByteArray).data.toList) = Lib.itoa 0 ++ [lc] := by
      show [48, lc] = _
      rw [← dec_itoa (by omega), Lib.decDigits_one (by decide)]
      rfl
    have := adds_word (s0 := s0) (s1 := s1) lc (q := 0) (t := 1) (step_c H) (by omega) (by omega) (by omega) [] 0 (by omega) (by omega)
    rw [List.append_nil] at this
    rw [e, this, valS]
    rfl
  · rw [if_neg hz, valS_words H h0 h1 hn gn]
theorem valS_bd : ∀ (x : List UInt8) (p : Int × Int), 0 ≤ p.1 → p.1 ≤ 1000000000 → 0 ≤ p.2 → 1 ≤ s0 → 1 ≤ s1 → valS la lb lc s0 s1 x p = -1 ∨ (0 ≤ valS la lb lc s0 s1 x p ∧ valS la lb lc s0 s1 x p ≤ 1000000000)
  | [], p, a, b, _, _, _ => .inr ⟨a, b⟩
  | c :: r, p, a, b, d, h0, h1 => by
    have m0 : 0 ≤ p.2 * s0 := Int.mul_nonneg d (by omega)
    have m1 : 0 ≤ p.2 * s1 := Int.mul_nonneg d (by omega)
    have hq : 0 ≤ (stepS la lb lc s0 s1 c p).1 ∧ 0 ≤ (stepS la lb lc s0 s1 c p).2 := by
      unfold stepS
      split
      · rename_i h
        exact ⟨a, by simp only; omega⟩
      · split
        · exact ⟨by simp only; omega, by simp⟩
        · split
          · exact ⟨by simp only; omega, by simp⟩
          · split
            · exact ⟨by simp only; omega, by simp⟩
            · exact ⟨a, d⟩
    rw [valS]
    split
    · exact .inl rfl
    · exact valS_bd r _ hq.1 (by omega) hq.2 h0 h1
theorem valR_bd (h0 : 1 ≤ s0) (h1 : 1 ≤ s1) (x : List UInt8) : valR la lb lc s0 s1 x = -1 ∨ (0 ≤ valR la lb lc s0 s1 x ∧ valR la lb lc s0 s1 x ≤ 1000000000) := by
  unfold valR
  split
  · exact .inl rfl
  · exact valS_bd x (0, 0) (by simp) (by simp) (by simp) h0 h1
/-- Both read alike. -/
theorem read_alike (H : Lets la lb lc) (h0 : 1 ≤ s0) (h1 : 1 ≤ s1) (x : List UInt8) :
    (∃ n : Int, 0 ≤ n ∧ n ≤ 1000000000 ∧ textL ⟨#[la]⟩ ⟨#[lb]⟩ ⟨#[lc]⟩ s0 s1 n = x ∧ parseV la lb lc s0 s1 x = .tuple #[.int .i64 n, .int .i64 0] ∧ valR la lb lc s0 s1 x = n) ∨
    (parseV la lb lc s0 s1 x = .tuple #[.int .i64 0, .int .i64 3] ∧ (valR la lb lc s0 s1 x = -1 ∨ (0 ≤ valR la lb lc s0 s1 x ∧ valR la lb lc s0 s1 x ≤ 1000000000 ∧ textL ⟨#[la]⟩ ⟨#[lb]⟩ ⟨#[lc]⟩ s0 s1 (valR la lb lc s0 s1 x) ≠ x))) := by
  rcases parse_cases (la := la) (lb := lb) (lc := lc) h0 h1 x with ⟨n, a, b, ht, hp⟩ | hp
  · exact .inl ⟨n, a, b, ht, hp, by rw [← ht]; exact valR_text H h0 h1 a b⟩
  · refine .inr ⟨hp, (valR_bd h0 h1 x).imp id fun ⟨a, b⟩ => ⟨a, b, fun ht => ?_⟩⟩
    have := parse_text H h0 h1 a b
    rw [ht, hp] at this
    simp at this
end
end Go.Proofs.YticjjikodignfaaDoor
