/- slices.Index, slices.Contains at numbers; wader's bird: walked. -/
import Derived.Test.YtlljjaafejjeeaaKMatched
import Derived.Test.YtlljjaafejjeeaaKDual
namespace Go.Proofs.Ytlljjaafejjeeaa
open Go.RowKit

def idxZ : Option Nat → Int
  | some k => (k : Int)
  | none => -1
theorem idx_first {x : Int} {l : List Int} {k : Nat} (hk : k < l.length) (h : l.getD k 0 = x) (hf : ∀ j, j < k → l.getD j 0 ≠ x) : idx x l = some k := by
  cases e : idx x l with
  | none => exact absurd h (idx_none e k hk)
  | some q =>
    obtain ⟨a, b, c⟩ := idx_some e
    congr 1
    rcases Nat.lt_trichotomy q k with h1 | h1 | h1
    · exact absurd b (hf q h1)
    · exact h1
    · exact absurd h (c k h1)
theorem idx_no {x : Int} {l : List Int} (hf : ∀ j, j < l.length → l.getD j 0 ≠ x) : idx x l = none := by
  cases e : idx x l with
  | none => rfl
  | some q =>
    obtain ⟨a, b, c⟩ := idx_some e
    exact absurd b (hf q a)
set_option maxRecDepth 100000 in
theorem index_any (n cap : Nat) (A : Option Addr) (l : List Int) (x : Int) (w : World) (hn : n ≤ 1000) (hl : l.length = n) (hp : IsInts w A n fun i => l.getD i 0) :
    Gives Try.prog 41 #[.slice A n cap, .int .i64 x] w (.int .i64 (idxZ (idx x l))) := by
  have HP := Lib.hid hp
  have HL := Lib.hid hl
  clear hp hl
  go_enter Try.func41, Try.ntmps41
  go_wp2
  go_loopw [8] (fun u wr => ∃ k : Nat, k ≤ n ∧ u = .int .i64 k ∧ (∀ j, j < k → l.getD j 0 ≠ x) ∧ ∃ y : Later w, wr = y.val) (fun u _ => n - (intOf u).toNat)
  case atStart => exact ⟨0, by omega, rfl, by omega, later_of (by repeat (first | exact Below.refl _ _ | (with_reducible assumption) | apply below_later | apply below_alloc | apply below_drew | apply below_drewN))⟩
  case round =>
    obtain ⟨k, hk, rfl, hall, y, rfl⟩ := hrel
    have HALL := Lib.hid hall
    clear hall
    by_cases hlt : k < n
    · obtain ⟨b, off, hB, p⟩ := (HP.out.later y).at_ (by omega)
      subst hB
      have ck := p.at_ k hlt
      have lb := p.lt
      clear p
      by_cases e : l.getD k 0 = x
      · have HI : Hid (idxZ (idx x l) = (k : Int)) := by show _ = _; rw [idx_first (by rw [HL.out]; exact hlt) e HALL.out]; rfl
        rw [e] at ck
        clear e
        go_wp2
        go_ret
        exact ⟨ret_int HI.out.symm, later_of (by repeat (first | exact Below.refl _ _ | (with_reducible assumption) | apply below_later | apply below_alloc | apply below_drew | apply below_drewN))⟩
      · have HN : Hid (∀ j, j < k + 1 → l.getD j 0 ≠ x) := fun j hj => by
          by_cases ej : j = k
          · subst ej; exact e
          · exact HALL.out j (by omega)
        have hx : (x == l.getD k 0) = false := by
          simp only [beq_eq_false_iff_ne, ne_eq]
          exact fun h => e h.symm
        clear e
        generalize l.getD k 0 = lk at *
        go_wp2
        go_roundw
        case rel => exact ⟨k + 1, by omega, by go_num, HN.out, later_of (by repeat (first | exact Below.refl _ _ | (with_reducible assumption) | apply below_later | apply below_alloc | apply below_drew | apply below_drewN))⟩
        case measure => simp [intOf]; omega
    · obtain rfl : k = n := by omega
      have HI : Hid (idxZ (idx x l) = -1) := by show _ = _; rw [idx_no fun j hj => HALL.out j (by rw [HL.out] at hj; exact hj)]; rfl
      go_wp2
      go_ret
      exact ⟨ret_int HI.out.symm, later_of (by repeat (first | exact Below.refl _ _ | (with_reducible assumption) | apply below_later | apply below_alloc | apply below_drew | apply below_drewN))⟩
theorem contains_any (n cap : Nat) (A : Option Addr) (l : List Int) (x : Int) (w : World) (hn : n ≤ 1000) (hl : l.length = n) (hp : IsInts w A n fun i => l.getD i 0) :
    Gives Try.prog 44 #[.slice A n cap, .int .i64 x] w (.bool (decide (l.count x ≠ 0))) := by
  have IX := Lib.hid (index_any n cap A l x w hn hl hp)
  have HD : Hid (decide (l.count x ≠ 0) = decide (0 ≤ idxZ (idx x l))) := by
    show _ = _
    cases e : idx x l with
    | none =>
      have h : l.count x = 0 := List.count_eq_zero.2 fun hm => by
        obtain ⟨k, hk, ek⟩ := List.getElem_of_mem hm
        exact idx_none e k hk (by rw [List.getD_eq_getElem?_getD, List.getElem?_eq_getElem hk]; exact ek)
      rw [h]
      rfl
    | some k =>
      obtain ⟨a, b, _⟩ := idx_some e
      have h : l.count x ≠ 0 := fun h0 => count_zero h0 a b
      rw [decide_eq_true h]
      show true = decide (0 ≤ (k : Int))
      rw [decide_eq_true (by omega)]
  rw [HD.out]
  clear HD hp hl
  generalize idxZ (idx x l) = r at *
  go_enter Try.func44, Try.ntmps44
  go_wp2_with (go_at_call 41; with_reducible refine Calls.mono (Gives.calls (IX.out)) ?_; rintro e w1 ⟨rfl, y, rfl⟩)
  go_ret
  exact ⟨rfl, later_of (by repeat (first | exact Below.refl _ _ | (with_reducible assumption) | apply below_later | apply below_alloc | apply below_drew | apply below_drewN))⟩

/-- Numbers of sightings, as whole numbers. -/
def natZ (l : List Nat) : List Int := l.map fun i : Nat => (i : Int)
theorem natZ_length (l : List Nat) : (natZ l).length = l.length := by simp [natZ]
theorem cellsI_nat (l : List Nat) (k : Nat) : cellsI (natZ (l ++ [k])) = cellsI (natZ l) ++ [.int .i64 (k : Int)] := by simp [cellsI, natZ]
theorem natZ_getD (l : List Nat) (i : Nat) : (natZ l).getD i 0 = ((l.getD i 0 : Nat) : Int) := by
  simp only [natZ, List.getD_eq_getElem?_getD, List.getElem?_map]
  cases l[i]? <;> simp
theorem bird_length (out : List Int) : ∀ f i, (birdM out f i).length ≤ f + 1 := by
  intro f
  induction f with
  | zero => intro i; simp [birdM]
  | succ f ih =>
    intro i
    unfold birdM
    split
    · simp
    · rename_i k _
      have := ih k
      simp only [List.length_cons]
      omega
/-- Where a bird's walk stands: at a sighting, with what is to come; or behind the last one. -/
def AtBird (out : List Int) (n : Nat) (ρ : Nat → Nat) (tot : List Nat) (c : Int) (l : List Nat) : Prop :=
  (∃ f k : Nat, c = (k : Nat) ∧ k < n ∧ n ≤ f + ρ k + 1 ∧ l ++ birdM out f k = tot) ∨ (c = -1 ∧ l = tot)
theorem atBird_step {L : Nat → Nat → Bool} {out : List Int} {n : Nat} {ρ : Nat → Nat} {tot l : List Nat} {k : Nat} (O : Ord L n ρ) (I : MInv L n n out) (h : AtBird out n ρ tot (k : Nat) l) :
    k < n ∧ AtBird out n ρ tot (idxZ (idx (k : Int) out)) (l ++ [k]) ∧ (idxZ (idx (k : Int) out) = -1 ∨ ∃ q : Nat, idxZ (idx (k : Int) out) = (q : Nat) ∧ q < n ∧ ρ k < ρ q) := by
  rcases h with ⟨f, k', e, hk, hf, ht⟩ | ⟨e, _⟩
  · obtain rfl : k = k' := by omega
    refine ⟨hk, ?_⟩
    cases e2 : idx (k : Int) out with
    | none =>
      refine ⟨.inr ⟨rfl, ?_⟩, .inl rfl⟩
      rw [← ht]
      cases f with
      | zero => simp [birdM]
      | succ f => unfold birdM; rw [e2]
    | some q =>
      obtain ⟨a, b, c, d⟩ := next_led I e2
      have := O.lt k q b a d
      have := O.le q a
      refine ⟨.inl ?_, .inr ⟨q, rfl, a, by omega⟩⟩
      cases f with
      | zero => omega
      | succ f =>
        refine ⟨f, q, rfl, a, by omega, ?_⟩
        rw [← ht]
        conv => rhs; unfold birdM
        rw [e2]
        simp
  · omega
theorem atBird_length {out : List Int} {n : Nat} {ρ : Nat → Nat} {tot l : List Nat} {c : Int} (h : AtBird out n ρ tot c l) : l.length ≤ tot.length := by
  rcases h with ⟨f, k, _, _, _, ht⟩ | ⟨_, rfl⟩
  · rw [← ht, List.length_append]; omega
  · exact Nat.le_refl _
set_option maxRecDepth 100000 in
set_option maxHeartbeats 3200000 in
theorem bird_any (n cap i : Nat) (A : Option Addr) (out : List Int) (L : Nat → Nat → Bool) (ρ : Nat → Nat) (w : World) (hn : n ≤ 1000) (hi : i < n) (O : Ord L n ρ) (I : MInv L n n out) (hp : IsInts w A n fun i => out.getD i 0) :
    GivesI 23 #[.slice A n cap, .int .i64 i] w (natZ (birdM out n i)) := by
  have IX := Lib.hid fun (V : World) (x : Int) (h : IsInts V A n fun i => out.getD i 0) => index_any n cap A out x V hn I.len h
  have ST := Lib.hid fun (l : List Nat) (k : Nat) (h : AtBird out n ρ (birdM out n i) (k : Nat) l) => atBird_step O I h
  have S0 : Hid (AtBird out n ρ (birdM out n i) (i : Nat) []) := .inl ⟨n, i, rfl, hi, by omega, rfl⟩
  have LN : Hid (∀ (c : Int) (l : List Nat), AtBird out n ρ (birdM out n i) c l → l.length ≤ n + 1) := fun c l h => Nat.le_trans (atBird_length h) (bird_length out n i)
  have LE : Hid (∀ k, k < n → ρ k < n) := O.le
  have FIN : Hid (∀ l, AtBird out n ρ (birdM out n i) (-1) l → l = birdM out n i) := fun l h => by
    rcases h with ⟨f, k, e, _⟩ | ⟨_, e⟩
    · omega
    · exact e
  have AT : Hid (∀ c l, AtBird out n ρ (birdM out n i) c l → c = -1 ∨ ∃ k : Nat, c = (k : Nat) ∧ k < n) := fun c l h => by
    rcases h with ⟨f, k, e, hk, _⟩ | ⟨e, _⟩
    · exact .inr ⟨k, e, hk⟩
    · exact .inl e
  have HP := Lib.hid hp
  generalize birdM out n i = tot at *
  clear hp O I
  obtain ⟨i0, hi0, hz0, hz1, hz2⟩ := info_int
  go_enter Try.func23, Try.ntmps23
  go_wp2_with fail
  go_loopw [5, 6] (fun u v wr => ∃ (c : Int) (l : List Nat), v = .int .i64 c ∧ AtBird out n ρ tot c l ∧ Below w.heap.size w wr ∧ OwnI wr w.heap.size u (natZ l)) (fun _ v _ => if intOf v = -1 then 0 else n - ρ (intOf v).toNat)
  case atStart => exact ⟨_, [], rfl, S0.out, (by repeat (first | exact Below.refl _ _ | (with_reducible assumption) | apply below_later | apply below_alloc | apply below_drew | apply below_drewN)), OwnI.nil _ _⟩
  case round =>
    obtain ⟨c, l, rfl, hat, hbl, ho⟩ := hrel
    clear S0
    have HBL := Lib.hid hbl
    have HO := Lib.hid ho
    rcases AT.out c l hat with hc | ⟨k, hc, hk⟩
    · subst hc
      have HF := Lib.hid (FIN.out l hat)
      clear hat hbl ho
      go_wp2_with fail
      go_ret
      exact ⟨_, rfl, ⟨_, HBL.out⟩, rfl, by rw [← HF.out]; exact HO.out⟩
    · subst hc
      have HST := Lib.hid (ST.out l k hat)
      have HLN := Lib.hid (LN.out _ l hat)
      have hne : ((k : Int) != -1) = true := by simp
      generalize wr = X at *
      clear hat hbl ho
      go_wp2_with (at_builtin; refine wpList_append_own_at _ rfl _ _ 24 rfl w.heap.size 3 i0 (.int .i64 0) 1 8 Try.underlying24 hi0 hz0 hz1 hz2 rfl (by decide) _ _ _ rfl ((own_row HO.out (natZ_length l)).alloc _) ⟨_, 0, none⟩ 1 1 [.int .i64 (k : Nat)] rfl rfl lit_news one_int ?g1 ?g2 ?g3 ?_)
      case g1 => have := HLN.out; unfold maxLen; omega
      case g2 => have := HLN.out; omega
      case g3 => have := HBL.out.size; simp only [World.size_alloc]; omega
      intro v6 w6 hown2 hgrow _ hat
      have hb6 : Below w.heap.size w w6 := below_own (w1 := X.alloc (.cells #[.int .i64 (k : Nat)] 3)) (below_alloc HBL.out) ((own_row HO.out (natZ_length l)).alloc _) (Nat.le_refl _) hgrow
      have HO6 : Hid (OwnI w6 w.heap.size v6 (natZ (l ++ [k]))) := by
        show OwnI _ _ _ _
        unfold OwnI
        rw [natZ_length, List.length_append, cellsI_nat]
        exact hown2
      have HB6 := Lib.hid hb6
      clear hown2 hgrow hat hb6
      go_wp2_with (go_at_call 41; with_reducible refine Calls.mono (Gives.calls (IX.out _ _ (HP.out.below HB6.out))) ?_; rintro e w1 ⟨rfl, y, rfl⟩)
      go_roundw
      case rel => exact ⟨_, l ++ [k], rfl, HST.out.2.1, below_more HB6.out y.ok, HO6.out.later y⟩
      case measure =>
        have h1 := LE.out k hk
        obtain ⟨_, _, h | ⟨q, h, h2, h3⟩⟩ := HST.out
        · simp [intOf, h]; omega
        · have := LE.out q h2
          simp [intOf, h]; omega
end Go.Proofs.Ytlljjaafejjeeaa
