/- The document's own reading of a map's text gives what the program's gives. -/
import Derived.Test.YtmielpcidhphaaaDoorMapText
namespace Go.Proofs.YtmielpcidhphaaaDoor

/-- The kind that a byte stands for, in the document's own reading. -/
def kind5 (c : UInt8) : Option Int := if c = 114 then some 1 else if c = 119 then some 2 else if c = 115 then some 3 else if c = 112 then some 4 else none
def sqOf (x : List UInt8) : List Int := x.filterMap kind5
def hOf (x : List UInt8) : Nat := (x.filter fun c => decide (c = 47)).length + 1
theorem kind_cases (c : UInt8) : (kindB (kindOf c) = true ∧ kind5 c = some (kindOf c) ∧ letterB (kindOf c) = c ∧ c ≠ 47) ∨ (kindB (kindOf c) = false ∧ kind5 c = none) := by
  by_cases h1 : c = 114
  · subst h1; left; decide
  · by_cases h2 : c = 119
    · subst h2; left; decide
    · by_cases h3 : c = 115
      · subst h3; left; decide
      · by_cases h4 : c = 112
        · subst h4; left; decide
        · right
          constructor
          · have : kindOf c = 0 := by
              unfold kindOf
              simp [Lib.indexByte, Ne.symm h1, Ne.symm h2, Ne.symm h3, Ne.symm h4, h1, h2, h3, h4]
            rw [this]; decide
          · unfold kind5; rw [if_neg h1, if_neg h2, if_neg h3, if_neg h4]
theorem kind_good {c : UInt8} (h : kindB (kindOf c) = true) : kind5 c = some (kindOf c) ∧ letterB (kindOf c) = c ∧ c ≠ 47 := by
  rcases kind_cases c with h1 | h1
  · exact h1.2
  · rw [h] at h1; cases h1.1

/-- The text of lines. -/
def joinB : List (List UInt8) → List UInt8
  | [] => []
  | [p] => p
  | p :: q :: r => p ++ 47 :: joinB (q :: r)
theorem join_cons {p : List UInt8} {ps : List (List UInt8)} (h : ps ≠ []) : joinB (p :: ps) = p ++ 47 :: joinB ps := by
  cases ps with
  | nil => exact absurd rfl h
  | cons q r => rfl
theorem join_snoc : ∀ {l : List (List UInt8)} {p : List UInt8}, l ≠ [] → joinB (l ++ [p]) = joinB l ++ 47 :: p
  | [a], p, _ => rfl
  | a :: b :: l, p, _ => by
    have ih := join_snoc (l := b :: l) (p := p) (by simp)
    show joinB (a :: ((b :: l) ++ [p])) = _
    rw [join_cons (by simp), ih, show joinB (a :: b :: l) = a ++ 47 :: joinB (b :: l) from rfl, List.append_assoc]
    rfl
theorem join_pieces : ∀ x : List UInt8, joinB (pieces 47 x) = x
  | [] => rfl
  | c :: x => by
    have ih := join_pieces x
    have hne := pieces_ne 47 x
    by_cases h : c = 47
    · rw [pieces_eq h, join_cons hne, ih, h]; rfl
    · cases hp : pieces 47 x with
      | nil => exact absurd hp hne
      | cons p ps =>
        rw [pieces_cons h hp]
        rw [hp] at ih
        cases ps with
        | nil => rw [← ih]; rfl
        | cons q r => rw [← ih]; rfl
/-- Lines of one length, of letters alone. -/
def Good (W : Nat) (ls : List (List UInt8)) : Prop := ∀ p ∈ ls, p.length = W ∧ ∀ c ∈ p, kindB (kindOf c) = true
def kindsL (ls : List (List UInt8)) : List Int := ls.flatMap fun p => p.map kindOf
theorem parse_lines : ∀ (ps : List (List UInt8)) (W0 y0 : Nat) (sq0 : List Int) (W H : Nat) (sq : List Int), 1 ≤ y0 → parseL ps W0 y0 sq0 = some (W, H, sq) →
    W = W0 ∧ H = y0 + ps.length ∧ Good W0 ps ∧ (ps ≠ [] → y0 + ps.length ≤ 30) ∧ sq = sq0 ++ kindsL ps
  | [], W0, y0, sq0, W, H, sq, _, h => by
    simp only [parseL, Option.some.injEq, Prod.mk.injEq] at h
    obtain ⟨rfl, rfl, rfl⟩ := h
    exact ⟨rfl, rfl, fun p hp => absurd hp (by simp), fun h => absurd rfl h, by simp [kindsL]⟩
  | p :: ps, W0, y0, sq0, W, H, sq, h1, h => by
    unfold parseL at h
    have hne : ¬ y0 = 0 := by omega
    rw [if_neg hne] at h
    split at h
    · rename_i hc
      simp only [Bool.and_eq_true, decide_eq_true_eq, List.all_eq_true] at hc
      obtain ⟨⟨⟨c1, c2⟩, c3⟩, c4⟩ := hc
      obtain ⟨r1, r2, r3, r4, r5⟩ := parse_lines ps W0 (y0 + 1) _ W H sq (by omega) h
      have s3 := (sideB_iff.1 c3).2
      refine ⟨r1, by rw [List.length_cons]; omega, fun q hq => ?_, fun _ => ?_, ?_⟩
      · rcases List.mem_cons.1 hq with rfl | hq
        · exact ⟨c1, c4⟩
        · exact r3 q hq
      · rw [List.length_cons]
        by_cases hp : ps = []
        · subst hp; simp; omega
        · have := r4 hp; omega
      · rw [r5, List.append_assoc]; rfl
    · cases h
theorem kinds_len {W : Nat} : ∀ {ls : List (List UInt8)}, Good W ls → (kindsL ls).length = ls.length * W
  | [], _ => by simp [kindsL]
  | p :: ls, h => by
    have ih := kinds_len (ls := ls) fun q hq => h q (List.mem_cons_of_mem _ hq)
    have h1 := (h p (List.mem_cons_self ..)).1
    unfold kindsL at ih ⊢
    rw [List.flatMap_cons, List.length_append, List.length_map, ih, h1, List.length_cons, Nat.add_mul, Nat.one_mul, Nat.add_comm]
theorem kinds_at {W : Nat} : ∀ {ls : List (List UInt8)}, Good W ls → ∀ (y i : Nat) (p : List UInt8) (c : UInt8), ls[y]? = some p → p[i]? = some c → (kindsL ls).getD (y * W + i) 0 = kindOf c
  | [], _, y, i, p, c, h1, _ => by simp at h1
  | q :: ls, h, y, i, p, c, h1, h2 => by
    have hq := (h q (List.mem_cons_self ..)).1
    have e : kindsL (q :: ls) = q.map kindOf ++ kindsL ls := rfl
    rw [e, List.getD_eq_getElem?_getD]
    cases y with
    | zero =>
      have : q = p := by simpa using h1
      subst this
      have hi : i < q.length := (List.getElem?_eq_some_iff.1 h2).1
      rw [Nat.zero_mul, Nat.zero_add, List.getElem?_append_left (by rw [List.length_map]; exact hi), List.getElem?_map, h2]; rfl
    | succ y =>
      have ih := kinds_at (ls := ls) (fun r hr => h r (List.mem_cons_of_mem _ hr)) y i p c (by simpa using h1) h2
      rw [List.getD_eq_getElem?_getD] at ih
      have e2 : (y + 1) * W + i = (q.map kindOf).length + (y * W + i) := by rw [List.length_map, hq, Nat.add_mul, Nat.one_mul]; omega
      rw [e2, List.getElem?_append_right (by omega), Nat.add_sub_cancel_left, ih]
/-- The text of lines is that of their kinds. -/
theorem fmt_join {W : Nat} (h1 : 1 ≤ W) {ls : List (List UInt8)} (hg : Good W ls) : ∀ h, h < ls.length → fmtTo W (fun i => (kindsL ls).getD i 0) ((h + 1) * W) = joinB (ls.take (h + 1)) := by
  have line : ∀ y p, ls[y]? = some p → lineX W (fun i => (kindsL ls).getD i 0) y W = p := fun y p hy => by
    obtain ⟨g1, g2⟩ := hg p (List.mem_of_getElem? hy)
    apply List.ext_getElem?
    intro i
    unfold lineX
    rw [List.getElem?_map]
    rcases Nat.lt_or_ge i W with hi | hi
    · obtain ⟨c, hc⟩ : ∃ c, p[i]? = some c := ⟨_, List.getElem?_eq_getElem (by omega)⟩
      rw [List.getElem?_range hi, hc]
      show some (letterB ((kindsL ls).getD (y * W + i) 0)) = _
      rw [kinds_at hg y i p c hy hc, (kind_good (g2 c (List.mem_of_getElem? hc))).2.1]
    · rw [List.getElem?_eq_none (by rw [List.length_range]; omega), List.getElem?_eq_none (by omega)]; rfl
  intro h
  induction h with
  | zero =>
    intro hl
    obtain ⟨p, hp⟩ : ∃ p, ls[0]? = some p := ⟨_, List.getElem?_eq_getElem hl⟩
    rw [Nat.zero_add, Nat.one_mul, fmt_first _ h1 W (Nat.le_refl _), line 0 p hp]
    cases ls with
    | nil => simp at hp
    | cons q r => have : q = p := by simpa using hp
                  subst this; rfl
  | succ h ih =>
    intro hl
    obtain ⟨p, hp⟩ : ∃ p, ls[h + 1]? = some p := ⟨_, List.getElem?_eq_getElem hl⟩
    have ih := ih (by omega)
    obtain ⟨x, hx⟩ : ∃ x, W = x + 1 := ⟨W - 1, by omega⟩
    have hf := fmt_line (fun i => (kindsL ls).getD i 0) h1 (y := h + 1) (by omega) x (by omega)
    rw [← hx, line _ p hp, ih] at hf
    have e : (h + 1 + 1) * W = (h + 1) * W + W := by rw [Nat.add_mul (h + 1) 1 W, Nat.one_mul]
    rw [e, hf, List.take_add_one (i := h + 1), hp, Option.toList_some, join_snoc (by
      intro e
      rcases List.take_eq_nil_iff.1 e with e | e
      · omega
      · rw [e] at hl; simp at hl)]
theorem good_map {W : Nat} {p : List UInt8} (h : ∀ c ∈ p, kindB (kindOf c) = true) : p.filterMap kind5 = p.map kindOf := by
  induction p with
  | nil => rfl
  | cons c p ih =>
    rw [List.filterMap_cons, (kind_good (h c (List.mem_cons_self ..))).1, List.map_cons, ih fun d hd => h d (List.mem_cons_of_mem _ hd)]
theorem good_none {p : List UInt8} (h : ∀ c ∈ p, kindB (kindOf c) = true) : (p.filter fun c => decide (c = 47)) = [] := by
  rw [List.filter_eq_nil_iff]
  intro c hc
  simpa using (kind_good (h c hc)).2.2
theorem sq_join {W : Nat} : ∀ {ls : List (List UInt8)}, Good W ls → sqOf (joinB ls) = kindsL ls
  | [], _ => rfl
  | [p], h => by
    show p.filterMap kind5 = kindsL [p]
    rw [good_map (W := W) (h p (by simp)).2]
    simp [kindsL]
  | p :: q :: r, h => by
    have ih := sq_join (ls := q :: r) fun s hs => h s (List.mem_cons_of_mem _ hs)
    show (p ++ 47 :: joinB (q :: r)).filterMap kind5 = _
    rw [List.filterMap_append, good_map (W := W) (h p (by simp)).2, List.filterMap_cons]
    show p.map kindOf ++ (joinB (q :: r)).filterMap kind5 = _
    have ih2 : (joinB (q :: r)).filterMap kind5 = kindsL (q :: r) := ih
    rw [ih2]; rfl
theorem h_join {W : Nat} : ∀ {ls : List (List UInt8)}, ls ≠ [] → Good W ls → hOf (joinB ls) = ls.length
  | [p], _, h => by
    show (p.filter _).length + 1 = 1
    rw [good_none (h p (by simp)).2]; rfl
  | p :: q :: r, _, h => by
    have ih := h_join (ls := q :: r) (by simp) fun s hs => h s (List.mem_cons_of_mem _ hs)
    unfold hOf at ih
    show ((p ++ 47 :: joinB (q :: r)).filter _).length + 1 = _
    rw [List.filter_append, good_none (h p (by simp)).2, List.nil_append, List.filter_cons_of_pos (by simp), List.length_cons, ih]
    rfl
theorem join_len {W : Nat} : ∀ {ls : List (List UInt8)}, ls ≠ [] → Good W ls → (joinB ls).length + 1 = ls.length * W + ls.length
  | [p], _, h => by
    show p.length + 1 = 1 * W + 1
    rw [(h p (by simp)).1, Nat.one_mul]
  | p :: q :: r, _, h => by
    have ih := join_len (ls := q :: r) (by simp) fun s hs => h s (List.mem_cons_of_mem _ hs)
    rw [join_cons (by simp), List.length_append, List.length_cons, (h p (by simp)).1, List.length_cons (a := p), Nat.add_mul _ 1 W, Nat.one_mul]
    omega
theorem kinds_bd {W : Nat} {ls : List (List UInt8)} (h : Good W ls) : ∀ k ∈ kindsL ls, 1 ≤ k ∧ k ≤ 4 := by
  intro k hk
  obtain ⟨p, hp, hk2⟩ := List.mem_flatMap.1 hk
  obtain ⟨c, hc, rfl⟩ := List.mem_map.1 hk2
  exact kindB_iff.1 ((h p hp).2 c hc)
/-- What the document's own reading gives. -/
def okR (x : List UInt8) : Prop := x.length ≤ 930 ∧ validM ((sqOf x).length / hOf x : Nat) (hOf x : Nat) (sqOf x).length (fun i => (sqOf x).getD i 0) = true ∧ fmtTo ((sqOf x).length / hOf x) (fun i => (sqOf x).getD i 0) (sqOf x).length = x
theorem getD_all (l : List Int) : (List.range l.length).map (fun i => l.getD i 0) = l := by
  apply List.ext_getElem?
  intro i
  rw [List.getElem?_map]
  rcases Nat.lt_or_ge i l.length with h | h
  · rw [List.getElem?_range h, List.getElem?_eq_getElem h]
    show some (l.getD i 0) = _
    rw [List.getD_eq_getElem?_getD, List.getElem?_eq_getElem h]; rfl
  · rw [List.getElem?_eq_none (by rw [List.length_range]; exact h), List.getElem?_eq_none h]; rfl
theorem parse_ok {x : List UInt8} (h : okR x) : parseM x = some ((sqOf x).length / hOf x, hOf x, sqOf x) := by
  obtain ⟨_, h2, h3⟩ := h
  obtain ⟨⟨a1, a2⟩, ⟨a3, a4⟩, hn, hk⟩ := validM_iff.1 h2
  have hn' : (sqOf x).length = hOf x * ((sqOf x).length / hOf x) := by rw [Nat.mul_comm]; rw [← Int.natCast_mul] at hn; omega
  have := text_read (fun i => (sqOf x).getD i 0) (W := (sqOf x).length / hOf x) (H := hOf x) (by omega) (by omega) (by omega) (by omega) (fun i hi => hk i (by omega))
  rw [← hn', h3, getD_all] at this
  exact this
theorem parse_no {x : List UInt8} {W H : Nat} {sq : List Int} (h : parseM x = some (W, H, sq)) : okR x := by
  have hj := join_pieces x
  have hne := pieces_ne 47 x
  unfold parseM at h
  cases hp : pieces 47 x with
  | nil => exact absurd hp hne
  | cons p ps =>
    rw [hp] at h hj
    unfold parseL at h
    rw [if_pos rfl] at h
    split at h
    · rename_i hc
      simp only [Bool.and_eq_true, decide_eq_true_eq, List.all_eq_true] at hc
      obtain ⟨⟨⟨_, c2⟩, c3⟩, c4⟩ := hc
      obtain ⟨w1, w2⟩ := sideB_iff.1 c2
      obtain ⟨r1, r2, r3, r4, r5⟩ := parse_lines ps p.length (0 + 1) _ W H sq (by omega) h
      have hg : Good p.length (p :: ps) := fun q hq => by
        rcases List.mem_cons.1 hq with rfl | hq
        · exact ⟨rfl, c4⟩
        · exact r3 q hq
      have e1 := sq_join hg
      have e2 := h_join (by simp) hg
      rw [hj] at e1 e2
      have e3 := kinds_len hg
      have hl30 : (p :: ps).length ≤ 30 := by
        rw [List.length_cons]
        by_cases hps : ps = []
        · subst hps; simp
        · have := r4 hps; omega
      have hpos : 0 < (p :: ps).length := by simp
      have hdiv : (kindsL (p :: ps)).length / (p :: ps).length = p.length := by rw [e3, Nat.mul_div_cancel_left _ hpos]
      have hf := fmt_join (by omega) hg ((p :: ps).length - 1) (by omega)
      rw [show (p :: ps).length - 1 + 1 = (p :: ps).length by omega, List.take_length, hj, ← e3] at hf
      have hjl := join_len (by simp) hg
      rw [hj] at hjl
      have hkb := kinds_bd hg
      have hmul : (p :: ps).length * p.length ≤ 30 * 30 := Nat.mul_le_mul hl30 (by omega)
      generalize (p :: ps).length = hh at *
      generalize p.length = ww at *
      unfold okR
      rw [e1, e2, hdiv]
      refine ⟨?_, validM_iff.2 ⟨by omega, by omega, by rw [e3, Int.natCast_mul, Int.mul_comm], fun i hi => ?_⟩, hf⟩
      · omega
      · rw [List.getD_eq_getElem?_getD, List.getElem?_eq_getElem hi]
        exact hkb _ (List.getElem_mem hi)
    · cases h
end Go.Proofs.YtmielpcidhphaaaDoor
