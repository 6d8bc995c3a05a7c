/- A map's text, written and read. -/
import Derived.Test.YtajfepogecakbaaDoorBedParse
import Derived.Test.YtajfepogecakbaaDoorBedFormat
namespace Go.Proofs.YtajfepogecakbaaDoor

theorem pieces_eq {c x : UInt8} {m : List UInt8} (h : x = c) : pieces c (x :: m) = [] :: pieces c m := by
  show (if x = c then [] :: pieces c m else _) = _
  rw [if_pos h]
theorem pieces_cons {c x : UInt8} {m p : List UInt8} {ps : List (List UInt8)} (h : x ≠ c) (hp : pieces c m = p :: ps) : pieces c (x :: m) = (x :: p) :: ps := by
  show (if x = c then [] :: pieces c m else match pieces c m with | [] => [[x]] | p :: ps => (x :: p) :: ps) = _
  rw [if_neg h, hp]
theorem pieces_app {c : UInt8} {r : List UInt8} : ∀ l : List UInt8, pieces c (l ++ c :: r) = pieces c l ++ pieces c r
  | [] => by rw [List.nil_append, pieces_eq rfl]; rfl
  | x :: l => by
    have ih := pieces_app (c := c) (r := r) l
    rw [List.cons_append]
    by_cases h : x = c
    · rw [pieces_eq h, pieces_eq h, ih, List.cons_append]
    · cases hp : pieces c l with
      | nil => exact absurd hp (pieces_ne c l)
      | cons p ps =>
        rw [hp, List.cons_append] at ih
        rw [pieces_cons h ih, pieces_cons h hp, List.cons_append]
section
variable (W : Nat) (f : Nat → Int)
/-- The first x letters of line y. -/
def lineX (y x : Nat) : List UInt8 := (List.range x).map fun i => letterB (f (y * W + i))
theorem lineX_succ (y x : Nat) : lineX W f y (x + 1) = lineX W f y x ++ [letterB (f (y * W + x))] := by
  unfold lineX; rw [List.range_succ, List.map_append]; rfl
variable {W}
theorem fmt_first (h1 : 1 ≤ W) : ∀ x, x ≤ W → fmtTo W f x = lineX W f 0 x
  | 0, _ => rfl
  | x + 1, h => by
    have ih := fmt_first h1 x (by omega)
    have hn : ¬ (0 < x ∧ x % W = 0) := by
      rintro ⟨h2, h3⟩
      rw [Nat.mod_eq_of_lt (by omega)] at h3
      omega
    rw [fmtTo, ih, if_neg hn, List.append_nil, lineX_succ, Nat.zero_mul, Nat.zero_add]
theorem fmt_line (h1 : 1 ≤ W) {y : Nat} (hy : 1 ≤ y) : ∀ x, x + 1 ≤ W → fmtTo W f (y * W + (x + 1)) = fmtTo W f (y * W) ++ 47 :: lineX W f y (x + 1)
  | 0, _ => by
    have h2 : 0 < y * W ∧ y * W % W = 0 := ⟨Nat.mul_pos (by omega) (by omega), Nat.mul_mod_left _ _⟩
    show fmtTo W f (y * W + 1) = _
    rw [fmtTo, if_pos h2, lineX_succ]
    simp [lineX]
  | x + 1, h => by
    have ih := fmt_line h1 hy x (by omega)
    have hn : ¬ (0 < y * W + (x + 1) ∧ (y * W + (x + 1)) % W = 0) := by
      rintro ⟨_, h3⟩
      rw [Nat.mul_comm, Nat.mul_add_mod, Nat.mod_eq_of_lt (by omega)] at h3
      omega
    show fmtTo W f (y * W + (x + 1) + 1) = _
    rw [fmtTo, ih, if_neg hn, List.append_nil, lineX_succ W f y (x + 1)]
    simp
theorem letter_ne {k : Int} (h : 1 ≤ k ∧ k ≤ 4) : letterB k ≠ 47 ∧ kindOf (letterB k) = k := by
  have : k = 1 ∨ k = 2 ∨ k = 3 ∨ k = 4 := by omega
  rcases this with rfl | rfl | rfl | rfl <;> decide
theorem line_none {y x : Nat} (hk : ∀ i, i < x → 1 ≤ f (y * W + i) ∧ f (y * W + i) ≤ 4) : pieces 47 (lineX W f y x) = [lineX W f y x] := by
  refine pieces_none fun c hc => ?_
  obtain ⟨i, hi, rfl⟩ := List.mem_map.1 hc
  exact (letter_ne (hk i (List.mem_range.1 hi))).1
theorem fmt_pieces (h1 : 1 ≤ W) : ∀ h, (∀ i, i < (h + 1) * W → 1 ≤ f i ∧ f i ≤ 4) → pieces 47 (fmtTo W f ((h + 1) * W)) = (List.range (h + 1)).map fun y => lineX W f y W
  | 0, hk => by
    rw [Nat.zero_add, Nat.one_mul, fmt_first f h1 W (Nat.le_refl _), line_none f fun i hi => by rw [Nat.zero_mul, Nat.zero_add]; exact hk i (by omega)]
    rfl
  | h + 1, hk => by
    have e : (h + 1 + 1) * W = (h + 1) * W + W := by rw [Nat.add_mul (h + 1) 1 W, Nat.one_mul]
    have ih := fmt_pieces h1 h fun i hi => hk i (by omega)
    obtain ⟨x, hx⟩ : ∃ x, W = x + 1 := ⟨W - 1, by omega⟩
    have hl := fmt_line f h1 (y := h + 1) (by omega) x (by omega)
    rw [← hx] at hl
    rw [e, hl, pieces_app, ih, line_none f fun i hi => hk _ (by omega), List.range_succ (n := h + 1), List.map_append]
    rfl
/-- Lines are read one after the other. -/
theorem lines_read (h1 : 1 ≤ W) (h30 : W ≤ 30) : ∀ m y0, 1 ≤ y0 → y0 + m ≤ 30 → (∀ i, i < (y0 + m) * W → 1 ≤ f i ∧ f i ≤ 4) →
    parseL ((List.range m).map fun j => lineX W f (y0 + j) W) W y0 ((List.range (y0 * W)).map f) = some (W, y0 + m, (List.range ((y0 + m) * W)).map f)
  | 0, y0, _, _, _ => by simp [parseL]
  | m + 1, y0, h2, h3, hk => by
    have ih := lines_read h1 h30 m (y0 + 1) (by omega) (by omega) (by rw [show y0 + 1 + m = y0 + (m + 1) by omega]; exact hk)
    have hle : (y0 + 1) * W ≤ (y0 + (m + 1)) * W := Nat.mul_le_mul_right _ (by omega)
    rw [Nat.add_mul y0 1 W, Nat.one_mul] at hle
    rw [List.range_succ_eq_map, List.map_cons, List.map_map]
    unfold parseL
    have hlen : (lineX W f (y0 + 0) W).length = W := by simp [lineX]
    have hkk : ∀ i, i < W → 1 ≤ f (y0 * W + i) ∧ f (y0 * W + i) ≤ 4 := fun i hi => hk _ (by omega)
    have hall : ((lineX W f (y0 + 0) W).all fun c => kindB (kindOf c)) = true := by
      rw [List.all_eq_true]
      intro c hc
      obtain ⟨i, hi, rfl⟩ := List.mem_map.1 hc
      have h5 := hkk i (List.mem_range.1 hi)
      rw [Nat.add_zero, (letter_ne h5).2]
      exact kindB_iff.2 h5
    have hmap : (lineX W f (y0 + 0) W).map kindOf = (List.range W).map fun i => f (y0 * W + i) := by
      unfold lineX
      rw [List.map_map]
      apply List.map_congr_left
      intro i hi
      have h5 := hkk i (List.mem_range.1 hi)
      show kindOf (letterB (f ((y0 + 0) * W + i))) = _
      rw [Nat.add_zero, (letter_ne h5).2]
    have hne : ¬ y0 = 0 := by omega
    rw [if_neg hne, hlen, hall, show sideB ((W : Nat) : Int) = true from sideB_iff.2 (by omega), show sideB ((y0 + 1 : Nat) : Int) = true from sideB_iff.2 (by omega)]
    rw [if_pos (by simp), hmap]
    have e1 : (List.range m).map ((fun j => lineX W f (y0 + j) W) ∘ Nat.succ) = (List.range m).map fun j => lineX W f (y0 + 1 + j) W := by
      apply List.map_congr_left
      intro j _
      show lineX W f (y0 + (j + 1)) W = _
      rw [show y0 + (j + 1) = y0 + 1 + j by omega]
    have e2 : (List.range (y0 * W)).map f ++ (List.range W).map (fun i => f (y0 * W + i)) = (List.range ((y0 + 1) * W)).map f := by
      rw [Nat.add_mul, Nat.one_mul, List.range_add, List.map_append, List.map_map]
      rfl
    rw [e1, e2, ih, show y0 + 1 + m = y0 + (m + 1) by omega]
/-- A map is read from its text. -/
theorem text_read (h1 : 1 ≤ W) (h30 : W ≤ 30) {H : Nat} (h2 : 1 ≤ H) (h3 : H ≤ 30) (hk : ∀ i, i < H * W → 1 ≤ f i ∧ f i ≤ 4) : parseM (fmtTo W f (H * W)) = some (W, H, (List.range (H * W)).map f) := by
  obtain ⟨h, rfl⟩ : ∃ h, H = h + 1 := ⟨H - 1, by omega⟩
  have hp := fmt_pieces f h1 h hk
  have hle : W ≤ (h + 1) * W := by have := Nat.mul_le_mul_right W (show 1 ≤ h + 1 by omega); omega
  have hr := lines_read f h1 h30 h 1 (Nat.le_refl _) (by omega) (by rw [show 1 + h = h + 1 by omega]; exact hk)
  unfold parseM
  rw [hp, List.range_succ_eq_map, List.map_cons, List.map_map]
  unfold parseL
  have hlen : (lineX W f 0 W).length = W := by simp [lineX]
  have hkk : ∀ i, i < W → 1 ≤ f (0 * W + i) ∧ f (0 * W + i) ≤ 4 := fun i hi => by rw [Nat.zero_mul, Nat.zero_add]; exact hk _ (by omega)
  have hall : ((lineX W f 0 W).all fun c => kindB (kindOf c)) = true := by
    rw [List.all_eq_true]
    intro c hc
    obtain ⟨i, hi, rfl⟩ := List.mem_map.1 hc
    have h5 := hkk i (List.mem_range.1 hi)
    rw [(letter_ne h5).2]
    exact kindB_iff.2 h5
  have hmap : (lineX W f 0 W).map kindOf = (List.range (1 * W)).map f := by
    unfold lineX
    rw [List.map_map, Nat.one_mul]
    apply List.map_congr_left
    intro i hi
    have h5 := hkk i (List.mem_range.1 hi)
    show kindOf (letterB (f (0 * W + i))) = _
    rw [(letter_ne h5).2, Nat.zero_mul, Nat.zero_add]
  rw [if_pos rfl, hlen, hall, show sideB ((W : Nat) : Int) = true from sideB_iff.2 (by omega), show sideB ((0 + 1 : Nat) : Int) = true from sideB_iff.2 (by omega)]
  rw [if_pos (by simp), hmap, List.nil_append]
  have e1 : (List.range h).map ((fun y => lineX W f y W) ∘ Nat.succ) = (List.range h).map fun j => lineX W f (1 + j) W := by
    apply List.map_congr_left
    intro j _
    show lineX W f (j + 1) W = _
    rw [show j + 1 = 1 + j by omega]
  rw [e1, Nat.zero_add, hr, show 1 + h = h + 1 by omega]
end
end Go.Proofs.YtajfepogecakbaaDoor
