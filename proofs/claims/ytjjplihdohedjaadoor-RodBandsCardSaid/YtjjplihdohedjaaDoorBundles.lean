/- Bundles and Band, the program's and the document's. -/
import Derived.Test.YtjjplihdohedjaaDoorBase
namespace Go.Proofs.YtjjplihdohedjaaDoor
open Go.RowKit

def lst (p : Nat → Bool) : Nat → Nat
  | 0 => 0
  | n + 1 => if p (lst p n) = true then lst p n else n + 1
theorem lst_spec (p : Nat → Bool) : ∀ n, lst p n ≤ n ∧ (∀ x, x < lst p n → p x = false) ∧ (lst p n < n → p (lst p n) = true)
  | 0 => ⟨Nat.le_refl _, fun x h => absurd h (Nat.not_lt_zero x), fun h => absurd h (Nat.lt_irrefl _)⟩
  | n + 1 => by
    obtain ⟨h1, h2, h3⟩ := lst_spec p n
    by_cases hp : p (lst p n) = true
    · rw [lst, if_pos hp]
      exact ⟨by omega, h2, fun _ => hp⟩
    · rw [lst, if_neg hp]
      refine ⟨Nat.le_refl _, fun x hx => ?_, fun h => absurd h (Nat.lt_irrefl _)⟩
      have he : lst p n = n := by
        rcases Nat.lt_or_ge (lst p n) n with h | h
        · exact absurd (h3 h) hp
        · omega
      rcases Nat.lt_or_ge x n with h | h
      · exact h2 x (by omega)
      · obtain rfl : x = n := by omega
        rw [he] at hp
        simpa using hp
theorem lst_unique {p : Nat → Bool} {n r : Nat} (h1 : r ≤ n) (h2 : ∀ x, x < r → p x = false) (h3 : r < n → p r = true) : r = lst p n := by
  obtain ⟨a1, a2, a3⟩ := lst_spec p n
  rcases Nat.lt_trichotomy r (lst p n) with h | h | h
  · have := a2 r h
    rw [h3 (by omega)] at this
    cases this
  · exact h
  · have := h2 _ h
    rw [a3 (by omega)] at this
    cases this

def okG (n m : Int) : Bool := decide (1 ≤ n) && decide (n ≤ m)
theorem okG_iff {n m : Int} : okG n m = true ↔ 1 ≤ n ∧ n ≤ m := by simp [okG]
def bundlesR (g b : Int) : Value := if (okG g 1000 && okG b 1000) = true then .tuple #[.int .i64 (b * b / (g * g)), .int .i64 0] else .tuple #[.int .i64 0, .int .i64 2]
theorem sq_bd {n : Int} (h1 : 1 ≤ n) (h2 : n ≤ 1000) : 1 ≤ n * n ∧ n * n ≤ 1000000 := by
  have := Int.mul_le_mul h1 h1 (by omega) (by omega)
  have := Int.mul_le_mul h2 h2 (by omega) (by omega)
  omega

set_option maxHeartbeats 800000 in
theorem bundles_any (g b : Int) (w : World) : Gives Tryd.prog 25 #[.int .i64 g, .int .i64 b] w (bundlesR g b) := by
  unfold bundlesR
  by_cases h : (okG g 1000 && okG b 1000) = true
  · rw [if_pos h]
    rw [Bool.and_eq_true, okG_iff, okG_iff] at h
    obtain ⟨⟨h1, h2⟩, h3, h4⟩ := h
    obtain ⟨q1, q2⟩ := sq_bd h1 h2
    obtain ⟨q3, q4⟩ := sq_bd h3 h4
    go_enter Tryd.func25, Tryd.ntmps25
    go_wp2
    go_ret2
    exact ⟨rfl, later_of (by repeat (first | exact Below.refl _ _ | (with_reducible assumption) | apply below_later | apply below_alloc | apply below_drew | apply below_drewN))⟩
  · rw [if_neg h]
    rw [Bool.and_eq_true, okG_iff, okG_iff] at h
    by_cases h1 : 1 ≤ g <;> by_cases h2 : g ≤ 1000 <;> by_cases h3 : 1 ≤ b <;> by_cases h4 : b ≤ 1000
    all_goals first
      | (exfalso; omega)
      | (go_enter Tryd.func25, Tryd.ntmps25
         go_wp2
         go_ret2
         exact ⟨rfl, later_of (by repeat (first | exact Below.refl _ _ | (with_reducible assumption) | apply below_later | apply below_alloc | apply below_drew | apply below_drewN))⟩)

set_option maxHeartbeats 800000 in
theorem r_bundles_any (g b : Int) (w : World) : Gives Tryd.prog 26 #[.int .i64 g, .int .i64 b] w (bundlesR g b) := by
  unfold bundlesR
  by_cases h : (okG g 1000 && okG b 1000) = true
  · rw [if_pos h]
    rw [Bool.and_eq_true, okG_iff, okG_iff] at h
    obtain ⟨⟨h1, h2⟩, h3, h4⟩ := h
    obtain ⟨q1, q2⟩ := sq_bd h1 h2
    obtain ⟨q3, q4⟩ := sq_bd h3 h4
    go_enter Tryd.func26, Tryd.ntmps26
    go_wp2
    go_ret2
    exact ⟨rfl, later_of (by repeat (first | exact Below.refl _ _ | (with_reducible assumption) | apply below_later | apply below_alloc | apply below_drew | apply below_drewN))⟩
  · rw [if_neg h]
    rw [Bool.and_eq_true, okG_iff, okG_iff] at h
    by_cases h1 : 1 ≤ g <;> by_cases h2 : g ≤ 1000 <;> by_cases h3 : 1 ≤ b <;> by_cases h4 : b ≤ 1000
    all_goals first
      | (exfalso; omega)
      | (go_enter Tryd.func26, Tryd.ntmps26
         go_wp2
         go_ret2
         exact ⟨rfl, later_of (by repeat (first | exact Below.refl _ _ | (with_reducible assumption) | apply below_later | apply below_alloc | apply below_drew | apply below_drewN))⟩)

def geB (area : Int) (x : Nat) : Bool := decide (area ≤ (x : Int) * (x : Int))
theorem geB_mono {area : Int} {x y : Nat} (h : x ≤ y) (hx : geB area x = true) : geB area y = true := by
  have : (x : Int) * (x : Int) ≤ (y : Int) * (y : Int) := Int.mul_le_mul (by omega) (by omega) (by omega) (by omega)
  simp only [geB, decide_eq_true_eq] at hx ⊢
  omega
theorem geB_mono' {area : Int} {x y : Nat} (h : x ≤ y) (hy : geB area y = false) : geB area x = false := by
  cases hx : geB area x with
  | false => rfl
  | true => rw [geB_mono h hx] at hy; cases hy

theorem half_nat (i j : Nat) : ((i : Int) + (j : Int)) / 2 = (((i + j) / 2 : Nat) : Int) := by omega
theorem nat_sq_bd {h : Nat} (hh : h ≤ 100000) : 0 ≤ (h : Int) * (h : Int) ∧ (h : Int) * (h : Int) ≤ 10000000000 := by
  have := Int.mul_nonneg (a := (h : Int)) (b := (h : Int)) (by omega) (by omega)
  have := Int.mul_le_mul (a := (h : Int)) (b := (h : Int)) (c := 100000) (d := 100000) (by omega) (by omega) (by omega) (by omega)
  omega

set_option maxRecDepth 100000 in
set_option maxHeartbeats 1600000 in
theorem search_any (n : Nat) (area : Int) (c : Nat) (w : World) (hn : n ≤ 100000) (hc : w.cell? ⟨c, 0, none⟩ = some (.int .i64 area)) (hl : c < w.heap.size) :
    Gives Tryd.prog 59 #[.int .i64 n, .func (.func 60) #[] #[.pointer (some ⟨c, 0, none⟩)]] w (.int .i64 (lst (geB area) n)) := by
  go_enter Tryd.func59, Tryd.ntmps59
  go_wp2
  go_loopw [5, 6] (fun u v wr => ∃ i j : Nat, i ≤ j ∧ j ≤ n ∧ u = .int .i64 i ∧ v = .int .i64 j ∧ (∀ x, x < i → geB area x = false) ∧ (j < n → geB area j = true) ∧ ∃ x : Later w, wr = x.val) (fun u v _ => (intOf v).toNat - (intOf u).toNat)
  case atStart => exact ⟨0, n, by omega, by omega, rfl, rfl, by omega, by omega, later_of (by repeat (first | exact Below.refl _ _ | (with_reducible assumption) | apply below_later | apply below_alloc | apply below_drew | apply below_drewN))⟩
  case round =>
    obtain ⟨i, j, hij, hj, rfl, rfl, h1, h2, x, rfl⟩ := hrel
    have H1 := Lib.hid h1
    have H2 := Lib.hid h2
    clear h1 h2
    by_cases hlt : i < j
    · have e := half_nat i j
      have hm1 : i ≤ (i + j) / 2 := by omega
      have hm2 : (i + j) / 2 < j := by omega
      generalize (i + j) / 2 = h at e hm1 hm2
      obtain ⟨b1, b2⟩ := nat_sq_bd (h := h) (by omega)
      have d1 := (x.cell _ _ hl).trans hc
      cases hg : geB area h
      · have G := Lib.hid hg
        have g : ¬ area ≤ (h : Int) * (h : Int) := by simpa [geB] using hg
        clear hg
        go_wp2
        go_roundw
        case rel => exact ⟨h + 1, j, by omega, by omega, by go_num, rfl, fun x hx => geB_mono' (by omega) G.out, H2.out, later_of (by repeat (first | exact Below.refl _ _ | (with_reducible assumption) | apply below_later | apply below_alloc | apply below_drew | apply below_drewN))⟩
        case measure => simp [intOf]; omega
      · have G := Lib.hid hg
        have g : area ≤ (h : Int) * (h : Int) := by simpa [geB] using hg
        clear hg
        go_wp2
        go_roundw
        case rel => exact ⟨i, h, by omega, by omega, rfl, rfl, H1.out, fun _ => G.out, later_of (by repeat (first | exact Below.refl _ _ | (with_reducible assumption) | apply below_later | apply below_alloc | apply below_drew | apply below_drewN))⟩
        case measure => simp [intOf]; omega
    · obtain rfl : i = j := by omega
      go_wp2
      go_ret
      exact ⟨ret_int (by rw [lst_unique hj H1.out H2.out]), later_of (by repeat (first | exact Below.refl _ _ | (with_reducible assumption) | apply below_later | apply below_alloc | apply below_drew | apply below_drewN))⟩

def bandR (g b : Int) : Value := if (okG g 1000 && okG b 10000) = true then .tuple #[.int .i64 (lst (geB (b * g * g)) (100 * g.toNat)), .int .i64 0] else .tuple #[.int .i64 0, .int .i64 2]
theorem band_bd {g b : Int} (h1 : 1 ≤ g) (h2 : g ≤ 1000) (h3 : 1 ≤ b) (h4 : b ≤ 10000) : (1 ≤ b * g ∧ b * g ≤ 10000000) ∧ 1 ≤ b * g * g ∧ b * g * g ≤ 10000000000 := by
  have a1 := Int.mul_le_mul (a := 1) (b := 1) (c := b) (d := g) h3 h1 (by omega) (by omega)
  have a2 := Int.mul_le_mul (a := b) (b := g) (c := 10000) (d := 1000) h4 h2 (by omega) (by omega)
  have a3 := Int.mul_le_mul (a := 1) (b := 1) (c := b * g) (d := g) (by omega) h1 (by omega) (by omega)
  have a4 := Int.mul_le_mul (a := b * g) (b := g) (c := 10000000) (d := 1000) (by omega) h2 (by omega) (by omega)
  omega

theorem between_true {n lo hi : Int} (w : World) (h1 : lo ≤ n) (h2 : n ≤ hi) : Gives Tryd.prog 57 #[.int .i64 n, .int .i64 lo, .int .i64 hi] w (.bool true) := by
  go_enter Tryd.func57, Tryd.ntmps57
  go_wp2
  go_ret
  exact ⟨rfl, later_of (by repeat (first | exact Below.refl _ _ | (with_reducible assumption) | apply below_later | apply below_alloc | apply below_drew | apply below_drewN))⟩

set_option maxRecDepth 100000 in
set_option maxHeartbeats 1600000 in
theorem band_any (g b : Int) (w : World) : Gives Tryd.prog 27 #[.int .i64 g, .int .i64 b] w (bandR g b) := by
  unfold bandR
  by_cases h : (okG g 1000 && okG b 10000) = true
  · rw [if_pos h]
    rw [Bool.and_eq_true, okG_iff, okG_iff] at h
    obtain ⟨⟨h1, h2⟩, h3, h4⟩ := h
    obtain ⟨⟨q1, q2⟩, q3, q4⟩ := band_bd h1 h2 h3 h4
    obtain ⟨m, rfl⟩ : ∃ m : Nat, g = m := ⟨g.toNat, by omega⟩
    have e := Lib.hid (show (100 : Int) * (m : Int) = ((100 * m : Nat) : Int) by omega)
    have E := Lib.hid (show (m : Int).toNat = m from rfl)
    go_enter Tryd.func27, Tryd.ntmps27
    go_wp2_with (first | (go_at_call 57; (first | (with_reducible show Calls _ _ _ (Later.val _) _; with_reducible refine Calls.mono (Later.call _ (between_true _ (by assumption) (by assumption))) ?_) | (with_reducible refine Calls.mono (Gives.calls (between_true _ (by assumption) (by assumption))) ?_)); rintro e w1 ⟨rfl, z1, rfl⟩) | (go_at_call 59; go_loud (rw [e.out]; refine Calls.mono (search_any (100 * m) (b * m * m) _ _ (by omega) (by simp) (by simp)).calls ?_; rintro e w1 ⟨rfl, y1, rfl⟩)))
    go_ret2
    exact ⟨rfl, later_of (by repeat (first | exact Below.refl _ _ | (with_reducible assumption) | apply below_later | apply below_alloc | apply below_drew | apply below_drewN))⟩
  · rw [if_neg h]
    rw [Bool.and_eq_true, okG_iff, okG_iff] at h
    by_cases h1 : 1 ≤ g <;> by_cases h2 : g ≤ 1000 <;> by_cases h3 : 1 ≤ b <;> by_cases h4 : b ≤ 10000
    all_goals first
      | (exfalso; omega)
      | (go_enter Tryd.func27, Tryd.ntmps27
         go_wp2
         go_ret2
         exact ⟨rfl, later_of (by repeat (first | exact Below.refl _ _ | (with_reducible assumption) | apply below_later | apply below_alloc | apply below_drew | apply below_drewN))⟩)

theorem half_lt {i j : Nat} (h : i + 1 < j) : i < (i + j) / 2 ∧ (i + j) / 2 < j := by omega
theorem ge_div {h g b : Int} (hg : 1 ≤ g * g) : (b ≤ h * h / (g * g)) ↔ b * g * g ≤ h * h := by
  rw [Int.le_ediv_iff_mul_le (by omega), Int.mul_assoc]

set_option maxRecDepth 100000 in
set_option maxHeartbeats 1600000 in
theorem r_band_any (g b : Int) (w : World) : Gives Tryd.prog 28 #[.int .i64 g, .int .i64 b] w (bandR g b) := by
  unfold bandR
  by_cases h : (okG g 1000 && okG b 10000) = true
  · rw [if_pos h]
    rw [Bool.and_eq_true, okG_iff, okG_iff] at h
    obtain ⟨⟨h1, h2⟩, h3, h4⟩ := h
    obtain ⟨⟨q1, q2⟩, q3, q4⟩ := band_bd h1 h2 h3 h4
    obtain ⟨s1, s2⟩ := sq_bd h1 h2
    obtain ⟨m, rfl⟩ : ∃ m : Nat, g = m := ⟨g.toNat, by omega⟩
    have top : geB (b * m * m) (100 * m) = true := by
      simp only [geB, decide_eq_true_eq]
      have a1 := Int.mul_le_mul_of_nonneg_right h4 (show (0 : Int) ≤ (m : Int) * (m : Int) by omega)
      have a2 : ((100 * m : Nat) : Int) * ((100 * m : Nat) : Int) = 10000 * ((m : Int) * (m : Int)) := by
        rw [Int.natCast_mul]
        grind
      rw [a2, Int.mul_assoc b]
      exact a1
    have Top := Lib.hid top
    have Low : Hid (geB (b * m * m) 0 = false) := by
      show _ = _
      simp only [geB, decide_eq_false_iff_not]
      simp
      omega
    have E := Lib.hid (show (100 : Int) * (m : Int) = ((100 * m : Nat) : Int) by omega)
    clear top
    go_enter Tryd.func28, Tryd.ntmps28
    go_wp2
    go_loopw [6, 7] (fun u v wr => ∃ i j : Nat, i < j ∧ j ≤ 100 * m ∧ u = .int .i64 i ∧ v = .int .i64 j ∧ geB (b * m * m) i = false ∧ geB (b * m * m) j = true ∧ ∃ x : Later w, wr = x.val) (fun u v _ => (intOf v).toNat - (intOf u).toNat)
    case atStart => exact ⟨0, 100 * m, by omega, by omega, rfl, by go_num, Low.out, Top.out, later_of (by repeat (first | exact Below.refl _ _ | (with_reducible assumption) | apply below_later | apply below_alloc | apply below_drew | apply below_drewN))⟩
    case round =>
      obtain ⟨i, j, hij, hj, rfl, rfl, h5, h6, x, rfl⟩ := hrel
      have H1 := Lib.hid h5
      have H2 := Lib.hid h6
      clear h5 h6
      by_cases hlt : i + 1 < j
      · obtain ⟨hm1, hm2⟩ := half_lt hlt
        have e := Lib.hid (half_nat i j)
        generalize (i + j) / 2 = h at e hm1 hm2
        obtain ⟨b1, b2⟩ := nat_sq_bd (h := h) (by omega)
        have D := Lib.hid (ge_div (h := h) (g := m) (b := b) s1)
        have nn : 0 ≤ (h : Int) * (h : Int) / ((m : Int) * (m : Int)) := Int.ediv_nonneg (by omega) (by omega)
        cases hg : geB (b * m * m) h
        · have G := Lib.hid hg
          have g : ¬ b ≤ (h : Int) * (h : Int) / ((m : Int) * (m : Int)) := by rw [D.out]; simpa [geB] using hg
          clear hg
          have e' := e.out
          go_wp2
          go_roundw
          case rel => exact ⟨h, j, by omega, by omega, by rw [e.out], rfl, G.out, H2.out, later_of (by repeat (first | exact Below.refl _ _ | (with_reducible assumption) | apply below_later | apply below_alloc | apply below_drew | apply below_drewN))⟩
          case measure => simp [intOf]; omega
        · have G := Lib.hid hg
          have g : b ≤ (h : Int) * (h : Int) / ((m : Int) * (m : Int)) := by rw [D.out]; simpa [geB] using hg
          clear hg
          have e' := e.out
          go_wp2
          go_roundw
          case rel => exact ⟨i, h, by omega, by omega, rfl, by rw [e.out], H1.out, G.out, later_of (by repeat (first | exact Below.refl _ _ | (with_reducible assumption) | apply below_later | apply below_alloc | apply below_drew | apply below_drewN))⟩
          case measure => simp [intOf]; omega
      · have U : Hid (j = lst (geB (b * m * m)) (100 * m)) := lst_unique hj (fun x hx => geB_mono' (by omega) H1.out) (fun _ => H2.out)
        go_wp2
        all_goals first
          | (exfalso; omega)
          | (go_ret2
             exact ⟨by rw [show (m : Int).toNat = m from rfl, ← U.out]; rfl, later_of (by repeat (first | exact Below.refl _ _ | (with_reducible assumption) | apply below_later | apply below_alloc | apply below_drew | apply below_drewN))⟩)
  · rw [if_neg h]
    rw [Bool.and_eq_true, okG_iff, okG_iff] at h
    by_cases h1 : 1 ≤ g <;> by_cases h2 : g ≤ 1000 <;> by_cases h3 : 1 ≤ b <;> by_cases h4 : b ≤ 10000
    all_goals first
      | (exfalso; omega)
      | (go_enter Tryd.func28, Tryd.ntmps28
         go_wp2
         go_ret2
         exact ⟨rfl, later_of (by repeat (first | exact Below.refl _ _ | (with_reducible assumption) | apply below_later | apply below_alloc | apply below_drew | apply below_drewN))⟩)
end Go.Proofs.YtjjplihdohedjaaDoor
