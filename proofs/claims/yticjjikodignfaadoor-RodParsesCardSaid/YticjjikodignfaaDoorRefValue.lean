/- The document's own reading of a text. -/
import Derived.Test.YticjjikodignfaaDoorFormatsLaw
namespace Go.Proofs.YticjjikodignfaaDoor
open Go.RowKit

/-- One byte more. -/
def stepS (la lb lc : UInt8) (s0 s1 : Int) (c : UInt8) (p : Int × Int) : Int × Int :=
  if 48 ≤ c.toNat ∧ c.toNat ≤ 57 then (p.1, 10 * p.2 + (c.toNat - 48)) else if c = la then (p.1 + p.2 * s0, 0) else if c = lb then (p.1 + p.2 * s1, 0) else if c = lc then (p.1 + p.2, 0) else p
def valS (la lb lc : UInt8) (s0 s1 : Int) : List UInt8 → Int × Int → Int
  | [], p => p.1
  | c :: r, p => if 1000000000 < (stepS la lb lc s0 s1 c p).2 ∨ 1000000000 < (stepS la lb lc s0 s1 c p).1 then -1 else valS la lb lc s0 s1 r (stepS la lb lc s0 s1 c p)
def valR (la lb lc : UInt8) (s0 s1 : Int) (x : List UInt8) : Int := if 60 < x.length then -1 else valS la lb lc s0 s1 x (0, 0)

set_option maxRecDepth 100000 in
set_option maxHeartbeats 3200000 in
theorem r_value_any (la lb lc : UInt8) (s0 s1 : Int) (x : List UInt8) (w : World) (hx : x.length ≤ 1000000) (h0 : 1 ≤ s0) (h1 : 1 ≤ s1) (g0 : s0 ≤ 100000) (g1 : s1 ≤ 100000) :
    Gives Tryd.prog 56 #[.string ⟨x.toArray⟩, .int .i64 s0, .int .i64 s1, .string ⟨#[la, lb, lc]⟩] w (.int .i64 (valR la lb lc s0 s1 x)) := by
  by_cases h60 : 60 < x.length
  · have hv : Hid (valR la lb lc s0 s1 x = -1) := if_pos h60
    go_enter Tryd.func56, Tryd.ntmps56
    go_wp2
    go_ret
    exact ⟨(by rw [hv.out]; try rfl), later_of (by repeat (first | exact Below.refl _ _ | (with_reducible assumption) | apply below_later | apply below_alloc | apply below_drew | apply below_drewN))⟩
  · have hv : Hid (valR la lb lc s0 s1 x = valS la lb lc s0 s1 x (0, 0)) := if_neg h60
    go_enter Tryd.func56, Tryd.ntmps56
    go_wp2
    go_loop [9, 10, 11] (fun s n i => ∃ (k : Nat) (s' n' : Int), k ≤ x.length ∧ i = .int .i64 k ∧ s = .int .i64 s' ∧ n = .int .i64 n' ∧ 0 ≤ s' ∧ s' ≤ 1000000000 ∧ 0 ≤ n' ∧ n' ≤ 1000000000 ∧ valS la lb lc s0 s1 x (0, 0) = valS la lb lc s0 s1 (x.drop k) (s', n')) (fun _ _ i => x.length - (intOf i).toNat)
    case atStart => exact ⟨0, 0, 0, by omega, rfl, rfl, rfl, by omega, by omega, by omega, by omega, rfl⟩
    case round =>
      obtain ⟨k, s, n, hk, rfl, rfl, rfl, a1, a2, a3, a4, a5⟩ := hrel
      have A5 := Lib.hid a5
      clear a5
      by_cases hlt : k < x.length
      · have hd : x.drop k = x[k] :: x.drop (k + 1) := List.drop_eq_getElem_cons hlt
        have hc : (⟨x.toArray⟩ : ByteArray)[k]'(by show k < x.toArray.size; simpa using hlt) = x[k] := by
          show x.toArray[k] = x[k]
          simp
        generalize x[k] = c at *
        have n0 : (⟨#[la, lb, lc]⟩ : ByteArray)[0]'(by show 0 < #[la, lb, lc].size; simp) = la := rfl
        have n1 : (⟨#[la, lb, lc]⟩ : ByteArray)[1]'(by show 1 < #[la, lb, lc].size; simp) = lb := rfl
        have n2 : (⟨#[la, lb, lc]⟩ : ByteArray)[2]'(by show 2 < #[la, lb, lc].size; simp) = lc := rfl
        have hcb : c.toNat < 256 := c.toNat_lt
        have AV : Hid (valS la lb lc s0 s1 x (0, 0) = if 1000000000 < (stepS la lb lc s0 s1 c (s, n)).2 ∨ 1000000000 < (stepS la lb lc s0 s1 c (s, n)).1 then -1 else valS la lb lc s0 s1 (x.drop (k + 1)) (stepS la lb lc s0 s1 c (s, n))) := by
          have := A5.out
          rw [hd] at this
          exact this
        clear A5 hd
        have m0 : 0 ≤ n * s0 := Int.mul_nonneg a3 (by omega)
        have m1 : 0 ≤ n * s1 := Int.mul_nonneg a3 (by omega)
        have m2 : n * s0 ≤ 1000000000 * 100000 := Int.mul_le_mul a4 g0 (by omega) (by omega)
        have m3 : n * s1 ≤ 1000000000 * 100000 := Int.mul_le_mul a4 g1 (by omega) (by omega)
        by_cases hdig : 48 ≤ c.toNat ∧ c.toNat ≤ 57
        · obtain ⟨d1, d2⟩ := hdig
          have d3 : 48 ≤ (c.toNat : Int) := by omega
          have d4 : (c.toNat : Int) ≤ 57 := by omega
          have st : stepS la lb lc s0 s1 c (s, n) = (s, 10 * n + (c.toNat - 48)) := by unfold stepS; rw [if_pos ⟨d1, d2⟩]
          rw [st] at AV
          clear st d1 d2
          by_cases hb : 10 * n + ((c.toNat : Int) - 48) ≤ 1000000000
          · have V : Hid (valS la lb lc s0 s1 x (0, 0) = valS la lb lc s0 s1 (x.drop (k + 1)) (s, 10 * n + (c.toNat - 48))) := by have := AV.out; rw [if_neg (by simp only; omega)] at this; exact this
            clear AV
            go_wp2
            all_goals
              go_round
              case rel => exact ⟨k + 1, s, 10 * n + (c.toNat - 48), by omega, by go_num, rfl, rfl, by omega, by omega, by omega, by omega, V.out⟩
              case measure => simp [intOf]; omega
          · have V : Hid (valS la lb lc s0 s1 x (0, 0) = -1) := by have := AV.out; rw [if_pos (by simp only; omega)] at this; exact this
            clear AV
            go_wp2
            all_goals
              go_ret
              exact ⟨(by rw [hv.out, V.out]; try rfl), later_of (by repeat (first | exact Below.refl _ _ | (with_reducible assumption) | apply below_later | apply below_alloc | apply below_drew | apply below_drewN))⟩
        have hnd : (c.toNat : Int) < 48 ∨ 57 < (c.toNat : Int) := by omega
        by_cases hla : c = la
        · have qla : ((c.toNat : Int) == (la.toNat : Int)) = true := by simp [hla]
          have st : stepS la lb lc s0 s1 c (s, n) = (s + n * s0, 0) := by unfold stepS; rw [if_neg hdig, if_pos hla]
          rw [st] at AV
          clear st hdig hla
          by_cases hb : s + n * s0 ≤ 1000000000
          · have V : Hid (valS la lb lc s0 s1 x (0, 0) = valS la lb lc s0 s1 (x.drop (k + 1)) (s + n * s0, 0)) := by have := AV.out; rw [if_neg (by simp only; omega)] at this; exact this
            clear AV
            rcases hnd with hnd | hnd
            all_goals
              go_wp2
              go_round
              case rel => exact ⟨k + 1, s + n * s0, 0, by omega, by go_num, rfl, rfl, by omega, by omega, by omega, by omega, V.out⟩
              case measure => simp [intOf]; omega
          · have V : Hid (valS la lb lc s0 s1 x (0, 0) = -1) := by have := AV.out; rw [if_pos (by simp only; omega)] at this; exact this
            clear AV
            rcases hnd with hnd | hnd
            all_goals
              go_wp2
              go_ret
              exact ⟨(by rw [hv.out, V.out]; try rfl), later_of (by repeat (first | exact Below.refl _ _ | (with_reducible assumption) | apply below_later | apply below_alloc | apply below_drew | apply below_drewN))⟩
        have qla : ((c.toNat : Int) == (la.toNat : Int)) = false := beq_eq_false_iff_ne.2 fun e => hla (UInt8.toNat_inj.1 (by omega))
        by_cases hlb : c = lb
        · have qlb : ((c.toNat : Int) == (lb.toNat : Int)) = true := by simp [hlb]
          have st : stepS la lb lc s0 s1 c (s, n) = (s + n * s1, 0) := by unfold stepS; rw [if_neg hdig, if_neg hla, if_pos hlb]
          rw [st] at AV
          clear st hdig hlb hla
          by_cases hb : s + n * s1 ≤ 1000000000
          · have V : Hid (valS la lb lc s0 s1 x (0, 0) = valS la lb lc s0 s1 (x.drop (k + 1)) (s + n * s1, 0)) := by have := AV.out; rw [if_neg (by simp only; omega)] at this; exact this
            clear AV
            rcases hnd with hnd | hnd
            all_goals
              go_wp2
              go_round
              case rel => exact ⟨k + 1, s + n * s1, 0, by omega, by go_num, rfl, rfl, by omega, by omega, by omega, by omega, V.out⟩
              case measure => simp [intOf]; omega
          · have V : Hid (valS la lb lc s0 s1 x (0, 0) = -1) := by have := AV.out; rw [if_pos (by simp only; omega)] at this; exact this
            clear AV
            rcases hnd with hnd | hnd
            all_goals
              go_wp2
              go_ret
              exact ⟨(by rw [hv.out, V.out]; try rfl), later_of (by repeat (first | exact Below.refl _ _ | (with_reducible assumption) | apply below_later | apply below_alloc | apply below_drew | apply below_drewN))⟩
        have qlb : ((c.toNat : Int) == (lb.toNat : Int)) = false := beq_eq_false_iff_ne.2 fun e => hlb (UInt8.toNat_inj.1 (by omega))
        by_cases hlc : c = lc
        · have qlc : ((c.toNat : Int) == (lc.toNat : Int)) = true := by simp [hlc]
          have st : stepS la lb lc s0 s1 c (s, n) = (s + n, 0) := by unfold stepS; rw [if_neg hdig, if_neg hla, if_neg hlb, if_pos hlc]
          rw [st] at AV
          clear st hdig hlc hla hlb
          by_cases hb : s + n ≤ 1000000000
          · have V : Hid (valS la lb lc s0 s1 x (0, 0) = valS la lb lc s0 s1 (x.drop (k + 1)) (s + n, 0)) := by have := AV.out; rw [if_neg (by simp only; omega)] at this; exact this
            clear AV
            rcases hnd with hnd | hnd
            all_goals
              go_wp2
              go_round
              case rel => exact ⟨k + 1, s + n, 0, by omega, by go_num, rfl, rfl, by omega, by omega, by omega, by omega, V.out⟩
              case measure => simp [intOf]; omega
          · have V : Hid (valS la lb lc s0 s1 x (0, 0) = -1) := by have := AV.out; rw [if_pos (by simp only; omega)] at this; exact this
            clear AV
            rcases hnd with hnd | hnd
            all_goals
              go_wp2
              go_ret
              exact ⟨(by rw [hv.out, V.out]; try rfl), later_of (by repeat (first | exact Below.refl _ _ | (with_reducible assumption) | apply below_later | apply below_alloc | apply below_drew | apply below_drewN))⟩
        have qlc : ((c.toNat : Int) == (lc.toNat : Int)) = false := beq_eq_false_iff_ne.2 fun e => hlc (UInt8.toNat_inj.1 (by omega))
        have st : stepS la lb lc s0 s1 c (s, n) = (s, n) := by unfold stepS; rw [if_neg hdig, if_neg hla, if_neg hlb, if_neg hlc]
        rw [st] at AV
        clear st hdig hla hlb hlc
        have V : Hid (valS la lb lc s0 s1 x (0, 0) = valS la lb lc s0 s1 (x.drop (k + 1)) (s, n)) := by have := AV.out; rw [if_neg (by simp only; omega)] at this; exact this
        clear AV
        rcases hnd with hnd | hnd
        all_goals
          go_wp2
          go_round
          case rel => exact ⟨k + 1, s, n, by omega, by go_num, rfl, rfl, by omega, by omega, by omega, by omega, V.out⟩
          case measure => simp [intOf]; omega
      · have hk' : k = x.length := by omega
        have A6 : Hid (valS la lb lc s0 s1 x (0, 0) = s) := by
          have := A5.out
          rw [hk', List.drop_length] at this
          exact this
        clear hk'
        go_wp2
        go_ret
        exact ⟨(by rw [hv.out, A6.out]; try rfl), later_of (by repeat (first | exact Below.refl _ _ | (with_reducible assumption) | apply below_later | apply below_alloc | apply below_drew | apply below_drewN))⟩
end Go.Proofs.YticjjikodignfaaDoor
