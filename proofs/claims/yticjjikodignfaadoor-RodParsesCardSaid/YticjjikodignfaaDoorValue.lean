/- rod.value: what a word stands for. -/
import Derived.Test.YticjjikodignfaaDoorFormat
import Derived.Test.YticjjikodignfaaDoorShelf2
namespace Go.Proofs.YticjjikodignfaaDoor
open Go.RowKit

/-- The two listed errors lie where they lay. -/
structure Errs (w : World) : Prop where
  syn : ∃ te pe, w.cell? ⟨5, 0, none⟩ = some (.iface te pe)
  range : ∃ te pe, w.cell? ⟨6, 0, none⟩ = some (.iface te pe)
theorem Errs.below {w w' : World} (h : Errs w) (hb : Below w.heap.size w w') : Errs w' := by
  obtain ⟨⟨t, p, h1⟩, ⟨t', p', h2⟩⟩ := h
  exact ⟨⟨t, p, (hb.cell (p := ⟨_, 0, none⟩) (World.block_lt_of_cell? _ _ h1)).trans h1⟩, ⟨t', p', (hb.cell (p := ⟨_, 0, none⟩) (World.block_lt_of_cell? _ _ h2)).trans h2⟩⟩

theorem atoi_ok (x : List UInt8) (hx : x.length ≤ 1000000) (n : Int) (h : Lib.atoiAll x = .ok n) (w : World) : Gives Tryd.prog 109 #[.string ⟨x.toArray⟩] w (.tuple #[.int .i64 n, .nilIface]) :=
  Calls.mono (Tryd.strconv_Atoi_ok ⟨x.toArray⟩ (by show x.toArray.size ≤ _; rw [List.size_toArray]; omega) n (by simpa using h) w) fun e w' ⟨he, hw⟩ => ⟨he, by
    rcases hw with rfl | ⟨t, rfl⟩
    · exact ⟨⟨_, Below.refl _ _⟩, rfl⟩
    · exact ⟨⟨_, Lib.bytesWorld_below _ _ _⟩, rfl⟩⟩
theorem atoi_bad (x : List UInt8) (hx : x.length ≤ 1000000) (h : ∀ n, Lib.atoiAll x ≠ .ok n) (w : World) (he : Errs w) :
    Calls Tryd.prog 109 #[.string ⟨x.toArray⟩] w fun e w' => (∃ (n : Int) (N : Nat), e = .returned (.tuple #[.int .i64 n, .iface 134 (.pointer (some ⟨N, 0, none⟩))])) ∧ ∃ y : Later w, w' = y.val := by
  obtain ⟨⟨t1, p1, h1⟩, ⟨t2, p2, h2⟩⟩ := he
  cases ha : Lib.atoiAll x
  · rename_i n
    exact absurd ha (h n)
  · exact Calls.mono (Any.strconv_Atoi_syntax Tryd.laysC172 ⟨x.toArray⟩ (by show x.toArray.size ≤ _; rw [List.size_toArray]; omega) (by simpa using ha) _ w h1 (.inr ⟨_, _, rfl⟩)) fun e w' ⟨N, he, _, _, hb⟩ => ⟨⟨0, N, he⟩, ⟨w', hb⟩, rfl⟩
  · exact Calls.mono (Tryd.strconv_Atoi_range ⟨x.toArray⟩ (by show x.toArray.size ≤ _; rw [List.size_toArray]; omega) (by simpa using ha) _ w h2 (.inr ⟨_, _, rfl⟩)) fun e w' ⟨N, he, _, _, hb⟩ => ⟨⟨_, N, he⟩, ⟨w', hb⟩, rfl⟩

/-- What a word is worth with one unit. -/
def oneN (l : UInt8) (s : Int) (x : List UInt8) : Option Int := match Lib.atoiAll (Lib.trimSuffix x [l]) with
  | .ok n => if n < 0 ∨ 1000000000 / s < n then none else some (n * s)
  | _ => none
/-- What a word is worth. -/
def wordN (la lb lc : UInt8) (s0 s1 : Int) (x : List UInt8) : Option Int :=
  if Lib.hasSuffix x [la] then oneN la s0 x else if Lib.hasSuffix x [lb] then oneN lb s1 x else if Lib.hasSuffix x [lc] then oneN lc 1 x else none
def optV (o : Option Int) : Value := .tuple #[.int .i64 (o.getD 0), .bool o.isSome]
def unitsU (la lb lc : UInt8) (s0 s1 : Int) : Value := .agg #[.string ⟨#[la]⟩, .int .i64 s0, .string ⟨#[lb]⟩, .int .i64 s1, .string ⟨#[lc]⟩, .int .i64 1]
/-- The first k units are not the word's. -/
def noneOf (la lb lc : UInt8) (x : List UInt8) : Nat → Prop
  | 0 => True
  | 1 => Lib.hasSuffix x [la] = false
  | 2 => Lib.hasSuffix x [la] = false ∧ Lib.hasSuffix x [lb] = false
  | _ => Lib.hasSuffix x [la] = false ∧ Lib.hasSuffix x [lb] = false ∧ Lib.hasSuffix x [lc] = false
theorem unit_at2 (la lb lc : UInt8) (s0 s1 : Int) (x : List UInt8) (h0 : 1 ≤ s0) (h1 : 1 ≤ s1) (g0 : s0 ≤ 100000) (g1 : s1 ≤ 100000) (k : Nat) (hk : k < 3) :
    ∃ (l : UInt8) (s : Int), 1 ≤ s ∧ s ≤ 100000 ∧ (∀ W, (Instr.index 59 (unitsU la lb lc s0 s1) (.int .i64 k)).run Tryd.prog W = .ok (.agg #[.string ⟨#[l]⟩, .int .i64 s]) W) ∧
      (noneOf la lb lc x k → Lib.hasSuffix x [l] = false → noneOf la lb lc x (k + 1)) ∧ (noneOf la lb lc x k → Lib.hasSuffix x [l] = true → wordN la lb lc s0 s1 x = oneN l s x) := by
  have hk' : k = 0 ∨ k = 1 ∨ k = 2 := by omega
  rcases hk' with rfl | rfl | rfl
  · exact ⟨la, s0, h0, g0, fun W => by kernel_rfl, fun _ h => h, fun _ h => by simp [wordN, h]⟩
  · exact ⟨lb, s1, h1, g1, fun W => by kernel_rfl, fun a h => ⟨a, h⟩, fun a h => by have a' : Lib.hasSuffix x [la] = false := a; simp [wordN, h, a']⟩
  · exact ⟨lc, 1, by omega, by omega, fun W => by kernel_rfl, fun a h => ⟨a.1, a.2, h⟩, fun a h => by simp [wordN, h, a.1, a.2]⟩

set_option maxRecDepth 100000 in
set_option maxHeartbeats 1600000 in
theorem value_any (la lb lc : UInt8) (s0 s1 : Int) (x : List UInt8) (w : World) (hx : x.length ≤ 1000000) (h0 : 1 ≤ s0) (h1 : 1 ≤ s1) (g0 : s0 ≤ 100000) (g1 : s1 ≤ 100000) (he : Errs w) :
    Gives Tryd.prog 91 #[unitsU la lb lc s0 s1, .string ⟨x.toArray⟩] w (optV (wordN la lb lc s0 s1 x)) := by
  have Hu := Lib.hid (fun k hk => unit_at2 la lb lc s0 s1 x h0 h1 g0 g1 k hk)
  have He := Lib.hid he
  clear he
  unfold unitsU
  go_enter Tryd.func91, Tryd.ntmps91
  go_wp2
  go_loopw [13] (fun i wr => ∃ k : Nat, k ≤ 3 ∧ i = .int .i64 k ∧ noneOf la lb lc x k ∧ ∃ y : Later w, wr = y.val) (fun i _ => 3 - (intOf i).toNat)
  case atStart => exact ⟨0, by omega, rfl, trivial, later_of (by repeat (first | exact Below.refl _ _ | (with_reducible assumption) | apply below_later | apply below_alloc | apply below_drew | apply below_drewN))⟩
  case round =>
    obtain ⟨k, hk, rfl, hno, y, rfl⟩ := hrel
    have HN := Lib.hid hno
    clear hno
    by_cases hlt : k < 3
    · obtain ⟨l, s, q1, q2, xk, e1, e2⟩ := Hu.out k hlt
      have E1 := Lib.hid e1
      have E2 := Lib.hid e2
      unfold unitsU at xk
      clear e1 e2
      have CS : Hid (∀ w, Calls Tryd.prog 108 #[.string ⟨x.toArray⟩, .string ⟨#[l]⟩] w fun e w' => e = .returned (.tuple #[.string ⟨(Lib.trimSuffix x [l]).toArray⟩, .bool (Lib.hasSuffix x [l])]) ∧ w' = w) := fun w => by
        have := Tryd.strings_CutSuffix ⟨x.toArray⟩ ⟨#[l]⟩ w (by show x.toArray.size ≤ _; rw [List.size_toArray]; omega)
        simpa using this
      have ht : (Lib.trimSuffix x [l]).length ≤ 1000000 := by
        unfold Lib.trimSuffix
        split
        · simp; omega
        · exact hx
      have HO : Hid (oneN l s x = match Lib.atoiAll (Lib.trimSuffix x [l]) with | .ok n => if n < 0 ∨ 1000000000 / s < n then none else some (n * s) | _ => none) := rfl
      have AO : Hid (∀ n, Lib.atoiAll (Lib.trimSuffix x [l]) = .ok n → ∀ w, Gives Tryd.prog 109 #[.string ⟨(Lib.trimSuffix x [l]).toArray⟩] w (.tuple #[.int .i64 n, .nilIface])) := fun n h w => atoi_ok _ ht n h w
      have AB : Hid ((∀ n, Lib.atoiAll (Lib.trimSuffix x [l]) ≠ .ok n) → ∀ w, Errs w → Calls Tryd.prog 109 #[.string ⟨(Lib.trimSuffix x [l]).toArray⟩] w fun e w' => (∃ (n : Int) (N : Nat), e = .returned (.tuple #[.int .i64 n, .iface 134 (.pointer (some ⟨N, 0, none⟩))])) ∧ ∃ y : Later w, w' = y.val) := fun h w he => atoi_bad _ ht h w he
      generalize Lib.trimSuffix x [l] = tr at *
      cases hs : Lib.hasSuffix x [l] with
      | false =>
        have N1 := Lib.hid (E1.out HN.out hs)
        rw [hs] at CS
        clear hs E1 E2
        go_wp2_with (go_at_call 108; refine (CS.out _).mono ?_; rintro e w1 ⟨rfl, rfl⟩)
        go_roundw
        case rel => exact ⟨k + 1, by omega, by go_num, N1.out, later_of (by repeat (first | exact Below.refl _ _ | (with_reducible assumption) | apply below_later | apply below_alloc | apply below_drew | apply below_drewN))⟩
        case measure => simp [intOf]; omega
      | true =>
        have N1 := Lib.hid ((E2.out HN.out hs).trans HO.out)
        rw [hs] at CS
        clear hs E1 E2 HO
        cases ha : Lib.atoiAll tr with
        | ok n =>
          have A1 := Lib.hid (AO.out n ha)
          rw [ha] at N1
          clear AO AB ha
          have d1 : 0 ≤ 1000000000 / s := Int.ediv_nonneg (by omega) (by omega)
          have d2 : 1000000000 / s ≤ 1000000000 := Int.ediv_le_self _ (by omega)
          by_cases hn : 0 ≤ n
          · by_cases hm : n ≤ 1000000000 / s
            · have d3 : 0 ≤ n * s := Int.mul_nonneg hn (by omega)
              have d4 : n * s ≤ 1000000000 := by
                have a := Int.mul_le_mul_of_nonneg_right hm (show 0 ≤ s by omega)
                have b := Int.ediv_mul_le 1000000000 (show s ≠ 0 by omega)
                omega
              have N2 : Hid (wordN la lb lc s0 s1 x = some (n * s)) := by have := N1.out; simp only at this; rw [if_neg (by omega)] at this; exact this
              clear N1
              go_wp2_with (first | (go_at_call 108; refine (CS.out _).mono ?_; rintro e w1 ⟨rfl, rfl⟩) | (go_at_call 109; (first | (with_reducible show Calls _ _ _ (Later.val _) _; with_reducible refine Calls.mono (Later.call _ (A1.out _)) ?_) | (with_reducible refine Calls.mono (Gives.calls (A1.out _)) ?_)); rintro e w1 ⟨rfl, z, rfl⟩))
              go_ret2
              exact ⟨by rw [N2.out]; rfl, later_of (by repeat (first | exact Below.refl _ _ | (with_reducible assumption) | apply below_later | apply below_alloc | apply below_drew | apply below_drewN))⟩
            · have N2 : Hid (wordN la lb lc s0 s1 x = none) := by have := N1.out; simp only at this; rw [if_pos (by omega)] at this; exact this
              clear N1
              go_wp2_with (first | (go_at_call 108; refine (CS.out _).mono ?_; rintro e w1 ⟨rfl, rfl⟩) | (go_at_call 109; (first | (with_reducible show Calls _ _ _ (Later.val _) _; with_reducible refine Calls.mono (Later.call _ (A1.out _)) ?_) | (with_reducible refine Calls.mono (Gives.calls (A1.out _)) ?_)); rintro e w1 ⟨rfl, z, rfl⟩))
              go_ret2
              exact ⟨by rw [N2.out]; rfl, later_of (by repeat (first | exact Below.refl _ _ | (with_reducible assumption) | apply below_later | apply below_alloc | apply below_drew | apply below_drewN))⟩
          · have N2 : Hid (wordN la lb lc s0 s1 x = none) := by have := N1.out; simp only at this; rw [if_pos (by omega)] at this; exact this
            clear N1
            go_wp2_with (first | (go_at_call 108; refine (CS.out _).mono ?_; rintro e w1 ⟨rfl, rfl⟩) | (go_at_call 109; (first | (with_reducible show Calls _ _ _ (Later.val _) _; with_reducible refine Calls.mono (Later.call _ (A1.out _)) ?_) | (with_reducible refine Calls.mono (Gives.calls (A1.out _)) ?_)); rintro e w1 ⟨rfl, z, rfl⟩))
            go_ret2
            exact ⟨by rw [N2.out]; rfl, later_of (by repeat (first | exact Below.refl _ _ | (with_reducible assumption) | apply below_later | apply below_alloc | apply below_drew | apply below_drewN))⟩
        | _ =>
          have A1 := Lib.hid (AB.out (fun n h => by rw [ha] at h; cases h))
          have N2 : Hid (wordN la lb lc s0 s1 x = none) := by have := N1.out; rw [ha] at this; exact this
          clear AO AB ha N1
          go_wp2_with (first | (go_at_call 108; refine (CS.out _).mono ?_; rintro e w1 ⟨rfl, rfl⟩) | (go_at_call 109; refine (A1.out _ (He.out.below (by repeat (first | exact Below.refl _ _ | (with_reducible assumption) | apply below_later | apply below_alloc | apply below_drew | apply below_drewN)))).mono ?_; rintro e w1 ⟨⟨n, N, rfl⟩, z, rfl⟩))
          go_ret2
          exact ⟨by rw [N2.out]; rfl, later_of (by repeat (first | exact Below.refl _ _ | (with_reducible assumption) | apply below_later | apply below_alloc | apply below_drew | apply below_drewN))⟩
    · obtain rfl : k = 3 := by omega
      have N2 : Hid (wordN la lb lc s0 s1 x = none) := by
        obtain ⟨a, b, c⟩ := HN.out
        show _ = _
        simp [wordN, a, b, c]
      go_wp2
      go_ret2
      exact ⟨by rw [N2.out]; rfl, later_of (by repeat (first | exact Below.refl _ _ | (with_reducible assumption) | apply below_later | apply below_alloc | apply below_drew | apply below_drewN))⟩
end Go.Proofs.YticjjikodignfaaDoor
