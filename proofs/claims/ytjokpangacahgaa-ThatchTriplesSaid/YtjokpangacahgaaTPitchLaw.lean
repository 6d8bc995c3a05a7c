/- The law of pitches: walked. -/
import Derived.Test.YtjokpangacahgaaTRPitch
import Derived.Test.YtjokpangacahgaaTAwake
namespace Go.Proofs.Ytjokpangacahgaa
open Go.RowKit

set_option maxRecDepth 100000 in
set_option maxHeartbeats 3200000 in
theorem pitches_law (a b c most : Int) (w : World) : Gives Try.prog 3 #[pitV a b c, .int .i64 most] w (.bool true) := by
  have AW := Lib.hid awake_law
  have VP := Lib.hid fun V => ValidPitch_any a b c V
  have RP := Lib.hid fun V => rValidPitch_any a b c V
  unfold pitV at VP RP ⊢
  generalize okPit a b c = ok at *
  have hok : (ok == ok) = true := by simp
  by_cases hm : inI 1 most 1000 = false
  · have PB := Lib.hid fun V => Pitches_bad most V hm
    have RB := Lib.hid fun V => rPitches_bad most V hm
    have SP := Lib.hid fun V => same_pits none none 0 0 0 (fun _ => 0) (fun _ => 0) (fun _ => 0) V (by omega) ⟨by omega, fun h => absurd h (by omega)⟩ ⟨by omega, fun h => absurd h (by omega)⟩
    clear hm
    go_enter Try.func3, Try.ntmps3
    go_wp2_with (first
      | (go_at_call 11; with_reducible refine Calls.mono (Gives.calls (PB.out _)) ?_; rintro e w1 ⟨rfl, z1, rfl⟩)
      | ((go_at_call 12; with_reducible refine Calls.mono (Gives.calls (RB.out _)) ?_; rintro e w1 ⟨rfl, z2, rfl⟩); obtain ⟨x0, x1, x2⟩ := pit_at (w := w) (V := z2.val) (a := a) (b := b) (c := c) (by repeat (first | exact Below.refl _ _ | (with_reducible assumption) | apply below_later | apply below_alloc | apply below_drew | apply below_drewN)); have lx := get_lt (res_cell (w := w) (V := z2.val) (o := .cells #[.int .i64 a, .int .i64 b, .int .i64 c] 23) (by repeat (first | exact Below.refl _ _ | (with_reducible assumption) | apply below_later | apply below_alloc | apply below_drew | apply below_drewN)))))
    have HBZ : Hid (Below w.heap.size w z2.val) := by show Below _ _ _; repeat (first | exact Below.refl _ _ | (with_reducible assumption) | apply below_later | apply below_alloc | apply below_drew | apply below_drewN)
    generalize z2.val = Z at *
    refine wp_region_later (by kernel_rfl) (by kernel_rfl) ?_
    repeat (go_big_quiet_step ((first | (go_at_call 13; (with_reducible refine Later.call _ (VP.out _))) | (go_at_call 14; (with_reducible refine Later.call _ (RP.out _))) | (go_at_call 15; (with_reducible refine Later.call _ (SP.out _))) | (go_at_call 16; (with_reducible refine Later.call _ (AW.out _))))))
    refine wpQuiet_nil ?_
    intro y
    go_wp2
    go_ret
    exact ⟨rfl, later_of (below_more HBZ.out y.ok)⟩
  · obtain ⟨m0, m1⟩ := inI_iff.1 (by simpa using hm : inI 1 most 1000 = true)
    obtain ⟨m, rfl⟩ : ∃ m : Nat, most = m := ⟨most.toNat, by omega⟩
    have PB : Hid (∀ V : World, Calls Try.prog 11 #[.int .i64 m] V fun e w' => ∃ v, e = .returned (.tuple #[v, .int .i64 0]) ∧ ∃ x : Later V, w' = x.val ∧ OwnT3 23 w' V.heap.size v (triL (allP m))) := fun V => Pitches_ok m V (by omega) (by omega)
    have RB : Hid (∀ V : World, Calls Try.prog 12 #[.int .i64 m] V fun e w' => ∃ v, e = .returned (.tuple #[v, .int .i64 0]) ∧ ∃ x : Later V, w' = x.val ∧ OwnT3 23 w' V.heap.size v (triL (allP m))) := fun V => rPitches_ok m V (by omega) (by omega)
    have HL : Hid ((triL (allP m)).length = (allP m).length) := triL_length _
    have hle : (allP m).length ≤ 1002001 := by
      have h := allP_len (m := m) (by omega)
      have : (m + 1) * 1001 ≤ 1001 * 1001 := Nat.mul_le_mul (by omega) (Nat.le_refl _)
      omega
    generalize triL (allP m) = tl at *
    generalize (allP m).length = n at *
    have SP := Lib.hid fun V A B c1 c2 (h1 : IsTris V A n (tx tl) (ty tl) (tz tl)) (h2 : IsTris V B n (tx tl) (ty tl) (tz tl)) => same_pits A B n c1 c2 _ _ _ V (by omega) h1 h2
    clear hm
    go_enter Try.func3, Try.ntmps3
    go_wp2_with (first
      | (go_at_call 11; with_reducible refine Calls.mono (PB.out _) ?_; rintro e w1 ⟨v, rfl, z1, rfl, ho⟩; obtain ⟨O, cO, rfl⟩ := ho.shape_n HL.out; have IO := Lib.hid (ho.tris HL.out (by omega)); clear ho)
      | (go_at_call 12; with_reducible refine Calls.mono (RB.out _) ?_; rintro e w1 ⟨v2, rfl, z2, rfl, ho2⟩; obtain ⟨O2, cO2, rfl⟩ := ho2.shape_n HL.out; have IO2 := Lib.hid (ho2.tris HL.out (by omega)); clear ho2; obtain ⟨x0, x1, x2⟩ := pit_at (w := w) (V := z2.val) (a := a) (b := b) (c := c) (by repeat (first | exact Below.refl _ _ | (with_reducible assumption) | apply below_later | apply below_alloc | apply below_drew | apply below_drewN)); have lx := get_lt (res_cell (w := w) (V := z2.val) (o := .cells #[.int .i64 a, .int .i64 b, .int .i64 c] 23) (by repeat (first | exact Below.refl _ _ | (with_reducible assumption) | apply below_later | apply below_alloc | apply below_drew | apply below_drewN)))))
    have HBZ : Hid (Below w.heap.size w z2.val) := by show Below _ _ _; repeat (first | exact Below.refl _ _ | (with_reducible assumption) | apply below_later | apply below_alloc | apply below_drew | apply below_drewN)
    have IO1 := Lib.hid (IO.out.below z2.ok)
    clear IO
    generalize z2.val = Z at *
    refine wp_region_later (by kernel_rfl) (by kernel_rfl) ?_
    repeat (go_big_quiet_step ((first | (go_at_call 13; (with_reducible refine Later.call _ (VP.out _))) | (go_at_call 14; (with_reducible refine Later.call _ (RP.out _))) | (go_at_call 15; (with_reducible refine Later.call _ (SP.out _ _ _ _ _ (IO1.out.below (by repeat (first | exact Below.refl _ _ | (with_reducible assumption) | apply below_later | apply below_alloc | apply below_drew | apply below_drewN))) (IO2.out.below (by repeat (first | exact Below.refl _ _ | (with_reducible assumption) | apply below_later | apply below_alloc | apply below_drew | apply below_drewN)))))) | (go_at_call 16; (with_reducible refine Later.call _ (AW.out _))))))
    refine wpQuiet_nil ?_
    intro y
    go_wp2
    go_ret
    exact ⟨rfl, later_of (below_more HBZ.out y.ok)⟩
end Go.Proofs.Ytjokpangacahgaa
