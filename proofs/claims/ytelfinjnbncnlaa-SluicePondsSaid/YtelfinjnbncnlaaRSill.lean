/- The law's own sill: walked. -/
import Derived.Test.YtelfinjnbncnlaaSRValid
import Derived.Test.YtelfinjnbncnlaaSinkMath
namespace Go.Proofs.Ytelfinjnbncnlaa
open Go.RowKit

set_option maxRecDepth 100000 in
set_option maxHeartbeats 1600000 in
theorem rsill_any (W H : Int) (A B : Option Addr) (n cap m capS : Nat) (a s : Nat → Int) (at_ : Int) (w : World) (hq : IsSlu w B m a s) :
    Gives Try.prog 35 #[.agg #[.int .i64 W, .int .i64 H, .slice A n cap, .slice B m capS], .int .i64 at_] w (.int .i64 (sillTo a s at_ m)) := by
  have small := hq.small
  have HQ := Lib.hid hq
  clear hq
  go_enter Try.func35, Try.ntmps35
  go_wp2
  obtain ⟨V9, hV9⟩ : ∃ V, (w.alloc (.cells #[.int .i64 W, .int .i64 H, .slice A n cap, .slice B m capS] 25)) = V := ⟨_, rfl⟩
  have HQ9 : Hid (IsSlu V9 B m a s) := by show IsSlu _ _ _ _ _; rw [← hV9]; exact HQ.out.later ⟨_, by repeat (first | exact Below.refl _ _ | (with_reducible assumption) | apply below_later | apply below_alloc | apply below_drew | apply below_drewN)⟩
  have m3' : V9.cell? ⟨w.heap.size, 3, none⟩ = some (.slice B m capS) := by rw [← hV9]; exact cell_of_heap (World.alloc_heap_new _ _) 3 _ rfl
  have lw : w.heap.size < V9.heap.size := by rw [← hV9]; simp
  have hb9 : Below w.heap.size w V9 := by rw [← hV9]; repeat (first | exact Below.refl _ _ | (with_reducible assumption) | apply below_later | apply below_alloc | apply below_drew | apply below_drewN)
  rw [hV9]
  clear hV9
  go_loopw [5, 6] (fun v u wr => ∃ k : Nat, k ≤ m ∧ v = .int .i64 (sillTo a s at_ k) ∧ u = .int .i64 k ∧ ∃ x : Later V9, wr = x.val) (fun _ u _ => m - (intOf u).toNat)
  case atStart => exact ⟨0, by omega, rfl, rfl, ⟨_, Below.refl _ _⟩, rfl⟩
  case round =>
    obtain ⟨k, hk, rfl, rfl, x, rfl⟩ := hrel
    have E : Hid (sillTo a s at_ (k + 1) = if a k = at_ ∧ (sillTo a s at_ k < 0 ∨ s k < sillTo a s at_ k) then s k else sillTo a s at_ k) := rfl
    by_cases hlt : k < m
    · obtain ⟨gb, gf, hB, pB⟩ := (HQ9.out.later x).at_ (by omega)
      subst hB
      have cx := pB.x k hlt
      have cy := pB.y k hlt
      have lB := pB.lt
      clear pB
      generalize sillTo a s at_ k = o at *
      obtain ⟨o', ho'⟩ : ∃ o', sillTo a s at_ (k + 1) = o' := ⟨_, rfl⟩
      rw [ho'] at E
      have HO := Lib.hid ho'
      clear ho'
      generalize a k = ak at *
      generalize s k = sk at *
      by_cases c1 : ak = at_
      · have q1 : (ak == at_) = true := by simpa using c1
        by_cases c2 : o < 0
        · have F : Hid (o' = sk) := by show _ = _; rw [E.out, if_pos ⟨c1, .inl c2⟩]
          clear E
          have q2 : decide (o < 0) = true := decide_eq_true c2
          go_wp2_with fail
          go_roundw
          case rel => exact ⟨k + 1, by omega, by rw [HO.out, F.out], by go_num, later_of (by repeat (first | exact Below.refl _ _ | (with_reducible assumption) | apply below_later | apply below_alloc | apply below_drew | apply below_drewN))⟩
          case measure => simp [intOf]; omega
        · have q2 : decide (o < 0) = false := decide_eq_false c2
          by_cases c3 : sk < o
          · have F : Hid (o' = sk) := by show _ = _; rw [E.out, if_pos ⟨c1, .inr c3⟩]
            have q3 : decide (sk < o) = true := decide_eq_true c3
            clear E
            go_wp2_with fail
            go_roundw
            case rel => exact ⟨k + 1, by omega, by rw [HO.out, F.out], by go_num, later_of (by repeat (first | exact Below.refl _ _ | (with_reducible assumption) | apply below_later | apply below_alloc | apply below_drew | apply below_drewN))⟩
            case measure => simp [intOf]; omega
          · have F : Hid (o' = o) := by show _ = _; rw [E.out, if_neg (fun h => h.2.elim c2 c3)]
            have q3 : decide (sk < o) = false := decide_eq_false c3
            clear E
            go_wp2_with fail
            go_roundw
            case rel => exact ⟨k + 1, by omega, by rw [HO.out, F.out], by go_num, later_of (by repeat (first | exact Below.refl _ _ | (with_reducible assumption) | apply below_later | apply below_alloc | apply below_drew | apply below_drewN))⟩
            case measure => simp [intOf]; omega
      · have F : Hid (o' = o) := by show _ = _; rw [E.out, if_neg (fun h => c1 h.1)]
        have q1 : (ak == at_) = false := by simpa using c1
        clear E
        go_wp2_with fail
        go_roundw
        case rel => exact ⟨k + 1, by omega, by rw [HO.out, F.out], by go_num, later_of (by repeat (first | exact Below.refl _ _ | (with_reducible assumption) | apply below_later | apply below_alloc | apply below_drew | apply below_drewN))⟩
        case measure => simp [intOf]; omega
    · obtain rfl : k = m := by omega
      go_wp2
      go_ret
      exact ⟨rfl, later_of (by repeat (first | exact Below.refl _ _ | (with_reducible assumption) | apply below_later | apply below_alloc | apply below_drew | apply below_drewN))⟩
end Go.Proofs.Ytelfinjnbncnlaa
