/- bed.Format: a map's text. -/
import Derived.Test.YtajfepogecakbaaDoorBedValid
import Derived.Test.YtajfepogecakbaaDoorBuilder
import Derived.Test.YtajfepogecakbaaDoorAroundC
import Derived.Test.YtajfepogecakbaaDoorShelf
namespace Go.Proofs.YtajfepogecakbaaDoor
open Go.RowKit

/-- The letter of a kind. -/
def letterB (k : Int) : UInt8 := [114, 119, 115, 112].getD (k - 1).toNat 0
/-- The text of the first k squares. -/
def fmtTo (W : Nat) (f : Nat → Int) : Nat → List UInt8
  | 0 => []
  | k + 1 => fmtTo W f k ++ (if 0 < k ∧ k % W = 0 then [47] else []) ++ [letterB (f k)]
theorem fmtTo_length (W : Nat) (f : Nat → Int) : ∀ k, (fmtTo W f k).length ≤ 2 * k
  | 0 => by simp [fmtTo]
  | k + 1 => by
    have := fmtTo_length W f k
    unfold fmtTo
    split <;> simp <;> omega
theorem byteCells_length (l : List UInt8) : (Lib.byteCells l).length = l.length := by simp [Lib.byteCells]
theorem byteCells_snoc (l : List UInt8) (c : UInt8) : Lib.byteCells l ++ [.int .u8 c.toNat] = Lib.byteCells (l ++ [c]) := by simp [Lib.byteCells]
set_option maxRecDepth 100000 in
theorem letter_run {k : Int} (h : 1 ≤ k ∧ k ≤ 4) : ∀ w, (Instr.index 9 (.string ⟨#[114, 119, 115, 112]⟩) (.int .i64 (k - 1))).run Tryd.prog w = .ok (.int .u8 (letterB k).toNat) w := by
  have : k = 1 ∨ k = 2 ∨ k = 3 ∨ k = 4 := by omega
  rcases this with rfl | rfl | rfl | rfl <;> exact fun w => by kernel_rfl

theorem format_bad (W H : Int) (n cap : Nat) (A : Option Addr) (f : Nat → Int) (w : World) (hp : IsInts w A n f) (hv : validM W H n f = false) :
    Gives Tryd.prog 17 #[.agg #[.int .i64 W, .int .i64 H, .slice A n cap]] w (.tuple #[.string ⟨#[]⟩, .int .i64 20]) := by
  have V : Hid (∀ w', IsInts w' A n f → Gives Tryd.prog 19 #[.agg #[.int .i64 W, .int .i64 H, .slice A n cap]] w' (.bool false)) := fun w' h => hv ▸ bvalid_any W H A n cap f w' h
  have HP := Lib.hid hp
  clear hp hv
  go_enter Tryd.func17, Tryd.ntmps17
  go_wp2_with (go_at_call 19; (first | (with_reducible show Calls _ _ _ (Later.val _) _; with_reducible refine Calls.mono (Later.call _ (V.out _ (HP.out.later ⟨_, by repeat (first | exact Below.refl _ _ | (with_reducible assumption) | apply below_later | apply below_alloc | apply below_drew | apply below_drewN)⟩))) ?_) | (with_reducible refine Calls.mono (Gives.calls (V.out _ (HP.out.later ⟨_, by repeat (first | exact Below.refl _ _ | (with_reducible assumption) | apply below_later | apply below_alloc | apply below_drew | apply below_drewN)⟩))) ?_)); rintro e w1 ⟨rfl, z, rfl⟩)
  go_ret2
  exact ⟨rfl, later_of (by repeat (first | exact Below.refl _ _ | (with_reducible assumption) | apply below_later | apply below_alloc | apply below_drew | apply below_drewN))⟩

set_option maxRecDepth 100000 in
set_option maxHeartbeats 3200000 in
theorem format_ok (W H n cap : Nat) (A : Option Addr) (f : Nat → Int) (w : World) (hp : IsInts w A n f) (hv : validM W H n f = true) :
    Gives Tryd.prog 17 #[.agg #[.int .i64 W, .int .i64 H, .slice A n cap]] w (.tuple #[.string ⟨(fmtTo W f n).toArray⟩, .int .i64 0]) := by
  have V : Hid (∀ w', IsInts w' A n f → Gives Tryd.prog 19 #[.agg #[.int .i64 W, .int .i64 H, .slice A n cap]] w' (.bool true)) := fun w' h => hv ▸ bvalid_any W H A n cap f w' h
  obtain ⟨⟨v1, v2⟩, ⟨v3, v4⟩, hn, hk4⟩ := validM_iff.1 hv
  have hn' : n = W * H := by rw [← Int.natCast_mul] at hn; omega
  have h0 : 0 < n := by
    have := Nat.mul_le_mul (show 1 ≤ W by omega) (show 1 ≤ H by omega)
    omega
  have hn9 : n ≤ 900 := by rw [hn']; exact Nat.mul_le_mul (show W ≤ 30 by omega) (show H ≤ 30 by omega)
  obtain ⟨b, off, rfl, p⟩ := hp.at_ h0
  have lb := p.lt
  have HP := Lib.hid hp
  have P := Lib.hid p
  have HN := Lib.hid hn
  have HK := Lib.hid hk4
  have hmb : (W : Int) * (H : Int) ≤ 900 := by omega
  have hm0 : 0 ≤ (W : Int) * (H : Int) := by omega
  clear hp p hn hn' hv hk4
  go_enter Tryd.func17, Tryd.ntmps17
  go_wp2_with (go_at_call 19; (first | (with_reducible show Calls _ _ _ (Later.val _) _; with_reducible refine Calls.mono (Later.call _ (V.out _ (HP.out.later ⟨_, by repeat (first | exact Below.refl _ _ | (with_reducible assumption) | apply below_later | apply below_alloc | apply below_drew | apply below_drewN)⟩))) ?_) | (with_reducible refine Calls.mono (Gives.calls (V.out _ (HP.out.later ⟨_, by repeat (first | exact Below.refl _ _ | (with_reducible assumption) | apply below_later | apply below_alloc | apply below_drew | apply below_drewN)⟩))) ?_)); rintro e w1 ⟨rfl, z, rfl⟩)
  have zz := z.size
  simp only [World.size_alloc] at zz
  have zc0 : z.val.cell? ⟨w.heap.size, 0, none⟩ = some (.int .i64 W) := (z.cell _ _ (by simp)).trans (by simp)
  have zc1 : z.val.cell? ⟨w.heap.size, 1, none⟩ = some (.int .i64 H) := (z.cell _ _ (by simp)).trans (by simp)
  have zc2 : z.val.cell? ⟨w.heap.size, 2, none⟩ = some (.slice (some ⟨b, off, none⟩) n cap) := (z.cell _ _ (by simp)).trans (by simp)
  have zp : Ints z.val b off n f := (P.out.later ⟨w.alloc (.cells #[.int .i64 W, .int .i64 H, .slice (some ⟨b, off, none⟩) n cap] 24), by repeat (first | exact Below.refl _ _ | (with_reducible assumption) | apply below_later | apply below_alloc | apply below_drew | apply below_drewN)⟩).later z
  have ZP := Lib.hid zp
  have lbz := zp.lt
  clear zp
  go_loopw [14] (fun v wr => ∃ k : Nat, k ≤ n ∧ v = .int .i64 k ∧ Lib.IsBuilder 59 5 z.val.heap.size z.val.heap.size (Lib.byteCells (fmtTo W f k)) wr ∧ ∃ x : Later z.val, wr = x.val) (fun v _ => n - (intOf v).toNat)
  case atStart => exact ⟨0, by omega, rfl, Lib.fresh_isBuilder _ _ _, later_of (by repeat (first | exact Below.refl _ _ | (with_reducible assumption) | apply below_later | apply below_alloc | apply below_drew | apply below_drewN))⟩
  case round =>
    obtain ⟨k, hk, rfl, hb, x, rfl⟩ := hrel
    have lw : w.heap.size < z.val.heap.size := by omega
    have hB := x.size
    have xc0 := (x.cell _ _ lw).trans zc0
    have xc1 := (x.cell _ _ lw).trans zc1
    have xc2 := (x.cell _ _ lw).trans zc2
    have XP := Lib.hid (ZP.out.later x)
    have hlen := fmtTo_length W f k
    have HB := Lib.hid hb
    have HS : Hid (fmtTo W f (k + 1) = fmtTo W f k ++ (if 0 < k ∧ k % W = 0 then [47] else []) ++ [letterB (f k)]) := rfl
    clear hb
    by_cases hlt : k < n
    · have hlt' : (k : Int) < (W : Int) * (H : Int) := by rw [← HN.out]; omega
      have xk : x.val.cell? ⟨b, off + k, none⟩ = some (.int .i64 (f k)) := XP.out.at_ k hlt
      obtain ⟨k1, k2⟩ := HK.out k hlt
      have lr := letter_run (HK.out k hlt)
      generalize letterB (f k) = lc at *
      have lx := x.lt _ lbz
      by_cases hsep : 0 < k ∧ k % W = 0
      · rw [if_pos hsep] at HS
        obtain ⟨s1, s2⟩ := hsep
        have q1 : ((k : Int) % (W : Int) == 0) = true := by rw [← Int.natCast_emod, s2]; rfl
        have q2 : 0 < (k : Int) := by omega
        clear s2
        go_wp2_with (first | (go_at_call 57; with_reducible refine Calls.mono (writeByte_any z.val.heap.size _ _ 47 _ HB.out (by rw [byteCells_length]; omega) hB) ?_; rintro e w1 ⟨rfl, hb1, bw1⟩; have xk1 : w1.cell? ⟨b, off + k, none⟩ = some (.int .i64 (f k)) := (bw1.cell (p := ⟨b, off + k, none⟩) lbz).trans xk; have d0 : w1.cell? ⟨w.heap.size, 0, none⟩ = some (.int .i64 W) := (bw1.cell (p := ⟨w.heap.size, 0, none⟩) lw).trans xc0; have d1 : w1.cell? ⟨w.heap.size, 1, none⟩ = some (.int .i64 H) := (bw1.cell (p := ⟨w.heap.size, 1, none⟩) lw).trans xc1; have d2 : w1.cell? ⟨w.heap.size, 2, none⟩ = some (.slice (some ⟨b, off, none⟩) n cap) := (bw1.cell (p := ⟨w.heap.size, 2, none⟩) lw).trans xc2; have lb1 : b < w1.heap.size := Nat.lt_of_lt_of_le lx bw1.size; have HB1 := Lib.hid (builder_used hb1); clear hb1) | (go_at_call 57; with_reducible refine Calls.mono (writeByte_any z.val.heap.size _ _ lc.toNat _ HB1.out (by rw [List.length_append, byteCells_length]; simp; omega) (Nat.le_trans hB bw1.size)) ?_; rintro e w2 ⟨rfl, hb2, bw2⟩; have HB2 := Lib.hid hb2; clear hb2))
        go_roundw
        case rel =>
          refine ⟨k + 1, by omega, by go_num, .inr ?_, ⟨w2, ?_⟩, rfl⟩
          · rw [HS.out, ← byteCells_snoc, ← byteCells_snoc]; exact HB2.out
          · exact (x.ok.trans (bw1.mono (Nat.le_refl _))).trans bw2
        case measure => simp [intOf]; omega
      · rw [if_neg hsep, List.append_nil] at HS
        by_cases q0 : 0 < k
        · have q2 : 0 < (k : Int) := by omega
          have q1 : ((k : Int) % (W : Int) == 0) = false := by
            rw [← Int.natCast_emod]
            have : k % W ≠ 0 := fun h => hsep ⟨q0, h⟩
            simp; omega
          clear hsep
          go_wp2_with (go_at_call 57; with_reducible refine Calls.mono (writeByte_any z.val.heap.size _ _ lc.toNat _ HB.out (by rw [byteCells_length]; omega) hB) ?_; rintro e w2 ⟨rfl, hb2, bw2⟩; have HB2 := Lib.hid hb2; clear hb2)
          go_roundw
          case rel =>
            refine ⟨k + 1, by omega, by go_num, .inr ?_, ⟨w2, x.ok.trans bw2⟩, rfl⟩
            rw [HS.out, ← byteCells_snoc]; exact HB2.out
          case measure => simp [intOf]; omega
        · have q2 : ¬ 0 < (k : Int) := by omega
          clear hsep
          go_wp2_with (go_at_call 57; with_reducible refine Calls.mono (writeByte_any z.val.heap.size _ _ lc.toNat _ HB.out (by rw [byteCells_length]; omega) hB) ?_; rintro e w2 ⟨rfl, hb2, bw2⟩; have HB2 := Lib.hid hb2; clear hb2)
          go_roundw
          case rel =>
            refine ⟨k + 1, by omega, by go_num, .inr ?_, ⟨w2, x.ok.trans bw2⟩, rfl⟩
            rw [HS.out, ← byteCells_snoc]; exact HB2.out
          case measure => simp [intOf]; omega
    · obtain rfl : k = n := by omega
      have hlt' : ¬ (k : Int) < (W : Int) * (H : Int) := by rw [← HN.out]; omega
      go_wp2_with (go_at_call 58; refine (Tryd.Builder_String_any z.val.heap.size _ _ _ HB.out hB).mono ?_; rintro e w1 ⟨rfl, bw1⟩)
      go_ret2
      exact ⟨rfl, later_of ((by repeat (first | exact Below.refl _ _ | (with_reducible assumption) | apply below_later | apply below_alloc | apply below_drew | apply below_drewN) : Below w.heap.size w x.val).trans (bw1.mono (by omega)))⟩
end Go.Proofs.YtajfepogecakbaaDoor
