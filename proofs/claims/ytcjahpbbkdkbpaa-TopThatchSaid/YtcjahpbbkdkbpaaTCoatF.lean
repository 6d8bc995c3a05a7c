/- Courses, Layers, Least and Reed of coats, of the program and of the document: walked. -/
import Derived.Test.YtcjahpbbkdkbpaaTLayR
namespace Go.Proofs.Ytcjahpbbkdkbpaa
open Go.RowKit

theorem hasN_succ (f : Nat → Nat) (x k : Nat) : hasN f x (k + 1) = (hasN f x k || f k == x) := rfl
set_option maxRecDepth 100000 in
theorem Courses_bad (s g r : Int) (A : Option Addr) (n cap : Nat) (f : Nat → Int) (w : World) (hp : n ≤ 100 → IsInts w A n f) (hv : okCoat s g r n f = false) :
    Gives Try.prog 22 #[coatV s g r A n cap] w (.tuple #[.int .i64 0, .int .i64 81]) := by
  have VA := Lib.hid fun (V : World) (hb : Below w.heap.size w V) => hv ▸ ValidCoat_any s g r A n cap f V fun h => (hp h).below hb
  unfold coatV at VA ⊢
  clear hp hv
  go_enter Try.func22, Try.ntmps22
  go_wp2_with (go_at_call 39; with_reducible refine Calls.mono (Gives.calls (VA.out _ (by repeat (first | exact Below.refl _ _ | (with_reducible assumption) | apply below_later | apply below_alloc | apply below_drew | apply below_drewN)))) ?_; rintro e w1 ⟨rfl, z, rfl⟩)
  go_ret2
  exact ⟨rfl, later_of (by repeat (first | exact Below.refl _ _ | (with_reducible assumption) | apply below_later | apply below_alloc | apply below_drew | apply below_drewN))⟩
set_option maxRecDepth 100000 in
theorem Courses_ok (S G R n cap : Nat) (A : Option Addr) (f : Nat → Nat) (w : World) (C : Ct S G R n f) (hp : IsInts w A n fun j => ((f j : Nat) : Int)) (hv : okCoat S G R n (fun j => ((f j : Nat) : Int)) = true) :
    Gives Try.prog 22 #[coatV S G R A n cap] w (.tuple #[.int .i64 (upN S G : Nat), .int .i64 0]) := by
  have VA := Lib.hid fun (V : World) (hb : Below w.heap.size w V) => hv ▸ ValidCoat_any S G R A n cap _ V fun _ => hp.below hb
  have hS := C.hs
  have CO := Lib.hid fun V => courses_any S G R A n cap V (by omega) C.hg
  generalize upN S G = res at *
  unfold coatV at VA CO ⊢
  clear hp hv C
  go_enter Try.func22, Try.ntmps22
  go_wp2_with (first
    | ((go_at_call 39; with_reducible refine Calls.mono (Gives.calls (VA.out _ (by repeat (first | exact Below.refl _ _ | (with_reducible assumption) | apply below_later | apply below_alloc | apply below_drew | apply below_drewN)))) ?_; rintro e w1 ⟨rfl, z, rfl⟩); obtain ⟨⟨x0, x1, x2, x3⟩, lx⟩ := coat_at (w := w) (V := z.val) (s := (S : Int)) (g := (G : Int)) (r := (R : Int)) (A := A) (n := n) (c := cap) (by repeat (first | exact Below.refl _ _ | (with_reducible assumption) | apply below_later | apply below_alloc | apply below_drew | apply below_drewN)))
    | (go_at_call 41; with_reducible refine Calls.mono (Gives.calls (CO.out _)) ?_; rintro e w1 ⟨rfl, z2, rfl⟩))
  go_ret2
  exact ⟨rfl, later_of (by repeat (first | exact Below.refl _ _ | (with_reducible assumption) | apply below_later | apply below_alloc | apply below_drew | apply below_drewN))⟩
theorem lst_le {g : Nat → Nat} {b : Nat} (h0 : g 0 ≤ b) (k : Nat) : lstN g k ≤ b := by
  induction k with
  | zero => exact h0
  | succ k ih => rw [lstN_succ]; omega
end Go.Proofs.Ytcjahpbbkdkbpaa
