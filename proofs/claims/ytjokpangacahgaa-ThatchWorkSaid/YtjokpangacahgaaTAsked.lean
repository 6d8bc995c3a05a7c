/- The document's Asked: walked. -/
import Derived.Test.YtjokpangacahgaaTIsWork
namespace Go.Proofs.Ytjokpangacahgaa
open Go.RowKit

theorem rAsked_any (n cap : Nat) (A : Option Addr) (f : Nat → Int) (h : Int) (w : World) (hn : n ≤ 9223372036854775807) (hp : IsInts w A n f) :
    Gives Try.prog 68 #[.slice A n cap, .int .i64 h] w (.int .i64 (jobE n f h)) := by
  have IJ := Lib.hid fun (V : World) (hb : Below w.heap.size w V) => rJob_any n cap A f V hn (hp.below hb)
  have BT := Lib.hid fun V => rfrom_any 1 h 10 V
  have HE : Hid (jobE n f h = if okJob n f = false then 82 else if inI 1 h 10 = false then 2 else 0) := rfl
  clear hp
  generalize jobE n f h = res at *
  generalize okJob n f = r1 at *
  generalize inI 1 h 10 = r2 at *
  cases r1 <;> cases r2
  all_goals
    go_enter Try.func68, Try.ntmps68
    go_wp2_with (first | (go_at_call 47; with_reducible refine Calls.mono (Gives.calls (IJ.out _ (by repeat (first | exact Below.refl _ _ | (with_reducible assumption) | apply below_later | apply below_alloc | apply below_drew | apply below_drewN)))) ?_; rintro e w1 ⟨rfl, z, rfl⟩) | (go_at_call 52; with_reducible refine Calls.mono (Gives.calls (BT.out _)) ?_; rintro e w1 ⟨rfl, z2, rfl⟩))
    go_ret
    exact ⟨ret_int (by rw [HE.out]; rfl), later_of (by repeat (first | exact Below.refl _ _ | (with_reducible assumption) | apply below_later | apply below_alloc | apply below_drew | apply below_drewN))⟩
end Go.Proofs.Ytjokpangacahgaa
