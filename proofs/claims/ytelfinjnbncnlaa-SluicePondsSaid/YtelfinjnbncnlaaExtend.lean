/- How levelsOf extends the ways out: walked. -/
import Derived.Test.YtelfinjnbncnlaaHeapPop
import Derived.Test.YtelfinjnbncnlaaLevelMath
namespace Go.Proofs.Ytelfinjnbncnlaa
open Go.RowKit

set_option maxRecDepth 100000 in
set_option maxHeartbeats 800000 in
theorem extend_any (bo base fb b off n cap a : Nat) (x : Int) (f : Nat → Int) (v : Value) (l : List Pt) (w : World) (ha : a < n) (hl : l.length ≤ 50000) (hbs : base ≤ w.heap.size)
    (c2 : w.cell? ⟨fb, 2, none⟩ = some (.slice (some ⟨b, off, none⟩) n cap)) (p : Ints w b off n f) (hn : n ≤ 256) (hh : HeapAt w bo base v l) :
    Calls Try.prog 48 #[.int .i64 a, .int .i64 x, .pointer (some ⟨bo, 0, none⟩), .pointer (some ⟨fb, 0, none⟩)] w fun e w' =>
      e = .returned (.tuple #[]) ∧ ∃ v' l', l'.Perm (l ++ [((a : Int), max x (f a))]) ∧ Only (HeapSet bo v) w w' ∧ HeapAt w' bo base v' l' ∧ ∀ g', v'.ownBlock = some g' → v.ownBlock = some g' ∨ w.heap.size ≤ g' := by
  have ca := p.at_ a ha
  have lb := p.lt
  have lf := World.block_lt_of_cell? _ _ c2
  have HH := Lib.hid hh
  clear p hh
  generalize f a = y at *
  rcases Int.lt_or_le x y with hxy | hxy
  · rw [show max x y = y by omega]
    have hd : decide (x < y) = true := by simpa using hxy
    go_enter Try.func48, Try.ntmps48
    go_wp2_with (go_at_call 49; refine Calls.mono (push_any bo base v l _ _ w hl hbs HH.out) ?_; rintro e w1 ⟨rfl, v', l', r⟩; have R := Lib.hid r; clear r)
    go_end0
    exact ⟨rfl, v', l', R.out⟩
  · rw [show max x y = x by omega]
    go_enter Try.func48, Try.ntmps48
    go_wp2_with (go_at_call 49; refine Calls.mono (push_any bo base v l _ _ w hl hbs HH.out) ?_; rintro e w1 ⟨rfl, v', l', r⟩; have R := Lib.hid r; clear r)
    all_goals
      go_end0
      first
        | exact ⟨rfl, v', l', R.out⟩
        | (obtain rfl : x = y := by omega
           exact ⟨rfl, v', l', R.out⟩)
end Go.Proofs.Ytelfinjnbncnlaa
