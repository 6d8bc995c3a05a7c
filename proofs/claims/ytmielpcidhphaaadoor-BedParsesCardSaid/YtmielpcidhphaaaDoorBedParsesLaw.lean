/- The law BedParses: walked. -/
import Derived.Test.YtmielpcidhphaaaDoorRParse
import Derived.Test.YtmielpcidhphaaaDoorBedParse
import Derived.Test.YtmielpcidhphaaaDoorSame
import Derived.Test.YtmielpcidhphaaaDoorAwake
import Derived.Test.YtmielpcidhphaaaDoorBedRef
namespace Go.Proofs.YtmielpcidhphaaaDoor
open Go.RowKit

/-- What both readings give. -/
theorem both_read (x : List UInt8) (hx : x.length ≤ 1000000) : ∃ (W0 H0 : Nat) (L0 : List Int) (E0 : Int), L0.length ≤ 1000000 ∧
    (∀ w, GivesME 21 #[.string ⟨x.toArray⟩] w W0 H0 L0 E0) ∧ (∀ w, GivesME 23 #[.string ⟨x.toArray⟩] w W0 H0 L0 E0) := by
  by_cases h : okR x
  · have hp := parse_ok h
    refine ⟨_, hOf x, sqOf x, 0, by have := sqOf_le x; omega, fun w => bparse_any x w hx _ _ _ _ (fun W H sq e => ?_) (fun e => by rw [hp] at e; cases e), fun w => rparse_any x w hx _ _ _ _ (fun _ => ⟨rfl, rfl, rfl, rfl⟩) (fun e => absurd h e)⟩
    rw [hp] at e
    simp only [Option.some.injEq, Prod.mk.injEq] at e
    obtain ⟨rfl, rfl, rfl⟩ := e
    exact ⟨rfl, rfl, rfl, rfl⟩
  · exact ⟨0, 0, [], 3, by simp, fun w => bparse_any x w hx _ _ _ _ (fun W H sq e => absurd (parse_no e) h) (fun _ => ⟨rfl, rfl, rfl, rfl⟩), fun w => rparse_any x w hx _ _ _ _ (fun e => absurd e h) (fun _ => ⟨rfl, rfl, rfl, rfl⟩)⟩

set_option maxRecDepth 100000 in
set_option maxHeartbeats 3200000 in
theorem bedParses_any (s : ByteArray) (hs : s.size ≤ 9223372036854775807) (w : World) :
    Gives Tryd.prog 4 #[.string s] w (.bool true) := by
  obtain ⟨x, rfl⟩ : ∃ x : List UInt8, s = ⟨x.toArray⟩ := ⟨s.data.toList, by cases s; simp⟩
  replace hs : x.length ≤ 9223372036854775807 := by simpa [ByteArray.size] using hs
  have AW : Hid (∀ w, Gives Tryd.prog 16 #[] w (.bool true)) := awake_any
  by_cases hx : x.length ≤ 1500
  · obtain ⟨W0, H0, L0, E0, hl, p1, p2⟩ := both_read x (by omega)
    obtain ⟨n, hn⟩ : ∃ n, L0.length = n := ⟨_, rfl⟩
    have P1 := Lib.hid p1
    have P2 := Lib.hid p2
    have HN := Lib.hid hn
    have SM : Hid (∀ (w' : World) (A B : Option Addr) (c1 c2 : Nat), IsInts w' A n (fun i => L0.getD i 0) → IsInts w' B n (fun i => L0.getD i 0) → Gives Tryd.prog 22 #[.agg #[.int .i64 W0, .int .i64 H0, .slice A n c1], .agg #[.int .i64 W0, .int .i64 H0, .slice B n c2]] w' (.bool true)) := fun w' A B c1 c2 h1 h2 =>
      same_maps W0 H0 A B n c1 c2 _ _ w' (by omega) h1 h2 fun i hi => rfl
    rw [hn] at hl
    clear p1 p2 hn
    go_enter Tryd.func4, Tryd.ntmps4
    go_wp2_with (first
      | (go_at_call 21; refine Calls.mono (GivesME.calls (P1.out _)) ?_; rintro e w1 ⟨v, rfl, y1, rfl, ho1⟩; obtain ⟨A1, cap1, rfl⟩ := ho1.shape_n (n := n) HN.out; have hi1 := Lib.hid (ho1.ints (by rw [HN.out]; omega)).2; clear ho1)
      | (go_at_call 23; refine Calls.mono (GivesME.calls (P2.out _)) ?_; rintro e w1 ⟨v, rfl, y2, rfl, ho2⟩; obtain ⟨A2, cap2, rfl⟩ := ho2.shape_n (n := n) HN.out; have hi2 := Lib.hid (ho2.ints (by rw [HN.out]; omega)).2; clear ho2)
      | (go_at_call 22; (first | (with_reducible show Calls _ _ _ (Later.val _) _; with_reducible refine Calls.mono (Later.call _ (SM.out _ _ _ _ _ (hi1.out.later ⟨_, by repeat (first | exact Below.refl _ _ | (with_reducible assumption) | apply below_later | apply below_alloc | apply below_drew | apply below_drewN)⟩) (hi2.out.later ⟨_, by repeat (first | exact Below.refl _ _ | (with_reducible assumption) | apply below_later | apply below_alloc | apply below_drew | apply below_drewN)⟩))) ?_) | (with_reducible refine Calls.mono (Gives.calls (SM.out _ _ _ _ _ (hi1.out.later ⟨_, by repeat (first | exact Below.refl _ _ | (with_reducible assumption) | apply below_later | apply below_alloc | apply below_drew | apply below_drewN)⟩) (hi2.out.later ⟨_, by repeat (first | exact Below.refl _ _ | (with_reducible assumption) | apply below_later | apply below_alloc | apply below_drew | apply below_drewN)⟩))) ?_)); rintro e w1 ⟨rfl, y7, rfl⟩)
      | (go_at_call 16; (first | (with_reducible show Calls _ _ _ (Later.val _) _; with_reducible refine Calls.mono (Later.call _ (AW.out _)) ?_) | (with_reducible refine Calls.mono (Gives.calls (AW.out _)) ?_)); rintro e w1 ⟨rfl, y8, rfl⟩))
    go_ret
    exact ⟨rfl, later_of (by repeat (first | exact Below.refl _ _ | (with_reducible assumption) | apply below_later | apply below_alloc | apply below_drew | apply below_drewN))⟩
  · have h5 : (1500 : Int) < (x.length : Int) := by omega
    go_enter Tryd.func4, Tryd.ntmps4
    go_wp2_with (first | (go_at_call 16; (first | (with_reducible show Calls _ _ _ (Later.val _) _; with_reducible refine Calls.mono (Later.call _ (AW.out _)) ?_) | (with_reducible refine Calls.mono (Gives.calls (AW.out _)) ?_)); rintro e w1 ⟨rfl, y8, rfl⟩))
    go_ret
    exact ⟨rfl, later_of (by repeat (first | exact Below.refl _ _ | (with_reducible assumption) | apply below_later | apply below_alloc | apply below_drew | apply below_drewN))⟩
end Go.Proofs.YtmielpcidhphaaaDoor
