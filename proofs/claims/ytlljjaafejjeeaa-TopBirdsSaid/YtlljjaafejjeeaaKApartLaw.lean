/- WaderApart, walked. -/
import Derived.Test.YtlljjaafejjeeaaKRApart
namespace Go.Proofs.Ytlljjaafejjeeaa
open Go.RowKit

set_option maxRecDepth 100000 in
theorem AreApart_ok (A O : Option Addr) (n cap m c1 : Nat) (s : Int) (X Y T : Nat → Int) (c : Nat → Int) (V : World) (W : Watch n s X Y T) (hm : m ≤ 1000) (hcap : m ≤ c1) (hp : IsChs V A n X Y T) (hc : IsInts V O m c) :
    Gives Try.prog 13 #[.slice A n cap, .int .i64 s, .slice O m c1] V (.tuple #[.bool (apartB (leadsR s X Y T) n c m), .int .i64 0]) := by
  have VA : Hid (∀ U, Below V.heap.size V U → Gives Try.prog 21 #[.slice A n cap, .int .i64 s] U (.bool true)) := fun U h => watch_iff.2 W ▸ kvalid_any s A n cap X Y T U fun _ => hp.below h
  have AA : Hid (∀ U, Below V.heap.size V U → Gives Try.prog 31 #[.agg #[.slice A n cap, .int .i64 s], .slice O m c1] U (.bool (apartB (leadsR s X Y T) n c m))) := fun U h => areApart_any n cap m c1 s A O X Y T c U hm W (hp.below h) (hc.below h) hcap
  generalize apartB (leadsR s X Y T) n c m = r at *
  clear hp hc W
  go_enter Try.func13, Try.ntmps13
  go_wp2_with (first | (go_at_call 21; with_reducible refine Calls.mono (Gives.calls (VA.out _ (by repeat (first | exact Below.refl _ _ | (with_reducible assumption) | apply below_later | apply below_alloc | apply below_drew | apply below_drewN)))) ?_; rintro e w1 ⟨rfl, z, rfl⟩) | (go_at_call 31; with_reducible refine Calls.mono (Gives.calls (AA.out _ (by repeat (first | exact Below.refl _ _ | (with_reducible assumption) | apply below_later | apply below_alloc | apply below_drew | apply below_drewN)))) ?_; rintro e w1 ⟨rfl, z2, rfl⟩))
  go_ret2
  exact ⟨rfl, later_of (by repeat (first | exact Below.refl _ _ | (with_reducible assumption) | apply below_later | apply below_alloc | apply below_drew | apply below_drewN))⟩
theorem AreApart_bad (A O : Option Addr) (n cap m c1 : Nat) (s : Int) (X Y T : Nat → Int) (V : World) (hv : validW n s X Y T = false) (hp : n ≤ 30 → IsChs V A n X Y T) :
    Gives Try.prog 13 #[.slice A n cap, .int .i64 s, .slice O m c1] V (.tuple #[.bool false, .int .i64 60]) := by
  have VA : Hid (∀ U, Below V.heap.size V U → Gives Try.prog 21 #[.slice A n cap, .int .i64 s] U (.bool false)) := fun U h => hv ▸ kvalid_any s A n cap X Y T U fun h2 => (hp h2).below h
  clear hp hv
  go_enter Try.func13, Try.ntmps13
  go_wp2_with (go_at_call 21; with_reducible refine Calls.mono (Gives.calls (VA.out _ (by repeat (first | exact Below.refl _ _ | (with_reducible assumption) | apply below_later | apply below_alloc | apply below_drew | apply below_drewN)))) ?_; rintro e w1 ⟨rfl, z, rfl⟩)
  go_ret2
  exact ⟨rfl, later_of (by repeat (first | exact Below.refl _ _ | (with_reducible assumption) | apply below_later | apply below_alloc | apply below_drew | apply below_drewN))⟩
end Go.Proofs.Ytlljjaafejjeeaa
