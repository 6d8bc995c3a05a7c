/- WaderApart, walked. -/
import Derived.Test.YtbflpidjcflndaaKRApart
namespace Go.Proofs.Ytbflpidjcflndaa
open Go.RowKit

set_option maxRecDepth 100000 in
theorem AreApart_ok (A O : Option Addr) (n cap m c1 : Nat) (s : Int) (X Y T : Nat → Int) (c : Nat → Int) (V : World) (W : Watch n s X Y T) (hm : m ≤ 1000) (hcap : m ≤ c1) (hp : IsChs V A n X Y T) (hc : IsInts V O m c) :
    Gives Try.prog 28 #[.slice A n cap, .int .i64 s, .slice O m c1] V (.tuple #[.bool (apartB (leadsR s X Y T) n c m), .int .i64 0]) := by
  have VA : Hid (∀ U, Below V.heap.size V U → Gives Try.prog 17 #[.slice A n cap, .int .i64 s] U (.bool true)) := fun U h => watch_iff.2 W ▸ kvalid_any s A n cap X Y T U fun _ => hp.below h
  have AA : Hid (∀ U, Below V.heap.size V U → Gives Try.prog 66 #[.agg #[.slice A n cap, .int .i64 s], .slice O m c1] U (.bool (apartB (leadsR s X Y T) n c m))) := fun U h => areApart_any n cap m c1 s A O X Y T c U hm W (hp.below h) (hc.below h) hcap
  generalize apartB (leadsR s X Y T) n c m = r at *
  clear hp hc W
  go_enter Try.func28, Try.ntmps28
  go_wp2_with (first | (go_at_call 17; with_reducible refine Calls.mono (Gives.calls (VA.out _ (by repeat (first | exact Below.refl _ _ | (with_reducible assumption) | apply below_later | apply below_alloc | apply below_drew | apply below_drewN)))) ?_; rintro e w1 ⟨rfl, z, rfl⟩) | (go_at_call 66; with_reducible refine Calls.mono (Gives.calls (AA.out _ (by repeat (first | exact Below.refl _ _ | (with_reducible assumption) | apply below_later | apply below_alloc | apply below_drew | apply below_drewN)))) ?_; rintro e w1 ⟨rfl, z2, rfl⟩))
  go_ret2
  exact ⟨rfl, later_of (by repeat (first | exact Below.refl _ _ | (with_reducible assumption) | apply below_later | apply below_alloc | apply below_drew | apply below_drewN))⟩
set_option maxRecDepth 100000 in
theorem RAreApart_ok (A O : Option Addr) (n cap m c1 : Nat) (s : Int) (X Y T : Nat → Int) (c : Nat → Int) (V : World) (W : Watch n s X Y T) (hm : m ≤ 1000) (hp : IsChs V A n X Y T) (hc : IsInts V O m c) :
    Gives Try.prog 27 #[.slice A n cap, .int .i64 s, .slice O m c1] V (.tuple #[.bool (apartB (leadsR s X Y T) n c m), .int .i64 0]) := by
  have hn := W.n30
  have VA : Hid (∀ U, Below V.heap.size V U → Gives Try.prog 18 #[.slice A n cap, .int .i64 s] U (.bool true)) := fun U h => watch_iff.2 W ▸ krvalid_any s A n cap X Y T U (by omega) (hp.below h)
  have AA : Hid (∀ U, Below V.heap.size V U → Gives Try.prog 65 #[.slice A n cap, .int .i64 s, .slice O m c1] U (.bool (apartB (leadsR s X Y T) n c m))) := fun U h => rareApart_any n cap m c1 s A O X Y T c U hm W (hp.below h) (hc.below h)
  generalize apartB (leadsR s X Y T) n c m = r at *
  clear hp hc W
  go_enter Try.func27, Try.ntmps27
  go_wp2_with (first | (go_at_call 18; with_reducible refine Calls.mono (Gives.calls (VA.out _ (by repeat (first | exact Below.refl _ _ | (with_reducible assumption) | apply below_later | apply below_alloc | apply below_drew | apply below_drewN)))) ?_; rintro e w1 ⟨rfl, z, rfl⟩) | (go_at_call 65; with_reducible refine Calls.mono (Gives.calls (AA.out _ (by repeat (first | exact Below.refl _ _ | (with_reducible assumption) | apply below_later | apply below_alloc | apply below_drew | apply below_drewN)))) ?_; rintro e w1 ⟨rfl, z2, rfl⟩))
  go_ret2
  exact ⟨rfl, later_of (by repeat (first | exact Below.refl _ _ | (with_reducible assumption) | apply below_later | apply below_alloc | apply below_drew | apply below_drewN))⟩
theorem AreApart_bad (A O : Option Addr) (n cap m c1 : Nat) (s : Int) (X Y T : Nat → Int) (V : World) (hv : validW n s X Y T = false) (hp : n ≤ 30 → IsChs V A n X Y T) :
    Gives Try.prog 28 #[.slice A n cap, .int .i64 s, .slice O m c1] V (.tuple #[.bool false, .int .i64 60]) := by
  have VA : Hid (∀ U, Below V.heap.size V U → Gives Try.prog 17 #[.slice A n cap, .int .i64 s] U (.bool false)) := fun U h => hv ▸ kvalid_any s A n cap X Y T U fun h2 => (hp h2).below h
  clear hp hv
  go_enter Try.func28, Try.ntmps28
  go_wp2_with (go_at_call 17; with_reducible refine Calls.mono (Gives.calls (VA.out _ (by repeat (first | exact Below.refl _ _ | (with_reducible assumption) | apply below_later | apply below_alloc | apply below_drew | apply below_drewN)))) ?_; rintro e w1 ⟨rfl, z, rfl⟩)
  go_ret2
  exact ⟨rfl, later_of (by repeat (first | exact Below.refl _ _ | (with_reducible assumption) | apply below_later | apply below_alloc | apply below_drew | apply below_drewN))⟩
theorem RAreApart_bad (A O : Option Addr) (n cap m c1 : Nat) (s : Int) (X Y T : Nat → Int) (V : World) (hn : n ≤ 1000) (hv : validW n s X Y T = false) (hp : IsChs V A n X Y T) :
    Gives Try.prog 27 #[.slice A n cap, .int .i64 s, .slice O m c1] V (.tuple #[.bool false, .int .i64 60]) := by
  have VA : Hid (∀ U, Below V.heap.size V U → Gives Try.prog 18 #[.slice A n cap, .int .i64 s] U (.bool false)) := fun U h => hv ▸ krvalid_any s A n cap X Y T U hn (hp.below h)
  clear hp hv
  go_enter Try.func27, Try.ntmps27
  go_wp2_with (go_at_call 18; with_reducible refine Calls.mono (Gives.calls (VA.out _ (by repeat (first | exact Below.refl _ _ | (with_reducible assumption) | apply below_later | apply below_alloc | apply below_drew | apply below_drewN)))) ?_; rintro e w1 ⟨rfl, z, rfl⟩)
  go_ret2
  exact ⟨rfl, later_of (by repeat (first | exact Below.refl _ _ | (with_reducible assumption) | apply below_later | apply below_alloc | apply below_drew | apply below_drewN))⟩
set_option maxRecDepth 100000 in
set_option maxHeartbeats 3200000 in
theorem apart_law (A O : Option Addr) (n cap m c1 : Nat) (s : Int) (X Y T : Nat → Int) (c : Nat → Int) (w : World) (hcap : m ≤ c1) (hp : n ≤ 60 → IsChs w A n X Y T) (hc : m ≤ 9223372036854775807 → IsInts w O m c) :
    Gives Try.prog 6 #[.slice A n cap, .int .i64 s, .slice O m c1] w (.bool true) := by
  have AW := Lib.hid awake_law
  have MN := Lib.hid fun V => Many_nil A n cap V
  by_cases h : 40 < n
  · rw [decide_eq_true h] at MN
    clear hp hc
    go_enter Try.func6, Try.ntmps6
    go_wp2_with (first | (go_at_call 13; with_reducible refine Calls.mono (Gives.calls (MN.out _)) ?_; rintro e w1 ⟨rfl, z, rfl⟩) | (go_at_call 14; with_reducible refine Calls.mono (Gives.calls (AW.out _)) ?_; rintro e w1 ⟨rfl, z2, rfl⟩))
    go_ret
    exact ⟨rfl, later_of (by repeat (first | exact Below.refl _ _ | (with_reducible assumption) | apply below_later | apply below_alloc | apply below_drew | apply below_drewN))⟩
  rw [decide_eq_false h] at MN
  by_cases hm : 50 < m
  · clear hp hc
    have hd : (m : Int) > 50 := by omega
    go_enter Try.func6, Try.ntmps6
    go_wp2_with (first | (go_at_call 13; with_reducible refine Calls.mono (Gives.calls (MN.out _)) ?_; rintro e w1 ⟨rfl, z, rfl⟩) | (go_at_call 14; with_reducible refine Calls.mono (Gives.calls (AW.out _)) ?_; rintro e w1 ⟨rfl, z2, rfl⟩))
    go_ret
    exact ⟨rfl, later_of (by repeat (first | exact Below.refl _ _ | (with_reducible assumption) | apply below_later | apply below_alloc | apply below_drew | apply below_drewN))⟩
  · have hd : ¬ ((m : Int) > 50) := by omega
    have hp' := hp (by omega)
    have hc' := hc (by omega)
    obtain ⟨b, E, P1, P2⟩ : ∃ (b : Bool) (E : Int), Hid (∀ V, Below w.heap.size w V → Gives Try.prog 28 #[.slice A n cap, .int .i64 s, .slice O m c1] V (.tuple #[.bool b, .int .i64 E])) ∧ Hid (∀ V, Below w.heap.size w V → Gives Try.prog 27 #[.slice A n cap, .int .i64 s, .slice O m c1] V (.tuple #[.bool b, .int .i64 E])) := by
      cases hv : validW n s X Y T
      · exact ⟨_, _, fun V hV => AreApart_bad A O n cap m c1 s X Y T V hv fun _ => hp'.below hV, fun V hV => RAreApart_bad A O n cap m c1 s X Y T V (by omega) hv (hp'.below hV)⟩
      · exact ⟨_, _, fun V hV => AreApart_ok A O n cap m c1 s X Y T c V (watch_iff.1 hv) (by omega) hcap (hp'.below hV) (hc'.below hV), fun V hV => RAreApart_ok A O n cap m c1 s X Y T c V (watch_iff.1 hv) (by omega) (hp'.below hV) (hc'.below hV)⟩
    clear hp hc hp' hc'
    go_enter Try.func6, Try.ntmps6
    go_wp2_with (first
      | (go_at_call 13; with_reducible refine Calls.mono (Gives.calls (MN.out _)) ?_; rintro e w1 ⟨rfl, z, rfl⟩)
      | (go_at_call 28; with_reducible refine Calls.mono (Gives.calls (P1.out _ (by repeat (first | exact Below.refl _ _ | (with_reducible assumption) | apply below_later | apply below_alloc | apply below_drew | apply below_drewN)))) ?_; rintro e w1 ⟨rfl, z2, rfl⟩)
      | (go_at_call 27; with_reducible refine Calls.mono (Gives.calls (P2.out _ (by repeat (first | exact Below.refl _ _ | (with_reducible assumption) | apply below_later | apply below_alloc | apply below_drew | apply below_drewN)))) ?_; rintro e w1 ⟨rfl, z3, rfl⟩)
      | (go_at_call 14; with_reducible refine Calls.mono (Gives.calls (AW.out _)) ?_; rintro e w1 ⟨rfl, z4, rfl⟩))
    go_ret
    exact ⟨rfl, later_of (by repeat (first | exact Below.refl _ _ | (with_reducible assumption) | apply below_later | apply below_alloc | apply below_drew | apply below_drewN))⟩
end Go.Proofs.Ytbflpidjcflndaa
