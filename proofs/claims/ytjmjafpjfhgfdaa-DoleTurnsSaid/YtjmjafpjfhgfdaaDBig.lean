/- The document's IsShare and why, of lists of every length. -/
import Derived.Test.YtjmjafpjfhgfdaaDRef
namespace Go.Proofs.Ytjmjafpjfhgfdaa
open Go.RowKit

set_option maxRecDepth 100000 in
set_option maxHeartbeats 1600000 in
theorem risShare_big (k cap m cS n : Nat) (A S : Option Addr) (R : Nat → Row) (c : Nat → Int) (w : World) (hm : m ≤ 9223372036854775807) (W : Vals k n R) (hp : IsTab w A k R) (hc : IsInts w S m c) :
    Gives Try.prog 33 #[.slice A k cap, .slice S m cS] w (.bool (shareB k n m c)) := by
  have HR : Hid (shareB k n m c = (decide (m = n) && allB m fun j => inS k (c j))) := rfl
  obtain ⟨b, off, rfl⟩ := hp.addr W.k1
  have HD := Lib.hid fun (V : World) (hb : Below w.heap.size w V) => tab_head0 (hp.below hb) W
  have hk1 := W.k1
  have HC := Lib.hid hc
  clear hp hc
  generalize shareB k n m c = r at *
  go_enter Try.func33, Try.ntmps33
  go_wp2
  go_loopw [5] (fun u wr => ∃ j : Nat, u = .int .i64 (j : Nat) ∧ j ≤ m ∧ (∀ i, i < j → inS k (c i) = true) ∧ ∃ x : Later w, wr = x.val) (fun u _ => m - (intOf u).toNat)
  case atStart => exact ⟨0, rfl, by omega, by omega, later_of (by repeat (first | exact Below.refl _ _ | (with_reducible assumption) | apply below_later | apply below_alloc | apply below_drew | apply below_drewN))⟩
  case round =>
    obtain ⟨j, rfl, hj, hall, x, rfl⟩ := hrel
    have HALL := Lib.hid hall
    clear hall
    by_cases hlt : j < m
    · obtain ⟨bb, oo, hB, q⟩ := (HC.out.later x).at_ (by omega)
      subst hB
      have cj := q.at_ j hlt
      have lq := q.lt
      have OT : Hid (inS k (c j) = true → ∀ i, i < j + 1 → inS k (c i) = true) := fun h => all_step (p := fun i => inS k (c i)) HALL.out h
      have OF : Hid (inS k (c j) = false → r = false) := fun h => by rw [HR.out, allB_false (p := fun j => inS k (c j)) hlt h]; simp
      have OV : Hid (inS k (c j) = decide (0 ≤ c j ∧ c j < (k : Int))) := rfl
      clear q
      generalize inS k (c j) = ov at *
      generalize c j = y at *
      by_cases h1 : y < 0
      · have HE := OF.out (by rw [OV.out, decide_eq_false (by omega)])
        have H2 := Lib.hid HE
        clear HE
        go_wp2
        go_ret
        exact ⟨ret_bool H2.out.symm, later_of (by repeat (first | exact Below.refl _ _ | (with_reducible assumption) | apply below_later | apply below_alloc | apply below_drew | apply below_drewN))⟩
      · by_cases h2 : (k : Int) ≤ y
        · have HE := OF.out (by rw [OV.out, decide_eq_false (by omega)])
          have H2 := Lib.hid HE
          clear HE
          go_wp2
          go_ret
          exact ⟨ret_bool H2.out.symm, later_of (by repeat (first | exact Below.refl _ _ | (with_reducible assumption) | apply below_later | apply below_alloc | apply below_drew | apply below_drewN))⟩
        · have HE := Lib.hid (OT.out (by rw [OV.out, decide_eq_true (by omega)]))
          go_wp2
          go_roundw
          case rel => exact ⟨j + 1, by go_num, by omega, HE.out, later_of (by repeat (first | exact Below.refl _ _ | (with_reducible assumption) | apply below_later | apply below_alloc | apply below_drew | apply below_drewN))⟩
          case measure => simp [intOf]; omega
    · obtain rfl : j = m := by omega
      have HT : Hid (r = decide (j = n)) := by show _ = _; rw [HR.out, allB_true (p := fun j => inS k (c j)) HALL.out]; simp
      obtain ⟨B, la, ca, _⟩ := HD.out x.val x.ok
      go_wp2
      go_ret
      exact ⟨ret_bool (by rw [HT.out]; first | rfl | (by_cases e : j = n <;> simp [e] <;> omega) | (simp; omega)), later_of (by repeat (first | exact Below.refl _ _ | (with_reducible assumption) | apply below_later | apply below_alloc | apply below_drew | apply below_drewN))⟩
set_option maxRecDepth 100000 in
theorem why_big (k cap m cS : Nat) (A S : Option Addr) (R : Nat → Row) (c : Nat → Int) (w : World) (hl : ∀ i, i < k → (R i).n ≤ 1000) (hm : m ≤ 9223372036854775807) (hp : IsTab w A k R) (hc : IsInts w S m c) :
    Gives Try.prog 19 #[.slice A k cap, .slice S m cS] w (.int .i64 (errE k R m c)) := by
  have HE : Hid (errE k R m c = if tabB k R = false then 70 else if shareB k (R 0).n m c = false then 71 else 0) := rfl
  cases hv : tabB k R
  · have VA : Hid (∀ V, Below w.heap.size w V → Gives Try.prog 21 #[.slice A k cap] V (.bool false)) := fun V h => hv ▸ rvalid_any k cap A R V hl (hp.below h)
    have HD : Hid (errE k R m c = 70) := by show _ = _; rw [HE.out, if_pos hv]
    clear hp hc hv HE hl
    go_enter Try.func19, Try.ntmps19
    go_wp2_with (go_at_call 21; with_reducible refine Calls.mono (Gives.calls (VA.out _ (by repeat (first | exact Below.refl _ _ | (with_reducible assumption) | apply below_later | apply below_alloc | apply below_drew | apply below_drewN)))) ?_; rintro e w1 ⟨rfl, z, rfl⟩)
    go_ret
    exact ⟨ret_int HD.out.symm, later_of (by repeat (first | exact Below.refl _ _ | (with_reducible assumption) | apply below_later | apply below_alloc | apply below_drew | apply below_drewN))⟩
  · have VA : Hid (∀ V, Below w.heap.size w V → Gives Try.prog 21 #[.slice A k cap] V (.bool true)) := fun V h => hv ▸ rvalid_any k cap A R V hl (hp.below h)
    have IS := Lib.hid fun (V : World) (h : Below w.heap.size w V) => risShare_big k cap m cS _ A S R c V hm (tabB_iff.1 hv) (hp.below h) (hc.below h)
    rw [hv, if_neg (by simp)] at HE
    clear hp hc hv hl
    generalize shareB k (R 0).n m c = r at *
    cases r
    all_goals
      go_enter Try.func19, Try.ntmps19
      go_wp2_with (first | (go_at_call 21; with_reducible refine Calls.mono (Gives.calls (VA.out _ (by repeat (first | exact Below.refl _ _ | (with_reducible assumption) | apply below_later | apply below_alloc | apply below_drew | apply below_drewN)))) ?_; rintro e w1 ⟨rfl, z, rfl⟩) | (go_at_call 33; with_reducible refine Calls.mono (Gives.calls (IS.out _ (by repeat (first | exact Below.refl _ _ | (with_reducible assumption) | apply below_later | apply below_alloc | apply below_drew | apply below_drewN)))) ?_; rintro e w1 ⟨rfl, z2, rfl⟩))
      go_ret
      exact ⟨ret_int (by rw [HE.out]; rfl), later_of (by repeat (first | exact Below.refl _ _ | (with_reducible assumption) | apply below_later | apply below_alloc | apply below_drew | apply below_drewN))⟩
end Go.Proofs.Ytjmjafpjfhgfdaa
