/- dole's worth and worths; the document's worth and Worths: walked. -/
import Derived.Test.YtjmjafpjfhgfdaaDValid
namespace Go.Proofs.Ytjmjafpjfhgfdaa
open Go.RowKit

set_option maxRecDepth 100000 in
set_option maxHeartbeats 1600000 in
theorem worth_any (k cap n m cS i : Nat) (o : Int) (A S : Option Addr) (R : Nat → Row) (c : Nat → Int) (w : World) (hi : i < k) (hmn : m ≤ n) (W : Vals k n R) (hp : IsTab w A k R) (hc : IsInts w S m c) :
    Gives Try.prog 72 #[.agg #[.slice A k cap, .slice S m cS], .int .i64 o, .int .i64 i] w (.int .i64 (wth (R i).f c o m)) := by
  have hn12 := W.n12
  have hl := W.len i hi
  have hb : Below w.heap.size w (w.alloc (.cells #[.slice A k cap, .slice S m cS] 62)) := (Below.refl _ _).alloc (Nat.le_refl _) _
  obtain ⟨c0, c1, l0⟩ := box2 w (.slice A k cap) (.slice S m cS) 62
  have HP := Lib.hid (hp.below hb)
  have HC := Lib.hid (hc.below hb)
  have HB := Lib.hid hb
  have HV := Lib.hid (W.val i hi)
  have WS := Lib.hid (wth_succ (R i).f c o)
  have WB := Lib.hid fun (j : Nat) (h : j ≤ n) => wth_bd (f := (R i).f) (c := c) (o := o) (m := j) fun q hq => W.val i hi q (by omega)
  have W0 : Hid (wth (R i).f c o 0 = 0) := rfl
  generalize wth (R i).f c o = T at *
  clear hp hc hb W
  go_enter Try.func72, Try.ntmps72
  go_wp2
  obtain ⟨b8, hb8⟩ : ∃ b8, w.heap.size = b8 := ⟨_, rfl⟩
  rw [hb8] at c0 c1 l0 ⊢
  clear hb8
  generalize w.alloc (.cells #[.slice A k cap, .slice S m cS] 62) = Z at *
  go_loopw [7, 13] (fun u v wr => ∃ j : Nat, u = .int .i64 (T j) ∧ v = .int .i64 (j : Nat) ∧ j ≤ m ∧ ∃ x : Later Z, wr = x.val) (fun _ v _ => m - (intOf v).toNat)
  case atStart => exact ⟨0, by rw [W0.out], rfl, by omega, later_of (by repeat (first | exact Below.refl _ _ | (with_reducible assumption) | apply below_later | apply below_alloc | apply below_drew | apply below_drewN))⟩
  case round =>
    obtain ⟨j, rfl, rfl, hj, x, rfl⟩ := hrel
    by_cases hlt : j < m
    · obtain ⟨bb, oo, hB, q⟩ := (HC.out.later x).at_ (by omega)
      subst hB
      have cj := q.at_ j hlt
      have lq := q.lt
      have d0 := (x.cell _ _ l0).trans c0
      have d1 := (x.cell _ _ l0).trans c1
      have l1 := x.lt _ l0
      obtain ⟨ba, oa, hA, la, p⟩ := (HP.out.later x).at_ (by omega)
      have ca := p i hi
      unfold Row.val at ca
      obtain ⟨br, or', hR, pr⟩ := ((HP.out.later x).row i hi).1.at_ (by omega)
      have cr := pr.at_ j (by omega)
      have lr := pr.lt
      rw [hR] at ca
      have HA := Lib.hid hA
      rw [hA] at d0
      obtain ⟨b0, b1⟩ := WB.out j (by omega)
      obtain ⟨b2, b3⟩ := HV.out j (by omega)
      have WS1 := Lib.hid (WS.out j)
      clear p q pr hA hR
      generalize (R i).f j = y at *
      generalize T j = s at *
      have hlr : (R i).n = n := hl
      generalize R i = ri at *
      by_cases e : c j = o
      · have e1 : ((c j : Int) == o) = true := by rw [e]; simp
        have HW : Hid (T (j + 1) = s + y) := by show _ = _; rw [WS1.out, if_pos e]
        have hjr : j < ri.n := by omega
        clear e hl hlr
        go_wp2
        go_roundw
        case rel => exact ⟨j + 1, by rw [HW.out], by go_num, by omega, later_of (by repeat (first | exact Below.refl _ _ | (with_reducible assumption) | apply below_later | apply below_alloc | apply below_drew | apply below_drewN))⟩
        case measure => simp [intOf]; omega
      · have e1 : ((c j : Int) == o) = false := by simp [e]
        have HW : Hid (T (j + 1) = s) := by show _ = _; rw [WS1.out, if_neg e]
        clear e hl hlr
        go_wp2
        go_roundw
        case rel => exact ⟨j + 1, by rw [HW.out], by go_num, by omega, later_of (by repeat (first | exact Below.refl _ _ | (with_reducible assumption) | apply below_later | apply below_alloc | apply below_drew | apply below_drewN))⟩
        case measure => simp [intOf]; omega
    · obtain rfl : j = m := by omega
      go_wp2
      go_ret
      exact ⟨rfl, later_of (below_more HB.out x.ok)⟩
set_option maxRecDepth 100000 in
set_option maxHeartbeats 1600000 in
theorem rworth_any (n m cS cR : Nat) (o : Int) (B S : Option Addr) (f : Nat → Int) (c : Nat → Int) (w : World) (hmn : m ≤ n) (hn12 : n ≤ 12) (hv : ∀ j, j < n → 0 ≤ f j ∧ f j ≤ 1000) (hp : IsInts w B n f) (hc : IsInts w S m c) :
    Gives Try.prog 56 #[.slice B n cR, .slice S m cS, .int .i64 o] w (.int .i64 (wth f c o m)) := by
  have HP := Lib.hid hp
  have HC := Lib.hid hc
  have HV := Lib.hid hv
  have WS := Lib.hid (wth_succ f c o)
  have WB := Lib.hid fun (j : Nat) (h : j ≤ n) => wth_bd (f := f) (c := c) (o := o) (m := j) fun q hq => hv q (by omega)
  have W0 : Hid (wth f c o 0 = 0) := rfl
  generalize wth f c o = T at *
  clear hp hc hv
  go_enter Try.func56, Try.ntmps56
  go_wp2
  go_loopw [7, 8] (fun u v wr => ∃ j : Nat, u = .int .i64 (T j) ∧ v = .int .i64 (j : Nat) ∧ j ≤ m ∧ ∃ x : Later w, wr = x.val) (fun _ v _ => m - (intOf v).toNat)
  case atStart => exact ⟨0, by rw [W0.out], rfl, by omega, later_of (by repeat (first | exact Below.refl _ _ | (with_reducible assumption) | apply below_later | apply below_alloc | apply below_drew | apply below_drewN))⟩
  case round =>
    obtain ⟨j, rfl, rfl, hj, x, rfl⟩ := hrel
    by_cases hlt : j < m
    · obtain ⟨bb, oo, hB, q⟩ := (HC.out.later x).at_ (by omega)
      subst hB
      have cj := q.at_ j hlt
      have lq := q.lt
      obtain ⟨br, or', hR, pr⟩ := (HP.out.later x).at_ (by omega)
      subst hR
      have cr := pr.at_ j (by omega)
      have lr := pr.lt
      obtain ⟨b0, b1⟩ := WB.out j (by omega)
      obtain ⟨b2, b3⟩ := HV.out j (by omega)
      have WS1 := Lib.hid (WS.out j)
      clear q pr
      generalize f j = y at *
      generalize T j = s at *
      by_cases e : c j = o
      · have e1 : ((c j : Int) == o) = true := by rw [e]; simp
        have HW : Hid (T (j + 1) = s + y) := by show _ = _; rw [WS1.out, if_pos e]
        have hjr : j < n := by omega
        clear e
        go_wp2
        go_roundw
        case rel => exact ⟨j + 1, by rw [HW.out], by go_num, by omega, later_of (by repeat (first | exact Below.refl _ _ | (with_reducible assumption) | apply below_later | apply below_alloc | apply below_drew | apply below_drewN))⟩
        case measure => simp [intOf]; omega
      · have e1 : ((c j : Int) == o) = false := by simp [e]
        have HW : Hid (T (j + 1) = s) := by show _ = _; rw [WS1.out, if_neg e]
        clear e
        go_wp2
        go_roundw
        case rel => exact ⟨j + 1, by rw [HW.out], by go_num, by omega, later_of (by repeat (first | exact Below.refl _ _ | (with_reducible assumption) | apply below_later | apply below_alloc | apply below_drew | apply below_drewN))⟩
        case measure => simp [intOf]; omega
    · obtain rfl : j = m := by omega
      go_wp2
      go_ret
      exact ⟨rfl, later_of (by repeat (first | exact Below.refl _ _ | (with_reducible assumption) | apply below_later | apply below_alloc | apply below_drew | apply below_drewN))⟩
end Go.Proofs.Ytjmjafpjfhgfdaa
