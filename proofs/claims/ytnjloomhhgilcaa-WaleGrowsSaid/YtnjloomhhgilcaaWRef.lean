/- The document's Valid, IsPlan, Worth of layer 5; the program's IsPlan and Worth. -/
import Derived.Test.YtnjloomhhgilcaaWExample
namespace Go.Proofs.Ytnjloomhhgilcaa
open Go.RowKit

theorem within_any (n lo hi : Int) (w : World) : Gives Try.prog 40 #[.int .i64 n, .int .i64 lo, .int .i64 hi] w (.bool (decide (lo ≤ n) && decide (n ≤ hi))) := by
  by_cases h1 : lo ≤ n <;> by_cases h2 : n ≤ hi
  all_goals
    go_enter Try.func40, Try.ntmps40
    go_wp2
    go_ret
    exact ⟨ret_bool (by simp [h1, h2]), later_of (by repeat (first | exact Below.refl _ _ | (with_reducible assumption) | apply below_later | apply below_alloc | apply below_drew | apply below_drewN))⟩
set_option maxRecDepth 100000 in
set_option maxHeartbeats 3200000 in
theorem rvalid_any (n : Int) (A : Option Addr) (m cap : Nat) (F T V : Nat → Int) (w : World) (hm : m ≤ 1000) (hp : IsChs w A m F T V) :
    Gives Try.prog 12 #[.int .i64 n, .slice A m cap] w (.bool (validR n m F T V)) := by
  have WI : Hid (∀ (a lo hi : Int) (w : World), Gives Try.prog 40 #[.int .i64 a, .int .i64 lo, .int .i64 hi] w (.bool (decide (lo ≤ a) && decide (a ≤ hi)))) := within_any
  have HR : Hid (validR n m F T V = ((decide (1 ≤ n) && decide (n ≤ 8)) && (decide (m ≤ 40) && allB m fun i => okC n (F i) (T i) (V i)))) := rfl
  have HP := Lib.hid hp
  clear hp
  generalize validR n m F T V = r at *
  cases h1 : (decide (1 ≤ n) && decide (n ≤ 8))
  · have D : Hid (r = false) := by show _ = _; rw [HR.out, h1]; rfl
    have W1 : Hid (∀ w, Gives Try.prog 40 #[.int .i64 n, .int .i64 1, .int .i64 8] w (.bool false)) := fun w => h1 ▸ WI.out n 1 8 w
    clear h1
    go_enter Try.func12, Try.ntmps12
    go_wp2_with (go_at_call 40; with_reducible refine Calls.mono (Gives.calls (W1.out _)) ?_; rintro e w1 ⟨rfl, z, rfl⟩)
    go_ret
    exact ⟨ret_bool D.out.symm, later_of (by repeat (first | exact Below.refl _ _ | (with_reducible assumption) | apply below_later | apply below_alloc | apply below_drew | apply below_drewN))⟩
  · have W1 : Hid (∀ w, Gives Try.prog 40 #[.int .i64 n, .int .i64 1, .int .i64 8] w (.bool true)) := fun w => h1 ▸ WI.out n 1 8 w
    by_cases h3 : m ≤ 40
    · have D : Hid (r = allB m fun i => okC n (F i) (T i) (V i)) := by show _ = _; rw [HR.out, h1]; simp [h3]
      have hn1 : 1 ≤ n := by simp at h1; omega
      have hn8 : n ≤ 8 := by simp at h1; omega
      clear h1 HR
      go_enter Try.func12, Try.ntmps12
      go_wp2_with (go_at_call 40; with_reducible refine Calls.mono (Gives.calls (W1.out _)) ?_; rintro e w1 ⟨rfl, z, rfl⟩)
      have HBZ : Hid (Below w.heap.size w z.val) := z.ok
      have HPZ := Lib.hid (HP.out.later z)
      generalize z.val = Z at *
      go_loopw [5] (fun v wr => ∃ k : Nat, k ≤ m ∧ v = .int .i64 (k : Nat) ∧ (∀ i, i < k → okC n (F i) (T i) (V i) = true) ∧ ∃ x : Later Z, wr = x.val) (fun v _ => m - (intOf v).toNat)
      case atStart => exact ⟨0, by omega, rfl, fun i hi => absurd hi (by omega), later_of (by repeat (first | exact Below.refl _ _ | (with_reducible assumption) | apply below_later | apply below_alloc | apply below_drew | apply below_drewN))⟩
      case round =>
        obtain ⟨k, hk, rfl, hall, x, rfl⟩ := hrel
        have HALL := Lib.hid hall
        clear hall
        by_cases hlt : k < m
        · obtain ⟨ba, oa, hA, p⟩ := (HPZ.out.later x).at_ (by omega)
          subst hA
          have cf := p.f k hlt
          have ct := p.t k hlt
          have cv := p.v k hlt
          have lp := p.lt
          clear p
          have hOK : Hid (okC n (F k) (T k) (V k) = (((decide (0 ≤ F k) && decide (F k ≤ n - 1)) && (decide (0 ≤ T k) && decide (T k ≤ n - 1))) && (decide (-1000 ≤ V k) && decide (V k ≤ 1000)))) := by
            show _ = _
            unfold okC inS
            rw [Bool.eq_iff_iff]
            simp only [Bool.and_eq_true, decide_eq_true_eq]
            omega
          have W2 := WI.out (F k) 0 (n - 1)
          have W3 := WI.out (T k) 0 (n - 1)
          have W4 := WI.out (V k) (-1000) 1000
          generalize (decide (0 ≤ F k) && decide (F k ≤ n - 1)) = q1 at *
          generalize (decide (0 ≤ T k) && decide (T k ≤ n - 1)) = q2 at *
          generalize (decide (-1000 ≤ V k) && decide (V k ≤ 1000)) = q3 at *
          have W2' := Lib.hid W2
          have W3' := Lib.hid W3
          have W4' := Lib.hid W4
          clear W2 W3 W4
          cases q1
          · have HF := Lib.hid (allB_false (p := fun i => okC n (F i) (T i) (V i)) hlt (by rw [hOK.out]; rfl))
            go_wp2_with (go_at_call 40; with_reducible refine Calls.mono (Gives.calls (W2'.out _)) ?_; rintro e w1 ⟨rfl, z2, rfl⟩)
            go_ret
            exact ⟨ret_bool (by rw [D.out, HF.out]), ⟨_, below_more HBZ.out (by repeat (first | exact Below.refl _ _ | (with_reducible assumption) | apply below_later | apply below_alloc | apply below_drew | apply below_drewN))⟩, rfl⟩
          · cases q2
            · have HF := Lib.hid (allB_false (p := fun i => okC n (F i) (T i) (V i)) hlt (by rw [hOK.out]; rfl))
              go_wp2_with (first | (go_at_call 40; with_reducible refine Calls.mono (Gives.calls (W2'.out _)) ?_; rintro e w1 ⟨rfl, z2, rfl⟩) | (go_at_call 40; with_reducible refine Calls.mono (Gives.calls (W3'.out _)) ?_; rintro e w1 ⟨rfl, z3, rfl⟩))
              go_ret
              exact ⟨ret_bool (by rw [D.out, HF.out]), ⟨_, below_more HBZ.out (by repeat (first | exact Below.refl _ _ | (with_reducible assumption) | apply below_later | apply below_alloc | apply below_drew | apply below_drewN))⟩, rfl⟩
            · cases q3
              · have HF := Lib.hid (allB_false (p := fun i => okC n (F i) (T i) (V i)) hlt (by rw [hOK.out]; rfl))
                go_wp2_with (first | (go_at_call 40; with_reducible refine Calls.mono (Gives.calls (W2'.out _)) ?_; rintro e w1 ⟨rfl, z2, rfl⟩) | (go_at_call 40; with_reducible refine Calls.mono (Gives.calls (W3'.out _)) ?_; rintro e w1 ⟨rfl, z3, rfl⟩) | (go_at_call 40; with_reducible refine Calls.mono (Gives.calls (W4'.out _)) ?_; rintro e w1 ⟨rfl, z4, rfl⟩))
                go_ret
                exact ⟨ret_bool (by rw [D.out, HF.out]), ⟨_, below_more HBZ.out (by repeat (first | exact Below.refl _ _ | (with_reducible assumption) | apply below_later | apply below_alloc | apply below_drew | apply below_drewN))⟩, rfl⟩
              · have HN := Lib.hid (all_step (p := fun i => okC n (F i) (T i) (V i)) HALL.out (by rw [hOK.out]; rfl))
                go_wp2_with (first | (go_at_call 40; with_reducible refine Calls.mono (Gives.calls (W2'.out _)) ?_; rintro e w1 ⟨rfl, z2, rfl⟩) | (go_at_call 40; with_reducible refine Calls.mono (Gives.calls (W3'.out _)) ?_; rintro e w1 ⟨rfl, z3, rfl⟩) | (go_at_call 40; with_reducible refine Calls.mono (Gives.calls (W4'.out _)) ?_; rintro e w1 ⟨rfl, z4, rfl⟩))
                go_roundw
                case rel => exact ⟨k + 1, by omega, by go_num, HN.out, ⟨⟨_, by repeat (first | exact Below.refl _ _ | (with_reducible assumption) | apply below_later | apply below_alloc | apply below_drew | apply below_drewN)⟩, rfl⟩⟩
                case measure => simp [intOf]; omega
        · obtain rfl : k = m := by omega
          go_wp2
          go_ret
          exact ⟨ret_bool (by rw [D.out]; exact (allB_true HALL.out).symm), ⟨_, below_more HBZ.out (by repeat (first | exact Below.refl _ _ | (with_reducible assumption) | apply below_later | apply below_alloc | apply below_drew | apply below_drewN))⟩, rfl⟩
    · have D : Hid (r = false) := by show _ = _; rw [HR.out, h1]; simp [h3]
      go_enter Try.func12, Try.ntmps12
      go_wp2_with (go_at_call 40; with_reducible refine Calls.mono (Gives.calls (W1.out _)) ?_; rintro e w1 ⟨rfl, z, rfl⟩)
      go_ret
      exact ⟨ret_bool D.out.symm, later_of (by repeat (first | exact Below.refl _ _ | (with_reducible assumption) | apply below_later | apply below_alloc | apply below_drew | apply below_drewN))⟩

set_option maxRecDepth 100000 in
set_option maxHeartbeats 1600000 in
theorem risplan_any (m cap k capB start : Nat) (A B : Option Addr) (f t : Nat → Nat) (V : Nat → Int) (c : Nat → Int) (w : World) (hm : m ≤ 1000) (hk : k ≤ 2000) (hp : IsChs w A m (fun i => (f i : Int)) (fun i => (t i : Int)) V) (hc : IsInts w B k c) :
    Gives Try.prog 26 #[.slice A m cap, .int .i64 start, .slice B k capB] w (.bool (fol m f t c start k).isSome) := by
  have WI : Hid (∀ (a : Int) (w : World), Gives Try.prog 40 #[.int .i64 a, .int .i64 0, .int .i64 ((m : Int) - 1)] w (.bool (inS m a))) := fun a w => by
    have h := within_any a 0 ((m : Int) - 1) w
    have e : (decide (0 ≤ a) && decide (a ≤ (m : Int) - 1)) = inS m a := by
      unfold inS
      rw [Bool.eq_iff_iff]
      simp only [Bool.and_eq_true, decide_eq_true_eq]
      omega
    rwa [e] at h
  have HP := Lib.hid hp
  have HC := Lib.hid hc
  clear hp hc
  go_enter Try.func26, Try.ntmps26
  go_wp2
  go_loopw [7, 8] (fun u v wr => ∃ j a : Nat, u = .int .i64 (a : Nat) ∧ v = .int .i64 (j : Nat) ∧ j ≤ k ∧ fol m f t c start j = some a ∧ ∃ x : Later w, wr = x.val) (fun _ v _ => k - (intOf v).toNat)
  case atStart => exact ⟨0, start, rfl, rfl, by omega, rfl, later_of (by repeat (first | exact Below.refl _ _ | (with_reducible assumption) | apply below_later | apply below_alloc | apply below_drew | apply below_drewN))⟩
  case round =>
    obtain ⟨j, a, rfl, rfl, hj, hf, x, rfl⟩ := hrel
    have HF := Lib.hid hf
    clear hf
    by_cases hlt : j < k
    · obtain ⟨bb, oo, hB, q⟩ := (HC.out.later x).at_ (by omega)
      subst hB
      have cj := q.at_ j hlt
      have lq := q.lt
      clear q
      cases hi : inS m (c j)
      · have I1 := WI.out (c j)
        rw [hi] at I1
        have I2 := Lib.hid I1
        have HN : Hid (fol m f t c start (j + 1) = none) := by show _ = _; rw [fol, HF.out, hi]; simp
        clear I1 hi
        go_wp2_with (go_at_call 40; with_reducible refine Calls.mono (Gives.calls (I2.out _)) ?_; rintro e w1 ⟨rfl, z, rfl⟩)
        go_ret
        exact ⟨ret_bool (by rw [fol_none HN.out k (by omega)]; rfl), later_of (by repeat (first | exact Below.refl _ _ | (with_reducible assumption) | apply below_later | apply below_alloc | apply below_drew | apply below_drewN))⟩
      · obtain ⟨i, hci, him⟩ := inS_true hi
        have I1 := WI.out (c j)
        rw [hi, hci] at I1
        have I2 := Lib.hid I1
        obtain ⟨ba, oa, hA, p⟩ := (HP.out.later x).at_ (by omega)
        subst hA
        have cf := p.f i him
        have ct := p.t i him
        have lp := p.lt
        rw [hci] at cj
        by_cases e : f i = a
        · have HN : Hid (fol m f t c start (j + 1) = some (t i)) := by show _ = _; rw [fol, HF.out, hci, Int.toNat_natCast]; simp [inS_nat him, e]
          have e1 : ((f i : Int) != (a : Int)) = false := by simp [e]
          clear p I1 hi hci e
          go_wp2_with (go_at_call 40; with_reducible refine Calls.mono (Gives.calls (I2.out _)) ?_; rintro e w1 ⟨rfl, z, rfl⟩)
          go_roundw
          case rel => exact ⟨j + 1, t i, rfl, by go_num, by omega, HN.out, later_of (by repeat (first | exact Below.refl _ _ | (with_reducible assumption) | apply below_later | apply below_alloc | apply below_drew | apply below_drewN))⟩
          case measure => simp [intOf]; omega
        · have HN : Hid (fol m f t c start (j + 1) = none) := by show _ = _; rw [fol, HF.out, hci, Int.toNat_natCast]; simp [inS_nat him, e]
          have e1 : ((f i : Int) != (a : Int)) = true := by simp; omega
          clear p I1 hi hci e
          go_wp2_with (go_at_call 40; with_reducible refine Calls.mono (Gives.calls (I2.out _)) ?_; rintro e w1 ⟨rfl, z, rfl⟩)
          go_ret
          exact ⟨ret_bool (by rw [fol_none HN.out k (by omega)]; rfl), later_of (by repeat (first | exact Below.refl _ _ | (with_reducible assumption) | apply below_later | apply below_alloc | apply below_drew | apply below_drewN))⟩
    · obtain rfl : j = k := by omega
      go_wp2
      go_ret
      exact ⟨ret_bool (by rw [HF.out]; rfl), later_of (by repeat (first | exact Below.refl _ _ | (with_reducible assumption) | apply below_later | apply below_alloc | apply below_drew | apply below_drewN))⟩

set_option maxRecDepth 100000 in
set_option maxHeartbeats 1600000 in
theorem rworth_any (m cap k capB : Nat) (A B : Option Addr) (f t : Nat → Nat) (V : Nat → Int) (c : Nat → Nat) (w : World) (hm : m ≤ 1000) (hk : k ≤ 2000) (hv : ∀ i, i < m → -1000 ≤ V i ∧ V i ≤ 1000) (hp : IsChs w A m (fun i => (f i : Int)) (fun i => (t i : Int)) V) (hc : IsInts w B k fun i => (c i : Int)) (hcm : ∀ i, i < k → c i < m) :
    Gives Try.prog 27 #[.slice A m cap, .slice B k capB] w (.int .i64 (wor V c k)) := by
  have HP := Lib.hid hp
  have HC := Lib.hid hc
  have HM := Lib.hid hcm
  have HV := Lib.hid hv
  clear hp hc hcm hv
  go_enter Try.func27, Try.ntmps27
  go_wp2
  go_loopw [5, 6] (fun u v wr => ∃ j : Nat, u = .int .i64 (wor V c j) ∧ v = .int .i64 (j : Nat) ∧ j ≤ k ∧ ∃ x : Later w, wr = x.val) (fun _ v _ => k - (intOf v).toNat)
  case atStart => exact ⟨0, rfl, rfl, by omega, later_of (by repeat (first | exact Below.refl _ _ | (with_reducible assumption) | apply below_later | apply below_alloc | apply below_drew | apply below_drewN))⟩
  case round =>
    obtain ⟨j, rfl, rfl, hj, x, rfl⟩ := hrel
    by_cases hlt : j < k
    · obtain ⟨bb, oo, hB, q⟩ := (HC.out.later x).at_ (by omega)
      subst hB
      have cj := q.at_ j hlt
      have lq := q.lt
      have him := HM.out j hlt
      obtain ⟨ba, oa, hA, p⟩ := (HP.out.later x).at_ (by omega)
      subst hA
      have cv := p.v _ him
      have lp := p.lt
      obtain ⟨b0, b1⟩ := wor_bd HV.out j fun i hi => HM.out i (by omega)
      obtain ⟨b2, b3⟩ := HV.out _ him
      have HW : Hid (wor V c (j + 1) = wor V c j + V (c j)) := rfl
      generalize wor V c j = s at *
      generalize V (c j) = y at *
      clear p q
      go_wp2
      go_roundw
      case rel => exact ⟨j + 1, by rw [HW.out], by go_num, by omega, later_of (by repeat (first | exact Below.refl _ _ | (with_reducible assumption) | apply below_later | apply below_alloc | apply below_drew | apply below_drewN))⟩
      case measure => simp [intOf]; omega
    · obtain rfl : j = k := by omega
      go_wp2
      go_ret
      exact ⟨rfl, later_of (by repeat (first | exact Below.refl _ _ | (with_reducible assumption) | apply below_later | apply below_alloc | apply below_drew | apply below_drewN))⟩
end Go.Proofs.Ytnjloomhhgilcaa
