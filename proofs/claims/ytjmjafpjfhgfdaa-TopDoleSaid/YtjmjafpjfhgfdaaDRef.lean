/- The document's Row, Valid, IsShare, Sum and Most, why and Long: walked. -/
import Derived.Test.YtjmjafpjfhgfdaaDSum
namespace Go.Proofs.Ytjmjafpjfhgfdaa
open Go.RowKit

set_option maxRecDepth 100000 in
set_option maxHeartbeats 1600000 in
/-- A row need not be short to be read. -/
theorem rrow_any (n cap : Nat) (A : Option Addr) (f : Nat → Int) (w : World) (hn : n ≤ 1000) (hp : IsInts w A n f) : Gives Try.prog 43 #[.slice A n cap] w (.bool (rowB n f)) := by
  have HP := Lib.hid hp
  have HR : Hid (rowB n f = (decide (n ≤ 12) && allB n fun j => okV (f j))) := rfl
  generalize rowB n f = r at *
  clear hp
  go_enter Try.func43, Try.ntmps43
  go_wp2
  go_loopw [3] (fun u wr => ∃ j : Nat, u = .int .i64 (j : Nat) ∧ j ≤ n ∧ (∀ i, i < j → okV (f i) = true) ∧ ∃ x : Later w, wr = x.val) (fun u _ => n - (intOf u).toNat)
  case atStart => exact ⟨0, rfl, by omega, by omega, later_of (by repeat (first | exact Below.refl _ _ | (with_reducible assumption) | apply below_later | apply below_alloc | apply below_drew | apply below_drewN))⟩
  case round =>
    obtain ⟨j, rfl, hj, hall, x, rfl⟩ := hrel
    have HALL := Lib.hid hall
    clear hall
    by_cases hlt : j < n
    · obtain ⟨bb, oo, hB, q⟩ := (HP.out.later x).at_ (by omega)
      subst hB
      have cj := q.at_ j hlt
      have lq := q.lt
      have OT : Hid (okV (f j) = true → ∀ i, i < j + 1 → okV (f i) = true) := fun h => all_step HALL.out h
      have OF : Hid (okV (f j) = false → r = false) := fun h => by rw [HR.out, allB_false (p := fun j => okV (f j)) hlt h]; simp
      have OV : Hid (okV (f j) = (decide (0 ≤ f j) && decide (f j ≤ 1000))) := rfl
      clear q
      generalize okV (f j) = ov at *
      generalize f j = y at *
      by_cases h1 : y < 0
      · have HE := OF.out (by rw [OV.out, decide_eq_false (by omega : ¬ 0 ≤ y)]; rfl)
        have H2 := Lib.hid HE
        clear HE
        go_wp2
        go_ret
        exact ⟨ret_bool H2.out.symm, later_of (by repeat (first | exact Below.refl _ _ | (with_reducible assumption) | apply below_later | apply below_alloc | apply below_drew | apply below_drewN))⟩
      · by_cases h2 : 1000 < y
        · have HE := OF.out (by rw [OV.out, decide_eq_false (by omega : ¬ y ≤ 1000)]; simp)
          have H2 := Lib.hid HE
          clear HE
          go_wp2
          go_ret
          exact ⟨ret_bool H2.out.symm, later_of (by repeat (first | exact Below.refl _ _ | (with_reducible assumption) | apply below_later | apply below_alloc | apply below_drew | apply below_drewN))⟩
        · have HE := Lib.hid (OT.out (by rw [OV.out, decide_eq_true (by omega : 0 ≤ y), decide_eq_true (by omega : y ≤ 1000)]; rfl))
          go_wp2
          go_roundw
          case rel => exact ⟨j + 1, by go_num, by omega, HE.out, later_of (by repeat (first | exact Below.refl _ _ | (with_reducible assumption) | apply below_later | apply below_alloc | apply below_drew | apply below_drewN))⟩
          case measure => simp [intOf]; omega
    · obtain rfl : j = n := by omega
      have HT : Hid (r = decide (j ≤ 12)) := by show _ = _; rw [HR.out, allB_true (p := fun j => okV (f j)) HALL.out]; simp
      by_cases h3 : j ≤ 12
      all_goals
        go_wp2
        go_ret
        exact ⟨ret_bool (by rw [HT.out]; simp; try omega), later_of (by repeat (first | exact Below.refl _ _ | (with_reducible assumption) | apply below_later | apply below_alloc | apply below_drew | apply below_drewN))⟩
set_option maxRecDepth 100000 in
set_option maxHeartbeats 3200000 in
/-- The lengths are bounded where this is called. -/
theorem rvalid_any (k cap : Nat) (A : Option Addr) (R : Nat → Row) (w : World) (hl : ∀ i, i < k → (R i).n ≤ 1000) (hp : IsTab w A k R) : Gives Try.prog 21 #[.slice A k cap] w (.bool (tabB k R)) := by
  have HR : Hid (tabB k R = (decide (0 < k) && (decide (k ≤ 6) && allB k fun i => decide ((R i).n = (R 0).n) && rowB (R i).n (R i).f))) := rfl
  have HB0 : Hid (0 < k → 12 < (R 0).n → tabB k R = false) := fun h1 h2 => by
    cases hh : tabB k R
    · rfl
    · have := (tabB_iff.1 hh).n12; omega
  have RR := Lib.hid fun (i : Nat) (V : World) (hi : i < k) (hb : Below w.heap.size w V) => rrow_any (R i).n (R i).c (R i).a (R i).f V (hl i hi) ((hp.below hb).row i hi).1
  have HP := Lib.hid hp
  have HL := Lib.hid hl
  clear hl hp
  by_cases h1 : k = 0
  · subst h1
    go_enter Try.func21, Try.ntmps21
    go_wp2
    go_ret
    exact ⟨ret_bool (by rw [HR.out]; rfl), later_of (by repeat (first | exact Below.refl _ _ | (with_reducible assumption) | apply below_later | apply below_alloc | apply below_drew | apply below_drewN))⟩
  · have e1 : ¬ (k < 1) := by omega
    have e3 : decide ((k : Int) < 1) = false := by simp; omega
    by_cases h2 : 6 < k
    · have e2 : decide ((6 : Int) < (k : Int)) = true := by simp; omega
      go_enter Try.func21, Try.ntmps21
      go_wp2
      go_ret
      exact ⟨ret_bool (by rw [HR.out, decide_eq_false (by omega : ¬ k ≤ 6)]; simp), later_of (by repeat (first | exact Below.refl _ _ | (with_reducible assumption) | apply below_later | apply below_alloc | apply below_drew | apply below_drewN))⟩
    · have e2 : decide ((6 : Int) < (k : Int)) = false := by simp; omega
      have HD : Hid (tabB k R = allB k fun i => decide ((R i).n = (R 0).n) && rowB (R i).n (R i).f) := by show _ = _; rw [HR.out, decide_eq_true (by omega : 0 < k), decide_eq_true (by omega : k ≤ 6)]; rfl
      have HB1 := Lib.hid (HB0.out (by omega))
      clear HB0 HR
      obtain ⟨b, off, rfl⟩ := HP.out.addr (by omega)
      have CE : Hid (∀ V, Below w.heap.size w V → b < V.heap.size ∧ ∀ i, i < k → V.cell? ⟨b, off + i, none⟩ = some (.slice (R i).a (R i).n (R i).c)) := fun V hb => by
        obtain ⟨b', off', hA, la, p⟩ := (HP.out.below hb).at_ (by omega)
        simp only [Option.some.injEq, Addr.mk.injEq, and_true] at hA
        obtain ⟨rfl, rfl⟩ := hA
        exact ⟨la, p⟩
      generalize tabB k R = r at *
      have hk0 : 0 < k := by omega
      obtain ⟨la, p⟩ := CE.out w (Below.refl _ _)
      have p0 : w.cell? ⟨b, off, none⟩ = _ := p 0 hk0
      clear p
      by_cases h3 : 12 < (R 0).n
      · have d3 : decide ((12 : Int) < ((R 0).n : Int)) = true := by simp; omega
        have HE := Lib.hid (HB1.out h3)
        clear h3 HB1
        generalize R 0 = ro at *
        go_enter Try.func21, Try.ntmps21
        go_wp2
        go_ret
        exact ⟨ret_bool HE.out.symm, later_of (by repeat (first | exact Below.refl _ _ | (with_reducible assumption) | apply below_later | apply below_alloc | apply below_drew | apply below_drewN))⟩
      · have d3 : decide ((12 : Int) < ((R 0).n : Int)) = false := by simp; omega
        have HO : Hid ((R 0).n ≤ 12) := by show _ ≤ _; omega
        have R0 : ∃ ro, R 0 = ro := ⟨_, rfl⟩
        obtain ⟨ro, hro⟩ := R0
        rw [hro] at p0 d3 HD
        have HRO := Lib.hid hro
        clear h3 HB1 hro
        go_enter Try.func21, Try.ntmps21
        go_wp2
        go_loopw [3] (fun u wr => ∃ j : Nat, u = .int .i64 (j : Nat) ∧ j ≤ k ∧ (∀ i, i < j → (decide ((R i).n = ro.n) && rowB (R i).n (R i).f) = true) ∧ ∃ x : Later w, wr = x.val) (fun u _ => k - (intOf u).toNat)
        case atStart => exact ⟨0, rfl, by omega, by omega, later_of (by repeat (first | exact Below.refl _ _ | (with_reducible assumption) | apply below_later | apply below_alloc | apply below_drew | apply below_drewN))⟩
        case round =>
          obtain ⟨j, rfl, hj, hall, x, rfl⟩ := hrel
          have HALL := Lib.hid hall
          clear hall
          by_cases hlt : j < k
          · obtain ⟨la, p⟩ := CE.out x.val x.ok
            have pj := p j hlt
            have p0 : x.val.cell? ⟨b, off, none⟩ = some (.slice (R 0).a (R 0).n (R 0).c) := p 0 hk0
            rw [HRO.out] at p0
            have FB : Hid ((decide ((R j).n = ro.n) && rowB (R j).n (R j).f) = false → r = false) := fun h => by rw [HD.out, allB_false (p := fun i => decide ((R i).n = ro.n) && rowB (R i).n (R i).f) hlt h]
            have FT : Hid ((decide ((R j).n = ro.n) && rowB (R j).n (R j).f) = true → ∀ i, i < j + 1 → (decide ((R i).n = ro.n) && rowB (R i).n (R i).f) = true) := fun h => all_step (p := fun i => decide ((R i).n = ro.n) && rowB (R i).n (R i).f) HALL.out h
            have RR1 := Lib.hid fun V h => RR.out j V hlt h
            clear p
            generalize rowB (R j).n (R j).f = rb at *
            generalize R j = rj at *
            by_cases h4 : rj.n = ro.n
            · have d4 : ((rj.n : Int) != (ro.n : Int)) = false := by rw [h4]; simp
              have H4 := Lib.hid (decide_eq_true h4)
              clear h4
              cases rb
              · have HE := Lib.hid (FB.out (by rw [H4.out]; rfl))
                go_wp2_with fail
                refine wp_region_later (by kernel_rfl) (by kernel_rfl) ?_
                repeat (go_big_quiet_step ((go_at_call 43; (with_reducible refine Later.call _ (RR1.out _ (by repeat (first | exact Below.refl _ _ | (with_reducible assumption) | apply below_later | apply below_alloc | apply below_drew | apply below_drewN)))))))
                refine wpQuiet_nil ?_
                intro y
                go_wp2_with fail
                go_ret
                exact ⟨ret_bool HE.out.symm, later_of (by repeat (first | exact Below.refl _ _ | (with_reducible assumption) | apply below_later | apply below_alloc | apply below_drew | apply below_drewN))⟩
              · have HE := Lib.hid (FT.out (by rw [H4.out]; rfl))
                go_wp2_with fail
                refine wp_region_later (by kernel_rfl) (by kernel_rfl) ?_
                repeat (go_big_quiet_step ((go_at_call 43; (with_reducible refine Later.call _ (RR1.out _ (by repeat (first | exact Below.refl _ _ | (with_reducible assumption) | apply below_later | apply below_alloc | apply below_drew | apply below_drewN)))))))
                refine wpQuiet_nil ?_
                intro y
                go_wp2_with fail
                go_roundw
                case rel => exact ⟨j + 1, by go_num, by omega, HE.out, later_of (by repeat (first | exact Below.refl _ _ | (with_reducible assumption) | apply below_later | apply below_alloc | apply below_drew | apply below_drewN))⟩
                case measure => simp [intOf]; omega
            · have d4 : ((rj.n : Int) != (ro.n : Int)) = true := by simp; omega
              have HE := Lib.hid (FB.out (by rw [decide_eq_false h4]; rfl))
              clear h4
              go_wp2_with fail
              refine wp_region_later (by kernel_rfl) (by kernel_rfl) ?_
              repeat (go_big_quiet_step ((go_at_call 43; (with_reducible refine Later.call _ (RR1.out _ (by repeat (first | exact Below.refl _ _ | (with_reducible assumption) | apply below_later | apply below_alloc | apply below_drew | apply below_drewN)))))))
              refine wpQuiet_nil ?_
              intro y
              go_wp2_with fail
              go_ret
              exact ⟨ret_bool HE.out.symm, later_of (by repeat (first | exact Below.refl _ _ | (with_reducible assumption) | apply below_later | apply below_alloc | apply below_drew | apply below_drewN))⟩
          · obtain rfl : j = k := by omega
            have HT : Hid (r = true) := by show _ = _; rw [HD.out, allB_true (p := fun i => decide ((R i).n = ro.n) && rowB (R i).n (R i).f) HALL.out]
            go_wp2_with fail
            go_ret
            exact ⟨ret_bool HT.out.symm, later_of (by repeat (first | exact Below.refl _ _ | (with_reducible assumption) | apply below_later | apply below_alloc | apply below_drew | apply below_drewN))⟩
set_option maxRecDepth 100000 in
set_option maxHeartbeats 1600000 in
theorem risShare_any (k cap m cS n : Nat) (A S : Option Addr) (R : Nat → Row) (c : Nat → Int) (w : World) (hm : m ≤ 1000) (W : Vals k n R) (hp : IsTab w A k R) (hc : IsInts w S m c) :
    Gives Try.prog 33 #[.slice A k cap, .slice S m cS] w (.bool (shareB k n m c)) := by
  have HR : Hid (shareB k n m c = (decide (m = n) && allB m fun j => inS k (c j))) := rfl
  obtain ⟨b, off, rfl⟩ := hp.addr W.k1
  have HD := Lib.hid fun (V : World) (hb : Below w.heap.size w V) => tab_head0 (hp.below hb) W
  have hk1 := W.k1
  have HC := Lib.hid hc
  clear hp hc
  generalize shareB k n m c = r at *
  go_enter Try.func33, Try.ntmps33
  go_wp2
  go_loopw [5] (fun u wr => ∃ j : Nat, u = .int .i64 (j : Nat) ∧ j ≤ m ∧ (∀ i, i < j → inS k (c i) = true) ∧ ∃ x : Later w, wr = x.val) (fun u _ => m - (intOf u).toNat)
  case atStart => exact ⟨0, rfl, by omega, by omega, later_of (by repeat (first | exact Below.refl _ _ | (with_reducible assumption) | apply below_later | apply below_alloc | apply below_drew | apply below_drewN))⟩
  case round =>
    obtain ⟨j, rfl, hj, hall, x, rfl⟩ := hrel
    have HALL := Lib.hid hall
    clear hall
    by_cases hlt : j < m
    · obtain ⟨bb, oo, hB, q⟩ := (HC.out.later x).at_ (by omega)
      subst hB
      have cj := q.at_ j hlt
      have lq := q.lt
      have OT : Hid (inS k (c j) = true → ∀ i, i < j + 1 → inS k (c i) = true) := fun h => all_step (p := fun i => inS k (c i)) HALL.out h
      have OF : Hid (inS k (c j) = false → r = false) := fun h => by rw [HR.out, allB_false (p := fun j => inS k (c j)) hlt h]; simp
      have OV : Hid (inS k (c j) = decide (0 ≤ c j ∧ c j < (k : Int))) := rfl
      clear q
      generalize inS k (c j) = ov at *
      generalize c j = y at *
      by_cases h1 : y < 0
      · have HE := OF.out (by rw [OV.out, decide_eq_false (by omega)])
        have H2 := Lib.hid HE
        clear HE
        go_wp2
        go_ret
        exact ⟨ret_bool H2.out.symm, later_of (by repeat (first | exact Below.refl _ _ | (with_reducible assumption) | apply below_later | apply below_alloc | apply below_drew | apply below_drewN))⟩
      · by_cases h2 : (k : Int) ≤ y
        · have HE := OF.out (by rw [OV.out, decide_eq_false (by omega)])
          have H2 := Lib.hid HE
          clear HE
          go_wp2
          go_ret
          exact ⟨ret_bool H2.out.symm, later_of (by repeat (first | exact Below.refl _ _ | (with_reducible assumption) | apply below_later | apply below_alloc | apply below_drew | apply below_drewN))⟩
        · have HE := Lib.hid (OT.out (by rw [OV.out, decide_eq_true (by omega)]))
          go_wp2
          go_roundw
          case rel => exact ⟨j + 1, by go_num, by omega, HE.out, later_of (by repeat (first | exact Below.refl _ _ | (with_reducible assumption) | apply below_later | apply below_alloc | apply below_drew | apply below_drewN))⟩
          case measure => simp [intOf]; omega
    · obtain rfl : j = m := by omega
      have HT : Hid (r = decide (j = n)) := by show _ = _; rw [HR.out, allB_true (p := fun j => inS k (c j)) HALL.out]; simp
      obtain ⟨B, la, ca, _⟩ := HD.out x.val x.ok
      go_wp2
      go_ret
      exact ⟨ret_bool (by rw [HT.out]; first | rfl | (by_cases e : j = n <;> simp [e] <;> omega) | (simp; omega)), later_of (by repeat (first | exact Below.refl _ _ | (with_reducible assumption) | apply below_later | apply below_alloc | apply below_drew | apply below_drewN))⟩
set_option maxRecDepth 100000 in
theorem why_any (k cap m cS : Nat) (A S : Option Addr) (R : Nat → Row) (c : Nat → Int) (w : World) (hl : ∀ i, i < k → (R i).n ≤ 1000) (hm : m ≤ 1000) (hp : IsTab w A k R) (hc : IsInts w S m c) :
    Gives Try.prog 19 #[.slice A k cap, .slice S m cS] w (.int .i64 (errE k R m c)) := by
  have HE : Hid (errE k R m c = if tabB k R = false then 70 else if shareB k (R 0).n m c = false then 71 else 0) := rfl
  cases hv : tabB k R
  · have VA : Hid (∀ V, Below w.heap.size w V → Gives Try.prog 21 #[.slice A k cap] V (.bool false)) := fun V h => hv ▸ rvalid_any k cap A R V hl (hp.below h)
    have HD : Hid (errE k R m c = 70) := by show _ = _; rw [HE.out, if_pos hv]
    clear hp hc hv HE hl
    go_enter Try.func19, Try.ntmps19
    go_wp2_with (go_at_call 21; with_reducible refine Calls.mono (Gives.calls (VA.out _ (by repeat (first | exact Below.refl _ _ | (with_reducible assumption) | apply below_later | apply below_alloc | apply below_drew | apply below_drewN)))) ?_; rintro e w1 ⟨rfl, z, rfl⟩)
    go_ret
    exact ⟨ret_int HD.out.symm, later_of (by repeat (first | exact Below.refl _ _ | (with_reducible assumption) | apply below_later | apply below_alloc | apply below_drew | apply below_drewN))⟩
  · have VA : Hid (∀ V, Below w.heap.size w V → Gives Try.prog 21 #[.slice A k cap] V (.bool true)) := fun V h => hv ▸ rvalid_any k cap A R V hl (hp.below h)
    have IS := Lib.hid fun (V : World) (h : Below w.heap.size w V) => risShare_any k cap m cS _ A S R c V hm (tabB_iff.1 hv) (hp.below h) (hc.below h)
    rw [hv, if_neg (by simp)] at HE
    clear hp hc hv hl
    generalize shareB k (R 0).n m c = r at *
    cases r
    all_goals
      go_enter Try.func19, Try.ntmps19
      go_wp2_with (first | (go_at_call 21; with_reducible refine Calls.mono (Gives.calls (VA.out _ (by repeat (first | exact Below.refl _ _ | (with_reducible assumption) | apply below_later | apply below_alloc | apply below_drew | apply below_drewN)))) ?_; rintro e w1 ⟨rfl, z, rfl⟩) | (go_at_call 33; with_reducible refine Calls.mono (Gives.calls (IS.out _ (by repeat (first | exact Below.refl _ _ | (with_reducible assumption) | apply below_later | apply below_alloc | apply below_drew | apply below_drewN)))) ?_; rintro e w1 ⟨rfl, z2, rfl⟩))
      go_ret
      exact ⟨ret_int (by rw [HE.out]; rfl), later_of (by repeat (first | exact Below.refl _ _ | (with_reducible assumption) | apply below_later | apply below_alloc | apply below_drew | apply below_drewN))⟩
/-- Is a table longer than the statements look at? -/
def longB (k : Nat) (R : Nat → Row) : Bool := !(decide (k ≤ 10) && allB k fun i => decide ((R i).n ≤ 20))
theorem long_facts {k : Nat} {R : Nat → Row} (h : longB k R = false) : k ≤ 10 ∧ ∀ i, i < k → (R i).n ≤ 20 := by
  unfold longB at h
  simp only [Bool.not_eq_false', Bool.and_eq_true, decide_eq_true_eq] at h
  exact ⟨h.1, fun i hi => of_decide_eq_true (allB_iff.1 h.2 i hi)⟩
set_option maxRecDepth 100000 in
set_option maxHeartbeats 1600000 in
theorem Long_any (k cap : Nat) (A : Option Addr) (R : Nat → Row) (w : World) (hp : IsTab w A k R) : Gives Try.prog 13 #[.slice A k cap] w (.bool (longB k R)) := by
  have HR : Hid (longB k R = !(decide (k ≤ 10) && allB k fun i => decide ((R i).n ≤ 20))) := rfl
  have HP := Lib.hid hp
  generalize longB k R = res at *
  clear hp
  by_cases h2 : k ≤ 10
  · have d2 : ¬ (10 < k) := by omega
    rw [decide_eq_true h2, Bool.true_and] at HR
    go_enter Try.func13, Try.ntmps13
    go_wp2
    go_loopw [3] (fun u wr => ∃ j : Nat, u = .int .i64 (j : Nat) ∧ j ≤ k ∧ (∀ i, i < j → decide ((R i).n ≤ 20) = true) ∧ ∃ x : Later w, wr = x.val) (fun u _ => k - (intOf u).toNat)
    case atStart => exact ⟨0, rfl, by omega, by omega, later_of (by repeat (first | exact Below.refl _ _ | (with_reducible assumption) | apply below_later | apply below_alloc | apply below_drew | apply below_drewN))⟩
    case round =>
      obtain ⟨j, rfl, hj, hall, x, rfl⟩ := hrel
      have HALL := Lib.hid hall
      clear hall
      by_cases hlt : j < k
      · obtain ⟨b, off, hB, hb, hc⟩ := (HP.out.later x).at_ (by omega)
        subst hB
        have cj := hc j hlt
        unfold Row.val at cj
        have FB : Hid (decide ((R j).n ≤ 20) = false → res = true) := fun h => by rw [HR.out, allB_false (p := fun i => decide ((R i).n ≤ 20)) hlt h]; rfl
        have FT : Hid (decide ((R j).n ≤ 20) = true → ∀ i, i < j + 1 → decide ((R i).n ≤ 20) = true) := fun h => all_step (p := fun i => decide ((R i).n ≤ 20)) HALL.out h
        clear hc
        by_cases h3 : (R j).n ≤ 20
        · have d3 : ¬ (20 < (R j).n) := by omega
          have HE := Lib.hid (FT.out (decide_eq_true h3))
          generalize R j = rj at *
          go_wp2
          go_roundw
          case rel => exact ⟨j + 1, by go_num, by omega, HE.out, later_of (by repeat (first | exact Below.refl _ _ | (with_reducible assumption) | apply below_later | apply below_alloc | apply below_drew | apply below_drewN))⟩
          case measure => simp [intOf]; omega
        · have d3 : 20 < (R j).n := by omega
          have HE := Lib.hid (FB.out (decide_eq_false h3))
          generalize R j = rj at *
          go_wp2
          go_ret
          exact ⟨ret_bool HE.out.symm, later_of (by repeat (first | exact Below.refl _ _ | (with_reducible assumption) | apply below_later | apply below_alloc | apply below_drew | apply below_drewN))⟩
      · obtain rfl : j = k := by omega
        have HT : Hid (res = false) := by show _ = _; rw [HR.out, allB_true (p := fun i => decide ((R i).n ≤ 20)) HALL.out]; rfl
        go_wp2
        go_ret
        exact ⟨ret_bool HT.out.symm, later_of (by repeat (first | exact Below.refl _ _ | (with_reducible assumption) | apply below_later | apply below_alloc | apply below_drew | apply below_drewN))⟩
  · have d2 : 10 < k := by omega
    have HT : Hid (res = true) := by show _ = _; rw [HR.out, decide_eq_false h2]; simp
    go_enter Try.func13, Try.ntmps13
    go_wp2
    go_ret
    exact ⟨ret_bool (by first | rfl | exact HT.out.symm | rw [HT.out]), later_of (by repeat (first | exact Below.refl _ _ | (with_reducible assumption) | apply below_later | apply below_alloc | apply below_drew | apply below_drewN))⟩
end Go.Proofs.Ytjmjafpjfhgfdaa
