/- The document's own Valid. -/
import Derived.Test.YticjjikodignfaaDoorRefNum
import Derived.Test.YticjjikodignfaaDoorValid
import Derived.Deep.DeepCutAuto
namespace Go.Proofs.YticjjikodignfaaDoor
open Go.RowKit

/-- The corner two behind k of n, round about. -/
def nx2 (n k : Nat) : Nat := (k + 2) % n
theorem nx2_lt {n : Nat} (k : Nat) (h : 0 < n) : nx2 n k < n := Nat.mod_lt _ h
theorem nx2_eq (n k : Nat) : ((k : Int) + 2) % (n : Int) = ((nx2 n k : Nat) : Int) := by
  unfold nx2
  rw [Int.natCast_emod]
  rfl

def rFirstB (n : Nat) (px py : Nat → Int) : Bool := allB n fun i => (inR (px i) && inR (py i)) && allB i fun k => !sameXY px py i k
def rPairB (n : Nat) (px py : Nat → Int) (i k : Nat) : Bool := (nx n k == i) || !meetR (px i) (py i) (px (nx n i)) (py (nx n i)) (px k) (py k) (px (nx n k)) (py (nx n k))
def rCornerB (n : Nat) (px py : Nat → Int) (i : Nat) : Bool :=
  (!onB (px (nx2 n i)) (py (nx2 n i)) (px i) (py i) (px (nx n i)) (py (nx n i)) && !onB (px i) (py i) (px (nx n i)) (py (nx n i)) (px (nx2 n i)) (py (nx2 n i))) &&
  allB (n - (i + 2)) fun t => rPairB n px py i (i + 2 + t)
def rValidB (n : Nat) (px py : Nat → Int) : Bool := decide (3 ≤ n) && decide (n ≤ 40) && (rFirstB n px py && allB n (rCornerB n px py))

set_option maxRecDepth 100000 in
set_option maxHeartbeats 4000000 in
theorem r_valid_any (A : Option Addr) (n cap : Nat) (px py : Nat → Int) (w : World) (hp : IsPosts w A n px py) :
    Gives Tryd.prog 32 #[.slice A n cap] w (.bool (rValidB n px py)) := by
  have hs := hp.small
  by_cases h3 : n < 3
  · have H3 := Lib.hid h3
    have g : (n : Int) < 3 := by omega
    clear hp
    go_enter Tryd.func32, Tryd.ntmps32
    go_wp2
    go_ret
    exact ⟨ret_bool (by have := H3.out; simp [rValidB]; omega), later_of (by repeat (first | exact Below.refl _ _ | (with_reducible assumption) | apply below_later | apply below_alloc | apply below_drew | apply below_drewN))⟩
  · by_cases h4 : 40 < n
    · have H4 := Lib.hid h4
      have g : (40 : Int) < (n : Int) := by omega
      have g' : ¬ (n : Int) < 3 := by omega
      clear hp
      go_enter Tryd.func32, Tryd.ntmps32
      go_wp2
      go_ret
      exact ⟨ret_bool (by have := H4.out; simp [rValidB]; omega), later_of (by repeat (first | exact Below.refl _ _ | (with_reducible assumption) | apply below_later | apply below_alloc | apply below_drew | apply below_drewN))⟩
    · obtain ⟨b, off, rfl, hq⟩ := hp.at_ (by omega)
      have hl := hq.lt
      have Hq := Lib.hid hq
      clear hp hq
      have g : ¬ (40 : Int) < (n : Int) := by omega
      have g' : ¬ (n : Int) < 3 := by omega
      have E : Hid (rValidB n px py = (rFirstB n px py && allB n (rCornerB n px py))) := by
        have e1 : decide (3 ≤ n) = true := by simp; omega
        have e2 : decide (n ≤ 40) = true := by simp; omega
        unfold Hid
        simp only [rValidB, e1, e2, Bool.true_and]
      go_enter Tryd.func32, Tryd.ntmps32
      go_wp2
      go_loopw [4] (fun v wr => ∃ i : Nat, i ≤ n ∧ v = .int .i64 i ∧ (∀ j, j < i → ((inR (px j) && inR (py j)) && allB j fun k => !sameXY px py j k) = true) ∧ ∃ x : Later w, wr = x.val) (fun v _ => n - (intOf v).toNat)
      case atStart => exact ⟨0, by omega, rfl, by omega, later_of (by repeat (first | exact Below.refl _ _ | (with_reducible assumption) | apply below_later | apply below_alloc | apply below_drew | apply below_drewN))⟩
      case round =>
        obtain ⟨i, hi, rfl, hj, x, rfl⟩ := hrel
        have Hj := Lib.hid hj
        clear hj
        by_cases hlt : i < n
        · have c1 := Hq.out.x i hlt
          have c2 := Hq.out.y i hlt
          cases hg : (inR (px i) && inR (py i))
          · have Hg := Lib.hid hg
            go_wp2_with (first | (go_at_call 64; (first | (with_reducible show Calls _ _ _ (Later.val _) _; with_reducible refine Calls.mono (Later.call _ (r_ranged_any _ _ _)) ?_) | (with_reducible refine Calls.mono (Gives.calls (r_ranged_any _ _ _)) ?_)); rintro e w1 ⟨rfl, y, rfl⟩))
            go_ret
            exact ⟨ret_bool (by rw [E.out, show rFirstB n px py = false from allB_false hlt (by rw [Hg.out]; rfl)]; rfl), later_of (by repeat (first | exact Below.refl _ _ | (with_reducible assumption) | apply below_later | apply below_alloc | apply below_drew | apply below_drewN))⟩
          · have Hg := Lib.hid hg
            go_wp2_with (first | (go_at_call 64; (first | (with_reducible show Calls _ _ _ (Later.val _) _; with_reducible refine Calls.mono (Later.call _ (r_ranged_any _ _ _)) ?_) | (with_reducible refine Calls.mono (Gives.calls (r_ranged_any _ _ _)) ?_)); rintro e w1 ⟨rfl, y, rfl⟩))
            go_loopw [5] (fun v wr => ∃ k : Nat, k ≤ i ∧ v = .int .i64 k ∧ (∀ j, j < k → (!sameXY px py i j) = true) ∧ ∃ x : Later w, wr = x.val) (fun v _ => i - (intOf v).toNat)
            case atStart => exact ⟨0, by omega, rfl, by omega, later_of (by repeat (first | exact Below.refl _ _ | (with_reducible assumption) | apply below_later | apply below_alloc | apply below_drew | apply below_drewN))⟩
            case round =>
              obtain ⟨k, hk, rfl, hj, y, rfl⟩ := hrel
              have Hk := Lib.hid hj
              clear hj
              by_cases hit : k < i
              · have c3 := Hq.out.x k (by omega)
                have c4 := Hq.out.y k (by omega)
                by_cases h1 : px i = px k
                · by_cases h2 : py i = py k
                  · have H1 := Lib.hid h1
                    have H2 := Lib.hid h2
                    go_wp2_with fail
                    first | (with_reducible show Code.wp _ _ _ _ (Later.val _); refine wp_region_later_at _ (by kernel_rfl) (by kernel_rfl) ?_) | refine wp_region_later (by kernel_rfl) (by kernel_rfl) ?_
                    repeat (go_big_quiet_step ((fail)))
                    refine wpQuiet_nil ?_
                    intro z
                    go_wp2
                    go_ret
                    exact ⟨ret_bool (by rw [E.out, show rFirstB n px py = false from allB_false hlt (by rw [Hg.out, show (allB i fun k => !sameXY px py i k) = false from allB_false hit (by simp [sameXY, H1.out, H2.out])]; rfl)]; rfl), later_of (by repeat (first | exact Below.refl _ _ | (with_reducible assumption) | apply below_later | apply below_alloc | apply below_drew | apply below_drewN))⟩
                  · have H2 := Lib.hid h2
                    go_wp2_with fail
                    first | (with_reducible show Code.wp _ _ _ _ (Later.val _); refine wp_region_later_at _ (by kernel_rfl) (by kernel_rfl) ?_) | refine wp_region_later (by kernel_rfl) (by kernel_rfl) ?_
                    repeat (go_big_quiet_step ((fail)))
                    refine wpQuiet_nil ?_
                    intro z
                    go_wp2
                    go_roundw
                    case rel => exact ⟨k + 1, by omega, by go_num, all_step Hk.out (by simp [sameXY, H2.out]), later_of (by repeat (first | exact Below.refl _ _ | (with_reducible assumption) | apply below_later | apply below_alloc | apply below_drew | apply below_drewN))⟩
                    case measure => simp [intOf]; omega
                · have H1 := Lib.hid h1
                  go_wp2_with fail
                  first | (with_reducible show Code.wp _ _ _ _ (Later.val _); refine wp_region_later_at _ (by kernel_rfl) (by kernel_rfl) ?_) | refine wp_region_later (by kernel_rfl) (by kernel_rfl) ?_
                  repeat (go_big_quiet_step ((fail)))
                  refine wpQuiet_nil ?_
                  intro z
                  go_wp2
                  go_roundw
                  case rel => exact ⟨k + 1, by omega, by go_num, all_step Hk.out (by simp [sameXY, H1.out]), later_of (by repeat (first | exact Below.refl _ _ | (with_reducible assumption) | apply below_later | apply below_alloc | apply below_drew | apply below_drewN))⟩
                  case measure => simp [intOf]; omega
              · obtain rfl : k = i := by omega
                go_wp2
                go_roundw
                case rel => exact ⟨k + 1, by omega, by go_num, all_step Hj.out (by rw [Hg.out, allB_true Hk.out]; rfl), later_of (by repeat (first | exact Below.refl _ _ | (with_reducible assumption) | apply below_later | apply below_alloc | apply below_drew | apply below_drewN))⟩
                case measure => simp [intOf]; omega
        · obtain rfl : n = i := by omega
          have HF : Hid (rFirstB n px py = true) := allB_true Hj.out
          have Hr : Hid (∀ j, j < n → InRange (px j) (py j)) := fun j hj => inRange_of_B (by have := Hj.out j hj; simp only [Bool.and_eq_true] at this ⊢; exact this.1)
          clear Hj
          go_wp2
          go_loopw [6] (fun v wr => ∃ i : Nat, i ≤ n ∧ v = .int .i64 i ∧ (∀ j, j < i → rCornerB n px py j = true) ∧ ∃ x : Later w, wr = x.val) (fun v _ => n - (intOf v).toNat)
          case atStart => exact ⟨0, by omega, rfl, by omega, later_of (by repeat (first | exact Below.refl _ _ | (with_reducible assumption) | apply below_later | apply below_alloc | apply below_drew | apply below_drewN))⟩
          case round =>
            obtain ⟨i, hi, rfl, hj, y, rfl⟩ := hrel
            have Hj := Lib.hid hj
            clear hj
            by_cases hlt : i < n
            · have hn1 := nx_lt (n := n) i (by omega)
              have hn2 := nx2_lt (n := n) i (by omega)
              have e1 := nx_eq n i
              have e2 := nx2_eq n i
              have Hy := Lib.hid (Hq.out.later y)
              have hly := Hy.out.lt
              have c1 := Hy.out.x i hlt
              have c2 := Hy.out.y i hlt
              have c3 := Hy.out.x _ hn1
              have c4 := Hy.out.y _ hn1
              have c5 := Hy.out.x _ hn2
              have c6 := Hy.out.y _ hn2
              have r1 := Hr.out i hlt
              have r2 := Hr.out _ hn1
              have r3 := Hr.out _ hn2
              go_wp2_with fail
              go_cut [7, 8, 9] (fun s7 s8 s9 wx => ∃ B1 B2 B3 : Nat, s7 = .pointer (some ⟨B1, 0, none⟩) ∧ s8 = .pointer (some ⟨B2, 0, none⟩) ∧ s9 = .pointer (some ⟨B3, 0, none⟩) ∧
                (B1 < wx.heap.size ∧ wx.cell? ⟨B1, 0, none⟩ = some (.int .i64 (px i)) ∧ wx.cell? ⟨B1, 1, none⟩ = some (.int .i64 (py i))) ∧
                (B2 < wx.heap.size ∧ wx.cell? ⟨B2, 0, none⟩ = some (.int .i64 (px (nx n i))) ∧ wx.cell? ⟨B2, 1, none⟩ = some (.int .i64 (py (nx n i)))) ∧
                (B3 < wx.heap.size ∧ wx.cell? ⟨B3, 0, none⟩ = some (.int .i64 (px (nx2 n i))) ∧ wx.cell? ⟨B3, 1, none⟩ = some (.int .i64 (py (nx2 n i)))) ∧ Below w.heap.size w wx)
              case first =>
                go_region
                all_goals
                  go_wp2_with fail
                  go_meet
                  exact ⟨_, _, _, rfl, rfl, rfl, ⟨by simp; try omega, by simp [go_sem], by simp [go_sem]⟩, ⟨by simp; try omega, by simp [go_sem], by simp [go_sem]⟩, ⟨by simp; try omega, by simp [go_sem], by simp [go_sem]⟩, (by repeat (first | exact Below.refl _ _ | (with_reducible assumption) | apply below_later | apply below_alloc | apply below_drew | apply below_drewN))⟩
              case rest =>
                obtain ⟨B1, B2, B3, rfl, rfl, rfl, ⟨l1, d1, d2⟩, ⟨l2, d3, d4⟩, ⟨l3, d5, d6⟩, hz⟩ := hcut
                cases o1 : onB (px (nx2 n i)) (py (nx2 n i)) (px i) (py i) (px (nx n i)) (py (nx n i))
                · cases o2 : onB (px i) (py i) (px (nx n i)) (py (nx n i)) (px (nx2 n i)) (py (nx2 n i))
                  · have O1 := Lib.hid o1
                    have O2 := Lib.hid o2
                    have q0 : i + 2 ≤ 42 := by omega
                    go_wp2_with (first | (go_at_call 65; (first | (with_reducible show Calls _ _ _ (Later.val _) _; with_reducible refine Calls.mono (Later.call _ (r_on_any _ _ _ _ _ _ _ (by assumption) (by assumption) (by assumption))) ?_) | (with_reducible refine Calls.mono (Gives.calls (r_on_any _ _ _ _ _ _ _ (by assumption) (by assumption) (by assumption))) ?_)); rintro e w1 ⟨rfl, q, rfl⟩))
                    go_loopw [10] (fun v wr => ∃ k : Nat, i + 2 ≤ k ∧ (k = i + 2 ∨ k ≤ n) ∧ v = .int .i64 k ∧ (∀ j, i + 2 ≤ j → j < k → rPairB n px py i j = true) ∧ ∃ x : Later wc, wr = x.val) (fun v _ => n - (intOf v).toNat)
                    case atStart => exact ⟨i + 2, by omega, .inl rfl, by go_num, by omega, later_of (by repeat (first | exact Below.refl _ _ | (with_reducible assumption) | apply below_later | apply below_alloc | apply below_drew | apply below_drewN))⟩
                    case round =>
                      obtain ⟨k, hk0, hk1, rfl, hj, u, rfl⟩ := hrel
                      have Hk := Lib.hid hj
                      clear hj hk1
                      by_cases hit : k < n
                      · have hn3 := nx_lt (n := n) k (by omega)
                        have Hz : Hid (Posts wc b off n px py) := Hq.out.later ⟨_, hz⟩
                        have hlz := Hz.out.lt
                        have f1 := Hz.out.x k hit
                        have f2 := Hz.out.y k hit
                        have f3 := Hz.out.x _ hn3
                        have f4 := Hz.out.y _ hn3
                        have r4 := Hr.out k hit
                        have r5 := Hr.out _ hn3
                        have e3 := nx_eq n k
                        by_cases hni : nx n k = i
                        · have g1 : (((nx n k : Nat) : Int) != (i : Int)) = false := by simp; omega
                          have Hni := Lib.hid hni
                          clear hni
                          go_wp2_with fail
                          first | (with_reducible show Code.wp _ _ _ _ (Later.val _); refine wp_region_later_at _ (by kernel_rfl) (by kernel_rfl) ?_) | refine wp_region_later (by kernel_rfl) (by kernel_rfl) ?_
                          repeat (go_big_quiet_step ((fail)))
                          refine wpQuiet_nil ?_
                          intro t
                          go_wp2
                          go_roundw
                          case rel =>
                            refine ⟨k + 1, by omega, .inr (by omega), by go_num, fun j hj1 hj2 => ?_, later_of (by repeat (first | exact Below.refl _ _ | (with_reducible assumption) | apply below_later | apply below_alloc | apply below_drew | apply below_drewN))⟩
                            rcases Nat.lt_or_ge j k with h | h
                            · exact Hk.out j hj1 h
                            · obtain rfl : j = k := by omega
                              simp [rPairB, Hni.out]
                          case measure => simp [intOf]; omega
                        · have g1 : (((nx n k : Nat) : Int) != (i : Int)) = true := by simp; omega
                          have Hni := Lib.hid hni
                          clear hni
                          cases hm : meetR (px i) (py i) (px (nx n i)) (py (nx n i)) (px k) (py k) (px (nx n k)) (py (nx n k))
                          · have Hm := Lib.hid hm
                            go_wp2_with fail
                            first | (with_reducible show Code.wp _ _ _ _ (Later.val _); refine wp_region_later_at _ (by kernel_rfl) (by kernel_rfl) ?_) | refine wp_region_later (by kernel_rfl) (by kernel_rfl) ?_
                            repeat (go_big_quiet_step ((first | (go_at_call 66; (with_reducible refine Later.call _ (r_meet_any _ _ _ _ _ _ _ _ _ (by assumption) (by assumption) (by assumption) (by assumption)))))))
                            refine wpQuiet_nil ?_
                            intro t
                            go_wp2
                            go_roundw
                            case rel =>
                              refine ⟨k + 1, by omega, .inr (by omega), by go_num, fun j hj1 hj2 => ?_, later_of (by repeat (first | exact Below.refl _ _ | (with_reducible assumption) | apply below_later | apply below_alloc | apply below_drew | apply below_drewN))⟩
                              rcases Nat.lt_or_ge j k with h | h
                              · exact Hk.out j hj1 h
                              · obtain rfl : j = k := by omega
                                simp [rPairB, Hm.out]
                            case measure => simp [intOf]; omega
                          · have Hm := Lib.hid hm
                            go_wp2_with fail
                            first | (with_reducible show Code.wp _ _ _ _ (Later.val _); refine wp_region_later_at _ (by kernel_rfl) (by kernel_rfl) ?_) | refine wp_region_later (by kernel_rfl) (by kernel_rfl) ?_
                            repeat (go_big_quiet_step ((first | (go_at_call 66; (with_reducible refine Later.call _ (r_meet_any _ _ _ _ _ _ _ _ _ (by assumption) (by assumption) (by assumption) (by assumption)))))))
                            refine wpQuiet_nil ?_
                            intro t
                            go_wp2
                            go_ret
                            refine ⟨ret_bool ?_, later_of (by repeat (first | exact Below.refl _ _ | (with_reducible assumption) | apply below_later | apply below_alloc | apply below_drew | apply below_drewN))⟩
                            have p1 : rPairB n px py i (i + 2 + (k - (i + 2))) = false := by
                              rw [show i + 2 + (k - (i + 2)) = k by omega]
                              simp [rPairB, Hm.out, Hni.out]
                            rw [E.out, show allB n (rCornerB n px py) = false from allB_false hlt (by unfold rCornerB; rw [show (allB (n - (i + 2)) fun t => rPairB n px py i (i + 2 + t)) = false from allB_false (k := k - (i + 2)) (by omega) p1, Bool.and_false]), Bool.and_false]
                      · have hni := hit
                        go_wp2
                        go_roundw
                        case rel =>
                          refine ⟨i + 1, by omega, by go_num, all_step Hj.out ?_, later_of (by repeat (first | exact Below.refl _ _ | (with_reducible assumption) | apply below_later | apply below_alloc | apply below_drew | apply below_drewN))⟩
                          unfold rCornerB
                          rw [O1.out, O2.out, show (allB (n - (i + 2)) fun t => rPairB n px py i (i + 2 + t)) = true from allB_true fun t ht => Hk.out _ (by omega) (by omega)]
                          rfl
                        case measure => simp [intOf]; omega
                  · have O2 := Lib.hid o2
                    go_wp2_with (first | (go_at_call 65; (first | (with_reducible show Calls _ _ _ (Later.val _) _; with_reducible refine Calls.mono (Later.call _ (r_on_any _ _ _ _ _ _ _ (by assumption) (by assumption) (by assumption))) ?_) | (with_reducible refine Calls.mono (Gives.calls (r_on_any _ _ _ _ _ _ _ (by assumption) (by assumption) (by assumption))) ?_)); rintro e w1 ⟨rfl, q, rfl⟩))
                    go_ret
                    exact ⟨ret_bool (by rw [E.out, show allB n (rCornerB n px py) = false from allB_false hlt (by unfold rCornerB; rw [O2.out]; simp), Bool.and_false]), later_of (by repeat (first | exact Below.refl _ _ | (with_reducible assumption) | apply below_later | apply below_alloc | apply below_drew | apply below_drewN))⟩
                · have O1 := Lib.hid o1
                  go_wp2_with (first | (go_at_call 65; (first | (with_reducible show Calls _ _ _ (Later.val _) _; with_reducible refine Calls.mono (Later.call _ (r_on_any _ _ _ _ _ _ _ (by assumption) (by assumption) (by assumption))) ?_) | (with_reducible refine Calls.mono (Gives.calls (r_on_any _ _ _ _ _ _ _ (by assumption) (by assumption) (by assumption))) ?_)); rintro e w1 ⟨rfl, q, rfl⟩))
                  go_ret
                  exact ⟨ret_bool (by rw [E.out, show allB n (rCornerB n px py) = false from allB_false hlt (by unfold rCornerB; rw [O1.out]; simp), Bool.and_false]), later_of (by repeat (first | exact Below.refl _ _ | (with_reducible assumption) | apply below_later | apply below_alloc | apply below_drew | apply below_drewN))⟩
            · obtain rfl : n = i := by omega
              go_wp2
              go_ret
              exact ⟨ret_bool (by rw [E.out, HF.out, allB_true Hj.out]; rfl), later_of (by repeat (first | exact Below.refl _ _ | (with_reducible assumption) | apply below_later | apply below_alloc | apply below_drew | apply below_drewN))⟩
end Go.Proofs.YticjjikodignfaaDoor
