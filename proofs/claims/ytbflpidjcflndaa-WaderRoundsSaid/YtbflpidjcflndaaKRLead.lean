/- The document's leads: walked. -/
import Derived.Test.YtbflpidjcflndaaKRFrom
namespace Go.Proofs.Ytbflpidjcflndaa
open Go.RowKit
set_option maxRecDepth 100000 in
set_option maxHeartbeats 3200000 in
theorem rleads_any (s : Int) (n cap i k : Nat) (A : Option Addr) (X Y T : Nat → Int) (w : World) (hi : i < n) (hk : k < n) (W : Watch n s X Y T) (hp : IsChs w A n X Y T) :
    Gives Try.prog 50 #[.slice A n cap, .int .i64 s, .int .i64 i, .int .i64 k] w (.bool (leadsR s X Y T i k)) := by
  have hn30 := W.n30
  have hs0 := W.s0
  have hs1 := W.s1
  obtain ⟨x1, x2, y1, y2, t1, t2⟩ := W.ok i hi
  obtain ⟨x3, x4, y3, y4, t3, t4⟩ := W.ok k hk
  obtain ⟨b, off, hB, p⟩ := hp.at_ (by omega)
  subst hB
  have e1 := p.f i hi
  have e2 := p.t i hi
  have e3 := p.v i hi
  have g1 := p.f k hk
  have g2 := p.t k hk
  have g3 := p.v k hk
  have lb := p.lt
  have HR : Hid (leadsR s X Y T i k = if X i = X k ∧ Y i = Y k ∧ T i = T k then decide (i < k) else decide (T i < T k) && decide (awayZ (X i) (Y i) (X k) (Y k) ≤ s * (T k - T i))) := rfl
  generalize leadsR s X Y T i k = r at *
  generalize X i = xi at *
  generalize Y i = yi at *
  generalize T i = ti at *
  generalize X k = xk at *
  generalize Y k = yk at *
  generalize T k = tk at *
  clear p hp W
  go_enter Try.func50, Try.ntmps50
  go_wp2_with fail
  go_cut [9, 10] (fun s7 s8 wx => ∃ B1 B2 : Nat, s7 = .pointer (some ⟨B1, 0, none⟩) ∧ s8 = .pointer (some ⟨B2, 0, none⟩) ∧
    (wx.cell? ⟨B1, 0, none⟩ = some (.int .i64 xi) ∧ wx.cell? ⟨B1, 1, none⟩ = some (.int .i64 yi) ∧ wx.cell? ⟨B1, 2, none⟩ = some (.int .i64 ti)) ∧
    (wx.cell? ⟨B2, 0, none⟩ = some (.int .i64 xk) ∧ wx.cell? ⟨B2, 1, none⟩ = some (.int .i64 yk) ∧ wx.cell? ⟨B2, 2, none⟩ = some (.int .i64 tk)) ∧ Below w.heap.size w wx)
  case first =>
    go_region
    all_goals
      go_wp2_with fail
      go_meet
      exact ⟨_, _, rfl, rfl, ⟨by simp [go_sem], by simp [go_sem], by simp [go_sem]⟩, ⟨by simp [go_sem], by simp [go_sem], by simp [go_sem]⟩, (by repeat (first | exact Below.refl _ _ | (with_reducible assumption) | apply below_later | apply below_alloc | apply below_drew | apply below_drewN))⟩
  case rest =>
    obtain ⟨B1, B2, rfl, rfl, ⟨f1, f2, f3⟩, ⟨f4, f5, f6⟩, hbx⟩ := hcut
    have l1 := World.block_lt_of_cell? _ _ f1
    have l2 := World.block_lt_of_cell? _ _ f4
    have HX := Lib.hid hbx
    clear e1 e2 e3 g1 g2 g3 hbx lb
    have AW := Lib.hid fun w' => rapart_any xi yi xk yk w' ⟨x1, x2⟩ ⟨y1, y2⟩ ⟨x3, x4⟩ ⟨y3, y4⟩
    have hm := mul_bd (a := s) (b := tk - ti) 100 10000 (by omega) hs1 (by omega) (by omega)
    generalize awayZ xi yi xk yk = q at *
    have u1 : IntKind.i64.wrap (tk - ti) = tk - ti := IntWalk.i64_in _ ⟨by omega, by omega⟩
    have u2 : IntKind.i64.wrap (s * (tk - ti)) = s * (tk - ti) := IntWalk.i64_in _ ⟨by omega, by omega⟩
    by_cases he : xi = xk ∧ yi = yk ∧ ti = tk
    · obtain ⟨rfl, rfl, rfl⟩ := he
      have HF : Hid (r = decide (i < k)) := by show _ = _; rw [HR.out, if_pos ⟨rfl, rfl, rfl⟩]
      have hd : decide (ti < ti) = false := by simp
      clear HR hm
      by_cases hik : i < k
      · have hd2 : decide ((i : Int) < (k : Int)) = true := by simp; omega
        go_wp2_with fail
        refine wp_region_later (by kernel_rfl) (by kernel_rfl) ?_
        repeat (go_big_quiet_step (((go_at_call 78; (with_reducible refine Later.call _ (AW.out _))))))
        refine wpQuiet_nil ?_
        intro y
        go_wp2_with fail
        go_ret
        exact ⟨ret_bool (by rw [HF.out]; simp [hik]), later_of (below_more HX.out y.ok)⟩
      · have hd2 : decide ((i : Int) < (k : Int)) = false := by simp; omega
        go_wp2_with fail
        refine wp_region_later (by kernel_rfl) (by kernel_rfl) ?_
        repeat (go_big_quiet_step (((go_at_call 78; (with_reducible refine Later.call _ (AW.out _))))))
        refine wpQuiet_nil ?_
        intro y
        go_wp2_with fail
        go_ret
        exact ⟨ret_bool (by rw [HF.out]; simp [hik]), later_of (below_more HX.out y.ok)⟩
    · have tail : Hid (∀ y : Later wc, True) := fun _ => trivial
      have HF : Hid (r = (decide (ti < tk) && decide (q ≤ s * (tk - ti)))) := by show _ = _; rw [HR.out, if_neg he]
      clear HR hm tail
      by_cases hlt : ti < tk
      · have hd : decide (ti < tk) = true := decide_eq_true hlt
        have hti : (ti == tk) = false := by simp; omega
        have hti2 : ¬ (ti = tk) := by omega
        by_cases hq : q ≤ s * (tk - ti)
        · have hd2 : decide (q ≤ s * (tk - ti)) = true := decide_eq_true hq
          go_wp2_with fail
          refine wp_region_later (by kernel_rfl) (by kernel_rfl) ?_
          repeat (go_big_quiet_step (((go_at_call 78; (with_reducible refine Later.call _ (AW.out _))))))
          refine wpQuiet_nil ?_
          intro y
          go_wp2_with fail
          go_ret
          exact ⟨ret_bool (by rw [HF.out]; simp [hlt, hq]), later_of (below_more HX.out y.ok)⟩
        · have hd2 : decide (q ≤ s * (tk - ti)) = false := decide_eq_false hq
          go_wp2_with fail
          refine wp_region_later (by kernel_rfl) (by kernel_rfl) ?_
          repeat (go_big_quiet_step (((go_at_call 78; (with_reducible refine Later.call _ (AW.out _))))))
          refine wpQuiet_nil ?_
          intro y
          go_wp2_with fail
          go_ret
          exact ⟨ret_bool (by rw [HF.out]; simp [hlt, hq]), later_of (below_more HX.out y.ok)⟩
      · have hd : decide (ti < tk) = false := decide_eq_false hlt
        by_cases h1 : xi = xk
        · subst h1
          by_cases h2 : yi = yk
          · subst h2
            have h3 : ¬ ti = tk := fun h => he ⟨rfl, rfl, h⟩
            have h4 : (ti == tk) = false := by simp [h3]
            go_wp2_with fail
            refine wp_region_later (by kernel_rfl) (by kernel_rfl) ?_
            repeat (go_big_quiet_step (((go_at_call 78; (with_reducible refine Later.call _ (AW.out _))))))
            refine wpQuiet_nil ?_
            intro y
            go_wp2_with fail
            go_ret
            exact ⟨ret_bool (by rw [HF.out, hd, Bool.false_and]), later_of (below_more HX.out y.ok)⟩
          · have h4 : (yi == yk) = false := by simp [h2]
            go_wp2_with fail
            refine wp_region_later (by kernel_rfl) (by kernel_rfl) ?_
            repeat (go_big_quiet_step (((go_at_call 78; (with_reducible refine Later.call _ (AW.out _))))))
            refine wpQuiet_nil ?_
            intro y
            go_wp2_with fail
            go_ret
            exact ⟨ret_bool (by rw [HF.out, hd, Bool.false_and]), later_of (below_more HX.out y.ok)⟩
        · have h4 : (xi == xk) = false := by simp [h1]
          go_wp2_with fail
          refine wp_region_later (by kernel_rfl) (by kernel_rfl) ?_
          repeat (go_big_quiet_step (((go_at_call 78; (with_reducible refine Later.call _ (AW.out _))))))
          refine wpQuiet_nil ?_
          intro y
          go_wp2_with fail
          go_ret
          exact ⟨ret_bool (by rw [HF.out, hd, Bool.false_and]), later_of (below_more HX.out y.ok)⟩
end Go.Proofs.Ytbflpidjcflndaa
