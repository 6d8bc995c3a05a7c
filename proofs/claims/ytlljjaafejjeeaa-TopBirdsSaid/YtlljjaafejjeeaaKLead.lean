/- wader: sightings in memory, watches that are valid, and which sighting leads to which. -/
import Derived.Test.YtlljjaafejjeeaaKBase
namespace Go.Proofs.Ytlljjaafejjeeaa
open Go.RowKit

/-- How far two places are from each other. -/
def awayZ (x y u v : Int) : Int := max (x - u) (u - x) + max (y - v) (v - y)
/-- Is a sighting as described? -/
def okS (x y t : Int) : Bool := ((decide (-1000 ≤ x) && decide (x ≤ 1000)) && (decide (-1000 ≤ y) && decide (y ≤ 1000))) && (decide (0 ≤ t) && decide (t ≤ 10000))
theorem okS_iff {x y t : Int} : okS x y t = true ↔ -1000 ≤ x ∧ x ≤ 1000 ∧ -1000 ≤ y ∧ y ≤ 1000 ∧ 0 ≤ t ∧ t ≤ 10000 := by
  unfold okS
  simp only [Bool.and_eq_true, decide_eq_true_eq]
  omega
def leadsR (s : Int) (X Y T : Nat → Int) (i k : Nat) : Bool :=
  if X i = X k ∧ Y i = Y k ∧ T i = T k then decide (i < k) else decide (T i < T k) && decide (awayZ (X i) (Y i) (X k) (Y k) ≤ s * (T k - T i))
def validW (n : Nat) (s : Int) (X Y T : Nat → Int) : Bool := (decide (0 ≤ s) && decide (s ≤ 100)) && (decide (n ≤ 30) && allB n fun i => okS (X i) (Y i) (T i))
/-- What a watch's numbers keep to. -/
structure Watch (n : Nat) (s : Int) (X Y T : Nat → Int) : Prop where
  n30 : n ≤ 30
  s0 : 0 ≤ s
  s1 : s ≤ 100
  ok : ∀ i, i < n → -1000 ≤ X i ∧ X i ≤ 1000 ∧ -1000 ≤ Y i ∧ Y i ≤ 1000 ∧ 0 ≤ T i ∧ T i ≤ 10000
theorem watch_iff {n : Nat} {s : Int} {X Y T : Nat → Int} : validW n s X Y T = true ↔ Watch n s X Y T := by
  unfold validW
  simp only [Bool.and_eq_true, decide_eq_true_eq]
  constructor
  · rintro ⟨⟨a, b⟩, c, d⟩
    exact ⟨c, a, b, fun i hi => okS_iff.1 (allB_iff.1 d i hi)⟩
  · rintro ⟨a, b, c, d⟩
    exact ⟨⟨b, c⟩, a, allB_iff.2 fun i hi => okS_iff.2 (d i hi)⟩

theorem away_any (x y u v : Int) (w : World) (h1 : -1000 ≤ x ∧ x ≤ 1000) (h2 : -1000 ≤ y ∧ y ≤ 1000) (h3 : -1000 ≤ u ∧ u ≤ 1000) (h4 : -1000 ≤ v ∧ v ≤ 1000) :
    Gives Try.prog 53 #[.int .i64 x, .int .i64 y, .int .i64 u, .int .i64 v] w (.int .i64 (awayZ x y u v)) := by
  have w1 : IntKind.i64.wrap (x - u) = x - u := IntWalk.i64_in _ ⟨by omega, by omega⟩
  have w2 : IntKind.i64.wrap (u - x) = u - x := IntWalk.i64_in _ ⟨by omega, by omega⟩
  have w3 : IntKind.i64.wrap (y - v) = y - v := IntWalk.i64_in _ ⟨by omega, by omega⟩
  have w4 : IntKind.i64.wrap (v - y) = v - y := IntWalk.i64_in _ ⟨by omega, by omega⟩
  have w5 : IntKind.i64.wrap (max (x - u) (u - x) + max (y - v) (v - y)) = max (x - u) (u - x) + max (y - v) (v - y) := IntWalk.i64_in _ ⟨by omega, by omega⟩
  go_enter Try.func53, Try.ntmps53
  go_wp2
  all_goals
    go_ret
    exact ⟨ret_int (by unfold awayZ; omega), later_of (by repeat (first | exact Below.refl _ _ | (with_reducible assumption) | apply below_later | apply below_alloc | apply below_drew | apply below_drewN))⟩
set_option maxRecDepth 100000 in
set_option maxHeartbeats 3200000 in
theorem leads_any (s : Int) (n cap i k : Nat) (A : Option Addr) (X Y T : Nat → Int) (w : World) (hi : i < n) (hk : k < n) (W : Watch n s X Y T) (hp : IsChs w A n X Y T) :
    Gives Try.prog 43 #[.agg #[.slice A n cap, .int .i64 s], .int .i64 i, .int .i64 k] w (.bool (leadsR s X Y T i k)) := by
  have hn30 := W.n30
  have hs0 := W.s0
  have hs1 := W.s1
  obtain ⟨x1, x2, y1, y2, t1, t2⟩ := W.ok i hi
  obtain ⟨x3, x4, y3, y4, t3, t4⟩ := W.ok k hk
  have hb : Below w.heap.size w (w.alloc (.cells #[.slice A n cap, .int .i64 s] 53)) := (Below.refl _ _).alloc (Nat.le_refl _) _
  obtain ⟨c0, c1, l0⟩ := box2 w (.slice A n cap) (.int .i64 s) 53
  obtain ⟨b, off, hB, p⟩ := (hp.below hb).at_ (by omega)
  subst hB
  have e1 := p.f i hi
  have e2 := p.t i hi
  have e3 := p.v i hi
  have g1 := p.f k hk
  have g2 := p.t k hk
  have g3 := p.v k hk
  have lb := p.lt
  have HB := Lib.hid hb
  have HR : Hid (leadsR s X Y T i k = if X i = X k ∧ Y i = Y k ∧ T i = T k then decide (i < k) else decide (T i < T k) && decide (awayZ (X i) (Y i) (X k) (Y k) ≤ s * (T k - T i))) := rfl
  generalize leadsR s X Y T i k = r at *
  generalize X i = xi at *
  generalize Y i = yi at *
  generalize T i = ti at *
  generalize X k = xk at *
  generalize Y k = yk at *
  generalize T k = tk at *
  clear p hp W hb
  go_enter Try.func43, Try.ntmps43
  go_wp2_with fail
  obtain ⟨b9, hb9⟩ : ∃ b9, w.heap.size = b9 := ⟨_, rfl⟩
  rw [hb9] at c0 c1 l0 ⊢
  clear hb9
  generalize w.alloc (.cells #[.slice (some ⟨b, off, none⟩) n cap, .int .i64 s] 53) = Z at *
  go_cut [7, 8] (fun s7 s8 wx => ∃ B1 B2 : Nat, s7 = .pointer (some ⟨B1, 0, none⟩) ∧ s8 = .pointer (some ⟨B2, 0, none⟩) ∧
    (wx.cell? ⟨B1, 0, none⟩ = some (.int .i64 xi) ∧ wx.cell? ⟨B1, 1, none⟩ = some (.int .i64 yi) ∧ wx.cell? ⟨B1, 2, none⟩ = some (.int .i64 ti)) ∧
    (wx.cell? ⟨B2, 0, none⟩ = some (.int .i64 xk) ∧ wx.cell? ⟨B2, 1, none⟩ = some (.int .i64 yk) ∧ wx.cell? ⟨B2, 2, none⟩ = some (.int .i64 tk)) ∧ Below Z.heap.size Z wx)
  case first =>
    go_region
    all_goals
      go_wp2_with fail
      go_meet
      exact ⟨_, _, rfl, rfl, ⟨by simp [go_sem], by simp [go_sem], by simp [go_sem]⟩, ⟨by simp [go_sem], by simp [go_sem], by simp [go_sem]⟩, (by repeat (first | exact Below.refl _ _ | (with_reducible assumption) | apply below_later | apply below_alloc | apply below_drew | apply below_drewN))⟩
  case rest =>
    obtain ⟨B1, B2, rfl, rfl, ⟨f1, f2, f3⟩, ⟨f4, f5, f6⟩, hbx⟩ := hcut
    have l1 := World.block_lt_of_cell? _ _ f1
    have l2 := World.block_lt_of_cell? _ _ f4
    have d0 := (hbx.cell (p := ⟨b9, 0, none⟩) l0).trans c0
    have d1 := (hbx.cell (p := ⟨b9, 1, none⟩) l0).trans c1
    have l3 := Nat.lt_of_lt_of_le l0 hbx.size
    have HX := Lib.hid (below_more HB.out hbx)
    clear e1 e2 e3 g1 g2 g3 c0 c1 l0 hbx HB lb
    by_cases he : xi = xk ∧ yi = yk ∧ ti = tk
    · obtain ⟨rfl, rfl, rfl⟩ := he
      have HF : Hid (r = decide (i < k)) := by show _ = _; rw [HR.out, if_pos ⟨rfl, rfl, rfl⟩]
      clear HR
      go_wp2_with fail
      go_ret
      exact ⟨ret_bool (by rw [HF.out]), later_of HX.out⟩
    · have AW := Lib.hid fun w' => away_any xi yi xk yk w' ⟨x1, x2⟩ ⟨y1, y2⟩ ⟨x3, x4⟩ ⟨y3, y4⟩
      generalize awayZ xi yi xk yk = q at *
      by_cases hlt : ti < tk
      · have u1 : IntKind.i64.wrap (tk - ti) = tk - ti := IntWalk.i64_in _ ⟨by omega, by omega⟩
        have hm := mul_bd (a := s) (b := tk - ti) 100 10000 (by omega) hs1 (by omega) (by omega)
        have u2 : IntKind.i64.wrap (s * (tk - ti)) = s * (tk - ti) := IntWalk.i64_in _ ⟨by omega, by omega⟩
        have hd : decide (ti < tk) = true := decide_eq_true hlt
        have HF : Hid (r = decide (q ≤ s * (tk - ti))) := by show _ = _; rw [HR.out, if_neg he, hd, Bool.true_and]
        clear HR hm he
        go_wp2_with fail
        all_goals
          refine wp_region_later (by kernel_rfl) (by kernel_rfl) ?_
          repeat (go_big_quiet_step (((go_at_call 53; (with_reducible refine Later.call _ (AW.out _))))))
          refine wpQuiet_nil ?_
          intro y
          go_wp2_with fail
          go_ret
          exact ⟨ret_bool (by rw [HF.out]), later_of (below_more HX.out y.ok)⟩
      · have hd : decide (ti < tk) = false := decide_eq_false hlt
        have HF : Hid (r = false) := by show _ = _; rw [HR.out, if_neg he, hd, Bool.false_and]
        clear HR
        go_wp2_with fail
        all_goals (try (exfalso; exact he ⟨rfl, rfl, rfl⟩))
        all_goals
          refine wp_region_later (by kernel_rfl) (by kernel_rfl) ?_
          repeat (go_big_quiet_step (((go_at_call 53; (with_reducible refine Later.call _ (AW.out _))))))
          refine wpQuiet_nil ?_
          intro y
          go_wp2_with fail
          go_ret
          exact ⟨ret_bool (by rw [HF.out]), later_of (below_more HX.out y.ok)⟩
end Go.Proofs.Ytlljjaafejjeeaa
