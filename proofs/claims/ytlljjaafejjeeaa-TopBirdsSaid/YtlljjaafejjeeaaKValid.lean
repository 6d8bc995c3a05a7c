/- wader.Valid and the document's Valid: walked. -/
import Derived.Test.YtlljjaafejjeeaaKRFrom
namespace Go.Proofs.Ytlljjaafejjeeaa
open Go.RowKit

theorem isPlace_any (x y : Int) (w : World) : Gives Try.prog 37 #[.int .i64 x, .int .i64 y] w (.bool ((decide (-1000 ≤ x) && decide (x ≤ 1000)) && (decide (-1000 ≤ y) && decide (y ≤ 1000)))) := by
  by_cases h1 : -1000 ≤ x
  · by_cases h2 : x ≤ 1000
    · by_cases h3 : -1000 ≤ y <;> by_cases h4 : y ≤ 1000
      all_goals
        go_enter Try.func37, Try.ntmps37
        go_wp2
        go_ret
        exact ⟨ret_bool (by simp [h1, h2, h3, h4]), later_of (by repeat (first | exact Below.refl _ _ | (with_reducible assumption) | apply below_later | apply below_alloc | apply below_drew | apply below_drewN))⟩
    · go_enter Try.func37, Try.ntmps37
      go_wp2
      go_ret
      exact ⟨ret_bool (by simp [h2]; try omega), later_of (by repeat (first | exact Below.refl _ _ | (with_reducible assumption) | apply below_later | apply below_alloc | apply below_drew | apply below_drewN))⟩
  · go_enter Try.func37, Try.ntmps37
    go_wp2
    go_ret
    exact ⟨ret_bool (by simp [h1]; try omega), later_of (by repeat (first | exact Below.refl _ _ | (with_reducible assumption) | apply below_later | apply below_alloc | apply below_drew | apply below_drewN))⟩
theorem isTime_any (x : Int) (w : World) : Gives Try.prog 38 #[.int .i64 x] w (.bool (decide (0 ≤ x) && decide (x ≤ 10000))) := by
  by_cases h1 : 0 ≤ x <;> by_cases h2 : x ≤ 10000
  all_goals
    go_enter Try.func38, Try.ntmps38
    go_wp2
    go_ret
    exact ⟨ret_bool (by simp [h1, h2]), later_of (by repeat (first | exact Below.refl _ _ | (with_reducible assumption) | apply below_later | apply below_alloc | apply below_drew | apply below_drewN))⟩
set_option maxRecDepth 100000 in
set_option maxHeartbeats 1600000 in
theorem kvalid1_any (x y t : Int) (w : World) :
    Gives Try.prog 36 #[.agg #[.int .i64 x, .int .i64 y, .int .i64 t]] w (.bool (!okS x y t)) := by
  have P1 := Lib.hid fun w' => isPlace_any x y w'
  have P2 := Lib.hid fun w' => isTime_any t w'
  have HR : Hid ((!okS x y t) = !(((decide (-1000 ≤ x) && decide (x ≤ 1000)) && (decide (-1000 ≤ y) && decide (y ≤ 1000))) && (decide (0 ≤ t) && decide (t ≤ 10000)))) := rfl
  obtain ⟨c0, c1, c2, l0⟩ := box3 w (.int .i64 x) (.int .i64 y) (.int .i64 t) 44
  generalize ((decide (-1000 ≤ x) && decide (x ≤ 1000)) && (decide (-1000 ≤ y) && decide (y ≤ 1000))) = r1 at *
  generalize (decide (0 ≤ t) && decide (t ≤ 10000)) = r2 at *
  generalize (!okS x y t) = r at *
  rcases r1 with _ | _
  all_goals
    go_enter Try.func36, Try.ntmps36
    go_wp2_with (first | (go_at_call 37; (first | (with_reducible show Calls _ _ _ (Later.val _) _; with_reducible refine Calls.mono (Later.call _ (P1.out _)) ?_) | (with_reducible refine Calls.mono (Gives.calls (P1.out _)) ?_)); rintro e w1 ⟨rfl, y1, rfl⟩) | (go_at_call 38; (first | (with_reducible show Calls _ _ _ (Later.val _) _; with_reducible refine Calls.mono (Later.call _ (P2.out _)) ?_) | (with_reducible refine Calls.mono (Gives.calls (P2.out _)) ?_)); rintro e w1 ⟨rfl, y2, rfl⟩))
    go_ret
    exact ⟨ret_bool (by rw [HR.out]; simp), later_of (by repeat (first | exact Below.refl _ _ | (with_reducible assumption) | apply below_later | apply below_alloc | apply below_drew | apply below_drewN))⟩
set_option maxRecDepth 100000 in
set_option maxHeartbeats 1600000 in
theorem kindex_any (A : Option Addr) (m cap : Nat) (X Y T : Nat → Int) (w : World) (hm : m ≤ 1000) (hp : IsChs w A m X Y T) :
    Calls Try.prog 49 #[.slice A m cap, .func (.func 36) #[] #[]] w fun e w' => ∃ r : Int, e = .returned (.int .i64 r) ∧ (∃ x : Later w, w' = x.val) ∧ (0 ≤ r ↔ allB m (fun i => okS (X i) (Y i) (T i)) = false) ∧ -1 ≤ r ∧ r ≤ m := by
  have HP := Lib.hid hp
  clear hp
  go_enter Try.func49, Try.ntmps49
  go_wp2
  go_loopw [8] (fun u wr => ∃ k : Nat, k ≤ m ∧ u = .int .i64 k ∧ (∀ j, j < k → okS (X j) (Y j) (T j) = true) ∧ ∃ x : Later w, wr = x.val) (fun u _ => m - (intOf u).toNat)
  case atStart => exact ⟨0, by omega, rfl, by omega, later_of (by repeat (first | exact Below.refl _ _ | (with_reducible assumption) | apply below_later | apply below_alloc | apply below_drew | apply below_drewN))⟩
  case round =>
    obtain ⟨k, hk, rfl, hall, x, rfl⟩ := hrel
    have HALL := Lib.hid hall
    clear hall
    by_cases hlt : k < m
    · obtain ⟨b, off, hB, p⟩ := (HP.out.later x).at_ (by omega)
      subst hB
      have cf := p.f k hlt
      have ct := p.t k hlt
      have cv := p.v k hlt
      have lb := p.lt
      clear p
      have A1 := Lib.hid (kvalid1_any (X k) (Y k) (T k) x.val)
      cases hF : okS (X k) (Y k) (T k)
      · have F0 := Lib.hid hF
        rw [hF] at A1
        clear hF
        go_wp2_with (go_at_call 36; (first | (with_reducible show Calls _ _ _ (Later.val _) _; with_reducible refine Calls.mono (Later.call _ (A1.out)) ?_) | (with_reducible refine Calls.mono (Gives.calls (A1.out)) ?_)); rintro e w1 ⟨rfl, z, rfl⟩)
        go_ret
        exact ⟨(k : Int), rfl, later_of (by repeat (first | exact Below.refl _ _ | (with_reducible assumption) | apply below_later | apply below_alloc | apply below_drew | apply below_drewN)), ⟨fun _ => allB_false hlt F0.out, fun _ => by omega⟩, by omega, by omega⟩
      · have F0 := Lib.hid hF
        rw [hF] at A1
        clear hF
        go_wp2_with (go_at_call 36; (first | (with_reducible show Calls _ _ _ (Later.val _) _; with_reducible refine Calls.mono (Later.call _ (A1.out)) ?_) | (with_reducible refine Calls.mono (Gives.calls (A1.out)) ?_)); rintro e w1 ⟨rfl, z, rfl⟩)
        go_roundw
        case rel => exact ⟨k + 1, by omega, by go_num, all_step HALL.out F0.out, later_of (by repeat (first | exact Below.refl _ _ | (with_reducible assumption) | apply below_later | apply below_alloc | apply below_drew | apply below_drewN))⟩
        case measure => simp [intOf]; omega
    · obtain rfl : k = m := by omega
      go_wp2
      go_ret
      exact ⟨(-1 : Int), rfl, later_of (by repeat (first | exact Below.refl _ _ | (with_reducible assumption) | apply below_later | apply below_alloc | apply below_drew | apply below_drewN)), ⟨fun h => by omega, fun h => by rw [allB_true (p := fun i => okS (X i) (Y i) (T i)) HALL.out] at h; cases h⟩, by omega, by omega⟩
theorem kcontains_any (A : Option Addr) (m cap : Nat) (X Y T : Nat → Int) (w : World) (hm : m ≤ 1000) (hp : IsChs w A m X Y T) :
    Gives Try.prog 35 #[.slice A m cap, .func (.func 36) #[] #[]] w (.bool (!allB m fun i => okS (X i) (Y i) (T i))) := by
  have HI := Lib.hid (kindex_any A m cap X Y T w hm hp)
  clear hp
  generalize allB m (fun i => okS (X i) (Y i) (T i)) = r at *
  go_enter Try.func35, Try.ntmps35
  go_wp2_with (go_at_call 49; refine Calls.mono HI.out ?_; rintro e w1 ⟨q, rfl, ⟨x, rfl⟩, hq, hq1, hq2⟩; have HQ := Lib.hid hq)
  go_ret
  refine ⟨ret_bool ?_, later_of (by repeat (first | exact Below.refl _ _ | (with_reducible assumption) | apply below_later | apply below_alloc | apply below_drew | apply below_drewN))⟩
  have := HQ.out
  cases r <;> simp_all
set_option maxRecDepth 100000 in
set_option maxHeartbeats 1600000 in
/-- More than 30 sightings need not be read. -/
theorem kvalid_any (s : Int) (A : Option Addr) (m cap : Nat) (X Y T : Nat → Int) (w : World) (hp : m ≤ 30 → IsChs w A m X Y T) :
    Gives Try.prog 21 #[.slice A m cap, .int .i64 s] w (.bool (validW m s X Y T)) := by
  have HR : Hid (validW m s X Y T = ((decide (0 ≤ s) && decide (s ≤ 100)) && (decide (m ≤ 30) && allB m fun i => okS (X i) (Y i) (T i)))) := rfl
  have C0 : m ≤ 30 → ∀ z : Later w, Gives Try.prog 35 #[.slice A m cap, .func (.func 36) #[] #[]] z.val (.bool (!allB m fun i => okS (X i) (Y i) (T i))) := fun h z =>
    kcontains_any A m cap X Y T z.val (by omega) ((hp h).later z)
  generalize allB m (fun i => okS (X i) (Y i) (T i)) = r0 at *
  generalize validW m s X Y T = r at *
  have C1 := Lib.hid C0
  clear C0 hp
  by_cases h1 : s < 0
  · have D : Hid (r = false) := by show _ = _; rw [HR.out, decide_eq_false (by omega : ¬ (0 ≤ s))]; simp
    go_enter Try.func21, Try.ntmps21
    go_wp2
    go_ret
    exact ⟨ret_bool D.out.symm, later_of (by repeat (first | exact Below.refl _ _ | (with_reducible assumption) | apply below_later | apply below_alloc | apply below_drew | apply below_drewN))⟩
  · by_cases h2 : s > 100
    · have D : Hid (r = false) := by show _ = _; rw [HR.out, decide_eq_false (by omega : ¬ (s ≤ 100))]; simp
      go_enter Try.func21, Try.ntmps21
      go_wp2
      go_ret
      exact ⟨ret_bool D.out.symm, later_of (by repeat (first | exact Below.refl _ _ | (with_reducible assumption) | apply below_later | apply below_alloc | apply below_drew | apply below_drewN))⟩
    · by_cases h3 : m ≤ 30
      · have D : Hid (r = r0) := by show _ = _; rw [HR.out]; simp [h3]; try omega
        go_enter Try.func21, Try.ntmps21
        go_wp2_with (go_at_call 35; first | (refine Calls.mono (Gives.calls (C1.out h3 _)) ?_; rintro e w1 ⟨rfl, y, rfl⟩) | (refine Calls.mono (Gives.calls (C1.out h3 ⟨_, Below.refl _ _⟩)) ?_; rintro e w1 ⟨rfl, y, rfl⟩))
        go_ret
        exact ⟨ret_bool (by rw [D.out]; try simp), later_of (by repeat (first | exact Below.refl _ _ | (with_reducible assumption) | apply below_later | apply below_alloc | apply below_drew | apply below_drewN))⟩
      · have D : Hid (r = false) := by show _ = _; rw [HR.out]; simp [h3]
        go_enter Try.func21, Try.ntmps21
        go_wp2
        go_ret
        exact ⟨ret_bool D.out.symm, later_of (by repeat (first | exact Below.refl _ _ | (with_reducible assumption) | apply below_later | apply below_alloc | apply below_drew | apply below_drewN))⟩
set_option maxRecDepth 100000 in
set_option maxHeartbeats 3200000 in
theorem krvalid_any (s : Int) (A : Option Addr) (m cap : Nat) (X Y T : Nat → Int) (w : World) (hm : m ≤ 1000) (hp : IsChs w A m X Y T) :
    Gives Try.prog 4 #[.slice A m cap, .int .i64 s] w (.bool (validW m s X Y T)) := by
  have HP := Lib.hid hp
  have FR := Lib.hid fun w' => rfrom_any 0 s 100 w'
  have HR : Hid (validW m s X Y T = ((decide (0 ≤ s) && decide (s ≤ 100)) && (decide (m ≤ 30) && allB m fun i => okS (X i) (Y i) (T i)))) := rfl
  clear hp
  generalize (decide (0 ≤ s) && decide (s ≤ 100)) = r1 at *
  generalize validW m s X Y T = r at *
  go_enter Try.func4, Try.ntmps4
  go_wp2
  go_loopw [5] (fun u wr => ∃ k : Nat, k ≤ m ∧ u = .int .i64 k ∧ (∀ j, j < k → okS (X j) (Y j) (T j) = true) ∧ ∃ x : Later w, wr = x.val) (fun u _ => m - (intOf u).toNat)
  case atStart => exact ⟨0, by omega, rfl, by omega, later_of (by repeat (first | exact Below.refl _ _ | (with_reducible assumption) | apply below_later | apply below_alloc | apply below_drew | apply below_drewN))⟩
  case round =>
    obtain ⟨k, hk, rfl, hall, x, rfl⟩ := hrel
    have HALL := Lib.hid hall
    clear hall
    by_cases hlt : k < m
    · obtain ⟨b, off, hB, p⟩ := (HP.out.later x).at_ (by omega)
      subst hB
      have cf := p.f k hlt
      have ct := p.t k hlt
      have cv := p.v k hlt
      have lb := p.lt
      clear p
      have P1 := Lib.hid fun w' => rplace_any (X k) (Y k) w'
      have P2 := Lib.hid fun w' => rday_any (T k) w'
      have HO : Hid (okS (X k) (Y k) (T k) = (((decide (-1000 ≤ X k) && decide (X k ≤ 1000)) && (decide (-1000 ≤ Y k) && decide (Y k ≤ 1000))) && (decide (0 ≤ T k) && decide (T k ≤ 10000)))) := rfl
      generalize ((decide (-1000 ≤ X k) && decide (X k ≤ 1000)) && (decide (-1000 ≤ Y k) && decide (Y k ≤ 1000))) = r2 at *
      generalize (decide (0 ≤ T k) && decide (T k ≤ 10000)) = r3 at *
      rcases r2 with _ | _
      · have F0 : Hid (okS (X k) (Y k) (T k) = false) := by show _ = _; rw [HO.out]; rfl
        clear HO
        go_wp2_with fail
        refine wp_region_later (by kernel_rfl) (by kernel_rfl) ?_
        repeat (go_big_quiet_step ((first | (go_at_call 16; (with_reducible refine Later.call _ (P1.out _))) | (go_at_call 17; (with_reducible refine Later.call _ (P2.out _))))))
        refine wpQuiet_nil ?_
        intro y
        go_wp2_with fail
        go_ret
        exact ⟨ret_bool (by rw [HR.out, allB_false hlt F0.out]; simp), later_of (by repeat (first | exact Below.refl _ _ | (with_reducible assumption) | apply below_later | apply below_alloc | apply below_drew | apply below_drewN))⟩
      · rcases r3 with _ | _
        · have F0 : Hid (okS (X k) (Y k) (T k) = false) := by show _ = _; rw [HO.out]; rfl
          clear HO
          go_wp2_with fail
          refine wp_region_later (by kernel_rfl) (by kernel_rfl) ?_
          repeat (go_big_quiet_step ((first | (go_at_call 16; (with_reducible refine Later.call _ (P1.out _))) | (go_at_call 17; (with_reducible refine Later.call _ (P2.out _))))))
          refine wpQuiet_nil ?_
          intro y
          go_wp2_with fail
          go_ret
          exact ⟨ret_bool (by rw [HR.out, allB_false hlt F0.out]; simp), later_of (by repeat (first | exact Below.refl _ _ | (with_reducible assumption) | apply below_later | apply below_alloc | apply below_drew | apply below_drewN))⟩
        · have F0 : Hid (okS (X k) (Y k) (T k) = true) := by show _ = _; rw [HO.out]; rfl
          clear HO
          go_wp2_with fail
          refine wp_region_later (by kernel_rfl) (by kernel_rfl) ?_
          repeat (go_big_quiet_step ((first | (go_at_call 16; (with_reducible refine Later.call _ (P1.out _))) | (go_at_call 17; (with_reducible refine Later.call _ (P2.out _))))))
          refine wpQuiet_nil ?_
          intro y
          go_wp2_with fail
          go_roundw
          case rel => exact ⟨k + 1, by omega, by go_num, all_step HALL.out F0.out, later_of (by repeat (first | exact Below.refl _ _ | (with_reducible assumption) | apply below_later | apply below_alloc | apply below_drew | apply below_drewN))⟩
          case measure => simp [intOf]; omega
    · obtain rfl : k = m := by omega
      have HA : Hid (allB k (fun i => okS (X i) (Y i) (T i)) = true) := allB_true (p := fun i => okS (X i) (Y i) (T i)) HALL.out
      by_cases h3 : k ≤ 30
      · go_wp2_with ((go_at_call 18; with_reducible refine Calls.mono (Gives.calls (FR.out _)) ?_; rintro e w1 ⟨rfl, z, rfl⟩))
        go_ret
        exact ⟨ret_bool (by rw [HR.out, HA.out]; simp [h3]), later_of (by repeat (first | exact Below.refl _ _ | (with_reducible assumption) | apply below_later | apply below_alloc | apply below_drew | apply below_drewN))⟩
      · go_wp2_with ((go_at_call 18; with_reducible refine Calls.mono (Gives.calls (FR.out _)) ?_; rintro e w1 ⟨rfl, z, rfl⟩))
        go_ret
        exact ⟨ret_bool (by rw [HR.out]; simp [h3]), later_of (by repeat (first | exact Below.refl _ _ | (with_reducible assumption) | apply below_later | apply below_alloc | apply below_drew | apply below_drewN))⟩
end Go.Proofs.Ytlljjaafejjeeaa
