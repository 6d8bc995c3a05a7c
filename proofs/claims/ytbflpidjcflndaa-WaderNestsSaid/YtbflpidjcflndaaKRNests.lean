/- The document's Nests and closed: walked. -/
import Derived.Test.YtbflpidjcflndaaKNests
namespace Go.Proofs.Ytbflpidjcflndaa
open Go.RowKit

theorem rplaceB_any (x y : Int) (w : World) : Gives Try.prog 55 #[.int .i64 x, .int .i64 y] w (.bool (placeB x y)) := rplace_any x y w
theorem rdayB_any (x : Int) (w : World) : Gives Try.prog 56 #[.int .i64 x] w (.bool (dayB x)) := rday_any x w
set_option maxRecDepth 100000 in
set_option maxHeartbeats 6400000 in
theorem rnests_any (A : Option Addr) (m cap : Nat) (X Y F T R : Nat → Int) (w : World) (hm : m ≤ 1000) (hp : IsNsts w A m X Y F T R) :
    Gives Try.prog 45 #[.slice A m cap] w (.bool (nestsB m X Y F T R)) := by
  have HP := Lib.hid hp
  have HR : Hid (nestsB m X Y F T R = (decide (m ≤ 50) && allB m fun i => okN (X i) (Y i) (F i) (T i) (R i))) := rfl
  clear hp
  generalize nestsB m X Y F T R = res at *
  go_enter Try.func45, Try.ntmps45
  go_wp2
  go_loopw [3] (fun u wr => ∃ k : Nat, k ≤ m ∧ u = .int .i64 k ∧ (∀ j, j < k → okN (X j) (Y j) (F j) (T j) (R j) = true) ∧ ∃ x : Later w, wr = x.val) (fun u _ => m - (intOf u).toNat)
  case atStart => exact ⟨0, by omega, rfl, by omega, later_of (by repeat (first | exact Below.refl _ _ | (with_reducible assumption) | apply below_later | apply below_alloc | apply below_drew | apply below_drewN))⟩
  case round =>
    obtain ⟨k, hk, rfl, hall, x, rfl⟩ := hrel
    have HALL := Lib.hid hall
    clear hall
    by_cases hlt : k < m
    · obtain ⟨b, off, hB, q⟩ := (HP.out.later x).at_ (by omega)
      subst hB
      have c0 := q.x k hlt
      have c1 := q.y k hlt
      have c2 := q.f k hlt
      have c3 := q.t k hlt
      have c4 := q.r k hlt
      have lb := q.lt
      clear q
      have P1 := Lib.hid fun w' => rplaceB_any (X k) (Y k) w'
      have D1 := Lib.hid fun w' => rdayB_any (F k) w'
      have D2 := Lib.hid fun w' => rdayB_any (T k) w'
      have R1 := Lib.hid fun w' => rfrom_any 0 (R k) 100 w'
      have HO : Hid (okN (X k) (Y k) (F k) (T k) (R k) = (placeB (X k) (Y k) && (dayB (F k) && (dayB (T k) && (decide (F k ≤ T k) && (decide (0 ≤ R k) && decide (R k ≤ 100))))))) := rfl
      have HF : Hid (okN (X k) (Y k) (F k) (T k) (R k) = false → res = false) := fun h => by rw [HR.out, allB_false hlt h]; simp
      have HT : Hid (okN (X k) (Y k) (F k) (T k) (R k) = true → ∀ j, j < k + 1 → okN (X j) (Y j) (F j) (T j) (R j) = true) := fun h => all_step HALL.out h
      generalize okN (X k) (Y k) (F k) (T k) (R k) = ok at *
      generalize placeB (X k) (Y k) = r1 at *
      generalize dayB (F k) = r2 at *
      generalize dayB (T k) = r3 at *
      generalize (decide (0 ≤ R k) && decide (R k ≤ 100)) = r5 at *
      generalize X k = xk at *
      generalize Y k = yk at *
      generalize F k = fk at *
      generalize T k = tk at *
      generalize R k = rk at *
      generalize hXV : x.val = XV at *
      have HXV := Lib.hid hXV
      have hbx : Hid (Below w.heap.size w XV) := hXV ▸ x.ok
      clear hXV
      have HX : Hid (∀ V, Below (XV.alloc (.cells #[.int .i64 xk, .int .i64 yk, .int .i64 fk, .int .i64 tk, .int .i64 rk] 62)).heap.size (XV.alloc (.cells #[.int .i64 xk, .int .i64 yk, .int .i64 fk, .int .i64 tk, .int .i64 rk] 62)) V → V.cell? ⟨XV.heap.size, 2, none⟩ = some (.int .i64 fk) ∧ V.cell? ⟨XV.heap.size, 3, none⟩ = some (.int .i64 tk) ∧ V.cell? ⟨XV.heap.size, 4, none⟩ = some (.int .i64 rk) ∧ XV.heap.size < V.heap.size) := fun V h => by
        obtain ⟨_, _, c2, c3, c4, l0⟩ := box5 XV (.int .i64 xk) (.int .i64 yk) (.int .i64 fk) (.int .i64 tk) (.int .i64 rk) 62
        exact ⟨(h.cell (p := ⟨XV.heap.size, 2, none⟩) l0).trans c2, (h.cell (p := ⟨XV.heap.size, 3, none⟩) l0).trans c3, (h.cell (p := ⟨XV.heap.size, 4, none⟩) l0).trans c4, Nat.lt_of_lt_of_le l0 h.size⟩
      obtain ⟨n0, n1, n2, n3, n4, n5⟩ := box5 XV (.int .i64 xk) (.int .i64 yk) (.int .i64 fk) (.int .i64 tk) (.int .i64 rk) 62
      obtain ⟨g4, hg4⟩ : ∃ g4 : Bool, decide (fk ≤ tk) = g4 := ⟨_, rfl⟩
      rw [hg4] at HO
      have FIN : Hid (∀ V, Below w.heap.size w V → ∃ y : Later w, V = y.val) := fun V h => ⟨⟨V, h⟩, rfl⟩
      rcases r1 with _ | _
      · have HE : Hid (res = false) := HF.out HO.out
        go_wp2_with (first | (go_at_call 55; with_reducible refine Calls.mono (Gives.calls (P1.out _)) ?_; rintro e w1 ⟨rfl, z, rfl⟩))
        go_ret
        exact ⟨ret_bool (by rw [HE.out]), FIN.out _ (below_more hbx.out (by repeat (first | exact Below.refl _ _ | (with_reducible assumption) | apply below_later | apply below_alloc | apply below_drew | apply below_drewN)))⟩
      rcases r2 with _ | _
      · have HE : Hid (res = false) := HF.out HO.out
        go_wp2_with (first | (go_at_call 55; with_reducible refine Calls.mono (Gives.calls (P1.out _)) ?_; rintro e w1 ⟨rfl, z, rfl⟩) | ((go_at_call 56; with_reducible refine Calls.mono (Gives.calls (D1.out _)) ?_; rintro e w1 ⟨rfl, z2, rfl⟩); obtain ⟨p2, p3, p4, p5⟩ := HX.out z2.val (by repeat (first | exact Below.refl _ _ | (with_reducible assumption) | apply below_later | apply below_alloc | apply below_drew | apply below_drewN))))
        go_ret
        exact ⟨ret_bool (by rw [HE.out]), FIN.out _ (below_more hbx.out (by repeat (first | exact Below.refl _ _ | (with_reducible assumption) | apply below_later | apply below_alloc | apply below_drew | apply below_drewN)))⟩
      rcases r3 with _ | _
      · have HE : Hid (res = false) := HF.out HO.out
        go_wp2_with (first | (go_at_call 55; with_reducible refine Calls.mono (Gives.calls (P1.out _)) ?_; rintro e w1 ⟨rfl, z, rfl⟩) | ((go_at_call 56; with_reducible refine Calls.mono (Gives.calls (D1.out _)) ?_; rintro e w1 ⟨rfl, z2, rfl⟩); obtain ⟨p2, p3, p4, p5⟩ := HX.out z2.val (by repeat (first | exact Below.refl _ _ | (with_reducible assumption) | apply below_later | apply below_alloc | apply below_drew | apply below_drewN))) | ((go_at_call 56; with_reducible refine Calls.mono (Gives.calls (D2.out _)) ?_; rintro e w1 ⟨rfl, z3, rfl⟩); obtain ⟨p2, p3, p4, p5⟩ := HX.out z3.val (by repeat (first | exact Below.refl _ _ | (with_reducible assumption) | apply below_later | apply below_alloc | apply below_drew | apply below_drewN))))
        go_ret
        exact ⟨ret_bool (by rw [HE.out]), FIN.out _ (below_more hbx.out (by repeat (first | exact Below.refl _ _ | (with_reducible assumption) | apply below_later | apply below_alloc | apply below_drew | apply below_drewN)))⟩
      rcases g4 with _ | _
      · have HE : Hid (res = false) := HF.out HO.out
        have hd : decide (tk < fk) = true := by simp only [decide_eq_false_iff_not] at hg4; simp; omega
        clear hg4
        go_wp2_with (first | (go_at_call 55; with_reducible refine Calls.mono (Gives.calls (P1.out _)) ?_; rintro e w1 ⟨rfl, z, rfl⟩) | ((go_at_call 56; with_reducible refine Calls.mono (Gives.calls (D1.out _)) ?_; rintro e w1 ⟨rfl, z2, rfl⟩); obtain ⟨p2, p3, p4, p5⟩ := HX.out z2.val (by repeat (first | exact Below.refl _ _ | (with_reducible assumption) | apply below_later | apply below_alloc | apply below_drew | apply below_drewN))) | ((go_at_call 56; with_reducible refine Calls.mono (Gives.calls (D2.out _)) ?_; rintro e w1 ⟨rfl, z3, rfl⟩); obtain ⟨p2, p3, p4, p5⟩ := HX.out z3.val (by repeat (first | exact Below.refl _ _ | (with_reducible assumption) | apply below_later | apply below_alloc | apply below_drew | apply below_drewN))))
        go_ret
        exact ⟨ret_bool (by rw [HE.out]), FIN.out _ (below_more hbx.out (by repeat (first | exact Below.refl _ _ | (with_reducible assumption) | apply below_later | apply below_alloc | apply below_drew | apply below_drewN)))⟩
      have hd : decide (tk < fk) = false := by simp only [decide_eq_true_eq] at hg4; simp; omega
      clear hg4
      rcases r5 with _ | _
      · have HE : Hid (res = false) := HF.out HO.out
        go_wp2_with (first | (go_at_call 55; with_reducible refine Calls.mono (Gives.calls (P1.out _)) ?_; rintro e w1 ⟨rfl, z, rfl⟩) | ((go_at_call 56; with_reducible refine Calls.mono (Gives.calls (D1.out _)) ?_; rintro e w1 ⟨rfl, z2, rfl⟩); obtain ⟨p2, p3, p4, p5⟩ := HX.out z2.val (by repeat (first | exact Below.refl _ _ | (with_reducible assumption) | apply below_later | apply below_alloc | apply below_drew | apply below_drewN))) | ((go_at_call 56; with_reducible refine Calls.mono (Gives.calls (D2.out _)) ?_; rintro e w1 ⟨rfl, z3, rfl⟩); obtain ⟨p2, p3, p4, p5⟩ := HX.out z3.val (by repeat (first | exact Below.refl _ _ | (with_reducible assumption) | apply below_later | apply below_alloc | apply below_drew | apply below_drewN))) | (go_at_call 49; with_reducible refine Calls.mono (Gives.calls (R1.out _)) ?_; rintro e w1 ⟨rfl, z4, rfl⟩))
        go_ret
        exact ⟨ret_bool (by rw [HE.out]), FIN.out _ (below_more hbx.out (by repeat (first | exact Below.refl _ _ | (with_reducible assumption) | apply below_later | apply below_alloc | apply below_drew | apply below_drewN)))⟩
      · have HE := Lib.hid (HT.out HO.out)
        go_wp2_with (first | (go_at_call 55; with_reducible refine Calls.mono (Gives.calls (P1.out _)) ?_; rintro e w1 ⟨rfl, z, rfl⟩) | ((go_at_call 56; with_reducible refine Calls.mono (Gives.calls (D1.out _)) ?_; rintro e w1 ⟨rfl, z2, rfl⟩); obtain ⟨p2, p3, p4, p5⟩ := HX.out z2.val (by repeat (first | exact Below.refl _ _ | (with_reducible assumption) | apply below_later | apply below_alloc | apply below_drew | apply below_drewN))) | ((go_at_call 56; with_reducible refine Calls.mono (Gives.calls (D2.out _)) ?_; rintro e w1 ⟨rfl, z3, rfl⟩); obtain ⟨p2, p3, p4, p5⟩ := HX.out z3.val (by repeat (first | exact Below.refl _ _ | (with_reducible assumption) | apply below_later | apply below_alloc | apply below_drew | apply below_drewN))) | (go_at_call 49; with_reducible refine Calls.mono (Gives.calls (R1.out _)) ?_; rintro e w1 ⟨rfl, z4, rfl⟩))
        go_roundw
        case rel => exact ⟨k + 1, by omega, by go_num, HE.out, FIN.out _ (below_more hbx.out (by repeat (first | exact Below.refl _ _ | (with_reducible assumption) | apply below_later | apply below_alloc | apply below_drew | apply below_drewN)))⟩
        case measure => simp [intOf]; omega
    · obtain rfl : k = m := by omega
      have HA : Hid (allB k (fun i => okN (X i) (Y i) (F i) (T i) (R i)) = true) := allB_true (p := fun i => okN (X i) (Y i) (F i) (T i) (R i)) HALL.out
      go_wp2
      go_ret
      exact ⟨ret_bool (by rw [HR.out, HA.out]; simp; try omega), later_of (by repeat (first | exact Below.refl _ _ | (with_reducible assumption) | apply below_later | apply below_alloc | apply below_drew | apply below_drewN))⟩
set_option maxRecDepth 100000 in
set_option maxHeartbeats 3200000 in
theorem rclosed_any (A : Option Addr) (m cap : Nat) (X Y F T R : Nat → Int) (ax ay d : Int) (w : World) (hn : nestsB m X Y F T R = true) (ha : placeB ax ay = true) (hp : IsNsts w A m X Y F T R) :
    Gives Try.prog 76 #[.slice A m cap, .agg #[.int .i64 ax, .int .i64 ay], .int .i64 d] w (.bool (shutN m X Y F T R ax ay d)) := by
  obtain ⟨hm, hok⟩ := nests_facts hn
  have hb : Below w.heap.size w (w.alloc (.cells #[.int .i64 ax, .int .i64 ay] 52)) := (Below.refl _ _).alloc (Nat.le_refl _) _
  obtain ⟨n0, n1, l0⟩ := box2 w (.int .i64 ax) (.int .i64 ay) 52
  unfold placeB at ha
  simp only [Bool.and_eq_true, decide_eq_true_eq] at ha
  have HP := Lib.hid (hp.below hb)
  have HB := Lib.hid hb
  have HR : Hid (shutN m X Y F T R ax ay d = anyN m fun i => shutB (X i) (Y i) (F i) (T i) (R i) ax ay d) := rfl
  have HOK := Lib.hid fun k hk => okN_place (hok k hk)
  generalize shutN m X Y F T R ax ay d = res at *
  clear hp hn hok hb
  go_enter Try.func76, Try.ntmps76
  go_wp2
  obtain ⟨b9, hb9⟩ : ∃ b9, w.heap.size = b9 := ⟨_, rfl⟩
  rw [hb9] at n0 n1 l0 ⊢
  clear hb9
  generalize w.alloc (.cells #[.int .i64 ax, .int .i64 ay] 52) = Z at *
  go_loopw [7] (fun u wr => ∃ k : Nat, k ≤ m ∧ u = .int .i64 k ∧ (∀ j, j < k → shutB (X j) (Y j) (F j) (T j) (R j) ax ay d = false) ∧ ∃ x : Later Z, wr = x.val) (fun u _ => m - (intOf u).toNat)
  case atStart => exact ⟨0, by omega, rfl, by omega, later_of (by repeat (first | exact Below.refl _ _ | (with_reducible assumption) | apply below_later | apply below_alloc | apply below_drew | apply below_drewN))⟩
  case round =>
    obtain ⟨k, hk, rfl, hall, x, rfl⟩ := hrel
    have HALL := Lib.hid hall
    clear hall
    by_cases hlt : k < m
    · obtain ⟨b, off, hB, q⟩ := (HP.out.later x).at_ (by omega)
      subst hB
      have c0 := q.x k hlt
      have c1 := q.y k hlt
      have c2 := q.f k hlt
      have c3 := q.t k hlt
      have c4 := q.r k hlt
      have lb := q.lt
      have e0 := (x.cell _ 0 l0).trans n0
      have e1 := (x.cell _ 1 l0).trans n1
      have e2 := x.lt _ l0
      clear q
      have hx := HOK.out k hlt
      unfold placeB at hx
      simp only [Bool.and_eq_true, decide_eq_true_eq] at hx
      have AW : Hid (∀ w', Gives Try.prog 78 #[.int .i64 ax, .int .i64 ay, .int .i64 (X k), .int .i64 (Y k)] w' (.int .i64 (awayZ (X k) (Y k) ax ay))) := fun w' => awayZ_comm ax ay (X k) (Y k) ▸ rapart_any ax ay (X k) (Y k) w' ha.1 ha.2 hx.1 hx.2
      have FR := Lib.hid fun w' => rfrom_any (F k) d (T k) w'
      have HO : Hid (shutB (X k) (Y k) (F k) (T k) (R k) ax ay d = ((decide (F k ≤ d) && decide (d ≤ T k)) && decide (awayZ (X k) (Y k) ax ay ≤ R k))) := rfl
      have HT : Hid (shutB (X k) (Y k) (F k) (T k) (R k) ax ay d = true → res = true) := fun h => by rw [HR.out]; exact anyN_iff.2 ⟨k, hlt, h⟩
      have HN : Hid (shutB (X k) (Y k) (F k) (T k) (R k) ax ay d = false → ∀ j, j < k + 1 → shutB (X j) (Y j) (F j) (T j) (R j) ax ay d = false) := fun h j hj => by
        by_cases e : j = k
        · subst e; exact h
        · exact HALL.out j (by omega)
      clear hx
      generalize shutB (X k) (Y k) (F k) (T k) (R k) ax ay d = sk at *
      generalize awayZ (X k) (Y k) ax ay = qk at *
      generalize (decide (F k ≤ d) && decide (d ≤ T k)) = r1 at *
      generalize X k = xk at *
      generalize Y k = yk at *
      generalize F k = fk at *
      generalize T k = tk at *
      generalize R k = rk at *
      by_cases hq : qk ≤ rk
      · have hd : decide (qk ≤ rk) = true := decide_eq_true hq
        rcases r1 with _ | _
        · have HE := Lib.hid (HN.out (by rw [HO.out]; rfl))
          go_wp2_with fail
          refine wp_region_later (by kernel_rfl) (by kernel_rfl) ?_
          repeat (go_big_quiet_step ((first | (go_at_call 78; (with_reducible refine Later.call _ (AW.out _))) | (go_at_call 49; (with_reducible refine Later.call _ (FR.out _))))))
          refine wpQuiet_nil ?_
          intro y
          go_wp2
          go_roundw
          case rel => exact ⟨k + 1, by omega, by go_num, HE.out, later_of (by repeat (first | exact Below.refl _ _ | (with_reducible assumption) | apply below_later | apply below_alloc | apply below_drew | apply below_drewN))⟩
          case measure => simp [intOf]; omega
        · have HE := Lib.hid (HT.out (by rw [HO.out, hd]; rfl))
          go_wp2_with fail
          refine wp_region_later (by kernel_rfl) (by kernel_rfl) ?_
          repeat (go_big_quiet_step ((first | (go_at_call 78; (with_reducible refine Later.call _ (AW.out _))) | (go_at_call 49; (with_reducible refine Later.call _ (FR.out _))))))
          refine wpQuiet_nil ?_
          intro y
          go_wp2
          go_ret
          exact ⟨ret_bool (by rw [HE.out]), later_of (below_more HB.out (by repeat (first | exact Below.refl _ _ | (with_reducible assumption) | apply below_later | apply below_alloc | apply below_drew | apply below_drewN)))⟩
      · have hd : decide (qk ≤ rk) = false := decide_eq_false hq
        have HE := Lib.hid (HN.out (by rw [HO.out, hd, Bool.and_false]))
        go_wp2_with fail
        refine wp_region_later (by kernel_rfl) (by kernel_rfl) ?_
        repeat (go_big_quiet_step ((first | (go_at_call 78; (with_reducible refine Later.call _ (AW.out _))) | (go_at_call 49; (with_reducible refine Later.call _ (FR.out _))))))
        refine wpQuiet_nil ?_
        intro y
        go_wp2
        go_roundw
        case rel => exact ⟨k + 1, by omega, by go_num, HE.out, later_of (by repeat (first | exact Below.refl _ _ | (with_reducible assumption) | apply below_later | apply below_alloc | apply below_drew | apply below_drewN))⟩
        case measure => simp [intOf]; omega
    · obtain rfl : k = m := by omega
      have HA : Hid (res = false) := by show _ = _; rw [HR.out]; exact anyN_no HALL.out
      go_wp2
      go_ret
      exact ⟨ret_bool HA.out.symm, later_of (below_more HB.out (by repeat (first | exact Below.refl _ _ | (with_reducible assumption) | apply below_later | apply below_alloc | apply below_drew | apply below_drewN)))⟩
end Go.Proofs.Ytbflpidjcflndaa
