/- The law's own Valid: walked. -/
import Derived.Test.YtelfinjnbncnlaaSRef
namespace Go.Proofs.Ytelfinjnbncnlaa
open Go.RowKit

theorem sluB_eq (n : Nat) (a s : Int) : sluB n a s = ((decide (0 ≤ a) && decide (a ≤ (n : Int) - 1)) && (decide (0 ≤ s) && decide (s ≤ 1000))) := by
  unfold sluB numB
  rw [Bool.eq_iff_iff]
  simp only [Bool.and_eq_true, decide_eq_true_eq]
  omega
set_option maxRecDepth 100000 in
set_option maxHeartbeats 3200000 in
theorem rvalid_any (W H : Int) (A B : Option Addr) (n cap m capS : Nat) (f a s : Nat → Int) (w : World) (hn : n ≤ 1000) (hp : IsInts w A n f) (hq : IsSlu w B m a s) :
    Gives Try.prog 10 #[.agg #[.int .i64 W, .int .i64 H, .slice A n cap, .slice B m capS]] w (.bool (validF W H n f m a s)) := by
  have SW : Hid (∀ x lo hi w, Gives Try.prog 31 #[.int .i64 x, .int .i64 lo, .int .i64 hi] w (.bool (decide (lo ≤ x) && decide (x ≤ hi)))) := fun x lo hi w => within_any lo x hi w
  have WT : Hid (∀ x lo hi, lo ≤ x → x ≤ hi → ∀ w, Gives Try.prog 31 #[.int .i64 x, .int .i64 lo, .int .i64 hi] w (.bool true)) := fun x lo hi h1 h2 w => by
    have h := SW.out x lo hi w
    rwa [decide_eq_true h1, decide_eq_true h2] at h
  have WF : Hid (∀ x lo hi, ¬ (lo ≤ x ∧ x ≤ hi) → ∀ w, Gives Try.prog 31 #[.int .i64 x, .int .i64 lo, .int .i64 hi] w (.bool false)) := fun x lo hi h w => by
    have h' := SW.out x lo hi w
    have e : (decide (lo ≤ x) && decide (x ≤ hi)) = false := by rw [← Bool.decide_and]; exact decide_eq_false h
    rwa [e] at h'
  have HV : Hid (validF W H n f m a s = (sidesB W H && ((decide ((n : Int) = W * H) && allB n fun i => numB 1000 (f i)) && (decide (1 ≤ m ∧ m ≤ 20) && allB m fun i => sluB n (a i) (s i))))) := rfl
  have HP := Lib.hid hp
  have HQ := Lib.hid hq
  have smS := hq.small
  clear hp hq SW
  by_cases hw : 1 ≤ W ∧ W ≤ 16
  · have S1 := Lib.hid (WT.out W 1 16 hw.1 hw.2)
    by_cases hh : 1 ≤ H ∧ H ≤ 16
    · have S2 := Lib.hid (WT.out H 1 16 hh.1 hh.2)
      obtain ⟨W', hW'⟩ : ∃ x : Nat, W = x := ⟨W.toNat, by omega⟩
      obtain ⟨H', hH'⟩ : ∃ x : Nat, H = x := ⟨H.toNat, by omega⟩
      have hb : 0 ≤ W * H ∧ W * H ≤ 256 := by
        subst hW' hH'
        have := Nat.mul_le_mul (show W' ≤ 16 by omega) (show H' ≤ 16 by omega)
        rw [← Int.natCast_mul]; omega
      obtain ⟨hb1, hb2⟩ := hb
      obtain ⟨w1, w2⟩ := hw
      obtain ⟨u1, u2⟩ := hh
      have hsd : sidesB W H = true := by unfold sidesB; rw [decide_eq_true (And.intro w1 u1), decide_eq_true (And.intro w2 u2)]; rfl
      rw [hsd, Bool.true_and] at HV
      clear hsd hW' hH'
      by_cases hc : (n : Int) = W * H
      · rw [decide_eq_true hc, Bool.true_and] at HV
        have q0 : ((n : Int) != W * H) = false := by rw [← hc]; simp
        by_cases hm : 1 ≤ m ∧ m ≤ 20
        · have S3 := Lib.hid (WT.out (m : Int) 1 20 (by omega) (by omega))
          rw [decide_eq_true hm, Bool.true_and] at HV
          obtain ⟨m1, m2⟩ := hm
          clear hc
          rw [HV.out]
          clear HV
          go_enter Try.func10, Try.ntmps10
          go_wp2_with (first
            | (go_at_call 31; (first | (with_reducible show Calls _ _ _ (Later.val _) _; with_reducible refine Calls.mono (Later.call _ (S1.out _)) ?_) | (with_reducible refine Calls.mono (Gives.calls (S1.out _)) ?_)); rintro e w1 ⟨rfl, z, rfl⟩)
            | (go_at_call 31; (first | (with_reducible show Calls _ _ _ (Later.val _) _; with_reducible refine Calls.mono (Later.call _ (S2.out _)) ?_) | (with_reducible refine Calls.mono (Gives.calls (S2.out _)) ?_)); rintro e w1 ⟨rfl, z2, rfl⟩)
            | (go_at_call 31; (first | (with_reducible show Calls _ _ _ (Later.val _) _; with_reducible refine Calls.mono (Later.call _ (S3.out _)) ?_) | (with_reducible refine Calls.mono (Gives.calls (S3.out _)) ?_)); rintro e w1 ⟨rfl, z3, rfl⟩))
          obtain ⟨V9, hV9⟩ : ∃ V, (w.alloc (.cells #[.int .i64 W, .int .i64 H, .slice A n cap, .slice B m capS] 25)) = V := ⟨_, rfl⟩
          have HP9 : Hid (IsInts V9 A n f) := by show IsInts _ _ _ _; rw [← hV9]; exact HP.out.later ⟨_, by repeat (first | exact Below.refl _ _ | (with_reducible assumption) | apply below_later | apply below_alloc | apply below_drew | apply below_drewN)⟩
          have HQ9 : Hid (IsSlu V9 B m a s) := by show IsSlu _ _ _ _ _; rw [← hV9]; exact HQ.out.later ⟨_, by repeat (first | exact Below.refl _ _ | (with_reducible assumption) | apply below_later | apply below_alloc | apply below_drew | apply below_drewN)⟩
          have m2' : V9.cell? ⟨w.heap.size, 2, none⟩ = some (.slice A n cap) := by rw [← hV9]; exact cell_of_heap (World.alloc_heap_new _ _) 2 _ rfl
          have m3' : V9.cell? ⟨w.heap.size, 3, none⟩ = some (.slice B m capS) := by rw [← hV9]; exact cell_of_heap (World.alloc_heap_new _ _) 3 _ rfl
          have lw : w.heap.size < V9.heap.size := by rw [← hV9]; simp
          have hb9 : Below w.heap.size w V9 := by rw [← hV9]; repeat (first | exact Below.refl _ _ | (with_reducible assumption) | apply below_later | apply below_alloc | apply below_drew | apply below_drewN)
          have hz : Below V9.heap.size V9 z3.val := by rw [← hV9]; repeat (first | exact Below.refl _ _ | (with_reducible assumption) | apply below_later | apply below_alloc | apply below_drew | apply below_drewN)
          clear hV9
          go_loopw [3] (fun u wr => ∃ k : Nat, k ≤ n ∧ u = .int .i64 k ∧ (∀ j, j < k → numB 1000 (f j) = true) ∧ ∃ x : Later V9, wr = x.val) (fun u _ => n - (intOf u).toNat)
          case atStart => exact ⟨0, by omega, rfl, by omega, ⟨_, hz⟩, rfl⟩
          case round =>
            obtain ⟨k, hk, rfl, hall, x, rfl⟩ := hrel
            have HALL := Lib.hid hall
            clear hall
            have c2 := (x.cell _ _ lw).trans m2'
            have c3 := (x.cell _ _ lw).trans m3'
            by_cases hlt : k < n
            · obtain ⟨b, off, hA, p⟩ := (HP9.out.later x).at_ (by omega)
              subst hA
              have ck := p.at_ k hlt
              have lb := p.lt
              clear p
              by_cases hF : 0 ≤ f k ∧ f k ≤ 1000
              · have F : Hid (numB 1000 (f k) = true) := decide_eq_true hF
                have S4 := Lib.hid (WT.out (f k) 0 1000 hF.1 hF.2)
                clear hF
                go_wp2_with (go_at_call 31; (first | (with_reducible show Calls _ _ _ (Later.val _) _; with_reducible refine Calls.mono (Later.call _ (S4.out _)) ?_) | (with_reducible refine Calls.mono (Gives.calls (S4.out _)) ?_)); rintro e w1 ⟨rfl, z4, rfl⟩)
                go_roundw
                case rel => exact ⟨k + 1, by omega, by go_num, all_step HALL.out F.out, later_of (by repeat (first | exact Below.refl _ _ | (with_reducible assumption) | apply below_later | apply below_alloc | apply below_drew | apply below_drewN))⟩
                case measure => simp [intOf]; omega
              · have F : Hid (numB 1000 (f k) = false) := decide_eq_false hF
                have S4 := Lib.hid (WF.out (f k) 0 1000 hF)
                clear hF
                generalize hfk : f k = y at *
                go_wp2_with (go_at_call 31; (first | (with_reducible show Calls _ _ _ (Later.val _) _; with_reducible refine Calls.mono (Later.call _ (S4.out _)) ?_) | (with_reducible refine Calls.mono (Gives.calls (S4.out _)) ?_)); rintro e w1 ⟨rfl, z4, rfl⟩)
                go_ret
                exact ⟨ret_bool (by symm; rw [allB_false hlt (by rw [hfk]; exact F.out)]; rfl), later_of (by repeat (first | exact Below.refl _ _ | (with_reducible assumption) | apply below_later | apply below_alloc | apply below_drew | apply below_drewN))⟩
            · obtain rfl : k = n := by omega
              have E1 : Hid ((allB k fun i => numB 1000 (f i)) = true) := allB_true HALL.out
              clear HALL
              go_wp2
              go_loopw [4] (fun u wr => ∃ j : Nat, j ≤ m ∧ u = .int .i64 j ∧ (∀ i, i < j → sluB k (a i) (s i) = true) ∧ ∃ x : Later V9, wr = x.val) (fun u _ => m - (intOf u).toNat)
              case atStart => exact ⟨0, by omega, rfl, by omega, later_of (by repeat (first | exact Below.refl _ _ | (with_reducible assumption) | apply below_later | apply below_alloc | apply below_drew | apply below_drewN))⟩
              case round =>
                clear c2 c3 x
                obtain ⟨j, hj, rfl, hall, x, rfl⟩ := hrel
                have HALL := Lib.hid hall
                clear hall
                have c3 := (x.cell _ _ lw).trans m3'
                by_cases hjl : j < m
                · obtain ⟨b, off, hB, p⟩ := HQ9.out.at_ (by omega)
                  subst hB
                  have cx := p.x j hjl
                  have cy := p.y j hjl
                  have lb := p.lt
                  clear p
                  have EQ := Lib.hid (sluB_eq k (a j) (s j))
                  have hwr : IntKind.i64.wrap ((k : Int) - 1) = (k : Int) - 1 := IntWalk.i64_in _ (by omega)
                  by_cases g1 : 0 ≤ a j ∧ a j ≤ (k : Int) - 1
                  · have S4 := Lib.hid (WT.out (a j) 0 ((k : Int) - 1) g1.1 g1.2)
                    by_cases g2 : 0 ≤ s j ∧ s j ≤ 1000
                    · have S5 := Lib.hid (WT.out (s j) 0 1000 g2.1 g2.2)
                      have F : Hid (sluB k (a j) (s j) = true) := by show _ = _; rw [EQ.out, decide_eq_true g1.1, decide_eq_true g1.2, decide_eq_true g2.1, decide_eq_true g2.2]; rfl
                      clear g1 g2 EQ
                      go_wp2_with fail
                      first | (with_reducible show Code.wp _ _ _ _ (Later.val _); refine wp_region_later_at _ (by kernel_rfl) (by kernel_rfl) ?_) | refine wp_region_later (by kernel_rfl) (by kernel_rfl) ?_
                      repeat (go_big_quiet_step ((first | (go_at_call 31; (with_reducible refine Later.call _ (S4.out _))) | (go_at_call 31; (with_reducible refine Later.call _ (S5.out _))))))
                      refine wpQuiet_nil ?_
                      intro zr
                      go_wp2
                      go_roundw
                      case rel => exact ⟨j + 1, by omega, by go_num, all_step HALL.out F.out, later_of (by repeat (first | exact Below.refl _ _ | (with_reducible assumption) | apply below_later | apply below_alloc | apply below_drew | apply below_drewN))⟩
                      case measure => simp [intOf]; omega
                    · have S5 := Lib.hid (WF.out (s j) 0 1000 g2)
                      have F : Hid (sluB k (a j) (s j) = false) := by show _ = _; rw [EQ.out, ← Bool.decide_and (0 ≤ s j), decide_eq_false g2, Bool.and_false]
                      clear g1 g2 EQ
                      generalize ha : a j = aj at *
                      generalize hs : s j = sj at *
                      go_wp2_with fail
                      first | (with_reducible show Code.wp _ _ _ _ (Later.val _); refine wp_region_later_at _ (by kernel_rfl) (by kernel_rfl) ?_) | refine wp_region_later (by kernel_rfl) (by kernel_rfl) ?_
                      repeat (go_big_quiet_step ((first | (go_at_call 31; (with_reducible refine Later.call _ (S4.out _))) | (go_at_call 31; (with_reducible refine Later.call _ (S5.out _))))))
                      refine wpQuiet_nil ?_
                      intro zr
                      go_wp2
                      go_ret
                      exact ⟨ret_bool (by symm; rw [E1.out, Bool.true_and]; exact allB_false hjl (by rw [ha, hs]; exact F.out)), later_of (by repeat (first | exact Below.refl _ _ | (with_reducible assumption) | apply below_later | apply below_alloc | apply below_drew | apply below_drewN))⟩
                  · have S4 := Lib.hid (WF.out (a j) 0 ((k : Int) - 1) g1)
                    have F : Hid (sluB k (a j) (s j) = false) := by show _ = _; rw [EQ.out, ← Bool.decide_and (0 ≤ a j), decide_eq_false g1, Bool.false_and]
                    clear g1 EQ
                    generalize ha : a j = aj at *
                    generalize hs : s j = sj at *
                    go_wp2_with fail
                    first | (with_reducible show Code.wp _ _ _ _ (Later.val _); refine wp_region_later_at _ (by kernel_rfl) (by kernel_rfl) ?_) | refine wp_region_later (by kernel_rfl) (by kernel_rfl) ?_
                    repeat (go_big_quiet_step ((first | (go_at_call 31; (with_reducible refine Later.call _ (S4.out _))))))
                    refine wpQuiet_nil ?_
                    intro zr
                    go_wp2
                    go_ret
                    exact ⟨ret_bool (by symm; rw [E1.out, Bool.true_and]; exact allB_false hjl (by rw [ha, hs]; exact F.out)), later_of (by repeat (first | exact Below.refl _ _ | (with_reducible assumption) | apply below_later | apply below_alloc | apply below_drew | apply below_drewN))⟩
                · obtain rfl : j = m := by omega
                  go_wp2
                  go_ret
                  exact ⟨ret_bool (by symm; rw [E1.out, Bool.true_and]; exact allB_true HALL.out), later_of (by repeat (first | exact Below.refl _ _ | (with_reducible assumption) | apply below_later | apply below_alloc | apply below_drew | apply below_drewN))⟩
        · have S3 := Lib.hid (WF.out (m : Int) 1 20 (by omega))
          rw [decide_eq_false hm, Bool.false_and, Bool.and_false] at HV
          rw [HV.out]
          clear HV hm hc
          go_enter Try.func10, Try.ntmps10
          go_wp2_with (first
            | (go_at_call 31; (first | (with_reducible show Calls _ _ _ (Later.val _) _; with_reducible refine Calls.mono (Later.call _ (S1.out _)) ?_) | (with_reducible refine Calls.mono (Gives.calls (S1.out _)) ?_)); rintro e w1 ⟨rfl, z, rfl⟩)
            | (go_at_call 31; (first | (with_reducible show Calls _ _ _ (Later.val _) _; with_reducible refine Calls.mono (Later.call _ (S2.out _)) ?_) | (with_reducible refine Calls.mono (Gives.calls (S2.out _)) ?_)); rintro e w1 ⟨rfl, z2, rfl⟩)
            | (go_at_call 31; (first | (with_reducible show Calls _ _ _ (Later.val _) _; with_reducible refine Calls.mono (Later.call _ (S3.out _)) ?_) | (with_reducible refine Calls.mono (Gives.calls (S3.out _)) ?_)); rintro e w1 ⟨rfl, z3, rfl⟩))
          go_ret
          exact ⟨rfl, later_of (by repeat (first | exact Below.refl _ _ | (with_reducible assumption) | apply below_later | apply below_alloc | apply below_drew | apply below_drewN))⟩
      · rw [decide_eq_false hc, Bool.false_and, Bool.false_and] at HV
        rw [HV.out]
        have q0 : ((n : Int) != W * H) = true := by simpa using hc
        clear HV hc
        go_enter Try.func10, Try.ntmps10
        go_wp2_with (first
          | (go_at_call 31; (first | (with_reducible show Calls _ _ _ (Later.val _) _; with_reducible refine Calls.mono (Later.call _ (S1.out _)) ?_) | (with_reducible refine Calls.mono (Gives.calls (S1.out _)) ?_)); rintro e w1 ⟨rfl, z, rfl⟩)
          | (go_at_call 31; (first | (with_reducible show Calls _ _ _ (Later.val _) _; with_reducible refine Calls.mono (Later.call _ (S2.out _)) ?_) | (with_reducible refine Calls.mono (Gives.calls (S2.out _)) ?_)); rintro e w1 ⟨rfl, z2, rfl⟩))
        go_ret
        exact ⟨rfl, later_of (by repeat (first | exact Below.refl _ _ | (with_reducible assumption) | apply below_later | apply below_alloc | apply below_drew | apply below_drewN))⟩
    · have S2 := Lib.hid (WF.out H 1 16 hh)
      have hsd : sidesB W H = false := by
        cases h : sidesB W H
        · rfl
        · unfold sidesB at h
          simp only [Bool.and_eq_true, decide_eq_true_eq] at h
          exact absurd ⟨h.1.2, h.2.2⟩ hh
      rw [hsd, Bool.false_and] at HV
      rw [HV.out]
      clear HV hsd hw hh
      go_enter Try.func10, Try.ntmps10
      go_wp2_with (first
        | (go_at_call 31; (first | (with_reducible show Calls _ _ _ (Later.val _) _; with_reducible refine Calls.mono (Later.call _ (S1.out _)) ?_) | (with_reducible refine Calls.mono (Gives.calls (S1.out _)) ?_)); rintro e w1 ⟨rfl, z, rfl⟩)
        | (go_at_call 31; (first | (with_reducible show Calls _ _ _ (Later.val _) _; with_reducible refine Calls.mono (Later.call _ (S2.out _)) ?_) | (with_reducible refine Calls.mono (Gives.calls (S2.out _)) ?_)); rintro e w1 ⟨rfl, z2, rfl⟩))
      go_ret
      exact ⟨rfl, later_of (by repeat (first | exact Below.refl _ _ | (with_reducible assumption) | apply below_later | apply below_alloc | apply below_drew | apply below_drewN))⟩
  · have S1 := Lib.hid (WF.out W 1 16 hw)
    have hsd : sidesB W H = false := by
      cases h : sidesB W H
      · rfl
      · unfold sidesB at h
        simp only [Bool.and_eq_true, decide_eq_true_eq] at h
        exact absurd ⟨h.1.1, h.2.1⟩ hw
    rw [hsd, Bool.false_and] at HV
    rw [HV.out]
    clear HV hsd hw
    go_enter Try.func10, Try.ntmps10
    go_wp2_with (go_at_call 31; (first | (with_reducible show Calls _ _ _ (Later.val _) _; with_reducible refine Calls.mono (Later.call _ (S1.out _)) ?_) | (with_reducible refine Calls.mono (Gives.calls (S1.out _)) ?_)); rintro e w1 ⟨rfl, z, rfl⟩)
    go_ret
    exact ⟨rfl, later_of (by repeat (first | exact Below.refl _ _ | (with_reducible assumption) | apply below_later | apply below_alloc | apply below_drew | apply below_drewN))⟩
end Go.Proofs.Ytelfinjnbncnlaa
