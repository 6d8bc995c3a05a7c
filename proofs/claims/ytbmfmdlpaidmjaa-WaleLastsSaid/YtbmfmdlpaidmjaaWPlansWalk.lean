/- WalePlans, walked. -/
import Derived.Test.YtbmfmdlpaidmjaaWPlansLaw
namespace Go.Proofs.Ytbmfmdlpaidmjaa
open Go.RowKit

theorem IsChs.congr {w : World} {A : Option Addr} {m : Nat} {F T V F' T' : Nat → Int} (h : IsChs w A m F T V) (e : ∀ i, i < m → F i = F' i ∧ T i = T' i) : IsChs w A m F' T' V :=
  ⟨h.small, fun h0 => let ⟨b, off, ea, hp⟩ := h.at_ h0; ⟨b, off, ea, hp.lt, fun i hi => by rw [← (e i hi).1]; exact hp.f i hi, fun i hi => by rw [← (e i hi).2]; exact hp.t i hi, hp.v⟩⟩
theorem valid_rot {n : Int} {m : Nat} {F T V : Nat → Int} (h : validR n m F T V = true) : ∃ (N : Nat) (f t : Nat → Nat), n = N ∧ Rot N m f t V ∧ ∀ i, i < m → F i = (f i : Nat) ∧ T i = (t i : Nat) := by
  unfold validR at h
  simp only [Bool.and_eq_true, decide_eq_true_eq] at h
  obtain ⟨⟨h1, h2⟩, h3, h4⟩ := h
  have h5 := allB_iff.1 h4
  have h6 : ∀ i, i < m → (0 ≤ F i ∧ F i < n) ∧ (0 ≤ T i ∧ T i < n) ∧ -1000 ≤ V i ∧ V i ≤ 1000 := fun i hi => by
    have := h5 i hi
    unfold okC inS at this
    simp only [Bool.and_eq_true, decide_eq_true_eq] at this
    omega
  refine ⟨n.toNat, fun i => (F i).toNat, fun i => (T i).toNat, by omega, ⟨by omega, by omega, h3, fun i hi => ?_, fun i hi => ?_, fun i hi => (h6 i hi).2.2⟩, fun i hi => ?_⟩
  all_goals
    have := h6 i hi
    try dsimp only
    omega
set_option maxRecDepth 100000 in
set_option maxHeartbeats 3200000 in
theorem plans_law (n start : Int) (m cap k capB : Nat) (A B : Option Addr) (F T V : Nat → Int) (c : Nat → Int) (w : World) (hp : m ≤ 60 → IsChs w A m F T V) (hc : k ≤ 9223372036854775807 → IsInts w B k c) :
    Gives Try.prog 3 #[.agg #[.int .i64 n, .slice A m cap], .int .i64 start, .slice B k capB] w (.bool true) := by
  have FL : Hid (∀ w, Gives Try.prog 12 #[] w (.bool true)) := first_law
  have LO : Hid (∀ w, Gives Try.prog 11 #[.agg #[.int .i64 n, .slice A m cap], .slice B k capB] w (.bool (decide (60 < m) || decide (1100 < k)))) := fun w => Long_any n m cap k capB A B w
  obtain ⟨c0, c1, l0⟩ := box2 w (.int .i64 n) (.slice A m cap) 24
  have hb : Below w.heap.size w (w.alloc (.cells #[.int .i64 n, .slice A m cap] 24)) := (Below.refl _ _).alloc (Nat.le_refl _) _
  have HB := Lib.hid hb
  cases hlong : (decide (60 < m) || decide (1100 < k))
  case true =>
    rw [hlong] at LO
    clear hlong hp hc hb c0 c1 l0
    go_enter Try.func3, Try.ntmps3
    go_wp2_with (first | (go_at_call 11; with_reducible refine Calls.mono (Gives.calls (LO.out _)) ?_; rintro e w1 ⟨rfl, z, rfl⟩) | (go_at_call 12; with_reducible refine Calls.mono (Gives.calls (FL.out _)) ?_; rintro e w1 ⟨rfl, z2, rfl⟩))
    go_ret
    exact ⟨rfl, later_of (by repeat (first | exact Below.refl _ _ | (with_reducible assumption) | apply below_later | apply below_alloc | apply below_drew | apply below_drewN))⟩
  case false =>
    rw [hlong] at LO
    simp only [Bool.or_eq_false_iff, decide_eq_false_iff_not] at hlong
    have hm60 : m ≤ 60 := by omega
    have hk11 : k ≤ 1100 := by omega
    have hpZ : IsChs (w.alloc (.cells #[.int .i64 n, .slice A m cap] 24)) A m F T V := (hp hm60).below hb
    have hcZ : IsInts (w.alloc (.cells #[.int .i64 n, .slice A m cap] 24)) B k c := (hc (by omega)).below hb
    clear hlong hp hc hb
    by_cases hbad : validR n m F T V = false ∨ inS n start = false ∨ 1000 < k
    · have IP := Lib.hid fun (w' : World) (h : IsChs w' A m F T V) (_ : IsInts w' B k c) => IsPlan_bad n start m cap k capB A B F T V w' (by omega) h hbad
      have WP := Lib.hid fun (w' : World) (h : IsChs w' A m F T V) (_ : IsInts w' B k c) => Worth_bad n start m cap k capB A B F T V w' (by omega) h hbad
      have VA := Lib.hid fun (w' : World) (h : IsChs w' A m F T V) => wvalid_any n A m cap F T V w' (by omega) h
      have VR := Lib.hid fun (w' : World) (h : IsChs w' A m F T V) => rvalid_any n A m cap F T V w' (by omega) h
      have SA := Lib.hid fun (w' : World) => state_any n start m cap A w'
      have HE : Hid (cpE n m F T V start k = if validR n m F T V = false then 50 else if inS n start = true ∧ k ≤ 1000 then 0 else 2) := rfl
      have HP := Lib.hid hpZ
      have HC := Lib.hid hcZ
      clear hpZ hcZ
      generalize cpE n m F T V start k = e0 at *
      have HBAD := Lib.hid hbad
      clear hbad
      generalize validR n m F T V = b1 at *
      generalize inS n start = b2 at *
      rcases b1 with _ | _
      · have he : Hid (e0 = 50) := by show _ = _; rw [HE.out]; simp
        have e0 := he.out
        subst e0
        clear HE he
        go_enter Try.func3, Try.ntmps3
        go_wp2_with (go_at_call 11; with_reducible refine Calls.mono (Gives.calls (LO.out _)) ?_; rintro e w1 ⟨rfl, z, rfl⟩)
        have d0 := (z.cell _ 0 l0).trans c0
        have d1 := (z.cell _ 1 l0).trans c1
        have l1 := z.lt _ l0
        have HPZ := Lib.hid (HP.out.later z)
        have HCZ := Lib.hid (HC.out.later z)
        have HBZ : Hid (Below w.heap.size w z.val) := below_later HB.out
        clear c0 c1 l0 HP HC HB
        obtain ⟨b8, hb8⟩ : ∃ b8, w.heap.size = b8 := ⟨_, rfl⟩
        rw [hb8] at d0 d1 l1 ⊢
        clear hb8
        generalize z.val = Z at *
        go_wp2_with (first | (go_at_call 13; (first | (with_reducible show Calls _ _ _ (Later.val _) _; with_reducible refine Calls.mono (Later.call _ (IP.out _ (HPZ.out.below (by repeat (first | exact Below.refl _ _ | (with_reducible assumption) | apply below_later | apply below_alloc | apply below_drew | apply below_drewN))) (HCZ.out.below (by repeat (first | exact Below.refl _ _ | (with_reducible assumption) | apply below_later | apply below_alloc | apply below_drew | apply below_drewN))))) ?_) | (with_reducible refine Calls.mono (Gives.calls (IP.out _ (HPZ.out.below (by repeat (first | exact Below.refl _ _ | (with_reducible assumption) | apply below_later | apply below_alloc | apply below_drew | apply below_drewN))) (HCZ.out.below (by repeat (first | exact Below.refl _ _ | (with_reducible assumption) | apply below_later | apply below_alloc | apply below_drew | apply below_drewN))))) ?_)); rintro e w1 ⟨rfl, y1, rfl⟩) | (go_at_call 14; (first | (with_reducible show Calls _ _ _ (Later.val _) _; with_reducible refine Calls.mono (Later.call _ (WP.out _ (HPZ.out.below (by repeat (first | exact Below.refl _ _ | (with_reducible assumption) | apply below_later | apply below_alloc | apply below_drew | apply below_drewN))) (HCZ.out.below (by repeat (first | exact Below.refl _ _ | (with_reducible assumption) | apply below_later | apply below_alloc | apply below_drew | apply below_drewN))))) ?_) | (with_reducible refine Calls.mono (Gives.calls (WP.out _ (HPZ.out.below (by repeat (first | exact Below.refl _ _ | (with_reducible assumption) | apply below_later | apply below_alloc | apply below_drew | apply below_drewN))) (HCZ.out.below (by repeat (first | exact Below.refl _ _ | (with_reducible assumption) | apply below_later | apply below_alloc | apply below_drew | apply below_drewN))))) ?_)); rintro e w1 ⟨rfl, y2, rfl⟩))
        first | (with_reducible show Code.wp _ _ _ _ (Later.val _); refine wp_region_later_at _ (by kernel_rfl) (by kernel_rfl) ?_) | refine wp_region_later (by kernel_rfl) (by kernel_rfl) ?_
        repeat (go_big_quiet_step ((first | (go_at_call 15; (with_reducible refine Later.call _ (VA.out _ (HPZ.out.below (by repeat (first | exact Below.refl _ _ | (with_reducible assumption) | apply below_later | apply below_alloc | apply below_drew | apply below_drewN)))))) | (go_at_call 16; (with_reducible refine Later.call _ (VR.out _ (HPZ.out.below (by repeat (first | exact Below.refl _ _ | (with_reducible assumption) | apply below_later | apply below_alloc | apply below_drew | apply below_drewN)))))))))
        refine wpQuiet_nil ?_
        intro y3
        go_wp2_with (first | (go_at_call 16; (first | (with_reducible show Calls _ _ _ (Later.val _) _; with_reducible refine Calls.mono (Later.call _ (VR.out _ (HPZ.out.below (by repeat (first | exact Below.refl _ _ | (with_reducible assumption) | apply below_later | apply below_alloc | apply below_drew | apply below_drewN))))) ?_) | (with_reducible refine Calls.mono (Gives.calls (VR.out _ (HPZ.out.below (by repeat (first | exact Below.refl _ _ | (with_reducible assumption) | apply below_later | apply below_alloc | apply below_drew | apply below_drewN))))) ?_)); rintro e w1 ⟨rfl, y4, rfl⟩) | (go_at_call 17; with_reducible refine Calls.mono (Gives.calls (SA.out _)) ?_; rintro e w1 ⟨rfl, y5, rfl⟩) | (go_at_call 12; with_reducible refine Calls.mono (Gives.calls (FL.out _)) ?_; rintro e w1 ⟨rfl, y6, rfl⟩))
        go_ret
        exact ⟨rfl, ⟨_, below_more HBZ.out (by repeat (first | exact Below.refl _ _ | (with_reducible assumption) | apply below_later | apply below_alloc | apply below_drew | apply below_drewN))⟩, rfl⟩
      · rcases b2 with _ | _
        · have he : Hid (e0 = 2) := by show _ = _; rw [HE.out]; simp
          have e0 := he.out
          subst e0
          clear HE he
          go_enter Try.func3, Try.ntmps3
          go_wp2_with (go_at_call 11; with_reducible refine Calls.mono (Gives.calls (LO.out _)) ?_; rintro e w1 ⟨rfl, z, rfl⟩)
          have d0 := (z.cell _ 0 l0).trans c0
          have d1 := (z.cell _ 1 l0).trans c1
          have l1 := z.lt _ l0
          have HPZ := Lib.hid (HP.out.later z)
          have HCZ := Lib.hid (HC.out.later z)
          have HBZ : Hid (Below w.heap.size w z.val) := below_later HB.out
          clear c0 c1 l0 HP HC HB
          obtain ⟨b8, hb8⟩ : ∃ b8, w.heap.size = b8 := ⟨_, rfl⟩
          rw [hb8] at d0 d1 l1 ⊢
          clear hb8
          generalize z.val = Z at *
          go_wp2_with (first | (go_at_call 13; (first | (with_reducible show Calls _ _ _ (Later.val _) _; with_reducible refine Calls.mono (Later.call _ (IP.out _ (HPZ.out.below (by repeat (first | exact Below.refl _ _ | (with_reducible assumption) | apply below_later | apply below_alloc | apply below_drew | apply below_drewN))) (HCZ.out.below (by repeat (first | exact Below.refl _ _ | (with_reducible assumption) | apply below_later | apply below_alloc | apply below_drew | apply below_drewN))))) ?_) | (with_reducible refine Calls.mono (Gives.calls (IP.out _ (HPZ.out.below (by repeat (first | exact Below.refl _ _ | (with_reducible assumption) | apply below_later | apply below_alloc | apply below_drew | apply below_drewN))) (HCZ.out.below (by repeat (first | exact Below.refl _ _ | (with_reducible assumption) | apply below_later | apply below_alloc | apply below_drew | apply below_drewN))))) ?_)); rintro e w1 ⟨rfl, y1, rfl⟩) | (go_at_call 14; (first | (with_reducible show Calls _ _ _ (Later.val _) _; with_reducible refine Calls.mono (Later.call _ (WP.out _ (HPZ.out.below (by repeat (first | exact Below.refl _ _ | (with_reducible assumption) | apply below_later | apply below_alloc | apply below_drew | apply below_drewN))) (HCZ.out.below (by repeat (first | exact Below.refl _ _ | (with_reducible assumption) | apply below_later | apply below_alloc | apply below_drew | apply below_drewN))))) ?_) | (with_reducible refine Calls.mono (Gives.calls (WP.out _ (HPZ.out.below (by repeat (first | exact Below.refl _ _ | (with_reducible assumption) | apply below_later | apply below_alloc | apply below_drew | apply below_drewN))) (HCZ.out.below (by repeat (first | exact Below.refl _ _ | (with_reducible assumption) | apply below_later | apply below_alloc | apply below_drew | apply below_drewN))))) ?_)); rintro e w1 ⟨rfl, y2, rfl⟩))
          first | (with_reducible show Code.wp _ _ _ _ (Later.val _); refine wp_region_later_at _ (by kernel_rfl) (by kernel_rfl) ?_) | refine wp_region_later (by kernel_rfl) (by kernel_rfl) ?_
          repeat (go_big_quiet_step ((first | (go_at_call 15; (with_reducible refine Later.call _ (VA.out _ (HPZ.out.below (by repeat (first | exact Below.refl _ _ | (with_reducible assumption) | apply below_later | apply below_alloc | apply below_drew | apply below_drewN)))))) | (go_at_call 16; (with_reducible refine Later.call _ (VR.out _ (HPZ.out.below (by repeat (first | exact Below.refl _ _ | (with_reducible assumption) | apply below_later | apply below_alloc | apply below_drew | apply below_drewN)))))))))
          refine wpQuiet_nil ?_
          intro y3
          go_wp2_with (first | (go_at_call 16; (first | (with_reducible show Calls _ _ _ (Later.val _) _; with_reducible refine Calls.mono (Later.call _ (VR.out _ (HPZ.out.below (by repeat (first | exact Below.refl _ _ | (with_reducible assumption) | apply below_later | apply below_alloc | apply below_drew | apply below_drewN))))) ?_) | (with_reducible refine Calls.mono (Gives.calls (VR.out _ (HPZ.out.below (by repeat (first | exact Below.refl _ _ | (with_reducible assumption) | apply below_later | apply below_alloc | apply below_drew | apply below_drewN))))) ?_)); rintro e w1 ⟨rfl, y4, rfl⟩) | (go_at_call 17; with_reducible refine Calls.mono (Gives.calls (SA.out _)) ?_; rintro e w1 ⟨rfl, y5, rfl⟩) | (go_at_call 12; with_reducible refine Calls.mono (Gives.calls (FL.out _)) ?_; rintro e w1 ⟨rfl, y6, rfl⟩))
          go_ret
          exact ⟨rfl, ⟨_, below_more HBZ.out (by repeat (first | exact Below.refl _ _ | (with_reducible assumption) | apply below_later | apply below_alloc | apply below_drew | apply below_drewN))⟩, rfl⟩
        · have he : Hid (e0 = 2) := by
            show _ = _
            rw [HE.out]
            have := HBAD.out
            simp at this ⊢
            omega
          have hk10 : 1000 < k := by
            have := HBAD.out
            simp at this
            exact this
          have e0 := he.out
          subst e0
          clear HE he
          go_enter Try.func3, Try.ntmps3
          go_wp2_with (go_at_call 11; with_reducible refine Calls.mono (Gives.calls (LO.out _)) ?_; rintro e w1 ⟨rfl, z, rfl⟩)
          have d0 := (z.cell _ 0 l0).trans c0
          have d1 := (z.cell _ 1 l0).trans c1
          have l1 := z.lt _ l0
          have HPZ := Lib.hid (HP.out.later z)
          have HCZ := Lib.hid (HC.out.later z)
          have HBZ : Hid (Below w.heap.size w z.val) := below_later HB.out
          clear c0 c1 l0 HP HC HB
          obtain ⟨b8, hb8⟩ : ∃ b8, w.heap.size = b8 := ⟨_, rfl⟩
          rw [hb8] at d0 d1 l1 ⊢
          clear hb8
          generalize z.val = Z at *
          go_wp2_with (first | (go_at_call 13; (first | (with_reducible show Calls _ _ _ (Later.val _) _; with_reducible refine Calls.mono (Later.call _ (IP.out _ (HPZ.out.below (by repeat (first | exact Below.refl _ _ | (with_reducible assumption) | apply below_later | apply below_alloc | apply below_drew | apply below_drewN))) (HCZ.out.below (by repeat (first | exact Below.refl _ _ | (with_reducible assumption) | apply below_later | apply below_alloc | apply below_drew | apply below_drewN))))) ?_) | (with_reducible refine Calls.mono (Gives.calls (IP.out _ (HPZ.out.below (by repeat (first | exact Below.refl _ _ | (with_reducible assumption) | apply below_later | apply below_alloc | apply below_drew | apply below_drewN))) (HCZ.out.below (by repeat (first | exact Below.refl _ _ | (with_reducible assumption) | apply below_later | apply below_alloc | apply below_drew | apply below_drewN))))) ?_)); rintro e w1 ⟨rfl, y1, rfl⟩) | (go_at_call 14; (first | (with_reducible show Calls _ _ _ (Later.val _) _; with_reducible refine Calls.mono (Later.call _ (WP.out _ (HPZ.out.below (by repeat (first | exact Below.refl _ _ | (with_reducible assumption) | apply below_later | apply below_alloc | apply below_drew | apply below_drewN))) (HCZ.out.below (by repeat (first | exact Below.refl _ _ | (with_reducible assumption) | apply below_later | apply below_alloc | apply below_drew | apply below_drewN))))) ?_) | (with_reducible refine Calls.mono (Gives.calls (WP.out _ (HPZ.out.below (by repeat (first | exact Below.refl _ _ | (with_reducible assumption) | apply below_later | apply below_alloc | apply below_drew | apply below_drewN))) (HCZ.out.below (by repeat (first | exact Below.refl _ _ | (with_reducible assumption) | apply below_later | apply below_alloc | apply below_drew | apply below_drewN))))) ?_)); rintro e w1 ⟨rfl, y2, rfl⟩))
          first | (with_reducible show Code.wp _ _ _ _ (Later.val _); refine wp_region_later_at _ (by kernel_rfl) (by kernel_rfl) ?_) | refine wp_region_later (by kernel_rfl) (by kernel_rfl) ?_
          repeat (go_big_quiet_step ((first | (go_at_call 15; (with_reducible refine Later.call _ (VA.out _ (HPZ.out.below (by repeat (first | exact Below.refl _ _ | (with_reducible assumption) | apply below_later | apply below_alloc | apply below_drew | apply below_drewN)))))) | (go_at_call 16; (with_reducible refine Later.call _ (VR.out _ (HPZ.out.below (by repeat (first | exact Below.refl _ _ | (with_reducible assumption) | apply below_later | apply below_alloc | apply below_drew | apply below_drewN)))))))))
          refine wpQuiet_nil ?_
          intro y3
          go_wp2_with (first | (go_at_call 16; (first | (with_reducible show Calls _ _ _ (Later.val _) _; with_reducible refine Calls.mono (Later.call _ (VR.out _ (HPZ.out.below (by repeat (first | exact Below.refl _ _ | (with_reducible assumption) | apply below_later | apply below_alloc | apply below_drew | apply below_drewN))))) ?_) | (with_reducible refine Calls.mono (Gives.calls (VR.out _ (HPZ.out.below (by repeat (first | exact Below.refl _ _ | (with_reducible assumption) | apply below_later | apply below_alloc | apply below_drew | apply below_drewN))))) ?_)); rintro e w1 ⟨rfl, y4, rfl⟩) | (go_at_call 17; with_reducible refine Calls.mono (Gives.calls (SA.out _)) ?_; rintro e w1 ⟨rfl, y5, rfl⟩) | (go_at_call 12; with_reducible refine Calls.mono (Gives.calls (FL.out _)) ?_; rintro e w1 ⟨rfl, y6, rfl⟩))
          go_ret
          exact ⟨rfl, ⟨_, below_more HBZ.out (by repeat (first | exact Below.refl _ _ | (with_reducible assumption) | apply below_later | apply below_alloc | apply below_drew | apply below_drewN))⟩, rfl⟩
    · have hv : validR n m F T V = true := by
        cases h : validR n m F T V
        · exact absurd (Or.inl h) hbad
        · rfl
      have hs : inS n start = true := by
        cases h : inS n start
        · exact absurd (Or.inr (Or.inl h)) hbad
        · rfl
      have hk10 : k ≤ 1000 := by
        rcases Nat.lt_or_ge 1000 k with h | h
        · exact absurd (Or.inr (Or.inr h)) hbad
        · exact h
      obtain ⟨N, f, t, rfl, R, hft⟩ := valid_rot hv
      obtain ⟨s, rfl, hsN⟩ := inS_true hs
      have HP : Hid (IsChs (w.alloc (.cells #[.int .i64 N, .slice A m cap] 24)) A m (fun i => (f i : Int)) (fun i => (t i : Int)) V) := hpZ.congr hft
      have HC := Lib.hid hcZ
      have VA := Lib.hid fun (w' : World) (h : IsChs w' A m (fun i => (f i : Int)) (fun i => (t i : Int)) V) => valid_true (cap := cap) R w' h
      have VR : Hid (∀ w', IsChs w' A m (fun i => (f i : Int)) (fun i => (t i : Int)) V → Gives Try.prog 16 #[.int .i64 N, .slice A m cap] w' (.bool true)) := fun w' h => rot_valid R ▸ rvalid_any N A m cap _ _ V w' (by omega) h
      have SA : Hid (∀ w', Gives Try.prog 17 #[.agg #[.int .i64 N, .slice A m cap], .int .i64 s] w' (.bool true)) := fun w' => hs ▸ state_any N s m cap A w'
      have IP0 := fun (w' : World) (h : IsChs w' A m (fun i => (f i : Int)) (fun i => (t i : Int)) V) (h2 : IsInts w' B k c) => IsPlan_ok N m cap k capB s A B f t V c w' hsN hk10 R h h2
      have WP0 := fun (w' : World) (h : IsChs w' A m (fun i => (f i : Int)) (fun i => (t i : Int)) V) (h2 : IsInts w' B k c) => Worth_ok N m cap k capB s A B f t V c w' hsN hk10 R h h2
      have RI0 := fun (w' : World) (h : IsChs w' A m (fun i => (f i : Int)) (fun i => (t i : Int)) V) (h2 : IsInts w' B k c) => risplan_any m cap k capB s A B f t V c w' (by omega) (by omega) h h2
      clear hbad hv hs hpZ hcZ hft
      cases hf : fol m f t c s k with
      | none =>
        rw [hf] at IP0 WP0 RI0
        rw [if_neg (by simp)] at WP0
        have IP : Hid (∀ w', IsChs w' A m (fun i => (f i : Int)) (fun i => (t i : Int)) V → IsInts w' B k c → Gives Try.prog 13 #[.int .i64 N, .slice A m cap, .int .i64 s, .slice B k capB] w' (.tuple #[.bool false, .int .i64 0])) := IP0
        have WP := Lib.hid WP0
        have RI : Hid (∀ w', IsChs w' A m (fun i => (f i : Int)) (fun i => (t i : Int)) V → IsInts w' B k c → Gives Try.prog 18 #[.slice A m cap, .int .i64 s, .slice B k capB] w' (.bool false)) := RI0
        clear IP0 WP0 RI0 hf R
        go_enter Try.func3, Try.ntmps3
        go_wp2_with (go_at_call 11; with_reducible refine Calls.mono (Gives.calls (LO.out _)) ?_; rintro e w1 ⟨rfl, z, rfl⟩)
        have d0 := (z.cell _ 0 l0).trans c0
        have d1 := (z.cell _ 1 l0).trans c1
        have l1 := z.lt _ l0
        have HPZ := Lib.hid (HP.out.later z)
        have HCZ := Lib.hid (HC.out.later z)
        have HBZ : Hid (Below w.heap.size w z.val) := below_later HB.out
        clear c0 c1 l0 HP HC HB
        obtain ⟨b8, hb8⟩ : ∃ b8, w.heap.size = b8 := ⟨_, rfl⟩
        rw [hb8] at d0 d1 l1 ⊢
        clear hb8
        generalize z.val = Z at *
        go_wp2_with (first | (go_at_call 13; (first | (with_reducible show Calls _ _ _ (Later.val _) _; with_reducible refine Calls.mono (Later.call _ (IP.out _ (HPZ.out.below (by repeat (first | exact Below.refl _ _ | (with_reducible assumption) | apply below_later | apply below_alloc | apply below_drew | apply below_drewN))) (HCZ.out.below (by repeat (first | exact Below.refl _ _ | (with_reducible assumption) | apply below_later | apply below_alloc | apply below_drew | apply below_drewN))))) ?_) | (with_reducible refine Calls.mono (Gives.calls (IP.out _ (HPZ.out.below (by repeat (first | exact Below.refl _ _ | (with_reducible assumption) | apply below_later | apply below_alloc | apply below_drew | apply below_drewN))) (HCZ.out.below (by repeat (first | exact Below.refl _ _ | (with_reducible assumption) | apply below_later | apply below_alloc | apply below_drew | apply below_drewN))))) ?_)); rintro e w1 ⟨rfl, y1, rfl⟩) | (go_at_call 14; (first | (with_reducible show Calls _ _ _ (Later.val _) _; with_reducible refine Calls.mono (Later.call _ (WP.out _ (HPZ.out.below (by repeat (first | exact Below.refl _ _ | (with_reducible assumption) | apply below_later | apply below_alloc | apply below_drew | apply below_drewN))) (HCZ.out.below (by repeat (first | exact Below.refl _ _ | (with_reducible assumption) | apply below_later | apply below_alloc | apply below_drew | apply below_drewN))))) ?_) | (with_reducible refine Calls.mono (Gives.calls (WP.out _ (HPZ.out.below (by repeat (first | exact Below.refl _ _ | (with_reducible assumption) | apply below_later | apply below_alloc | apply below_drew | apply below_drewN))) (HCZ.out.below (by repeat (first | exact Below.refl _ _ | (with_reducible assumption) | apply below_later | apply below_alloc | apply below_drew | apply below_drewN))))) ?_)); rintro e w1 ⟨rfl, y2, rfl⟩))
        first | (with_reducible show Code.wp _ _ _ _ (Later.val _); refine wp_region_later_at _ (by kernel_rfl) (by kernel_rfl) ?_) | refine wp_region_later (by kernel_rfl) (by kernel_rfl) ?_
        repeat (go_big_quiet_step ((first | (go_at_call 15; (with_reducible refine Later.call _ (VA.out _ (HPZ.out.below (by repeat (first | exact Below.refl _ _ | (with_reducible assumption) | apply below_later | apply below_alloc | apply below_drew | apply below_drewN)))))) | (go_at_call 16; (with_reducible refine Later.call _ (VR.out _ (HPZ.out.below (by repeat (first | exact Below.refl _ _ | (with_reducible assumption) | apply below_later | apply below_alloc | apply below_drew | apply below_drewN)))))))))
        refine wpQuiet_nil ?_
        intro y3
        go_wp2_with (first | (go_at_call 16; (first | (with_reducible show Calls _ _ _ (Later.val _) _; with_reducible refine Calls.mono (Later.call _ (VR.out _ (HPZ.out.below (by repeat (first | exact Below.refl _ _ | (with_reducible assumption) | apply below_later | apply below_alloc | apply below_drew | apply below_drewN))))) ?_) | (with_reducible refine Calls.mono (Gives.calls (VR.out _ (HPZ.out.below (by repeat (first | exact Below.refl _ _ | (with_reducible assumption) | apply below_later | apply below_alloc | apply below_drew | apply below_drewN))))) ?_)); rintro e w1 ⟨rfl, y4, rfl⟩) | (go_at_call 17; with_reducible refine Calls.mono (Gives.calls (SA.out _)) ?_; rintro e w1 ⟨rfl, y5, rfl⟩) | (go_at_call 12; with_reducible refine Calls.mono (Gives.calls (FL.out _)) ?_; rintro e w1 ⟨rfl, y6, rfl⟩) | (go_at_call 18; (first | (with_reducible show Calls _ _ _ (Later.val _) _; with_reducible refine Calls.mono (Later.call _ (RI.out _ (HPZ.out.below (by repeat (first | exact Below.refl _ _ | (with_reducible assumption) | apply below_later | apply below_alloc | apply below_drew | apply below_drewN))) (HCZ.out.below (by repeat (first | exact Below.refl _ _ | (with_reducible assumption) | apply below_later | apply below_alloc | apply below_drew | apply below_drewN))))) ?_) | (with_reducible refine Calls.mono (Gives.calls (RI.out _ (HPZ.out.below (by repeat (first | exact Below.refl _ _ | (with_reducible assumption) | apply below_later | apply below_alloc | apply below_drew | apply below_drewN))) (HCZ.out.below (by repeat (first | exact Below.refl _ _ | (with_reducible assumption) | apply below_later | apply below_alloc | apply below_drew | apply below_drewN))))) ?_)); rintro e w1 ⟨rfl, y7, rfl⟩))
        go_ret
        exact ⟨rfl, ⟨_, below_more HBZ.out (by repeat (first | exact Below.refl _ _ | (with_reducible assumption) | apply below_later | apply below_alloc | apply below_drew | apply below_drewN))⟩, rfl⟩
      | some a =>
        have hin : ∀ i, i < k → c i = ((c i).toNat : Nat) ∧ (c i).toNat < m := fun i hi => by
          obtain ⟨x, hx, hm⟩ := inS_true (fol_in hf i hi)
          rw [hx, Int.toNat_natCast]
          exact ⟨rfl, hm⟩
        have RW : Hid (∀ w', IsChs w' A m (fun i => (f i : Int)) (fun i => (t i : Int)) V → IsInts w' B k c → Gives Try.prog 19 #[.slice A m cap, .slice B k capB] w' (.int .i64 (wor V (fun i => (c i).toNat) k))) := fun w' h1 h2 => rworth_any m cap k capB A B f t V (fun i => (c i).toNat) w' (by omega) (by omega) R.v h1 (h2.congr fun i hi => (hin i hi).1) fun i hi => (hin i hi).2
        rw [hf] at IP0 WP0 RI0
        rw [if_pos (show (some a).isSome = true from rfl)] at WP0
        have IP : Hid (∀ w', IsChs w' A m (fun i => (f i : Int)) (fun i => (t i : Int)) V → IsInts w' B k c → Gives Try.prog 13 #[.int .i64 N, .slice A m cap, .int .i64 s, .slice B k capB] w' (.tuple #[.bool true, .int .i64 0])) := IP0
        have WP := Lib.hid WP0
        have RI : Hid (∀ w', IsChs w' A m (fun i => (f i : Int)) (fun i => (t i : Int)) V → IsInts w' B k c → Gives Try.prog 18 #[.slice A m cap, .int .i64 s, .slice B k capB] w' (.bool true)) := RI0
        clear IP0 WP0 RI0 hf R hin
        generalize wor V (fun i => (c i).toNat) k = W0 at *
        go_enter Try.func3, Try.ntmps3
        go_wp2_with (go_at_call 11; with_reducible refine Calls.mono (Gives.calls (LO.out _)) ?_; rintro e w1 ⟨rfl, z, rfl⟩)
        have d0 := (z.cell _ 0 l0).trans c0
        have d1 := (z.cell _ 1 l0).trans c1
        have l1 := z.lt _ l0
        have HPZ := Lib.hid (HP.out.later z)
        have HCZ := Lib.hid (HC.out.later z)
        have HBZ : Hid (Below w.heap.size w z.val) := below_later HB.out
        clear c0 c1 l0 HP HC HB
        obtain ⟨b8, hb8⟩ : ∃ b8, w.heap.size = b8 := ⟨_, rfl⟩
        rw [hb8] at d0 d1 l1 ⊢
        clear hb8
        generalize z.val = Z at *
        go_wp2_with (first | (go_at_call 13; (first | (with_reducible show Calls _ _ _ (Later.val _) _; with_reducible refine Calls.mono (Later.call _ (IP.out _ (HPZ.out.below (by repeat (first | exact Below.refl _ _ | (with_reducible assumption) | apply below_later | apply below_alloc | apply below_drew | apply below_drewN))) (HCZ.out.below (by repeat (first | exact Below.refl _ _ | (with_reducible assumption) | apply below_later | apply below_alloc | apply below_drew | apply below_drewN))))) ?_) | (with_reducible refine Calls.mono (Gives.calls (IP.out _ (HPZ.out.below (by repeat (first | exact Below.refl _ _ | (with_reducible assumption) | apply below_later | apply below_alloc | apply below_drew | apply below_drewN))) (HCZ.out.below (by repeat (first | exact Below.refl _ _ | (with_reducible assumption) | apply below_later | apply below_alloc | apply below_drew | apply below_drewN))))) ?_)); rintro e w1 ⟨rfl, y1, rfl⟩) | (go_at_call 14; (first | (with_reducible show Calls _ _ _ (Later.val _) _; with_reducible refine Calls.mono (Later.call _ (WP.out _ (HPZ.out.below (by repeat (first | exact Below.refl _ _ | (with_reducible assumption) | apply below_later | apply below_alloc | apply below_drew | apply below_drewN))) (HCZ.out.below (by repeat (first | exact Below.refl _ _ | (with_reducible assumption) | apply below_later | apply below_alloc | apply below_drew | apply below_drewN))))) ?_) | (with_reducible refine Calls.mono (Gives.calls (WP.out _ (HPZ.out.below (by repeat (first | exact Below.refl _ _ | (with_reducible assumption) | apply below_later | apply below_alloc | apply below_drew | apply below_drewN))) (HCZ.out.below (by repeat (first | exact Below.refl _ _ | (with_reducible assumption) | apply below_later | apply below_alloc | apply below_drew | apply below_drewN))))) ?_)); rintro e w1 ⟨rfl, y2, rfl⟩))
        first | (with_reducible show Code.wp _ _ _ _ (Later.val _); refine wp_region_later_at _ (by kernel_rfl) (by kernel_rfl) ?_) | refine wp_region_later (by kernel_rfl) (by kernel_rfl) ?_
        repeat (go_big_quiet_step ((first | (go_at_call 15; (with_reducible refine Later.call _ (VA.out _ (HPZ.out.below (by repeat (first | exact Below.refl _ _ | (with_reducible assumption) | apply below_later | apply below_alloc | apply below_drew | apply below_drewN)))))) | (go_at_call 16; (with_reducible refine Later.call _ (VR.out _ (HPZ.out.below (by repeat (first | exact Below.refl _ _ | (with_reducible assumption) | apply below_later | apply below_alloc | apply below_drew | apply below_drewN)))))))))
        refine wpQuiet_nil ?_
        intro y3
        go_wp2_with (first | (go_at_call 16; (first | (with_reducible show Calls _ _ _ (Later.val _) _; with_reducible refine Calls.mono (Later.call _ (VR.out _ (HPZ.out.below (by repeat (first | exact Below.refl _ _ | (with_reducible assumption) | apply below_later | apply below_alloc | apply below_drew | apply below_drewN))))) ?_) | (with_reducible refine Calls.mono (Gives.calls (VR.out _ (HPZ.out.below (by repeat (first | exact Below.refl _ _ | (with_reducible assumption) | apply below_later | apply below_alloc | apply below_drew | apply below_drewN))))) ?_)); rintro e w1 ⟨rfl, y4, rfl⟩) | (go_at_call 17; with_reducible refine Calls.mono (Gives.calls (SA.out _)) ?_; rintro e w1 ⟨rfl, y5, rfl⟩) | (go_at_call 12; with_reducible refine Calls.mono (Gives.calls (FL.out _)) ?_; rintro e w1 ⟨rfl, y6, rfl⟩) | (go_at_call 18; (first | (with_reducible show Calls _ _ _ (Later.val _) _; with_reducible refine Calls.mono (Later.call _ (RI.out _ (HPZ.out.below (by repeat (first | exact Below.refl _ _ | (with_reducible assumption) | apply below_later | apply below_alloc | apply below_drew | apply below_drewN))) (HCZ.out.below (by repeat (first | exact Below.refl _ _ | (with_reducible assumption) | apply below_later | apply below_alloc | apply below_drew | apply below_drewN))))) ?_) | (with_reducible refine Calls.mono (Gives.calls (RI.out _ (HPZ.out.below (by repeat (first | exact Below.refl _ _ | (with_reducible assumption) | apply below_later | apply below_alloc | apply below_drew | apply below_drewN))) (HCZ.out.below (by repeat (first | exact Below.refl _ _ | (with_reducible assumption) | apply below_later | apply below_alloc | apply below_drew | apply below_drewN))))) ?_)); rintro e w1 ⟨rfl, y7, rfl⟩) | (go_at_call 19; (first | (with_reducible show Calls _ _ _ (Later.val _) _; with_reducible refine Calls.mono (Later.call _ (RW.out _ (HPZ.out.below (by repeat (first | exact Below.refl _ _ | (with_reducible assumption) | apply below_later | apply below_alloc | apply below_drew | apply below_drewN))) (HCZ.out.below (by repeat (first | exact Below.refl _ _ | (with_reducible assumption) | apply below_later | apply below_alloc | apply below_drew | apply below_drewN))))) ?_) | (with_reducible refine Calls.mono (Gives.calls (RW.out _ (HPZ.out.below (by repeat (first | exact Below.refl _ _ | (with_reducible assumption) | apply below_later | apply below_alloc | apply below_drew | apply below_drewN))) (HCZ.out.below (by repeat (first | exact Below.refl _ _ | (with_reducible assumption) | apply below_later | apply below_alloc | apply below_drew | apply below_drewN))))) ?_)); rintro e w1 ⟨rfl, y8, rfl⟩))
        go_ret
        exact ⟨rfl, ⟨_, below_more HBZ.out (by repeat (first | exact Below.refl _ _ | (with_reducible assumption) | apply below_later | apply below_alloc | apply below_drew | apply below_drewN))⟩, rfl⟩
end Go.Proofs.Ytbmfmdlpaidmjaa
