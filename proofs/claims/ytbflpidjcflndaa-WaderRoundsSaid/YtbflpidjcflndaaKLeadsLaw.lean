/- WaderLeads, walked. -/
import Derived.Test.YtbflpidjcflndaaKRLead
import Derived.Test.YtbflpidjcflndaaKAwake
namespace Go.Proofs.Ytbflpidjcflndaa
open Go.RowKit

theorem Many_nil (A : Option Addr) (n cap : Nat) (w : World) : Gives Try.prog 13 #[.slice A n cap, .slice none 0 0] w (.bool (decide (40 < n))) := by
  by_cases h : 40 < n
  · have D : Hid (decide (40 < n) = true) := decide_eq_true h
    go_enter Try.func13, Try.ntmps13
    go_wp2
    go_ret
    exact ⟨ret_bool (by first | rfl | exact D.out.symm | rw [D.out]), later_of (by repeat (first | exact Below.refl _ _ | (with_reducible assumption) | apply below_later | apply below_alloc | apply below_drew | apply below_drewN))⟩
  · have D : Hid (decide (40 < n) = false) := decide_eq_false h
    go_enter Try.func13, Try.ntmps13
    go_wp2
    go_loopw [5] (fun u wr => u = .int .i64 0 ∧ ∃ x : Later w, wr = x.val) (fun _ _ => 0)
    case atStart => exact ⟨rfl, later_of (by repeat (first | exact Below.refl _ _ | (with_reducible assumption) | apply below_later | apply below_alloc | apply below_drew | apply below_drewN))⟩
    case round =>
      obtain ⟨rfl, x, rfl⟩ := hrel
      go_wp2
      go_ret
      exact ⟨ret_bool (by first | rfl | exact D.out.symm | rw [D.out]), later_of (by repeat (first | exact Below.refl _ _ | (with_reducible assumption) | apply below_later | apply below_alloc | apply below_drew | apply below_drewN))⟩
theorem has_any (n cap : Nat) (s x : Int) (A : Option Addr) (w : World) : Gives Try.prog 47 #[.agg #[.slice A n cap, .int .i64 s], .int .i64 x] w (.bool (inS n x)) := by
  have HR : Hid (inS n x = (decide (0 ≤ x) && decide (x < (n : Int)))) := by
    show inS n x = _
    unfold inS
    simp
  obtain ⟨c0, c1, l0⟩ := box2 w (.slice A n cap) (.int .i64 s) 74
  generalize inS n x = r at *
  by_cases h1 : 0 ≤ x <;> by_cases h2 : x < (n : Int)
  all_goals
    go_enter Try.func47, Try.ntmps47
    go_wp2
    go_ret
    exact ⟨ret_bool (by rw [HR.out]; simp [h1, h2]), later_of (by repeat (first | exact Below.refl _ _ | (with_reducible assumption) | apply below_later | apply below_alloc | apply below_drew | apply below_drewN))⟩
theorem rhas_any (n : Nat) (x : Int) (w : World) : Gives Try.prog 49 #[.int .i64 0, .int .i64 x, .int .i64 ((n : Int) - 1)] w (.bool (inS n x)) := by
  have e : inS n x = (decide (0 ≤ x) && decide (x ≤ (n : Int) - 1)) := by
    unfold inS
    by_cases h1 : 0 ≤ x <;> by_cases h2 : x < (n : Int) <;> simp [h1, h2] <;> omega
  rw [e]
  exact rfrom_any 0 x _ w
set_option maxRecDepth 100000 in
set_option maxHeartbeats 3200000 in
/-- Leads answers as the document's does. -/
theorem leads_pair (A : Option Addr) (n cap : Nat) (s i k : Int) (X Y T : Nat → Int) (w : World) (hn : n ≤ 40) (hp : IsChs w A n X Y T) :
    ∃ (b : Bool) (E : Int), Hid (∀ V, Below w.heap.size w V → Gives Try.prog 15 #[.slice A n cap, .int .i64 s, .int .i64 i, .int .i64 k] V (.tuple #[.bool b, .int .i64 E])) ∧ Hid (∀ V, Below w.heap.size w V → Gives Try.prog 16 #[.slice A n cap, .int .i64 s, .int .i64 i, .int .i64 k] V (.tuple #[.bool b, .int .i64 E])) := by
  have VA : Hid (∀ V, Below w.heap.size w V → Gives Try.prog 17 #[.slice A n cap, .int .i64 s] V (.bool (validW n s X Y T))) := fun V h => kvalid_any s A n cap X Y T V fun _ => hp.below h
  have VR : Hid (∀ V, Below w.heap.size w V → Gives Try.prog 18 #[.slice A n cap, .int .i64 s] V (.bool (validW n s X Y T))) := fun V h => krvalid_any s A n cap X Y T V (by omega) (hp.below h)
  cases hv : validW n s X Y T
  · rw [hv] at VA VR
    refine ⟨false, 60, fun V hV => ?_, fun V hV => ?_⟩
    · have HV := Lib.hid hV
      clear hV hp
      go_enter Try.func15, Try.ntmps15
      go_wp2_with (go_at_call 17; with_reducible refine Calls.mono (Gives.calls (VA.out _ (below_more HV.out (by repeat (first | exact Below.refl _ _ | (with_reducible assumption) | apply below_later | apply below_alloc | apply below_drew | apply below_drewN))))) ?_; rintro e w1 ⟨rfl, z, rfl⟩)
      go_ret2
      exact ⟨rfl, later_of (by repeat (first | exact Below.refl _ _ | (with_reducible assumption) | apply below_later | apply below_alloc | apply below_drew | apply below_drewN))⟩
    · have HV := Lib.hid hV
      clear hV hp
      go_enter Try.func16, Try.ntmps16
      go_wp2_with (go_at_call 18; with_reducible refine Calls.mono (Gives.calls (VR.out _ (below_more HV.out (by repeat (first | exact Below.refl _ _ | (with_reducible assumption) | apply below_later | apply below_alloc | apply below_drew | apply below_drewN))))) ?_; rintro e w1 ⟨rfl, z, rfl⟩)
      go_ret2
      exact ⟨rfl, later_of (by repeat (first | exact Below.refl _ _ | (with_reducible assumption) | apply below_later | apply below_alloc | apply below_drew | apply below_drewN))⟩
  have W := watch_iff.1 hv
  rw [hv] at VA VR
  have H1 := Lib.hid fun V => has_any n cap s i A V
  have H2 := Lib.hid fun V => has_any n cap s k A V
  have R1 := Lib.hid fun V => rhas_any n i V
  have R2 := Lib.hid fun V => rhas_any n k V
  have hw : IntKind.i64.wrap ((n : Int) - 1) = (n : Int) - 1 := IntWalk.i64_in _ ⟨by omega, by omega⟩
  by_cases hi : inS n i = true
  · by_cases hk : inS n k = true
    · obtain ⟨i', ei, hi'⟩ := inS_true hi
      obtain ⟨k', ek, hk'⟩ := inS_true hk
      subst ei ek
      have LA : Hid (∀ V, Below w.heap.size w V → Gives Try.prog 48 #[.agg #[.slice A n cap, .int .i64 s], .int .i64 i', .int .i64 k'] V (.bool (leadsR s X Y T i' k'))) := fun V h => leads_any s n cap i' k' A X Y T V hi' hk' W (hp.below h)
      have LR : Hid (∀ V, Below w.heap.size w V → Gives Try.prog 50 #[.slice A n cap, .int .i64 s, .int .i64 i', .int .i64 k'] V (.bool (leadsR s X Y T i' k'))) := fun V h => rleads_any s n cap i' k' A X Y T V hi' hk' W (hp.below h)
      generalize leadsR s X Y T i' k' = r at *
      rw [hi] at H1 R1
      rw [hk] at H2 R2
      refine ⟨r, 0, fun V hV => ?_, fun V hV => ?_⟩
      · have HV := Lib.hid hV
        obtain ⟨c0, c1, l0⟩ := box2 V (.slice A n cap) (.int .i64 s) 74
        clear hV hp W hi hk
        go_enter Try.func15, Try.ntmps15
        go_wp2_with (first
          | (go_at_call 17; with_reducible refine Calls.mono (Gives.calls (VA.out _ (below_more HV.out (by repeat (first | exact Below.refl _ _ | (with_reducible assumption) | apply below_later | apply below_alloc | apply below_drew | apply below_drewN))))) ?_; rintro e w1 ⟨rfl, z, rfl⟩)
          | (go_at_call 47; with_reducible refine Calls.mono (Gives.calls (H1.out _)) ?_; rintro e w1 ⟨rfl, z2, rfl⟩)
          | (go_at_call 47; with_reducible refine Calls.mono (Gives.calls (H2.out _)) ?_; rintro e w1 ⟨rfl, z3, rfl⟩)
          | (go_at_call 48; with_reducible refine Calls.mono (Gives.calls (LA.out _ (below_more HV.out (by repeat (first | exact Below.refl _ _ | (with_reducible assumption) | apply below_later | apply below_alloc | apply below_drew | apply below_drewN))))) ?_; rintro e w1 ⟨rfl, z4, rfl⟩))
        go_ret2
        exact ⟨rfl, later_of (by repeat (first | exact Below.refl _ _ | (with_reducible assumption) | apply below_later | apply below_alloc | apply below_drew | apply below_drewN))⟩
      · have HV := Lib.hid hV
        clear hV hp W hi hk
        go_enter Try.func16, Try.ntmps16
        go_wp2_with (first
          | (go_at_call 18; with_reducible refine Calls.mono (Gives.calls (VR.out _ (below_more HV.out (by repeat (first | exact Below.refl _ _ | (with_reducible assumption) | apply below_later | apply below_alloc | apply below_drew | apply below_drewN))))) ?_; rintro e w1 ⟨rfl, z, rfl⟩)
          | (go_at_call 49; with_reducible refine Calls.mono (Gives.calls (R1.out _)) ?_; rintro e w1 ⟨rfl, z2, rfl⟩)
          | (go_at_call 49; with_reducible refine Calls.mono (Gives.calls (R2.out _)) ?_; rintro e w1 ⟨rfl, z3, rfl⟩)
          | (go_at_call 50; with_reducible refine Calls.mono (Gives.calls (LR.out _ (below_more HV.out (by repeat (first | exact Below.refl _ _ | (with_reducible assumption) | apply below_later | apply below_alloc | apply below_drew | apply below_drewN))))) ?_; rintro e w1 ⟨rfl, z4, rfl⟩))
        go_ret2
        exact ⟨rfl, later_of (by repeat (first | exact Below.refl _ _ | (with_reducible assumption) | apply below_later | apply below_alloc | apply below_drew | apply below_drewN))⟩
    · simp only [Bool.not_eq_true] at hk
      rw [hi] at H1 R1
      rw [hk] at H2 R2
      refine ⟨false, 2, fun V hV => ?_, fun V hV => ?_⟩
      · have HV := Lib.hid hV
        obtain ⟨c0, c1, l0⟩ := box2 V (.slice A n cap) (.int .i64 s) 74
        clear hV hp W hi hk
        go_enter Try.func15, Try.ntmps15
        go_wp2_with (first
          | (go_at_call 17; with_reducible refine Calls.mono (Gives.calls (VA.out _ (below_more HV.out (by repeat (first | exact Below.refl _ _ | (with_reducible assumption) | apply below_later | apply below_alloc | apply below_drew | apply below_drewN))))) ?_; rintro e w1 ⟨rfl, z, rfl⟩)
          | (go_at_call 47; with_reducible refine Calls.mono (Gives.calls (H1.out _)) ?_; rintro e w1 ⟨rfl, z2, rfl⟩)
          | (go_at_call 47; with_reducible refine Calls.mono (Gives.calls (H2.out _)) ?_; rintro e w1 ⟨rfl, z3, rfl⟩))
        go_ret2
        exact ⟨rfl, later_of (by repeat (first | exact Below.refl _ _ | (with_reducible assumption) | apply below_later | apply below_alloc | apply below_drew | apply below_drewN))⟩
      · have HV := Lib.hid hV
        clear hV hp W hi hk
        go_enter Try.func16, Try.ntmps16
        go_wp2_with (first
          | (go_at_call 18; with_reducible refine Calls.mono (Gives.calls (VR.out _ (below_more HV.out (by repeat (first | exact Below.refl _ _ | (with_reducible assumption) | apply below_later | apply below_alloc | apply below_drew | apply below_drewN))))) ?_; rintro e w1 ⟨rfl, z, rfl⟩)
          | (go_at_call 49; with_reducible refine Calls.mono (Gives.calls (R1.out _)) ?_; rintro e w1 ⟨rfl, z2, rfl⟩)
          | (go_at_call 49; with_reducible refine Calls.mono (Gives.calls (R2.out _)) ?_; rintro e w1 ⟨rfl, z3, rfl⟩))
        go_ret2
        exact ⟨rfl, later_of (by repeat (first | exact Below.refl _ _ | (with_reducible assumption) | apply below_later | apply below_alloc | apply below_drew | apply below_drewN))⟩
  · simp only [Bool.not_eq_true] at hi
    rw [hi] at H1 R1
    refine ⟨false, 2, fun V hV => ?_, fun V hV => ?_⟩
    · have HV := Lib.hid hV
      obtain ⟨c0, c1, l0⟩ := box2 V (.slice A n cap) (.int .i64 s) 74
      clear hV hp W hi
      go_enter Try.func15, Try.ntmps15
      go_wp2_with (first
        | (go_at_call 17; with_reducible refine Calls.mono (Gives.calls (VA.out _ (below_more HV.out (by repeat (first | exact Below.refl _ _ | (with_reducible assumption) | apply below_later | apply below_alloc | apply below_drew | apply below_drewN))))) ?_; rintro e w1 ⟨rfl, z, rfl⟩)
        | (go_at_call 47; with_reducible refine Calls.mono (Gives.calls (H1.out _)) ?_; rintro e w1 ⟨rfl, z2, rfl⟩))
      go_ret2
      exact ⟨rfl, later_of (by repeat (first | exact Below.refl _ _ | (with_reducible assumption) | apply below_later | apply below_alloc | apply below_drew | apply below_drewN))⟩
    · have HV := Lib.hid hV
      clear hV hp W hi
      go_enter Try.func16, Try.ntmps16
      go_wp2_with (first
        | (go_at_call 18; with_reducible refine Calls.mono (Gives.calls (VR.out _ (below_more HV.out (by repeat (first | exact Below.refl _ _ | (with_reducible assumption) | apply below_later | apply below_alloc | apply below_drew | apply below_drewN))))) ?_; rintro e w1 ⟨rfl, z, rfl⟩)
        | (go_at_call 49; with_reducible refine Calls.mono (Gives.calls (R1.out _)) ?_; rintro e w1 ⟨rfl, z2, rfl⟩))
      go_ret2
      exact ⟨rfl, later_of (by repeat (first | exact Below.refl _ _ | (with_reducible assumption) | apply below_later | apply below_alloc | apply below_drew | apply below_drewN))⟩
set_option maxRecDepth 100000 in
set_option maxHeartbeats 3200000 in
theorem leads_law (A : Option Addr) (n cap : Nat) (s i k : Int) (X Y T : Nat → Int) (w : World) (hp : n ≤ 60 → IsChs w A n X Y T) :
    Gives Try.prog 3 #[.slice A n cap, .int .i64 s, .agg #[.int .i64 i, .int .i64 k]] w (.bool true) := by
  have AW := Lib.hid awake_law
  have MN := Lib.hid fun V => Many_nil A n cap V
  obtain ⟨d0, d1, l1⟩ := box2 w (.int .i64 i) (.int .i64 k) 23
  have hb : Below w.heap.size w (w.alloc (.cells #[.int .i64 i, .int .i64 k] 23)) := below_alloc (Below.refl _ _)
  by_cases h : 40 < n
  · rw [decide_eq_true h] at MN
    clear hp hb
    go_enter Try.func3, Try.ntmps3
    go_wp2_with (first | (go_at_call 13; with_reducible refine Calls.mono (Gives.calls (MN.out _)) ?_; rintro e w1 ⟨rfl, z, rfl⟩) | (go_at_call 14; with_reducible refine Calls.mono (Gives.calls (AW.out _)) ?_; rintro e w1 ⟨rfl, z2, rfl⟩))
    go_ret
    exact ⟨rfl, later_of (by repeat (first | exact Below.refl _ _ | (with_reducible assumption) | apply below_later | apply below_alloc | apply below_drew | apply below_drewN))⟩
  · rw [decide_eq_false h] at MN
    obtain ⟨b, E, L1, L2⟩ := leads_pair A n cap s i k X Y T w (by omega) (hp (by omega))
    have VA : Hid (∀ V, Below w.heap.size w V → Gives Try.prog 17 #[.slice A n cap, .int .i64 s] V (.bool (validW n s X Y T))) := fun V h2 => kvalid_any s A n cap X Y T V fun _ => (hp (by omega)).below h2
    have VR : Hid (∀ V, Below w.heap.size w V → Gives Try.prog 18 #[.slice A n cap, .int .i64 s] V (.bool (validW n s X Y T))) := fun V h2 => krvalid_any s A n cap X Y T V (by omega) ((hp (by omega)).below h2)
    have HX : Hid (∀ V, Below (w.alloc (.cells #[.int .i64 i, .int .i64 k] 23)).heap.size (w.alloc (.cells #[.int .i64 i, .int .i64 k] 23)) V → V.cell? ⟨w.heap.size, 0, none⟩ = some (.int .i64 i) ∧ V.cell? ⟨w.heap.size, 1, none⟩ = some (.int .i64 k) ∧ w.heap.size < V.heap.size) := fun V h =>
      ⟨(h.cell (p := ⟨w.heap.size, 0, none⟩) l1).trans d0, (h.cell (p := ⟨w.heap.size, 1, none⟩) l1).trans d1, Nat.lt_of_lt_of_le l1 h.size⟩
    generalize validW n s X Y T = v at *
    clear hp hb
    go_enter Try.func3, Try.ntmps3
    go_wp2_with (first
      | ((go_at_call 13; with_reducible refine Calls.mono (Gives.calls (MN.out _)) ?_; rintro e w1 ⟨rfl, z, rfl⟩); obtain ⟨j0, j1, j2⟩ := HX.out z.val (by repeat (first | exact Below.refl _ _ | (with_reducible assumption) | apply below_later | apply below_alloc | apply below_drew | apply below_drewN)))
      | ((go_at_call 15; with_reducible refine Calls.mono (Gives.calls (L1.out _ (by repeat (first | exact Below.refl _ _ | (with_reducible assumption) | apply below_later | apply below_alloc | apply below_drew | apply below_drewN)))) ?_; rintro e w1 ⟨rfl, z2, rfl⟩); obtain ⟨j0, j1, j2⟩ := HX.out z2.val (by repeat (first | exact Below.refl _ _ | (with_reducible assumption) | apply below_later | apply below_alloc | apply below_drew | apply below_drewN)))
      | ((go_at_call 16; with_reducible refine Calls.mono (Gives.calls (L2.out _ (by repeat (first | exact Below.refl _ _ | (with_reducible assumption) | apply below_later | apply below_alloc | apply below_drew | apply below_drewN)))) ?_; rintro e w1 ⟨rfl, z3, rfl⟩); obtain ⟨j0, j1, j2⟩ := HX.out z3.val (by repeat (first | exact Below.refl _ _ | (with_reducible assumption) | apply below_later | apply below_alloc | apply below_drew | apply below_drewN)))
      | (go_at_call 17; with_reducible refine Calls.mono (Gives.calls (VA.out _ (by repeat (first | exact Below.refl _ _ | (with_reducible assumption) | apply below_later | apply below_alloc | apply below_drew | apply below_drewN)))) ?_; rintro e w1 ⟨rfl, z4, rfl⟩)
      | (go_at_call 18; with_reducible refine Calls.mono (Gives.calls (VR.out _ (by repeat (first | exact Below.refl _ _ | (with_reducible assumption) | apply below_later | apply below_alloc | apply below_drew | apply below_drewN)))) ?_; rintro e w1 ⟨rfl, z5, rfl⟩)
      | (go_at_call 14; with_reducible refine Calls.mono (Gives.calls (AW.out _)) ?_; rintro e w1 ⟨rfl, z6, rfl⟩))
    go_ret
    exact ⟨rfl, later_of (by repeat (first | exact Below.refl _ _ | (with_reducible assumption) | apply below_later | apply below_alloc | apply below_drew | apply below_drewN))⟩
end Go.Proofs.Ytbflpidjcflndaa
