/- rod.Straight and the document's: a parcel without its straight corners. -/
import Derived.Test.YticjjikodignfaaDoorMoves
import Derived.Test.YticjjikodignfaaDoorStraightMath
import Derived.Test.YticjjikodignfaaDoorConvex
namespace Go.Proofs.YticjjikodignfaaDoor
open Go.RowKit

/-- The corners that bend, among the first k. -/
def keptTo (n : Nat) (px py : Nat → Int) (k : Nat) : List Pt := ((List.range k).filter fun i => decide (bendI n px py i ≠ 0)).map fun i => (px i, py i)
theorem keptTo_len (n : Nat) (px py : Nat → Int) (k : Nat) : (keptTo n px py k).length ≤ k := by
  unfold keptTo
  rw [List.length_map]
  have := List.length_filter_le (fun i => decide (bendI n px py i ≠ 0)) (List.range k)
  simpa using this
theorem keptTo_in {n k : Nat} {px py : Nat → Int} (h : ¬ bendI n px py k = 0) : keptTo n px py (k + 1) = keptTo n px py k ++ [(px k, py k)] := by
  unfold keptTo
  rw [List.range_succ, List.filter_append, List.map_append]
  simp [h]
theorem keptTo_out {n k : Nat} {px py : Nat → Int} (h : bendI n px py k = 0) : keptTo n px py (k + 1) = keptTo n px py k := by
  unfold keptTo
  rw [List.range_succ, List.filter_append, List.map_append]
  simp [h]
/-- All corners that bend. -/
def keptL (n : Nat) (px py : Nat → Int) : List Pt := keptTo n px py n
theorem keptL_eq (n : Nat) (px py : Nat → Int) : keptL n px py = (kept n px py).map fun i => (px i, py i) := rfl

set_option maxRecDepth 100000 in
set_option maxHeartbeats 3200000 in
theorem straight_any (A : Option Addr) (n cap : Nat) (px py : Nat → Int) (w : World) (hp : IsPosts w A n px py) (hv : validB n px py = true) :
    GivesP 43 #[.slice A n cap] w (keptL n px py) 0 := by
  have Hp := Lib.hid hp
  clear hp
  obtain ⟨h1, h2, h3⟩ := valid_bounds hv
  have H3 := Lib.hid h3
  have h4 : 2 ≤ n := by omega
  obtain ⟨b, off, rfl, hq⟩ := Hp.out.at_ (by omega)
  have Hq := Lib.hid hq
  have hl := hq.lt
  clear hq h3
  go_enter Tryd.func43, Tryd.ntmps43
  go_wp2_with (first | (go_at_call 33; (first | (with_reducible show Calls _ _ _ (Later.val _) _; with_reducible refine Calls.mono (Later.call _ ((hv ▸ valid_any _ _ _ _ _ _ Hp.out))) ?_) | (with_reducible refine Calls.mono (Gives.calls ((hv ▸ valid_any _ _ _ _ _ _ Hp.out))) ?_)); rintro e w1 ⟨rfl, y1, rfl⟩))
  go_loopw [4, 11] (fun v c wr => ∃ k : Nat, k ≤ n ∧ c = .int .i64 k ∧ ∃ x : Later w, wr = x.val ∧ OwnP wr w.heap.size v (keptTo n px py k)) (fun _ c _ => n - (intOf c).toNat)
  case atStart => exact ⟨0, by omega, rfl, ⟨_, (by repeat (first | exact Below.refl _ _ | (with_reducible assumption) | apply below_later | apply below_alloc | apply below_drew | apply below_drewN))⟩, rfl, OwnP.nil _ _⟩
  case round =>
    obtain ⟨k, hk, rfl, x, rfl, ho⟩ := hrel
    obtain ⟨A, cap', rfl⟩ := ho.shape
    have hkl := keptTo_len n px py k
    have HO := Lib.hid ho
    clear ho
    by_cases hlt : k < n
    · by_cases g1 : bendI n px py k = 0
      · have E1 := Lib.hid (keptTo_out g1)
        generalize keptTo n px py k = L at *
        have G1 := Lib.hid g1
        clear g1
        go_wp2_with (first | (go_at_call 77; with_reducible refine Calls.mono (Gives.calls ((G1.out ▸ bend_any _ _ _ _ _ _ _ _ h4 h2 hlt (Hq.out.later _) H3.out))) ?_; rintro e w1 ⟨rfl, q, rfl⟩))
        go_roundw
        case rel => exact ⟨k + 1, by omega, by go_num, ⟨q.val, (by repeat (first | exact Below.refl _ _ | (with_reducible assumption) | apply below_later | apply below_alloc | apply below_drew | apply below_drewN))⟩, rfl, E1.out ▸ HO.out.later q⟩
        case measure => simp [intOf]; omega
      · have E1 := Lib.hid (keptTo_in g1)
        generalize keptTo n px py k = L at *
        have c1 := Hq.out.x k hlt
        have c2 := Hq.out.y k hlt
        have hs := x.size
        have hs3 : b < x.val.heap.size := by omega
        obtain ⟨i0, hi, hz0, hz1, hz2⟩ := info_parts infoXY
        have n1 : (bendI n px py k != 0) = true := by simpa using g1
        go_wp2_with (first | (go_at_call 77; with_reducible refine Calls.mono (Gives.calls (bend_any _ _ _ _ _ _ _ _ h4 h2 hlt (Hq.out.later _) H3.out)) ?_; rintro e w1 ⟨rfl, q, rfl⟩) | (at_builtin; (refine wpList_append_own _ rfl _ _ 32 rfl w.heap.size 37 i0 (.agg #[.int .i64 0, .int .i64 0]) 2 16 Tryd.underlying32 hi hz0 hz1 hz2 rfl (by decide) _ _ _ rfl ((HO.out.later q).alloc (.cells #[.int .i64 (px k), .int .i64 (py k)] 37)) ⟨q.val.heap.size, 0, none⟩ 1 1 [.int .i64 (px k), .int .i64 (py k)] rfl rfl (cell_two_new _ _ _ _) (by simp [Value.oneCell']) (by simp only [maxLen]; omega) (by omega) (by have := q.size; simp at this ⊢; omega) ?_); intro v' w1 hown2 hg1 _))
        go_roundw
        case rel =>
          refine ⟨k + 1, by omega, by go_num, ⟨w1, below_own (by repeat (first | exact Below.refl _ _ | (with_reducible assumption) | apply below_later | apply below_alloc | apply below_drew | apply below_drewN)) ((HO.out.later q).alloc (.cells #[.int .i64 (px k), .int .i64 (py k)] 37)) (by simp) hg1⟩, rfl, ?_⟩
          rw [E1.out]
          exact OwnP.push hown2
        case measure => simp [intOf]; omega
    · obtain rfl : k = n := by omega
      go_wp2
      go_ret2
      exact ⟨_, rfl, ⟨_, (by repeat (first | exact Below.refl _ _ | (with_reducible assumption) | apply below_later | apply below_alloc | apply below_drew | apply below_drewN))⟩, rfl, HO.out⟩

theorem straight_bad (A : Option Addr) (n cap : Nat) (px py : Nat → Int) (w : World) (hp : IsPosts w A n px py) (hv : validB n px py = false) :
    GivesP 43 #[.slice A n cap] w [] 10 := by
  have Hp := Lib.hid hp
  clear hp
  go_enter Tryd.func43, Tryd.ntmps43
  go_wp2_with (first | (go_at_call 33; (first | (with_reducible show Calls _ _ _ (Later.val _) _; with_reducible refine Calls.mono (Later.call _ ((hv ▸ valid_any _ _ _ _ _ _ Hp.out))) ?_) | (with_reducible refine Calls.mono (Gives.calls ((hv ▸ valid_any _ _ _ _ _ _ Hp.out))) ?_)); rintro e w1 ⟨rfl, y1, rfl⟩))
  go_ret2
  exact ⟨_, rfl, ⟨_, (by repeat (first | exact Below.refl _ _ | (with_reducible assumption) | apply below_later | apply below_alloc | apply below_drew | apply below_drewN))⟩, rfl, OwnP.nil _ _⟩

set_option maxRecDepth 100000 in
set_option maxHeartbeats 3200000 in
theorem r_straight_any (b off n cap : Nat) (px py : Nat → Int) (w : World) (h0 : 3 ≤ n) (hn : n ≤ 40) (hp : Posts w b off n px py) (hr : ∀ i, i < n → InRange (px i) (py i)) :
    GivesL 45 #[.slice (some ⟨b, off, none⟩) n cap] w (keptL n px py) := by
  have Hr := Lib.hid hr
  have hl := hp.lt
  have Hp := Lib.hid hp
  clear hr hp
  go_enter Tryd.func45, Tryd.ntmps45
  go_wp2
  go_loopw [3, 5] (fun v c wr => ∃ k : Nat, k ≤ n ∧ c = .int .i64 k ∧ ∃ x : Later w, wr = x.val ∧ OwnP wr w.heap.size v (keptTo n px py k)) (fun _ c _ => n - (intOf c).toNat)
  case atStart => exact ⟨0, by omega, rfl, ⟨_, (by repeat (first | exact Below.refl _ _ | (with_reducible assumption) | apply below_later | apply below_alloc | apply below_drew | apply below_drewN))⟩, rfl, OwnP.nil _ _⟩
  case round =>
    obtain ⟨k, hk, rfl, x, rfl, ho⟩ := hrel
    obtain ⟨A, cap', rfl⟩ := ho.shape
    have hkl := keptTo_len n px py k
    have HO := Lib.hid ho
    clear ho
    by_cases hlt : k < n
    · have hn1 := nx_lt (n := n) k (by omega)
      have hn2 := pv_lt (n := n) k (by omega)
      have e1 := nx_eq n k
      have e2 := pv_eq n k (by omega)
      have c1 := Hp.out.x k hlt
      have c2 := Hp.out.y k hlt
      have c3 := Hp.out.x _ hn1
      have c4 := Hp.out.y _ hn1
      have c5 := Hp.out.x _ hn2
      have c6 := Hp.out.y _ hn2
      have r1 := Hr.out k hlt
      have r2 := Hr.out _ hn1
      have r3 := Hr.out _ hn2
      have T : Hid (crossI (px (pv n k)) (py (pv n k)) (px k) (py k) (px (nx n k)) (py (nx n k)) = bendI n px py k) := rfl
      have hs := x.size
      have hs3 : b < x.val.heap.size := by omega
      by_cases g1 : bendI n px py k = 0
      · have E1 := Lib.hid (keptTo_out g1)
        generalize keptTo n px py k = L at *
        have T0 := Lib.hid (T.out.trans g1)
        clear g1 T
        go_wp2_with fail
        refine wp_region_later (by kernel_rfl) (by kernel_rfl) ?_
        repeat (go_big_quiet_step ((first | (go_at_call 78; (with_reducible refine Later.call _ ((T0.out ▸ r_turn_any _ _ _ _ _ _ _ (by assumption) (by assumption) (by assumption))))))))
        refine wpQuiet_nil ?_
        intro z
        go_wp2
        go_roundw
        case rel => exact ⟨k + 1, by omega, by go_num, ⟨z.val, (by repeat (first | exact Below.refl _ _ | (with_reducible assumption) | apply below_later | apply below_alloc | apply below_drew | apply below_drewN))⟩, rfl, E1.out ▸ HO.out.later z⟩
        case measure => simp [intOf]; omega
      · have E1 := Lib.hid (keptTo_in g1)
        generalize keptTo n px py k = L at *
        obtain ⟨i0, hi, hz0, hz1, hz2⟩ := info_parts infoXY
        have n1 : (bendI n px py k != 0) = true := by simpa using g1
        go_wp2_with fail
        refine wp_region_later (by kernel_rfl) (by kernel_rfl) ?_
        repeat (go_big_quiet_step ((first | (go_at_call 78; (with_reducible refine Later.call _ ((T.out ▸ r_turn_any _ _ _ _ _ _ _ (by assumption) (by assumption) (by assumption))))))))
        refine wpQuiet_nil ?_
        intro z
        go_wp2_with (first | (at_builtin; (refine wpList_append_own _ rfl _ _ 32 rfl w.heap.size 37 i0 (.agg #[.int .i64 0, .int .i64 0]) 2 16 Tryd.underlying32 hi hz0 hz1 hz2 rfl (by decide) _ _ _ rfl ((HO.out.later z).alloc (.cells #[.int .i64 (px k), .int .i64 (py k)] 37)) ⟨z.val.heap.size, 0, none⟩ 1 1 [.int .i64 (px k), .int .i64 (py k)] rfl rfl (cell_two_new _ _ _ _) (by simp [Value.oneCell']) (by simp only [maxLen]; omega) (by omega) (by have := z.size; simp at this ⊢; omega) ?_); intro v' w1 hown2 hg1 _))
        go_wp2
        go_roundw
        case rel =>
          refine ⟨k + 1, by omega, by go_num, ⟨w1, below_own (by repeat (first | exact Below.refl _ _ | (with_reducible assumption) | apply below_later | apply below_alloc | apply below_drew | apply below_drewN)) ((HO.out.later z).alloc (.cells #[.int .i64 (px k), .int .i64 (py k)] 37)) (by simp) hg1⟩, rfl, ?_⟩
          rw [E1.out]
          exact OwnP.push hown2
        case measure => simp [intOf]; omega
    · obtain rfl : k = n := by omega
      go_wp2
      go_ret
      exact ⟨_, rfl, ⟨_, (by repeat (first | exact Below.refl _ _ | (with_reducible assumption) | apply below_later | apply below_alloc | apply below_drew | apply below_drewN))⟩, rfl, HO.out⟩
end Go.Proofs.YticjjikodignfaaDoor
