/- The law BedGrowth: walked. -/
import Derived.Test.YtajfepogecakbaaDoorGrow
import Derived.Test.YtajfepogecakbaaDoorAwake
import Derived.Test.YtajfepogecakbaaDoorBedRef
namespace Go.Proofs.YtajfepogecakbaaDoor
open Go.RowKit

theorem map_getD {n i : Nat} (F : Nat → Int) (h : i < n) : ((List.range n).map F).getD i 0 = F i := by
  rw [List.getD_eq_getElem?_getD, List.getElem?_map, List.getElem?_range h]; rfl
/-- Does a round of the law find nothing? -/
def growOk (o x y : Int) : Prop := (o = 1 → x = 1) ∧ (o ≠ 1 → y = o) ∧ (o = 2 → x = 2) ∧ (x = o ∨ x = 1) ∧ (y = o ∨ y = 4)
theorem grow_ok (W H : Nat) (f : Nat → Int) (i : Nat) : growOk (f i) (spreadF W H f i) (mowF W H f i) := by
  unfold growOk spreadF mowF
  by_cases h1 : (f i = 3 ∨ f i = 4) ∧ 2 ≤ reedsN W H f i <;> by_cases h2 : f i = 1 ∧ reedsN W H f i ≤ 1
  · rw [if_pos h1, if_pos h2]; omega
  · rw [if_pos h1, if_neg h2]; omega
  · rw [if_neg h1, if_pos h2]; omega
  · rw [if_neg h1, if_neg h2]; omega

set_option maxRecDepth 100000 in
set_option maxHeartbeats 3200000 in
theorem growth_law (W H : Int) (A : Option Addr) (n cap : Nat) (f : Nat → Int) (w : World) (hp : IsInts w A n f) :
    Gives Tryd.prog 12 #[.agg #[.int .i64 W, .int .i64 H, .slice A n cap]] w (.bool true) := by
  have AW : Hid (∀ w, Gives Tryd.prog 16 #[] w (.bool true)) := awake_any
  have HP := Lib.hid hp
  have hm1 := hp.small
  clear hp
  cases hv : validM W H n f
  · have V : Hid (∀ w', IsInts w' A n f → Gives Tryd.prog 20 #[.agg #[.int .i64 W, .int .i64 H, .slice A n cap]] w' (.bool false)) := fun w' h => hv ▸ rmvalid_any W H A n cap f w' h
    clear hv
    go_enter Tryd.func12, Tryd.ntmps12
    go_wp2_with (first | (go_at_call 20; (first | (with_reducible show Calls _ _ _ (Later.val _) _; with_reducible refine Calls.mono (Later.call _ (V.out _ (HP.out.later ⟨_, by repeat (first | exact Below.refl _ _ | (with_reducible assumption) | apply below_later | apply below_alloc | apply below_drew | apply below_drewN)⟩))) ?_) | (with_reducible refine Calls.mono (Gives.calls (V.out _ (HP.out.later ⟨_, by repeat (first | exact Below.refl _ _ | (with_reducible assumption) | apply below_later | apply below_alloc | apply below_drew | apply below_drewN)⟩))) ?_)); rintro e w1 ⟨rfl, z, rfl⟩) | (go_at_call 16; (first | (with_reducible show Calls _ _ _ (Later.val _) _; with_reducible refine Calls.mono (Later.call _ (AW.out _)) ?_) | (with_reducible refine Calls.mono (Gives.calls (AW.out _)) ?_)); rintro e w1 ⟨rfl, y2, rfl⟩))
    go_ret
    exact ⟨rfl, later_of (by repeat (first | exact Below.refl _ _ | (with_reducible assumption) | apply below_later | apply below_alloc | apply below_drew | apply below_drewN))⟩
  · have V : Hid (∀ w', IsInts w' A n f → Gives Tryd.prog 20 #[.agg #[.int .i64 W, .int .i64 H, .slice A n cap]] w' (.bool true)) := fun w' h => hv ▸ rmvalid_any W H A n cap f w' h
    obtain ⟨⟨v1, v2⟩, ⟨v3, v4⟩, hn, _⟩ := validM_iff.1 hv
    obtain ⟨W, rfl⟩ : ∃ x : Nat, W = x := ⟨W.toNat, by omega⟩
    obtain ⟨H, rfl⟩ : ∃ y : Nat, H = y := ⟨H.toNat, by omega⟩
    have hn' : n = W * H := by rw [← Int.natCast_mul] at hn; omega
    have hn9 : n ≤ 900 := by rw [hn']; exact Nat.mul_le_mul (show W ≤ 30 by omega) (show H ≤ 30 by omega)
    have S1 : Hid (∀ w', IsInts w' A n f → GivesME 37 #[.agg #[.int .i64 W, .int .i64 H, .slice A n cap]] w' W H ((List.range n).map (spreadF W H f)) 0) := fun w' h => by rw [hn']; exact hn' ▸ Spread_ok W H n cap A f w' h hv
    have S2 : Hid (∀ w', IsInts w' A n f → GivesME 39 #[.agg #[.int .i64 W, .int .i64 H, .slice A n cap]] w' W H ((List.range n).map (mowF W H f)) 0) := fun w' h => by rw [hn']; exact hn' ▸ Mow_ok W H n cap A f w' h hv
    have GO := Lib.hid (grow_ok W H f)
    have h0 : 0 < n := by
      have := Nat.mul_le_mul (show 1 ≤ W by omega) (show 1 ≤ H by omega)
      omega
    clear hv hn hn'
    generalize spreadF W H f = sf at *
    generalize mowF W H f = mf at *
    go_enter Tryd.func12, Tryd.ntmps12
    go_wp2_with (first
      | (go_at_call 20; (first | (with_reducible show Calls _ _ _ (Later.val _) _; with_reducible refine Calls.mono (Later.call _ (V.out _ (HP.out.later ⟨_, by repeat (first | exact Below.refl _ _ | (with_reducible assumption) | apply below_later | apply below_alloc | apply below_drew | apply below_drewN)⟩))) ?_) | (with_reducible refine Calls.mono (Gives.calls (V.out _ (HP.out.later ⟨_, by repeat (first | exact Below.refl _ _ | (with_reducible assumption) | apply below_later | apply below_alloc | apply below_drew | apply below_drewN)⟩))) ?_)); rintro e w1 ⟨rfl, z, rfl⟩)
      | (go_at_call 37; refine Calls.mono (GivesME.at_ _ (S1.out _ (HP.out.later ⟨_, by repeat (first | exact Below.refl _ _ | (with_reducible assumption) | apply below_later | apply below_alloc | apply below_drew | apply below_drewN)⟩))) ?_; rintro e w1 ⟨v, rfl, y1, rfl, ho1⟩; obtain ⟨A1, cap1, rfl⟩ := ho1.shape_n (n := n) (by simp); have l1 : w.heap.size < y1.val.heap.size := by have := y1.size; simp at this; omega)
      | (go_at_call 39; refine Calls.mono (GivesME.calls (S2.out _ (HP.out.later ⟨_, by repeat (first | exact Below.refl _ _ | (with_reducible assumption) | apply below_later | apply below_alloc | apply below_drew | apply below_drewN)⟩))) ?_; rintro e w1 ⟨v, rfl, y2, rfl, ho2⟩; obtain ⟨A2, cap2, rfl⟩ := ho2.shape_n (n := n) (by simp); have l2 : y1.val.heap.size < y2.val.heap.size := (by have := y2.size; simp at this; omega); have l3 : w.heap.size < y2.val.heap.size := by omega))
    -- the world in which the squares are compared
    obtain ⟨V9, hV9⟩ : ∃ V9, y2.val.alloc (.cells #[.int .i64 W, .int .i64 H, .slice A2 n cap2] 24) = V9 := ⟨_, rfl⟩
    have hb9 : Below w.heap.size w V9 := by rw [← hV9]; repeat (first | exact Below.refl _ _ | (with_reducible assumption) | apply below_later | apply below_alloc | apply below_drew | apply below_drewN)
    have e0 : V9.heap[w.heap.size]? = some (.cells #[.int .i64 W, .int .i64 H, .slice A n cap] 24) := by
      rw [← hV9, Below.heap_alloc _ _ _ l3, y2.ok.block _ (by simp; omega), Below.heap_alloc _ _ _ l1, y1.ok.block _ (by simp), World.alloc_heap_new]
    have e1 : V9.heap[y1.val.heap.size]? = some (.cells #[.int .i64 W, .int .i64 H, .slice A1 n cap1] 24) := by
      rw [← hV9, Below.heap_alloc _ _ _ l2, y2.ok.block _ (by simp), World.alloc_heap_new]
    have e2 : V9.heap[y2.val.heap.size]? = some (.cells #[.int .i64 W, .int .i64 H, .slice A2 n cap2] 24) := by
      rw [← hV9, World.alloc_heap_new]
    have i1 := (((ho1.alloc (.cells #[.int .i64 W, .int .i64 H, .slice A1 n cap1] 24)).later y2).alloc (.cells #[.int .i64 W, .int .i64 H, .slice A2 n cap2] 24)).ints (by simp; omega)
    have i2 := (ho2.alloc (.cells #[.int .i64 W, .int .i64 H, .slice A2 n cap2] 24)).ints (by simp; omega)
    rw [hV9] at i1 i2 ⊢
    obtain ⟨b1, o1, hA1, p1⟩ := i1.2.at_ h0
    obtain ⟨b2, o2, hA2, p2⟩ := i2.2.at_ h0
    subst hA1 hA2
    have i0 : IsInts V9 A n f := HP.out.later ⟨V9, hb9⟩
    obtain ⟨b0, o0, hA0, p0⟩ := i0.at_ h0
    subst hA0
    have P0 := Lib.hid p0
    have P1 := Lib.hid p1
    have P2 := Lib.hid p2
    have HB9 := Lib.hid hb9
    have le0 := lt_of_get e0
    have le1 := lt_of_get e1
    have le2 := lt_of_get e2
    have c0 := cell_of_heap e0 2 _ rfl
    have c1 := cell_of_heap e1 2 _ rfl
    have c2 := cell_of_heap e2 2 _ rfl
    have q0 := p0.lt
    have q1 := p1.lt
    have q2 := p2.lt
    clear hV9 hb9 e0 e1 e2 i0 i1 i2 ho1 ho2 p0 p1 p2 l1 l2 l3
    generalize y1.val.heap.size = m1 at *
    generalize y2.val.heap.size = m2 at *
    go_loopw [7] (fun u wr => ∃ k : Nat, k ≤ n ∧ u = .int .i64 k ∧ ∃ x : Later V9, wr = x.val) (fun v _ => n - (intOf v).toNat)
    case atStart => exact ⟨0, by omega, rfl, ⟨V9, Below.refl _ _⟩, rfl⟩
    case round =>
      obtain ⟨k, hk, rfl, x, rfl⟩ := hrel
      by_cases hlt : k < n
      · have d0 := P0.out.at_ k hlt
        have d1 := P1.out.at_ k hlt
        have d2 := P2.out.at_ k hlt
        rw [map_getD _ hlt] at d1 d2
        have g := GO.out k
        generalize f k = o at *
        generalize sf k = s at *
        generalize mf k = m at *
        unfold growOk at g
        obtain ⟨g1, g2, g3, g4, g5⟩ := g
        by_cases h1 : o = 1
        · have g1' := g1 h1
          subst h1 g1'
          clear g1 g2 g3 g4
          rcases g5 with rfl | rfl
          · go_wp2_with fail
            first | (with_reducible show Code.wp _ _ _ _ (Later.val _); refine wp_region_later_at _ (by kernel_rfl) (by kernel_rfl) ?_) | refine wp_region_later (by kernel_rfl) (by kernel_rfl) ?_
            repeat (go_big_quiet_step ((fail)))
            refine wpQuiet_nil ?_
            intro z5
            go_wp2
            go_roundw
            case rel => exact ⟨k + 1, by omega, by go_num, later_of (by repeat (first | exact Below.refl _ _ | (with_reducible assumption) | apply below_later | apply below_alloc | apply below_drew | apply below_drewN))⟩
            case measure => simp [intOf]; omega
          · go_wp2_with fail
            first | (with_reducible show Code.wp _ _ _ _ (Later.val _); refine wp_region_later_at _ (by kernel_rfl) (by kernel_rfl) ?_) | refine wp_region_later (by kernel_rfl) (by kernel_rfl) ?_
            repeat (go_big_quiet_step ((fail)))
            refine wpQuiet_nil ?_
            intro z5
            go_wp2
            go_roundw
            case rel => exact ⟨k + 1, by omega, by go_num, later_of (by repeat (first | exact Below.refl _ _ | (with_reducible assumption) | apply below_later | apply below_alloc | apply below_drew | apply below_drewN))⟩
            case measure => simp [intOf]; omega
        · have g2' := g2 h1
          subst g2'
          have n1 : (m == 1) = false := by simpa using h1
          have n2 : (m != 1) = true := by simpa using h1
          have n5 : ((1 : Int) != m) = true := by simp; omega
          have n6 : ((1 : Int) == m) = false := by simp; omega
          clear g1 g2 g5
          by_cases h2 : m = 2
          · have g3' := g3 h2
            subst h2 g3'
            clear g3 g4 n1 n2 n5 n6 h1
            go_wp2_with fail
            first | (with_reducible show Code.wp _ _ _ _ (Later.val _); refine wp_region_later_at _ (by kernel_rfl) (by kernel_rfl) ?_) | refine wp_region_later (by kernel_rfl) (by kernel_rfl) ?_
            repeat (go_big_quiet_step ((fail)))
            refine wpQuiet_nil ?_
            intro z5
            go_wp2
            go_roundw
            case rel => exact ⟨k + 1, by omega, by go_num, later_of (by repeat (first | exact Below.refl _ _ | (with_reducible assumption) | apply below_later | apply below_alloc | apply below_drew | apply below_drewN))⟩
            case measure => simp [intOf]; omega
          · have n3 : (m == 2) = false := by simpa using h2
            clear g3 h1 h2
            rcases g4 with rfl | rfl
            · go_wp2_with fail
              first | (with_reducible show Code.wp _ _ _ _ (Later.val _); refine wp_region_later_at _ (by kernel_rfl) (by kernel_rfl) ?_) | refine wp_region_later (by kernel_rfl) (by kernel_rfl) ?_
              repeat (go_big_quiet_step ((fail)))
              refine wpQuiet_nil ?_
              intro z5
              go_wp2
              go_roundw
              case rel => exact ⟨k + 1, by omega, by go_num, later_of (by repeat (first | exact Below.refl _ _ | (with_reducible assumption) | apply below_later | apply below_alloc | apply below_drew | apply below_drewN))⟩
              case measure => simp [intOf]; omega
            · go_wp2_with fail
              first | (with_reducible show Code.wp _ _ _ _ (Later.val _); refine wp_region_later_at _ (by kernel_rfl) (by kernel_rfl) ?_) | refine wp_region_later (by kernel_rfl) (by kernel_rfl) ?_
              repeat (go_big_quiet_step ((fail)))
              refine wpQuiet_nil ?_
              intro z5
              go_wp2
              go_roundw
              case rel => exact ⟨k + 1, by omega, by go_num, later_of (by repeat (first | exact Below.refl _ _ | (with_reducible assumption) | apply below_later | apply below_alloc | apply below_drew | apply below_drewN))⟩
              case measure => simp [intOf]; omega
      · obtain rfl : k = n := by omega
        go_wp2_with (go_at_call 16; (first | (with_reducible show Calls _ _ _ (Later.val _) _; with_reducible refine Calls.mono (Later.call _ (AW.out _)) ?_) | (with_reducible refine Calls.mono (Gives.calls (AW.out _)) ?_)); rintro e w1 ⟨rfl, y3, rfl⟩)
        go_ret
        exact ⟨rfl, later_of (below_more HB9.out y3.ok)⟩
end Go.Proofs.YtajfepogecakbaaDoor
