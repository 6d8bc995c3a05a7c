/- The law RodHolds: walked. -/
import Derived.Test.YtamhhbkjgfhfoaaDoorHoldsMath
import Derived.Test.YtamhhbkjgfhfoaaDoorHull
import Derived.Test.YtamhhbkjgfhfoaaDoorFirst
namespace Go.Proofs.YtamhhbkjgfhfoaaDoor
open Go.RowKit

/-- What the law's first call leaves. -/
def HoldP (n : Nat) (px py : Nat → Int) (w : World) (e : Ending) (w' : World) : Prop := ∃ L E, ((E ≠ 0 ∧ L = []) ∨ (E = 0 ∧ IsHull (ptsOf n px py) L ∧ rangedB n px py = true ∧ L.length ≤ 40)) ∧ PostP w L E e w'
theorem nodup_le' : ∀ (L l : List Pt), L.Nodup → (∀ x ∈ L, x ∈ l) → L.length ≤ l.length
  | [], l, _, _ => by simp
  | a :: r, l, hn, hs => by
    have ha := hs a (by simp)
    have h1 := List.length_erase_of_mem ha
    have h2 : 0 < l.length := List.length_pos_of_mem ha
    have hn' := List.nodup_cons.1 hn
    have := nodup_le' r (l.erase a) hn'.2 fun x hx => (List.mem_erase_of_ne (fun e => hn'.1 (by rw [← e]; exact hx))).2 (hs x (by simp [hx]))
    simp
    omega
theorem hold_first (A : Option Addr) (n cap : Nat) (px py : Nat → Int) (w : World) (hn : n ≤ 40) (hp : IsPosts w A n px py) : Calls Tryd.prog 6 #[.slice A n cap] w (HoldP n px py w) := by
  rcases Nat.eq_zero_or_pos n with rfl | h0
  · refine Calls.mono (hull_none A cap w) fun e w' ⟨L, E, hr, hq⟩ => ?_
    rcases hr with ⟨rfl, rfl, _⟩ | ⟨rfl, hh⟩
    · exact ⟨[], 5, .inl ⟨by omega, rfl⟩, hq⟩
    · have := hh.three
      cases L with
      | nil => simp at this
      | cons a r => exact absurd (hh.sub a (by simp)) (by simp)
  · cases hv : rangedB n px py
    · exact Calls.mono (hull_bad A n cap px py w (by omega) hp h0 (.inr hv)) fun e w' hq => ⟨[], 2, .inl ⟨by omega, rfl⟩, hq⟩
    · refine Calls.mono (hull_any A n cap px py w hn hp h0 hv) fun e w' ⟨L, E, hr, hq⟩ => ?_
      rcases hr with ⟨rfl, rfl, _⟩ | ⟨rfl, hh⟩
      · exact ⟨[], 5, .inl ⟨by omega, rfl⟩, hq⟩
      · have := nodup_le' L _ hh.nodup hh.sub
        rw [ptsOf_length] at this
        exact ⟨L, 0, .inr ⟨rfl, hh, by first | exact hv | rfl, by omega⟩, hq⟩
theorem HoldP.calls {A : Option Addr} {n cap : Nat} {px py : Nat → Int} {w : World} (h : Calls Tryd.prog 6 #[.slice A n cap] w (HoldP n px py w)) :
    Calls Tryd.prog 6 #[.slice A n cap] w fun e w' => ∃ L E, ((E ≠ 0 ∧ L = []) ∨ (E = 0 ∧ IsHull (ptsOf n px py) L ∧ rangedB n px py = true ∧ L.length ≤ 40)) ∧ ∃ v, e = .returned (.tuple #[v, .int .i64 E]) ∧ ∃ x : Later w, w' = x.val ∧ OwnP w' w.heap.size v L := h
theorem ranged_in {n : Nat} {px py : Nat → Int} (h : rangedB n px py = true) : ∀ x ∈ ptsOf n px py, (inR x.1 && inR x.2) = true := by
  intro p hp
  obtain ⟨i, hi, rfl⟩ := List.mem_map.1 hp
  exact allB_iff.1 h i (List.mem_range.1 hi)
/-- A hull's own hull. -/
theorem hold_again (B : Option Addr) (cap : Nat) (L l : List Pt) (w : World) (hh : IsHull l L) (hr : ∀ x ∈ l, (inR x.1 && inR x.2) = true) (h40 : L.length ≤ 40) (hp : IsPosts w B L.length (hx L) (hy L)) : GivesP 6 #[.slice B L.length cap] w L 0 := by
  have h3 := hh.three
  have hv : rangedB L.length (hx L) (hy L) = true := allB_true fun i hi => hr _ (hh.sub _ (List.mem_of_getElem? (get_h hi)))
  refine Calls.mono (hull_any B L.length cap (hx L) (hy L) w h40 hp (by omega) hv) fun e w' ⟨L2, E, hr2, hq⟩ => ?_
  rw [own_pts] at hr2
  have ho := hull_own hh
  rcases hr2 with ⟨_, _, hf⟩ | ⟨rfl, h2⟩
  · exact absurd hf (not_flat ho)
  · have e : L2 = L := hull_unique h2 ho fun x hx y hy h => lf_inj (range_pts hv x (by rw [own_pts]; exact hx)) (range_pts hv y (by rw [own_pts]; exact hy)) h
    rw [e] at hq
    exact hq
def sameAtB (px py : Nat → Int) (x y : Int) (k : Nat) : Bool := px k == x && py k == y
theorem anyB_succ (k : Nat) (f : Nat → Bool) : anyB (k + 1) f = (anyB k f || f k) := any_succ k f

set_option maxRecDepth 100000 in
set_option maxHeartbeats 6400000 in
theorem rodHolds_any (A : Option Addr) (n cap : Nat) (px py : Nat → Int) (w : World) (hu : Units w) (hn : n ≤ maxLen) (hp : n ≤ 60 → IsPosts w A n px py) :
    Gives Tryd.prog 4 #[.slice A n cap] w (.bool true) := by
  have hn' : n ≤ 9223372036854775807 := hn
  have Hu := Lib.hid hu
  have Hp := Lib.hid hp
  clear hu hp hn
  have F : Hid (∀ w', Below w.heap.size w w' → Gives Tryd.prog 5 #[] w' (.bool true)) := fun w' hb => first_any _ (Hu.out.below hb)
  by_cases h40 : 40 < n
  · go_enter Tryd.func4, Tryd.ntmps4
    go_wp2_with (go_at_call 5; refine Calls.mono (F.out _ (by repeat (first | exact Below.refl _ _ | (with_reducible assumption) | apply below_later | apply below_alloc | apply below_drew | apply below_drewN))).calls ?_; rintro e w1 ⟨rfl, y8, rfl⟩)
    go_ret
    exact ⟨rfl, later_of (by repeat (first | exact Below.refl _ _ | (with_reducible assumption) | apply below_later | apply below_alloc | apply below_drew | apply below_drewN))⟩
  · have HP := Lib.hid (Hp.out (by omega))
    have HF := Lib.hid (hold_first A n cap px py w (by omega) HP.out)
    go_enter Tryd.func4, Tryd.ntmps4
    go_wp2_with (go_at_call 6; refine Calls.mono (HoldP.calls HF.out) ?_; rintro e w1 ⟨L, E, hR, v, rfl, y1, rfl, ho1⟩; obtain ⟨B, cap1, rfl⟩ := ho1.shape; rcases hR with ⟨he, rfl⟩ | ⟨rfl, hh, hv, hl40⟩)
    · have he' : (E != 0) = true := bne_iff_ne.2 he
      clear he
      go_wp2_with (go_at_call 5; refine Calls.mono (F.out _ (by repeat (first | exact Below.refl _ _ | (with_reducible assumption) | apply below_later | apply below_alloc | apply below_drew | apply below_drewN))).calls ?_; rintro e w1 ⟨rfl, y8, rfl⟩)
      go_ret
      exact ⟨rfl, later_of (by repeat (first | exact Below.refl _ _ | (with_reducible assumption) | apply below_later | apply below_alloc | apply below_drew | apply below_drewN))⟩
    · have HH := Lib.hid hh
      have HV := Lib.hid hv
      have HR := Lib.hid (ranged_in hv)
      have h3 := hh.three
      have HO := Lib.hid ho1
      have HQ := Lib.hid (ho1.posts (by omega)).2
      clear hh hv ho1
      have VL := Lib.hid (hull_valid HH.out HR.out hl40)
      have CV : Hid (∀ w', Below y1.val.heap.size y1.val w' → Gives Tryd.prog 9 #[.slice B L.length cap1] w' (.tuple #[.bool true, .int .i64 0])) := fun w' hb => by
        have := convex_any B L.length cap1 (hx L) (hy L) w' (HQ.out.later ⟨w', hb⟩)
        unfold convexR at this
        rw [if_pos VL.out, hull_convex HH.out] at this
        exact this
      have LF : Hid (∀ w', Below y1.val.heap.size y1.val w' → Gives Tryd.prog 10 #[.slice B L.length cap1] w' (.tuple #[.bool true, .int .i64 0])) := fun w' hb => by
        have := left_any B L.length cap1 (hx L) (hy L) w' (HQ.out.later ⟨w', hb⟩)
        unfold leftR at this
        rw [if_pos VL.out, decide_eq_true (hull_left HH.out)] at this
        exact this
      have AG : Hid (∀ w', Below y1.val.heap.size y1.val w' → GivesP 6 #[.slice B L.length cap1] w' L 0) := fun w' hb => hold_again B cap1 L _ w' HH.out HR.out hl40 (HQ.out.later ⟨w', hb⟩)
      have WH : Hid (∀ i, i < n → ∃ z : Int, 0 ≤ z ∧ ∀ w', Below y1.val.heap.size y1.val w' → Gives Tryd.prog 11 #[.slice B L.length cap1, .agg #[.int .i64 (px i), .int .i64 (py i)]] w' (.tuple #[.int .i64 z, .int .i64 0])) := fun i hi => by
        have hm : (px i, py i) ∈ ptsOf n px py := List.mem_map.2 ⟨i, List.mem_range.2 hi, rfl⟩
        refine ⟨whereI L.length (hx L) (hy L) (px i) (py i), hull_inside HH.out HR.out hm, fun w' hb => ?_⟩
        have := where_any B L.length cap1 (hx L) (hy L) (px i) (py i) w' (HQ.out.later ⟨w', hb⟩)
        unfold whereR at this
        rw [if_pos VL.out] at this
        exact this
      have SM : Hid (sameL L L = true) := decide_eq_true rfl
      go_wp2_with (first | (go_at_call 9; refine Calls.mono (CV.out _ (by repeat (first | exact Below.refl _ _ | (with_reducible assumption) | apply below_later | apply below_alloc | apply below_drew | apply below_drewN))).calls ?_; rintro e w1 ⟨rfl, y2, rfl⟩) | (go_at_call 10; refine Calls.mono (LF.out _ (by repeat (first | exact Below.refl _ _ | (with_reducible assumption) | apply below_later | apply below_alloc | apply below_drew | apply below_drewN))).calls ?_; rintro e w1 ⟨rfl, y3, rfl⟩) | (go_at_call 6; refine Calls.mono (GivesP.calls (AG.out _ (by repeat (first | exact Below.refl _ _ | (with_reducible assumption) | apply below_later | apply below_alloc | apply below_drew | apply below_drewN)))) ?_; rintro e w1 ⟨v2, rfl, y4, rfl, ho2⟩; obtain ⟨B2, cap2, rfl⟩ := ho2.shape) | (go_at_call 8; with_reducible refine Calls.mono (Gives.calls (SM.out ▸ same_lists _ _ _ _ _ _ _ ho2 (((HO.out.later y2).later y3).later y4) (by omega) (by omega))) ?_; rintro e w1 ⟨rfl, y5, rfl⟩))
      have h0 : 0 < n := by
        have h1 := List.getElem_mem (l := L) (n := 0) (by omega)
        obtain ⟨j, hj, _⟩ := List.mem_map.1 (HH.out.sub _ h1)
        have := List.mem_range.1 hj
        omega
      obtain ⟨b, off, rfl, hq⟩ := HP.out.at_ h0
      obtain ⟨g, goff, rfl, hqL⟩ := HQ.out.at_ (by omega)
      have hql := hq.later y1
      have hbl : b < y1.val.heap.size := hql.lt
      have hgl : g < y1.val.heap.size := hqL.lt
      have Hq := Lib.hid hql
      have HqL := Lib.hid hqL
      obtain ⟨x5, hx5⟩ : ∃ x : Later y1.val, y5.val = x.val := later_of (by repeat (first | exact Below.refl _ _ | (with_reducible assumption) | apply below_later | apply below_alloc | apply below_drew | apply below_drewN))
      rw [hx5]
      clear hq hql hqL hx5 ho2
      go_wp2
      go_loopw [10] (fun v wr => ∃ i : Nat, i ≤ n ∧ v = .int .i64 i ∧ ∃ x : Later y1.val, wr = x.val) (fun v _ => n - (intOf v).toNat)
      case atStart => exact ⟨0, by omega, rfl, later_of (by repeat (first | exact Below.refl _ _ | (with_reducible assumption) | apply below_later | apply below_alloc | apply below_drew | apply below_drewN))⟩
      case round =>
        obtain ⟨i, hi, rfl, x, rfl⟩ := hrel
        by_cases hlt : i < n
        · obtain ⟨z, hz, WI⟩ := WH.out i hlt
          have WI := Lib.hid WI
          have c1 := Hq.out.x i hlt
          have c2 := Hq.out.y i hlt
          have hz' : decide (z < 0) = false := decide_eq_false (by omega)
          go_wp2_with (go_at_call 11; refine Calls.mono (WI.out _ (by repeat (first | exact Below.refl _ _ | (with_reducible assumption) | apply below_later | apply below_alloc | apply below_drew | apply below_drewN))).calls ?_; rintro e w1 ⟨rfl, y6, rfl⟩)
          go_roundw
          case rel => exact ⟨i + 1, by omega, by go_num, later_of (by repeat (first | exact Below.refl _ _ | (with_reducible assumption) | apply below_later | apply below_alloc | apply below_drew | apply below_drewN))⟩
          case measure => simp [intOf]; omega
        · obtain rfl : n = i := by omega
          clear hi hlt
          go_wp2
          go_loopw [13] (fun v wr => ∃ i : Nat, i ≤ L.length ∧ v = .int .i64 i ∧ ∃ x : Later y1.val, wr = x.val) (fun v _ => L.length - (intOf v).toNat)
          case atStart => exact ⟨0, by omega, rfl, later_of (by repeat (first | exact Below.refl _ _ | (with_reducible assumption) | apply below_later | apply below_alloc | apply below_drew | apply below_drewN))⟩
          case round =>
            obtain ⟨i, hi, rfl, x, rfl⟩ := hrel
            by_cases hlt : i < L.length
            · have d1 := HqL.out.x i hlt
              have d2 := HqL.out.y i hlt
              have HIN : Hid (anyB n (sameAtB px py (hx L i) (hy L i)) = true) := by
                have := HH.out.sub _ (List.mem_of_getElem? (get_h hlt))
                obtain ⟨j, hj, ej⟩ := List.mem_map.1 this
                simp only [Prod.mk.injEq] at ej
                exact anyB_true (List.mem_range.1 hj) (by unfold sameAtB; rw [ej.1, ej.2]; simp)
              go_wp2
              go_loopw [14, 15] (fun f v wr => ∃ k : Nat, k ≤ n ∧ v = .int .i64 k ∧ f = .bool (anyB k (sameAtB px py (hx L i) (hy L i))) ∧ ∃ x : Later y1.val, wr = x.val) (fun _ v _ => n - (intOf v).toNat)
              case atStart => exact ⟨0, by omega, rfl, rfl, later_of (by repeat (first | exact Below.refl _ _ | (with_reducible assumption) | apply below_later | apply below_alloc | apply below_drew | apply below_drewN))⟩
              case round =>
                obtain ⟨k, hk, rfl, rfl, y, rfl⟩ := hrel
                obtain ⟨Fd, hF⟩ : ∃ F, anyB k (sameAtB px py (hx L i) (hy L i)) = F := ⟨_, rfl⟩
                have HFd := Lib.hid hF
                rw [hF]
                clear hF
                by_cases hkt : k < n
                · have e1 := Hq.out.x k hkt
                  have e2 := Hq.out.y k hkt
                  cases Fd
                  · by_cases s1 : px k = hx L i
                    · by_cases s2 : py k = hy L i
                      · have ST : Hid (anyB (k + 1) (sameAtB px py (hx L i) (hy L i)) = true) := by show _ = _; rw [any_succ, HFd.out]; unfold sameAtB; rw [s1, s2]; simp
                        go_wp2_with fail
                        first | (with_reducible show Code.wp _ _ _ _ (Later.val _); refine wp_region_later_at _ (by kernel_rfl) (by kernel_rfl) ?_) | refine wp_region_later (by kernel_rfl) (by kernel_rfl) ?_
                        repeat (go_big_quiet_step ((fail)))
                        refine wpQuiet_nil ?_
                        intro z
                        go_wp2
                        go_roundw
                        case rel => exact ⟨k + 1, by omega, by go_num, by rw [ST.out], later_of (by repeat (first | exact Below.refl _ _ | (with_reducible assumption) | apply below_later | apply below_alloc | apply below_drew | apply below_drewN))⟩
                        case measure => simp [intOf]; omega
                      · have ST : Hid (anyB (k + 1) (sameAtB px py (hx L i) (hy L i)) = false) := by show _ = _; rw [any_succ, HFd.out]; unfold sameAtB; simp [s2]
                        go_wp2_with fail
                        first | (with_reducible show Code.wp _ _ _ _ (Later.val _); refine wp_region_later_at _ (by kernel_rfl) (by kernel_rfl) ?_) | refine wp_region_later (by kernel_rfl) (by kernel_rfl) ?_
                        repeat (go_big_quiet_step ((fail)))
                        refine wpQuiet_nil ?_
                        intro z
                        go_wp2
                        go_roundw
                        case rel => exact ⟨k + 1, by omega, by go_num, by rw [ST.out], later_of (by repeat (first | exact Below.refl _ _ | (with_reducible assumption) | apply below_later | apply below_alloc | apply below_drew | apply below_drewN))⟩
                        case measure => simp [intOf]; omega
                    · have ST : Hid (anyB (k + 1) (sameAtB px py (hx L i) (hy L i)) = false) := by show _ = _; rw [any_succ, HFd.out]; unfold sameAtB; simp [s1]
                      go_wp2_with fail
                      first | (with_reducible show Code.wp _ _ _ _ (Later.val _); refine wp_region_later_at _ (by kernel_rfl) (by kernel_rfl) ?_) | refine wp_region_later (by kernel_rfl) (by kernel_rfl) ?_
                      repeat (go_big_quiet_step ((fail)))
                      refine wpQuiet_nil ?_
                      intro z
                      go_wp2
                      go_roundw
                      case rel => exact ⟨k + 1, by omega, by go_num, by rw [ST.out], later_of (by repeat (first | exact Below.refl _ _ | (with_reducible assumption) | apply below_later | apply below_alloc | apply below_drew | apply below_drewN))⟩
                      case measure => simp [intOf]; omega
                  · have ST : Hid (anyB (k + 1) (sameAtB px py (hx L i) (hy L i)) = true) := by show _ = _; rw [any_succ, HFd.out]; rfl
                    go_wp2_with fail
                    first | (with_reducible show Code.wp _ _ _ _ (Later.val _); refine wp_region_later_at _ (by kernel_rfl) (by kernel_rfl) ?_) | refine wp_region_later (by kernel_rfl) (by kernel_rfl) ?_
                    repeat (go_big_quiet_step ((fail)))
                    refine wpQuiet_nil ?_
                    intro z
                    go_wp2
                    go_roundw
                    case rel => exact ⟨k + 1, by omega, by go_num, by rw [ST.out], later_of (by repeat (first | exact Below.refl _ _ | (with_reducible assumption) | apply below_later | apply below_alloc | apply below_drew | apply below_drewN))⟩
                    case measure => simp [intOf]; omega
                · obtain rfl : n = k := by omega
                  have hFt : Fd = true := HFd.out.symm.trans HIN.out
                  subst hFt
                  go_wp2
                  go_roundw
                  case rel => exact ⟨i + 1, by omega, by go_num, later_of (by repeat (first | exact Below.refl _ _ | (with_reducible assumption) | apply below_later | apply below_alloc | apply below_drew | apply below_drewN))⟩
                  case measure => simp [intOf]; omega
            · obtain rfl : L.length = i := by omega
              go_wp2_with (go_at_call 5; refine Calls.mono (F.out _ (by repeat (first | exact Below.refl _ _ | (with_reducible assumption) | apply below_later | apply below_alloc | apply below_drew | apply below_drewN))).calls ?_; rintro e w1 ⟨rfl, y8, rfl⟩)
              go_ret
              exact ⟨rfl, later_of (by repeat (first | exact Below.refl _ _ | (with_reducible assumption) | apply below_later | apply below_alloc | apply below_drew | apply below_drewN))⟩
end Go.Proofs.YtamhhbkjgfhfoaaDoor
