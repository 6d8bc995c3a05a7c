/- rod.leftChain: walked. -/
import Derived.Test.YtamhhbkjgfhfoaaDoorHullMath
import Derived.Test.YtamhhbkjgfhfoaaDoorMoves
import Derived.IntWalk
namespace Go.Proofs.YtamhhbkjgfhfoaaDoor
open Go.RowKit

/-- The last one given back. -/
theorem OwnP.pop {w : World} {base g n cap : Nat} {l : List Pt} (h : OwnP w base (.slice (some ⟨g, 0, none⟩) n cap) l) (hn : l.length = n) {m : Nat} (hm : m ≤ n) : OwnP w base (.slice (some ⟨g, 0, none⟩) m cap) (l.take m) := by
  subst hn
  have hl : (l.take m).length = m := by simp; omega
  have hc : cells2 (l.take m) = (cells2 l).take (m * 2) := by
    have e : cells2 l = cells2 (l.take m) ++ cells2 (l.drop m) := by rw [← cells2_append, List.take_append_drop]
    conv => rhs; rw [e]
    rw [List.take_append_of_le_length (by rw [cells2_length, hl]; omega)]
    exact (List.take_of_length_le (by rw [cells2_length, hl]; omega)).symm
  unfold OwnP World.ownsRow at *
  rw [hl]
  refine ⟨by rw [cells2_length, hl], ?_⟩
  rcases h.2 with ⟨e, _⟩ | ⟨g', cap', cur, e, h1, h2, h3, h4, h5, h6⟩
  · cases e
  · simp only [Value.slice.injEq, Option.some.injEq, Addr.mk.injEq] at e
    obtain ⟨⟨rfl, _, _⟩, _, rfl⟩ := e
    refine .inr ⟨g, cap, cur, rfl, h1, h2, by omega, h4, h5, ?_⟩
    rw [hc, ← h6, List.take_take]
    congr 1
    omega

def InP (p : Pt) : Prop := InRange p.1 p.2
theorem popW_mem {a : Pt} : ∀ {c : List Pt} {p : Pt}, p ∈ popW a c → p ∈ c
  | [], p, h => by simp [popW] at h
  | [x], p, h => by simpa [popW] using h
  | c0 :: c1 :: r, p, h => by
    unfold popW at h
    split at h
    · exact List.mem_cons_of_mem _ (popW_mem h)
    · exact h
theorem popW_len {a : Pt} : ∀ (c : List Pt), (popW a c).length ≤ c.length
  | [] => by simp [popW]
  | [x] => by simp [popW]
  | c0 :: c1 :: r => by
    unfold popW
    split
    · have := popW_len (a := a) (c1 :: r); simp at this ⊢; omega
    · simp
/-- The chain of the first k posts. -/
def chTo (ps : List Pt) (k : Nat) : List Pt := chainR (ps.take k)
theorem chTo_step {ps : List Pt} {k : Nat} {a : Pt} (h : ps[k]? = some a) : chTo ps (k + 1) = a :: popW a (chTo ps k) := by
  unfold chTo chainR
  rw [List.take_add_one, h, Option.toList_some, List.foldl_append]
  rfl
theorem chTo_len (ps : List Pt) : ∀ k, (chTo ps k).length ≤ k
  | 0 => by simp [chTo, chainR]
  | k + 1 => by
    have ih := chTo_len ps k
    rcases Nat.lt_or_ge k ps.length with h | h
    · rw [chTo_step (List.getElem?_eq_getElem h)]
      have := popW_len (a := ps[k]) (chTo ps k)
      simp
      omega
    · have e : chTo ps (k + 1) = chTo ps k := by unfold chTo; rw [List.take_of_length_le (by omega), List.take_of_length_le h]
      rw [e]
      omega
theorem chTo_mem (ps : List Pt) : ∀ (k : Nat) (p : Pt), p ∈ chTo ps k → p ∈ ps
  | 0, p, h => by simp [chTo, chainR] at h
  | k + 1, p, h => by
    rcases Nat.lt_or_ge k ps.length with hk | hk
    · rw [chTo_step (List.getElem?_eq_getElem hk)] at h
      rcases List.mem_cons.1 h with rfl | h
      · exact List.getElem_mem hk
      · exact chTo_mem ps k p (popW_mem h)
    · have e : chTo ps (k + 1) = chTo ps k := by unfold chTo; rw [List.take_of_length_le (by omega), List.take_of_length_le hk]
      exact chTo_mem ps k p (e ▸ h)
theorem rev_take {c0 : Pt} {r : List Pt} : (c0 :: r).reverse.take r.length = r.reverse := by
  rw [List.reverse_cons, List.take_append_of_le_length (by simp), List.take_of_length_le (by simp)]
theorem hx_rev_last {c0 : Pt} {r : List Pt} : hx (c0 :: r).reverse r.length = c0.1 ∧ hy (c0 :: r).reverse r.length = c0.2 := by
  unfold hx hy
  have e : (c0 :: r).reverse[r.length]? = some c0 := by
    rw [List.reverse_cons, List.getElem?_append_right (by simp)]
    simp
  rw [List.getD_eq_getElem?_getD, e]
  exact ⟨rfl, rfl⟩
theorem hx_rev_prev {c0 c1 : Pt} {r : List Pt} : hx (c0 :: c1 :: r).reverse r.length = c1.1 ∧ hy (c0 :: c1 :: r).reverse r.length = c1.2 := by
  unfold hx hy
  have e : (c0 :: c1 :: r).reverse[r.length]? = some c1 := by
    rw [List.reverse_cons, List.getElem?_append_left (by simp), List.reverse_cons, List.getElem?_append_right (by simp)]
    simp
  rw [List.getD_eq_getElem?_getD, e]
  exact ⟨rfl, rfl⟩

set_option maxRecDepth 100000 in
set_option maxHeartbeats 3200000 in
theorem leftChain_any (b off n cap : Nat) (px py : Nat → Int) (w : World) (hn : n ≤ 1000) (hp : Posts w b off n px py) (hr : ∀ i, i < n → InRange (px i) (py i)) :
    GivesL 20 #[.slice (some ⟨b, off, none⟩) n cap] w (chainR (ptsOf n px py)).reverse := by
  have Hp := Lib.hid hp
  have hl := hp.lt
  have Hr : Hid (∀ p ∈ ptsOf n px py, InP p) := fun p hp => by
    obtain ⟨i, hi, rfl⟩ := List.mem_map.1 hp
    exact hr i (List.mem_range.1 hi)
  have HE : Hid (chTo (ptsOf n px py) n = chainR (ptsOf n px py)) := by
    show _ = _
    unfold chTo
    rw [List.take_of_length_le (by rw [ptsOf_length]; omega)]
  have HG := Lib.hid (fun k (hk : k < n) => chTo_step (ptsOf_get (px := px) (py := py) hk))
  have HM := Lib.hid (chTo_mem (ptsOf n px py))
  have HL := Lib.hid (chTo_len (ptsOf n px py))
  have HI : Hid (∀ k, k < n → InRange (px k) (py k)) := hr
  clear hp hr
  go_enter Tryd.func20, Tryd.ntmps20
  go_wp2
  go_loopw [3, 8] (fun v i wr => ∃ k : Nat, k ≤ n ∧ i = .int .i64 k ∧ ∃ x : Later w, wr = x.val ∧ OwnP wr w.heap.size v (chTo (ptsOf n px py) k).reverse) (fun _ i _ => n - (intOf i).toNat)
  case atStart => exact ⟨0, by omega, rfl, ⟨_, (by repeat (first | exact Below.refl _ _ | (with_reducible assumption) | apply below_later | apply below_alloc | apply below_drew | apply below_drewN))⟩, rfl, OwnP.nil _ _⟩
  case round =>
    obtain ⟨k, hk, rfl, x, rfl, ho⟩ := hrel
    have HO := Lib.hid ho
    clear ho
    by_cases hlt : k < n
    · have E1 := Lib.hid (HG.out k hlt)
      have L1 := HL.out k
      have R1 : Hid (∀ p ∈ chTo (ptsOf n px py) k, InP p) := fun p hp => Hr.out p (HM.out k p hp)
      generalize chTo (ptsOf n px py) k = C at *
      have c1 := Hp.out.x k hlt
      have c2 := Hp.out.y k hlt
      have hs := x.size
      have hs3 : b < x.val.heap.size := by omega
      go_wp2
      go_loopw [3] (fun v wr => ∃ c : List Pt, c.length ≤ k ∧ popW (px k, py k) c = popW (px k, py k) C ∧ (∀ p ∈ c, InP p) ∧ ∃ y : Later (x.val.alloc (.cells #[.int .i64 (px k), .int .i64 (py k)] 34)), wr = y.val ∧ OwnP wr w.heap.size v c.reverse) (fun v _ => match v with | .slice _ m _ => m | _ => 0)
      case atStart => exact ⟨C, L1, rfl, R1.out, ⟨_, (by repeat (first | exact Below.refl _ _ | (with_reducible assumption) | apply below_later | apply below_alloc | apply below_drew | apply below_drewN))⟩, rfl, HO.out.alloc _⟩
      case round =>
        obtain ⟨c, hcl, hpop, hin, y, rfl, how⟩ := hrel
        have HW := Lib.hid how
        have hLen : c.reverse.length ≤ 1000 := by rw [List.length_reverse]; omega
        have d1 : y.val.cell? ⟨x.val.heap.size, 0, none⟩ = some (.int .i64 (px k)) := by rw [y.cell _ _ (by simp)]; simp
        have d2 : y.val.cell? ⟨x.val.heap.size, 1, none⟩ = some (.int .i64 (py k)) := by rw [y.cell _ _ (by simp)]; simp
        have hys := y.size
        rw [World.size_alloc] at hys
        have hlt5 : x.val.heap.size < y.val.heap.size := by omega
        have HIN := Lib.hid hin
        clear hin
        rcases c with _ | ⟨c0, r⟩
        · obtain ⟨A, cap', rfl⟩ := how.shape
          have E2 : Hid ([] = popW (px k, py k) C) := hpop
          clear hpop how
          go_wp2
          refine wp_region_later (by kernel_rfl) (by kernel_rfl) ?_
          repeat (go_big_quiet_step ((fail)))
          refine wpQuiet_nil ?_
          intro z
          have hzs := z.size
          obtain ⟨i0, hi, hz0, hz1, hz2⟩ := info_parts infoXY
          go_wp2_with (at_builtin; (refine wpList_append_own _ rfl _ _ 22 rfl w.heap.size 34 i0 (.agg #[.int .i64 0, .int .i64 0]) 2 16 Tryd.underlying22 hi hz0 hz1 hz2 rfl (by decide) _ _ _ rfl ((HW.out.later z).alloc (.cells #[.int .i64 (px k), .int .i64 (py k)] 34)) ⟨z.val.heap.size, 0, none⟩ 1 1 [.int .i64 (px k), .int .i64 (py k)] rfl rfl (cell_two_new _ _ _ _) (by simp [Value.oneCell']) (by simp only [maxLen]; omega) (by omega) (by simp only [World.size_alloc]; omega) ?_); intro v' w1 hown2 hg1 _)
          go_roundw
          case rel =>
            refine ⟨k + 1, by omega, by go_num, ⟨w1, below_own (by repeat (first | exact Below.refl _ _ | (with_reducible assumption) | apply below_later | apply below_alloc | apply below_drew | apply below_drewN)) ((HW.out.later z).alloc (.cells #[.int .i64 (px k), .int .i64 (py k)] 34)) (by simp) hg1⟩, rfl, ?_⟩
            rw [E1.out, ← E2.out, List.reverse_cons]
            exact OwnP.push hown2
          case measure => simp [intOf]; omega
        · rcases r with _ | ⟨c1, r⟩
          · obtain ⟨g, cap', rfl, hg1, hg2, hg3⟩ := how.form (n := 1) (by simp) (by omega)
            have E2 : Hid ([c0] = popW (px k, py k) C) := hpop
            clear hpop how
            go_wp2
            refine wp_region_later (by kernel_rfl) (by kernel_rfl) ?_
            repeat (go_big_quiet_step ((fail)))
            refine wpQuiet_nil ?_
            intro z
            have hzs := z.size
            obtain ⟨i0, hi, hz0, hz1, hz2⟩ := info_parts infoXY
            go_wp2_with (at_builtin; (refine wpList_append_own _ rfl _ _ 22 rfl w.heap.size 34 i0 (.agg #[.int .i64 0, .int .i64 0]) 2 16 Tryd.underlying22 hi hz0 hz1 hz2 rfl (by decide) _ _ _ rfl ((HW.out.later z).alloc (.cells #[.int .i64 (px k), .int .i64 (py k)] 34)) ⟨z.val.heap.size, 0, none⟩ 1 1 [.int .i64 (px k), .int .i64 (py k)] rfl rfl (cell_two_new _ _ _ _) (by simp [Value.oneCell']) (by simp only [maxLen]; omega) (by omega) (by simp only [World.size_alloc]; omega) ?_); intro v' w1 hown2 hg1 _)
            go_roundw
            case rel =>
              refine ⟨k + 1, by omega, by go_num, ⟨w1, below_own (by repeat (first | exact Below.refl _ _ | (with_reducible assumption) | apply below_later | apply below_alloc | apply below_drew | apply below_drewN)) ((HW.out.later z).alloc (.cells #[.int .i64 (px k), .int .i64 (py k)] 34)) (by simp) hg1⟩, rfl, ?_⟩
              rw [E1.out, ← E2.out, List.reverse_cons]
              exact OwnP.push hown2
            case measure => simp [intOf]; omega
          · obtain ⟨j2, hj2⟩ : ∃ j, j = r.length := ⟨_, rfl⟩
            obtain ⟨j1, hj1⟩ : ∃ j, j = r.length + 1 := ⟨_, rfl⟩
            obtain ⟨m, hm⟩ : ∃ j, j = r.length + 1 + 1 := ⟨_, rfl⟩
            have hml : (c0 :: c1 :: r).reverse.length = m := by rw [hm]; simp
            obtain ⟨g, cap', rfl, hg1, hg2, hg3⟩ := how.form (n := m) hml (by omega)
            have hm2 : m ≤ 1000 := by omega
            obtain ⟨q1, q2, _⟩ := how.cell (n := m) hml (i := j2) (by omega)
            obtain ⟨q3, q4, _⟩ := how.cell (n := m) hml (i := j1) (by omega)
            have p1 := (hx_rev_prev (c0 := c0) (c1 := c1) (r := r)).1
            have p2 := (hx_rev_prev (c0 := c0) (c1 := c1) (r := r)).2
            have p3 := (hx_rev_last (c0 := c0) (r := c1 :: r)).1
            have p4 := (hx_rev_last (c0 := c0) (r := c1 :: r)).2
            rw [List.length_cons, ← hj1] at p3 p4
            rw [← hj2] at p1 p2
            rw [p1] at q1
            rw [p2] at q2
            rw [p3] at q3
            rw [p4] at q4
            obtain ⟨x0, y0⟩ := c0
            obtain ⟨x1, y1⟩ := c1
            have i0 : InRange x0 y0 := HIN.out (x0, y0) (by simp)
            have i1 : InRange x1 y1 := HIN.out (x1, y1) (by simp)
            have ia := HI.out k hlt
            have ir : Hid (∀ p ∈ (x1, y1) :: r, InP p) := fun p hp => HIN.out p (by simp only [List.mem_cons] at hp ⊢; exact .inr hp)
            clear p1 p2 p3 p4 how
            have w1 : IntKind.i64.wrap ((m : Int) - 1) = (j1 : Int) := by rw [IntWalk.i64_in _ (by omega)]; omega
            have w2 : IntKind.i64.wrap ((m : Int) - 2) = (j2 : Int) := by rw [IntWalk.i64_in _ (by omega)]; omega
            have w3 : (m : Int) - 1 = (j1 : Int) := by omega
            have w4 : j2 < m := by omega
            have w5 : j1 < m := by omega
            have w6 : (1 : Int) < (m : Int) := by omega
            have hX : Hid (OwnP y.val w.heap.size (.slice (some ⟨g, 0, none⟩) j1 cap') ((x1, y1) :: r).reverse) := by
              have := HW.out.pop hml (m := j1) (by omega)
              rw [hj1, show r.length + 1 = ((x1, y1) :: r).length by simp, rev_take] at this
              rw [hj1]
              show OwnP _ _ _ _
              simpa using this
            have hcl2 : ((x1, y1) :: r).length ≤ k := by simp at hcl ⊢; omega
            have HJ := Lib.hid hm
            have HJ1 := Lib.hid hj1
            have HJ2 := Lib.hid hj2
            clear hm hj1 hj2 hml
            by_cases hcr : crossI x1 y1 x0 y0 (px k) (py k) ≤ 0
            · have hcr' : crP (x1, y1) (x0, y0) (px k, py k) ≤ 0 := hcr
              have hq : popW (px k, py k) ((x1, y1) :: r) = popW (px k, py k) C := by rw [← hpop, popW, if_pos hcr']
              have HP := Lib.hid hq
              have X := Lib.hid (fun w => cross_any x1 y1 x0 y0 (px k) (py k) w i1 i0 ia)
              clear hpop hq hcr'
              go_wp2
              refine wp_region_later (by kernel_rfl) (by kernel_rfl) ?_
              repeat (go_big_quiet_step ((first | ((go_at_call 39; (with_reducible refine Later.call _ (X.out _)))))))
              refine wpQuiet_nil ?_
              intro z
              go_wp2
              go_roundw
              case rel => exact ⟨(x1, y1) :: r, hcl2, HP.out, ir.out, ⟨z.val, (by repeat (first | exact Below.refl _ _ | (with_reducible assumption) | apply below_later | apply below_alloc | apply below_drew | apply below_drewN))⟩, rfl, hX.out.later z⟩
              case measure => omega
            · have hcr' : ¬ crP (x1, y1) (x0, y0) (px k, py k) ≤ 0 := hcr
              have hq : (x0, y0) :: (x1, y1) :: r = popW (px k, py k) C := by rw [← hpop, popW, if_neg hcr']
              have E2 := Lib.hid hq
              have X := Lib.hid (fun w => cross_any x1 y1 x0 y0 (px k) (py k) w i1 i0 ia)
              clear hpop hq hcr'
              go_wp2
              refine wp_region_later (by kernel_rfl) (by kernel_rfl) ?_
              repeat (go_big_quiet_step ((first | ((go_at_call 39; (with_reducible refine Later.call _ (X.out _)))))))
              refine wpQuiet_nil ?_
              intro z
              have hzs := z.size
              obtain ⟨i0, hi, hz0, hz1, hz2⟩ := info_parts infoXY
              go_wp2_with (at_builtin; (refine wpList_append_own _ rfl _ _ 22 rfl w.heap.size 34 i0 (.agg #[.int .i64 0, .int .i64 0]) 2 16 Tryd.underlying22 hi hz0 hz1 hz2 rfl (by decide) _ _ _ rfl ((HW.out.later z).alloc (.cells #[.int .i64 (px k), .int .i64 (py k)] 34)) ⟨z.val.heap.size, 0, none⟩ 1 1 [.int .i64 (px k), .int .i64 (py k)] rfl rfl (cell_two_new _ _ _ _) (by simp [Value.oneCell']) (by simp only [maxLen]; omega) (by omega) (by simp only [World.size_alloc]; omega) ?_); intro v' w1 hown2 hg1 _)
              go_roundw
              case rel =>
                refine ⟨k + 1, by omega, by go_num, ⟨w1, below_own (by repeat (first | exact Below.refl _ _ | (with_reducible assumption) | apply below_later | apply below_alloc | apply below_drew | apply below_drewN)) ((HW.out.later z).alloc (.cells #[.int .i64 (px k), .int .i64 (py k)] 34)) (by simp) hg1⟩, rfl, ?_⟩
                rw [E1.out, ← E2.out, List.reverse_cons]
                exact OwnP.push hown2
              case measure => simp [intOf]; omega
    · obtain rfl : k = n := by omega
      go_wp2
      go_ret
      exact ⟨_, rfl, ⟨_, (by repeat (first | exact Below.refl _ _ | (with_reducible assumption) | apply below_later | apply below_alloc | apply below_drew | apply below_drewN))⟩, rfl, HE.out ▸ HO.out⟩
end Go.Proofs.YtamhhbkjgfhfoaaDoor
