/- wale's circle. -/
import Derived.Test.YtnjloomhhgilcaaWSeen
namespace Go.Proofs.Ytnjloomhhgilcaa
open Go.RowKit

theorem getD_mem {l : List Nat} {i : Nat} (h : i < l.length) : l.getD i 0 ∈ l := by
  rw [List.getD_eq_getElem?_getD, List.getElem?_eq_getElem h, Option.getD_some]
  exact List.getElem_mem _
theorem seg_ints {w : World} {pb po k pc : Nat} {f t : Nat → Nat} {p : List Nat} (hl : p.length = k) (hk : k ≤ 2000) (h : Ints w pb po k fun i => (p.getD i 0 : Nat)) :
    ∃ A c, segV pb po pc (segN f t p p.length 0) = .slice A (circOf f t p).length c ∧ IsInts w A (circOf f t p).length fun i => ((circOf f t p).getD i 0 : Nat) := by
  rcases hs : segN f t p p.length 0 with _ | ⟨j, i⟩
  · rw [circOf_none hs]
    exact ⟨none, 0, rfl, ⟨by simp, fun h0 => absurd h0 (by simp)⟩⟩
  · have h1 := segN_some hs
    rw [(circOf_some hs).2]
    refine ⟨_, _, rfl, ⟨by omega, fun _ => ⟨pb, po + j, rfl, h.lt, fun x hx => ?_⟩⟩⟩
    rw [circOf_get hs hx, Nat.add_assoc]
    exact h.at_ (j + x) (by omega)
theorem own_ints {w : World} {base g n c : Nat} {l : List Nat} (h : OwnI w base (.slice (some ⟨g, 0, none⟩) n c) (natZ l)) (hl : l.length = n) : Ints w g 0 n fun i => (l.getD i 0 : Nat) := by
  refine ⟨(own_lt h g rfl).2, fun i hi => ?_⟩
  rw [Nat.zero_add, (h.cell (by rw [natZ_length, hl]) hi).1]
  congr 2
  simp only [natZ, List.getD_eq_getElem?_getD, List.getElem?_map]
  rw [List.getElem?_eq_getElem (by omega)]
  rfl

set_option maxRecDepth 100000 in
set_option maxHeartbeats 6400000 in
theorem circle_any (n m cap : Nat) (A : Option Addr) (f t : Nat → Nat) (V : Nat → Int) (w : World) (R : Rot n m f t V) (hp : IsChs w A m (fun i => (f i : Int)) (fun i => (t i : Int)) V) :
    Calls Try.prog 47 #[.agg #[.int .i64 n, .slice A m cap]] w fun e w' => ∃ B c, e = .returned (.slice B (bestC n m f t V n).length c) ∧ ∃ x : Later w, w' = x.val ∧ IsInts w' B (bestC n m f t V n).length fun i => ((bestC n m f t V n).getD i 0 : Nat) := by
  have hn1 := R.n1
  have hn8 := R.n8
  have hm40 := R.m40
  have HR := Lib.hid R
  have hb : Below w.heap.size w (w.alloc (.cells #[.int .i64 n, .slice A m cap] 75)) := (Below.refl _ _).alloc (Nat.le_refl _) _
  have HP : Hid (IsChs (w.alloc (.cells #[.int .i64 n, .slice A m cap] 75)) A m (fun i => (f i : Int)) (fun i => (t i : Int)) V) := hp.below hb
  have HB := Lib.hid hb
  obtain ⟨c0, c1, l0⟩ := box2 w (.int .i64 n) (.slice A m cap) 75
  clear hp hb R
  go_enter Try.func47, Try.ntmps47
  go_wp2
  obtain ⟨b8, hb8⟩ : ∃ b8, w.heap.size = b8 := ⟨_, rfl⟩
  rw [hb8] at c0 c1 l0 ⊢
  clear hb8
  generalize w.alloc (.cells #[.int .i64 n, .slice A m cap] 75) = Z at *
  go_loopw [3, 10] (fun u v wr => ∃ (s : Nat) (B : Option Addr) (c : Nat), u = .slice B (bestC n m f t V s).length c ∧ v = .int .i64 (s : Nat) ∧ s ≤ n ∧ (∃ x : Later Z, wr = x.val) ∧ IsInts wr B (bestC n m f t V s).length fun i => ((bestC n m f t V s).getD i 0 : Nat)) (fun _ v _ => n - (intOf v).toNat)
  case atStart => exact ⟨0, none, 0, rfl, rfl, by omega, later_of (by repeat (first | exact Below.refl _ _ | (with_reducible assumption) | apply below_later | apply below_alloc | apply below_drew | apply below_drewN)), by simp [bestC], fun h => absurd h (by simp [bestC])⟩
  case round =>
    obtain ⟨s, B, c, rfl, rfl, hs, ⟨x, rfl⟩, hi⟩ := hrel
    have HI := Lib.hid hi
    clear hi
    by_cases hlt : s < n
    · have d0 := (x.cell _ 0 l0).trans c0
      have d1 := (x.cell _ 1 l0).trans c1
      have l1 := x.lt _ l0
      have HPX := Lib.hid (HP.out.later x)
      by_cases hno : (wrow n m f t V n).getD s 0 = nope
      · have PN := Lib.hid (plan_none n m cap n s A f t V x.val (by omega) hlt HR.out HPX.out hno)
        have HE : Hid (bestC n m f t V (s + 1) = bestC n m f t V s) := by show _ = _; rw [bestC, if_pos hno]
        clear hno
        go_wp2_with (go_at_call 37; refine Calls.mono (Gives.calls PN.out) ?_; rintro e w1 ⟨rfl, z, rfl⟩)
        go_roundw
        case rel => exact ⟨s + 1, B, c, by rw [HE.out], by go_num, by omega, later_of (by repeat (first | exact Below.refl _ _ | (with_reducible assumption) | apply below_later | apply below_alloc | apply below_drew | apply below_drewN)), by rw [HE.out]; exact HI.out.later z⟩
        case measure => simp [intOf]; omega
      · have PS := Lib.hid (plan_some n m cap n s A f t V x.val (by omega) hlt HR.out HPX.out hno)
        have PL := Lib.hid (planL_lt HR.out n s hlt hno)
        have HE : Hid (bestC n m f t V (s + 1) = if (bestC n m f t V s).length = 0 ∨ worthL V (bestC n m f t V s) * ((circOf f t (planL n m f t V n s)).length : Int) < worthL V (circOf f t (planL n m f t V n s)) * ((bestC n m f t V s).length : Int) then circOf f t (planL n m f t V n s) else bestC n m f t V s) := by show _ = _; rw [bestC, if_neg hno]
        have hpl : (planL n m f t V n s).length = n := planL_length _ _
        obtain ⟨bm, bl⟩ := bestC_mem HR.out s hs
        have cl : (circOf f t (planL n m f t V n s)).length ≤ n := by have := circOf_le (f := f) (t := t) (p := planL n m f t V n s); rwa [hpl] at this
        have cm : ∀ y ∈ circOf f t (planL n m f t V n s), y < m := fun y hy => PL.out y (circOf_mem y hy)
        generalize planL n m f t V n s = p at *
        generalize bestC n m f t V s = q at *
        have HPL := Lib.hid hpl
        clear hno
        go_wp2_with (first
          | (go_at_call 37; refine Calls.mono PS.out ?_; rintro e w1 ⟨v, rfl, z, rfl, ho⟩; obtain ⟨g, pc, rfl, _, _, hcap⟩ := ho.form (n := n) (by rw [natZ_length, HPL.out]) hn1; have IP := Lib.hid (own_ints ho HPL.out); clear ho; have FI := Lib.hid (first_any n m cap n g 0 pc A f t V p z.val (by omega) (by omega) hcap HR.out (HPX.out.later z) HPL.out IP.out PL.out); obtain ⟨C, cc, hseg, hci⟩ := seg_ints (pc := pc) (f := f) (t := t) HPL.out (by omega) IP.out; rw [hseg] at FI; have CI := Lib.hid hci; clear hseg hci)
          | (go_at_call 63; refine Calls.mono (Gives.calls FI.out) ?_; rintro e w1 ⟨rfl, z2, rfl⟩))
        have e0 := (z2.cell _ 0 (z.lt _ l1)).trans ((z.cell _ 0 l1).trans d0)
        have e1 := (z2.cell _ 1 (z.lt _ l1)).trans ((z.cell _ 1 l1).trans d1)
        have e2 := z2.lt _ (z.lt _ l1)
        have CI2 := Lib.hid (CI.out.later z2)
        have HI2 := Lib.hid ((HI.out.later z).later z2)
        have HPW := Lib.hid ((HPX.out.later z).later z2)
        have HBW : Hid (Below Z.heap.size Z z2.val) := below_later (below_later x.ok)
        clear d0 d1 l1 CI IP FI PS HI HPX PL HPL c0 c1 l0
        generalize circOf f t p = r at *
        generalize z2.val = W2 at *
        have W1 : Hid (∀ y : Later W2, Gives Try.prog 46 #[.agg #[.int .i64 n, .slice A m cap], .slice C r.length cc] y.val (.int .i64 (worthL V r))) := fun y =>
          worth_any n m cap r.length cc A C f t V (fun i => r.getD i 0) y.val (by omega) (by omega) HR.out.v (HPW.out.later y) (CI2.out.later y) fun i hi => cm _ (getD_mem hi)
        have W3 : Hid (∀ y : Later W2, Gives Try.prog 46 #[.agg #[.int .i64 n, .slice A m cap], .slice B q.length c] y.val (.int .i64 (worthL V q))) := fun y =>
          worth_any n m cap q.length c A B f t V (fun i => q.getD i 0) y.val (by omega) (by omega) HR.out.v (HPW.out.later y) (HI2.out.later y) fun i hi => bm _ (getD_mem hi)
        by_cases h0 : q.length = 0
        · have HE2 : Hid (bestC n m f t V (s + 1) = r) := by show _ = _; rw [HE.out, if_pos (.inl h0)]
          have f0 : ((q.length : Int) == 0) = true := by simp [h0]
          clear h0 HE
          generalize q.length = ql at *
          refine wp_region_later (by kernel_rfl) (by kernel_rfl) ?_
          repeat (go_big_quiet_step ((first | (go_at_call 46; (with_reducible refine Later.call _ (W1.out _))) | (go_at_call 46; (with_reducible refine Later.call _ (W3.out _))))))
          refine wpQuiet_nil ?_
          intro y
          go_wp2_with fail
          go_roundw
          case rel => exact ⟨s + 1, C, cc, by rw [HE2.out], by go_num, by omega, ⟨⟨y.val, below_more HBW.out y.ok⟩, rfl⟩, by rw [HE2.out]; exact CI2.out.later y⟩
          case measure => simp [intOf]; omega
        · have f0 : ((q.length : Int) == 0) = false := by rw [beq_eq_false_iff_ne]; omega
          have b1 := wor_bd HR.out.v r.length (c := fun i => r.getD i 0) fun i hi => cm _ (getD_mem hi)
          have b2 := wor_bd HR.out.v q.length (c := fun i => q.getD i 0) fun i hi => bm _ (getD_mem hi)
          have HL : Hid (bestC n m f t V (s + 1) = if worthL V q * (r.length : Int) < worthL V r * (q.length : Int) then r else q) := by
            show _ = _
            rw [HE.out]
            by_cases hc : worthL V q * (r.length : Int) < worthL V r * (q.length : Int)
            · rw [if_pos (.inr hc), if_pos hc]
            · rw [if_neg (by rintro (h | h); exact h0 h; exact hc h), if_neg hc]
          change -(1000 * (r.length : Int)) ≤ worthL V r ∧ worthL V r ≤ 1000 * (r.length : Int) at b1
          change -(1000 * (q.length : Int)) ≤ worthL V q ∧ worthL V q ≤ 1000 * (q.length : Int) at b2
          generalize worthL V r = wr1 at *
          generalize worthL V q = wq1 at *
          have m1 := mul_bd (a := wr1) (b := (q.length : Int)) 8000 8 (by omega) (by omega) (by omega) (by omega)
          have m2 := mul_bd (a := wq1) (b := (r.length : Int)) 8000 8 (by omega) (by omega) (by omega) (by omega)
          clear h0 HE b1 b2
          have HQ : Hid (∃ ql : Nat, ql = q.length) := ⟨_, rfl⟩
          obtain ⟨P1, hP1⟩ : ∃ P1, wr1 * (q.length : Int) = P1 := ⟨_, rfl⟩
          obtain ⟨P2, hP2⟩ : ∃ P2, wq1 * (r.length : Int) = P2 := ⟨_, rfl⟩
          rw [hP1] at m1
          rw [hP2] at m2
          rw [hP1, hP2] at HL
          have u1 : IntKind.i64.wrap (wr1 * (q.length : Int)) = P1 := by rw [hP1]; exact IntWalk.i64_in _ ⟨by omega, by omega⟩
          have u2 : IntKind.i64.wrap (wq1 * (r.length : Int)) = P2 := by rw [hP2]; exact IntWalk.i64_in _ ⟨by omega, by omega⟩
          clear hP1 hP2 m1 m2
          by_cases hcmp : P2 < P1
          · have HE2 : Hid (bestC n m f t V (s + 1) = r) := by show _ = _; rw [HL.out, if_pos hcmp]
            have f1 : decide (P2 < P1) = true := by simpa using hcmp
            clear HL
            refine wp_region_later (by kernel_rfl) (by kernel_rfl) ?_
            repeat (go_big_quiet_step ((first | (go_at_call 46; (with_reducible refine Later.call _ (W1.out _))) | (go_at_call 46; (with_reducible refine Later.call _ (W3.out _))))))
            refine wpQuiet_nil ?_
            intro y
            go_wp2_with fail
            go_roundw
            case rel => exact ⟨s + 1, C, cc, by rw [HE2.out], by go_num, by omega, ⟨⟨y.val, below_more HBW.out y.ok⟩, rfl⟩, by rw [HE2.out]; exact CI2.out.later y⟩
            case measure => simp [intOf]; omega
          · have HE2 : Hid (bestC n m f t V (s + 1) = q) := by show _ = _; rw [HL.out, if_neg hcmp]
            have f1 : decide (P2 < P1) = false := by simpa using hcmp
            clear HL
            refine wp_region_later (by kernel_rfl) (by kernel_rfl) ?_
            repeat (go_big_quiet_step ((first | (go_at_call 46; (with_reducible refine Later.call _ (W1.out _))) | (go_at_call 46; (with_reducible refine Later.call _ (W3.out _))))))
            refine wpQuiet_nil ?_
            intro y
            go_wp2_with fail
            go_roundw
            case rel => exact ⟨s + 1, B, c, by rw [HE2.out], by go_num, by omega, ⟨⟨y.val, below_more HBW.out y.ok⟩, rfl⟩, by rw [HE2.out]; exact HI2.out.later y⟩
            case measure => simp [intOf]; omega
    · obtain rfl : s = n := by omega
      go_wp2
      go_ret
      exact ⟨B, c, rfl, ⟨_, below_later HB.out⟩, rfl, HI.out⟩
end Go.Proofs.Ytnjloomhhgilcaa
