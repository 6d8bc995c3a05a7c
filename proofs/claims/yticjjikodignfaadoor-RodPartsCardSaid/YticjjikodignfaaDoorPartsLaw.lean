/- The law RodParts: walked. -/
import Derived.Test.YticjjikodignfaaDoorCutsLaw
import Derived.Test.YticjjikodignfaaDoorPartsMath
namespace Go.Proofs.YticjjikodignfaaDoor
open Go.RowKit

theorem half_bd {x M : Int} (h0 : -M ≤ x) (h1 : x ≤ M) : -M ≤ x.tdiv 2 ∧ x.tdiv 2 ≤ M := by
  have e := Int.mul_tdiv_add_tmod x 2
  have h2 := Int.tmod_lt_of_pos x (show (0 : Int) < 2 by decide)
  have h3 := Int.lt_tmod_of_pos x (show (0 : Int) < 2 by decide)
  omega
theorem parcel_iff' {n : Nat} {px py : Nat → Int} : validB n px py = true → ∀ i k, i < n → k < n → i ≠ k → ¬ (px i = px k ∧ py i = py k) := by
  intro h
  simp only [validB, Bool.and_eq_true, decide_eq_true_eq] at h
  exact differ_iff.1 h.2.1.1

set_option maxRecDepth 100000 in
set_option maxHeartbeats 6400000 in
theorem parts_any (A : Option Addr) (n cap : Nat) (px py : Nat → Int) (a b : Nat) (w : World) (hu : Units w) (hn : n ≤ maxLen) (hc : n ≤ cap) (hm : cap ≤ maxLen) (hp : n ≤ 60 → IsPosts w A n px py) (ha : a < 256) (hb : b < 256) :
    Gives Tryd.prog 15 #[.slice A n cap, .agg #[.int .u8 a, .int .u8 b]] w (.bool true) := by
  have Hu := Lib.hid (hu.below (show Below w.heap.size w (w.alloc (.cells #[.int .u8 a, .int .u8 b] 54)) by repeat (first | exact Below.refl _ _ | (with_reducible assumption) | apply below_later | apply below_alloc | apply below_drew | apply below_drewN)))
  have hm0 : n < 9223372036854775808 := by unfold maxLen at hn; omega
  clear hu hn
  by_cases h40 : 40 < n
  · clear hp hc hm
    go_enter Tryd.func15, Tryd.ntmps15
    go_wp2_with (first | (go_at_call 20; (first | (with_reducible show Calls _ _ _ (Later.val _) _; with_reducible refine Calls.mono (Later.call _ (first_any _ Hu.out)) ?_) | (with_reducible refine Calls.mono (Gives.calls (first_any _ Hu.out)) ?_)); rintro e w1 ⟨rfl, y1, rfl⟩))
    go_ret
    exact ⟨rfl, later_of (by repeat (first | exact Below.refl _ _ | (with_reducible assumption) | apply below_later | apply below_alloc | apply below_drew | apply below_drewN))⟩
  · have Hp := Lib.hid ((hp (by omega)).later ⟨w.alloc (.cells #[.int .u8 a, .int .u8 b] 54), by repeat (first | exact Below.refl _ _ | (with_reducible assumption) | apply below_later | apply below_alloc | apply below_drew | apply below_drewN)⟩)
    clear hp
    cases hv : validB n px py
    · have V2 := Lib.hid (show rValidB n px py = false by rw [rValid_eq, hv])
      clear hv hc hm
      go_enter Tryd.func15, Tryd.ntmps15
      go_wp2_with (first | (go_at_call 32; (first | (with_reducible show Calls _ _ _ (Later.val _) _; with_reducible refine Calls.mono (Later.call _ ((V2.out ▸ r_valid_any _ _ _ _ _ _ Hp.out))) ?_) | (with_reducible refine Calls.mono (Gives.calls ((V2.out ▸ r_valid_any _ _ _ _ _ _ Hp.out))) ?_)); rintro e w1 ⟨rfl, y4, rfl⟩) | (go_at_call 20; (first | (with_reducible show Calls _ _ _ (Later.val _) _; with_reducible refine Calls.mono (Later.call _ (first_any _ (Hu.out.below (Later.ok _)))) ?_) | (with_reducible refine Calls.mono (Gives.calls (first_any _ (Hu.out.below (Later.ok _)))) ?_)); rintro e w1 ⟨rfl, y6, rfl⟩))
      go_ret
      exact ⟨rfl, later_of (by repeat (first | exact Below.refl _ _ | (with_reducible assumption) | apply below_later | apply below_alloc | apply below_drew | apply below_drewN))⟩
    · obtain ⟨b0, off, rfl, hq⟩ := Hp.out.at_ (by have := (valid_bounds' hv).1; omega)
      have n40 := (valid_bounds' hv).2
      have n3 := (valid_bounds' hv).1
      have V2 := Lib.hid (show rValidB n px py = true by rw [rValid_eq, hv])
      have hm1 : (0 : Int) ≤ (a : Int) % (n : Int) := Int.emod_nonneg _ (by omega)
      have hm2 : (a : Int) % (n : Int) < n := Int.emod_lt_of_pos _ (by omega)
      have hm3 : (0 : Int) ≤ (b : Int) % (n : Int) := Int.emod_nonneg _ (by omega)
      have hm4 : (b : Int) % (n : Int) < n := Int.emod_lt_of_pos _ (by omega)
      obtain ⟨i, hi⟩ : ∃ i : Nat, min ((a : Int) % (n : Int)) ((b : Int) % (n : Int)) = (i : Int) := ⟨(min ((a : Int) % (n : Int)) ((b : Int) % (n : Int))).toNat, by omega⟩
      obtain ⟨k, hk⟩ : ∃ k : Nat, max ((a : Int) % (n : Int)) ((b : Int) % (n : Int)) = (k : Int) := ⟨(max ((a : Int) % (n : Int)) ((b : Int) % (n : Int))).toNat, by omega⟩
      have hik : i ≤ k := by omega
      have hkn : k < n := by omega
      have HI := Lib.hid hi
      have HK := Lib.hid hk
      clear hi hk hm1 hm2 hm3 hm4
      have CB : ∀ (x : Later (w.alloc (.cells #[.int .u8 a, .int .u8 b] 54))), GivesC 48 #[.slice (some ⟨b0, off, none⟩) n cap, .int .i64 i, .int .i64 k] x.val (cutL n i k px py) (cutK n i k px py) (cutE n i k px py) := fun x => (cut_both b0 off n cap px py i k x.val hc hm (hq.later x) hv (by omega) (by omega)).1
      by_cases hok : argB n i k = true ∧ cutOk n i k px py = true
      · have e1 : cutL n i k px py = ptsOf (k - i + 1) (cutA i px) (cutA i py) := by unfold cutL; rw [if_pos (by simpa using hok)]; simp only [Int.toNat_natCast]
        have e2 : cutK n i k px py = ptsOf (n - k + i + 1) (cutB n k px) (cutB n k py) := by unfold cutK; rw [if_pos (by simpa using hok)]; simp only [Int.toNat_natCast]
        have e3 : cutE n i k px py = 0 := by
          unfold cutE
          simp only [Int.toNat_natCast]
          rw [if_pos hok.1, if_pos hok.2]
        rw [e1, e2, e3] at CB
        obtain ⟨ha1, ha2⟩ := hok
        simp only [argB, Bool.and_eq_true, decide_eq_true_eq, Bool.not_eq_true', Int.toNat_natCast, neighB, Bool.or_eq_false_iff, decide_eq_false_iff_not] at ha1
        have i2k : i + 2 ≤ k := by omega
        simp only [cutOk, Bool.and_eq_true, decide_eq_true_eq] at ha2
        obtain ⟨va, vb, hsum⟩ := ha2
        have hin := inside_cut (n := n) px py i2k hkn hsum
        have hdiff : ¬ (px k - px i = 0 ∧ py k - py i = 0) := by
          have := (parcel_iff' hv) k i hkn (by omega) (by omega)
          omega
        obtain ⟨g0, g1⟩ := gcd_le_sum hdiff
        have gd := gcd_divides (px k - px i) (py k - py i)
        have gabove := fun (c : Nat) (h : Nat.gcd (px k - px i).natAbs (py k - py i).natAbs < c) (h2 : Int.tmod (px k - px i) c = 0) => above_not h g0 h2
        have hr := (valid_bounds hv).2.2
        obtain ⟨r1, r2, r3, r4⟩ := hr k hkn
        obtain ⟨r5, r6, r7, r8⟩ := hr i (by omega)
        have hra : ∀ j, j < k - i + 1 → InRange (cutA i px j) (cutA i py j) := fun j hj => hr (i + j) (by omega)
        have hrb : ∀ j, j < n - k + i + 1 → InRange (cutB n k px j) (cutB n k py j) := fun j hj => by
          unfold cutB
          split
          · exact hr _ (by omega)
          · exact hr _ (by omega)
        have A1 : areaR (k - i + 1) (cutA i px) (cutA i py) = .tuple #[.int .i64 (absI (areaI (k - i + 1) (cutA i px) (cutA i py))), .int .i64 0] := by rw [areaR, va]; rfl
        have A2 : areaR (n - k + i + 1) (cutB n k px) (cutB n k py) = .tuple #[.int .i64 (absI (areaI (n - k + i + 1) (cutB n k px) (cutB n k py))), .int .i64 0] := by rw [areaR, vb]; rfl
        have A3 : insideR (k - i + 1) (cutA i px) (cutA i py) = .tuple #[.int .i64 (((absI (areaI (k - i + 1) (cutA i px) (cutA i py))) - borderI (k - i + 1) (cutA i px) (cutA i py) + 2).tdiv 2), .int .i64 0] := by rw [insideR, va]; rfl
        have A4 : insideR (n - k + i + 1) (cutB n k px) (cutB n k py) = .tuple #[.int .i64 (((absI (areaI (n - k + i + 1) (cutB n k px) (cutB n k py))) - borderI (n - k + i + 1) (cutB n k px) (cutB n k py) + 2).tdiv 2), .int .i64 0] := by rw [insideR, vb]; rfl
        have F := fan_eq px py n3
        have b1 := areaI_bd (n := k - i + 1) (by omega) (by omega) hra
        have b2 := areaI_bd (n := n - k + i + 1) (by omega) (by omega) hrb
        have b3 := borderI_bd (n := k - i + 1) (by omega) (by omega) hra
        have b4 := borderI_bd (n := n - k + i + 1) (by omega) (by omega) hrb
        have na0 : 0 < k - i + 1 := by omega
        have nb0 : 0 < n - k + i + 1 := by omega
        have na1 : k - i + 1 ≤ 40 := by omega
        have nb1 : n - k + i + 1 ≤ 40 := by omega
        generalize k - i + 1 = na at *
        generalize n - k + i + 1 = nb at *
        have ab1 : ∀ x : Int, -400000000 ≤ x ∧ x ≤ 400000000 → 0 ≤ absI x ∧ absI x ≤ 400000000 := fun x hx => by unfold absI; omega
        have b5 := ab1 _ b1
        have b6 := ab1 _ b2
        clear ab1 b1 b2
        have hgI : gI (px i) (py i) (px k) (py k) = ((Nat.gcd (px k - px i).natAbs (py k - py i).natAbs : Nat) : Int) := rfl
        rw [hgI] at hin
        clear hgI
        generalize hg : Nat.gcd (px k - px i).natAbs (py k - py i).natAbs = g at *
        generalize hT1 : absI (areaI na (cutA i px) (cutA i py)) = T1 at *
        generalize hT2 : absI (areaI nb (cutB n k px) (cutB n k py)) = T2 at *
        have i1 := half_bd (x := T1 - borderI na (cutA i px) (cutA i py) + 2) (M := 500000000) (by omega) (by omega)
        have i2 := half_bd (x := T2 - borderI nb (cutB n k px) (cutB n k py) + 2) (M := 500000000) (by omega) (by omega)
        generalize hI1 : (T1 - borderI na (cutA i px) (cutA i py) + 2).tdiv 2 = I1 at *
        generalize hI2 : (T2 - borderI nb (cutB n k px) (cutB n k py) + 2).tdiv 2 = I2 at *
        have SP : Hid (∀ (W : World), Posts W b0 off n px py → Gives Tryd.prog 34 #[.slice (some ⟨b0, off, none⟩) n cap] W (.int .i64 (T1 + T2))) := fun W hW => by
          have := r_space_any b0 off n cap px py W n3 n40 hW hr
          rw [F, ← hsum] at this
          exact this
        have IP : Hid (∀ (W : World), Posts W b0 off n px py → Gives Tryd.prog 36 #[.slice (some ⟨b0, off, none⟩) n cap] W (.int .i64 (I1 + I2 + g - 1))) := fun W hW => by
          have := r_inside_any b0 off n cap px py W n3 n40 hW hr
          rw [F, ← hin] at this
          exact this
        have HC := Lib.hid CB
        have HRA := Lib.hid hra
        have HRB := Lib.hid hrb
        have HA1 := Lib.hid A1
        have HA2 := Lib.hid A2
        have HA3 := Lib.hid A3
        have HA4 := Lib.hid A4
        have HGD := Lib.hid gd
        have HGA := Lib.hid gabove
        have HG := Lib.hid hg
        have HQ := Lib.hid hq
        clear CB hra hrb A1 A2 A3 A4 gd gabove hg hq hr hv hc hm va vb hsum hin F hT1 hT2 hI1 hI2 ha1 e1 e2 e3 b3 b4 hdiff
        obtain ⟨b51, b52⟩ := b5
        obtain ⟨b61, b62⟩ := b6
        obtain ⟨i11, i12⟩ := i1
        obtain ⟨i21, i22⟩ := i2
        go_enter Tryd.func15, Tryd.ntmps15
        go_wp2_with (first | (go_at_call 32; (first | (with_reducible show Calls _ _ _ (Later.val _) _; with_reducible refine Calls.mono (Later.call _ ((V2.out ▸ r_valid_any _ _ _ _ _ _ Hp.out))) ?_) | (with_reducible refine Calls.mono (Gives.calls ((V2.out ▸ r_valid_any _ _ _ _ _ _ Hp.out))) ?_)); rintro e w1 ⟨rfl, y4, rfl⟩))
        first | (with_reducible show Code.wp _ _ _ _ (Later.val _); refine wp_region_later_at _ (by kernel_rfl) (by kernel_rfl) ?_) | refine wp_region_later (by kernel_rfl) (by kernel_rfl) ?_
        repeat (go_big_quiet_step ((fail)))
        refine wpQuiet_nil ?_
        intro y5
        go_wp2_with (first | (go_at_call 48; rw [HI.out, HK.out]; with_reducible refine Calls.mono (GivesC.calls (HC.out y5)) ?_; rintro e w1 ⟨v, u, rfl, y1, rfl, ho1, ho2⟩; obtain ⟨B, cap1, rfl⟩ := ho1.shape_n (ptsOf_length _ _ _); obtain ⟨B2, cap2, rfl⟩ := ho2.shape_n (ptsOf_length _ _ _)))
        obtain ⟨_, ga, rfl, Pa⟩ := ho1.at_pts (by omega) (by omega)
        obtain ⟨_, gb, rfl, Pb⟩ := ho2.at_pts (by omega) (by omega)
        have HX := HQ.out.later ⟨y1.val, (by repeat (first | exact Below.refl _ _ | (with_reducible assumption) | apply below_later | apply below_alloc | apply below_drew | apply below_drewN))⟩
        have HU2 := Hu.out.below (show Below (w.alloc (.cells #[.int .u8 a, .int .u8 b] 54)).heap.size (w.alloc (.cells #[.int .u8 a, .int .u8 b] 54)) y1.val from (by repeat (first | exact Below.refl _ _ | (with_reducible assumption) | apply below_later | apply below_alloc | apply below_drew | apply below_drewN)))
        have HB5 : Below w.heap.size w y1.val := (by repeat (first | exact Below.refl _ _ | (with_reducible assumption) | apply below_later | apply below_alloc | apply below_drew | apply below_drewN))
        obtain ⟨w5, hw5⟩ : ∃ w5 : World, w5 = y1.val := ⟨_, rfl⟩
        simp only [← hw5] at Pa Pb HX HU2 HB5 ⊢
        have HU5 := Lib.hid HU2
        have c1 := HX.x k hkn
        have c2 := HX.y k hkn
        have c3 := HX.x i (by omega)
        have c4 := HX.y i (by omega)
        have lt0 := HX.lt
        have aa0 : Hid (Gives Tryd.prog 29 #[.slice (some ⟨ga, 0, none⟩) na cap1] w5 (.tuple #[.int .i64 T1, .int .i64 0])) := by
          have := area_any (some ⟨ga, 0, none⟩) na cap1 (cutA i px) (cutA i py) w5 ⟨by omega, fun _ => ⟨ga, 0, rfl, Pa⟩⟩
          rw [HA1.out] at this
          exact this
        have ab : Hid (∀ x : Later w5, Gives Tryd.prog 29 #[.slice (some ⟨gb, 0, none⟩) nb cap2] x.val (.tuple #[.int .i64 T2, .int .i64 0])) := fun x => by
          have := area_any (some ⟨gb, 0, none⟩) nb cap2 (cutB n k px) (cutB n k py) x.val ⟨by omega, fun _ => ⟨gb, 0, rfl, Pb.later x⟩⟩
          rw [HA2.out] at this
          exact this
        have ia : Hid (∀ x : Later w5, Gives Tryd.prog 31 #[.slice (some ⟨ga, 0, none⟩) na cap1] x.val (.tuple #[.int .i64 I1, .int .i64 0])) := fun x => by
          have := inside_any (some ⟨ga, 0, none⟩) na cap1 (cutA i px) (cutA i py) x.val ⟨by omega, fun _ => ⟨ga, 0, rfl, Pa.later x⟩⟩
          rw [HA3.out] at this
          exact this
        have ib : Hid (∀ x : Later w5, Gives Tryd.prog 31 #[.slice (some ⟨gb, 0, none⟩) nb cap2] x.val (.tuple #[.int .i64 I2, .int .i64 0])) := fun x => by
          have := inside_any (some ⟨gb, 0, none⟩) nb cap2 (cutB n k px) (cutB n k py) x.val ⟨by omega, fun _ => ⟨gb, 0, rfl, Pb.later x⟩⟩
          rw [HA4.out] at this
          exact this
        have sp : Hid (∀ x : Later w5, Gives Tryd.prog 34 #[.slice (some ⟨b0, off, none⟩) n cap] x.val (.int .i64 (T1 + T2))) := fun x => SP.out x.val (HX.later x)
        have ip : Hid (∀ x : Later w5, Gives Tryd.prog 36 #[.slice (some ⟨b0, off, none⟩) n cap] x.val (.int .i64 (I1 + I2 + g - 1))) := fun x => IP.out x.val (HX.later x)
        clear Pa Pb HX hw5 ho1 ho2 HU2 SP IP HA1 HA2 HA3 HA4 HRA HRB HC HI HK
        go_wp2_with (first | (go_at_call 29; (first | (with_reducible show Calls _ _ _ (Later.val _) _; with_reducible refine Calls.mono (Later.call _ (aa0.out)) ?_) | (with_reducible refine Calls.mono (Gives.calls (aa0.out)) ?_)); rintro e w1 ⟨rfl, z1, rfl⟩) | (go_at_call 29; (first | (with_reducible show Calls _ _ _ (Later.val _) _; with_reducible refine Calls.mono (Later.call _ (ab.out _)) ?_) | (with_reducible refine Calls.mono (Gives.calls (ab.out _)) ?_)); rintro e w1 ⟨rfl, z2, rfl⟩) | (go_at_call 31; (first | (with_reducible show Calls _ _ _ (Later.val _) _; with_reducible refine Calls.mono (Later.call _ (ia.out _)) ?_) | (with_reducible refine Calls.mono (Gives.calls (ia.out _)) ?_)); rintro e w1 ⟨rfl, z3, rfl⟩) | (go_at_call 31; (first | (with_reducible show Calls _ _ _ (Later.val _) _; with_reducible refine Calls.mono (Later.call _ (ib.out _)) ?_) | (with_reducible refine Calls.mono (Gives.calls (ib.out _)) ?_)); rintro e w1 ⟨rfl, z4, rfl⟩))
        first | (with_reducible show Code.wp _ _ _ _ (Later.val _); refine wp_region_later_at _ (by kernel_rfl) (by kernel_rfl) ?_) | refine wp_region_later (by kernel_rfl) (by kernel_rfl) ?_
        repeat (go_big_quiet_step ((fail)))
        refine wpQuiet_nil ?_
        intro z5
        go_wp2_with fail
        go_loopw [17, 20] (fun v c wr => ((∃ c' : Nat, g ≤ c' ∧ c' ≤ 4000 ∧ c = .int .i64 c' ∧ v = .int .i64 0) ∨ (v = .int .i64 g ∧ c = .int .i64 ((g : Int) - 1))) ∧ ∃ x : Later w5, wr = x.val) (fun _ c _ => (intOf c).toNat)
        case atStart =>
          refine ⟨.inl ⟨(px k - px i).natAbs + (py k - py i).natAbs, g1, by omega, ?_, rfl⟩, later_of (by repeat (first | exact Below.refl _ _ | (with_reducible assumption) | apply below_later | apply below_alloc | apply below_drew | apply below_drewN))⟩
          congr 1
          omega
        case round =>
          obtain ⟨⟨c', q1, q2, rfl, rfl⟩ | ⟨rfl, rfl⟩, x, rfl⟩ := hrel
          · rcases Nat.lt_or_ge g c' with q3 | q3
            · by_cases q4 : (px k - px i).tmod c' = 0
              · have q5 := HGA.out c' q3 q4
                have q6 : ((py k - py i).tmod c' == 0) = false := by simpa using q5
                have q7 : ((px k - px i).tmod c' == 0) = true := by simpa using q4
                clear q4 q5
                go_wp2
                go_roundw
                case rel => exact ⟨.inl ⟨c' - 1, by omega, by omega, by go_num, rfl⟩, later_of (by repeat (first | exact Below.refl _ _ | (with_reducible assumption) | apply below_later | apply below_alloc | apply below_drew | apply below_drewN))⟩
                case measure => simp [intOf]; omega
              · have q7 : ((px k - px i).tmod c' == 0) = false := by simpa using q4
                clear q4
                go_wp2
                go_roundw
                case rel => exact ⟨.inl ⟨c' - 1, by omega, by omega, by go_num, rfl⟩, later_of (by repeat (first | exact Below.refl _ _ | (with_reducible assumption) | apply below_later | apply below_alloc | apply below_drew | apply below_drewN))⟩
                case measure => simp [intOf]; omega
            · obtain rfl : c' = g := by omega
              have q6 : ((py k - py i).tmod c' == 0) = true := by simpa using HGD.out.2
              have q7 : ((px k - px i).tmod c' == 0) = true := by simpa using HGD.out.1
              go_wp2
              go_roundw
              case rel => exact ⟨.inr ⟨rfl, by go_num⟩, later_of (by repeat (first | exact Below.refl _ _ | (with_reducible assumption) | apply below_later | apply below_alloc | apply below_drew | apply below_drewN))⟩
              case measure => simp [intOf]; omega
          · have q8 : ((g : Int) == 0) = false := by simp; omega
            go_wp2_with (first | (go_at_call 34; (first | (with_reducible show Calls _ _ _ (Later.val _) _; with_reducible refine Calls.mono (Later.call _ (sp.out _)) ?_) | (with_reducible refine Calls.mono (Gives.calls (sp.out _)) ?_)); rintro e w1 ⟨rfl, z6, rfl⟩) | (go_at_call 36; (first | (with_reducible show Calls _ _ _ (Later.val _) _; with_reducible refine Calls.mono (Later.call _ (ip.out _)) ?_) | (with_reducible refine Calls.mono (Gives.calls (ip.out _)) ?_)); rintro e w1 ⟨rfl, z7, rfl⟩) | (go_at_call 20; (first | (with_reducible show Calls _ _ _ (Later.val _) _; with_reducible refine Calls.mono (Later.call _ (first_any _ (HU5.out.below (by repeat (first | exact Below.refl _ _ | (with_reducible assumption) | apply below_later | apply below_alloc | apply below_drew | apply below_drewN))))) ?_) | (with_reducible refine Calls.mono (Gives.calls (first_any _ (HU5.out.below (by repeat (first | exact Below.refl _ _ | (with_reducible assumption) | apply below_later | apply below_alloc | apply below_drew | apply below_drewN))))) ?_)); rintro e w1 ⟨rfl, z8, rfl⟩))
            all_goals
              go_ret
              exact ⟨rfl, later_of (by repeat (first | exact Below.refl _ _ | (with_reducible assumption) | apply below_later | apply below_alloc | apply below_drew | apply below_drewN))⟩
      · have e1 : cutL n i k px py = [] := by unfold cutL; rw [if_neg (by simpa using hok)]
        have e2 : cutK n i k px py = [] := by unfold cutK; rw [if_neg (by simpa using hok)]
        have e3 : cutE n i k px py = 2 ∨ cutE n i k px py = 5 := by
          unfold cutE
          simp only [Int.toNat_natCast]
          by_cases h1 : argB n i k = true
          · rw [if_pos h1, if_neg (fun e => hok ⟨h1, e⟩)]; exact .inr rfl
          · rw [if_neg h1]; exact .inl rfl
        rw [e1, e2] at CB
        clear hv hq hc hm hok e1 e2
        rcases e3 with e3 | e3
        all_goals
          rw [e3] at CB
          have HC := Lib.hid CB
          clear CB e3
          go_enter Tryd.func15, Tryd.ntmps15
          go_wp2_with (first | (go_at_call 32; (first | (with_reducible show Calls _ _ _ (Later.val _) _; with_reducible refine Calls.mono (Later.call _ ((V2.out ▸ r_valid_any _ _ _ _ _ _ Hp.out))) ?_) | (with_reducible refine Calls.mono (Gives.calls ((V2.out ▸ r_valid_any _ _ _ _ _ _ Hp.out))) ?_)); rintro e w1 ⟨rfl, y4, rfl⟩))
          first | (with_reducible show Code.wp _ _ _ _ (Later.val _); refine wp_region_later_at _ (by kernel_rfl) (by kernel_rfl) ?_) | refine wp_region_later (by kernel_rfl) (by kernel_rfl) ?_
          repeat (go_big_quiet_step ((fail)))
          refine wpQuiet_nil ?_
          intro y5
          go_wp2_with (first | (go_at_call 48; rw [HI.out, HK.out]; with_reducible refine Calls.mono (GivesC.calls (HC.out y5)) ?_; rintro e w1 ⟨v, u, rfl, y1, rfl, ho1, ho2⟩; obtain ⟨B, cap1, rfl⟩ := ho1.shape_n (n := 0) rfl; obtain ⟨B2, cap2, rfl⟩ := ho2.shape_n (n := 0) rfl) | (go_at_call 20; with_reducible refine Calls.mono (Gives.calls (first_any _ (Hu.out.below (by repeat (first | exact Below.refl _ _ | (with_reducible assumption) | apply below_later | apply below_alloc | apply below_drew | apply below_drewN))))) ?_; rintro e w1 ⟨rfl, y6, rfl⟩))
          go_ret
          exact ⟨rfl, later_of (by repeat (first | exact Below.refl _ _ | (with_reducible assumption) | apply below_later | apply below_alloc | apply below_drew | apply below_drewN))⟩
end Go.Proofs.YticjjikodignfaaDoor
