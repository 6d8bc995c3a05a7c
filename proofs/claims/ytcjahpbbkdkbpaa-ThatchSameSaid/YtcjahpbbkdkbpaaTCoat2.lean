/- The document's valid coats; thatch's layers over an inch, Courses, Layers, Least: walked. -/
import Derived.Test.YtcjahpbbkdkbpaaTCoat
namespace Go.Proofs.Ytcjahpbbkdkbpaa
open Go.RowKit

set_option maxRecDepth 100000 in
set_option maxHeartbeats 6400000 in
theorem rValidCoat_any (s g r : Int) (A : Option Addr) (n cap : Nat) (f : Nat → Int) (w : World) (hp : n ≤ 100 → IsInts w A n f) :
    Gives Try.prog 19 #[coatV s g r A n cap] w (.bool (okCoat s g r n f)) := by
  have B1 := Lib.hid fun V => rfrom_any 1 s 5000 V
  have B2 := Lib.hid fun V => rfrom_any 1 g 100 V
  have B3 := Lib.hid fun V => rfrom_any 1 r 200 V
  have HE : Hid (okCoat s g r n f = (((inI 1 s 5000 && inI 1 g 100) && inI 1 r 200) && (decide (n ≤ 100) && ascB n f (upN s.toNat g.toNat : Nat)))) := rfl
  have HS : Hid (inI 1 s 5000 = true → 1 ≤ s ∧ s ≤ 5000) := fun h => inI_iff.1 h
  have HG : Hid (inI 1 g 100 = true → 1 ≤ g ∧ g ≤ 100) := fun h => inI_iff.1 h
  have HP := Lib.hid hp
  clear hp
  unfold coatV
  generalize okCoat s g r n f = res at *
  generalize inI 1 s 5000 = r1 at *
  generalize inI 1 g 100 = r2 at *
  generalize inI 1 r 200 = r3 at *
  cases r1
  · go_enter Try.func19, Try.ntmps19
    go_wp2_with (first | (go_at_call 32; with_reducible refine Calls.mono (Gives.calls (B1.out _)) ?_; rintro e w1 ⟨rfl, z1, rfl⟩) | (go_at_call 32; with_reducible refine Calls.mono (Gives.calls (B2.out _)) ?_; rintro e w1 ⟨rfl, z2, rfl⟩) | (go_at_call 32; with_reducible refine Calls.mono (Gives.calls (B3.out _)) ?_; rintro e w1 ⟨rfl, z3, rfl⟩))
    go_ret
    exact ⟨ret_bool (by rw [HE.out]; rfl), later_of (by repeat (first | exact Below.refl _ _ | (with_reducible assumption) | apply below_later | apply below_alloc | apply below_drew | apply below_drewN))⟩
  cases r2
  · go_enter Try.func19, Try.ntmps19
    go_wp2_with (first | (go_at_call 32; with_reducible refine Calls.mono (Gives.calls (B1.out _)) ?_; rintro e w1 ⟨rfl, z1, rfl⟩) | (go_at_call 32; with_reducible refine Calls.mono (Gives.calls (B2.out _)) ?_; rintro e w1 ⟨rfl, z2, rfl⟩) | (go_at_call 32; with_reducible refine Calls.mono (Gives.calls (B3.out _)) ?_; rintro e w1 ⟨rfl, z3, rfl⟩))
    go_ret
    exact ⟨ret_bool (by rw [HE.out]; rfl), later_of (by repeat (first | exact Below.refl _ _ | (with_reducible assumption) | apply below_later | apply below_alloc | apply below_drew | apply below_drewN))⟩
  cases r3
  · go_enter Try.func19, Try.ntmps19
    go_wp2_with (first | (go_at_call 32; with_reducible refine Calls.mono (Gives.calls (B1.out _)) ?_; rintro e w1 ⟨rfl, z1, rfl⟩) | (go_at_call 32; with_reducible refine Calls.mono (Gives.calls (B2.out _)) ?_; rintro e w1 ⟨rfl, z2, rfl⟩) | (go_at_call 32; with_reducible refine Calls.mono (Gives.calls (B3.out _)) ?_; rintro e w1 ⟨rfl, z3, rfl⟩))
    go_ret
    exact ⟨ret_bool (by rw [HE.out]; rfl), later_of (by repeat (first | exact Below.refl _ _ | (with_reducible assumption) | apply below_later | apply below_alloc | apply below_drew | apply below_drewN))⟩
  obtain ⟨s0, s1⟩ := HS.out rfl
  obtain ⟨g0, g1⟩ := HG.out rfl
  obtain ⟨S, rfl⟩ : ∃ S : Nat, s = S := ⟨s.toNat, by omega⟩
  obtain ⟨G, rfl⟩ : ∃ G : Nat, g = G := ⟨g.toNat, by omega⟩
  rw [Int.toNat_natCast, Int.toNat_natCast] at HE
  have hq : upN S G ≤ 6000 := Nat.le_trans (Nat.div_le_self _ _) (by omega)
  have CO := Lib.hid fun V => rcourses_any S G r A n cap V (by omega) (by omega)
  unfold coatV at CO
  by_cases hn : n ≤ 100
  · have hd : decide ((n : Int) > 100) = false := by simp; omega
    have hd' : decide ((100 : Int) < (n : Int)) = false := by simp; omega
    have HI := Lib.hid (HP.out hn)
    have HD : Hid (res = ascB n f (upN S G : Nat)) := by show _ = _; rw [HE.out, decide_eq_true hn]; rfl
    have BT := Lib.hid fun (x : Int) (V : World) => rfrom_any 0 x ((upN S G : Nat) - 1) V
    have AQ : Hid (∀ i, ascQ f (upN S G : Nat) i = (inI 0 (f i) (((upN S G : Nat) : Int) - 1) && !(decide (0 < i) && decide (f i ≤ f (i - 1))))) := fun _ => rfl
    have AF : Hid (∀ i, i < n → ascQ f (upN S G : Nat) i = false → res = false) := fun i hi h => HD.out.trans (allB_false hi h)
    have AT : Hid ((∀ i, i < n → ascQ f (upN S G : Nat) i = true) → res = true) := fun h => HD.out.trans (allB_true h)
    generalize ascQ f (upN S G : Nat) = Q at *
    clear HD HE
    generalize upN S G = c at *
    have hc1 : IntKind.i64.wrap ((c : Int) - 1) = (c : Int) - 1 := IntWalk.i64_in _ ⟨by omega, by omega⟩
    go_enter Try.func19, Try.ntmps19
    go_wp2_with (first | (go_at_call 32; with_reducible refine Calls.mono (Gives.calls (B1.out _)) ?_; rintro e w1 ⟨rfl, z1, rfl⟩) | (go_at_call 32; with_reducible refine Calls.mono (Gives.calls (B2.out _)) ?_; rintro e w1 ⟨rfl, z2, rfl⟩) | ((go_at_call 32; with_reducible refine Calls.mono (Gives.calls (B3.out _)) ?_; rintro e w1 ⟨rfl, z3, rfl⟩); obtain ⟨⟨x0, x1, x2, x3⟩, lx⟩ := coat_at (w := w) (V := z3.val) (s := (S : Int)) (g := (G : Int)) (r := r) (A := A) (n := n) (c := cap) (by repeat (first | exact Below.refl _ _ | (with_reducible assumption) | apply below_later | apply below_alloc | apply below_drew | apply below_drewN))))
    have HBZ : Hid (Below w.heap.size w z3.val) := by show Below _ _ _; repeat (first | exact Below.refl _ _ | (with_reducible assumption) | apply below_later | apply below_alloc | apply below_drew | apply below_drewN)
    obtain ⟨b8, hb8⟩ : ∃ b8, w.heap.size = b8 := ⟨_, rfl⟩
    rw [hb8] at x0 x1 x2 x3 lx ⊢
    clear hb8
    generalize z3.val = Z at *
    go_loopw [3] (fun v wr => ∃ i : Nat, v = .int .i64 (i : Nat) ∧ i ≤ n ∧ (∀ j, j < i → Q j = true) ∧ ∃ x : Later Z, wr = x.val) (fun v _ => n - (intOf v).toNat)
    case atStart => exact ⟨0, rfl, by omega, by omega, later_of (by repeat (first | exact Below.refl _ _ | (with_reducible assumption) | apply below_later | apply below_alloc | apply below_drew | apply below_drewN))⟩
    case round =>
      obtain ⟨i, rfl, hi, hall, x, rfl⟩ := hrel
      have HALL := Lib.hid hall
      clear hall
      have y0 := (x.cell _ _ lx).trans x0
      have y1 := (x.cell _ _ lx).trans x1
      have y2 := (x.cell _ _ lx).trans x2
      have y3 := (x.cell _ _ lx).trans x3
      have ly := x.lt _ lx
      by_cases hlt : i < n
      · obtain ⟨bb, oo, hB, q⟩ := (HI.out.below (below_more HBZ.out x.ok)).at_ (by omega)
        subst hB
        have cj := q.at_ i hlt
        have lq := q.lt
        have AQi := Lib.hid (AQ.out i)
        have BTi := Lib.hid fun V => BT.out (f i) V
        have hprev : Hid (0 < i → x.val.cell? ⟨bb, oo + (i - 1), none⟩ = some (.int .i64 (f (i - 1)))) := fun h0 => q.at_ (i - 1) (by omega)
        clear q x0 x1 x2 x3
        have AFi := Lib.hid (AF.out i hlt)
        have ATi : Hid (Q i = true → ∀ j, j < i + 1 → Q j = true) := fun h => all_step HALL.out h
        generalize f i = fi at *
        generalize f (i - 1) = fp at *
        generalize Q i = qi at *
        generalize inI 0 fi ((c : Int) - 1) = r1 at *
        have HBX : Hid (∀ V, Below x.val.heap.size x.val V → ∃ y : Later Z, V = y.val) := fun V h => ⟨⟨V, below_more x.ok h⟩, rfl⟩
        generalize x.val = X at *
        cases r1
        · have HQ : Hid (res = false) := AFi.out (by rw [AQi.out]; rfl)
          go_wp2_with fail
          refine wp_region_later (by kernel_rfl) (by kernel_rfl) ?_
          repeat (go_big_quiet_step ((first | (go_at_call 38; (with_reducible refine Later.call _ (CO.out _))) | (go_at_call 32; (with_reducible refine Later.call _ (BTi.out _))))))
          refine wpQuiet_nil ?_
          intro y
          go_wp2_with fail
          go_ret
          exact ⟨ret_bool HQ.out.symm, later_of (by obtain ⟨y', hy⟩ := HBX.out _ y.ok; rw [hy]; exact below_more HBZ.out y'.ok)⟩
        by_cases h0 : i = 0
        · subst h0
          rw [Nat.add_zero] at cj
          have HQ : Hid (∀ j, j < 0 + 1 → Q j = true) := ATi.out (by rw [AQi.out]; rfl)
          go_wp2_with fail
          refine wp_region_later (by kernel_rfl) (by kernel_rfl) ?_
          repeat (go_big_quiet_step ((first | (go_at_call 38; (with_reducible refine Later.call _ (CO.out _))) | (go_at_call 32; (with_reducible refine Later.call _ (BTi.out _))))))
          refine wpQuiet_nil ?_
          intro y
          go_wp2_with fail
          first
            | (go_roundw
               case rel => exact ⟨1, by go_num, by omega, HQ.out, HBX.out _ y.ok⟩
               case measure => simp [intOf]; omega)
            | (refine ⟨⟨1, by go_num, by omega, HQ.out, HBX.out _ y.ok⟩, ?_⟩; simp [intOf]; omega)
        · have hg : decide ((i : Int) > 0) = true := by simp; omega
          have hg2 : decide ((0 : Int) < (i : Int)) = true := by simp; omega
          have hg3 : decide (0 < i) = true := by simp; omega
          have hsub : (i : Int) - 1 = ((i - 1 : Nat) : Int) := by omega
          have hw : IntKind.i64.wrap ((i : Int) - 1) = ((i - 1 : Nat) : Int) := by rw [hsub]; exact i64_nat (by omega)
          have hlp : i - 1 < n := by omega
          have cp := hprev.out (by omega)
          clear hsub
          by_cases hle : fi ≤ fp
          · have HQ : Hid (res = false) := AFi.out (by rw [AQi.out, decide_eq_true hle, decide_eq_true (by omega : 0 < i)]; rfl)
            have hle2 : decide (fi ≤ fp) = true := by simpa using hle
            go_wp2_with fail
            refine wp_region_later (by kernel_rfl) (by kernel_rfl) ?_
            repeat (go_big_quiet_step ((first | (go_at_call 38; (with_reducible refine Later.call _ (CO.out _))) | (go_at_call 32; (with_reducible refine Later.call _ (BTi.out _))))))
            refine wpQuiet_nil ?_
            intro y
            go_wp2_with fail
            go_ret
            exact ⟨ret_bool HQ.out.symm, later_of (by obtain ⟨y', hy⟩ := HBX.out _ y.ok; rw [hy]; exact below_more HBZ.out y'.ok)⟩
          · have HQ : Hid (∀ j, j < i + 1 → Q j = true) := ATi.out (by rw [AQi.out, decide_eq_false hle]; simp)
            have hle2 : decide (fi ≤ fp) = false := by simpa using hle
            go_wp2_with fail
            refine wp_region_later (by kernel_rfl) (by kernel_rfl) ?_
            repeat (go_big_quiet_step ((first | (go_at_call 38; (with_reducible refine Later.call _ (CO.out _))) | (go_at_call 32; (with_reducible refine Later.call _ (BTi.out _))))))
            refine wpQuiet_nil ?_
            intro y
            go_wp2_with fail
            first
              | (go_roundw
                 case rel => exact ⟨i + 1, by go_num, by omega, HQ.out, HBX.out _ y.ok⟩
                 case measure => simp [intOf]; omega)
              | (refine ⟨⟨i + 1, by go_num, by omega, HQ.out, HBX.out _ y.ok⟩, ?_⟩; simp [intOf]; omega)
      · obtain rfl : i = n := by omega
        have HQ := Lib.hid (AT.out HALL.out)
        go_wp2
        go_ret
        exact ⟨ret_bool HQ.out.symm, later_of (below_more HBZ.out x.ok)⟩
  · have hd : decide ((n : Int) > 100) = true := by simp; omega
    have hd' : decide ((100 : Int) < (n : Int)) = true := by simp; omega
    have HD : Hid (res = false) := by show _ = _; rw [HE.out, decide_eq_false hn]; rfl
    go_enter Try.func19, Try.ntmps19
    go_wp2_with (first | (go_at_call 32; with_reducible refine Calls.mono (Gives.calls (B1.out _)) ?_; rintro e w1 ⟨rfl, z1, rfl⟩) | (go_at_call 32; with_reducible refine Calls.mono (Gives.calls (B2.out _)) ?_; rintro e w1 ⟨rfl, z2, rfl⟩) | ((go_at_call 32; with_reducible refine Calls.mono (Gives.calls (B3.out _)) ?_; rintro e w1 ⟨rfl, z3, rfl⟩); obtain ⟨⟨x0, x1, x2, x3⟩, lx⟩ := coat_at (w := w) (V := z3.val) (s := (S : Int)) (g := (G : Int)) (r := r) (A := A) (n := n) (c := cap) (by repeat (first | exact Below.refl _ _ | (with_reducible assumption) | apply below_later | apply below_alloc | apply below_drew | apply below_drewN))))
    go_ret
    exact ⟨ret_bool HD.out.symm, later_of (by repeat (first | exact Below.refl _ _ | (with_reducible assumption) | apply below_later | apply below_alloc | apply below_drew | apply below_drewN))⟩
/-- A coat as described, in whole numbers. -/
structure Ct (S G R n : Nat) (f : Nat → Nat) : Prop where
  hs : 1 ≤ S ∧ S ≤ 5000
  hg : 1 ≤ G ∧ G ≤ 100
  hr : 1 ≤ R ∧ R ≤ 200
  hn : n ≤ 100
  mis : Miss (upN S G) n f
theorem okCoat_nat {s g r : Int} {n : Nat} {f : Nat → Int} (h : okCoat s g r n f = true) : ∃ (S G R : Nat) (k : Nat → Nat), s = S ∧ g = G ∧ r = R ∧ (∀ i, i < n → f i = (k i : Nat)) ∧ Ct S G R n k := by
  simp only [okCoat, Bool.and_eq_true, decide_eq_true_eq, inI_iff] at h
  obtain ⟨⟨⟨⟨s0, s1⟩, g0, g1⟩, r0, r1⟩, hn, ha⟩ := h
  have hA := allB_iff.1 ha
  have hi : ∀ i, i < n → 0 ≤ f i ∧ f i < (upN s.toNat g.toNat : Nat) ∧ (0 < i → f (i - 1) < f i) := fun i hi => by
    have h := hA i hi
    simp only [ascQ, Bool.and_eq_true, inI_iff, Bool.not_eq_true', Bool.and_eq_false_iff, decide_eq_false_iff_not] at h
    omega
  refine ⟨s.toNat, g.toNat, r.toNat, fun i => (f i).toNat, by omega, by omega, by omega, fun i h => by have := (hi i h).1; show f i = (((f i).toNat : Nat) : Int); omega, ⟨by omega, by omega, by omega, hn, fun i h => by have := hi i h; show (f i).toNat < _; omega, fun i h => ?_⟩⟩
  have h1 := hi (i + 1) h
  have h2 := hi i (by omega)
  have h3 := h1.2.2 (by omega)
  rw [Nat.add_sub_cancel] at h3
  show (f i).toNat < (f (i + 1)).toNat
  omega
set_option maxRecDepth 100000 in
set_option maxHeartbeats 3200000 in
theorem layersAt_any (S G R n cap i : Nat) (A : Option Addr) (f : Nat → Nat) (w : World) (C : Ct S G R n f) (hi : i < S) (hp : IsInts w A n fun j => ((f j : Nat) : Int)) :
    Gives Try.prog 40 #[coatV S G R A n cap, .int .i64 i] w (.int .i64 (layN G R n f i (upN S G) : Nat)) := by
  have hS := C.hs
  have hG := C.hg
  have hR := C.hr
  have hn := C.hn
  have hlc := layers_count hG.1 hR.1 hi C.mis
  have hql : i / G ≤ i := Nat.div_le_self _ _
  have hqr : (i - R) / G ≤ i - R := Nat.div_le_self _ _
  have hfl := first_le (G := G) (R := R) (i := i) hG.1 hR.1
  have hF1 : Hid (R ≤ i → firstN G R i = (i - R) / G + 1) := fun h => if_pos h
  have hF2 : Hid (¬ R ≤ i → firstN G R i = 0) := fun h => if_neg h
  have BT := Lib.hid fun (x : Nat) (V : World) => between_any (firstN G R i : Nat) (f x : Nat) (i / G : Nat) V
  have BQ : Hid (∀ x, inI (firstN G R i : Nat) (f x : Nat) (i / G : Nat) = (decide (firstN G R i ≤ f x) && decide (f x ≤ i / G))) := fun x => by
    unfold inI
    congr 1
    · exact decide_eq_decide.2 (by omega)
    · exact decide_eq_decide.2 (by omega)
  have CS := Lib.hid fun k => cntN_succ (fun q => decide (firstN G R i ≤ f q) && decide (f q ≤ i / G)) k
  have CM := Lib.hid fun k (hk : k ≤ n) => cntN_mono (fun q => decide (firstN G R i ≤ f q) && decide (f q ≤ i / G)) hk
  have C0 : Hid (cntN (fun q => decide (firstN G R i ≤ f q) && decide (f q ≤ i / G)) 0 = 0) := rfl
  generalize layN G R n f i (upN S G) = res at *
  generalize cntN (fun q => decide (firstN G R i ≤ f q) && decide (f q ≤ i / G)) = cn at *
  have d1 : (i : Int) / (G : Int) = ((i / G : Nat) : Int) := (Int.natCast_ediv i G).symm
  have w1 : IntKind.i64.wrap ((i : Int) / (G : Int)) = ((i / G : Nat) : Int) := by rw [d1]; exact i64_nat (by omega)
  have w1' : IntKind.i64.wrap ((i : Int).tdiv (G : Int)) = ((i / G : Nat) : Int) := by rw [Int.tdiv_eq_ediv_of_nonneg (by omega)]; exact w1
  have g0 : (G : Int) ≠ 0 := by omega
  have HP := Lib.hid hp
  have hbx : Below w.heap.size w (w.alloc (.cells #[.int .i64 S, .int .i64 G, .int .i64 R, .slice A n cap] 46)) := (Below.refl _ _).alloc (Nat.le_refl _) _
  have HB := Lib.hid hbx
  obtain ⟨⟨x0, x1, x2, x3⟩, lx⟩ := coat_at (w := w) (s := (S : Int)) (g := (G : Int)) (r := (R : Int)) (A := A) (n := n) (c := cap) (Below.refl _ _)
  clear hp hbx C
  unfold coatV
  have fin : ∀ (Z : World) (b8 : Nat) (K : Exit → Act → World → Prop), True := fun _ _ _ => trivial
  have HLC := Lib.hid hlc
  have HFL := Lib.hid hfl
  clear hlc hfl fin d1
  generalize hfn : firstN G R i = fn at *
  have HFN := Lib.hid hfn
  clear hfn
  generalize hdv : i / G = dv at *
  have HDV := Lib.hid hdv
  clear hdv
  by_cases hri : R ≤ i
  · have hE := Lib.hid (hF1.out hri)
    have e1 : (i : Int) - (R : Int) = ((i - R : Nat) : Int) := by omega
    have w2 : IntKind.i64.wrap ((i : Int) - (R : Int)) = ((i - R : Nat) : Int) := by rw [e1]; exact i64_nat (by omega)
    have w3 : IntKind.i64.wrap (((i - R : Nat) : Int) / (G : Int)) = (((i - R) / G : Nat) : Int) := by rw [← Int.natCast_ediv]; exact i64_nat (by omega)
    have w3' : IntKind.i64.wrap ((((i - R : Nat) : Int)).tdiv (G : Int)) = (((i - R) / G : Nat) : Int) := by rw [Int.tdiv_eq_ediv_of_nonneg (by omega)]; exact w3
    have w4 : IntKind.i64.wrap ((((i - R) / G : Nat) : Int) + 1) = (fn : Int) := by rw [show ((((i - R) / G : Nat) : Int) + 1) = (fn : Int) by have := hE.out; omega]; exact i64_nat (by have := HFL.out; omega)
    have w5 : IntKind.i64.wrap ((dv : Int) - (fn : Int)) = (dv : Int) - (fn : Int) := IntWalk.i64_in _ ⟨by have := HFL.out; omega, by omega⟩
    have w6 : IntKind.i64.wrap ((dv : Int) - (fn : Int) + 1) = ((dv + 1 - fn : Nat) : Int) := by rw [show ((dv : Int) - (fn : Int) + 1) = ((dv + 1 - fn : Nat) : Int) by have := HFL.out; omega]; exact i64_nat (by omega)
    have e6 : decide ((i : Int) ≥ (R : Int)) = true := by simp; omega
    have e7 : decide ((R : Int) ≤ (i : Int)) = true := by simp; omega
    clear e1 hqr
    generalize (i - R) / G = iq at *
    generalize i - R = ir at *
    have HTT : Hid (∃ T : Nat, dv + 1 - fn = T) := ⟨_, rfl⟩
    obtain ⟨T, hT⟩ := HTT.out
    rw [hT] at w6
    have HT := Lib.hid hT
    clear hT HTT
    go_enter Try.func40, Try.ntmps40
    go_wp2_with fail
    obtain ⟨b8, hb8⟩ : ∃ b8, w.heap.size = b8 := ⟨_, rfl⟩
    have HB8 := Lib.hid hb8
    rw [hb8] at x0 x1 x2 x3 lx ⊢
    clear hb8
    generalize w.alloc (.cells #[.int .i64 S, .int .i64 G, .int .i64 R, .slice A n cap] 46) = Z at *
    refine wp_region_later (by kernel_rfl) (by kernel_rfl) ?_
    repeat (go_big_quiet_step ((fail)))
    refine wpQuiet_nil ?_
    intro z
    have y0 := (z.cell _ _ lx).trans x0
    have y1 := (z.cell _ _ lx).trans x1
    have y2 := (z.cell _ _ lx).trans x2
    have y3 := (z.cell _ _ lx).trans x3
    have ly := z.lt _ lx
    have HZ : Hid (Below w.heap.size w z.val) := below_more HB.out z.ok
    clear HB x0 x1 x2 x3 lx
    generalize z.val = Y at *
    go_wp2_with fail
    go_loopw [7, 33] (fun u v wr => ∃ k : Nat, u = .int .i64 ((T - cn k : Nat) : Nat) ∧ v = .int .i64 (k : Nat) ∧ k ≤ n ∧ ∃ x : Later Y, wr = x.val) (fun _ v _ => n - (intOf v).toNat)
    case atStart => exact ⟨0, by rw [C0.out]; rfl, rfl, by omega, later_of (by repeat (first | exact Below.refl _ _ | (with_reducible assumption) | apply below_later | apply below_alloc | apply below_drew | apply below_drewN))⟩
    case round =>
      obtain ⟨k, rfl, rfl, hk, x, rfl⟩ := hrel
      by_cases hlt : k < n
      · obtain ⟨bb, oo, hB, q⟩ := (HP.out.below (below_more HZ.out x.ok)).at_ (by omega)
        subst hB
        have cj := q.at_ k hlt
        have lq := q.lt
        have BTk := Lib.hid fun V => BT.out k V
        rw [BQ.out] at BTk
        have HC := Lib.hid (CS.out k)
        have m1 := CM.out k (by omega)
        have m2 := CM.out (k + 1) (by omega)
        have m3 := HLC.out
        have m4 := HT.out
        clear q
        have hTn : T ≤ 5001 := by omega
        generalize hqq : (decide (fn ≤ f k) && decide (f k ≤ dv)) = qq at *
        clear hqq
        generalize f k = fk at *
        cases qq
        · have HN : Hid (cn (k + 1) = cn k) := HC.out
          go_wp2_with (go_at_call 37; with_reducible refine Calls.mono (Gives.calls (BTk.out _)) ?_; rintro e w1 ⟨rfl, z2, rfl⟩)
          go_roundw
          case rel => exact ⟨k + 1, by rw [HN.out], by go_num, by omega, later_of (by repeat (first | exact Below.refl _ _ | (with_reducible assumption) | apply below_later | apply below_alloc | apply below_drew | apply below_drewN))⟩
          case measure => simp [intOf]; omega
        · have HN : Hid (cn (k + 1) = cn k + 1) := HC.out
          have h9 := HN.out
          have w7 : IntKind.i64.wrap (((T - cn k : Nat) : Int) - 1) = ((T - cn (k + 1) : Nat) : Int) := by rw [show (((T - cn k : Nat) : Int) - 1) = ((T - cn (k + 1) : Nat) : Int) by omega]; exact i64_nat (by omega)
          clear h9 m1 m2 m3
          obtain ⟨t2, ht2⟩ : ∃ t2, T - cn (k + 1) = t2 := ⟨_, rfl⟩
          rw [ht2] at w7
          have HT2 := Lib.hid ht2
          clear ht2
          generalize T - cn k = t1 at *
          go_wp2_with (go_at_call 37; with_reducible refine Calls.mono (Gives.calls (BTk.out _)) ?_; rintro e w1 ⟨rfl, z2, rfl⟩)
          all_goals
            first
              | (refine ⟨⟨k + 1, by rw [HT2.out], by go_num, by omega, later_of (by repeat (first | exact Below.refl _ _ | (with_reducible assumption) | apply below_later | apply below_alloc | apply below_drew | apply below_drewN))⟩, ?_⟩; simp [intOf]; omega)
              | (go_roundw
                 case rel => exact ⟨k + 1, by rw [HT2.out], by go_num, by omega, later_of (by repeat (first | exact Below.refl _ _ | (with_reducible assumption) | apply below_later | apply below_alloc | apply below_drew | apply below_drewN))⟩
                 case measure => simp [intOf]; omega)
      · obtain rfl : k = n := by omega
        have HR : Hid (T - cn k = res) := by show _ = _; have := HLC.out; have := HT.out; omega
        go_wp2
        go_ret
        exact ⟨ret_int (by rw [HR.out]), later_of (below_more HZ.out x.ok)⟩
  · have hE := Lib.hid (hF2.out hri)
    obtain rfl : fn = 0 := hE.out
    have w5 : IntKind.i64.wrap (dv : Int) = (dv : Int) := i64_nat (by omega)
    have w6 : IntKind.i64.wrap ((dv : Int) + 1) = ((dv + 1 - 0 : Nat) : Int) := by rw [show ((dv : Int) + 1) = ((dv + 1 - 0 : Nat) : Int) by omega]; exact i64_nat (by omega)
    have e6 : decide ((i : Int) ≥ (R : Int)) = false := by simp; omega
    have e7 : decide ((R : Int) ≤ (i : Int)) = false := by simp; omega
    have HTT : Hid (∃ T : Nat, dv + 1 - 0 = T) := ⟨_, rfl⟩
    obtain ⟨T, hT⟩ := HTT.out
    rw [hT] at w6
    have HT := Lib.hid hT
    clear hT HTT
    go_enter Try.func40, Try.ntmps40
    go_wp2_with fail
    obtain ⟨b8, hb8⟩ : ∃ b8, w.heap.size = b8 := ⟨_, rfl⟩
    have HB8 := Lib.hid hb8
    rw [hb8] at x0 x1 x2 x3 lx ⊢
    clear hb8
    generalize w.alloc (.cells #[.int .i64 S, .int .i64 G, .int .i64 R, .slice A n cap] 46) = Z at *
    refine wp_region_later (by kernel_rfl) (by kernel_rfl) ?_
    repeat (go_big_quiet_step ((fail)))
    refine wpQuiet_nil ?_
    intro z
    have y0 := (z.cell _ _ lx).trans x0
    have y1 := (z.cell _ _ lx).trans x1
    have y2 := (z.cell _ _ lx).trans x2
    have y3 := (z.cell _ _ lx).trans x3
    have ly := z.lt _ lx
    have HZ : Hid (Below w.heap.size w z.val) := below_more HB.out z.ok
    clear HB x0 x1 x2 x3 lx
    generalize z.val = Y at *
    go_wp2_with fail
    go_loopw [7, 33] (fun u v wr => ∃ k : Nat, u = .int .i64 ((T - cn k : Nat) : Nat) ∧ v = .int .i64 (k : Nat) ∧ k ≤ n ∧ ∃ x : Later Y, wr = x.val) (fun _ v _ => n - (intOf v).toNat)
    case atStart => exact ⟨0, by rw [C0.out]; rfl, rfl, by omega, later_of (by repeat (first | exact Below.refl _ _ | (with_reducible assumption) | apply below_later | apply below_alloc | apply below_drew | apply below_drewN))⟩
    case round =>
      obtain ⟨k, rfl, rfl, hk, x, rfl⟩ := hrel
      by_cases hlt : k < n
      · obtain ⟨bb, oo, hB, q⟩ := (HP.out.below (below_more HZ.out x.ok)).at_ (by omega)
        subst hB
        have cj := q.at_ k hlt
        have lq := q.lt
        have BTk := Lib.hid fun V => BT.out k V
        rw [BQ.out] at BTk
        have HC := Lib.hid (CS.out k)
        have m1 := CM.out k (by omega)
        have m2 := CM.out (k + 1) (by omega)
        have m3 := HLC.out
        have m4 := HT.out
        clear q
        have hTn : T ≤ 5001 := by omega
        generalize hqq : (decide (0 ≤ f k) && decide (f k ≤ dv)) = qq at *
        clear hqq
        generalize f k = fk at *
        cases qq
        · have HN : Hid (cn (k + 1) = cn k) := HC.out
          go_wp2_with (go_at_call 37; with_reducible refine Calls.mono (Gives.calls (BTk.out _)) ?_; rintro e w1 ⟨rfl, z2, rfl⟩)
          go_roundw
          case rel => exact ⟨k + 1, by rw [HN.out], by go_num, by omega, later_of (by repeat (first | exact Below.refl _ _ | (with_reducible assumption) | apply below_later | apply below_alloc | apply below_drew | apply below_drewN))⟩
          case measure => simp [intOf]; omega
        · have HN : Hid (cn (k + 1) = cn k + 1) := HC.out
          have h9 := HN.out
          have w7 : IntKind.i64.wrap (((T - cn k : Nat) : Int) - 1) = ((T - cn (k + 1) : Nat) : Int) := by rw [show (((T - cn k : Nat) : Int) - 1) = ((T - cn (k + 1) : Nat) : Int) by omega]; exact i64_nat (by omega)
          clear h9 m1 m2 m3
          obtain ⟨t2, ht2⟩ : ∃ t2, T - cn (k + 1) = t2 := ⟨_, rfl⟩
          rw [ht2] at w7
          have HT2 := Lib.hid ht2
          clear ht2
          generalize T - cn k = t1 at *
          go_wp2_with (go_at_call 37; with_reducible refine Calls.mono (Gives.calls (BTk.out _)) ?_; rintro e w1 ⟨rfl, z2, rfl⟩)
          all_goals
            first
              | (refine ⟨⟨k + 1, by rw [HT2.out], by go_num, by omega, later_of (by repeat (first | exact Below.refl _ _ | (with_reducible assumption) | apply below_later | apply below_alloc | apply below_drew | apply below_drewN))⟩, ?_⟩; simp [intOf]; omega)
              | (go_roundw
                 case rel => exact ⟨k + 1, by rw [HT2.out], by go_num, by omega, later_of (by repeat (first | exact Below.refl _ _ | (with_reducible assumption) | apply below_later | apply below_alloc | apply below_drew | apply below_drewN))⟩
                 case measure => simp [intOf]; omega)
      · obtain rfl : k = n := by omega
        have HR : Hid (T - cn k = res) := by show _ = _; have := HLC.out; have := HT.out; omega
        go_wp2
        go_ret
        exact ⟨ret_int (by rw [HR.out]), later_of (below_more HZ.out x.ok)⟩
end Go.Proofs.Ytcjahpbbkdkbpaa
