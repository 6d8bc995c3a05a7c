/- The theorem of thatch: walked. -/
import Derived.Test.YtcjahpbbkdkbpaaTEven
import Derived.Test.YtcjahpbbkdkbpaaTLaid
import Derived.Test.YtcjahpbbkdkbpaaTCoatLaw
namespace Go.Proofs.Ytcjahpbbkdkbpaa
open Go.RowKit

set_option maxRecDepth 100000 in
set_option maxHeartbeats 12800000 in
theorem even_law (s g q : Int) (A : Option Addr) (n cap : Nat) (f : Nat → Int) (t : Int) (B : Option Addr) (m cb : Nat) (jf : Nat → Int) (u : Nat) (w : World) (hu : u ≤ 255) (hnm : n ≤ 9223372036854775807) (hp : IsInts w A n f) (hm : m ≤ 9223372036854775807) (hq : IsInts w B m jf) :
    Gives Try.prog 5 #[coatV s g q A n cap, .int .i64 t, .agg #[.slice B m cb, .int .u8 u]] w (.bool true) := by
  have AW := Lib.hid awake_law
  have VC := Lib.hid fun (V : World) (hb : Below w.heap.size w V) => rValidCoat_any s g q A n cap f V fun _ => hp.below hb
  have RJ := Lib.hid fun (V : World) (hb : Below w.heap.size w V) => rJob_any m cb B jf V hm (hq.below hb)
  have HZ0 : Hid (Below w.heap.size w ((w.alloc (.cells #[.int .i64 s, .int .i64 g, .int .i64 q, .slice A n cap] 46)).alloc (.cells #[.slice B m cb, .int .u8 u] 48))) := below_alloc (below_alloc (Below.refl _ _))
  have HX0 : Hid (∀ V, Below ((w.alloc (.cells #[.int .i64 s, .int .i64 g, .int .i64 q, .slice A n cap] 46)).alloc (.cells #[.slice B m cb, .int .u8 u] 48)).heap.size ((w.alloc (.cells #[.int .i64 s, .int .i64 g, .int .i64 q, .slice A n cap] 46)).alloc (.cells #[.slice B m cb, .int .u8 u] 48)) V →
      (V.cell? ⟨w.heap.size, 0, none⟩ = some (.int .i64 s) ∧ V.cell? ⟨w.heap.size, 1, none⟩ = some (.int .i64 g) ∧ V.cell? ⟨w.heap.size, 2, none⟩ = some (.int .i64 q) ∧ V.cell? ⟨w.heap.size, 3, none⟩ = some (.slice A n cap) ∧ V.cell? ⟨w.heap.size + 1, 0, none⟩ = some (.slice B m cb) ∧ V.cell? ⟨w.heap.size + 1, 1, none⟩ = some (.int .u8 u)) ∧ w.heap.size < V.heap.size ∧ w.heap.size + 1 < V.heap.size) := fun V hb => by
    have h1 : Below (w.alloc (.cells #[.int .i64 s, .int .i64 g, .int .i64 q, .slice A n cap] 46)).heap.size (w.alloc (.cells #[.int .i64 s, .int .i64 g, .int .i64 q, .slice A n cap] 46)) V := below_more (below_alloc (Below.refl _ _)) hb
    obtain ⟨⟨c0, c1, c2, c3⟩, cl⟩ := coat_at h1
    have e : (w.alloc (.cells #[.int .i64 s, .int .i64 g, .int .i64 q, .slice A n cap] 46)).heap.size = w.heap.size + 1 := by simp
    have d0 := box_at hb 0 _ rfl
    have d1 := box_at hb 1 _ rfl
    have d2 := get_lt (res_cell hb)
    rw [e] at d0 d1 d2
    exact ⟨⟨c0, c1, c2, c3, d0, d1⟩, cl, d2⟩
  have hcase : (okCoat s g q n f = true ∧ s ≤ 500 ∧ 0 ≤ t ∧ t ≤ 1000 ∧ okJob m jf = true) ∨ ¬ (okCoat s g q n f = true ∧ s ≤ 500 ∧ 0 ≤ t ∧ t ≤ 1000 ∧ okJob m jf = true) := Classical.em _
  unfold coatV at VC ⊢
  rcases hcase with hgood | hbad
  case inr =>
    obtain ⟨okc, hokc⟩ : ∃ b, okCoat s g q n f = b := ⟨_, rfl⟩
    obtain ⟨okj, hokj⟩ : ∃ b, okJob m jf = b := ⟨_, rfl⟩
    rw [hokc] at VC hbad
    rw [hokj] at RJ hbad
    clear hp hq hokc hokj
    have hs : okc = false ∨ (okc = true ∧ (500 < s ∨ (s ≤ 500 ∧ (t < 0 ∨ (0 ≤ t ∧ (1000 < t ∨ (t ≤ 1000 ∧ okj = false))))))) := by
      cases okc
      · exact .inl rfl
      · refine .inr ⟨rfl, ?_⟩
        by_cases a1 : 500 < s
        · exact .inl a1
        by_cases a2 : t < 0
        · exact .inr ⟨by omega, .inl a2⟩
        by_cases a3 : 1000 < t
        · exact .inr ⟨by omega, .inr ⟨by omega, .inl a3⟩⟩
        · refine .inr ⟨by omega, .inr ⟨by omega, .inr ⟨by omega, ?_⟩⟩⟩
          cases okj
          · rfl
          · exact absurd ⟨rfl, by omega, by omega, by omega, rfl⟩ hbad
    clear hbad
    rcases hs with rfl | ⟨rfl, a1 | ⟨a1, a2 | ⟨a2, a3 | ⟨a3, rfl⟩⟩⟩⟩
    all_goals
      try have b1 : decide (s > 500) = true := by (simp; omega)
      try have b1 : decide (s > 500) = false := by (simp; omega)
      try have b1' : decide (500 < s) = true := by (simp; omega)
      try have b1' : decide (500 < s) = false := by (simp; omega)
      try have b2 : decide (t < 0) = true := by (simp; omega)
      try have b2 : decide (t < 0) = false := by (simp; omega)
      try have b3 : decide (t > 1000) = true := by (simp; omega)
      try have b3 : decide (t > 1000) = false := by (simp; omega)
      try have b3' : decide (1000 < t) = true := by (simp; omega)
      try have b3' : decide (1000 < t) = false := by (simp; omega)
      go_enter Try.func5, Try.ntmps5
      go_upto_region 1 with fail
      generalize (w.alloc (.cells #[.int .i64 s, .int .i64 g, .int .i64 q, .slice A n cap] 46)).alloc (.cells #[.slice B m cb, .int .u8 u] 48) = Z at *
      have HX := HX0
      obtain ⟨⟨x0, x1, x2, x3, x4, x5⟩, lx, ly⟩ := HX.out Z (Below.refl _ _)
      go_wp2_with (first
        | ((go_at_call 19; with_reducible refine Calls.mono (Gives.calls (VC.out _ (below_more HZ0.out (by repeat (first | exact Below.refl _ _ | (with_reducible assumption) | apply below_later | apply below_alloc | apply below_drew | apply below_drewN))))) ?_; rintro e w1 ⟨rfl, z1, rfl⟩); obtain ⟨⟨x0, x1, x2, x3, x4, x5⟩, lx, ly⟩ := HX.out _ (show Below Z.heap.size Z z1.val by repeat (first | exact Below.refl _ _ | (with_reducible assumption) | apply below_later | apply below_alloc | apply below_drew | apply below_drewN)))
        | ((go_at_call 20; with_reducible refine Calls.mono (Gives.calls (RJ.out _ (below_more HZ0.out (by repeat (first | exact Below.refl _ _ | (with_reducible assumption) | apply below_later | apply below_alloc | apply below_drew | apply below_drewN))))) ?_; rintro e w1 ⟨rfl, z2, rfl⟩); obtain ⟨⟨x0, x1, x2, x3, x4, x5⟩, lx, ly⟩ := HX.out _ (show Below Z.heap.size Z z2.val by repeat (first | exact Below.refl _ _ | (with_reducible assumption) | apply below_later | apply below_alloc | apply below_drew | apply below_drewN)))
        | (go_at_call 18; with_reducible refine Calls.mono (Gives.calls (AW.out _)) ?_; rintro e w1 ⟨rfl, z3, rfl⟩))
      go_ret
      exact ⟨rfl, later_of (below_more HZ0.out (by repeat (first | exact Below.refl _ _ | (with_reducible assumption) | apply below_later | apply below_alloc | apply below_drew | apply below_drewN)))⟩
  case inl =>
    obtain ⟨hv, hs5, ht0, ht1, hjb⟩ := hgood
    rw [hv] at VC
    rw [hjb] at RJ
    obtain ⟨S, G, R, k, rfl, rfl, rfl, hk, C⟩ := okCoat_nat hv
    have hv2 : okCoat S G R n (fun j => ((k j : Nat) : Int)) = true := by rw [← okCoat_congr hk]; exact hv
    obtain ⟨tn, rfl⟩ : ∃ tn : Nat, t = tn := ⟨t.toNat, by omega⟩
    obtain ⟨gj, hg, hgb⟩ := okJob_nat hjb
    obtain ⟨⟨n1, n10⟩, _⟩ := okJob_iff.1 hjb
    have hpk : IsInts w A n fun i => ((k i : Nat) : Int) := hp.congr hk
    have hqg : IsInts w B m fun i => ((gj i : Nat) : Int) := hq.congr hg
    obtain ⟨hd, hhd⟩ : ∃ hd : Nat, 1 + u % 10 = hd := ⟨_, rfl⟩
    have hh1 : 1 ≤ hd := by omega
    have hh10 : hd ≤ 10 := by omega
    have ew : (1 : Int) + (u : Int) % 10 = (hd : Int) := by omega
    have ew2 : IntKind.i64.wrap ((1 : Int) + (u : Int) % 10) = (hd : Int) := by rw [ew]; exact i64_nat (by omega)
    have hjg : okJob m (fun i => ((gj i : Nat) : Int)) = true := okJob_iff.2 ⟨⟨n1, n10⟩, fun i _ => by have := hgb i; show (0 : Int) ≤ (gj i : Int) ∧ (gj i : Int) ≤ 100; omega⟩
    have he : jobE m (fun i => ((gj i : Nat) : Int)) hd = 0 := by
      unfold jobE
      rw [if_neg (by rw [hjg]; simp), if_neg]
      have : inI 1 (hd : Int) 10 = true := inI_iff.2 ⟨by omega, by omega⟩
      rw [this]; simp
    have hH2 : hoursN gj m hd ≤ 1100 := by
      unfold hoursN
      have a1 := topF_le (g := gj) (b := 100) (k := m) fun i _ => hgb i
      have a2 := addN_le (g := gj) (b := 100) (k := m) fun i _ => hgb i
      have a3 : upN (addN gj m) hd ≤ 1100 := (upN_le_iff (by omega)).2 (by have b1 : m * 100 ≤ 1000 := (by omega); have b2 : 1100 * 1 ≤ 1100 * hd := Nat.mul_le_mul_left _ (by omega); omega)
      omega
    have TH := Lib.hid fun (V : World) (hb : Below w.heap.size w V) => Thin_ok S G R n cap tn A k V C (by omega) (hpk.below hb) hv2
    have CO := Lib.hid fun (V : World) (hb : Below w.heap.size w V) => Courses_ok S G R n cap A k V C (hpk.below hb) hv2
    have LY := Lib.hid fun (i : Nat) (hi : i < S) (V : World) (hb : Below w.heap.size w V) => Layers_ok S G R n cap i A k V C hi (hpk.below hb) hv2
    have HA := Lib.hid fun (x : Nat) (V : World) (hb : Below w.heap.size w V) => Has_any A n cap x k V (hpk.below hb)
    have HW := Lib.hid fun (V : World) (hb : Below w.heap.size w V) => Hours_ok m cb hd B gj V (hqg.below hb) he
    have WK := Lib.hid fun (V : World) (hb : Below w.heap.size w V) => Work_ok m cb hd B gj V (hqg.below hb) he
    have LD0 : Hid (∀ (V : World) (base : Nat) (v : Value) (rows : List (List Int)), OwnL V base v rows → rows.length = hoursN gj m hd → (∀ r ∈ rows, HourRow m hd r) → (∀ c, c < m → occN rows c = gj c) → ∃ A5 c5, v = .slice A5 rows.length c5 ∧ ∀ V2, Below V.heap.size V V2 → Below w.heap.size w V2 → Gives Try.prog 27 #[.slice B m cb, .int .i64 hd, .slice A5 rows.length c5] V2 (.bool true)) := fun V base v rows ho e1 e2 e3 => by
      obtain ⟨A5, c5, R5, rfl, ht, e4⟩ := ho.tab (by omega) fun i hi => by
        have h6 := e2 _ (show rows.getD i [] ∈ rows by rw [List.getD_eq_getElem?_getD, List.getElem?_eq_getElem hi]; exact List.getElem_mem hi)
        have h7 := h6.2.1
        omega
      exact ⟨A5, c5, rfl, fun V2 h2 h3 => laid_any m cb hd rows.length c5 B A5 gj R5 V2 n1 n10 hh1 hh10 (fun i _ => hgb i) (hqg.below h3) (ht.below h2) (isW_plan (by omega) e2 e3 e4) e1⟩
    unfold PostW at WK
    unfold PostQE at TH
    unfold coatV at TH CO LY
    have TI := Lib.hid (thinN_ok (fun i => layN G R n k i (upN S G)) tn S)
    have LS := Lib.hid fun i q => layN_succ G R n k i q
    have L0 : Hid (∀ i, layN G R n k i 0 = 0) := fun _ => rfl
    have LB : Hid (∀ i q, liesB G R n k i q = ((decide (q * G ≤ i) && decide (i < q * G + R)) && !hasN k q n)) := fun _ _ => rfl
    have LLE : Hid (∀ i q, layN G R n k i q ≤ q) := fun i q => cntN_le _ _
    have hS := C.hs
    have hG := C.hg
    have hR := C.hr
    have hN1 : S ≤ upN S G * G := (upN_le_iff (by omega)).1 (Nat.le_refl _)
    have hN0 : 0 < upN S G := (lt_upN_iff (by omega)).2 (by omega)
    have hN2 : (upN S G - 1) * G < S := (lt_upN_iff (by omega)).1 (by omega)
    have hN3 : upN S G ≤ S := (upN_le_iff (by omega)).2 (Nat.le_mul_of_pos_right _ (by omega))
    generalize upN S G = N at *
    have hNG : N * G ≤ 50000 := Nat.le_trans (Nat.mul_le_mul (show _ ≤ 500 by omega) (show _ ≤ 100 by omega)) (by decide)
    have e1 := wrap_mul_nat hNG (by omega)
    have e2 : IntKind.i64.wrap ((N : Int) - 1) = ((N - 1 : Nat) : Int) := by rw [show (N : Int) - 1 = ((N - 1 : Nat) : Int) by omega]; exact i64_nat (by omega)
    have hNG1 : (N - 1) * G ≤ 50000 := Nat.le_trans (Nat.mul_le_mul (show _ ≤ 500 by omega) (show _ ≤ 100 by omega)) (by decide)
    have e3 := wrap_mul_nat hNG1 (by omega)
    have g1 : decide (((N * G : Nat) : Int) < (S : Int)) = false := by simp only [decide_eq_false_iff_not]; omega
    have g2 : decide ((((N - 1) * G : Nat) : Int) ≥ (S : Int)) = false := by simp only [decide_eq_false_iff_not]; omega
    have g2' : decide ((S : Int) ≤ (((N - 1) * G : Nat) : Int)) = false := by simp only [decide_eq_false_iff_not]; omega
    have g1n : decide (N * G < S) = false := by simp only [decide_eq_false_iff_not]; omega
    have g2n : decide (S ≤ (N - 1) * G) = false := by simp only [decide_eq_false_iff_not]; omega
    have b1 : decide ((S : Int) > 500) = false := by simp; omega
    have b1' : decide ((500 : Int) < (S : Int)) = false := by simp; omega
    have b2 : decide ((tn : Int) < 0) = false := by simp
    have b3 : decide ((tn : Int) > 1000) = false := by simp; omega
    have b3' : decide ((1000 : Int) < (tn : Int)) = false := by simp; omega
    have hMG : Hid (∀ q, q < N → q * G ≤ 50000) := fun q hq => Nat.le_trans (Nat.mul_le_mul (show _ ≤ 500 by omega) (show _ ≤ 100 by omega)) (by decide)
    generalize hNGe : N * G = NG at *
    generalize hNGe1 : (N - 1) * G = NG1 at *
    obtain ⟨lay, hlay⟩ : ∃ lay : Nat → Nat, (fun i => layN G R n k i N) = lay := ⟨_, rfl⟩
    have HLAY : Hid (∀ i, layN G R n k i N = lay i) := fun i => congrFun hlay i
    rw [hlay] at TI TH
    obtain ⟨T, hT⟩ : ∃ T, thinN lay tn S = T := ⟨_, rfl⟩
    rw [hT] at TI TH
    have HTL := Lib.hid (pairL_length T)
    have HTG := Lib.hid fun i (hi : i < T.length) => pairL_get (l := T) hi
    have hTl := TI.out.len
    clear hlay hp hq hk hv hv2 hg hjb hjg he hpk hqg C hT
    go_enter Try.func5, Try.ntmps5
    go_upto_region 1 with fail
    generalize (w.alloc (.cells #[.int .i64 S, .int .i64 G, .int .i64 R, .slice A n cap] 46)).alloc (.cells #[.slice B m cb, .int .u8 u] 48) = Z at *
    have HX := HX0
    obtain ⟨⟨x0, x1, x2, x3, x4, x5⟩, lx, ly⟩ := HX.out Z (Below.refl _ _)
    go_wp2_with (first
      | ((go_at_call 19; with_reducible refine Calls.mono (Gives.calls (VC.out _ (below_more HZ0.out (by repeat (first | exact Below.refl _ _ | (with_reducible assumption) | apply below_later | apply below_alloc | apply below_drew | apply below_drewN))))) ?_; rintro e w1 ⟨rfl, z1, rfl⟩); obtain ⟨⟨x0, x1, x2, x3, x4, x5⟩, lx, ly⟩ := HX.out _ (show Below Z.heap.size Z z1.val by repeat (first | exact Below.refl _ _ | (with_reducible assumption) | apply below_later | apply below_alloc | apply below_drew | apply below_drewN)))
      | ((go_at_call 20; with_reducible refine Calls.mono (Gives.calls (RJ.out _ (below_more HZ0.out (by repeat (first | exact Below.refl _ _ | (with_reducible assumption) | apply below_later | apply below_alloc | apply below_drew | apply below_drewN))))) ?_; rintro e w1 ⟨rfl, z2, rfl⟩); obtain ⟨⟨x0, x1, x2, x3, x4, x5⟩, lx, ly⟩ := HX.out _ (show Below Z.heap.size Z z2.val by repeat (first | exact Below.refl _ _ | (with_reducible assumption) | apply below_later | apply below_alloc | apply below_drew | apply below_drewN)))
      | ((go_at_call 22; with_reducible refine Calls.mono (Gives.calls (CO.out _ (below_more HZ0.out (by repeat (first | exact Below.refl _ _ | (with_reducible assumption) | apply below_later | apply below_alloc | apply below_drew | apply below_drewN))))) ?_; rintro e w1 ⟨rfl, z3, rfl⟩); obtain ⟨⟨x0, x1, x2, x3, x4, x5⟩, lx, ly⟩ := HX.out _ (show Below Z.heap.size Z z3.val by repeat (first | exact Below.refl _ _ | (with_reducible assumption) | apply below_later | apply below_alloc | apply below_drew | apply below_drewN)))
      | (go_at_call 21; with_reducible refine Calls.mono (TH.out _ (below_more HZ0.out (by repeat (first | exact Below.refl _ _ | (with_reducible assumption) | apply below_later | apply below_alloc | apply below_drew | apply below_drewN)))) ?_; rintro e w1 ⟨v, rfl, z7, rfl, ho7⟩; obtain ⟨A7, c7, rfl⟩ := ho7.shape_n HTL.out; have IP := Lib.hid (ho7.pairs HTL.out (by omega)); clear ho7; obtain ⟨⟨x0, x1, x2, x3, x4, x5⟩, lx, ly⟩ := HX.out _ (show Below Z.heap.size Z z7.val by repeat (first | exact Below.refl _ _ | (with_reducible assumption) | apply below_later | apply below_alloc | apply below_drew | apply below_drewN))))
    have HZZ : Hid (Below Z.heap.size Z z3.val) := by show Below _ _ _; repeat (first | exact Below.refl _ _ | (with_reducible assumption) | apply below_later | apply below_alloc | apply below_drew | apply below_drewN)
    have IPZ := Lib.hid (IP.out.below z3.ok)
    clear IP x0 x1 x2 x3 x4 x5 lx ly TH CO VC RJ HX0
    generalize z3.val = ZZ at *
    have HWZ : Hid (∀ V, Below ZZ.heap.size ZZ V → Below w.heap.size w V) := fun V h => below_more (below_more HZ0.out HZZ.out) h
    have TP : Hid (∀ V, Below ZZ.heap.size ZZ V → ∀ p, p < T.length → ∃ b off, A7 = some ⟨b, off, none⟩ ∧ b < V.heap.size ∧ ∀ i, i < T.length → V.cell? ⟨b, off + i * 2, none⟩ = some (.int .i64 ((T.getD i (0, 0)).1 : Nat)) ∧ V.cell? ⟨b, off + i * 2 + 1, none⟩ = some (.int .i64 ((T.getD i (0, 0)).2 : Nat))) := fun V h p hp => by
      obtain ⟨b, off, e, hl, hc⟩ := (IPZ.out.below h).at_ (by omega)
      exact ⟨b, off, e, hl, fun i hi => by
        obtain ⟨c1, c2⟩ := hc i hi
        obtain ⟨d1, d2⟩ := HTG.out i hi
        rw [d1] at c1
        rw [d2] at c2
        exact ⟨c1, c2⟩⟩
    go_loopw [11, 12] (fun a v wr => ∃ p i : Nat, a = .int .i64 (p : Nat) ∧ v = .int .i64 (i : Nat) ∧ i ≤ S ∧ p ≤ T.length ∧ (∀ q, q < p → (T.getD q (0, 0)).2 < i) ∧ ∃ x : Later ZZ, wr = x.val) (fun _ v _ => S - (intOf v).toNat)
    case atStart => exact ⟨0, 0, rfl, rfl, by omega, by omega, fun q hq => by omega, later_of (by repeat (first | exact Below.refl _ _ | (with_reducible assumption) | apply below_later | apply below_alloc | apply below_drew | apply below_drewN))⟩
    case round =>
      obtain ⟨p, i, rfl, rfl, hi, hpT, hb, x, rfl⟩ := hrel
      have HB := Lib.hid hb
      clear hb
      obtain ⟨⟨x0, x1, x2, x3, x4, x5⟩, lx, ly⟩ := HX.out x.val (below_more HZZ.out x.ok)
      by_cases hlt : i < S
      · have LYi := Lib.hid (LY.out i hlt)
        rw [HLAY.out i] at LYi
        have hle : lay i ≤ 500 := by have := LLE.out i N; rw [HLAY.out i] at this; omega
        have gk : ((lay i : Int) != (lay i : Int)) = false := by simp
        go_wp2_with ((go_at_call 23; with_reducible refine Calls.mono (Gives.calls (LYi.out _ (HWZ.out _ (below_more x.ok (by repeat (first | exact Below.refl _ _ | (with_reducible assumption) | apply below_later | apply below_alloc | apply below_drew | apply below_drewN)))))) ?_; rintro e w1 ⟨rfl, z4, rfl⟩); obtain ⟨⟨x0, x1, x2, x3, x4, x5⟩, lx, ly⟩ := HX.out _ (below_more HZZ.out (below_more x.ok (show Below x.val.heap.size x.val z4.val by repeat (first | exact Below.refl _ _ | (with_reducible assumption) | apply below_later | apply below_alloc | apply below_drew | apply below_drewN)))))
        have HV1 : Hid (Below ZZ.heap.size ZZ z4.val) := below_more x.ok (by repeat (first | exact Below.refl _ _ | (with_reducible assumption) | apply below_later | apply below_alloc | apply below_drew | apply below_drewN))
        generalize z4.val = V1 at *
        go_loopw [15, 16] (fun a v wr => ∃ q : Nat, a = .int .i64 (layN G R n k i q : Nat) ∧ v = .int .i64 (q : Nat) ∧ q ≤ N ∧ ∃ y : Later V1, wr = y.val) (fun _ v _ => N - (intOf v).toNat)
        case atStart => exact ⟨0, by rw [L0.out]; rfl, rfl, by omega, later_of (by repeat (first | exact Below.refl _ _ | (with_reducible assumption) | apply below_later | apply below_alloc | apply below_drew | apply below_drewN))⟩
        case round =>
          obtain ⟨q, rfl, rfl, hqN, y, rfl⟩ := hrel
          obtain ⟨⟨x0, x1, x2, x3, x4, x5⟩, lx, ly⟩ := HX.out y.val (below_more HZZ.out (below_more HV1.out y.ok))
          by_cases hq2 : q < N
          · have HAq := Lib.hid (HA.out q)
            have LSq := Lib.hid (LS.out i q)
            have LBq := Lib.hid (LB.out i q)
            have hqG := hMG.out q hq2
            have e5 := wrap_mul_nat hqG (by omega)
            have hlq := LLE.out i q
            obtain ⟨Q, hQ⟩ : ∃ Q, q * G = Q := ⟨_, rfl⟩
            rw [hQ] at e5 LBq hqG
            have e6 : IntKind.i64.wrap ((Q : Int) + (R : Int)) = ((Q + R : Nat) : Int) := by rw [← Int.natCast_add]; exact i64_nat (by omega)
            obtain ⟨c1, hc1⟩ : ∃ c, decide (Q ≤ i) = c := ⟨_, rfl⟩
            obtain ⟨c2, hc2⟩ : ∃ c, decide (i < Q + R) = c := ⟨_, rfl⟩
            have d1 : decide ((Q : Int) ≤ (i : Int)) = c1 := by rw [← hc1]; exact decide_eq_decide.2 (by omega)
            have d2 : decide ((i : Int) < ((Q + R : Nat) : Int)) = c2 := by rw [← hc2]; exact decide_eq_decide.2 (by omega)
            have d3 : decide ((i : Int) < (Q : Int) + (R : Int)) = c2 := by rw [← hc2]; exact decide_eq_decide.2 (by omega)
            rw [hc1, hc2] at LBq
            generalize hasN k q n = c3 at *
            obtain ⟨nx, hnx⟩ : ∃ nx, layN G R n k i (q + 1) = nx := ⟨_, rfl⟩
            have HNX := Lib.hid hnx
            rw [hnx, LBq.out] at LSq
            clear hQ hnx LBq
            generalize layN G R n k i q = cur at *
            cases c1 <;> cases c2 <;> cases c3
            all_goals
              have HCUR := LSq.out
              simp only [Bool.and_true, Bool.and_false, Bool.true_and, Bool.false_and, Bool.not_true, Bool.not_false, if_true, if_false, Bool.false_eq_true, Nat.add_zero] at HCUR
              have HCU := Lib.hid HCUR
              clear HCUR LSq
              go_wp2_with ((go_at_call 24; with_reducible refine Calls.mono (Gives.calls (HAq.out _ (HWZ.out _ (below_more HV1.out (below_more y.ok (by repeat (first | exact Below.refl _ _ | (with_reducible assumption) | apply below_later | apply below_alloc | apply below_drew | apply below_drewN))))))) ?_; rintro e w1 ⟨rfl, z5, rfl⟩))
              all_goals
                first
                  | (refine ⟨⟨q + 1, by rw [HNX.out]; congr 1; have := HCU.out; omega, by go_num, by omega, later_of (by repeat (first | exact Below.refl _ _ | (with_reducible assumption) | apply below_later | apply below_alloc | apply below_drew | apply below_drewN))⟩, ?_⟩; simp [intOf]; omega)
                  | (go_roundw
                     case rel => exact ⟨q + 1, by rw [HNX.out]; congr 1; have := HCU.out; omega, by go_num, by omega, later_of (by repeat (first | exact Below.refl _ _ | (with_reducible assumption) | apply below_later | apply below_alloc | apply below_drew | apply below_drewN))⟩
                     case measure => simp [intOf]; omega)
          · obtain rfl : q = N := by omega
            rw [HLAY.out i]
            have HV2 : Hid (Below ZZ.heap.size ZZ y.val) := below_more HV1.out y.ok
            generalize y.val = V2 at *
            go_wp2_with fail
            go_loopw [11] (fun a wr => ∃ p2 : Nat, a = .int .i64 (p2 : Nat) ∧ p2 ≤ T.length ∧ (∀ q, q < p2 → (T.getD q (0, 0)).2 < i) ∧ ∃ y2 : Later V2, wr = y2.val) (fun a _ => T.length - (intOf a).toNat)
            case atStart => exact ⟨p, rfl, hpT, HB.out, later_of (by repeat (first | exact Below.refl _ _ | (with_reducible assumption) | apply below_later | apply below_alloc | apply below_drew | apply below_drewN))⟩
            case round =>
              obtain ⟨p2, rfl, hp2, hb2, y2, rfl⟩ := hrel
              have HB2 := Lib.hid hb2
              clear hb2
              have HV3 : Hid (Below ZZ.heap.size ZZ y2.val) := below_more HV2.out y2.ok
              by_cases hp3 : p2 < T.length
              · obtain ⟨bt, ot, hA, lt, ct⟩ := TP.out y2.val HV3.out p2 hp3
                subst hA
                obtain ⟨t1, t2⟩ := ct p2 hp3
                have HST : Hid ((T.getD p2 (0, 0)).2 < i → ∀ q, q < p2 + 1 → (T.getD q (0, 0)).2 < i) := fun h => thin_step HB2.out h
                have HAT : Hid (i ≤ (T.getD p2 (0, 0)).2 → decide ((T.getD p2 (0, 0)).1 ≤ i) = decide (lay i < tn)) := fun h => by
                  have e := thin_at TI.out hlt HB2.out (fun _ => h)
                  rw [decide_eq_true hp3, Bool.true_and] at e
                  exact e
                have hbb := (TI.out.val p2 hp3).2
                clear ct
                generalize hz1 : (T.getD p2 (0, 0)).1 = za at *
                generalize hz2 : (T.getD p2 (0, 0)).2 = zb at *
                clear hz1 hz2
                by_cases hzb : zb < i
                · have d1 : decide ((zb : Int) < (i : Int)) = true := by simp; omega
                  have d2 : decide (zb < i) = true := by simp; omega
                  have HN := Lib.hid (HST.out hzb)
                  clear HST HAT
                  go_wp2_with fail
                  all_goals
                    first
                      | (refine ⟨⟨p2 + 1, by go_num, by omega, HN.out, later_of (by repeat (first | exact Below.refl _ _ | (with_reducible assumption) | apply below_later | apply below_alloc | apply below_drew | apply below_drewN))⟩, ?_⟩; simp [intOf]; omega)
                      | (go_roundw
                         case rel => exact ⟨p2 + 1, by go_num, by omega, HN.out, later_of (by repeat (first | exact Below.refl _ _ | (with_reducible assumption) | apply below_later | apply below_alloc | apply below_drew | apply below_drewN))⟩
                         case measure => simp [intOf]; omega)
                · have d1 : decide ((zb : Int) < (i : Int)) = false := by simp; omega
                  have d2 : decide (zb < i) = false := by simp; omega
                  have HE := Lib.hid (HAT.out (by omega))
                  have HN := Lib.hid (thin_next HB2.out)
                  clear HST HAT
                  obtain ⟨bl, hbl⟩ : ∃ bl, decide (lay i < tn) = bl := ⟨_, rfl⟩
                  rw [hbl] at HE
                  have d3 : decide ((lay i : Int) < (tn : Int)) = bl := by rw [← hbl]; exact decide_eq_decide.2 (by omega)
                  have d4 : decide ((za : Int) ≤ (i : Int)) = bl := by rw [← HE.out]; exact decide_eq_decide.2 (by omega)
                  have d5 : decide (za ≤ i) = bl := HE.out
                  have d6 : (bl != bl) = false := by simp
                  go_wp2_with fail
                  all_goals
                    first
                      | (refine ⟨⟨p2, i + 1, rfl, by go_num, by omega, by omega, HN.out, by exact ⟨⟨_, HV3.out⟩, rfl⟩⟩, ?_⟩; simp [intOf]; omega)
                      | (go_roundw
                         case rel => exact ⟨p2, i + 1, rfl, by go_num, by omega, by omega, HN.out, by exact ⟨⟨_, HV3.out⟩, rfl⟩⟩
                         case measure => simp [intOf]; omega)
              · have HN := Lib.hid (thin_next HB2.out)
                have hpe : p2 = T.length := by omega
                have HE : Hid (decide (lay i < tn) = false) := by
                  show _ = _
                  have e := thin_at TI.out hlt HB2.out (fun h => absurd h hp3)
                  rw [decide_eq_false hp3, Bool.false_and] at e
                  exact e.symm
                have d3 : decide ((lay i : Int) < (tn : Int)) = false := by rw [← HE.out]; exact decide_eq_decide.2 (by omega)
                have d4 : decide ((p2 : Int) < (T.length : Int)) = false := by simp; omega
                have d5 : decide (p2 < T.length) = false := decide_eq_false hp3
                have d6 : decide (lay i < tn) = false := HE.out
                go_wp2_with fail
                all_goals
                  first
                    | (refine ⟨⟨p2, i + 1, rfl, by go_num, by omega, by omega, HN.out, by exact ⟨⟨_, HV3.out⟩, rfl⟩⟩, ?_⟩; simp [intOf]; omega)
                    | (go_roundw
                       case rel => exact ⟨p2, i + 1, rfl, by go_num, by omega, by omega, HN.out, by exact ⟨⟨_, HV3.out⟩, rfl⟩⟩
                       case measure => simp [intOf]; omega)
      · obtain rfl : i = S := by omega
        go_wp2_with fail
        go_loopw [17] (fun a wr => ∃ r : Nat, a = .int .i64 (r : Nat) ∧ 1 ≤ r ∧ (r ≤ T.length ∨ r = 1) ∧ ∃ y2 : Later x.val, wr = y2.val) (fun a _ => T.length - (intOf a).toNat)
        case atStart => exact ⟨1, rfl, by omega, by omega, later_of (by repeat (first | exact Below.refl _ _ | (with_reducible assumption) | apply below_later | apply below_alloc | apply below_drew | apply below_drewN))⟩
        case round =>
          obtain ⟨r, rfl, hr1, hr2, y2, rfl⟩ := hrel
          have HV3 : Hid (Below ZZ.heap.size ZZ y2.val) := below_more x.ok y2.ok
          by_cases hrl : r < T.length
          · obtain ⟨bt, ot, hA, lt, ct⟩ := TP.out y2.val HV3.out r hrl
            subst hA
            obtain ⟨t1, t2⟩ := ct r hrl
            obtain ⟨t3, t4⟩ := ct (r - 1) (by omega)
            have hgap := TI.out.gap (r - 1) (by omega)
            rw [show r - 1 + 1 = r by omega] at hgap
            have hb1 := (TI.out.val r hrl).2
            have hb2 := (TI.out.val (r - 1) (by omega)).2
            have hb0 := (TI.out.val r hrl).1
            have hsub : (r : Int) - 1 = ((r - 1 : Nat) : Int) := by omega
            have hwr : IntKind.i64.wrap ((r : Int) - 1) = ((r - 1 : Nat) : Int) := by rw [hsub]; exact i64_nat (by omega)
            have hr1T : r - 1 < T.length := by omega
            generalize (T.getD r (0, 0)).1 = za at *
            generalize (T.getD r (0, 0)).2 = zc at *
            generalize (T.getD (r - 1) (0, 0)).1 = zd at *
            generalize (T.getD (r - 1) (0, 0)).2 = zb at *
            have hwz : IntKind.i64.wrap ((zb : Int) + 1) = ((zb + 1 : Nat) : Int) := by rw [← Int.natCast_succ]; exact i64_nat (by omega)
            have d1 : decide ((za : Int) ≤ ((zb + 1 : Nat) : Int)) = false := by simp only [decide_eq_false_iff_not]; omega
            have d2 : decide ((za : Int) ≤ (zb : Int) + 1) = false := by simp only [decide_eq_false_iff_not]; omega
            clear ct hgap
            go_wp2_with fail
            refine wp_region_later (by kernel_rfl) (by kernel_rfl) ?_
            repeat (go_big_quiet_step ((fail)))
            refine wpQuiet_nil ?_
            intro y3
            go_wp2_with fail
            all_goals
              first
                | (refine ⟨⟨r + 1, by go_num, by omega, by omega, later_of (by repeat (first | exact Below.refl _ _ | (with_reducible assumption) | apply below_later | apply below_alloc | apply below_drew | apply below_drewN))⟩, ?_⟩; simp [intOf]; omega)
                | (go_roundw
                   case rel => exact ⟨r + 1, by go_num, by omega, by omega, later_of (by repeat (first | exact Below.refl _ _ | (with_reducible assumption) | apply below_later | apply below_alloc | apply below_drew | apply below_drewN))⟩
                   case measure => simp [intOf]; omega)
          · obtain ⟨⟨x0, x1, x2, x3, x4, x5⟩, lx, ly⟩ := HX.out y2.val (below_more HZZ.out HV3.out)
            have gh : ((hoursN gj m hd : Int) != (hoursN gj m hd : Int)) = false := by simp
            have drl : decide ((r : Int) < (T.length : Int)) = false := by simp; omega
            generalize hoursN gj m hd = ho at *
            go_wp2_with (first
              | (go_at_call 25; with_reducible refine Calls.mono (WK.out _ (HWZ.out _ (below_more HV3.out (by repeat (first | exact Below.refl _ _ | (with_reducible assumption) | apply below_later | apply below_alloc | apply below_drew | apply below_drewN))))) ?_; rintro e w1 ⟨v, rows, rfl, ⟨z6, rfl⟩, hown, hlen, heach, hocc⟩; obtain ⟨A5, c5, rfl, hld⟩ := LD0.out _ _ _ _ hown hlen heach hocc; have HLD := Lib.hid hld; clear hown heach hocc hld; generalize rows.length = kk at *; subst hlen; obtain ⟨⟨x0, x1, x2, x3, x4, x5⟩, lx, ly⟩ := HX.out _ (below_more HZZ.out (below_more HV3.out (show Below y2.val.heap.size y2.val z6.val by repeat (first | exact Below.refl _ _ | (with_reducible assumption) | apply below_later | apply below_alloc | apply below_drew | apply below_drewN)))))
              | ((go_at_call 26; with_reducible refine Calls.mono (Gives.calls (HW.out _ (HWZ.out _ (below_more HV3.out (by repeat (first | exact Below.refl _ _ | (with_reducible assumption) | apply below_later | apply below_alloc | apply below_drew | apply below_drewN)))))) ?_; rintro e w1 ⟨rfl, z7, rfl⟩); obtain ⟨⟨x0, x1, x2, x3, x4, x5⟩, lx, ly⟩ := HX.out _ (below_more HZZ.out (below_more HV3.out (show Below y2.val.heap.size y2.val z7.val by repeat (first | exact Below.refl _ _ | (with_reducible assumption) | apply below_later | apply below_alloc | apply below_drew | apply below_drewN)))))
              | (go_at_call 27; with_reducible refine Calls.mono (Gives.calls (HLD.out _ (by repeat (first | exact Below.refl _ _ | (with_reducible assumption) | apply below_later | apply below_alloc | apply below_drew | apply below_drewN)) (HWZ.out _ (below_more HV3.out (by repeat (first | exact Below.refl _ _ | (with_reducible assumption) | apply below_later | apply below_alloc | apply below_drew | apply below_drewN)))))) ?_; rintro e w1 ⟨rfl, z8, rfl⟩)
              | (go_at_call 18; with_reducible refine Calls.mono (Gives.calls (AW.out _)) ?_; rintro e w1 ⟨rfl, z9, rfl⟩))
            go_ret
            exact ⟨rfl, later_of (HWZ.out _ (below_more HV3.out (by repeat (first | exact Below.refl _ _ | (with_reducible assumption) | apply below_later | apply below_alloc | apply below_drew | apply below_drewN))))⟩
end Go.Proofs.Ytcjahpbbkdkbpaa
