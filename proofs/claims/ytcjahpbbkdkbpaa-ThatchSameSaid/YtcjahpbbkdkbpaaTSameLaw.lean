/- The law of roofs with a hip and with gables: walked. -/
import Derived.Test.YtcjahpbbkdkbpaaTSameM
import Derived.Test.YtcjahpbbkdkbpaaTAwake
namespace Go.Proofs.Ytcjahpbbkdkbpaa
open Go.RowKit

theorem wf_u16 {i : Int} (h : (Lit.int .u16 i).wf = true) : 0 ≤ i ∧ i ≤ 65535 := by
  simp only [Lit.wf, Bool.and_eq_true, decide_eq_true_eq] at h
  have e1 : IntKind.u16.min = 0 := by decide
  have e2 : IntKind.u16.max = 65535 := by decide
  omega
def fewS (a b : Nat) : Nat := min (1 + (min a b) % 1000) (1 + (max a b) % 1000)
def manyS (a b : Nat) : Nat := max (1 + (min a b) % 1000) (1 + (max a b) % 1000)
set_option maxRecDepth 100000 in
theorem sames_bad (l d a b c : Int) (h : Bool) (u v : Int) (w : World) (hv : okRoof l d a b c = false) : Gives Try.prog 4 #[roofV l d a b c h, .int .u16 u, .int .u16 v] w (.bool true) := by
  have AW := Lib.hid awake_law
  have VR := Lib.hid fun V => hv ▸ rValidRoof_any l d a b c h V
  unfold roofV at VR ⊢
  clear hv
  go_enter Try.func4, Try.ntmps4
  go_wp2_with (first | (go_at_call 9; with_reducible refine Calls.mono (Gives.calls (VR.out _)) ?_; rintro e w1 ⟨rfl, z1, rfl⟩) | (go_at_call 18; with_reducible refine Calls.mono (Gives.calls (AW.out _)) ?_; rintro e w1 ⟨rfl, z2, rfl⟩))
  go_ret
  exact ⟨rfl, later_of (by repeat (first | exact Below.refl _ _ | (with_reducible assumption) | apply below_later | apply below_alloc | apply below_drew | apply below_drewN))⟩
set_option maxRecDepth 100000 in
set_option maxHeartbeats 6400000 in
theorem sames_ok (L D H A B C : Nat) (h : Bool) (u v : Nat) (w : World) (hu : u ≤ 65535) (hv' : v ≤ 65535) (R : Rf L D H A B C) (hv : okRoof L D A B C = true) :
    Gives Try.prog 4 #[roofV L D A B C h, .int .u16 u, .int .u16 v] w (.bool true) := by
  have AW := Lib.hid awake_law
  have VR := Lib.hid fun V => hv ▸ rValidRoof_any L D A B C h V
  have HF : Hid (fewS u v = min (1 + (min u v) % 1000) (1 + (max u v) % 1000)) := rfl
  have HM : Hid (manyS u v = max (1 + (min u v) % 1000) (1 + (max u v) % 1000)) := rfl
  have f1 : 1 ≤ fewS u v := by unfold fewS; omega
  have f2 : fewS u v ≤ manyS u v := by unfold fewS manyS; omega
  have f3 : manyS u v ≤ 1000 := by unfold manyS; omega
  have A1 := Lib.hid fun V => Area_ok L D H A B C h V R hv
  have A2 := Lib.hid fun V => Area_ok L D H A B C (!h) V R hv
  have F1 : Hid (∀ V, Calls Try.prog 10 #[roofV L D A B C h] V (PostE V (kN h) 0 (hx (facesL L H B C h (kN h))) (hy (facesL L H B C h (kN h))))) := fun V => Faces_ok L D H A B C h V R hv
  have hs1 : inI 1 (fewS u v) 1000 = true := inI_iff.2 ⟨by omega, by omega⟩
  have hs2 : inI 1 (manyS u v) 1000 = true := inI_iff.2 ⟨by omega, by omega⟩
  have N1 := Lib.hid fun V => Needs_ok L D H A B C h (fewS u v) V R hv hs1
  have N2 := Lib.hid fun V => Needs_ok L D H A B C h (manyS u v) V R hv hs2
  have hn1 := need_pos (s := fewS u v) R f1
  have hn2 := need_mono (L := L) (D := D) (B := B) (C := C) f2
  have HS := Lib.hid (face_s h R)
  have HT := sum_faces h R
  have HTB := Lib.hid (fun j => sum_le (T := fun j => grN L H h j * C) (m := 160000000) HS.out.le j)
  have hm : L * D ≤ 160000 := mul_le3 (m := 400) (n := 400) R.l2 (by have := R.dl; have := R.l2; omega)
  have hm2 : L * D * C ≤ 160000000 := mul_le3 (m := 160000) (n := 1000) hm R.c1.2
  have hlo := lo_area (n := L * D * C) (d := B) R.b1.1
  obtain ⟨q1, q2, q3⟩ := lo_le (n := L * D * C) R.b1.1
  have hb := R.b1
  have hm3 : loN (L * D * C) B * B ≤ 160000000000 := mul_le3 (m := 160000000) (n := 1000) (by omega) hb.2
  have e1 := wrap_mul hm3 (by omega)
  have e2 := wrap_mul hm (by omega)
  have e3 := wrap_mul hm2 (by omega)
  have e4 : IntKind.i64.wrap (((L * D * C : Nat) : Int) * ((loD (L * D * C) B : Nat) : Int)) = ((loN (L * D * C) B * B : Nat) : Int) := by
    rw [hlo] at hm3 ⊢
    exact wrap_mul hm3 (by omega)
  have hkk : (kN h = 4 ∧ h = true) ∨ (kN h = 2 ∧ h = false) := by cases h <;> simp [kN]
  unfold PostE at F1
  unfold ratV at A1 A2
  unfold roofV at VR A1 A2 F1 N1 N2 ⊢
  generalize facesL L H B C h (kN h) = fl at *
  generalize (fun j => grN L H h j * C) = T at *
  generalize needN L D B C (fewS u v) = n1 at *
  generalize needN L D B C (manyS u v) = n2 at *
  generalize fewS u v = few at *
  generalize manyS u v = many at *
  generalize loN (L * D * C) B * B = mm at *
  generalize loN (L * D * C) B = r1 at *
  generalize loD (L * D * C) B = r2 at *
  generalize L * D * C = p2 at *
  generalize L * D = p1 at *
  generalize kN h = k at *
  clear hlo hv R hs1 hs2
  have hmm : ((mm : Int) != (mm : Int)) = false := by simp
  go_enter Try.func4, Try.ntmps4
  go_upto_region 1 with fail
  have HX : Hid (∀ V, Below (w.alloc (.cells #[.int .i64 L, .int .i64 D, .int .i64 A, .int .i64 B, .int .i64 C, .bool h] 25)).heap.size (w.alloc (.cells #[.int .i64 L, .int .i64 D, .int .i64 A, .int .i64 B, .int .i64 C, .bool h] 25)) V → (V.cell? ⟨w.heap.size, 0, none⟩ = some (.int .i64 L) ∧ V.cell? ⟨w.heap.size, 1, none⟩ = some (.int .i64 D) ∧ V.cell? ⟨w.heap.size, 2, none⟩ = some (.int .i64 A) ∧ V.cell? ⟨w.heap.size, 3, none⟩ = some (.int .i64 B) ∧ V.cell? ⟨w.heap.size, 4, none⟩ = some (.int .i64 C) ∧ V.cell? ⟨w.heap.size, 5, none⟩ = some (.bool h)) ∧ w.heap.size < V.heap.size) := fun V hb => roof_at hb
  have HZ0 : Hid (Below w.heap.size w (w.alloc (.cells #[.int .i64 L, .int .i64 D, .int .i64 A, .int .i64 B, .int .i64 C, .bool h] 25))) := below_alloc (Below.refl _ _)
  obtain ⟨b3, hb3⟩ : ∃ b3, w.heap.size = b3 := ⟨_, rfl⟩
  rw [hb3] at HX ⊢
  clear hb3
  generalize w.alloc (.cells #[.int .i64 L, .int .i64 D, .int .i64 A, .int .i64 B, .int .i64 C, .bool h] 25) = Z at *
  obtain ⟨⟨x0, x1, x2, x3, x4, x5⟩, lx⟩ := HX.out Z (Below.refl _ _)
  go_upto_region 5 with ((go_at_call 9; with_reducible refine Calls.mono (Gives.calls (VR.out _)) ?_; rintro e w1 ⟨rfl, z1, rfl⟩); obtain ⟨⟨x0, x1, x2, x3, x4, x5⟩, lx⟩ := HX.out z1.val (by repeat (first | exact Below.refl _ _ | (with_reducible assumption) | apply below_later | apply below_alloc | apply below_drew | apply below_drewN)))
  have HO0 : Hid (∀ V, Below (z1.val.alloc (.cells #[.int .i64 L, .int .i64 D, .int .i64 A, .int .i64 B, .int .i64 C, .bool !h] 25)).heap.size (z1.val.alloc (.cells #[.int .i64 L, .int .i64 D, .int .i64 A, .int .i64 B, .int .i64 C, .bool !h] 25)) V → (V.cell? ⟨z1.val.heap.size, 0, none⟩ = some (.int .i64 L) ∧ V.cell? ⟨z1.val.heap.size, 1, none⟩ = some (.int .i64 D) ∧ V.cell? ⟨z1.val.heap.size, 2, none⟩ = some (.int .i64 A) ∧ V.cell? ⟨z1.val.heap.size, 3, none⟩ = some (.int .i64 B) ∧ V.cell? ⟨z1.val.heap.size, 4, none⟩ = some (.int .i64 C) ∧ V.cell? ⟨z1.val.heap.size, 5, none⟩ = some (.bool !h)) ∧ z1.val.heap.size < V.heap.size) := fun V hb => roof_at hb
  have HZ1 : Hid (Below Z.heap.size Z (z1.val.alloc (.cells #[.int .i64 L, .int .i64 D, .int .i64 A, .int .i64 B, .int .i64 C, .bool !h] 25))) := by show Below _ _ _; repeat (first | exact Below.refl _ _ | (with_reducible assumption) | apply below_later | apply below_alloc | apply below_drew | apply below_drewN)
  clear x0 x1 x2 x3 x4 x5 lx
  generalize z1.val.heap.size = b7 at *
  generalize z1.val.alloc (.cells #[.int .i64 L, .int .i64 D, .int .i64 A, .int .i64 B, .int .i64 C, .bool !h] 25) = O at *
  obtain ⟨⟨x0, x1, x2, x3, x4, x5⟩, lx⟩ := HX.out O HZ1.out
  go_upto_region 6 with ((go_at_call 6; with_reducible refine Calls.mono (Gives.calls (A1.out _)) ?_; rintro e w1 ⟨rfl, z2, rfl⟩))
  clear x0 x1 x2 x3 x4 x5 lx
  obtain ⟨⟨x0, x1, x2, x3, x4, x5⟩, lx⟩ := HO0.out (z2.val.alloc (.cells #[.int .i64 r1, .int .i64 r2] 27)) (by repeat (first | exact Below.refl _ _ | (with_reducible assumption) | apply below_later | apply below_alloc | apply below_drew | apply below_drewN))
  go_upto_region 7 with ((go_at_call 6; with_reducible refine Calls.mono (Gives.calls (A2.out _)) ?_; rintro e w1 ⟨rfl, z3, rfl⟩))
  clear x0 x1 x2 x3 x4 x5 lx HO0
  have h8 : (z3.val.alloc (.cells #[.int .i64 r1, .int .i64 r2] 27)).heap[z2.val.heap.size]? = some (.cells #[.int .i64 r1, .int .i64 r2] 27 (0, 0)) := res_cell (by repeat (first | exact Below.refl _ _ | (with_reducible assumption) | apply below_later | apply below_alloc | apply below_drew | apply below_drewN))
  have h10 : (z3.val.alloc (.cells #[.int .i64 r1, .int .i64 r2] 27)).heap[z3.val.heap.size]? = some (.cells #[.int .i64 r1, .int .i64 r2] 27 (0, 0)) := World.alloc_heap_new _ _
  have HY0 : Hid (Below O.heap.size O (z3.val.alloc (.cells #[.int .i64 r1, .int .i64 r2] 27))) := by show Below _ _ _; repeat (first | exact Below.refl _ _ | (with_reducible assumption) | apply below_later | apply below_alloc | apply below_drew | apply below_drewN)
  generalize z2.val.heap.size = b8 at *
  generalize z3.val.heap.size = b10 at *
  generalize z3.val.alloc (.cells #[.int .i64 r1, .int .i64 r2] 27) = Y at *
  have HY1 : Hid (Below Z.heap.size Z Y) := below_more HZ1.out HY0.out
  clear HZ1 HY0
  obtain ⟨c80, c81⟩ : Y.cell? ⟨b8, 0, none⟩ = some (.int .i64 r1) ∧ Y.cell? ⟨b8, 1, none⟩ = some (.int .i64 r2) := ⟨cell_of_heap h8 0 _ rfl, cell_of_heap h8 1 _ rfl⟩
  obtain ⟨c100, c101⟩ : Y.cell? ⟨b10, 0, none⟩ = some (.int .i64 r1) ∧ Y.cell? ⟨b10, 1, none⟩ = some (.int .i64 r2) := ⟨cell_of_heap h10 0 _ rfl, cell_of_heap h10 1 _ rfl⟩
  obtain ⟨⟨x0, x1, x2, x3, x4, x5⟩, lx⟩ := HX.out Y HY1.out
  clear h8 h10
  go_upto_region 9 with fail
  have HE2 := Lib.hid e2
  clear c80 c81 c100 c101 e1 e2 e4 hmm
  go_upto_region 10 with (go_at_call 10; with_reducible refine Calls.mono (F1.out _) ?_; rintro e' w1 ⟨O1, cO1, rfl, z4, rfl, hi1⟩)
  have I1 := Lib.hid hi1
  clear hi1
  have HY2 : Hid (Below Z.heap.size Z z4.val) := below_more HY1.out z4.ok
  generalize z4.val = X at *
  clear x0 x1 x2 x3 x4 x5 lx
  obtain ⟨⟨x0, x1, x2, x3, x4, x5⟩, lx⟩ := HX.out X HY2.out
  go_cut [94] (fun s94 wx => s94 = .bool false ∧ wx = X)
  case first =>
    clear HS HT HTB I1 HF HM F1 N1 N2 HX
    rcases hkk with ⟨rfl, rfl⟩ | ⟨rfl, rfl⟩
    all_goals
      go_wp2_with fail
      go_meet
      exact ⟨rfl, rfl⟩
  case rest =>
    obtain ⟨rfl, rfl⟩ := hcut
    go_wp2
    have h4 : k ≤ 4 := by rcases hkk with ⟨h, _⟩ | ⟨h, _⟩ <;> omega
    go_loopw [13, 14] (fun s13 s14 wr => ∃ j : Nat, j ≤ k ∧ s13 = .int .i64 ((addN T j : Nat) : Int) ∧ s14 = .int .i64 j ∧ ∃ x : Later wc, wr = x.val) (fun _ v _ => k - (intOf v).toNat)
    case atStart => exact ⟨0, by omega, rfl, rfl, ⟨⟨wc, Below.refl _ _⟩, rfl⟩⟩
    case round =>
      obtain ⟨j, hj, rfl, rfl, x, rfl⟩ := hrel
      have hs0 := HTB.out j
      by_cases hlt : j < k
      · obtain ⟨q1, o1, hA1, p0, p1⟩ := I1.out.at_ (by omega)
        subst hA1
        obtain ⟨d1, d2⟩ := p1 j hlt
        clear p1
        obtain ⟨N, Dn, g1, g2, g3, g4, g5, g6, g7, g8⟩ := HS.out.each j hlt
        rw [g1] at d1
        rw [g2] at d2
        have hT := HS.out.le j
        have hsum : addN T (j + 1) = addN T j + T j := rfl
        have hs1 : addN T j ≤ 640000000 := Nat.le_trans hs0 (Nat.le_trans (Nat.mul_le_mul_right _ hj) (by omega))
        have i1 : ((Dn : Int) < 1) = False := by simp; omega
        have i2 : (Dn : Int) ≠ 0 := by omega
        have i2' : ((Dn : Int) = 0) = False := by simp; omega
        have i3 : IntKind.i64.wrap ((B : Int).tmod (Dn : Int)) = 0 := by rw [Int.tmod_eq_emod_of_nonneg (by omega), ← Int.natCast_emod, g5]; rfl
        have i4 : (B : Int).tmod (Dn : Int) = 0 := by rw [Int.tmod_eq_emod_of_nonneg (by omega), ← Int.natCast_emod, g5]; rfl
        have i4' : (B : Int) % (Dn : Int) = 0 := by rw [← Int.natCast_emod, g5]; rfl
        have i5 : IntKind.i64.wrap ((B : Int).tdiv (Dn : Int)) = ((B / Dn : Nat) : Int) := by rw [Int.tdiv_eq_ediv_of_nonneg (by omega), ← Int.natCast_ediv]; exact i64_nat (by omega)
        have i5' : IntKind.i64.wrap ((B : Int) / (Dn : Int)) = ((B / Dn : Nat) : Int) := by rw [← Int.natCast_ediv]; exact i64_nat (by omega)
        have i6 : IntKind.i64.wrap ((N : Int) * ((B / Dn : Nat) : Int)) = ((T j : Nat) : Int) := by rw [← g6]; exact wrap_mul (by rw [g6]; exact hT) (by omega)
        have i7 : IntKind.i64.wrap (((addN T j : Nat) : Int) + ((T j : Nat) : Int)) = ((addN T (j + 1) : Nat) : Int) := by rw [hsum, ← Int.natCast_add]; exact i64_nat (by omega)
        obtain ⟨s1, hse⟩ : ∃ s1, addN T (j + 1) = s1 := ⟨_, rfl⟩
        rw [hse] at i7
        have HSE := Lib.hid hse
        clear hse
        generalize addN T j = s0 at *
        generalize T j = tj at *
        generalize B / Dn = bd at *
        clear g1 g2 g5 g6 hsum
        go_wp2_with fail
        first | (with_reducible show Code.wp _ _ _ _ (Later.val _); refine wp_region_later_at _ (by kernel_rfl) (by kernel_rfl) ?_) | refine wp_region_later (by kernel_rfl) (by kernel_rfl) ?_
        repeat (go_big_quiet_step ((fail)))
        refine wpQuiet_nil ?_
        intro z5
        go_wp2_with fail
        first | (with_reducible show Code.wp _ _ _ _ (Later.val _); refine wp_region_later_at _ (by kernel_rfl) (by kernel_rfl) ?_) | refine wp_region_later (by kernel_rfl) (by kernel_rfl) ?_
        repeat (go_big_quiet_step ((fail)))
        refine wpQuiet_nil ?_
        intro z6
        go_wp2
        go_roundw
        case rel =>
          refine ⟨j + 1, by omega, ?_, by go_num, later_of (by repeat (first | exact Below.refl _ _ | (with_reducible assumption) | apply below_later | apply below_alloc | apply below_drew | apply below_drewN))⟩
          rw [HSE.out]
        case measure => simp [intOf]; omega
      · obtain rfl : j = k := by omega
        have HYX : Hid (Below Z.heap.size Z x.val) := below_more HY2.out x.ok
        generalize x.val = Q at *
        clear I1 HS HTB hs0 x0 x1 x2 x3 x4 x5 lx h4 hkk F1 VR A1 A2
        rw [HT] at *
        clear HT
        go_upto_region 19 with fail
        go_cut [15, 16] (fun s5 s6 wx => s5 = .int .i64 ((1 + (min u v) % 1000 : Nat) : Int) ∧ s6 = .int .i64 ((1 + (max u v) % 1000 : Nat) : Int) ∧ wx = Q)
        case first =>
          clear HX HF HM N1 N2 AW
          go_wp2_with fail
          all_goals
            go_meet
            exact ⟨by congr 1; omega, by congr 1; omega, rfl⟩
        case rest =>
          obtain ⟨rfl, rfl, hq⟩ := hcut
          subst hq
          generalize 1 + (min u v) % 1000 = p at *
          generalize 1 + (max u v) % 1000 = q at *
          go_upto_region 20 with fail
          go_cut [15, 16] (fun s5 s6 wx => s5 = .int .i64 few ∧ s6 = .int .i64 many ∧ wx = wc)
          case first =>
            clear HX N1 N2 AW
            have h1 := HF.out
            have h2 := HM.out
            clear HF HM
            go_wp2_with fail
            all_goals
              go_meet
              exact ⟨by congr 1; omega, by congr 1; omega, rfl⟩
          case rest =>
            obtain ⟨rfl, rfl, hq⟩ := hcut
            subst hq
            clear HF HM
            have hpp : ((p2 : Int) == (p2 : Int)) = true := by simp
            have e2 := HE2.out
            have k1 : ((n1 : Int) ≤ (n2 : Int)) = True := by simp; exact_mod_cast hn2
            have k2 : ((1 : Int) ≤ (n1 : Int)) = True := by simp; omega
            have k3 : (n1 ≤ n2) = True := by simp; exact hn2
            have k4 : (1 ≤ n1) = True := by simp; exact hn1
            obtain ⟨⟨x0, x1, x2, x3, x4, x5⟩, lx⟩ := HX.out wc HYX.out
            go_wp2_with (first
              | ((go_at_call 16; with_reducible refine Calls.mono (Gives.calls (N1.out _)) ?_; rintro e w1 ⟨rfl, z7, rfl⟩); obtain ⟨⟨x0, x1, x2, x3, x4, x5⟩, lx⟩ := HX.out z7.val (below_more HYX.out (by repeat (first | exact Below.refl _ _ | (with_reducible assumption) | apply below_later | apply below_alloc | apply below_drew | apply below_drewN))))
              | ((go_at_call 16; with_reducible refine Calls.mono (Gives.calls (N2.out _)) ?_; rintro e w1 ⟨rfl, z8, rfl⟩); obtain ⟨⟨x0, x1, x2, x3, x4, x5⟩, lx⟩ := HX.out z8.val (below_more HYX.out (by repeat (first | exact Below.refl _ _ | (with_reducible assumption) | apply below_later | apply below_alloc | apply below_drew | apply below_drewN))))
              | (go_at_call 18; with_reducible refine Calls.mono (Gives.calls (AW.out _)) ?_; rintro e w1 ⟨rfl, z9, rfl⟩))
            go_ret
            exact ⟨rfl, later_of (below_more HZ0.out (below_more HYX.out (by repeat (first | exact Below.refl _ _ | (with_reducible assumption) | apply below_later | apply below_alloc | apply below_drew | apply below_drewN))))⟩
end Go.Proofs.Ytcjahpbbkdkbpaa
