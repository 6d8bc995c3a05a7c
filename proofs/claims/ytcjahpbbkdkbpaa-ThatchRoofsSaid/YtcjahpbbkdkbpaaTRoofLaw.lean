/- The law of roofs: walked. -/
import Derived.Test.YtcjahpbbkdkbpaaTRoofF
import Derived.Test.YtcjahpbbkdkbpaaTAwake
namespace Go.Proofs.Ytcjahpbbkdkbpaa
open Go.RowKit

set_option maxRecDepth 100000 in
set_option maxHeartbeats 6400000 in
theorem roofs_law (l d a b c : Int) (h : Bool) (s : Int) (w : World) : Gives Try.prog 3 #[roofV l d a b c h, .int .i64 s] w (.bool true) := by
  have AW := Lib.hid awake_law
  obtain ⟨ok, a1, a2, e, k, fx, fy, rn, r1, r2, sn, nn, ne, F⟩ := roof_facts l d a b c h s
  have V1 := Lib.hid F.pv1
  have V2 := Lib.hid F.pv2
  have A1 := Lib.hid F.pa1
  have A2 := Lib.hid F.pa2
  have F1 := Lib.hid F.pf1
  have F2 := Lib.hid F.pf2
  have R1 := Lib.hid F.pr1
  have R2 := Lib.hid F.pr2
  have S1 := Lib.hid F.ps1
  have S2 := Lib.hid F.ps2
  have N1 := Lib.hid F.pn1
  have N2 := Lib.hid F.pn2
  have hk := F.ple
  clear F
  unfold PostE at F1 F2
  have hok : (ok == ok) = true := by simp
  unfold roofV at V1 V2 A1 A2 F1 F2 R1 R2 S1 S2 N1 N2 ⊢
  go_enter Try.func3, Try.ntmps3
  go_upto_region 1 with fail
  have HX : Hid (∀ V, Below (w.alloc (.cells #[.int .i64 l, .int .i64 d, .int .i64 a, .int .i64 b, .int .i64 c, .bool h] 25)).heap.size (w.alloc (.cells #[.int .i64 l, .int .i64 d, .int .i64 a, .int .i64 b, .int .i64 c, .bool h] 25)) V → (V.cell? ⟨w.heap.size, 0, none⟩ = some (.int .i64 l) ∧ V.cell? ⟨w.heap.size, 1, none⟩ = some (.int .i64 d) ∧ V.cell? ⟨w.heap.size, 2, none⟩ = some (.int .i64 a) ∧ V.cell? ⟨w.heap.size, 3, none⟩ = some (.int .i64 b) ∧ V.cell? ⟨w.heap.size, 4, none⟩ = some (.int .i64 c) ∧ V.cell? ⟨w.heap.size, 5, none⟩ = some (.bool h)) ∧ w.heap.size < V.heap.size) := fun V hb => roof_at hb
  have HZ0 : Hid (Below w.heap.size w (w.alloc (.cells #[.int .i64 l, .int .i64 d, .int .i64 a, .int .i64 b, .int .i64 c, .bool h] 25))) := below_alloc (Below.refl _ _)
  obtain ⟨b2, hb2⟩ : ∃ b2, w.heap.size = b2 := ⟨_, rfl⟩
  rw [hb2] at HX ⊢
  clear hb2
  generalize w.alloc (.cells #[.int .i64 l, .int .i64 d, .int .i64 a, .int .i64 b, .int .i64 c, .bool h] 25) = Z at *
  obtain ⟨⟨x0, x1, x2, x3, x4, x5⟩, lx⟩ := HX.out Z (Below.refl _ _)
  clear x0 x1 x2 x3 x4 x5 lx
  have HBX : Hid (∀ (V V' : World) (p q : Value), Below (V.alloc (.cells #[p, q] 27)).heap.size (V.alloc (.cells #[p, q] 27)) V' → V'.heap[V.heap.size]? = some (.cells #[p, q] 27 (0, 0))) := fun V V' p q hb => res_cell hb
  obtain ⟨⟨x0, x1, x2, x3, x4, x5⟩, lx⟩ := HX.out Z (Below.refl _ _)
  go_upto_region 2 with ((go_at_call 6; with_reducible refine Calls.mono (Gives.calls (A1.out _)) ?_; rintro e w1 ⟨rfl, z1, rfl⟩))
  clear x0 x1 x2 x3 x4 x5 lx
  obtain ⟨⟨x0, x1, x2, x3, x4, x5⟩, lx⟩ := HX.out z1.val (by repeat (first | exact Below.refl _ _ | (with_reducible assumption) | apply below_later | apply below_alloc | apply below_drew | apply below_drewN))
  go_upto_region 3 with ((go_at_call 7; with_reducible refine Calls.mono (Gives.calls (A2.out _)) ?_; rintro e w1 ⟨rfl, z2, rfl⟩))
  clear x0 x1 x2 x3 x4 x5 lx
  have h5 : (z2.val.alloc (.cells #[.int .i64 a1, .int .i64 a2] 27)).heap[z1.val.heap.size]? = some (.cells #[.int .i64 a1, .int .i64 a2] 27 (0, 0)) := HBX.out z1.val _ _ _ (by repeat (first | exact Below.refl _ _ | (with_reducible assumption) | apply below_later | apply below_alloc | apply below_drew | apply below_drewN))
  have h7 : (z2.val.alloc (.cells #[.int .i64 a1, .int .i64 a2] 27)).heap[z2.val.heap.size]? = some (.cells #[.int .i64 a1, .int .i64 a2] 27 (0, 0)) := World.alloc_heap_new _ _
  have g5 : Z.heap.size ≤ z1.val.heap.size := z1.ok.size
  have g57 : z1.val.heap.size < z2.val.heap.size := by
    have h1 := z2.ok.size
    have h2 : (z1.val.alloc (.cells #[.int .i64 a1, .int .i64 a2] 27)).heap.size = z1.val.heap.size + 1 := by simp
    omega
  have HY0 : Hid (Below Z.heap.size Z (z2.val.alloc (.cells #[.int .i64 a1, .int .i64 a2] 27))) := by show Below _ _ _; repeat (first | exact Below.refl _ _ | (with_reducible assumption) | apply below_later | apply below_alloc | apply below_drew | apply below_drewN)
  generalize z1.val.heap.size = b5 at *
  generalize z2.val.heap.size = b7 at *
  generalize z2.val.alloc (.cells #[.int .i64 a1, .int .i64 a2] 27) = Y at *
  have H5 := Lib.hid h5
  have H7 := Lib.hid h7
  have l5 := get_lt h5
  have l7 := get_lt h7
  obtain ⟨c50, c51⟩ : Y.cell? ⟨b5, 0, none⟩ = some (.int .i64 a1) ∧ Y.cell? ⟨b5, 1, none⟩ = some (.int .i64 a2) := ⟨cell_of_heap h5 0 _ rfl, cell_of_heap h5 1 _ rfl⟩
  obtain ⟨c70, c71⟩ : Y.cell? ⟨b7, 0, none⟩ = some (.int .i64 a1) ∧ Y.cell? ⟨b7, 1, none⟩ = some (.int .i64 a2) := ⟨cell_of_heap h7 0 _ rfl, cell_of_heap h7 1 _ rfl⟩
  obtain ⟨⟨x0, x1, x2, x3, x4, x5⟩, lx⟩ := HX.out Y HY0.out
  clear h5 h7
  refine wp_region_later (by kernel_rfl) (by kernel_rfl) ?_
  repeat (go_big_quiet_step ((first | (go_at_call 8; (with_reducible refine Later.call _ (V1.out _))) | (go_at_call 9; (with_reducible refine Later.call _ (V2.out _))))))
  refine wpQuiet_nil ?_
  intro y
  go_upto_region 6 with (go_at_call 10; with_reducible refine Calls.mono (F1.out _) ?_; rintro e' w1 ⟨O1, cO1, rfl, z3, rfl, hi1⟩)
  have hi1' := Lib.hid hi1
  clear hi1
  have HY1 : Hid (Below Y.heap.size Y z3.val) := by show Below _ _ _; repeat (first | exact Below.refl _ _ | (with_reducible assumption) | apply below_later | apply below_alloc | apply below_drew | apply below_drewN)
  clear x0 x1 x2 x3 x4 x5 lx
  obtain ⟨⟨x0, x1, x2, x3, x4, x5⟩, lx⟩ := HX.out z3.val (below_more HY0.out HY1.out)
  go_upto_region 7 with (go_at_call 11; with_reducible refine Calls.mono (F2.out _) ?_; rintro e' w1 ⟨O2, cO2, rfl, z4, rfl, hi2⟩)
  have I2 := Lib.hid hi2
  have I1 := Lib.hid (hi1'.out.below z4.ok)
  clear hi2 hi1'
  have HY2 : Hid (Below Y.heap.size Y z4.val) := below_more HY1.out z4.ok
  generalize z4.val = Z4 at *
  have hkk : ((k : Int) != (k : Int)) = false := by simp
  have hd : (decide ((k : Int) = (k : Int))) = true := by simp
  clear x0 x1 x2 x3 x4 x5 lx
  go_wp2
  go_loopw [11] (fun u wr => ∃ j : Nat, j ≤ k ∧ u = .int .i64 j ∧ ∃ x : Later Z4, wr = x.val) (fun v _ => k - (intOf v).toNat)
  case atStart => exact ⟨0, by omega, rfl, ⟨⟨Z4, Below.refl _ _⟩, rfl⟩⟩
  case round =>
    obtain ⟨j, hj, rfl, x, rfl⟩ := hrel
    by_cases hlt : j < k
    · obtain ⟨q1, o1, hA1, p0, p1⟩ := I1.out.at_ (by omega)
      obtain ⟨q2, o2, hB1, p2, p3⟩ := I2.out.at_ (by omega)
      subst hA1 hB1
      obtain ⟨d1, d2⟩ := p1 j hlt
      obtain ⟨d4, d5⟩ := p3 j hlt
      clear p1 p3
      go_wp2_with fail
      first | (with_reducible show Code.wp _ _ _ _ (Later.val _); refine wp_region_later_at _ (by kernel_rfl) (by kernel_rfl) ?_) | refine wp_region_later (by kernel_rfl) (by kernel_rfl) ?_
      repeat (go_big_quiet_step ((fail)))
      refine wpQuiet_nil ?_
      intro z5
      go_wp2
      all_goals
        first
          | (refine ⟨⟨j + 1, by omega, by go_num, later_of (by repeat (first | exact Below.refl _ _ | (with_reducible assumption) | apply below_later | apply below_alloc | apply below_drew | apply below_drewN))⟩, ?_⟩; simp [intOf]; omega)
          | (go_roundw
             case rel => exact ⟨j + 1, by omega, by go_num, later_of (by repeat (first | exact Below.refl _ _ | (with_reducible assumption) | apply below_later | apply below_alloc | apply below_drew | apply below_drewN))⟩
             case measure => simp [intOf]; omega)
    · obtain rfl : j = k := by omega
      have HYX : Hid (Below Y.heap.size Y x.val) := below_more HY2.out x.ok
      generalize x.val = X at *
      clear I1 I2
      obtain ⟨⟨x0, x1, x2, x3, x4, x5⟩, lx⟩ := HX.out X (below_more HY0.out HYX.out)
      go_upto_region 15 with ((go_at_call 12; with_reducible refine Calls.mono (Gives.calls (R1.out _)) ?_; rintro e w1 ⟨rfl, z5, rfl⟩); have h5 := ((below_more HYX.out z5.ok).block _ l5).trans H5.out; have c50 := cell_of_heap h5 0 _ rfl; have c51 := cell_of_heap h5 1 _ rfl; have t0 := thaw_of h5 0; have t1 := thaw_of h5 1)
      have h5' := set_two (u := .int .i64 r1) (v := .int .i64 r2) h5
      have h7' := set_far2 (b := b5) (u := .int .i64 r1) (v := .int .i64 r2) (((below_more HYX.out z5.ok).block _ l7).trans H7.out) (by omega)
      have HZ5 : Hid (Below Z.heap.size Z ((z5.val.setCell ⟨b5, 0, none⟩ (.int .i64 r1)).setCell ⟨b5, 1, none⟩ (.int .i64 r2))) := set_below (below_more HY0.out (below_more HYX.out z5.ok)) g5
      generalize (z5.val.setCell ⟨b5, 0, none⟩ (.int .i64 r1)).setCell ⟨b5, 1, none⟩ (.int .i64 r2) = Y5 at *
      clear h5 c50 c51 t0 t1 x0 x1 x2 x3 x4 x5 lx c70 c71 HYX
      obtain ⟨⟨x0, x1, x2, x3, x4, x5⟩, lx⟩ := HX.out Y5 HZ5.out
      have m5 := get_lt h5'
      have m7 := get_lt h7'
      have G5 := Lib.hid h5'
      have G7 := Lib.hid h7'
      clear h5' h7'
      go_upto_region 16 with ((go_at_call 13; with_reducible refine Calls.mono (Gives.calls (R2.out _)) ?_; rintro e w1 ⟨rfl, z6, rfl⟩); have h7 := (z6.ok.block _ m7).trans G7.out; have c70 := cell_of_heap h7 0 _ rfl; have c71 := cell_of_heap h7 1 _ rfl; have t0 := thaw_of h7 0; have t1 := thaw_of h7 1)
      have k7 := set_two (u := .int .i64 r1) (v := .int .i64 r2) h7
      have k5 := set_far2 (b := b7) (u := .int .i64 r1) (v := .int .i64 r2) ((z6.ok.block _ m5).trans G5.out) (by omega)
      have HZ6 : Hid (Below Z.heap.size Z ((z6.val.setCell ⟨b7, 0, none⟩ (.int .i64 r1)).setCell ⟨b7, 1, none⟩ (.int .i64 r2))) := set_below (below_more HZ5.out z6.ok) (by omega)
      generalize (z6.val.setCell ⟨b7, 0, none⟩ (.int .i64 r1)).setCell ⟨b7, 1, none⟩ (.int .i64 r2) = Y6 at *
      clear h7 c70 c71 t0 t1 x0 x1 x2 x3 x4 x5 lx
      obtain ⟨⟨x0, x1, x2, x3, x4, x5⟩, lx⟩ := HX.out Y6 HZ6.out
      have c50 := cell_of_heap k5 0 _ rfl
      have c51 := cell_of_heap k5 1 _ rfl
      have c70 := cell_of_heap k7 0 _ rfl
      have c71 := cell_of_heap k7 1 _ rfl
      go_upto_region 18 with fail
      clear k5 k7 c50 c51 c70 c71 x0 x1 x2 x3 x4 x5 lx
      obtain ⟨⟨x0, x1, x2, x3, x4, x5⟩, lx⟩ := HX.out Y6 HZ6.out
      go_wp2_with (first
        | ((go_at_call 14; with_reducible refine Calls.mono (Gives.calls (S1.out _)) ?_; rintro e w1 ⟨rfl, z7, rfl⟩); obtain ⟨⟨x0, x1, x2, x3, x4, x5⟩, lx⟩ := HX.out z7.val (below_more HZ6.out (by repeat (first | exact Below.refl _ _ | (with_reducible assumption) | apply below_later | apply below_alloc | apply below_drew | apply below_drewN))))
        | ((go_at_call 15; with_reducible refine Calls.mono (Gives.calls (S2.out _)) ?_; rintro e w1 ⟨rfl, z8, rfl⟩); obtain ⟨⟨x0, x1, x2, x3, x4, x5⟩, lx⟩ := HX.out z8.val (below_more HZ6.out (by repeat (first | exact Below.refl _ _ | (with_reducible assumption) | apply below_later | apply below_alloc | apply below_drew | apply below_drewN))))
        | ((go_at_call 16; with_reducible refine Calls.mono (Gives.calls (N1.out _)) ?_; rintro e w1 ⟨rfl, z9, rfl⟩); obtain ⟨⟨x0, x1, x2, x3, x4, x5⟩, lx⟩ := HX.out z9.val (below_more HZ6.out (by repeat (first | exact Below.refl _ _ | (with_reducible assumption) | apply below_later | apply below_alloc | apply below_drew | apply below_drewN))))
        | ((go_at_call 17; with_reducible refine Calls.mono (Gives.calls (N2.out _)) ?_; rintro e w1 ⟨rfl, z10, rfl⟩); obtain ⟨⟨x0, x1, x2, x3, x4, x5⟩, lx⟩ := HX.out z10.val (below_more HZ6.out (by repeat (first | exact Below.refl _ _ | (with_reducible assumption) | apply below_later | apply below_alloc | apply below_drew | apply below_drewN))))
        | (go_at_call 18; with_reducible refine Calls.mono (Gives.calls (AW.out _)) ?_; rintro e w1 ⟨rfl, z11, rfl⟩))
      go_ret
      exact ⟨rfl, later_of (below_more HZ0.out (below_more HZ6.out (by repeat (first | exact Below.refl _ _ | (with_reducible assumption) | apply below_later | apply below_alloc | apply below_drew | apply below_drewN))))⟩
end Go.Proofs.Ytcjahpbbkdkbpaa
