/- thatch's Faces of a roof with a hip (its region that draws its order: by XOrd). -/
import Derived.Test.YtcjahpbbkdkbpaaTFaces
import Derived.Deep.RegionWith
import Derived.Test.YtcjahpbbkdkbpaaOrd
namespace Go.Proofs.Ytcjahpbbkdkbpaa
open Go.RowKit

theorem thaw_of {w : World} {b : Nat} {cs : Array Value} {t : TypeId} (h : w.heap[b]? = some (.cells cs t (0, 0))) (j : Nat) : w.frozen? ⟨b, j, none⟩ = false := by simp [World.frozen?, h]
/-- Two boxes of one's own, made and filled in whatever order. -/
structure TwoB (Z : World) (m1 m2 d1 d2 : Bool) (x1 x2 : Value) (r1 r2 r3 r4 : Nat) (w : World) : Prop where
  below : Below Z.heap.size Z w
  at13 : m1 = true → ∃ b p q, x1 = .pointer (some ⟨b, 0, none⟩) ∧ Z.heap.size ≤ b ∧ w.heap[b]? = some (.cells #[p, q] 27 (0, 0)) ∧ (d1 = true → p = .int .i64 r1 ∧ q = .int .i64 r2)
  at14 : m2 = true → ∃ b p q, x2 = .pointer (some ⟨b, 0, none⟩) ∧ Z.heap.size ≤ b ∧ w.heap[b]? = some (.cells #[p, q] 27 (0, 0)) ∧ (d2 = true → p = .int .i64 r3 ∧ q = .int .i64 r4)
  ne : m1 = true → m2 = true → x1 ≠ x2
  ok1 : d1 = true → m1 = true
  ok2 : d2 = true → m2 = true
section
variable {Z w : World} {m1 m2 d1 d2 : Bool} {x1 x2 : Value} {r1 r2 r3 r4 : Nat}
theorem TwoB.later {w' : World} (h : TwoB Z m1 m2 d1 d2 x1 x2 r1 r2 r3 r4 w) (hb : Below w.heap.size w w') : TwoB Z m1 m2 d1 d2 x1 x2 r1 r2 r3 r4 w' :=
  ⟨below_more h.below hb, fun hm => let ⟨b, p, q, e, hl, hh, hd⟩ := h.at13 hm; ⟨b, p, q, e, hl, (hb.block _ (get_lt hh)).trans hh, hd⟩,
    fun hm => let ⟨b, p, q, e, hl, hh, hd⟩ := h.at14 hm; ⟨b, p, q, e, hl, (hb.block _ (get_lt hh)).trans hh, hd⟩, h.ne, h.ok1, h.ok2⟩
theorem TwoB.new1 {u v : Value} (h : TwoB Z m1 m2 d1 d2 x1 x2 r1 r2 r3 r4 w) (hn : m1 = false) : TwoB Z true m2 d1 d2 (.pointer (some ⟨w.heap.size, 0, none⟩)) x2 r1 r2 r3 r4 (w.alloc (.cells #[u, v] 27)) := by
  have h' := h.later (below_alloc (o := .cells #[u, v] 27) (Below.refl _ w))
  refine ⟨h'.below, fun _ => ⟨_, u, v, rfl, h.below.size, World.alloc_heap_new _ _, fun hd => absurd (h.ok1 hd) (by simp [hn])⟩, h'.at14, fun _ hm e => ?_, fun _ => rfl, h.ok2⟩
  obtain ⟨b, p, q, e', _, hh, _⟩ := h.at14 hm
  rw [e'] at e
  simp only [Value.pointer.injEq, Option.some.injEq, Addr.mk.injEq] at e
  have := get_lt hh
  omega
theorem TwoB.new2 {u v : Value} (h : TwoB Z m1 m2 d1 d2 x1 x2 r1 r2 r3 r4 w) (hn : m2 = false) : TwoB Z m1 true d1 d2 x1 (.pointer (some ⟨w.heap.size, 0, none⟩)) r1 r2 r3 r4 (w.alloc (.cells #[u, v] 27)) := by
  have h' := h.later (below_alloc (o := .cells #[u, v] 27) (Below.refl _ w))
  refine ⟨h'.below, h'.at13, fun _ => ⟨_, u, v, rfl, h.below.size, World.alloc_heap_new _ _, fun hd => absurd (h.ok2 hd) (by simp [hn])⟩, fun hm _ e => ?_, h.ok1, fun _ => rfl⟩
  obtain ⟨b, p, q, e', _, hh, _⟩ := h.at13 hm
  rw [e'] at e
  simp only [Value.pointer.injEq, Option.some.injEq, Addr.mk.injEq] at e
  have := get_lt hh
  omega
theorem set_two {b : Nat} {p q u v : Value} {t : TypeId} (h : w.heap[b]? = some (.cells #[p, q] t (0, 0))) : ((w.setCell ⟨b, 0, none⟩ u).setCell ⟨b, 1, none⟩ v).heap[b]? = some (.cells #[u, v] t (0, 0)) := by
  simp [World.setCell, Array.getElem?_modify, h]
theorem set_below {b : Nat} {u v : Value} (hb : Below Z.heap.size Z w) (hl : Z.heap.size ≤ b) : Below Z.heap.size Z ((w.setCell ⟨b, 0, none⟩ u).setCell ⟨b, 1, none⟩ v) :=
  (hb.setCell (p := ⟨b, 0, none⟩) hl u).setCell (p := ⟨b, 1, none⟩) hl v
theorem set_far2 {b c : Nat} {u v : Value} {o : Obj} (h : w.heap[c]? = some o) (hne : b ≠ c) : ((w.setCell ⟨b, 0, none⟩ u).setCell ⟨b, 1, none⟩ v).heap[c]? = some o := by
  simp [World.setCell, Array.getElem?_modify, h, hne]
theorem TwoB.put1 {b : Nat} (h : TwoB Z m1 m2 d1 d2 (.pointer (some ⟨b, 0, none⟩)) x2 r1 r2 r3 r4 w) (hm : m1 = true) : TwoB Z m1 m2 true d2 (.pointer (some ⟨b, 0, none⟩)) x2 r1 r2 r3 r4 ((w.setCell ⟨b, 0, none⟩ (.int .i64 r1)).setCell ⟨b, 1, none⟩ (.int .i64 r2)) := by
  obtain ⟨b', p, q, e, hl, hh, _⟩ := h.at13 hm
  simp only [Value.pointer.injEq, Option.some.injEq, Addr.mk.injEq] at e
  obtain ⟨rfl, _⟩ := e
  refine ⟨set_below h.below hl, fun _ => ⟨b, _, _, rfl, hl, set_two hh, fun _ => ⟨rfl, rfl⟩⟩, fun hm2 => ?_, h.ne, fun _ => hm, h.ok2⟩
  obtain ⟨c, p2, q2, e2, hl2, hh2, hd2⟩ := h.at14 hm2
  exact ⟨c, p2, q2, e2, hl2, set_far2 hh2 (fun e => h.ne hm hm2 (by rw [e2, e])), hd2⟩
theorem TwoB.put2 {b : Nat} (h : TwoB Z m1 m2 d1 d2 x1 (.pointer (some ⟨b, 0, none⟩)) r1 r2 r3 r4 w) (hm : m2 = true) : TwoB Z m1 m2 d1 true x1 (.pointer (some ⟨b, 0, none⟩)) r1 r2 r3 r4 ((w.setCell ⟨b, 0, none⟩ (.int .i64 r3)).setCell ⟨b, 1, none⟩ (.int .i64 r4)) := by
  obtain ⟨b', p, q, e, hl, hh, _⟩ := h.at14 hm
  simp only [Value.pointer.injEq, Option.some.injEq, Addr.mk.injEq] at e
  obtain ⟨rfl, _⟩ := e
  refine ⟨set_below h.below hl, fun hm2 => ?_, fun _ => ⟨b, _, _, rfl, hl, set_two hh, fun _ => ⟨rfl, rfl⟩⟩, h.ne, h.ok1, fun _ => hm⟩
  obtain ⟨c, p2, q2, e2, hl2, hh2, hd2⟩ := h.at13 hm2
  exact ⟨c, p2, q2, e2, hl2, set_far2 hh2 (fun e => h.ne hm2 hm (by rw [e2, e])), hd2⟩
end
set_option maxRecDepth 100000 in
set_option maxHeartbeats 2400000 in
theorem Faces_hip (L D H A B C : Nat) (w : World) (R : Rf L D H A B C) (hv : okRoof L D A B C = true) :
    Calls Try.prog 10 #[roofV L D A B C true] w (PostF w 4 (facesL L H B C true 4)) := by
  have VA := Lib.hid fun V => hv ▸ ValidRoof_any L D A B C true V
  have hD : D ≤ 400 := by have := R.dl; have := R.l2; omega
  have hH : H ≤ 200 := by have := R.dh; omega
  have hm1 : (L - H) * H ≤ 160000 := grN_le (h := true) (j := 0) R.l2 hH
  have hm2 : H * H ≤ 160000 := grN_le (h := true) (j := 2) R.l2 hH
  have e1 := wrap_mul hm1 (by omega)
  have e2 := wrap_mul hm2 (by omega)
  have s0 : (L : Int) - (H : Int) = ((L - H : Nat) : Int) := by have := R.dl; have := R.dh; omega
  have s1 : IntKind.i64.wrap ((L : Int) - (H : Int)) = ((L - H : Nat) : Int) := by rw [s0]; exact i64_nat (by have := R.l2; omega)
  have b1 := R.l2
  obtain ⟨t1, t2⟩ := half_of R.dh hD
  have t3 : (D : Int) / 2 = (H : Int) := by have := R.dh; omega
  have SL1 := Lib.hid fun V => sloped_any L D A B C ((L - H) * H) true V hm1 R.b1 R.c1.2
  have SL2 := Lib.hid fun V => sloped_any L D A B C (H * H) true V hm2 R.b1 R.c1.2
  have HF : Hid (facesL L H B C true 4 = [(((loN ((L - H) * H * C) B : Nat) : Int), ((loD ((L - H) * H * C) B : Nat) : Int)), (((loN ((L - H) * H * C) B : Nat) : Int), ((loD ((L - H) * H * C) B : Nat) : Int)), (((loN (H * H * C) B : Nat) : Int), ((loD (H * H * C) B : Nat) : Int)), (((loN (H * H * C) B : Nat) : Int), ((loD (H * H * C) B : Nat) : Int))]) := rfl
  unfold ratV at SL1 SL2
  unfold roofV at VA SL1 SL2 ⊢
  generalize facesL L H B C true 4 = fl at *
  generalize loN ((L - H) * H * C) B = r1 at *
  generalize loD ((L - H) * H * C) B = r2 at *
  generalize loN (H * H * C) B = r3 at *
  generalize loD (H * H * C) B = r4 at *
  generalize (L - H) * H = p1 at *
  generalize H * H = p2 at *
  generalize L - H = q at *
  clear hv R s0
  go_enter Try.func10, Try.ntmps10
  go_wp2_with (first
    | ((go_at_call 8; with_reducible refine Calls.mono (Gives.calls (VA.out _)) ?_; rintro e w1 ⟨rfl, z, rfl⟩); obtain ⟨⟨x0, x1, x2, x3, x4, x5⟩, lx⟩ := roof_at (w := w) (V := z.val) (l := L) (d := D) (a := A) (b := B) (c := C) (by repeat (first | exact Below.refl _ _ | (with_reducible assumption) | apply below_later | apply below_alloc | apply below_drew | apply below_drewN))))
  have HBW : Hid (Below w.heap.size w z.val) := by show Below _ _ _; repeat (first | exact Below.refl _ _ | (with_reducible assumption) | apply below_later | apply below_alloc | apply below_drew | apply below_drewN)
  clear VA
  obtain ⟨b8, hb8⟩ : ∃ b8, w.heap.size = b8 := ⟨_, rfl⟩
  have HB8 := Lib.hid hb8
  rw [hb8] at x0 x1 x2 x3 x4 x5 lx ⊢
  clear hb8
  generalize z.val = Z at *
  have HX : Hid (∀ V, Below Z.heap.size Z V → (V.cell? ⟨b8, 0, none⟩ = some (.int .i64 L) ∧ V.cell? ⟨b8, 1, none⟩ = some (.int .i64 D) ∧ V.cell? ⟨b8, 2, none⟩ = some (.int .i64 A) ∧ V.cell? ⟨b8, 3, none⟩ = some (.int .i64 B) ∧ V.cell? ⟨b8, 4, none⟩ = some (.int .i64 C) ∧ V.cell? ⟨b8, 5, none⟩ = some (.bool true)) ∧ b8 < V.heap.size) := fun V h =>
    ⟨⟨(h.cell (p := ⟨b8, 0, none⟩) lx).trans x0, (h.cell (p := ⟨b8, 1, none⟩) lx).trans x1, (h.cell (p := ⟨b8, 2, none⟩) lx).trans x2, (h.cell (p := ⟨b8, 3, none⟩) lx).trans x3, (h.cell (p := ⟨b8, 4, none⟩) lx).trans x4, (h.cell (p := ⟨b8, 5, none⟩) lx).trans x5⟩, Nat.lt_of_lt_of_le lx h.size⟩
  go_cut [6, 7] (fun s6 s7 wx => ∃ b6 b7, s6 = .pointer (some ⟨b6, 0, none⟩) ∧ s7 = .pointer (some ⟨b7, 0, none⟩) ∧ (wx.cell? ⟨b6, 0, none⟩ = some (.int .i64 r1) ∧ wx.cell? ⟨b6, 1, none⟩ = some (.int .i64 r2)) ∧ (wx.cell? ⟨b7, 0, none⟩ = some (.int .i64 r3) ∧ wx.cell? ⟨b7, 1, none⟩ = some (.int .i64 r4)) ∧ Below Z.heap.size Z wx)
  case first =>
    refine wp_region_inv (fun a0 L' a' w' => ∃ x26 x27 x28 x29 x30 x31 x32 x33 x34 x35 x36 x37 x38 x6 x7 : Value, a' = putL a0 [26, 27, 28, 29, 30, 31, 32, 33, 34, 35, 36, 37, 38, 6, 7] [x26, x27, x28, x29, x30, x31, x32, x33, x34, x35, x36, x37, x38, x6, x7] ∧ ((L' 0 = true → x26 = .agg #[.int .i64 L, .int .i64 D, .int .i64 A, .int .i64 B, .int .i64 C, .bool true]) ∧ (L' 1 = true → x27 = .pointer (some ⟨b8, 0, none⟩)) ∧ (L' 2 = true → x28 = .int .i64 L) ∧ (L' 3 = true → x29 = .int .i64 H) ∧ (L' 4 = true → x30 = .int .i64 q) ∧ (L' 5 = true → x31 = .int .i64 H) ∧ (L' 6 = true → x32 = .int .i64 p1) ∧ (L' 7 = true → x33 = .agg #[.int .i64 r1, .int .i64 r2]) ∧ (L' 8 = true → x34 = .agg #[.int .i64 L, .int .i64 D, .int .i64 A, .int .i64 B, .int .i64 C, .bool true]) ∧ (L' 9 = true → x35 = .int .i64 H) ∧ (L' 10 = true → x36 = .int .i64 H) ∧ (L' 11 = true → x37 = .int .i64 p2) ∧ (L' 12 = true → x38 = .agg #[.int .i64 r3, .int .i64 r4])) ∧ TwoB Z (L' 13) (L' 14) (L' 15) (L' 16) x6 x7 r1 r2 r3 r4 w') (by kernel_rfl) (by kernel_rfl) ?_ ?_ ?_
    · refine ⟨_, _, _, _, _, _, _, _, _, _, _, _, _, _, _, putL_self _ _, ?_, ?_⟩
      · exact ⟨fun h => Bool.noConfusion h, fun h => Bool.noConfusion h, fun h => Bool.noConfusion h, fun h => Bool.noConfusion h, fun h => Bool.noConfusion h, fun h => Bool.noConfusion h, fun h => Bool.noConfusion h, fun h => Bool.noConfusion h, fun h => Bool.noConfusion h, fun h => Bool.noConfusion h, fun h => Bool.noConfusion h, fun h => Bool.noConfusion h, fun h => Bool.noConfusion h⟩
      · exact ⟨below_drew (Below.refl _ _), fun h => Bool.noConfusion h, fun h => Bool.noConfusion h, fun h => Bool.noConfusion h, fun h => Bool.noConfusion h, fun h => Bool.noConfusion h⟩
    ·
      refine steps_cons ?_ ?_
      · rintro L' a w K hn ha ⟨x26, x27, x28, x29, x30, x31, x32, x33, x34, x35, x36, x37, x38, x6, x7, rfl, ⟨f0, f1, f2, f3, f4, f5, f6, f7, f8, f9, f10, f11, f12⟩, hW⟩ hK
        have hB := hW.below
        have hx := HX.out w hB
        have ly := hx.2
        have hx := hx.1
        have y0 := hx.1; have y1 := hx.2.1; have y2 := hx.2.2.1; have y3 := hx.2.2.2.1; have y4 := hx.2.2.2.2.1; have y5 := hx.2.2.2.2.2; clear hx
        refine ⟨?_⟩
        simp only [putL, Act.put, List.setIfInBounds_toArray, List.set_cons_zero, List.set_cons_succ]
        go_simp
        exact hK.out _ _ ⟨.agg #[.int .i64 L, .int .i64 D, .int .i64 A, .int .i64 B, .int .i64 C, .bool true], x27, x28, x29, x30, x31, x32, x33, x34, x35, x36, x37, x38, x6, x7, by simp only [putL, Act.put, List.setIfInBounds_toArray, List.set_cons_zero, List.set_cons_succ], ⟨fun _ => rfl, f1, f2, f3, f4, f5, f6, f7, f8, f9, f10, f11, f12⟩, hW⟩
      refine steps_cons ?_ ?_
      · rintro L' a w K hn ha ⟨x26, x27, x28, x29, x30, x31, x32, x33, x34, x35, x36, x37, x38, x6, x7, rfl, ⟨f0, f1, f2, f3, f4, f5, f6, f7, f8, f9, f10, f11, f12⟩, hW⟩ hK
        have hB := hW.below
        have hx := HX.out w hB
        have ly := hx.2
        have hx := hx.1
        have y0 := hx.1; have y1 := hx.2.1; have y2 := hx.2.2.1; have y3 := hx.2.2.2.1; have y4 := hx.2.2.2.2.1; have y5 := hx.2.2.2.2.2; clear hx
        refine ⟨?_⟩
        simp only [putL, Act.put, List.setIfInBounds_toArray, List.set_cons_zero, List.set_cons_succ]
        go_simp
        exact hK.out _ _ ⟨x26, .pointer (some ⟨b8, 0, none⟩), x28, x29, x30, x31, x32, x33, x34, x35, x36, x37, x38, x6, x7, by simp only [putL, Act.put, List.setIfInBounds_toArray, List.set_cons_zero, List.set_cons_succ], ⟨f0, fun _ => rfl, f2, f3, f4, f5, f6, f7, f8, f9, f10, f11, f12⟩, hW⟩
      refine steps_cons ?_ ?_
      · rintro L' a w K hn ha ⟨x26, x27, x28, x29, x30, x31, x32, x33, x34, x35, x36, x37, x38, x6, x7, rfl, ⟨f0, f1, f2, f3, f4, f5, f6, f7, f8, f9, f10, f11, f12⟩, hW⟩ hK
        obtain rfl := f1 (afterL_get ha 1 (by kernel_rfl))
        have hB := hW.below
        have hx := HX.out w hB
        have ly := hx.2
        have hx := hx.1
        have y0 := hx.1; have y1 := hx.2.1; have y2 := hx.2.2.1; have y3 := hx.2.2.2.1; have y4 := hx.2.2.2.2.1; have y5 := hx.2.2.2.2.2; clear hx
        refine ⟨?_⟩
        simp only [putL, Act.put, List.setIfInBounds_toArray, List.set_cons_zero, List.set_cons_succ]
        go_simp
        exact hK.out _ _ ⟨x26, .pointer (some ⟨b8, 0, none⟩), .int .i64 L, x29, x30, x31, x32, x33, x34, x35, x36, x37, x38, x6, x7, by simp only [putL, Act.put, List.setIfInBounds_toArray, List.set_cons_zero, List.set_cons_succ], ⟨f0, f1, fun _ => rfl, f3, f4, f5, f6, f7, f8, f9, f10, f11, f12⟩, hW⟩
      refine steps_cons ?_ ?_
      · rintro L' a w K hn ha ⟨x26, x27, x28, x29, x30, x31, x32, x33, x34, x35, x36, x37, x38, x6, x7, rfl, ⟨f0, f1, f2, f3, f4, f5, f6, f7, f8, f9, f10, f11, f12⟩, hW⟩ hK
        have hB := hW.below
        have hx := HX.out w hB
        have ly := hx.2
        have hx := hx.1
        have y0 := hx.1; have y1 := hx.2.1; have y2 := hx.2.2.1; have y3 := hx.2.2.2.1; have y4 := hx.2.2.2.2.1; have y5 := hx.2.2.2.2.2; clear hx
        refine ⟨?_⟩
        simp only [putL, Act.put, List.setIfInBounds_toArray, List.set_cons_zero, List.set_cons_succ]
        go_simp
        exact hK.out _ _ ⟨x26, x27, x28, .int .i64 H, x30, x31, x32, x33, x34, x35, x36, x37, x38, x6, x7, by simp only [putL, Act.put, List.setIfInBounds_toArray, List.set_cons_zero, List.set_cons_succ], ⟨f0, f1, f2, fun _ => rfl, f4, f5, f6, f7, f8, f9, f10, f11, f12⟩, hW⟩
      refine steps_cons ?_ ?_
      · rintro L' a w K hn ha ⟨x26, x27, x28, x29, x30, x31, x32, x33, x34, x35, x36, x37, x38, x6, x7, rfl, ⟨f0, f1, f2, f3, f4, f5, f6, f7, f8, f9, f10, f11, f12⟩, hW⟩ hK
        obtain rfl := f2 (afterL_get ha 2 (by kernel_rfl))
        obtain rfl := f3 (afterL_get ha 3 (by kernel_rfl))
        have hB := hW.below
        have hx := HX.out w hB
        have ly := hx.2
        have hx := hx.1
        have y0 := hx.1; have y1 := hx.2.1; have y2 := hx.2.2.1; have y3 := hx.2.2.2.1; have y4 := hx.2.2.2.2.1; have y5 := hx.2.2.2.2.2; clear hx
        refine ⟨?_⟩
        simp only [putL, Act.put, List.setIfInBounds_toArray, List.set_cons_zero, List.set_cons_succ]
        go_simp
        exact hK.out _ _ ⟨x26, x27, .int .i64 L, .int .i64 H, .int .i64 q, x31, x32, x33, x34, x35, x36, x37, x38, x6, x7, by simp only [putL, Act.put, List.setIfInBounds_toArray, List.set_cons_zero, List.set_cons_succ], ⟨f0, f1, f2, f3, fun _ => rfl, f5, f6, f7, f8, f9, f10, f11, f12⟩, hW⟩
      refine steps_cons ?_ ?_
      · rintro L' a w K hn ha ⟨x26, x27, x28, x29, x30, x31, x32, x33, x34, x35, x36, x37, x38, x6, x7, rfl, ⟨f0, f1, f2, f3, f4, f5, f6, f7, f8, f9, f10, f11, f12⟩, hW⟩ hK
        have hB := hW.below
        have hx := HX.out w hB
        have ly := hx.2
        have hx := hx.1
        have y0 := hx.1; have y1 := hx.2.1; have y2 := hx.2.2.1; have y3 := hx.2.2.2.1; have y4 := hx.2.2.2.2.1; have y5 := hx.2.2.2.2.2; clear hx
        refine ⟨?_⟩
        simp only [putL, Act.put, List.setIfInBounds_toArray, List.set_cons_zero, List.set_cons_succ]
        go_simp
        exact hK.out _ _ ⟨x26, x27, x28, x29, x30, .int .i64 H, x32, x33, x34, x35, x36, x37, x38, x6, x7, by simp only [putL, Act.put, List.setIfInBounds_toArray, List.set_cons_zero, List.set_cons_succ], ⟨f0, f1, f2, f3, f4, fun _ => rfl, f6, f7, f8, f9, f10, f11, f12⟩, hW⟩
      refine steps_cons ?_ ?_
      · rintro L' a w K hn ha ⟨x26, x27, x28, x29, x30, x31, x32, x33, x34, x35, x36, x37, x38, x6, x7, rfl, ⟨f0, f1, f2, f3, f4, f5, f6, f7, f8, f9, f10, f11, f12⟩, hW⟩ hK
        obtain rfl := f4 (afterL_get ha 4 (by kernel_rfl))
        obtain rfl := f5 (afterL_get ha 5 (by kernel_rfl))
        have hB := hW.below
        have hx := HX.out w hB
        have ly := hx.2
        have hx := hx.1
        have y0 := hx.1; have y1 := hx.2.1; have y2 := hx.2.2.1; have y3 := hx.2.2.2.1; have y4 := hx.2.2.2.2.1; have y5 := hx.2.2.2.2.2; clear hx
        refine ⟨?_⟩
        simp only [putL, Act.put, List.setIfInBounds_toArray, List.set_cons_zero, List.set_cons_succ]
        go_simp
        exact hK.out _ _ ⟨x26, x27, x28, x29, .int .i64 q, .int .i64 H, .int .i64 p1, x33, x34, x35, x36, x37, x38, x6, x7, by simp only [putL, Act.put, List.setIfInBounds_toArray, List.set_cons_zero, List.set_cons_succ], ⟨f0, f1, f2, f3, f4, f5, fun _ => rfl, f7, f8, f9, f10, f11, f12⟩, hW⟩
      refine steps_cons ?_ ?_
      · rintro L' a w K hn ha ⟨x26, x27, x28, x29, x30, x31, x32, x33, x34, x35, x36, x37, x38, x6, x7, rfl, ⟨f0, f1, f2, f3, f4, f5, f6, f7, f8, f9, f10, f11, f12⟩, hW⟩ hK
        obtain rfl := f0 (afterL_get ha 0 (by kernel_rfl))
        obtain rfl := f6 (afterL_get ha 6 (by kernel_rfl))
        have hB := hW.below
        have hx := HX.out w hB
        have ly := hx.2
        have hx := hx.1
        have y0 := hx.1; have y1 := hx.2.1; have y2 := hx.2.2.1; have y3 := hx.2.2.2.1; have y4 := hx.2.2.2.2.1; have y5 := hx.2.2.2.2.2; clear hx
        refine ⟨?_⟩
        simp only [putL, Act.put, List.setIfInBounds_toArray, List.set_cons_zero, List.set_cons_succ]
        go_simp
        go_at_call 28
        with_reducible refine Calls.mono (Gives.calls (SL1.out _)) ?_
        rintro e w1 ⟨rfl, z1, rfl⟩
        exact hK.out _ _ ⟨.agg #[.int .i64 L, .int .i64 D, .int .i64 A, .int .i64 B, .int .i64 C, .bool true], x27, x28, x29, x30, x31, .int .i64 p1, .agg #[.int .i64 r1, .int .i64 r2], x34, x35, x36, x37, x38, x6, x7, by simp only [putL, Act.put, List.setIfInBounds_toArray, List.set_cons_zero, List.set_cons_succ], ⟨f0, f1, f2, f3, f4, f5, f6, fun _ => rfl, f8, f9, f10, f11, f12⟩, hW.later z1.ok⟩
      refine steps_cons ?_ ?_
      · rintro L' a w K hn ha ⟨x26, x27, x28, x29, x30, x31, x32, x33, x34, x35, x36, x37, x38, x6, x7, rfl, ⟨f0, f1, f2, f3, f4, f5, f6, f7, f8, f9, f10, f11, f12⟩, hW⟩ hK
        have hB := hW.below
        have hx := HX.out w hB
        have ly := hx.2
        have hx := hx.1
        have y0 := hx.1; have y1 := hx.2.1; have y2 := hx.2.2.1; have y3 := hx.2.2.2.1; have y4 := hx.2.2.2.2.1; have y5 := hx.2.2.2.2.2; clear hx
        refine ⟨?_⟩
        simp only [putL, Act.put, List.setIfInBounds_toArray, List.set_cons_zero, List.set_cons_succ]
        go_simp
        exact hK.out _ _ ⟨x26, x27, x28, x29, x30, x31, x32, x33, .agg #[.int .i64 L, .int .i64 D, .int .i64 A, .int .i64 B, .int .i64 C, .bool true], x35, x36, x37, x38, x6, x7, by simp only [putL, Act.put, List.setIfInBounds_toArray, List.set_cons_zero, List.set_cons_succ], ⟨f0, f1, f2, f3, f4, f5, f6, f7, fun _ => rfl, f9, f10, f11, f12⟩, hW⟩
      refine steps_cons ?_ ?_
      · rintro L' a w K hn ha ⟨x26, x27, x28, x29, x30, x31, x32, x33, x34, x35, x36, x37, x38, x6, x7, rfl, ⟨f0, f1, f2, f3, f4, f5, f6, f7, f8, f9, f10, f11, f12⟩, hW⟩ hK
        have hB := hW.below
        have hx := HX.out w hB
        have ly := hx.2
        have hx := hx.1
        have y0 := hx.1; have y1 := hx.2.1; have y2 := hx.2.2.1; have y3 := hx.2.2.2.1; have y4 := hx.2.2.2.2.1; have y5 := hx.2.2.2.2.2; clear hx
        refine ⟨?_⟩
        simp only [putL, Act.put, List.setIfInBounds_toArray, List.set_cons_zero, List.set_cons_succ]
        go_simp
        exact hK.out _ _ ⟨x26, x27, x28, x29, x30, x31, x32, x33, x34, .int .i64 H, x36, x37, x38, x6, x7, by simp only [putL, Act.put, List.setIfInBounds_toArray, List.set_cons_zero, List.set_cons_succ], ⟨f0, f1, f2, f3, f4, f5, f6, f7, f8, fun _ => rfl, f10, f11, f12⟩, hW⟩
      refine steps_cons ?_ ?_
      · rintro L' a w K hn ha ⟨x26, x27, x28, x29, x30, x31, x32, x33, x34, x35, x36, x37, x38, x6, x7, rfl, ⟨f0, f1, f2, f3, f4, f5, f6, f7, f8, f9, f10, f11, f12⟩, hW⟩ hK
        have hB := hW.below
        have hx := HX.out w hB
        have ly := hx.2
        have hx := hx.1
        have y0 := hx.1; have y1 := hx.2.1; have y2 := hx.2.2.1; have y3 := hx.2.2.2.1; have y4 := hx.2.2.2.2.1; have y5 := hx.2.2.2.2.2; clear hx
        refine ⟨?_⟩
        simp only [putL, Act.put, List.setIfInBounds_toArray, List.set_cons_zero, List.set_cons_succ]
        go_simp
        exact hK.out _ _ ⟨x26, x27, x28, x29, x30, x31, x32, x33, x34, x35, .int .i64 H, x37, x38, x6, x7, by simp only [putL, Act.put, List.setIfInBounds_toArray, List.set_cons_zero, List.set_cons_succ], ⟨f0, f1, f2, f3, f4, f5, f6, f7, f8, f9, fun _ => rfl, f11, f12⟩, hW⟩
      refine steps_cons ?_ ?_
      · rintro L' a w K hn ha ⟨x26, x27, x28, x29, x30, x31, x32, x33, x34, x35, x36, x37, x38, x6, x7, rfl, ⟨f0, f1, f2, f3, f4, f5, f6, f7, f8, f9, f10, f11, f12⟩, hW⟩ hK
        obtain rfl := f9 (afterL_get ha 9 (by kernel_rfl))
        obtain rfl := f10 (afterL_get ha 10 (by kernel_rfl))
        have hB := hW.below
        have hx := HX.out w hB
        have ly := hx.2
        have hx := hx.1
        have y0 := hx.1; have y1 := hx.2.1; have y2 := hx.2.2.1; have y3 := hx.2.2.2.1; have y4 := hx.2.2.2.2.1; have y5 := hx.2.2.2.2.2; clear hx
        refine ⟨?_⟩
        simp only [putL, Act.put, List.setIfInBounds_toArray, List.set_cons_zero, List.set_cons_succ]
        go_simp
        exact hK.out _ _ ⟨x26, x27, x28, x29, x30, x31, x32, x33, x34, .int .i64 H, .int .i64 H, .int .i64 p2, x38, x6, x7, by simp only [putL, Act.put, List.setIfInBounds_toArray, List.set_cons_zero, List.set_cons_succ], ⟨f0, f1, f2, f3, f4, f5, f6, f7, f8, f9, f10, fun _ => rfl, f12⟩, hW⟩
      refine steps_cons ?_ ?_
      · rintro L' a w K hn ha ⟨x26, x27, x28, x29, x30, x31, x32, x33, x34, x35, x36, x37, x38, x6, x7, rfl, ⟨f0, f1, f2, f3, f4, f5, f6, f7, f8, f9, f10, f11, f12⟩, hW⟩ hK
        obtain rfl := f8 (afterL_get ha 8 (by kernel_rfl))
        obtain rfl := f11 (afterL_get ha 11 (by kernel_rfl))
        have hB := hW.below
        have hx := HX.out w hB
        have ly := hx.2
        have hx := hx.1
        have y0 := hx.1; have y1 := hx.2.1; have y2 := hx.2.2.1; have y3 := hx.2.2.2.1; have y4 := hx.2.2.2.2.1; have y5 := hx.2.2.2.2.2; clear hx
        refine ⟨?_⟩
        simp only [putL, Act.put, List.setIfInBounds_toArray, List.set_cons_zero, List.set_cons_succ]
        go_simp
        go_at_call 28
        with_reducible refine Calls.mono (Gives.calls (SL2.out _)) ?_
        rintro e w1 ⟨rfl, z1, rfl⟩
        exact hK.out _ _ ⟨x26, x27, x28, x29, x30, x31, x32, x33, .agg #[.int .i64 L, .int .i64 D, .int .i64 A, .int .i64 B, .int .i64 C, .bool true], x35, x36, .int .i64 p2, .agg #[.int .i64 r3, .int .i64 r4], x6, x7, by simp only [putL, Act.put, List.setIfInBounds_toArray, List.set_cons_zero, List.set_cons_succ], ⟨f0, f1, f2, f3, f4, f5, f6, f7, f8, f9, f10, f11, fun _ => rfl⟩, hW.later z1.ok⟩
      refine steps_cons ?_ ?_
      · rintro L' a w K hn ha ⟨x26, x27, x28, x29, x30, x31, x32, x33, x34, x35, x36, x37, x38, x6, x7, rfl, ⟨f0, f1, f2, f3, f4, f5, f6, f7, f8, f9, f10, f11, f12⟩, hW⟩ hK
        have hB := hW.below
        have hx := HX.out w hB
        have ly := hx.2
        have hx := hx.1
        have y0 := hx.1; have y1 := hx.2.1; have y2 := hx.2.2.1; have y3 := hx.2.2.2.1; have y4 := hx.2.2.2.2.1; have y5 := hx.2.2.2.2.2; clear hx
        refine ⟨?_⟩
        simp only [putL, Act.put, List.setIfInBounds_toArray, List.set_cons_zero, List.set_cons_succ]
        go_simp
        exact hK.out _ _ ⟨x26, x27, x28, x29, x30, x31, x32, x33, x34, x35, x36, x37, x38, .pointer (some ⟨w.heap.size, 0, none⟩), x7, by simp only [putL, Act.put, List.setIfInBounds_toArray, List.set_cons_zero, List.set_cons_succ], ⟨f0, f1, f2, f3, f4, f5, f6, f7, f8, f9, f10, f11, f12⟩, hW.new1 hn⟩
      refine steps_cons ?_ ?_
      · rintro L' a w K hn ha ⟨x26, x27, x28, x29, x30, x31, x32, x33, x34, x35, x36, x37, x38, x6, x7, rfl, ⟨f0, f1, f2, f3, f4, f5, f6, f7, f8, f9, f10, f11, f12⟩, hW⟩ hK
        have hB := hW.below
        have hx := HX.out w hB
        have ly := hx.2
        have hx := hx.1
        have y0 := hx.1; have y1 := hx.2.1; have y2 := hx.2.2.1; have y3 := hx.2.2.2.1; have y4 := hx.2.2.2.2.1; have y5 := hx.2.2.2.2.2; clear hx
        refine ⟨?_⟩
        simp only [putL, Act.put, List.setIfInBounds_toArray, List.set_cons_zero, List.set_cons_succ]
        go_simp
        exact hK.out _ _ ⟨x26, x27, x28, x29, x30, x31, x32, x33, x34, x35, x36, x37, x38, x6, .pointer (some ⟨w.heap.size, 0, none⟩), by simp only [putL, Act.put, List.setIfInBounds_toArray, List.set_cons_zero, List.set_cons_succ], ⟨f0, f1, f2, f3, f4, f5, f6, f7, f8, f9, f10, f11, f12⟩, hW.new2 hn⟩
      refine steps_cons ?_ ?_
      · rintro L' a w K hn ha ⟨x26, x27, x28, x29, x30, x31, x32, x33, x34, x35, x36, x37, x38, x6, x7, rfl, ⟨f0, f1, f2, f3, f4, f5, f6, f7, f8, f9, f10, f11, f12⟩, hW⟩ hK
        have hB := hW.below
        have hx := HX.out w hB
        have ly := hx.2
        have hx := hx.1
        have y0 := hx.1; have y1 := hx.2.1; have y2 := hx.2.2.1; have y3 := hx.2.2.2.1; have y4 := hx.2.2.2.2.1; have y5 := hx.2.2.2.2.2; clear hx
        obtain rfl := f7 (afterL_get ha 7 (by kernel_rfl))
        obtain ⟨bb, pp, qq, rfl, hlo, hh, _⟩ := hW.at13 (afterL_get ha 13 (by kernel_rfl))
        have c0 := cell_of_heap hh 0 _ rfl
        have c1 := cell_of_heap hh 1 _ rfl
        have t0 := thaw_of hh 0
        have t1 := thaw_of hh 1
        refine ⟨?_⟩
        simp only [putL, Act.put, List.setIfInBounds_toArray, List.set_cons_zero, List.set_cons_succ]
        go_simp
        exact hK.out _ _ ⟨x26, x27, x28, x29, x30, x31, x32, .agg #[.int .i64 r1, .int .i64 r2], x34, x35, x36, x37, x38, .pointer (some ⟨bb, 0, none⟩), x7, by simp only [putL, Act.put, List.setIfInBounds_toArray, List.set_cons_zero, List.set_cons_succ], ⟨f0, f1, f2, f3, f4, f5, f6, f7, f8, f9, f10, f11, f12⟩, hW.put1 (afterL_get ha 13 (by kernel_rfl))⟩
      refine steps_cons ?_ ?_
      · rintro L' a w K hn ha ⟨x26, x27, x28, x29, x30, x31, x32, x33, x34, x35, x36, x37, x38, x6, x7, rfl, ⟨f0, f1, f2, f3, f4, f5, f6, f7, f8, f9, f10, f11, f12⟩, hW⟩ hK
        have hB := hW.below
        have hx := HX.out w hB
        have ly := hx.2
        have hx := hx.1
        have y0 := hx.1; have y1 := hx.2.1; have y2 := hx.2.2.1; have y3 := hx.2.2.2.1; have y4 := hx.2.2.2.2.1; have y5 := hx.2.2.2.2.2; clear hx
        obtain rfl := f12 (afterL_get ha 12 (by kernel_rfl))
        obtain ⟨bb, pp, qq, rfl, hlo, hh, _⟩ := hW.at14 (afterL_get ha 14 (by kernel_rfl))
        have c0 := cell_of_heap hh 0 _ rfl
        have c1 := cell_of_heap hh 1 _ rfl
        have t0 := thaw_of hh 0
        have t1 := thaw_of hh 1
        refine ⟨?_⟩
        simp only [putL, Act.put, List.setIfInBounds_toArray, List.set_cons_zero, List.set_cons_succ]
        go_simp
        exact hK.out _ _ ⟨x26, x27, x28, x29, x30, x31, x32, x33, x34, x35, x36, x37, .agg #[.int .i64 r3, .int .i64 r4], x6, .pointer (some ⟨bb, 0, none⟩), by simp only [putL, Act.put, List.setIfInBounds_toArray, List.set_cons_zero, List.set_cons_succ], ⟨f0, f1, f2, f3, f4, f5, f6, f7, f8, f9, f10, f11, f12⟩, hW.put2 (afterL_get ha 14 (by kernel_rfl))⟩
      exact steps_nil
    · rintro L' a' w' hall ⟨x26, x27, x28, x29, x30, x31, x32, x33, x34, x35, x36, x37, x38, x6, x7, rfl, ⟨f0, f1, f2, f3, f4, f5, f6, f7, f8, f9, f10, f11, f12⟩, hW⟩
      obtain ⟨bb, pp, qq, rfl, hlo, hh, hd⟩ := hW.at13 (hall 13 (by decide))
      obtain ⟨bc, pc, qc, rfl, hlc, hc, he⟩ := hW.at14 (hall 14 (by decide))
      obtain ⟨rfl, rfl⟩ := hd (hall 15 (by decide))
      obtain ⟨rfl, rfl⟩ := he (hall 16 (by decide))
      simp only [putL, Act.put, List.setIfInBounds_toArray, List.set_cons_zero, List.set_cons_succ]
      go_wp2
      go_meet
      exact ⟨_, _, rfl, rfl, ⟨cell_of_heap hh 0 _ rfl, cell_of_heap hh 1 _ rfl⟩, ⟨cell_of_heap hc 0 _ rfl, cell_of_heap hc 1 _ rfl⟩, hW.below⟩
  case rest =>
    obtain ⟨b6, b7, rfl, rfl, ⟨c0, c1⟩, ⟨c2, c3⟩, hb⟩ := hcut
    have HB := Lib.hid hb
    clear hb
    go_wp2
    refine bodyPost_ret (v := .tuple #[.slice _ 4 4, .int .i64 0]) (by simp [results, Try.results10, go_sem]; rfl) rfl ?_
    exact ⟨_, 4, rfl, ⟨_, below_more HBW.out (HB.out.alloc HB.out.size _)⟩, rfl, pairs_new (World.alloc_heap_new _ _) (by rw [HF.out]; rfl) (by rw [HF.out]; rfl) (by omega)⟩
end Go.Proofs.Ytcjahpbbkdkbpaa
