/- The law of coats: walked. -/
import Derived.Test.YtjokpangacahgaaTThin
import Derived.ChangeKeysEq
namespace Go.Proofs.Ytjokpangacahgaa
open Go.RowKit

theorem guard_pair : Try.prog.eqGuardType Try.prog.depth 57 = false := by kernel_rfl
theorem plain_int : Try.prog.plainKey 3 = true := by kernel_rfl
theorem cells_int : Try.prog.cellsOf 3 = 1 := by kernel_rfl
theorem eq_pair (w : World) (a b x y : Int) : (Op.equalIn 10000 57 (.agg #[.int .i64 a, .int .i64 b]) (.agg #[.int .i64 x, .int .i64 y])).run Try.prog w = .ok ((a == x) && (b == y)) w := by
  obtain ⟨i, hi, _⟩ := info_int
  rw [run_equalIn_array w 9999 _ _ Try.underlying57 hi, cells_int]
  have p0 : ∀ (w : World) (u v : Value), (part 3 #[u, v] 0).run Try.prog w = .ok u w := fun w u v => run_part_plain w plain_int rfl
  have p1 : ∀ (w : World) (u v : Value), (part 3 #[u, v] 1).run Try.prog w = .ok v w := fun w u v => run_part_plain w plain_int rfl
  have q : ∀ (w : World) (u v : Int), (Op.equalIn 9999 3 (.int .i64 u) (.int .i64 v)).run Try.prog w = .ok (u == v) w := fun w u v => run_equalIn_int w 9998 _ _ _ u v Try.underlying3
  simp only [List.range_succ, List.range_zero, List.nil_append, List.cons_append, Op.eqItems, Nat.zero_mul, Nat.one_mul, Sem.run_bind, p0, p1, q, Result.andThen_ok]
  by_cases h1 : a = x <;> by_cases h2 : b = y <;> simp [h1, h2, p0, p1, q]
attribute [local go_sem] guard_pair eq_pair
theorem okCoat_congr {s g r : Int} {n : Nat} {f k : Nat → Int} (h : ∀ i, i < n → f i = k i) : okCoat s g r n f = okCoat s g r n k := by
  have e : ascB n f (upN s.toNat g.toNat : Nat) = ascB n k (upN s.toNat g.toNat : Nat) := by
    have key : ∀ c : Int, ∀ i, i < n → ascQ f c i = ascQ k c i := fun c i hi => by
      unfold ascQ
      rw [h i hi]
      by_cases h0 : 0 < i
      · rw [h (i - 1) (by omega)]
      · rw [decide_eq_false h0]; rfl
    unfold ascB allB
    rw [Bool.eq_iff_iff, List.all_eq_true, List.all_eq_true]
    constructor
    · intro hA x hx; rw [← key _ x (List.mem_range.1 hx)]; exact hA x hx
    · intro hA x hx; rw [key _ x (List.mem_range.1 hx)]; exact hA x hx
  unfold okCoat
  rw [e]
def Both (f f' : FuncId) (a : Array Value) (w : World) (v : Value) : Prop := (∀ V, Below w.heap.size w V → Gives Try.prog f a V v) ∧ ∀ V, Below w.heap.size w V → Gives Try.prog f' a V v
def BothQ (f f' : FuncId) (a : Array Value) (w : World) (m : Nat) (E : Int) (X Y : Nat → Int) : Prop :=
  (∀ V, Below w.heap.size w V → Calls Try.prog f a V fun e w' => ∃ A c, e = .returned (.tuple #[.slice A m c, .int .i64 E]) ∧ ∃ x : Later V, w' = x.val ∧ IsPairs w' A m X Y) ∧
  ∀ V, Below w.heap.size w V → Calls Try.prog f' a V fun e w' => ∃ A c, e = .returned (.tuple #[.slice A m c, .int .i64 E]) ∧ ∃ x : Later V, w' = x.val ∧ IsPairs w' A m X Y
theorem none_pairs (V : World) (X Y : Nat → Int) : IsPairs V none 0 X Y := ⟨by omega, fun h => absurd h (by omega)⟩
theorem gives_none {f : FuncId} {a : Array Value} {V : World} {E : Int} (h : Gives Try.prog f a V (.tuple #[.slice none 0 0, .int .i64 E])) : Calls Try.prog f a V fun e w' => ∃ A c, e = .returned (.tuple #[.slice A 0 c, .int .i64 E]) ∧ ∃ x : Later V, w' = x.val ∧ IsPairs w' A 0 (fun _ => 0) (fun _ => 0) :=
  Calls.mono h fun _ w' ⟨he, x, hx⟩ => ⟨none, 0, he, x, hx, none_pairs _ _ _⟩
theorem post_pairs {f : FuncId} {a : Array Value} {V : World} {l : List Pt} (hs : l.length ≤ 100000) (h : Calls Try.prog f a V (PostQE V l)) : Calls Try.prog f a V fun e w' => ∃ A c, e = .returned (.tuple #[.slice A l.length c, .int .i64 0]) ∧ ∃ x : Later V, w' = x.val ∧ IsPairs w' A l.length (hx l) (hy l) :=
  Calls.mono h fun _ w' ⟨v, he, x, hx, ho⟩ => by
    obtain ⟨A, c, rfl⟩ := ho.shape
    exact ⟨A, c, he, x, hx, ho.pairs rfl (by omega)⟩
/-- What both sides say of a coat. -/
theorem coat_facts (s g q : Int) (A : Option Addr) (n cap : Nat) (f : Nat → Int) (inch lay : Int) (w : World) (hp : n ≤ 120 → IsInts w A n f) (hn : n ≤ 120) :
    ∃ (ok : Bool) (v1 v2 v3 v4 : Int) (e1 e2 e3 e4 e5 : Int) (m : Nat) (X Y : Nat → Int), m ≤ 100000 ∧
      Both 33 34 #[coatV s g q A n cap] w (.bool ok) ∧
      Both 29 30 #[coatV s g q A n cap] w (.tuple #[.int .i64 v1, .int .i64 e1]) ∧
      Both 31 32 #[coatV s g q A n cap, .int .i64 inch] w (.tuple #[.int .i64 v2, .int .i64 e2]) ∧
      Both 35 36 #[coatV s g q A n cap] w (.tuple #[.int .i64 v3, .int .i64 e3]) ∧
      Both 37 38 #[coatV s g q A n cap] w (.tuple #[.int .i64 v4, .int .i64 e4]) ∧
      BothQ 39 40 #[coatV s g q A n cap, .int .i64 lay] w m e5 X Y := by
  have hp0 := hp hn
  have hpb : ∀ V, Below w.heap.size w V → n ≤ 100 → IsInts V A n f := fun V h _ => hp0.below h
  have hVal : Both 33 34 #[coatV s g q A n cap] w (.bool (okCoat s g q n f)) := ⟨fun V h => ValidCoat_any s g q A n cap f V (hpb V h), fun V h => rValidCoat_any s g q A n cap f V (hpb V h)⟩
  by_cases hv : okCoat s g q n f = false
  · exact ⟨_, 0, 0, 0, 0, 81, 81, 81, 81, 81, 0, fun _ => 0, fun _ => 0, by omega, hVal, ⟨fun V h => Courses_bad s g q A n cap f V (hpb V h) hv, fun V h => rCourses_bad s g q A n cap f V (hpb V h) hv⟩,
      ⟨fun V h => Layers_bad s g q A n cap f inch V (hpb V h) hv, fun V h => rLayers_bad s g q A n cap f inch V (hpb V h) hv⟩,
      ⟨fun V h => Least_bad s g q A n cap f V (hpb V h) hv, fun V h => rLeast_bad s g q A n cap f V (hpb V h) hv⟩,
      ⟨fun V h => Reed_bad s g q A n cap f V (hpb V h) hv, fun V h => rReed_bad s g q A n cap f V (hpb V h) hv⟩,
      ⟨fun V h => gives_none (Thin_bad s g q A n cap f lay V (hpb V h) hv), fun V h => gives_none (rThin_bad s g q A n cap f lay V (hpb V h) hv)⟩⟩
  · have hv1 : okCoat s g q n f = true := by simpa using hv
    obtain ⟨S, G, R, k, rfl, rfl, rfl, hk, C⟩ := okCoat_nat hv1
    have hv2 : okCoat S G R n (fun j => ((k j : Nat) : Int)) = true := by rw [← okCoat_congr hk]; exact hv1
    have hpk : ∀ V, Below w.heap.size w V → IsInts V A n fun j => ((k j : Nat) : Int) := fun V h => (hp0.below h).congr hk
    have hS := C.hs
    have hL : ∃ v2 e2 : Int, Both 31 32 #[coatV S G R A n cap, .int .i64 inch] w (.tuple #[.int .i64 v2, .int .i64 e2]) := by
      by_cases hi : inI 0 inch ((S : Int) - 1) = false
      · exact ⟨0, 2, fun V h => Layers_arg S G R n cap A f inch V (by omega) (hpb V h) hv1 hi, fun V h => rLayers_arg S G R n cap A f inch V (by omega) (hpb V h) hv1 hi⟩
      · obtain ⟨i0, i1⟩ := inI_iff.1 (by simpa using hi : inI 0 inch ((S : Int) - 1) = true)
        obtain ⟨i, rfl⟩ : ∃ i : Nat, inch = i := ⟨inch.toNat, by omega⟩
        exact ⟨_, 0, fun V h => Layers_ok S G R n cap i A k V C (by omega) (hpk V h) hv2, fun V h => rLayers_ok S G R n cap i A k V C (by omega) (hpk V h) hv2⟩
    have hT : ∃ (m : Nat) (e5 : Int) (X Y : Nat → Int), m ≤ 100000 ∧ BothQ 39 40 #[coatV S G R A n cap, .int .i64 lay] w m e5 X Y := by
      by_cases hi : inI 0 lay 1000 = false
      · exact ⟨0, 2, fun _ => 0, fun _ => 0, by omega, fun V h => gives_none (Thin_arg S G R A n cap f lay V (hpb V h) hv1 hi), fun V h => gives_none (rThin_arg S G R A n cap f lay V (hpb V h) hv1 hi)⟩
      · obtain ⟨i0, i1⟩ := inI_iff.1 (by simpa using hi : inI 0 lay 1000 = true)
        obtain ⟨t, rfl⟩ : ∃ t : Nat, lay = t := ⟨lay.toNat, by omega⟩
        have hlen : (pairL (thinN (fun i => layN G R n k i (upN S G)) t S)).length ≤ 100000 := by
          rw [pairL_length]
          have := thin_len (fun i => layN G R n k i (upN S G)) t S
          omega
        exact ⟨_, 0, _, _, hlen, fun V h => post_pairs hlen (Thin_ok S G R n cap t A k V C (by omega) (hpk V h) hv2), fun V h => post_pairs hlen (rThin_ok S G R n cap t A k V C (by omega) (hpk V h) hv2)⟩
    obtain ⟨v2, e2, hL2⟩ := hL
    obtain ⟨m, e5, X, Y, hm, hT2⟩ := hT
    exact ⟨_, _, v2, _, _, 0, e2, 0, 0, e5, m, X, Y, hm, hVal, ⟨fun V h => Courses_ok S G R n cap A k V C (hpk V h) hv2, fun V h => rCourses_ok S G R n cap A k V C (hpk V h) hv2⟩, hL2,
      ⟨fun V h => Least_ok S G R n cap A k V C (hpk V h) hv2, fun V h => rLeast_ok S G R n cap A k V C (hpk V h) hv2⟩,
      ⟨fun V h => Reed_ok S G R n cap A k V C (hpk V h) hv2, fun V h => rReed_ok S G R n cap A k V C (hpk V h) hv2⟩, hT2⟩
set_option maxRecDepth 100000 in
set_option maxHeartbeats 6400000 in
theorem coats_law (s g q : Int) (A : Option Addr) (n cap : Nat) (f : Nat → Int) (inch lay : Int) (w : World) (hp : n ≤ 9223372036854775807 → IsInts w A n f) (hnm : n ≤ 9223372036854775807) :
    Gives Try.prog 5 #[coatV s g q A n cap, .int .i64 inch, .int .i64 lay] w (.bool true) := by
  have AW := Lib.hid awake_law
  by_cases hn : n ≤ 120
  · obtain ⟨ok, v1, v2, v3, v4, e1, e2, e3, e4, e5, m, X, Y, hm, hV, h1, h2, h3, h4, h5⟩ := coat_facts s g q A n cap f inch lay w (fun _ => hp (by omega)) hn
    have D1 := Lib.hid hV.1
    have D2 := Lib.hid hV.2
    have C1 := Lib.hid h1.1
    have C2 := Lib.hid h1.2
    have C3 := Lib.hid h2.1
    have C4 := Lib.hid h2.2
    have C5 := Lib.hid h3.1
    have C6 := Lib.hid h3.2
    have C7 := Lib.hid h4.1
    have C8 := Lib.hid h4.2
    have C9 := Lib.hid h5.1
    have C10 := Lib.hid h5.2
    have b0 : (ok != ok) = false := by simp
    have b1 : (v1 != v1) = false := by simp
    have b2 : (v2 != v2) = false := by simp
    have b3 : (v3 != v3) = false := by simp
    have b4 : (v4 != v4) = false := by simp
    have b5 : (e1 != e1) = false := by simp
    have b6 : (e2 != e2) = false := by simp
    have b7 : (e3 != e3) = false := by simp
    have b8 : (e4 != e4) = false := by simp
    have b9 : (e5 != e5) = false := by simp
    have b10 : ((m : Int) != (m : Int)) = false := by simp
    have hd : decide ((n : Int) > 120) = false := by simp; omega
    have hd' : decide ((120 : Int) < (n : Int)) = false := by simp; omega
    clear hV h1 h2 h3 h4 h5 hp
    unfold coatV at D1 D2 C1 C2 C3 C4 C5 C6 C7 C8 C9 C10 ⊢
    go_enter Try.func5, Try.ntmps5
    go_wp2_with (first
      | ((go_at_call 29; with_reducible refine Calls.mono (Gives.calls (C1.out _ (by repeat (first | exact Below.refl _ _ | (with_reducible assumption) | apply below_later | apply below_alloc | apply below_drew | apply below_drewN)))) ?_; rintro e w1 ⟨rfl, z1, rfl⟩); obtain ⟨⟨x0, x1, x2, x3⟩, lx⟩ := coat_at (w := w) (V := z1.val) (s := s) (g := g) (r := q) (A := A) (n := n) (c := cap) (by repeat (first | exact Below.refl _ _ | (with_reducible assumption) | apply below_later | apply below_alloc | apply below_drew | apply below_drewN)))
      | ((go_at_call 30; with_reducible refine Calls.mono (Gives.calls (C2.out _ (by repeat (first | exact Below.refl _ _ | (with_reducible assumption) | apply below_later | apply below_alloc | apply below_drew | apply below_drewN)))) ?_; rintro e w1 ⟨rfl, z2, rfl⟩); obtain ⟨⟨x0, x1, x2, x3⟩, lx⟩ := coat_at (w := w) (V := z2.val) (s := s) (g := g) (r := q) (A := A) (n := n) (c := cap) (by repeat (first | exact Below.refl _ _ | (with_reducible assumption) | apply below_later | apply below_alloc | apply below_drew | apply below_drewN)))
      | ((go_at_call 31; with_reducible refine Calls.mono (Gives.calls (C3.out _ (by repeat (first | exact Below.refl _ _ | (with_reducible assumption) | apply below_later | apply below_alloc | apply below_drew | apply below_drewN)))) ?_; rintro e w1 ⟨rfl, z3, rfl⟩); obtain ⟨⟨x0, x1, x2, x3⟩, lx⟩ := coat_at (w := w) (V := z3.val) (s := s) (g := g) (r := q) (A := A) (n := n) (c := cap) (by repeat (first | exact Below.refl _ _ | (with_reducible assumption) | apply below_later | apply below_alloc | apply below_drew | apply below_drewN)))
      | ((go_at_call 32; with_reducible refine Calls.mono (Gives.calls (C4.out _ (by repeat (first | exact Below.refl _ _ | (with_reducible assumption) | apply below_later | apply below_alloc | apply below_drew | apply below_drewN)))) ?_; rintro e w1 ⟨rfl, z4, rfl⟩); obtain ⟨⟨x0, x1, x2, x3⟩, lx⟩ := coat_at (w := w) (V := z4.val) (s := s) (g := g) (r := q) (A := A) (n := n) (c := cap) (by repeat (first | exact Below.refl _ _ | (with_reducible assumption) | apply below_later | apply below_alloc | apply below_drew | apply below_drewN))))
    have HBZ : Hid (Below w.heap.size w z4.val) := by show Below _ _ _; repeat (first | exact Below.refl _ _ | (with_reducible assumption) | apply below_later | apply below_alloc | apply below_drew | apply below_drewN)
    have HX : Hid (∀ V, Below z4.val.heap.size z4.val V → (V.cell? ⟨w.heap.size, 0, none⟩ = some (.int .i64 s) ∧ V.cell? ⟨w.heap.size, 1, none⟩ = some (.int .i64 g) ∧ V.cell? ⟨w.heap.size, 2, none⟩ = some (.int .i64 q) ∧ V.cell? ⟨w.heap.size, 3, none⟩ = some (.slice A n cap)) ∧ w.heap.size < V.heap.size) := fun V h =>
      ⟨⟨(h.cell (p := ⟨w.heap.size, 0, none⟩) lx).trans x0, (h.cell (p := ⟨w.heap.size, 1, none⟩) lx).trans x1, (h.cell (p := ⟨w.heap.size, 2, none⟩) lx).trans x2, (h.cell (p := ⟨w.heap.size, 3, none⟩) lx).trans x3⟩, Nat.lt_of_lt_of_le lx h.size⟩
    generalize z4.val = Z at *
    refine wp_region_later (by kernel_rfl) (by kernel_rfl) ?_
    repeat (go_big_quiet_step ((first | (go_at_call 33; (with_reducible refine Later.call _ (D1.out _ (below_more HBZ.out (by repeat (first | exact Below.refl _ _ | (with_reducible assumption) | apply below_later | apply below_alloc | apply below_drew | apply below_drewN)))))) | (go_at_call 34; (with_reducible refine Later.call _ (D2.out _ (below_more HBZ.out (by repeat (first | exact Below.refl _ _ | (with_reducible assumption) | apply below_later | apply below_alloc | apply below_drew | apply below_drewN)))))))))
    refine wpQuiet_nil ?_
    intro y
    obtain ⟨⟨x0, x1, x2, x3⟩, lx⟩ := HX.out y.val y.ok
    have HBY : Hid (Below w.heap.size w y.val) := below_more HBZ.out y.ok
    clear HX D1 D2 C1 C2 C3 C4 HBZ
    obtain ⟨b9', hb9'⟩ : ∃ b, w.heap.size = b := ⟨_, rfl⟩
    have HB9 := Lib.hid hb9'
    rw [hb9'] at x0 x1 x2 x3 lx ⊢
    clear hb9'
    generalize y.val = Y0 at *
    have HX : Hid (∀ V, Below Y0.heap.size Y0 V → (V.cell? ⟨b9', 0, none⟩ = some (.int .i64 s) ∧ V.cell? ⟨b9', 1, none⟩ = some (.int .i64 g) ∧ V.cell? ⟨b9', 2, none⟩ = some (.int .i64 q) ∧ V.cell? ⟨b9', 3, none⟩ = some (.slice A n cap)) ∧ b9' < V.heap.size) := fun V h =>
      ⟨⟨(h.cell (p := ⟨b9', 0, none⟩) lx).trans x0, (h.cell (p := ⟨b9', 1, none⟩) lx).trans x1, (h.cell (p := ⟨b9', 2, none⟩) lx).trans x2, (h.cell (p := ⟨b9', 3, none⟩) lx).trans x3⟩, Nat.lt_of_lt_of_le lx h.size⟩
    go_wp2_with (first
      | ((go_at_call 35; with_reducible refine Calls.mono (Gives.calls (C5.out _ (below_more HBY.out (by repeat (first | exact Below.refl _ _ | (with_reducible assumption) | apply below_later | apply below_alloc | apply below_drew | apply below_drewN))))) ?_; rintro e w1 ⟨rfl, z5, rfl⟩); obtain ⟨⟨x0, x1, x2, x3⟩, lx⟩ := HX.out z5.val (by repeat (first | exact Below.refl _ _ | (with_reducible assumption) | apply below_later | apply below_alloc | apply below_drew | apply below_drewN)))
      | ((go_at_call 36; with_reducible refine Calls.mono (Gives.calls (C6.out _ (below_more HBY.out (by repeat (first | exact Below.refl _ _ | (with_reducible assumption) | apply below_later | apply below_alloc | apply below_drew | apply below_drewN))))) ?_; rintro e w1 ⟨rfl, z6, rfl⟩); obtain ⟨⟨x0, x1, x2, x3⟩, lx⟩ := HX.out z6.val (by repeat (first | exact Below.refl _ _ | (with_reducible assumption) | apply below_later | apply below_alloc | apply below_drew | apply below_drewN)))
      | ((go_at_call 37; with_reducible refine Calls.mono (Gives.calls (C7.out _ (below_more HBY.out (by repeat (first | exact Below.refl _ _ | (with_reducible assumption) | apply below_later | apply below_alloc | apply below_drew | apply below_drewN))))) ?_; rintro e w1 ⟨rfl, z7, rfl⟩); obtain ⟨⟨x0, x1, x2, x3⟩, lx⟩ := HX.out z7.val (by repeat (first | exact Below.refl _ _ | (with_reducible assumption) | apply below_later | apply below_alloc | apply below_drew | apply below_drewN)))
      | ((go_at_call 38; with_reducible refine Calls.mono (Gives.calls (C8.out _ (below_more HBY.out (by repeat (first | exact Below.refl _ _ | (with_reducible assumption) | apply below_later | apply below_alloc | apply below_drew | apply below_drewN))))) ?_; rintro e w1 ⟨rfl, z8, rfl⟩); obtain ⟨⟨x0, x1, x2, x3⟩, lx⟩ := HX.out z8.val (by repeat (first | exact Below.refl _ _ | (with_reducible assumption) | apply below_later | apply below_alloc | apply below_drew | apply below_drewN)))
      | (go_at_call 39; with_reducible refine Calls.mono (C9.out _ (below_more HBY.out (by repeat (first | exact Below.refl _ _ | (with_reducible assumption) | apply below_later | apply below_alloc | apply below_drew | apply below_drewN)))) ?_; rintro e w1 ⟨A1, c1, rfl, z9, rfl, hi1⟩; have IP1 := Lib.hid hi1; clear hi1; obtain ⟨⟨x0, x1, x2, x3⟩, lx⟩ := HX.out z9.val (by repeat (first | exact Below.refl _ _ | (with_reducible assumption) | apply below_later | apply below_alloc | apply below_drew | apply below_drewN)))
      | (go_at_call 40; with_reducible refine Calls.mono (C10.out _ (below_more HBY.out (by repeat (first | exact Below.refl _ _ | (with_reducible assumption) | apply below_later | apply below_alloc | apply below_drew | apply below_drewN)))) ?_; rintro e w1 ⟨A2, c2, rfl, z10, rfl, hi2⟩; have IP2 := Lib.hid hi2; clear hi2; obtain ⟨⟨x0, x1, x2, x3⟩, lx⟩ := HX.out z10.val (by repeat (first | exact Below.refl _ _ | (with_reducible assumption) | apply below_later | apply below_alloc | apply below_drew | apply below_drewN))))
    have IP1b := Lib.hid (IP1.out.below z10.ok)
    have HBW : Hid (Below w.heap.size w z10.val) := below_more HBY.out (by repeat (first | exact Below.refl _ _ | (with_reducible assumption) | apply below_later | apply below_alloc | apply below_drew | apply below_drewN))
    clear IP1 HX C5 C6 C7 C8 C9 C10 x0 x1 x2 x3 lx
    generalize z10.val = W3 at *
    go_loopw [17] (fun u wr => ∃ k : Nat, u = .int .i64 (k : Nat) ∧ k ≤ m ∧ ∃ x : Later W3, wr = x.val) (fun u _ => m - (intOf u).toNat)
    case atStart => exact ⟨0, rfl, by omega, later_of (by repeat (first | exact Below.refl _ _ | (with_reducible assumption) | apply below_later | apply below_alloc | apply below_drew | apply below_drewN))⟩
    case round =>
      obtain ⟨k, rfl, hk, x, rfl⟩ := hrel
      by_cases hlt : k < m
      · obtain ⟨g1, o1, hA1, l1, p1⟩ := IP1b.out.at_ (by omega)
        obtain ⟨g2, o2, hA2, l2, p2⟩ := IP2.out.at_ (by omega)
        subst hA1 hA2
        obtain ⟨d1, d2⟩ := p1 k hlt
        obtain ⟨d3, d4⟩ := p2 k hlt
        have q1 : (X k == X k) = true := by simp
        have q2 : (Y k == Y k) = true := by simp
        clear p1 p2
        generalize X k = xk at *
        generalize Y k = yk at *
        go_wp2_with fail
        first | (with_reducible show Code.wp _ _ _ _ (Later.val _); refine wp_region_later_at _ (by kernel_rfl) (by kernel_rfl) ?_) | refine wp_region_later (by kernel_rfl) (by kernel_rfl) ?_
        repeat (go_big_quiet_step ((fail)))
        refine wpQuiet_nil ?_
        intro z5
        go_wp2
        all_goals
          first
            | (refine ⟨⟨k + 1, by go_num, by omega, later_of (by repeat (first | exact Below.refl _ _ | (with_reducible assumption) | apply below_later | apply below_alloc | apply below_drew | apply below_drewN))⟩, ?_⟩; simp [intOf]; omega)
            | (go_roundw
               case rel => exact ⟨k + 1, by go_num, by omega, later_of (by repeat (first | exact Below.refl _ _ | (with_reducible assumption) | apply below_later | apply below_alloc | apply below_drew | apply below_drewN))⟩
               case measure => simp [intOf]; omega)
      · obtain rfl : k = m := by omega
        go_wp2_with (go_at_call 16; with_reducible refine Calls.mono (Gives.calls (AW.out _)) ?_; rintro e w1 ⟨rfl, z11, rfl⟩)
        go_ret
        exact ⟨rfl, later_of (below_more HBW.out (by repeat (first | exact Below.refl _ _ | (with_reducible assumption) | apply below_later | apply below_alloc | apply below_drew | apply below_drewN)))⟩
  · have hd : decide ((n : Int) > 120) = true := by simp; omega
    have hd' : decide ((120 : Int) < (n : Int)) = true := by simp; omega
    unfold coatV
    go_enter Try.func5, Try.ntmps5
    go_wp2_with (go_at_call 16; with_reducible refine Calls.mono (Gives.calls (AW.out _)) ?_; rintro e w1 ⟨rfl, z, rfl⟩)
    go_ret
    exact ⟨rfl, later_of (by repeat (first | exact Below.refl _ _ | (with_reducible assumption) | apply below_later | apply below_alloc | apply below_drew | apply below_drewN))⟩
end Go.Proofs.Ytjokpangacahgaa
