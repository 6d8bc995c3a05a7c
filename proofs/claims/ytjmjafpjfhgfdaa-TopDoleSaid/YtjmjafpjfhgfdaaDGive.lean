/- dole's Give: walked. -/
import Derived.Test.YtjmjafpjfhgfdaaDFree
import Derived.Test.YtjmjafpjfhgfdaaUpto
import Derived.Test.YtjmjafpjfhgfdaaDRPick
namespace Go.Proofs.Ytjmjafpjfhgfdaa
open Go.RowKit

/-- What a loop that gives strips keeps: the box of the share-out, and the share-out. -/
structure SG (T : Value) (bo : Nat) (v : Value) (t : List Int) (w V : World) : Prop where
  below : Below w.heap.size w V
  lo : w.heap.size ≤ bo
  box : V.heap[bo]? = some (.cells #[T, v] 62 (0, 0))
  own : OwnI V w.heap.size v t
section
variable {T v v5 : Value} {bo : Nat} {t t5 : List Int} {w V w5 : World}
theorem SG.later (h : SG T bo v t w V) (x : Later V) : SG T bo v t w x.val :=
  ⟨below_more h.below x.ok, h.lo, (x.ok.block _ (get_lt h.box)).trans h.box, h.own.later x⟩
theorem sg_ne {base : Nat} (ho : OwnI V base v t) {u : Value} (h : V.heap[bo]? = some (.cells #[T, u] 62 (0, 0))) : ∀ g, v.ownBlock = some g → bo ≠ g := by
  intro g hg e
  obtain ⟨cs, hc⟩ := own_int_kind ho hg
  rw [← e, h] at hc
  simp only [Option.some.injEq, Obj.cells.injEq] at hc
  exact absurd hc.2.1 (by decide)
theorem sg_one {u : Value} (h : V.heap[bo]? = some (.cells #[T, u] 62 (0, 0))) (x : Value) : (V.setCell ⟨bo, 1, none⟩ x).heap[bo]? = some (.cells #[T, x] 62 (0, 0)) := by
  simp [World.setCell, Array.getElem?_modify, h]
theorem sg_cells {u : Value} (h : V.heap[bo]? = some (.cells #[T, u] 62 (0, 0))) : V.cell? ⟨bo, 0, none⟩ = some T ∧ V.cell? ⟨bo, 1, none⟩ = some u ∧ V.frozen? ⟨bo, 1, none⟩ = false ∧ bo < V.heap.size :=
  ⟨cell_of_heap h 0 _ rfl, cell_of_heap h 1 _ rfl, by simp [World.frozen?, h], get_lt h⟩
/-- The share-out is laid anew. -/
theorem SG.put (h : SG T bo v t w V) (x : Later V) (ho : OwnI x.val w.heap.size v5 t5) : SG T bo v5 t5 w (x.val.setCell ⟨bo, 1, none⟩ v5) := by
  have hx := (h.later x).box
  exact ⟨(h.later x).below.setCell (p := ⟨bo, 1, none⟩) h.lo _, h.lo, sg_one hx _, ho.far (p := ⟨bo, 1, none⟩) (sg_ne ho hx)⟩
theorem SG.grown (h : SG T bo v t w V) {o : Obj} (hg : (V.alloc o).grownBy w5 v.ownBlock) : w5.heap[bo]? = some (.cells #[T, v] 62 (0, 0)) ∧ Below w.heap.size w w5 := by
  have l3 := get_lt h.box
  refine ⟨?_, ?_⟩
  · rw [hg.block bo (by simp; omega) (fun e => sg_ne h.own h.box bo e.symm rfl), Below.heap_alloc _ _ _ l3]
    exact h.box
  · exact (h.below.alloc h.below.size o).grown hg (by have := h.below.size; simp; omega) fun k hk => (own_lt h.own k hk).1
theorem SG.push (h : SG T bo v t w V) {o : Obj} (hg : (V.alloc o).grownBy w5 v.ownBlock) (ho : OwnI w5 w.heap.size v5 t5) : SG T bo v5 t5 w (w5.setCell ⟨bo, 1, none⟩ v5) := by
  obtain ⟨r3, r4⟩ := h.grown hg
  exact ⟨r4.setCell (p := ⟨bo, 1, none⟩) h.lo _, h.lo, sg_one r3 _, ho.far (p := ⟨bo, 1, none⟩) (sg_ne ho r3)⟩
end
set_option maxRecDepth 100000 in
theorem Give_bad (k cap : Nat) (A : Option Addr) (R : Nat → Row) (w : World) (hp : IsTab w A k R) (h : tabB k R = false) :
    Gives Try.prog 40 #[.slice A k cap] w (.tuple #[.slice none 0 0, .int .i64 70]) := by
  have VA := Lib.hid fun (V : World) (hb : Below w.heap.size w V) => h ▸ valid_any k cap A R V (hp.below hb)
  clear hp h
  go_enter Try.func40, Try.ntmps40
  go_wp2_with (go_at_call 20; with_reducible refine Calls.mono (Gives.calls (VA.out _ (by repeat (first | exact Below.refl _ _ | (with_reducible assumption) | apply below_later | apply below_alloc | apply below_drew | apply below_drewN)))) ?_; rintro e w1 ⟨rfl, z, rfl⟩)
  go_ret2
  exact ⟨rfl, later_of (by repeat (first | exact Below.refl _ _ | (with_reducible assumption) | apply below_later | apply below_alloc | apply below_drew | apply below_drewN))⟩
/-- What the inner loop keeps. -/
def RelD (R : Nat → Row) (k : Nat) (T : Value) (bo : Nat) (w : World) (u : List Int) (d : Nat) (x : Value) (V : World) : Prop :=
  ∃ t S cS C cC, Stl R k d t u ∧ t.length = u.length ∧ SG T bo (.slice S u.length cS) t w V ∧ x = .slice C (cirT R k t).length cC ∧ IsInts V C (cirT R k t).length (zl (cirT R k t)) ∧ (cirT R k t).length ≤ cC ∧ (cirT R k t = [] → C = none ∧ cC = 0) ∧ (cirT R k t ≠ [] → C.isNone = false)
theorem cirT_up {R : Nat → Row} {k : Nat} {t : List Int} (h : cirT R k t ≠ []) : Up k R t.length (gt t) (cirT R k t) := up_ok h
theorem own_gt {w : World} {base n c : Nat} {A : Option Addr} {t : List Int} (h : OwnI w base (.slice A n c) t) (hl : t.length = n) (hn : n ≤ 1000) : IsInts w A n (gt t) := (h.ints (by omega)).2
theorem push_give {w : World} {base i : Nat} {v : Value} {t : List Int} {r : Nat} (hl : t.length = i) (h : w.ownsRow base 3 1 v (i + 1) (cellsI t ++ [.int .i64 (r : Nat)])) : OwnI w base v (t ++ [((r : Nat) : Int)]) := by
  unfold OwnI
  rw [List.length_append, hl, cellsI_append]
  exact h
set_option maxRecDepth 100000 in
set_option maxHeartbeats 12800000 in
theorem Give_ok (k cap n : Nat) (A : Option Addr) (R : Nat → Row) (gl : Nat → List Int) (w : World) (W : Vals k n R) (hp : IsTab w A k R) (h0 : gl 0 = []) (h1 : ∀ j, j ≤ n → (gl j).length = j) (h2 : ∀ j, j < n → Step R k (gl j) (gl (j + 1))) :
    Calls Try.prog 40 #[.slice A k cap] w (PostIE w (gl n) 0) := by
  have hk6 := W.k6
  have hk1 := W.k1
  have hn12 := W.n12
  have VA := Lib.hid fun (V : World) (hb : Below w.heap.size w V) => valsT W ▸ valid_any k cap A R V (hp.below hb)
  obtain ⟨ba, off, rfl⟩ := hp.addr W.k1
  have HD := Lib.hid fun (V : World) (hb : Below w.heap.size w V) => tab_head0 (hp.below hb) W
  have CI : Hid (∀ (t : List Int) (S : Option Addr) (m cS : Nat) (V : World), t.length = m → m ≤ n → Below w.heap.size w V → IsInts V S m (gt t) → Calls Try.prog 60 #[.agg #[.slice (some ⟨ba, off, none⟩) k cap, .slice S m cS]] V fun e w' => ∃ A c, e = .returned (.slice A (cirT R k t).length c) ∧ (∃ x : Later V, w' = x.val) ∧ IsInts w' A (cirT R k t).length (zl (cirT R k t)) ∧ (cirT R k t).length ≤ c ∧ (cirT R k t = [] → A = none ∧ c = 0) ∧ (cirT R k t ≠ [] → A.isNone = false)) := fun t S m cS V hm hmn hb hi => by
    subst hm
    exact circle_any k cap n t.length cS _ S R (gt t) V hmn W (hp.below hb) hi
  have TU : Hid (∀ (t : List Int) (S C : Option Addr) (m cS cC : Nat) (V : World), t.length = m → m ≤ n → cirT R k t ≠ [] → IsInts V S m (gt t) → IsInts V C (cirT R k t).length (zl (cirT R k t)) → GivesI 62 #[.agg #[.slice (some ⟨ba, off, none⟩) k cap, .slice S m cS], .slice C (cirT R k t).length cC] V (turnL R k t)) := fun t S C m cS cC V hm hmn hne hi hc => by
    subst hm
    have U := cirT_up hne
    have h3 := U.len
    obtain ⟨h4, h5⟩ := turn_needs W hmn U.cir
    exact turned_any t.length cS (cirT R k t).length cC _ S C (gt t) _ V h4 (by omega) h5 (by omega) hi hc
  have UN : Hid (∀ (t : List Int) (S : Option Addr) (m cS r : Nat) (V : World), t.length = m → m ≤ n → Below w.heap.size w V → IsInts V S m (gt t) → Free (envT R (gt t) t.length) k r → Gives Try.prog 64 #[.agg #[.slice (some ⟨ba, off, none⟩) k cap, .slice S m cS]] V (.int .i64 (r : Nat))) := fun t S m cS r V hm hmn hb hi hf => by
    subst hm
    exact unenvied_any k cap n t.length cS r _ S R (gt t) V hmn W (hp.below hb) hi hf
  have H1 := Lib.hid h1
  have H2 := Lib.hid h2
  obtain ⟨i0, hi0, hz0, hz1, hz2⟩ := info_int
  clear hp W h1 h2
  go_enter Try.func40, Try.ntmps40
  have L1 := Lib.hid fun (V : World) => (below_alloc (o := .cells #[.slice (some ⟨ba, off, none⟩) k cap, .slice none 0 0] 62) (Below.refl V.heap.size V))
  go_wp2_with ((go_at_call 20; with_reducible refine Calls.mono (Gives.calls (VA.out _ (by repeat (first | exact Below.refl _ _ | (with_reducible assumption) | apply below_later | apply below_alloc | apply below_drew | apply below_drewN)))) ?_; rintro e w1 ⟨rfl, z, rfl⟩); obtain ⟨B0, la0, ca0, _⟩ := HD.out (z.val.alloc (.cells #[.slice (some ⟨ba, off, none⟩) k cap, .slice none 0 0] 62)) (below_more z.ok (L1.out _)))
  have sg0 : SG (.slice (some ⟨ba, off, none⟩) k cap) z.val.heap.size (.slice none 0 0) (gl 0) w (z.val.alloc (.cells #[.slice (some ⟨ba, off, none⟩) k cap, .slice none 0 0] 62)) := by
    rw [h0]
    exact ⟨below_more z.ok (L1.out _), z.ok.size, World.alloc_heap_new _ _, OwnI.nil _ _⟩
  have SG0 := Lib.hid sg0
  clear sg0 la0 ca0 h0
  generalize z.val.alloc (.cells #[.slice (some ⟨ba, off, none⟩) k cap, .slice none 0 0] 62) = Z at *
  generalize z.val.heap.size = bo at *
  go_loopw [15] (fun u wr => ∃ (i : Nat) (v : Value), u = .int .i64 (i : Nat) ∧ i ≤ n ∧ SG (.slice (some ⟨ba, off, none⟩) k cap) bo v (gl i) w wr) (fun u _ => n - (intOf u).toNat)
  case atStart => exact ⟨0, _, rfl, by omega, SG0.out⟩
  case round =>
    obtain ⟨i, v, rfl, hi, sg⟩ := hrel
    obtain ⟨S, cS, hv⟩ := sg.own.shape_n (H1.out i hi)
    subst hv
    have SG1 := Lib.hid sg
    obtain ⟨c0, c1, c2, c3⟩ := sg_cells sg.box
    clear sg
    by_cases hlt : i < n
    · obtain ⟨d, u, r, hstl, hul, hue, hfree, hnx⟩ := H2.out i hlt
      have hgl := H1.out i (by omega)
      have HNX := Lib.hid hnx
      have HUL : Hid (u.length = i) := hul.trans hgl
      have HFR := Lib.hid hfree
      have HST := Lib.hid hstl
      have HI1 : Hid (IsInts wr S i (gt (gl i))) := (SG1.out.own.ints (by rw [hgl]; omega)).2
      have CI1 := Lib.hid (CI.out (gl i) S i cS wr hgl (by omega) SG1.out.below HI1.out)
      have HGL := Lib.hid hgl
      clear hstl hul hue hfree hnx hgl
      have hg : decide ((i : Int) < (n : Int)) = true := by simp; omega
      go_wp2_with (go_at_call 60; with_reducible refine Calls.mono CI1.out ?_; rintro e w1 ⟨C, cC, rfl, ⟨z3, rfl⟩, q1, q2, q3, q4⟩; have Q := Lib.hid (And.intro q1 (And.intro q2 (And.intro q3 q4))); clear q1 q2 q3 q4)
      have REL0 : Hid (RelD R k (.slice (some ⟨ba, off, none⟩) k cap) bo w u d (.slice C (cirT R k (gl i)).length cC) z3.val) :=
        ⟨gl i, S, cS, C, cC, HST.out, by rw [HUL.out, HGL.out], by rw [HUL.out]; exact SG1.out.later z3, rfl, Q.out⟩
      clear Q c0 c1 c2 c3
      generalize Value.slice C (cirT R k (gl i)).length cC = x0 at *
      generalize z3.val = Y at *
      go_loopw [5] (fun x wq => ∃ d, RelD R k (.slice (some ⟨ba, off, none⟩) k cap) bo w u d x wq) (fun x wq => minD fun d => RelD R k (.slice (some ⟨ba, off, none⟩) k cap) bo w u d x wq)
      case atStart => exact ⟨d, REL0.out⟩
      case round =>
        have hmin := minD_ok hrel
        obtain ⟨D, hD⟩ : ∃ D, (minD fun d => RelD R k (.slice (some ⟨ba, off, none⟩) k cap) bo w u d u5 wr) = D := ⟨_, rfl⟩
        rw [hD] at hmin
        have HD9 := Lib.hid hD
        clear hrel hD
        obtain ⟨t, S2, cS2, C, cC, hst, htl, sg2, rfl, hiC, hlC, hn1, hn2⟩ := hmin
        have HTL : Hid (t.length = i) := htl.trans HUL.out
        have hul := HUL.out
        rw [hul] at sg2
        have SG2 := Lib.hid sg2
        obtain ⟨c0, c1, c2, c3⟩ := sg_cells sg2.box
        have HI2 : Hid (IsInts wr S2 i (gt t)) := by
          have := (sg2.own.ints (by rw [HTL.out]; omega)).2
          exact this
        clear sg2 hul htl
        by_cases hne : cirT R k t = []
        · obtain ⟨e1, e2⟩ := hn1 hne
          subst e1
          subst e2
          obtain rfl := stl_none hst hne
          rw [hne]
          clear hn1 hn2 hiC hlC hst
          go_wp2_with fail
          have HLT := HTL.out
          have sgd : SG (.slice (some ⟨ba, off, none⟩) k cap) bo (.slice S2 i cS2) t w wr.drew := SG2.out.later ⟨wr.drew, by repeat (first | exact Below.refl _ _ | (with_reducible assumption) | apply below_later | apply below_alloc | apply below_drew | apply below_drewN)⟩
          have SGD := Lib.hid sgd
          clear sgd c0 c1 c2 c3
          have UN1 : Hid (∀ V, Below w.heap.size w V → IsInts V S2 i (gt t) → Gives Try.prog 64 #[.agg #[.slice (some ⟨ba, off, none⟩) k cap, .slice S2 i cS2]] V (.int .i64 (r : Nat))) := fun V h1 h2 => UN.out t S2 i cS2 r V HLT (by omega) h1 h2 HFR.out
          have HID := Lib.hid (show IsInts wr.drew S2 i (gt t) from HI2.out.later ⟨wr.drew, by repeat (first | exact Below.refl _ _ | (with_reducible assumption) | apply below_later | apply below_alloc | apply below_drew | apply below_drewN)⟩)
          have g0 : ∀ w', (∃ x : Later wr.drew, w' = x.val) → w'.cell? ⟨bo, 0, none⟩ = some (.slice (some ⟨ba, off, none⟩) k cap) := (by rintro w' ⟨x, rfl⟩; exact (sg_cells (SGD.out.later x).box).1)
          have g1 : ∀ w', (∃ x : Later wr.drew, w' = x.val) → w'.cell? ⟨bo, 1, none⟩ = some (.slice S2 i cS2) := (by rintro w' ⟨x, rfl⟩; exact (sg_cells (SGD.out.later x).box).2.1)
          refine wp_region_upto 3 5 (fun w' => ∃ x : Later wr.drew, w' = x.val) (by kernel_rfl) (by kernel_rfl) ⟨⟨wr.drew, Below.refl _ _⟩, rfl⟩ ?_
          simp only [List.take_succ_cons, List.take_zero, List.drop_succ_cons, List.drop_zero]
          iterate 3
            refine ⟨?_, Or.inl ⟨by rfl, ?_⟩, ?_⟩
            rotate_left
            · intro w' hS
              have q0 := g0 w' hS
              have q1 := g1 w' hS
              go_simp
              with_reducible rfl
            simp only [Act.put, List.setIfInBounds_toArray, List.set_cons_zero, List.set_cons_succ]
          refine takeList_nil ?_
          refine midList_cons fun K1 hK1 => ?_
          go_simp
          go_at_call 64
          refine Calls.mono (Gives.calls (UN1.out _ SGD.out.below HID.out)) ?_
          rintro e w1 ⟨rfl, x2, rfl⟩
          refine hK1.out _ _ ⟨x2, rfl⟩ ?_
          clear hK1 K1
          refine midList_cons fun K2 hK2 => ?_
          go_simp
          refine hK2.out _ _ ⟨⟨_, by repeat (first | exact Below.refl _ _ | (with_reducible assumption) | apply below_later | apply below_alloc | apply below_drew | apply below_drewN)⟩, rfl⟩ ?_
          clear hK2 K2 g0 g1
          refine midList_nil ?_
          have sk3 := SGD.out.later x2
          have SK3 := Lib.hid sk3
          have lo3 := sk3.below.size
          clear sk3
          go_wp2_with (at_builtin; refine wpList_append_own _ rfl _ _ 23 rfl w.heap.size 3 i0 (.int .i64 0) 1 8 Try.underlying23 hi0 hz0 hz1 hz2 rfl (by decide) _ _ _ rfl ((own_row SK3.out.own HLT).alloc _) ⟨_, 0, none⟩ 1 1 [.int .i64 (r : Nat)] rfl rfl lit_news one_int (by unfold maxLen; omega) (by omega) (by simp; omega) ?_; intro v5 w5 hown2 hgrow _; have ho6 : OwnI w5 w.heap.size v5 (t ++ [((r : Nat) : Int)]) := (push_give HLT hown2); obtain ⟨A6, cap6, hvv⟩ := ho6.shape_n (n := i + 1) (by rw [List.length_append, HLT]; rfl); subst hvv; obtain ⟨r3, r4⟩ := SK3.out.grown hgrow; have SK6 := Lib.hid (SK3.out.push hgrow ho6); obtain ⟨cO1, cO2, fO2, lO2⟩ := sg_cells r3; clear hown2 hgrow ho6 r3 r4)
          refine calm_normal ?_
          go_wp2
          go_roundw
          case rel => exact ⟨i + 1, _, by go_num, by omega, by rw [HNX.out]; exact SK6.out⟩
          case measure => simp [intOf]; omega
        · obtain ⟨a9, h9⟩ : ∃ a, C = some a := (by have := hn2 hne; cases C with | none => exact absurd this (by decide) | some a => exact ⟨a, rfl⟩)
          subst h9
          obtain ⟨d', hd', hst'⟩ := stl_some hst hne
          have HST2 := Lib.hid hst'
          have HDD := Lib.hid hd'
          have HIC := Lib.hid hiC
          have HL2 : Hid ((turnL R k t).length = i) := (turnL_length R k t).trans HTL.out
          have TU1 := Lib.hid fun (V : World) (h1 : IsInts V S2 i (gt t)) h2 => TU.out t S2 (some a9) i cS2 cC V HTL.out (by omega) hne h1 h2
          clear hn1 hn2 hiC hlC hst hst' hd' hne
          have TU2 := Lib.hid (TU1.out wr HI2.out HIC.out)
          generalize cirT R k t = lc at *
          generalize turnL R k t = t2 at *
          generalize lc.length = ln at *
          have CI2 : Hid (∀ (S3 : Option Addr) (cS3 : Nat) (V : World), Below w.heap.size w V → IsInts V S3 i (gt t2) → _) := fun S3 cS3 V hb h => CI.out t2 S3 i cS3 V HL2.out (by omega) hb h
          go_wp2_with (first
            | (go_at_call 62; with_reducible refine Calls.mono (GivesI.calls TU2.out) ?_; rintro e w1 ⟨v3, rfl, z4, rfl, ho⟩; obtain ⟨S3, cS3, rfl⟩ := ho.shape_n HL2.out; have SG3 := Lib.hid (SG2.out.put z4 (ho.mono SG2.out.below.size)); obtain ⟨c0, c1, c2, c3⟩ := sg_cells (SG2.out.later z4).box; obtain ⟨f0, f1, f2, f3⟩ := sg_cells SG3.out.box; have HI3 := Lib.hid (own_gt SG3.out.own HL2.out (by omega)); clear ho)
            | (go_at_call 60; with_reducible refine Calls.mono (CI2.out _ _ _ SG3.out.below HI3.out) ?_; rintro e w1 ⟨C9, cC9, rfl, ⟨z5, rfl⟩, q1, q2, q3, q4⟩; have Q9 := Lib.hid (And.intro q1 (And.intro q2 (And.intro q3 q4))); clear q1 q2 q3 q4))
          have HR9 : Hid (RelD R k (.slice (some ⟨ba, off, none⟩) k cap) bo w u d' (.slice C9 (cirT R k t2).length cC9) z5.val) :=
            ⟨t2, S3, cS3, C9, cC9, HST2.out, by rw [HUL.out, HL2.out], by rw [HUL.out]; exact SG3.out.later z5, rfl, Q9.out⟩
          have HM : Hid (minD (fun d => RelD R k (.slice (some ⟨ba, off, none⟩) k cap) bo w u d (.slice C9 (cirT R k t2).length cC9) z5.val) < D) := by
            show _ < _
            have h1 := minD_le (P := fun d => RelD R k (.slice (some ⟨ba, off, none⟩) k cap) bo w u d (.slice C9 (cirT R k t2).length cC9) z5.val) HR9.out
            have h2 := HDD.out
            omega
          first
            | (refine ⟨⟨_, HR9.out⟩, ?_⟩; rw [HD9.out]; exact HM.out)
            | (go_roundw
               case rel => exact ⟨_, HR9.out⟩
               case measure => rw [HD9.out]; exact HM.out)
    · obtain rfl : i = n := by omega
      have HO := Lib.hid SG1.out.own
      go_wp2_with fail
      go_ret2
      exact ⟨_, rfl, ⟨_, SG1.out.below⟩, rfl, HO.out⟩
end Go.Proofs.Ytjmjafpjfhgfdaa
