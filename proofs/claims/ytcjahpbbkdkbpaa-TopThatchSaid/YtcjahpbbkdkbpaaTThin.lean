/- Thin places, of the program and of the document: walked. -/
import Derived.Test.YtcjahpbbkdkbpaaTCoatF
namespace Go.Proofs.Ytcjahpbbkdkbpaa
open Go.RowKit

def pairL (l : List (Nat × Nat)) : List Pt := l.map fun x => ((x.1 : Int), (x.2 : Int))
theorem pairL_length (l : List (Nat × Nat)) : (pairL l).length = l.length := by simp [pairL]
theorem pairL_append (l k : List (Nat × Nat)) : pairL (l ++ k) = pairL l ++ pairL k := by simp [pairL]
theorem pairL_get {l : List (Nat × Nat)} {i : Nat} (h : i < l.length) : hx (pairL l) i = ((l.getD i (0, 0)).1 : Nat) ∧ hy (pairL l) i = ((l.getD i (0, 0)).2 : Nat) := by
  unfold hx hy pairL
  simp only [List.getD_eq_getElem?_getD, List.getElem?_map, List.getElem?_eq_getElem h, Option.map_some, Option.getD_some]
  exact ⟨trivial, trivial⟩
theorem pairL_set (l : List (Nat × Nat)) (i : Nat) (x : Nat × Nat) : pairL (l.set i x) = (pairL l).set i ((x.1 : Int), (x.2 : Int)) := by simp [pairL, List.map_set]
theorem OwnQ.set2 {T : TypeId} {w : World} {base : Nat} {l : List Pt} {g n cap : Nat} (h : OwnQ T w base (.slice (some ⟨g, 0, none⟩) n cap) l) (hn : l.length = n) {i : Nat} (hi : i < n) (y : Int) :
    OwnQ T (w.setCell ⟨g, i * 2 + 1, none⟩ (.int .i64 y)) base (.slice (some ⟨g, 0, none⟩) n cap) (l.set i (hx l i, y)) := by
  subst hn
  have h1 := (World.ownsRow.stored h (i * 2 + 1) (.int .i64 y)).1
  unfold OwnQ
  rw [List.length_set, cells2_set l i (hx l i, y) hi]
  have e : (cells2 l).set (i * 2) (.int .i64 (hx l i)) = cells2 l := by
    apply List.ext_getElem?
    intro j
    rw [List.getElem?_set]
    split
    · rename_i e
      subst e
      rw [cells2_x l i hi, if_pos (by rw [cells2_length]; omega)]
    · rfl
  rw [e]
  exact h1
def PostQE (w : World) (l : List Pt) (e : Ending) (w' : World) : Prop := ∃ v, e = .returned (.tuple #[v, .int .i64 0]) ∧ ∃ x : Later w, w' = x.val ∧ OwnQ 57 w' w.heap.size v l
set_option maxRecDepth 100000 in
theorem Thin_bad (s g r : Int) (A : Option Addr) (n cap : Nat) (f : Nat → Int) (t : Int) (w : World) (hp : n ≤ 100 → IsInts w A n f) (hv : okCoat s g r n f = false) :
    Gives Try.prog 21 #[coatV s g r A n cap, .int .i64 t] w (.tuple #[.slice none 0 0, .int .i64 81]) := by
  have VA := Lib.hid fun (V : World) (hb : Below w.heap.size w V) => hv ▸ ValidCoat_any s g r A n cap f V fun h => (hp h).below hb
  unfold coatV at VA ⊢
  clear hp hv
  go_enter Try.func21, Try.ntmps21
  go_wp2_with (go_at_call 39; with_reducible refine Calls.mono (Gives.calls (VA.out _ (by repeat (first | exact Below.refl _ _ | (with_reducible assumption) | apply below_later | apply below_alloc | apply below_drew | apply below_drewN)))) ?_; rintro e w1 ⟨rfl, z, rfl⟩)
  go_ret2
  exact ⟨rfl, later_of (by repeat (first | exact Below.refl _ _ | (with_reducible assumption) | apply below_later | apply below_alloc | apply below_drew | apply below_drewN))⟩
set_option maxRecDepth 100000 in
theorem Thin_arg (s g r : Int) (A : Option Addr) (n cap : Nat) (f : Nat → Int) (t : Int) (w : World) (hp : n ≤ 100 → IsInts w A n f) (hv : okCoat s g r n f = true) (ht : inI 0 t 1000 = false) :
    Gives Try.prog 21 #[coatV s g r A n cap, .int .i64 t] w (.tuple #[.slice none 0 0, .int .i64 2]) := by
  have VA := Lib.hid fun (V : World) (hb : Below w.heap.size w V) => hv ▸ ValidCoat_any s g r A n cap f V fun h => (hp h).below hb
  have BT := Lib.hid fun V => ht ▸ between_any 0 t 1000 V
  unfold coatV at VA ⊢
  clear hp hv ht
  go_enter Try.func21, Try.ntmps21
  go_wp2_with (first | (go_at_call 39; with_reducible refine Calls.mono (Gives.calls (VA.out _ (by repeat (first | exact Below.refl _ _ | (with_reducible assumption) | apply below_later | apply below_alloc | apply below_drew | apply below_drewN)))) ?_; rintro e w1 ⟨rfl, z, rfl⟩) | (go_at_call 37; with_reducible refine Calls.mono (Gives.calls (BT.out _)) ?_; rintro e w1 ⟨rfl, z2, rfl⟩))
  go_ret2
  exact ⟨rfl, later_of (by repeat (first | exact Below.refl _ _ | (with_reducible assumption) | apply below_later | apply below_alloc | apply below_drew | apply below_drewN))⟩
theorem thin_len (lay : Nat → Nat) (t k : Nat) : (thinN lay t k).length ≤ k := (thinN_ok lay t k).len
set_option maxRecDepth 100000 in
set_option maxHeartbeats 6400000 in
theorem Thin_ok (S G R n cap t : Nat) (A : Option Addr) (f : Nat → Nat) (w : World) (C : Ct S G R n f) (ht : t ≤ 1000) (hp : IsInts w A n fun j => ((f j : Nat) : Int)) (hv : okCoat S G R n (fun j => ((f j : Nat) : Int)) = true) :
    Calls Try.prog 21 #[coatV S G R A n cap, .int .i64 t] w (PostQE w (pairL (thinN (fun i => layN G R n f i (upN S G)) t S))) := by
  have hS := C.hs
  have VA := Lib.hid fun (V : World) (hb : Below w.heap.size w V) => hv ▸ ValidCoat_any S G R A n cap _ V fun _ => hp.below hb
  have BT : Hid (∀ V, Gives Try.prog 37 #[.int .i64 t, .int .i64 0, .int .i64 1000] V (.bool true)) := fun V => (show inI 0 (t : Int) 1000 = true from inI_iff.2 ⟨by omega, by omega⟩) ▸ between_any 0 t 1000 V
  have LA := Lib.hid fun (i : Nat) (V : World) (hi : i < S) (hb : Below w.heap.size w V) => layersAt_any S G R n cap i A f V C hi (hp.below hb)
  have LB := Lib.hid fun i => cntN_le (liesB G R n f i) (upN S G)
  have hN : upN S G ≤ 5200 := Nat.le_trans (Nat.div_le_self _ _) (by have := C.hg; omega)
  have LB2 : Hid (∀ i, layN G R n f i (upN S G) ≤ 5200) := fun i => Nat.le_trans (LB.out i) hN
  have LAt : Hid (∀ (i : Nat) (V : World), i < S → Below w.heap.size w V → Gives Try.prog 40 #[coatV S G R A n cap, .int .i64 i] V (.int .i64 (layN G R n f i (upN S G) : Nat))) := fun i V h1 h2 => LA.out i V h1 h2
  have HLL : Hid (∃ lay : Nat → Nat, (fun i => layN G R n f i (upN S G)) = lay) := ⟨_, rfl⟩
  obtain ⟨lay, hlay⟩ := HLL.out
  have hl2 : ∀ i, layN G R n f i (upN S G) = lay i := fun i => by rw [← hlay]
  rw [hlay]
  simp only [hl2] at LB2 LAt
  have TS := Lib.hid fun i => thinN_succ lay t i
  have TL := Lib.hid fun i => (thinN_ok lay t i).last
  have TN := Lib.hid fun i => thin_len lay t i
  have T0 : Hid (thinN lay t 0 = []) := rfl
  generalize thinN lay t = T at *
  clear HLL hlay hl2 LB LA
  obtain ⟨i0, hi0, hz0, hz1, hz2⟩ := info_pair
  unfold coatV at VA LAt ⊢
  clear hp hv C
  go_enter Try.func21, Try.ntmps21
  go_wp2_with (first
    | ((go_at_call 39; with_reducible refine Calls.mono (Gives.calls (VA.out _ (by repeat (first | exact Below.refl _ _ | (with_reducible assumption) | apply below_later | apply below_alloc | apply below_drew | apply below_drewN)))) ?_; rintro e w1 ⟨rfl, z, rfl⟩); obtain ⟨⟨x0, x1, x2, x3⟩, lx⟩ := coat_at (w := w) (V := z.val) (s := (S : Int)) (g := (G : Int)) (r := (R : Int)) (A := A) (n := n) (c := cap) (by repeat (first | exact Below.refl _ _ | (with_reducible assumption) | apply below_later | apply below_alloc | apply below_drew | apply below_drewN)))
    | ((go_at_call 37; with_reducible refine Calls.mono (Gives.calls (BT.out _)) ?_; rintro e w1 ⟨rfl, z2, rfl⟩); obtain ⟨⟨x0, x1, x2, x3⟩, lx⟩ := coat_at (w := w) (V := z2.val) (s := (S : Int)) (g := (G : Int)) (r := (R : Int)) (A := A) (n := n) (c := cap) (by repeat (first | exact Below.refl _ _ | (with_reducible assumption) | apply below_later | apply below_alloc | apply below_drew | apply below_drewN))))
  have HBZ : Hid (Below w.heap.size w z2.val) := by show Below _ _ _; repeat (first | exact Below.refl _ _ | (with_reducible assumption) | apply below_later | apply below_alloc | apply below_drew | apply below_drewN)
  obtain ⟨b8, hb8⟩ : ∃ b8, w.heap.size = b8 := ⟨_, rfl⟩
  have HB8 := Lib.hid hb8
  rw [hb8] at x0 x1 x2 x3 lx ⊢
  clear hb8
  generalize z2.val = Z at *
  have HX : Hid (∀ V, Below Z.heap.size Z V → (V.cell? ⟨b8, 0, none⟩ = some (.int .i64 S) ∧ V.cell? ⟨b8, 1, none⟩ = some (.int .i64 G) ∧ V.cell? ⟨b8, 2, none⟩ = some (.int .i64 R) ∧ V.cell? ⟨b8, 3, none⟩ = some (.slice A n cap)) ∧ b8 < V.heap.size) := fun V h =>
    ⟨⟨(h.cell (p := ⟨b8, 0, none⟩) lx).trans x0, (h.cell (p := ⟨b8, 1, none⟩) lx).trans x1, (h.cell (p := ⟨b8, 2, none⟩) lx).trans x2, (h.cell (p := ⟨b8, 3, none⟩) lx).trans x3⟩, Nat.lt_of_lt_of_le lx h.size⟩
  clear x0 x1 x2 x3 lx
  go_loopw [6, 17] (fun u v wr => ∃ k : Nat, v = .int .i64 (k : Nat) ∧ k ≤ S ∧ Below Z.heap.size Z wr ∧ OwnQ 57 wr Z.heap.size u (pairL (T k))) (fun _ v _ => S - (intOf v).toNat)
  case atStart => exact ⟨0, rfl, by omega, Below.refl _ _, by rw [T0.out]; exact OwnQ.nil _ _ _⟩
  case round =>
    obtain ⟨k, rfl, hk, hbl, ho⟩ := hrel
    generalize wr = W1 at *
    have HBL := Lib.hid hbl
    have HO := Lib.hid ho
    have LU : Hid ((pairL (T k)).length = (T k).length) := pairL_length _
    obtain ⟨O, cO, eO⟩ := ho.shape_n LU.out
    subst eO
    obtain ⟨⟨y0, y1, y2, y3⟩, ly⟩ := HX.out W1 hbl
    clear hbl ho
    have hua := TN.out k
    by_cases hlt : k < S
    · have LAk := Lib.hid fun V h => LAt.out k V hlt h
      have HBX : Hid (Below w.heap.size w W1) := below_more HBZ.out HBL.out
      have b1 := LB2.out k
      have TSk := Lib.hid (TS.out k)
      have TLk := Lib.hid (TL.out k)
      have HOV : Hid (∀ V, Below W1.heap.size W1 V → OwnQ 57 V Z.heap.size (.slice O (T k).length cO) (pairL (T k))) := fun V h => HO.out.below h
      have HBV : Hid (∀ V, Below W1.heap.size W1 V → Below Z.heap.size Z V) := fun V h => below_more HBL.out h
      have HLK : Hid (∀ j, lay j = lay j) := fun _ => rfl
      by_cases hge : t ≤ lay k
      · have c1 : decide (((lay k : Nat) : Int) ≥ (t : Int)) = true := by simp; omega
        have c2 : decide ((t : Int) ≤ ((lay k : Nat) : Int)) = true := by simp; omega
        have HN : Hid (T (k + 1) = T k) := by show _ = _; rw [TSk.out, if_pos hge]
        clear TSk TLk
        generalize lay k = lk at *
        go_wp2_with (go_at_call 40; with_reducible refine Calls.mono (Gives.calls (LAk.out _ (below_more HBX.out (by repeat (first | exact Below.refl _ _ | (with_reducible assumption) | apply below_later | apply below_alloc | apply below_drew | apply below_drewN))))) ?_; rintro e w1 ⟨rfl, z3, rfl⟩)
        all_goals
          first
            | (refine ⟨⟨k + 1, by go_num, by omega, HBV.out z3.val (by repeat (first | exact Below.refl _ _ | (with_reducible assumption) | apply below_later | apply below_alloc | apply below_drew | apply below_drewN)), by rw [HN.out]; exact HOV.out z3.val (by repeat (first | exact Below.refl _ _ | (with_reducible assumption) | apply below_later | apply below_alloc | apply below_drew | apply below_drewN))⟩, ?_⟩; simp [intOf]; omega)
            | (go_roundw
               case rel => exact ⟨k + 1, by go_num, by omega, HBV.out z3.val (by repeat (first | exact Below.refl _ _ | (with_reducible assumption) | apply below_later | apply below_alloc | apply below_drew | apply below_drewN)), by rw [HN.out]; exact HOV.out z3.val (by repeat (first | exact Below.refl _ _ | (with_reducible assumption) | apply below_later | apply below_alloc | apply below_drew | apply below_drewN))⟩
               case measure => simp [intOf]; omega)
      · have c1 : decide (((lay k : Nat) : Int) ≥ (t : Int)) = false := by simp; omega
        have c2 : decide ((t : Int) ≤ ((lay k : Nat) : Int)) = false := by simp; omega
        have TS2 : Hid (T (k + 1) = if 0 < k ∧ lay (k - 1) < t then (T k).set ((T k).length - 1) (((T k).getD ((T k).length - 1) (0, 0)).1, k) else T k ++ [(k, k)]) := by show _ = _; rw [TSk.out, if_neg hge]
        clear TSk
        have HLEN : Hid (∀ i, i < (T k).length → hx (pairL (T k)) i = (((T k).getD i (0, 0)).1 : Nat) ∧ hy (pairL (T k)) i = (((T k).getD i (0, 0)).2 : Nat)) := fun i hi => pairL_get hi
        obtain ⟨nk, hnk⟩ : ∃ nk, (T k).length = nk := ⟨_, rfl⟩
        have HNK := Lib.hid hnk
        rw [hnk] at LU TLk TS2 HOV HLEN hua ⊢
        clear hnk
        have HAPP : Hid (¬ (0 < k ∧ lay (k - 1) < t) → pairL (T (k + 1)) = pairL (T k) ++ [((k : Int), (k : Int))]) := fun h => by rw [TS2.out, if_neg h, pairL_append]; rfl
        have HLA : Hid (¬ (0 < k ∧ lay (k - 1) < t) → (pairL (T (k + 1))).length = nk + 1) := fun h => by rw [HAPP.out h, List.length_append, LU.out]; rfl
        by_cases h0 : nk = 0
        · have HNO : Hid (¬ (0 < k ∧ lay (k - 1) < t)) := fun h => by have := TLk.out.1 h; omega
          subst h0
          have HA1 := Lib.hid (HAPP.out HNO.out)
          have HL1 := Lib.hid (HLA.out HNO.out)
          clear HAPP HLA TS2 TLk HLEN HNO
          generalize lay k = lk at *
          go_wp2_with (first
            | (go_at_call 40; with_reducible refine Calls.mono (Gives.calls (LAk.out _ (below_more HBX.out (by repeat (first | exact Below.refl _ _ | (with_reducible assumption) | apply below_later | apply below_alloc | apply below_drew | apply below_drewN))))) ?_; rintro e w1 ⟨rfl, z3, rfl⟩)
            | (at_builtin; refine wpList_append_own_at _ rfl _ _ 51 rfl Z.heap.size 57 i0 (.agg #[.int .i64 0, .int .i64 0]) 2 16 Try.underlying51 hi0 hz0 hz1 hz2 rfl (by decide) _ _ _ rfl ((own_rowQ (HOV.out z3.val z3.ok) LU.out).alloc _) ⟨_, 0, none⟩ 1 1 [.int .i64 k, .int .i64 k] rfl rfl lit_news2 two_int ?g1 ?g2 ?g3 ?_))
          case g1 => unfold maxLen; omega
          case g2 => omega
          case g3 => have := (HBV.out z3.val z3.ok).size; simp only [World.size_alloc]; omega
          intro v6 w6 hown2 hgrow _ hat
          have hb6 : Below Z.heap.size Z w6 := below_own (w1 := z3.val.alloc (.cells #[.int .i64 k, .int .i64 k] 57)) (below_alloc (HBV.out z3.val z3.ok)) ((own_rowQ (HOV.out z3.val z3.ok) LU.out).alloc _) (Nat.le_refl _) hgrow
          have HO6 : Hid (OwnQ 57 w6 Z.heap.size v6 (pairL (T (k + 1)))) := by
            show OwnQ _ _ _ _ _
            unfold OwnQ
            rw [HL1.out, HA1.out, cells2_append]
            exact hown2
          have HB6 := Lib.hid hb6
          clear hown2 hgrow hat hb6
          go_wp2_with fail
          all_goals
            first
              | (refine ⟨⟨k + 1, by go_num, by omega, HB6.out, HO6.out⟩, ?_⟩; simp [intOf]; omega)
              | (go_roundw
                 case rel => exact ⟨k + 1, by go_num, by omega, HB6.out, HO6.out⟩
                 case measure => simp [intOf]; omega)
        · obtain ⟨g9, cp9, hO9, hb9, hl9, hcap9⟩ := HO.out.form (n := nk) (by rw [LU.out]) (by omega)
          have hO10 : O = some ⟨g9, 0, none⟩ := by
            have := hO9
            simp only [Value.slice.injEq] at this
            exact this.1
          subst hO10
          clear hO9
          have hw1 : IntKind.i64.wrap ((nk : Int) - 1) = ((nk - 1 : Nat) : Int) := by rw [show ((nk : Int) - 1) = ((nk - 1 : Nat) : Int) by omega]; exact i64_nat (by omega)
          have hw2 : IntKind.i64.wrap ((k : Int) - 1) = ((k - 1 : Nat) : Int) := by rw [show ((k : Int) - 1) = ((k - 1 : Nat) : Int) by omega]; exact i64_nat (by omega)
          have hs1 : (nk : Int) - 1 = ((nk - 1 : Nat) : Int) := by omega
          have hs2 : (k : Int) - 1 = ((k - 1 : Nat) : Int) := by omega
          have hg4 : decide (((nk - 1 : Nat) : Int) ≥ 0) = true := by simp
          have hg5 : decide ((0 : Int) ≤ ((nk - 1 : Nat) : Int)) = true := by simp
          have hlt9 : nk - 1 < nk := by omega
          obtain ⟨hxv, hyv⟩ := HLEN.out (nk - 1) hlt9
          have HCL : Hid (∀ V, Below W1.heap.size W1 V → V.cell? ⟨g9, (nk - 1) * 2 + 1, none⟩ = some (.int .i64 (((T k).getD (nk - 1) (0, 0)).2 : Nat)) ∧ (∀ j, V.frozen? ⟨g9, j, none⟩ = false) ∧ g9 < V.heap.size) := fun V h => by
            obtain ⟨_, q2, q3⟩ := (HOV.out V h).cell LU.out hlt9
            rw [hyv] at q2
            exact ⟨q2, q3, Nat.lt_of_lt_of_le hl9 h.size⟩
          have HXV := Lib.hid hxv
          clear hyv hxv HLEN
          generalize hv9 : ((T k).getD (nk - 1) (0, 0)).2 = y9 at *
          generalize hx9 : ((T k).getD (nk - 1) (0, 0)).1 = z9 at *
          clear hv9 hx9
          by_cases heq : y9 + 1 = k
          · have HYES : Hid (0 < k ∧ lay (k - 1) < t) := TLk.out.2 ⟨by omega, heq⟩
            have e1 : ((y9 : Int) == ((k - 1 : Nat) : Int)) = true := by simp; omega
            have HSET : Hid (pairL (T (k + 1)) = (pairL (T k)).set (nk - 1) (hx (pairL (T k)) (nk - 1), (k : Int))) := by
              show _ = _
              rw [TS2.out, if_pos HYES.out, pairL_set, HXV.out]
            have HL1 : Hid ((T (k + 1)).length = nk) := by show _ = _; rw [TS2.out, if_pos HYES.out, List.length_set]; exact HNK.out
            clear HAPP HLA TS2 TLk
            generalize lay k = lk at *
            go_wp2_with ((go_at_call 40; with_reducible refine Calls.mono (Gives.calls (LAk.out _ (below_more HBX.out (by repeat (first | exact Below.refl _ _ | (with_reducible assumption) | apply below_later | apply below_alloc | apply below_drew | apply below_drewN))))) ?_; rintro e w1 ⟨rfl, z3, rfl⟩); obtain ⟨q1, q2, q3⟩ := HCL.out z3.val (by repeat (first | exact Below.refl _ _ | (with_reducible assumption) | apply below_later | apply below_alloc | apply below_drew | apply below_drewN)); have q4 := q2 ((nk - 1) * 2 + 1))
            all_goals
              first
                | (refine ⟨⟨k + 1, by go_num, by omega, (HBV.out z3.val (by repeat (first | exact Below.refl _ _ | (with_reducible assumption) | apply below_later | apply below_alloc | apply below_drew | apply below_drewN))).setCell (p := ⟨g9, (nk - 1) * 2 + 1, none⟩) hb9 _, by rw [HSET.out]; exact (HOV.out z3.val (by repeat (first | exact Below.refl _ _ | (with_reducible assumption) | apply below_later | apply below_alloc | apply below_drew | apply below_drewN))).set2 LU.out hlt9 _⟩, ?_⟩; simp [intOf]; omega)
                | (go_roundw
                   case rel => exact ⟨k + 1, by go_num, by omega, (HBV.out z3.val (by repeat (first | exact Below.refl _ _ | (with_reducible assumption) | apply below_later | apply below_alloc | apply below_drew | apply below_drewN))).setCell (p := ⟨g9, (nk - 1) * 2 + 1, none⟩) hb9 _, by rw [HSET.out]; exact (HOV.out z3.val (by repeat (first | exact Below.refl _ _ | (with_reducible assumption) | apply below_later | apply below_alloc | apply below_drew | apply below_drewN))).set2 LU.out hlt9 _⟩
                   case measure => simp [intOf]; omega)
          · have HNO : Hid (¬ (0 < k ∧ lay (k - 1) < t)) := fun h => heq (TLk.out.1 h).2
            have e1 : ((y9 : Int) == ((k - 1 : Nat) : Int)) = false := by simp; omega
            have HA1 := Lib.hid (HAPP.out HNO.out)
            have HL1 := Lib.hid (HLA.out HNO.out)
            clear HAPP HLA TS2 TLk HNO
            generalize lay k = lk at *
            go_wp2_with (first
              | ((go_at_call 40; with_reducible refine Calls.mono (Gives.calls (LAk.out _ (below_more HBX.out (by repeat (first | exact Below.refl _ _ | (with_reducible assumption) | apply below_later | apply below_alloc | apply below_drew | apply below_drewN))))) ?_; rintro e w1 ⟨rfl, z3, rfl⟩); obtain ⟨q1, q2, q3⟩ := HCL.out z3.val (by repeat (first | exact Below.refl _ _ | (with_reducible assumption) | apply below_later | apply below_alloc | apply below_drew | apply below_drewN)))
              | (at_builtin; refine wpList_append_own_at _ rfl _ _ 51 rfl Z.heap.size 57 i0 (.agg #[.int .i64 0, .int .i64 0]) 2 16 Try.underlying51 hi0 hz0 hz1 hz2 rfl (by decide) _ _ _ rfl ((own_rowQ (HOV.out z3.val z3.ok) LU.out).alloc _) ⟨_, 0, none⟩ 1 1 [.int .i64 k, .int .i64 k] rfl rfl lit_news2 two_int ?g1 ?g2 ?g3 ?_))
            case g1 => unfold maxLen; omega
            case g2 => omega
            case g3 => have := (HBV.out z3.val z3.ok).size; simp only [World.size_alloc]; omega
            intro v6 w6 hown2 hgrow _ hat
            have hb6 : Below Z.heap.size Z w6 := below_own (w1 := z3.val.alloc (.cells #[.int .i64 k, .int .i64 k] 57)) (below_alloc (HBV.out z3.val z3.ok)) ((own_rowQ (HOV.out z3.val z3.ok) LU.out).alloc _) (Nat.le_refl _) hgrow
            have HO6 : Hid (OwnQ 57 w6 Z.heap.size v6 (pairL (T (k + 1)))) := by
              show OwnQ _ _ _ _ _
              unfold OwnQ
              rw [HL1.out, HA1.out, cells2_append]
              exact hown2
            have HB6 := Lib.hid hb6
            clear hown2 hgrow hat hb6
            go_wp2_with fail
            all_goals
              first
                | (refine ⟨⟨k + 1, by go_num, by omega, HB6.out, HO6.out⟩, ?_⟩; simp [intOf]; omega)
                | (go_roundw
                   case rel => exact ⟨k + 1, by go_num, by omega, HB6.out, HO6.out⟩
                   case measure => simp [intOf]; omega)
    · obtain rfl : k = S := by omega
      go_wp2_with fail
      go_ret2
      exact ⟨_, rfl, ⟨_, below_more HBZ.out HBL.out⟩, rfl, HO.out.mono HBZ.out.size⟩
end Go.Proofs.Ytcjahpbbkdkbpaa
