/- The document's Pick and InTurn: walked. -/
import Derived.Test.YtjmjafpjfhgfdaaDPick
import Derived.Test.YtjmjafpjfhgfdaaDRef
namespace Go.Proofs.Ytjmjafpjfhgfdaa
open Go.RowKit

/-- The best strip as the document writes it: -1 if there is none yet. -/
def bestI (f s : Nat → Int) (j : Nat) : Int := if (favP f s j).2 = -1 then -1 else ((favP f s j).1 : Nat)
theorem bestI_skip {f s : Nat → Int} {j : Nat} (h : s j ≠ -1) : bestI f s (j + 1) = bestI f s j := by
  have e : favP f s (j + 1) = favP f s j := by rw [favP_succ, if_neg fun h1 => h h1.1]
  unfold bestI
  rw [e]
theorem bestI_first {f s : Nat → Int} {j : Nat} (hf : 0 ≤ f j) (h : s j = -1) (hb : bestI f s j < 0) : bestI f s (j + 1) = j := by
  unfold bestI at *
  have h2 : (favP f s j).2 = -1 := by
    by_cases e : (favP f s j).2 = -1
    · exact e
    · rw [if_neg e] at hb; omega
  have e : favP f s (j + 1) = (j, f j) := by rw [favP_succ, if_pos ⟨h, by omega⟩]
  rw [e]
  exact if_neg (show ¬ f j = -1 by omega)
theorem bestI_more {f s : Nat → Int} {j q : Nat} (hv : ∀ i, i < j → 0 ≤ f i ∧ f i ≤ 1000) (hf : 0 ≤ f j) (h : s j = -1) (hb : bestI f s j = (q : Nat)) : q < j ∧ bestI f s (j + 1) = if f q < f j then (j : Int) else (q : Int) := by
  unfold bestI at *
  have h2 : (favP f s j).2 ≠ -1 := by
    intro e
    rw [if_pos e] at hb
    omega
  rw [if_neg h2] at hb
  obtain ⟨h3, _, _⟩ := favP_ok (f := f) (s := s) (j := j) hv
  rcases h3 with ⟨a, _, _⟩ | ⟨a, _, d, g, _⟩
  · exact absurd a h2
  · have hq : (favP f s j).1 = q := by omega
    rw [hq] at a d
    refine ⟨a, ?_⟩
    by_cases e : f q < f j
    · have e2 : favP f s (j + 1) = (j, f j) := by rw [favP_succ, d, if_pos ⟨h, e⟩]
      rw [e2, if_pos e]
      exact if_neg (show ¬ f j = -1 by omega)
    · have e2 : favP f s (j + 1) = favP f s j := by rw [favP_succ, d, if_neg fun h1 => e h1.2]
      rw [e2, if_neg e, if_neg h2, hq]
theorem bestI_end {f s : Nat → Int} {n : Nat} (h : 0 ≤ (favP f s n).2) : bestI f s n = (favN f s n : Nat) := by
  unfold bestI favN
  rw [if_neg (by omega)]
theorem bestI_cases {f s : Nat → Int} {j : Nat} (hv : ∀ i, i < j → 0 ≤ f i ∧ f i ≤ 1000) : bestI f s j = -1 ∨ ∃ q : Nat, bestI f s j = q ∧ q < j := by
  unfold bestI
  by_cases h : (favP f s j).2 = -1
  · exact .inl (if_pos h)
  · rw [if_neg h]
    obtain ⟨h3, _, _⟩ := favP_ok (f := f) (s := s) (j := j) hv
    rcases h3 with ⟨a, _, _⟩ | ⟨a, _⟩
    · exact absurd a h
    · exact .inr ⟨_, rfl, a⟩
set_option maxRecDepth 100000 in
set_option maxHeartbeats 6400000 in
theorem rPick_any (k cap n cS : Nat) (A S : Option Addr) (R : Nat → Row) (c : Nat → Int) (w : World) (W : Vals k n R) (hp : IsTab w A k R) (hc : IsInts w S n c) (hin : ∀ j, j < n → 0 ≤ c j ∧ c j < k) :
    GivesI 34 #[.slice A k cap, .slice S n cS] w (pickL (fT R) c n n) := by
  have hk6 := W.k6
  have hn12 := W.n12
  obtain ⟨b, off, rfl⟩ := hp.addr W.k1
  have CE := Lib.hid fun (V : World) (hb : Below w.heap.size w V) (i j : Nat) (hi : i < k) (hj : j < n) => tab_cell (hp.below hb) W hi hj
  have HC := Lib.hid hc
  have HIN := Lib.hid hin
  have VV := Lib.hid W.val
  have PL := Lib.hid (pickL_length (fT R) c n)
  have PS := Lib.hid (pickL_succ (fT R) c n)
  have PK := Lib.hid fun j (hj : j < n) => pick_some (F := fT R) (c := c) (K := k) (n := n) (k := j) (fun i hi j hj => W.val i hi j hj) hin hj
  have LOW := Lib.hid fun j (hj : j ≤ n) => (pick_ok (F := fT R) (c := c) (K := k) (n := n) (fun i hi j hj => W.val i hi j hj) hin j hj).low
  have P0 : Hid (pickL (fT R) c n 0 = List.replicate n (-1)) := rfl
  have FE : Hid (∀ i, fT R i = (R i).f) := fun _ => rfl
  generalize pickL (fT R) c n = P at *
  have MK : ∀ w', (Instr.makeSlice 23 (.int .i64 (n : Int)) (.int .i64 (n : Int))).run Try.prog w' = .ok (.slice (some ⟨w'.heap.size, 0, none⟩) n n) (w'.alloc (.cells (madeCells #[Value.int .i64 0] n) 3)) := fun w' => make_ints w' n (by omega)
  obtain ⟨B0, la0, ca0, _⟩ := tab_head0 hp W
  have hk1 := W.k1
  clear hp hc hin W
  go_enter Try.func34, Try.ntmps34
  go_wp2
  clear la0 ca0
  have HM0 := Lib.hid (made_own w n w.heap.size (Nat.le_refl _) (by omega))
  have HB1 : Hid (Below w.heap.size w (w.alloc (.cells (madeCells #[Value.int .i64 0] n) 3))) := (Below.refl _ _).alloc (Nat.le_refl _) _
  obtain ⟨go, hgo⟩ : ∃ go, w.heap.size = go := ⟨_, rfl⟩
  have HG : Hid (w.heap.size ≤ go) := Nat.le_of_eq hgo
  have hm := HM0.out
  rw [hgo] at hm ⊢
  have HM : Hid (OwnI (w.alloc (.cells (madeCells #[Value.int .i64 0] n) 3)) w.heap.size (.slice (some ⟨go, 0, none⟩) n n) (List.replicate n 0)) := by rw [hgo]; exact hm
  clear MK hm HM0 hgo
  generalize w.alloc (.cells (madeCells #[Value.int .i64 0] n) 3) = Z at *
  go_loopw [6] (fun u wr => ∃ (i : Nat) (l : List Int), u = .int .i64 (i : Nat) ∧ i ≤ n ∧ l.length = n ∧ Below w.heap.size w wr ∧ OwnI wr w.heap.size (.slice (some ⟨go, 0, none⟩) n n) l ∧ ∀ j, j < i → l.getD j 0 = -1) (fun u _ => n - (intOf u).toNat)
  case atStart => exact ⟨0, _, rfl, by omega, by simp, HB1.out, HM.out, by omega⟩
  case round =>
    obtain ⟨i, l, rfl, hi, hl, hbl, ho, hall⟩ := hrel
    clear HM HB1
    have HL := Lib.hid hl
    have HBL := Lib.hid hbl
    have HO := Lib.hid ho
    have HALL := Lib.hid hall
    clear hl hbl ho hall
    by_cases hlt : i < n
    · obtain ⟨o3, o4⟩ := HO.out.cell HL.out hlt
      have o5 := (own_lt HO.out go rfl).2
      have o6 := o4 i
      clear o4
      go_wp2
      go_roundw
      case rel => exact ⟨i + 1, l.set i (-1), by go_num, by omega, by rw [List.length_set]; exact HL.out, HBL.out.setCell (p := ⟨go, i, none⟩) HG.out _, HO.out.set HL.out i (-1), fun j hj => by
        rw [getD_setI (by rw [HL.out]; exact hlt)]
        split
        · rfl
        · exact HALL.out j (by omega)⟩
      case measure => simp [intOf]; omega
    · obtain rfl : i = n := by omega
      have HO1 : Hid (OwnI wr w.heap.size (.slice (some ⟨go, 0, none⟩) i i) (P 0)) := by
        have e := all_reps HL.out HALL.out
        show OwnI _ _ _ _
        rw [P0.out, ← e]
        exact HO.out
      clear HO HALL
      go_wp2
      go_loopw [7] (fun u wr => ∃ j : Nat, u = .int .i64 (j : Nat) ∧ j ≤ i ∧ Below w.heap.size w wr ∧ OwnI wr w.heap.size (.slice (some ⟨go, 0, none⟩) i i) (P j)) (fun u _ => i - (intOf u).toNat)
      case atStart => exact ⟨0, rfl, by omega, HBL.out, HO1.out⟩
      case round =>
        obtain ⟨j, rfl, hj, hbl2, ho2⟩ := hrel
        clear HO1 HBL
        have HBL := Lib.hid hbl2
        have HO := Lib.hid ho2
        clear hbl2 ho2
        by_cases hlt : j < i
        · obtain ⟨c0, c1⟩ := HIN.out j hlt
          obtain ⟨q, hq, hqk⟩ := cast_of c0 c1
          obtain ⟨bb, oo, hB, p⟩ := (HC.out.below HBL.out).at_ (by omega)
          subst hB
          have cj := p.at_ j hlt
          have lb := p.lt
          have hg : decide ((j : Int) < (i : Int)) = true := by simp; omega
          obtain ⟨pk1, pk2, _⟩ := PK.out j hlt
          have PS1 : Hid (P (j + 1) = (P j).set (favN (fT R (c j).toNat) (fun x => (P j).getD x 0) i) (c j)) := PS.out j
          rw [hq, Int.toNat_natCast, FE.out] at PS1 pk1 pk2
          rw [hq] at cj
          have LOWj := Lib.hid (LOW.out j hj)
          have BE := Lib.hid (bestI_end pk2)
          have CEq := Lib.hid fun V hb x hx => CE.out V hb q x hqk hx
          have VVq := Lib.hid (VV.out q hqk)
          have BC := Lib.hid fun x (hx : x ≤ i) => bestI_cases (f := (R q).f) (s := fun x => (P j).getD x 0) (j := x) fun y hy => VVq.out y (by omega)
          have BS := Lib.hid fun x => bestI_skip (f := (R q).f) (s := fun x => (P j).getD x 0) (j := x)
          have BF := Lib.hid fun x (hx : x < i) => bestI_first (f := (R q).f) (s := fun x => (P j).getD x 0) (j := x) (VVq.out x hx).1
          have BM := Lib.hid fun x y (hx : x < i) => bestI_more (f := (R q).f) (s := fun x => (P j).getD x 0) (j := x) (q := y) (fun z hz => VVq.out z (by omega)) (VVq.out x hx).1
          have B0 : Hid (bestI (R q).f (fun x => (P j).getD x 0) 0 = -1) := rfl
          have HLJ := Lib.hid (PL.out j)
          generalize favN (R q).f (fun x => (P j).getD x 0) i = fv at *
          generalize bestI (R q).f (fun x => (P j).getD x 0) = BI at *
          generalize (R q).f = f at *
          generalize (R q).c = rc at *
          generalize hPj : P j = l2 at *
          clear p hq c0 c1 pk2
          go_wp2
          obtain ⟨U, hU⟩ : ∃ U, wr = U := ⟨_, rfl⟩
          rw [hU] at cj lb HBL HO ⊢
          clear hU
          go_loopw [9, 10] (fun u v wr => ∃ x : Nat, u = .int .i64 (BI x) ∧ v = .int .i64 (x : Nat) ∧ x ≤ i ∧ ∃ y : Later U, wr = y.val) (fun _ v _ => i - (intOf v).toNat)
          case atStart => exact ⟨0, by rw [B0.out], rfl, by omega, later_of (by repeat (first | exact Below.refl _ _ | (with_reducible assumption) | apply below_later | apply below_alloc | apply below_drew | apply below_drewN))⟩
          case round =>
            obtain ⟨x, rfl, rfl, hx, y, rfl⟩ := hrel
            have HBY : Hid (Below w.heap.size w y.val) := below_more HBL.out y.ok
            have HOY := Lib.hid (HO.out.later y)
            by_cases hlt2 : x < i
            · obtain ⟨o1, o2⟩ := HOY.out.cell HLJ.out hlt2
              have o3 := (own_lt HOY.out go rfl).2
              clear o2
              obtain ⟨br, br', la, ca, lr, cr⟩ := CEq.out y.val HBY.out x hlt2
              have hg2 : decide ((x : Int) < (i : Int)) = true := by simp; omega
              have LW := LOWj.out x hlt2
              have BSx := Lib.hid (BS.out x)
              have BFx := Lib.hid (BF.out x hlt2)
              have BMx := Lib.hid fun z => BM.out x z hlt2
              have BCx := BC.out x hx
              generalize l2.getD x 0 = sx at *
              rcases LW with hs | ⟨hs, hs2⟩
              · have g1 : decide (sx < 0) = true := by simp; omega
                have HS := Lib.hid hs
                rcases BCx with hb | ⟨z, hb, hzx⟩
                · have g2 : decide (BI x < 0) = true := by simp; omega
                  have HN := Lib.hid (BFx.out hs (by omega))
                  clear hs hb
                  generalize BI x = bx at *
                  go_wp2_with fail
                  refine wp_region_later (by kernel_rfl) (by kernel_rfl) ?_
                  repeat (go_big_quiet_step ((fail)))
                  refine wpQuiet_nil ?_
                  intro u
                  go_wp2_with fail
                  first
                    | (go_roundw
                       case rel => exact ⟨x + 1, by rw [HN.out], by go_num, by omega, later_of (by repeat (first | exact Below.refl _ _ | (with_reducible assumption) | apply below_later | apply below_alloc | apply below_drew | apply below_drewN))⟩
                       case measure => simp [intOf]; omega)
                    | (refine ⟨⟨x + 1, by rw [HN.out], by go_num, by omega, later_of (by repeat (first | exact Below.refl _ _ | (with_reducible assumption) | apply below_later | apply below_alloc | apply below_drew | apply below_drewN))⟩, ?_⟩; simp [intOf]; omega)
                · obtain ⟨hzx2, hN⟩ := BMx.out z hs hb
                  have HNN := Lib.hid hN
                  obtain ⟨br2, br2', la2, ca2, lr2, cr2⟩ := CEq.out y.val HBY.out z (by omega)
                  have e5 : br2 = br ∧ br2' = br' := by
                    have := ca.symm.trans ca2
                    simp only [Option.some.injEq, Value.slice.injEq, Addr.mk.injEq, and_true] at this
                    exact ⟨this.1.symm, this.2.symm⟩
                  obtain ⟨rfl, rfl⟩ := e5
                  have g2 : decide (((z : Nat) : Int) < 0) = false := by simp
                  rw [hb]
                  have HBX := Lib.hid hb
                  have hzi : z < i := by omega
                  clear hs hb hN la2 ca2 lr2
                  by_cases h3 : f z < f x
                  · have HN : Hid (BI (x + 1) = (x : Int)) := by show _ = _; rw [HNN.out, if_pos h3]
                    generalize f z = fz at *
                    generalize f x = fx at *
                    go_wp2_with fail
                    refine wp_region_later (by kernel_rfl) (by kernel_rfl) ?_
                    repeat (go_big_quiet_step ((fail)))
                    refine wpQuiet_nil ?_
                    intro u
                    go_wp2_with fail
                    first
                      | (go_roundw
                         case rel => exact ⟨x + 1, by rw [HN.out], by go_num, by omega, later_of (by repeat (first | exact Below.refl _ _ | (with_reducible assumption) | apply below_later | apply below_alloc | apply below_drew | apply below_drewN))⟩
                         case measure => simp [intOf]; omega)
                      | (refine ⟨⟨x + 1, by rw [HN.out], by go_num, by omega, later_of (by repeat (first | exact Below.refl _ _ | (with_reducible assumption) | apply below_later | apply below_alloc | apply below_drew | apply below_drewN))⟩, ?_⟩; simp [intOf]; omega)
                  · have HN : Hid (BI (x + 1) = (z : Int)) := by show _ = _; rw [HNN.out, if_neg h3]
                    generalize f z = fz at *
                    generalize f x = fx at *
                    go_wp2_with fail
                    refine wp_region_later (by kernel_rfl) (by kernel_rfl) ?_
                    repeat (go_big_quiet_step ((fail)))
                    refine wpQuiet_nil ?_
                    intro u
                    go_wp2_with fail
                    first
                      | (go_roundw
                         case rel => exact ⟨x + 1, by rw [HN.out], by go_num, by omega, later_of (by repeat (first | exact Below.refl _ _ | (with_reducible assumption) | apply below_later | apply below_alloc | apply below_drew | apply below_drewN))⟩
                         case measure => simp [intOf]; omega)
                      | (refine ⟨⟨x + 1, by rw [HN.out], by go_num, by omega, later_of (by repeat (first | exact Below.refl _ _ | (with_reducible assumption) | apply below_later | apply below_alloc | apply below_drew | apply below_drewN))⟩, ?_⟩; simp [intOf]; omega)
              · have g1 : decide (sx < 0) = false := by simp; omega
                have HN := Lib.hid (BSx.out (by omega))
                clear hs
                generalize BI x = bx at *
                go_wp2_with fail
                refine wp_region_later (by kernel_rfl) (by kernel_rfl) ?_
                repeat (go_big_quiet_step ((fail)))
                refine wpQuiet_nil ?_
                intro u
                go_wp2_with fail
                first
                  | (go_roundw
                     case rel => exact ⟨x + 1, by rw [HN.out], by go_num, by omega, later_of (by repeat (first | exact Below.refl _ _ | (with_reducible assumption) | apply below_later | apply below_alloc | apply below_drew | apply below_drewN))⟩
                     case measure => simp [intOf]; omega)
                  | (refine ⟨⟨x + 1, by rw [HN.out], by go_num, by omega, later_of (by repeat (first | exact Below.refl _ _ | (with_reducible assumption) | apply below_later | apply below_alloc | apply below_drew | apply below_drewN))⟩, ?_⟩; simp [intOf]; omega)
            · obtain rfl : x = i := by omega
              obtain ⟨o1, o2⟩ := HOY.out.cell HLJ.out pk1
              have o3 := (own_lt HOY.out go rfl).2
              have o4 := o2 fv
              clear o2
              rw [BE.out]
              go_wp2_with fail
              first
                | (refine ⟨⟨j + 1, by go_num, by omega, HBY.out.setCell (p := ⟨go, fv, none⟩) HG.out _, by rw [PS1.out]; exact HOY.out.set HLJ.out fv _⟩, ?_⟩; simp [intOf]; omega)
                | (go_roundw
                   case rel => exact ⟨j + 1, by go_num, by omega, HBY.out.setCell (p := ⟨go, fv, none⟩) HG.out _, by rw [PS1.out]; exact HOY.out.set HLJ.out fv _⟩
                   case measure => simp [intOf]; omega)
        · obtain rfl : j = i := by omega
          go_wp2
          go_ret
          exact ⟨_, rfl, ⟨_, HBL.out⟩, rfl, HO.out⟩
end Go.Proofs.Ytjmjafpjfhgfdaa
