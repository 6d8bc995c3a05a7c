/- TopBuckets: the walk. -/
import Derived.Test.YtihgadppndcjaaaSFirst
import Derived.Test.YtihgadppndcjaaaTopBuckets
import Derived.Test.YtihgadppndcjaaaSU8s
import Derived.Maps.AppendAt
namespace Go.Proofs.Ytihgadppndcjaaa
open Go.RowKit

set_option maxRecDepth 100000 in
set_option maxHeartbeats 6400000 in
theorem buckets_law (W H : Int) (A : Option Addr) (n cap : Nat) (f : Nat → Int) (Q : Option Addr) (np capP : Nat) (pk : Nat → Int) (w : World) (hp : n ≤ 9223372036854775807 → IsInts w A n f) (hq : IsU8s w Q np pk) (hpk : ∀ i, i < np → 0 ≤ pk i ∧ pk i ≤ 255) :
    Gives Try.prog 14 #[.agg #[.int .i64 W, .int .i64 H, .slice A n cap], .slice Q np capP] w (.bool true) := by
  have F1 : Hid (∀ w, Gives Try.prog 16 #[] w (.bool true)) := first_any
  by_cases h25 : n ≤ 25
  · have q25 : decide ((25 : Int) < (n : Int)) = false := decide_eq_false (by omega)
    have hp' := hp (by omega)
    clear hp
    by_cases h200 : np ≤ 200
    · have q200 : decide ((200 : Int) < (np : Int)) = false := decide_eq_false (by omega)
      cases hv : bucketsB W H n f
      · have C2 : Hid (∀ w', IsInts w' A n f → Gives Try.prog 44 #[.int .i64 W, .int .i64 H, .slice A n cap] w' (.bool false)) := fun w' h => hv ▸ rbuckets_any W H A n cap f w' h
        have HP := Lib.hid hp'
        clear hv hp' hq hpk
        go_enter Try.func14, Try.ntmps14
        go_wp2_with (first
          | (go_at_call 44; (first | (with_reducible show Calls _ _ _ (Later.val _) _; with_reducible refine Calls.mono (Later.call _ (C2.out _ (HP.out.later ⟨_, by repeat (first | exact Below.refl _ _ | (with_reducible assumption) | apply below_later | apply below_alloc | apply below_drew | apply below_drewN)⟩))) ?_) | (with_reducible refine Calls.mono (Gives.calls (C2.out _ (HP.out.later ⟨_, by repeat (first | exact Below.refl _ _ | (with_reducible assumption) | apply below_later | apply below_alloc | apply below_drew | apply below_drewN)⟩))) ?_)); rintro e w1 ⟨rfl, z3, rfl⟩)
          | (go_at_call 16; (first | (with_reducible show Calls _ _ _ (Later.val _) _; with_reducible refine Calls.mono (Later.call _ (F1.out _)) ?_) | (with_reducible refine Calls.mono (Gives.calls (F1.out _)) ?_)); rintro e w1 ⟨rfl, z4, rfl⟩))
        go_ret
        exact ⟨rfl, later_of (by repeat (first | exact Below.refl _ _ | (with_reducible assumption) | apply below_later | apply below_alloc | apply below_drew | apply below_drewN))⟩
      · obtain ⟨⟨⟨a1, a2⟩, a3, a4⟩, a5, hf⟩ := buckets_facts hv
        obtain ⟨W', rfl⟩ : ∃ x : Nat, W = x := ⟨W.toNat, by omega⟩
        obtain ⟨H', rfl⟩ : ∃ x : Nat, H = x := ⟨H.toNat, by omega⟩
        have hn : n = W' * H' := by rw [← Int.natCast_mul] at a5; omega
        have hn1 : 1 ≤ n := by rw [hn]; exact Nat.mul_le_mul (show 1 ≤ W' by omega) (show 1 ≤ H' by omega)
        obtain ⟨b, off, rfl, p⟩ := hp'.at_ hn1
        have C2 : Hid (∀ w', IsInts w' (some ⟨b, off, none⟩) n f → Gives Try.prog 44 #[.int .i64 W', .int .i64 H', .slice (some ⟨b, off, none⟩) n cap] w' (.bool true)) := fun w' h => hv ▸ rbuckets_any W' H' _ n cap f w' h
        have ST : Hid (∀ w', Below w.heap.size w w' → Calls Try.prog 42 #[.int .i64 W', .int .i64 H', .slice (some ⟨b, off, none⟩) n cap] w' fun e w'' => ∃ v1 v2 bb o, e = .returned (.tuple #[v1, v2, .int .i64 0]) ∧ ∃ x : Later w', w'' = x.val ∧ OwnI w'' w'.heap.size v1 bb ∧ OwnI w'' w'.heap.size v2 o ∧ Rests W' H' n f bb o ∧ ∀ q, q < n → 0 ≤ o.getD q 0 ∧ o.getD q 0 ≤ 3276800) := fun w' h =>
          settle_bound W' H' n cap (some ⟨b, off, none⟩) f w' (hp'.later ⟨w', h⟩) hv
        have BX : Hid (∀ V, Below (w.alloc (.cells #[.int .i64 W', .int .i64 H', .slice (some ⟨b, off, none⟩) n cap] 54)).heap.size (w.alloc (.cells #[.int .i64 W', .int .i64 H', .slice (some ⟨b, off, none⟩) n cap] 54)) V → V.cell? ⟨w.heap.size, 0, none⟩ = some (.int .i64 W') ∧ V.cell? ⟨w.heap.size, 1, none⟩ = some (.int .i64 H') ∧ V.cell? ⟨w.heap.size, 2, none⟩ = some (.slice (some ⟨b, off, none⟩) n cap) ∧ w.heap.size < V.heap.size) := fun V h =>
          ⟨(Later.cell ⟨V, h⟩ _ _ (by simp)).trans (cell_of_heap (World.alloc_heap_new _ _) 0 _ rfl), (Later.cell ⟨V, h⟩ _ _ (by simp)).trans (cell_of_heap (World.alloc_heap_new _ _) 1 _ rfl), (Later.cell ⟨V, h⟩ _ _ (by simp)).trans (cell_of_heap (World.alloc_heap_new _ _) 2 _ rfl), by have := h.size; simp at this; omega⟩
        have HP := Lib.hid hp'
        have HF := Lib.hid hf
        have HN := Lib.hid hn
        have PP := Lib.hid p
        have HQ := Lib.hid hq
        have HPK := Lib.hid hpk
        have HV := Lib.hid hv
        clear hv hp' hf a5 hn p hq hpk
        obtain ⟨i0, hi0, hz0, hz1, hz2⟩ := info_int
        have OWN0 : Hid (∀ V : World, OwnI (V.alloc (.cells #[] 3)) V.heap.size (.slice (some ⟨V.heap.size, 0, none⟩) 0 0) []) := fun V => World.ownsRow_made V #[] 0 (Nat.le_refl _) (by unfold maxLen; omega) rfl
        have HNW : Hid (∀ V, Below w.heap.size w V → ∀ (j : Nat) (u : Value), (cellsI ((List.range n).map f))[j]? = some u → V.cell? ((⟨b, off, none⟩ : Addr).add j) = some u) := fun V h => ints_news (PP.out.later ⟨V, h⟩)
        have MK : Hid (∀ w', (Instr.makeSlice 22 (.int .i64 (n : Int)) (.int .i64 (n : Int))).run Try.prog w' = .ok (.slice (some ⟨w'.heap.size, 0, none⟩) n n) (w'.alloc (.cells (madeCells #[Value.int .i64 0] n) 3))) := fun w' => make_ints w' n (by omega)
        go_enter Try.func14, Try.ntmps14
        go_wp2_with (first
          | (go_at_call 44; with_reducible refine Calls.mono (Gives.calls (C2.out _ (HP.out.later ⟨_, by repeat (first | exact Below.refl _ _ | (with_reducible assumption) | apply below_later | apply below_alloc | apply below_drew | apply below_drewN)⟩))) ?_; rintro e w1 ⟨rfl, z4, rfl⟩; obtain ⟨bz40, bz41, bz42, bz43⟩ := BX.out z4.val (by repeat (first | exact Below.refl _ _ | (with_reducible assumption) | apply below_later | apply below_alloc | apply below_drew | apply below_drewN)))
          | (go_at_call 42; with_reducible refine Calls.mono (ST.out _ (by repeat (first | exact Below.refl _ _ | (with_reducible assumption) | apply below_later | apply below_alloc | apply below_drew | apply below_drewN))) ?_; rintro e w1 ⟨v1, v2, bb, o, rfl, z2, rfl, h1, h2, r, rb⟩; have SMO := Lib.hid rb; clear rb; obtain ⟨A1, cap1, rfl⟩ := h1.shape_n (n := n) r.lin.lb; obtain ⟨A2, cap2, rfl⟩ := h2.shape_n (n := n) r.lin.lo; have HI1 := Lib.hid (h1.ints (by rw [r.lin.lb]; omega)).2; have HI2 := Lib.hid (h2.ints (by rw [r.lin.lo]; omega)).2; have RR := Lib.hid r; clear h1 h2 r; obtain ⟨bz20, bz21, bz22, bz23⟩ := BX.out z2.val (by repeat (first | exact Below.refl _ _ | (with_reducible assumption) | apply below_later | apply below_alloc | apply below_drew | apply below_drewN)))
          | (at_builtin; refine wpList_append_own _ rfl _ _ 22 rfl _ 3 i0 (.int .i64 0) 1 8 Try.underlying22 hi0 hz0 hz1 hz2 rfl (by decide) _ _ _ rfl (OWN0.out _) ⟨b, off, none⟩ n cap (cellsI ((List.range n).map f)) rfl ?c1 (HNW.out _ (by repeat (first | exact Below.refl _ _ | (with_reducible assumption) | apply below_later | apply below_alloc | apply below_drew | apply below_drewN))) (cellsI_one _) ?c3 ?c4 ?c5 ?_))
        case c1 => rw [cellsI_length]; simp
        case c3 => simp only [maxLen, List.length_nil]; omega
        case c4 => simp only [List.length_nil]; omega
        case c5 => simp
        intro v' w1 hown2 hg1 _
        have hl0 : ((List.range n).map f).length = n := by simp
        have HOW : OwnI w1 z2.val.heap.size v' ((List.range n).map f) := by
          unfold OwnI
          rw [hl0]
          exact hown2
        have hbel : Below z2.val.heap.size z2.val w1 := below_own (by repeat (first | exact Below.refl _ _ | (with_reducible assumption) | apply below_later | apply below_alloc | apply below_drew | apply below_drewN)) (OWN0.out z2.val) (Nat.le_refl _) hg1
        have HBEL := Lib.hid hbel
        obtain ⟨A8, c8, hv'⟩ := HOW.shape_n (n := n) hl0
        subst hv'
        have HO8 := Lib.hid HOW
        have hbx : Below (w.alloc (.cells #[.int .i64 W', .int .i64 H', .slice (some ⟨b, off, none⟩) n cap] 54)).heap.size (w.alloc (.cells #[.int .i64 W', .int .i64 H', .slice (some ⟨b, off, none⟩) n cap] 54)) z2.val := by repeat (first | exact Below.refl _ _ | (with_reducible assumption) | apply below_later | apply below_alloc | apply below_drew | apply below_drewN)
        have BX2 : Hid (∀ V, Below z2.val.heap.size z2.val V → V.cell? ⟨w.heap.size, 0, none⟩ = some (.int .i64 W') ∧ V.cell? ⟨w.heap.size, 1, none⟩ = some (.int .i64 H') ∧ V.cell? ⟨w.heap.size, 2, none⟩ = some (.slice (some ⟨b, off, none⟩) n cap) ∧ w.heap.size < V.heap.size) := fun V h => BX.out V (below_more hbx h)
        have HB2 : Hid (Below w.heap.size w z2.val) := by show Below _ _ _; repeat (first | exact Below.refl _ _ | (with_reducible assumption) | apply below_later | apply below_alloc | apply below_drew | apply below_drewN)
        obtain ⟨bz90, bz91, bz92, bz93⟩ := BX2.out w1 hbel
        clear HOW hown2 hg1 hl0 hbx BX hbel bz20 bz21 bz22 bz23 bz40 bz41 bz42 bz43
        have mk := MK.out w1
        go_wp2_with fail
        clear mk
        have PK0 : Hid (PK z2.val (w1.alloc (.cells (madeCells #[Value.int .i64 0] n) 3)) w1.heap.size n (.slice A8 n c8) (.slice none 0 0) ((List.range n).map f) (List.replicate n 0) []) :=
          ⟨HBEL.out.alloc HBEL.out.size _, HO8.out.alloc _, (made_own w1 n _ (Nat.le_refl _) (by omega)).mono HBEL.out.size, OwnI.nil _ _, fun g hg e => by have := (own_lt HO8.out g hg).2; omega, fun g hg => by simp [Value.ownBlock] at hg⟩
        have PL0 : Hid (Pile W' H' n f ((List.range n).map f) (List.replicate n 0) []) := pile_start (by omega) (by omega) (by omega) HF.out
        obtain ⟨gc, hgc⟩ : ∃ gc, w1.heap.size = gc := ⟨_, rfl⟩
        rw [hgc] at PK0 ⊢
        clear hgc bz90 bz91 bz92 bz93 HBEL HO8 ST C2 HNW OWN0
        generalize w1.alloc (.cells (madeCells #[Value.int .i64 0] n) 3) = V0 at *
        generalize z2.val = VB at *
        go_loopw [8, 10, 11] (fun v8 v10 u wr => ∃ (k : Nat) (A8 : Option Addr) (c8 : Nat) (b' o' : List Int) (l : List Nat), v8 = .slice A8 n c8 ∧ u = .int .i64 k ∧ k ≤ np ∧ l.length ≤ k ∧ PK VB wr gc n (.slice A8 n c8) v10 b' o' l ∧ Pile W' H' n f b' o' l) (fun _ _ u _ => np - (intOf u).toNat)
        case atStart => exact ⟨0, A8, c8, _, _, _, rfl, rfl, by omega, by simp, PK0.out, PL0.out⟩
        case round =>
          clear PK0 PL0
          obtain ⟨k, A8, c8, b', o', l, rfl, rfl, hk, hlk, hpk, hpl⟩ := hrel
          have HPT := Lib.hid hpk
          have HPL := Lib.hid hpl
          clear hpk hpl
          by_cases hkn : k < np
          · generalize wr = WR at *
            have HI8x := Lib.hid ((HPT.out.now.ints (by rw [HPL.out.bv.lb]; omega)).2)
            go_wp2_with fail
            go_loopw [12, 13] (fun v12 u wr2 => ∃ q : Nat, u = .int .i64 q ∧ q ≤ n ∧ Below WR.heap.size WR wr2 ∧ OwnI wr2 WR.heap.size v12 (natN (may4 b' q))) (fun _ u _ => n - (intOf u).toNat)
            case atStart => exact ⟨0, rfl, by omega, Below.refl _ _, OwnI.nil _ _⟩
            case round =>
              obtain ⟨q, rfl, hq, hbm, hom⟩ := hrel
              have HBM := Lib.hid hbm
              have HOM := Lib.hid hom
              clear hbm hom
              obtain ⟨lm, hlm⟩ : ∃ lm, (may4 b' q).length = lm := ⟨_, rfl⟩
              have hlm25 : lm ≤ 25 := by have := may_len b' q; omega
              have HLM : Hid ((natN (may4 b' q)).length = lm) := by show _ = _; rw [← hlm]; simp [natN]
              have HLM2 := Lib.hid hlm
              clear hlm
              by_cases hql : q < n
              · obtain ⟨g8, f8, hA8, p8⟩ := (HI8x.out.below HBM.out).at_ (by omega)
                subst hA8
                have c8x := p8.at_ q hql
                have l8 := p8.lt
                clear p8
                by_cases h4 : 4 ≤ b'.getD q 0
                · have d4 : decide (4 ≤ b'.getD q 0) = true := decide_eq_true h4
                  have E : Hid (natN (may4 b' (q + 1)) = natN (may4 b' q) ++ [(q : Int)]) := by
                    show natN (if 4 ≤ b'.getD q 0 then may4 b' q ++ [q] else may4 b' q) = _
                    rw [if_pos h4]; simp [natN]
                  clear h4
                  generalize b'.getD q 0 = y1 at *
                  go_wp2_with (at_builtin; refine wpList_append_own _ rfl _ _ 22 rfl WR.heap.size 3 i0 (.int .i64 0) 1 8 Try.underlying22 hi0 hz0 hz1 hz2 rfl (by decide) _ _ _ rfl ((own_row HOM.out HLM.out).alloc _) ⟨_, 0, none⟩ 1 1 [.int .i64 (q : Nat)] rfl rfl lit_news one_int (by unfold maxLen; omega) (by omega) (by have := HBM.out.size; simp only [World.size_alloc]; omega) ?_; intro v5 w5 hown2 hgrow _; have HM5 : Hid (OwnI w5 WR.heap.size v5 (natN (may4 b' q) ++ [(q : Int)])) := push_own (P := Try.prog) (w := w5) (v := v5) (by rw [HLM.out]; exact hown2); have HB5 := Lib.hid ((HBM.out.alloc HBM.out.size _).grown hgrow (by have := HBM.out.size; simp; omega) fun k hk => (own_lt HOM.out k hk).1); clear hown2 hgrow)
                  go_roundw
                  case rel => exact ⟨q + 1, by go_num, by omega, HB5.out, by rw [E.out]; exact HM5.out⟩
                  case measure => simp [intOf]; omega
                · have d4 : decide (4 ≤ b'.getD q 0) = false := decide_eq_false h4
                  have E : Hid (may4 b' (q + 1) = may4 b' q) := by
                    show (if 4 ≤ b'.getD q 0 then may4 b' q ++ [q] else may4 b' q) = _
                    rw [if_neg h4]
                  clear h4
                  generalize b'.getD q 0 = y1 at *
                  go_wp2_with fail
                  go_roundw
                  case rel => exact ⟨q + 1, by go_num, by omega, HBM.out, by rw [E.out]; exact HOM.out⟩
                  case measure => simp [intOf]; omega
              · obtain rfl : n = q := by omega
                obtain ⟨A12, c12, hv12⟩ := HOM.out.shape_n HLM.out
                subst hv12
                by_cases hm0 : lm = 0
                · have d0 : ((lm : Int) == 0) = true := by rw [hm0]; rfl
                  have HPT := Lib.hid (HPT.out.to HBM.out)
                  obtain ⟨A10, c10, hv10⟩ := HPT.out.lst.shape_n (n := l.length) (by simp [natN])
                  subst hv10
                  have HL10 : Hid (IsInts wr A10 l.length fun i => ((l.getD i 0 : Nat) : Int)) := by
                    have h := (HPT.out.lst.ints (by simp [natN]; omega)).2
                    exact ⟨h.small, fun h0 => let ⟨b1, o1, e1, p1⟩ := h.at_ h0; ⟨b1, o1, e1, p1.lt, fun i hi => by rw [p1.at_ i hi]; simp [natN, List.getD_eq_getElem?_getD, hi]⟩⟩
                  have HI8 := Lib.hid ((HPT.out.now.ints (by rw [HPL.out.bv.lb]; omega)).2)
                  have HI9 := Lib.hid ((HPT.out.cnt.ints (by rw [HPL.out.law.lin.lo]; omega)).2)
                  have HBT := Lib.hid (below_more HB2.out HPT.out.below)
                  have AF : Hid (∀ w', Below (wr).heap.size (wr) w' → Calls Try.prog 47 #[.int .i64 W', .int .i64 H', .slice (some ⟨b, off, none⟩) n cap, .slice A10 l.length c10] w' fun e w'' => ∃ v, e = .returned (.tuple #[v, .int .i64 0]) ∧ ∃ x : Later w', w'' = x.val ∧ OwnI w'' w'.heap.size v b') := fun w' h =>
                    Calls.mono (after_any W' H' n cap b off l.length c10 A10 f (fun j => l.getD j 0) w' (by omega) (PP.out.later ⟨w', below_more HBT.out h⟩) HV.out (HL10.out.later ⟨w', h⟩) HPL.out.lt) fun e w'' k => k.2 b' HPL.out.run
                  have SI : Hid (∀ (q : List Int) (w' : World) (A B : Option Addr) (c1 c2 : Nat), IsInts w' A n (fun i => q.getD i 0) → IsInts w' B n (fun i => q.getD i 0) → Gives Try.prog 22 #[.slice A n c1, .slice B n c2] w' (.bool true)) := fun q w' A B c1 c2 h1 h2 => same_ints A B n c1 c2 _ _ w' (by omega) h1 h2 fun _ _ => rfl
                  obtain ⟨bt0, bt1, bt2, bt3⟩ := BX2.out (wr) HPT.out.below
                  go_wp2_with (first
                    | (go_at_call 47; with_reducible refine Calls.mono (AF.out _ (by repeat (first | exact Below.refl _ _ | (with_reducible assumption) | apply below_later | apply below_alloc | apply below_drew | apply below_drewN))) ?_; rintro e w1 ⟨va, rfl, za, rfl, ha⟩; obtain ⟨Aa, ca, rfl⟩ := ha.shape_n (n := n) HPL.out.bv.lb; have HIa := Lib.hid (ha.ints (by rw [HPL.out.bv.lb]; omega)).2; clear ha)
                    | (go_at_call 22; with_reducible refine Calls.mono (Gives.calls (SI.out b' _ _ _ _ _ (HIa.out.later ⟨_, by repeat (first | exact Below.refl _ _ | (with_reducible assumption) | apply below_later | apply below_alloc | apply below_drew | apply below_drewN)⟩) (HI8.out.later ⟨_, by repeat (first | exact Below.refl _ _ | (with_reducible assumption) | apply below_later | apply below_alloc | apply below_drew | apply below_drewN)⟩))) ?_; rintro e w3 ⟨rfl, zb, rfl⟩))
                  have HZB : Hid (Below (wr).heap.size (wr) zb.val) := by show Below _ _ _; repeat (first | exact Below.refl _ _ | (with_reducible assumption) | apply below_later | apply below_alloc | apply below_drew | apply below_drewN)
                  clear bt0 bt1 bt2 bt3
                  have HI8b := Lib.hid (HI8.out.later ⟨zb.val, HZB.out⟩)
                  have HI9b := Lib.hid (HI9.out.later ⟨zb.val, HZB.out⟩)
                  have HI2b := Lib.hid ((HI2.out.later ⟨_, HPT.out.below⟩).later ⟨zb.val, HZB.out⟩)
                  have HI1b := Lib.hid ((HI1.out.later ⟨_, HPT.out.below⟩).later ⟨zb.val, HZB.out⟩)
                  have HBW := Lib.hid (below_more HBT.out HZB.out)
                  have BX3 : Hid (∀ V, Below zb.val.heap.size zb.val V → V.cell? ⟨w.heap.size, 0, none⟩ = some (.int .i64 W') ∧ V.cell? ⟨w.heap.size, 1, none⟩ = some (.int .i64 H') ∧ V.cell? ⟨w.heap.size, 2, none⟩ = some (.slice (some ⟨b, off, none⟩) n cap) ∧ w.heap.size < V.heap.size) := fun V h => BX2.out V (below_more HPT.out.below (below_more HZB.out h))
                  have LE := Lib.hid (HPL.out.le RR.out)
                  have SM0 := SMO
                  have SM := Lib.hid (fun k hk => HPL.out.small (k := k) hk)
                  clear HI8 HI9
                  generalize zb.val = VC at *
                  go_loopw [16] (fun u wr => ∃ k : Nat, k ≤ n ∧ u = .int .i64 k ∧ ∃ x : Later VC, wr = x.val) (fun u _ => n - (intOf u).toNat)
                  case atStart => exact ⟨0, by omega, rfl, ⟨_, Below.refl _ _⟩, rfl⟩
                  case round =>
                    obtain ⟨q, hq, rfl, x, rfl⟩ := hrel
                    by_cases hlt : q < n
                    · obtain ⟨g9, f9, hA9, p9⟩ := (HI9b.out.later x).at_ (by omega)
                      obtain ⟨g2, f2, hA2, p2⟩ := (HI2b.out.later x).at_ (by omega)
                      simp only [Option.some.injEq, Addr.mk.injEq, and_true] at hA9
                      obtain ⟨e9, e9'⟩ := hA9
                      subst hA2 e9 e9'
                      have c9 := p9.at_ q hlt
                      rw [Nat.zero_add] at c9
                      have c2 := p2.at_ q hlt
                      have l9 := p9.lt
                      have l2 := p2.lt
                      have hle := LE.out q hlt
                      have d9 : decide (o.getD q 0 < o'.getD q 0) = false := decide_eq_false (by omega)
                      clear p9 p2
                      generalize o.getD q 0 = y1 at *
                      generalize o'.getD q 0 = y2 at *
                      go_wp2_with fail
                      refine wp_region_later (by kernel_rfl) (by kernel_rfl) ?_
                      repeat (go_big_quiet_step ((fail)))
                      refine wpQuiet_nil ?_
                      intro y9
                      go_wp2
                      go_roundw
                      case rel => exact ⟨q + 1, by omega, by go_num, later_of (by repeat (first | exact Below.refl _ _ | (with_reducible assumption) | apply below_later | apply below_alloc | apply below_drew | apply below_drewN))⟩
                      case measure => simp [intOf]; omega
                    · obtain rfl : q = n := by omega
                      go_wp2_with fail
                      go_loopw [17] (fun u wr => ∃ k : Nat, k ≤ q ∧ u = .int .i64 k ∧ (∀ j, j < k → b'.getD j 0 ≤ 100) ∧ ∃ y : Later x.val, wr = y.val) (fun u _ => q - (intOf u).toNat)
                      case atStart => exact ⟨0, by omega, rfl, by omega, ⟨_, Below.refl _ _⟩, rfl⟩
                      case round =>
                        obtain ⟨k, hk, rfl, hall, y, rfl⟩ := hrel
                        have HALL := Lib.hid hall
                        clear hall
                        have hby := below_more x.ok y.ok
                        by_cases hkl : k < q
                        · obtain ⟨g8, f8, hA8, p8⟩ := (show IsInts y.val A8 q _ from HI8b.out.later ⟨y.val, hby⟩).at_ (by omega)
                          subst hA8
                          have c8' := p8.at_ k hkl
                          have l8 := p8.lt
                          have HBY := Lib.hid (below_more HBW.out hby)
                          clear p8 hby
                          by_cases h100 : 100 < b'.getD k 0
                          · have d8 : decide (100 < b'.getD k 0) = true := decide_eq_true h100
                            generalize b'.getD k 0 = y1 at *
                            go_wp2_with (go_at_call 16; with_reducible refine Calls.mono (Gives.calls (F1.out _)) ?_; rintro e w1 ⟨rfl, zc, rfl⟩)
                            go_ret
                            exact ⟨rfl, ⟨⟨_, below_more HBY.out (by repeat (first | exact Below.refl _ _ | (with_reducible assumption) | apply below_later | apply below_alloc | apply below_drew | apply below_drewN))⟩, rfl⟩⟩
                          · have d8 : decide (100 < b'.getD k 0) = false := decide_eq_false h100
                            generalize hy1 : b'.getD k 0 = y1 at *
                            have HY1 := Lib.hid hy1
                            clear hy1
                            go_wp2_with fail
                            go_roundw
                            case rel => exact ⟨k + 1, by omega, by go_num, fun j hj => by
                              rcases Nat.lt_or_ge j k with h | h
                              · exact HALL.out j h
                              · obtain rfl : j = k := by omega
                                rw [HY1.out]; omega, later_of (by repeat (first | exact Below.refl _ _ | (with_reducible assumption) | apply below_later | apply below_alloc | apply below_drew | apply below_drewN))⟩
                            case measure => simp [intOf]; omega
                        · obtain rfl : k = q := by omega
                          have ST5 : Hid (∀ w', Below VC.heap.size VC w' → Calls Try.prog 42 #[.int .i64 W', .int .i64 H', .slice A8 k c8] w' fun e w'' => ∃ v1 v2 bb oo, e = .returned (.tuple #[v1, v2, .int .i64 0]) ∧ ∃ x : Later w', w'' = x.val ∧ OwnI w'' w'.heap.size v1 bb ∧ OwnI w'' w'.heap.size v2 oo ∧ Rests W' H' k (fun i => b'.getD i 0) bb oo) := fun w' h =>
                            settle_rests W' H' k c8 A8 _ w' (HI8b.out.later ⟨w', h⟩) (buckets_true (by omega) (by omega) (by omega) (by omega) HN.out fun i hi => ⟨(SM.out i hi).1, HALL.out i hi⟩)
                          have HBY := Lib.hid (below_more HBW.out hby)
                          have hby' := hby
                          obtain ⟨bt0, bt1, bt2, bt3⟩ := BX3.out y.val hby
                          go_wp2_with (first
                            | (go_at_call 42; with_reducible refine Calls.mono (ST5.out _ (by repeat (first | exact Below.refl _ _ | (with_reducible assumption) | apply below_later | apply below_alloc | apply below_drew | apply below_drewN))) ?_; rintro e w1 ⟨v5, v6, b5, o5, rfl, z5, rfl, h5, h6, r5⟩; obtain ⟨e5, s5⟩ := HPL.out.rest HN.out RR.out r5; subst e5; obtain ⟨A5, c5, rfl⟩ := h5.shape_n (n := k) r5.lin.lb; obtain ⟨A6, c6, rfl⟩ := h6.shape_n (n := k) r5.lin.lo; have HI5 := Lib.hid (h5.ints (by rw [r5.lin.lb]; omega)).2; have HI6 := Lib.hid (h6.ints (by rw [r5.lin.lo]; omega)).2; have S5 := Lib.hid s5; clear h5 h6 r5 s5)
                            | (go_at_call 22; with_reducible refine Calls.mono (Gives.calls (SI.out _ _ _ _ _ _ (HI5.out.later ⟨_, by repeat (first | exact Below.refl _ _ | (with_reducible assumption) | apply below_later | apply below_alloc | apply below_drew | apply below_drewN)⟩) (HI1b.out.later ⟨_, by repeat (first | exact Below.refl _ _ | (with_reducible assumption) | apply below_later | apply below_alloc | apply below_drew | apply below_drewN)⟩))) ?_; rintro e w3 ⟨rfl, z6, rfl⟩))
                          have HB6 : Hid (Below y.val.heap.size y.val z6.val) := by show Below _ _ _; repeat (first | exact Below.refl _ _ | (with_reducible assumption) | apply below_later | apply below_alloc | apply below_drew | apply below_drewN)
                          have HI9c := Lib.hid ((HI9b.out.later ⟨y.val, hby'⟩).later ⟨z6.val, HB6.out⟩)
                          have HI2c := Lib.hid ((HI2b.out.later ⟨y.val, hby'⟩).later ⟨z6.val, HB6.out⟩)
                          have HB7 := Lib.hid (below_more HBY.out HB6.out)
                          have HI6c : Hid (IsInts z6.val A6 k fun i => o5.getD i 0) := HI6.out.later ⟨_, by repeat (first | exact Below.refl _ _ | (with_reducible assumption) | apply below_later | apply below_alloc | apply below_drew | apply below_drewN)⟩
                          generalize z6.val = VD at *
                          go_loopw [20] (fun u wr => ∃ q : Nat, q ≤ k ∧ u = .int .i64 q ∧ ∃ x : Later VD, wr = x.val) (fun u _ => k - (intOf u).toNat)
                          case atStart => exact ⟨0, by omega, rfl, ⟨_, Below.refl _ _⟩, rfl⟩
                          case round =>
                            obtain ⟨q, hq, rfl, t, rfl⟩ := hrel
                            by_cases hlt : q < k
                            · obtain ⟨g9, f9, hA9, p9⟩ := (HI9c.out.later t).at_ (by omega)
                              obtain ⟨g2, f2, hA2, p2⟩ := (HI2c.out.later t).at_ (by omega)
                              obtain ⟨g6, f6, hA6, p6⟩ := (HI6c.out.later t).at_ (by omega)
                              simp only [Option.some.injEq, Addr.mk.injEq, and_true] at hA9
                              obtain ⟨e9, e9'⟩ := hA9
                              subst hA2 hA6 e9 e9'
                              have c9 := p9.at_ q hlt
                              rw [Nat.zero_add] at c9
                              have c2 := p2.at_ q hlt
                              have c6 := p6.at_ q hlt
                              have l9 := p9.lt
                              have l2 := p2.lt
                              have l6 := p6.lt
                              have hle := S5.out q hlt
                              have h0 := SM0.out q hlt
                              obtain ⟨y1, hy1⟩ : ∃ y1, o.getD q 0 = y1 := ⟨_, rfl⟩
                              obtain ⟨y2, hy2⟩ : ∃ y2, o'.getD q 0 = y2 := ⟨_, rfl⟩
                              obtain ⟨y3, hy3⟩ : ∃ y3, o5.getD q 0 = y3 := ⟨_, rfl⟩
                              rw [hy1] at c2 hle h0
                              rw [hy2] at c9 hle
                              rw [hy3] at c6 hle
                              clear p9 p2 p6 hy1 hy2 hy3
                              have b00 : 0 ≤ y2 + y3 := by omega
                              have b01 : y2 + y3 ≤ 10000000 := by omega
                              have d9 : (y2 + y3 != y1) = false := by rw [hle]; simp
                              have d9' : (y1 != y2 + y3) = false := by rw [hle]; simp
                              have E9 := Lib.hid hle
                              clear hle
                              go_wp2_with fail
                              refine wp_region_later (by kernel_rfl) (by kernel_rfl) ?_
                              repeat (go_big_quiet_step ((fail)))
                              refine wpQuiet_nil ?_
                              intro y9
                              go_wp2
                              go_roundw
                              case rel => exact ⟨q + 1, by omega, by go_num, later_of (by repeat (first | exact Below.refl _ _ | (with_reducible assumption) | apply below_later | apply below_alloc | apply below_drew | apply below_drewN))⟩
                              case measure => simp [intOf]; omega
                            · obtain rfl : q = k := by omega
                              go_wp2_with (go_at_call 16; with_reducible refine Calls.mono (Gives.calls (F1.out _)) ?_; rintro e w1 ⟨rfl, zc, rfl⟩)
                              go_ret
                              exact ⟨rfl, ⟨⟨_, below_more HB7.out (by repeat (first | exact Below.refl _ _ | (with_reducible assumption) | apply below_later | apply below_alloc | apply below_drew | apply below_drewN))⟩, rfl⟩⟩
                · have d0 : ((lm : Int) == 0) = false := by simp; omega
                  have HPT2 := Lib.hid (HPT.out.to HBM.out)
                  have hpkk := HPK.out k hkn
                  obtain ⟨j, hj, ej⟩ : ∃ j : Nat, j < lm ∧ pk k % (lm : Int) = j := ⟨(pk k % (lm : Int)).toNat, by have := Int.emod_lt_of_pos (pk k) (show (0 : Int) < lm by omega); have := Int.emod_nonneg (pk k) (show (lm : Int) ≠ 0 by omega); omega, by have := Int.emod_nonneg (pk k) (show (lm : Int) ≠ 0 by omega); omega⟩
                  obtain ⟨x, hx⟩ : ∃ x, (may4 b' n)[j]? = some x := ⟨_, List.getElem?_eq_getElem (by rw [HLM2.out]; exact hj)⟩
                  have hxm := may_mem (List.mem_of_getElem? hx)
                  obtain ⟨hxn, hx4⟩ := hxm
                  have HX4 := Lib.hid hx4
                  have ex : (natN (may4 b' n)).getD j 0 = (x : Int) := by rw [List.getD_eq_getElem?_getD, natN, List.getElem?_map, hx]; rfl
                  obtain ⟨gp, fp, hQ, pq⟩ := (show IsU8s WR Q np pk from HQ.out.later ⟨WR, below_more HB2.out HPT.out.below⟩).at_ (by omega)
                  subst hQ
                  have cp := (Later.cell ⟨_, HBM.out⟩ gp (fp + k) pq.lt).trans (pq.at_ k hkn)
                  have lp := Nat.lt_of_lt_of_le pq.lt HBM.out.size
                  obtain ⟨gm, fm, hA12, pm⟩ := ((HOM.out.ints (by rw [HLM.out]; omega)).2).at_ (by omega)
                  subst hA12
                  have cm := pm.at_ j hj
                  rw [ex] at cm
                  have lmm := pm.lt
                  have p0 := hpkk.1
                  have p1 := hpkk.2
                  have LL : Hid ((natN l).length = l.length) := by show _ = _; simp [natN]
                  have HPL2 := Lib.hid (HPL.out.step HN.out hxn hx4)
                  have BX4 := Lib.hid (fun V h => BX2.out V (below_more (below_more HPT.out.below HBM.out) h))
                  clear pm pq hx ex hx4 hpkk hm0
                  generalize pk k = pkk at *
                  go_wp2_with (at_builtin; (refine wpList_append_own_at _ rfl _ _ 22 rfl VB.heap.size 3 i0 (.int .i64 0) 1 8 Try.underlying22 hi0 hz0 hz1 hz2 rfl (by decide) _ _ _ rfl ((own_row HPT2.out.lst LL.out).alloc _) ⟨_, 0, none⟩ 1 1 [.int .i64 (x : Nat)] rfl rfl lit_news one_int ?g1 ?g2 ?g3 ?_))
                  case g1 => unfold maxLen; omega
                  case g2 => omega
                  case g3 =>
                    have := HPT2.out.below.size
                    first
                    | omega
                    | (simp only [World.size_alloc]; omega)
                  intro v5 w5 hown2 hgrow _ hat
                  have hp5 := HPT2.out.push hgrow hown2 hat
                  have HP6 := Lib.hid (hp5.count HPL.out.law.lin.lo x (o'.getD x 0 + 1))
                  obtain ⟨cx, fx⟩ := hp5.cnt.cell HPL.out.law.lin.lo hxn
                  have fxx := fx x
                  have lgx := (own_lt hp5.cnt gc rfl).2
                  clear hp5 hown2 hgrow hat fx
                  obtain ⟨by0, by1, by2, by3⟩ := BX2.out _ HP6.out.below
                  have o0 := HPL.out.law.no x (by rw [HPL.out.law.lin.lo]; exact hxn)
                  have o1 : o'.getD x 0 ≤ 3276800 := by
                    have h1 := HPL.out.le RR.out x hxn
                    have h2 := SMO.out x hxn
                    omega
                  have HI8y := Lib.hid ((HP6.out.now.ints (by rw [HPL.out.bv.lb]; omega)).2)
                  have RA := Lib.hid (one_after W' H' n c8 A8 b' x _ (by omega) (by omega) (by omega) (by omega) HN.out HI8y.out HPL.out.bv hxn HX4.out w5.heap.size (by simp))
                  have HLR : Hid ((runL W' H' b' x 1).length = n) := by show _ = _; rw [runL_length]; exact HPL.out.bv.lb
                  generalize hy1 : o'.getD x 0 = y1 at *
                  go_wp2_with (go_at_call 48; with_reducible refine Calls.mono RA.out ?_; rintro e w7 ⟨v7, rfl, z7, rfl, h7⟩; obtain ⟨A7, c7, rfl⟩ := h7.shape_n (n := n) HLR.out; have H7 := Lib.hid h7; clear h7)
                  go_roundw
                  case rel =>
                    refine ⟨k + 1, A7, c7, _, _, _, rfl, by go_num, by omega, by simp; omega, (HP6.out.to ((Below.refl _ _).alloc (Nat.le_refl _) _)).run z7 H7.out, ?_⟩
                    exact HPL2.out
                  case measure => simp [intOf]; omega
          · obtain rfl : k = np := by omega
            obtain ⟨A10, c10, hv10⟩ := HPT.out.lst.shape_n (n := l.length) (by simp [natN])
            subst hv10
            have HL10 : Hid (IsInts wr A10 l.length fun i => ((l.getD i 0 : Nat) : Int)) := by
              have h := (HPT.out.lst.ints (by simp [natN]; omega)).2
              exact ⟨h.small, fun h0 => let ⟨b1, o1, e1, p1⟩ := h.at_ h0; ⟨b1, o1, e1, p1.lt, fun i hi => by rw [p1.at_ i hi]; simp [natN, List.getD_eq_getElem?_getD, hi]⟩⟩
            have HI8 := Lib.hid ((HPT.out.now.ints (by rw [HPL.out.bv.lb]; omega)).2)
            have HI9 := Lib.hid ((HPT.out.cnt.ints (by rw [HPL.out.law.lin.lo]; omega)).2)
            have HBT := Lib.hid (below_more HB2.out HPT.out.below)
            have AF : Hid (∀ w', Below (wr).heap.size (wr) w' → Calls Try.prog 47 #[.int .i64 W', .int .i64 H', .slice (some ⟨b, off, none⟩) n cap, .slice A10 l.length c10] w' fun e w'' => ∃ v, e = .returned (.tuple #[v, .int .i64 0]) ∧ ∃ x : Later w', w'' = x.val ∧ OwnI w'' w'.heap.size v b') := fun w' h =>
              Calls.mono (after_any W' H' n cap b off l.length c10 A10 f (fun j => l.getD j 0) w' (by omega) (PP.out.later ⟨w', below_more HBT.out h⟩) HV.out (HL10.out.later ⟨w', h⟩) HPL.out.lt) fun e w'' k => k.2 b' HPL.out.run
            have SI : Hid (∀ (q : List Int) (w' : World) (A B : Option Addr) (c1 c2 : Nat), IsInts w' A n (fun i => q.getD i 0) → IsInts w' B n (fun i => q.getD i 0) → Gives Try.prog 22 #[.slice A n c1, .slice B n c2] w' (.bool true)) := fun q w' A B c1 c2 h1 h2 => same_ints A B n c1 c2 _ _ w' (by omega) h1 h2 fun _ _ => rfl
            obtain ⟨bt0, bt1, bt2, bt3⟩ := BX2.out (wr) HPT.out.below
            go_wp2_with (first
              | (go_at_call 47; with_reducible refine Calls.mono (AF.out _ (by repeat (first | exact Below.refl _ _ | (with_reducible assumption) | apply below_later | apply below_alloc | apply below_drew | apply below_drewN))) ?_; rintro e w1 ⟨va, rfl, za, rfl, ha⟩; obtain ⟨Aa, ca, rfl⟩ := ha.shape_n (n := n) HPL.out.bv.lb; have HIa := Lib.hid (ha.ints (by rw [HPL.out.bv.lb]; omega)).2; clear ha)
              | (go_at_call 22; with_reducible refine Calls.mono (Gives.calls (SI.out b' _ _ _ _ _ (HIa.out.later ⟨_, by repeat (first | exact Below.refl _ _ | (with_reducible assumption) | apply below_later | apply below_alloc | apply below_drew | apply below_drewN)⟩) (HI8.out.later ⟨_, by repeat (first | exact Below.refl _ _ | (with_reducible assumption) | apply below_later | apply below_alloc | apply below_drew | apply below_drewN)⟩))) ?_; rintro e w3 ⟨rfl, zb, rfl⟩))
            have HZB : Hid (Below (wr).heap.size (wr) zb.val) := by show Below _ _ _; repeat (first | exact Below.refl _ _ | (with_reducible assumption) | apply below_later | apply below_alloc | apply below_drew | apply below_drewN)
            clear bt0 bt1 bt2 bt3
            have HI8b := Lib.hid (HI8.out.later ⟨zb.val, HZB.out⟩)
            have HI9b := Lib.hid (HI9.out.later ⟨zb.val, HZB.out⟩)
            have HI2b := Lib.hid ((HI2.out.later ⟨_, HPT.out.below⟩).later ⟨zb.val, HZB.out⟩)
            have HI1b := Lib.hid ((HI1.out.later ⟨_, HPT.out.below⟩).later ⟨zb.val, HZB.out⟩)
            have HBW := Lib.hid (below_more HBT.out HZB.out)
            have BX3 : Hid (∀ V, Below zb.val.heap.size zb.val V → V.cell? ⟨w.heap.size, 0, none⟩ = some (.int .i64 W') ∧ V.cell? ⟨w.heap.size, 1, none⟩ = some (.int .i64 H') ∧ V.cell? ⟨w.heap.size, 2, none⟩ = some (.slice (some ⟨b, off, none⟩) n cap) ∧ w.heap.size < V.heap.size) := fun V h => BX2.out V (below_more HPT.out.below (below_more HZB.out h))
            have LE := Lib.hid (HPL.out.le RR.out)
            have SM0 := SMO
            have SM := Lib.hid (fun k hk => HPL.out.small (k := k) hk)
            clear HI8 HI9
            generalize zb.val = VC at *
            go_loopw [16] (fun u wr => ∃ k : Nat, k ≤ n ∧ u = .int .i64 k ∧ ∃ x : Later VC, wr = x.val) (fun u _ => n - (intOf u).toNat)
            case atStart => exact ⟨0, by omega, rfl, ⟨_, Below.refl _ _⟩, rfl⟩
            case round =>
              obtain ⟨q, hq, rfl, x, rfl⟩ := hrel
              by_cases hlt : q < n
              · obtain ⟨g9, f9, hA9, p9⟩ := (HI9b.out.later x).at_ (by omega)
                obtain ⟨g2, f2, hA2, p2⟩ := (HI2b.out.later x).at_ (by omega)
                simp only [Option.some.injEq, Addr.mk.injEq, and_true] at hA9
                obtain ⟨e9, e9'⟩ := hA9
                subst hA2 e9 e9'
                have c9 := p9.at_ q hlt
                rw [Nat.zero_add] at c9
                have c2 := p2.at_ q hlt
                have l9 := p9.lt
                have l2 := p2.lt
                have hle := LE.out q hlt
                have d9 : decide (o.getD q 0 < o'.getD q 0) = false := decide_eq_false (by omega)
                clear p9 p2
                generalize o.getD q 0 = y1 at *
                generalize o'.getD q 0 = y2 at *
                go_wp2_with fail
                refine wp_region_later (by kernel_rfl) (by kernel_rfl) ?_
                repeat (go_big_quiet_step ((fail)))
                refine wpQuiet_nil ?_
                intro y9
                go_wp2
                go_roundw
                case rel => exact ⟨q + 1, by omega, by go_num, later_of (by repeat (first | exact Below.refl _ _ | (with_reducible assumption) | apply below_later | apply below_alloc | apply below_drew | apply below_drewN))⟩
                case measure => simp [intOf]; omega
              · obtain rfl : q = n := by omega
                go_wp2_with fail
                go_loopw [17] (fun u wr => ∃ k : Nat, k ≤ q ∧ u = .int .i64 k ∧ (∀ j, j < k → b'.getD j 0 ≤ 100) ∧ ∃ y : Later x.val, wr = y.val) (fun u _ => q - (intOf u).toNat)
                case atStart => exact ⟨0, by omega, rfl, by omega, ⟨_, Below.refl _ _⟩, rfl⟩
                case round =>
                  obtain ⟨k, hk, rfl, hall, y, rfl⟩ := hrel
                  have HALL := Lib.hid hall
                  clear hall
                  have hby := below_more x.ok y.ok
                  by_cases hkl : k < q
                  · obtain ⟨g8, f8, hA8, p8⟩ := (show IsInts y.val A8 q _ from HI8b.out.later ⟨y.val, hby⟩).at_ (by omega)
                    subst hA8
                    have c8' := p8.at_ k hkl
                    have l8 := p8.lt
                    have HBY := Lib.hid (below_more HBW.out hby)
                    clear p8 hby
                    by_cases h100 : 100 < b'.getD k 0
                    · have d8 : decide (100 < b'.getD k 0) = true := decide_eq_true h100
                      generalize b'.getD k 0 = y1 at *
                      go_wp2_with (go_at_call 16; with_reducible refine Calls.mono (Gives.calls (F1.out _)) ?_; rintro e w1 ⟨rfl, zc, rfl⟩)
                      go_ret
                      exact ⟨rfl, ⟨⟨_, below_more HBY.out (by repeat (first | exact Below.refl _ _ | (with_reducible assumption) | apply below_later | apply below_alloc | apply below_drew | apply below_drewN))⟩, rfl⟩⟩
                    · have d8 : decide (100 < b'.getD k 0) = false := decide_eq_false h100
                      generalize hy1 : b'.getD k 0 = y1 at *
                      have HY1 := Lib.hid hy1
                      clear hy1
                      go_wp2_with fail
                      go_roundw
                      case rel => exact ⟨k + 1, by omega, by go_num, fun j hj => by
                        rcases Nat.lt_or_ge j k with h | h
                        · exact HALL.out j h
                        · obtain rfl : j = k := by omega
                          rw [HY1.out]; omega, later_of (by repeat (first | exact Below.refl _ _ | (with_reducible assumption) | apply below_later | apply below_alloc | apply below_drew | apply below_drewN))⟩
                      case measure => simp [intOf]; omega
                  · obtain rfl : k = q := by omega
                    have ST5 : Hid (∀ w', Below VC.heap.size VC w' → Calls Try.prog 42 #[.int .i64 W', .int .i64 H', .slice A8 k c8] w' fun e w'' => ∃ v1 v2 bb oo, e = .returned (.tuple #[v1, v2, .int .i64 0]) ∧ ∃ x : Later w', w'' = x.val ∧ OwnI w'' w'.heap.size v1 bb ∧ OwnI w'' w'.heap.size v2 oo ∧ Rests W' H' k (fun i => b'.getD i 0) bb oo) := fun w' h =>
                      settle_rests W' H' k c8 A8 _ w' (HI8b.out.later ⟨w', h⟩) (buckets_true (by omega) (by omega) (by omega) (by omega) HN.out fun i hi => ⟨(SM.out i hi).1, HALL.out i hi⟩)
                    have HBY := Lib.hid (below_more HBW.out hby)
                    have hby' := hby
                    obtain ⟨bt0, bt1, bt2, bt3⟩ := BX3.out y.val hby
                    go_wp2_with (first
                      | (go_at_call 42; with_reducible refine Calls.mono (ST5.out _ (by repeat (first | exact Below.refl _ _ | (with_reducible assumption) | apply below_later | apply below_alloc | apply below_drew | apply below_drewN))) ?_; rintro e w1 ⟨v5, v6, b5, o5, rfl, z5, rfl, h5, h6, r5⟩; obtain ⟨e5, s5⟩ := HPL.out.rest HN.out RR.out r5; subst e5; obtain ⟨A5, c5, rfl⟩ := h5.shape_n (n := k) r5.lin.lb; obtain ⟨A6, c6, rfl⟩ := h6.shape_n (n := k) r5.lin.lo; have HI5 := Lib.hid (h5.ints (by rw [r5.lin.lb]; omega)).2; have HI6 := Lib.hid (h6.ints (by rw [r5.lin.lo]; omega)).2; have S5 := Lib.hid s5; clear h5 h6 r5 s5)
                      | (go_at_call 22; with_reducible refine Calls.mono (Gives.calls (SI.out _ _ _ _ _ _ (HI5.out.later ⟨_, by repeat (first | exact Below.refl _ _ | (with_reducible assumption) | apply below_later | apply below_alloc | apply below_drew | apply below_drewN)⟩) (HI1b.out.later ⟨_, by repeat (first | exact Below.refl _ _ | (with_reducible assumption) | apply below_later | apply below_alloc | apply below_drew | apply below_drewN)⟩))) ?_; rintro e w3 ⟨rfl, z6, rfl⟩))
                    have HB6 : Hid (Below y.val.heap.size y.val z6.val) := by show Below _ _ _; repeat (first | exact Below.refl _ _ | (with_reducible assumption) | apply below_later | apply below_alloc | apply below_drew | apply below_drewN)
                    have HI9c := Lib.hid ((HI9b.out.later ⟨y.val, hby'⟩).later ⟨z6.val, HB6.out⟩)
                    have HI2c := Lib.hid ((HI2b.out.later ⟨y.val, hby'⟩).later ⟨z6.val, HB6.out⟩)
                    have HB7 := Lib.hid (below_more HBY.out HB6.out)
                    have HI6c : Hid (IsInts z6.val A6 k fun i => o5.getD i 0) := HI6.out.later ⟨_, by repeat (first | exact Below.refl _ _ | (with_reducible assumption) | apply below_later | apply below_alloc | apply below_drew | apply below_drewN)⟩
                    generalize z6.val = VD at *
                    go_loopw [20] (fun u wr => ∃ q : Nat, q ≤ k ∧ u = .int .i64 q ∧ ∃ x : Later VD, wr = x.val) (fun u _ => k - (intOf u).toNat)
                    case atStart => exact ⟨0, by omega, rfl, ⟨_, Below.refl _ _⟩, rfl⟩
                    case round =>
                      obtain ⟨q, hq, rfl, t, rfl⟩ := hrel
                      by_cases hlt : q < k
                      · obtain ⟨g9, f9, hA9, p9⟩ := (HI9c.out.later t).at_ (by omega)
                        obtain ⟨g2, f2, hA2, p2⟩ := (HI2c.out.later t).at_ (by omega)
                        obtain ⟨g6, f6, hA6, p6⟩ := (HI6c.out.later t).at_ (by omega)
                        simp only [Option.some.injEq, Addr.mk.injEq, and_true] at hA9
                        obtain ⟨e9, e9'⟩ := hA9
                        subst hA2 hA6 e9 e9'
                        have c9 := p9.at_ q hlt
                        rw [Nat.zero_add] at c9
                        have c2 := p2.at_ q hlt
                        have c6 := p6.at_ q hlt
                        have l9 := p9.lt
                        have l2 := p2.lt
                        have l6 := p6.lt
                        have hle := S5.out q hlt
                        have h0 := SM0.out q hlt
                        obtain ⟨y1, hy1⟩ : ∃ y1, o.getD q 0 = y1 := ⟨_, rfl⟩
                        obtain ⟨y2, hy2⟩ : ∃ y2, o'.getD q 0 = y2 := ⟨_, rfl⟩
                        obtain ⟨y3, hy3⟩ : ∃ y3, o5.getD q 0 = y3 := ⟨_, rfl⟩
                        rw [hy1] at c2 hle h0
                        rw [hy2] at c9 hle
                        rw [hy3] at c6 hle
                        clear p9 p2 p6 hy1 hy2 hy3
                        have b00 : 0 ≤ y2 + y3 := by omega
                        have b01 : y2 + y3 ≤ 10000000 := by omega
                        have d9 : (y2 + y3 != y1) = false := by rw [hle]; simp
                        have d9' : (y1 != y2 + y3) = false := by rw [hle]; simp
                        have E9 := Lib.hid hle
                        clear hle
                        go_wp2_with fail
                        refine wp_region_later (by kernel_rfl) (by kernel_rfl) ?_
                        repeat (go_big_quiet_step ((fail)))
                        refine wpQuiet_nil ?_
                        intro y9
                        go_wp2
                        go_roundw
                        case rel => exact ⟨q + 1, by omega, by go_num, later_of (by repeat (first | exact Below.refl _ _ | (with_reducible assumption) | apply below_later | apply below_alloc | apply below_drew | apply below_drewN))⟩
                        case measure => simp [intOf]; omega
                      · obtain rfl : q = k := by omega
                        go_wp2_with (go_at_call 16; with_reducible refine Calls.mono (Gives.calls (F1.out _)) ?_; rintro e w1 ⟨rfl, zc, rfl⟩)
                        go_ret
                        exact ⟨rfl, ⟨⟨_, below_more HB7.out (by repeat (first | exact Below.refl _ _ | (with_reducible assumption) | apply below_later | apply below_alloc | apply below_drew | apply below_drewN))⟩, rfl⟩⟩
    · have q200 : decide ((200 : Int) < (np : Int)) = true := decide_eq_true (by omega)
      clear hp' hq hpk
      go_enter Try.func14, Try.ntmps14
      go_wp2_with (go_at_call 16; (first | (with_reducible show Calls _ _ _ (Later.val _) _; with_reducible refine Calls.mono (Later.call _ (F1.out _)) ?_) | (with_reducible refine Calls.mono (Gives.calls (F1.out _)) ?_)); rintro e w1 ⟨rfl, z4, rfl⟩)
      go_ret
      exact ⟨rfl, later_of (by repeat (first | exact Below.refl _ _ | (with_reducible assumption) | apply below_later | apply below_alloc | apply below_drew | apply below_drewN))⟩
  · have q25 : decide ((25 : Int) < (n : Int)) = true := decide_eq_true (by omega)
    clear hp hq hpk
    go_enter Try.func14, Try.ntmps14
    go_wp2_with (go_at_call 16; (first | (with_reducible show Calls _ _ _ (Later.val _) _; with_reducible refine Calls.mono (Later.call _ (F1.out _)) ?_) | (with_reducible refine Calls.mono (Gives.calls (F1.out _)) ?_)); rintro e w1 ⟨rfl, z4, rfl⟩)
    go_ret
    exact ⟨rfl, later_of (by repeat (first | exact Below.refl _ _ | (with_reducible assumption) | apply below_later | apply below_alloc | apply below_drew | apply below_drewN))⟩
end Go.Proofs.Ytihgadppndcjaaa
