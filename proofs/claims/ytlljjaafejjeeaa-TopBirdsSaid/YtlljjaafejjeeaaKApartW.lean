/- wader's apart: walked. -/
import Derived.Test.YtlljjaafejjeeaaKOpn
import Derived.Laws.EntriesVeiled
namespace Go.Proofs.Ytlljjaafejjeeaa
open Go.RowKit

theorem four_below (Z : World) (o1 o2 o3 o4 : Obj) : Below Z.heap.size Z ((((Z.alloc o1).alloc o2).alloc o3).alloc o4).drew :=
  below_drew (below_alloc (below_alloc (below_alloc (below_alloc (Below.refl _ _)))))
theorem box_new (Z : World) (v : Value) (t : TypeId) : (Z.alloc (.cells #[v] t)).heap[Z.heap.size]? = some (.cells #[v] t (0, 0)) := one_box Z v t
theorem alloc_far {Z : World} {v : Value} {t : TypeId} {g : Nat} (o' : Obj) (h : Z.heap[g]? = some (.cells #[v] t (0, 0))) : (Z.alloc o').heap[g]? = some (.cells #[v] t (0, 0)) := (Below.heap_alloc _ _ _ (get_lt h)).trans h
theorem four_box1 (Z : World) (o2 o3 o4 : Obj) (v : Value) (t : TypeId) : ((((Z.alloc (.cells #[v] t)).alloc o2).alloc o3).alloc o4).drew.heap[Z.heap.size]? = some (.cells #[v] t (0, 0)) := by
  have h := box_new Z v t
  exact (alloc_far o4 (alloc_far o3 (alloc_far o2 h)))
theorem four_own1 (Z : World) (n : Nat) (hn : n ≤ 1000000) (o2 o3 o4 : Obj) : OwnBl ((((Z.alloc (.cells (madeCells #[Value.bool false] n) 4)).alloc o2).alloc o3).alloc o4).drew Z.heap.size (.slice (some ⟨Z.heap.size, 0, none⟩) n n) (List.replicate n false) := by
  have h := made_ownBl Z n Z.heap.size (by first | exact Nat.le_refl _ | (simp only [World.size_alloc]; omega)) hn
  exact (World.ownsRow.alloc (World.ownsRow.alloc (World.ownsRow.alloc h o2) o3) o4)
theorem four_box2 (Z : World) (o1 o3 o4 : Obj) (v : Value) (t : TypeId) : ((((Z.alloc o1).alloc (.cells #[v] t)).alloc o3).alloc o4).drew.heap[Z.heap.size + 1]? = some (.cells #[v] t (0, 0)) := by
  have h := box_new (Z.alloc o1) v t
  simp only [World.size_alloc] at h
  exact (alloc_far o4 (alloc_far o3 h))
theorem four_own2 (Z : World) (n : Nat) (hn : n ≤ 1000000) (o1 o3 o4 : Obj) : OwnBl ((((Z.alloc o1).alloc (.cells (madeCells #[Value.bool false] n) 4)).alloc o3).alloc o4).drew Z.heap.size (.slice (some ⟨Z.heap.size + 1, 0, none⟩) n n) (List.replicate n false) := by
  have h := made_ownBl (Z.alloc o1) n Z.heap.size (by first | exact Nat.le_refl _ | (simp only [World.size_alloc]; omega)) hn
  simp only [World.size_alloc] at h
  exact (World.ownsRow.alloc (World.ownsRow.alloc h o3) o4)
theorem four_box3 (Z : World) (o1 o2 o4 : Obj) (v : Value) (t : TypeId) : ((((Z.alloc o1).alloc o2).alloc (.cells #[v] t)).alloc o4).drew.heap[Z.heap.size + 1 + 1]? = some (.cells #[v] t (0, 0)) := by
  have h := box_new ((Z.alloc o1).alloc o2) v t
  simp only [World.size_alloc] at h
  exact (alloc_far o4 h)
theorem four_own3 (Z : World) (n : Nat) (hn : n ≤ 1000000) (o1 o2 o4 : Obj) : OwnBl ((((Z.alloc o1).alloc o2).alloc (.cells (madeCells #[Value.bool false] n) 4)).alloc o4).drew Z.heap.size (.slice (some ⟨Z.heap.size + 1 + 1, 0, none⟩) n n) (List.replicate n false) := by
  have h := made_ownBl ((Z.alloc o1).alloc o2) n Z.heap.size (by first | exact Nat.le_refl _ | (simp only [World.size_alloc]; omega)) hn
  simp only [World.size_alloc] at h
  exact (World.ownsRow.alloc h o4)
theorem four_box4 (Z : World) (o1 o2 o3 : Obj) (v : Value) (t : TypeId) : ((((Z.alloc o1).alloc o2).alloc o3).alloc (.cells #[v] t)).drew.heap[Z.heap.size + 1 + 1 + 1]? = some (.cells #[v] t (0, 0)) := by
  have h := box_new (((Z.alloc o1).alloc o2).alloc o3) v t
  simp only [World.size_alloc] at h
  exact h
theorem four_own4 (Z : World) (n : Nat) (hn : n ≤ 1000000) (o1 o2 o3 : Obj) : OwnBl ((((Z.alloc o1).alloc o2).alloc o3).alloc (.cells (madeCells #[Value.bool false] n) 4)).drew Z.heap.size (.slice (some ⟨Z.heap.size + 1 + 1 + 1, 0, none⟩) n n) (List.replicate n false) := by
  have h := made_ownBl (((Z.alloc o1).alloc o2).alloc o3) n Z.heap.size (by first | exact Nat.le_refl _ | (simp only [World.size_alloc]; omega)) hn
  simp only [World.size_alloc] at h
  exact h
set_option maxRecDepth 100000 in
set_option maxHeartbeats 6400000 in
theorem apartW_any (s : Int) (n cap : Nat) (A : Option Addr) (X Y T : Nat → Int) (w : World) (W : Watch n s X Y T) (hp : IsChs w A n X Y T) :
    GivesI 24 #[.agg #[.slice A n cap, .int .i64 s]] w (natZ (apartM n (opnM (leadsR s X Y T) (matM (leadsR s X Y T) n n) n n))) := by
  have hn30 := W.n30
  have hb : Below w.heap.size w (w.alloc (.cells #[.slice A n cap, .int .i64 s] 53)) := (Below.refl _ _).alloc (Nat.le_refl _) _
  have hb1 : (w.alloc (.cells #[.slice A n cap, .int .i64 s] 53)).heap[w.heap.size]? = some (.cells #[.slice A n cap, .int .i64 s] 53 (0, 0)) := World.alloc_heap_new _ _
  obtain ⟨c0, c1, l0⟩ := box2 w (.slice A n cap) (.int .i64 s) 53
  have I := mat_inv (leadsR s X Y T) n n (Nat.le_refl _)
  have MA := Lib.hid fun (V : World) (h : IsChs V A n X Y T) => matched_any s n cap A X Y T V W h
  have ML := Lib.hid I.len
  have MKB : ∀ w', (Instr.makeSlice 64 (.int .i64 (n : Int)) (.int .i64 (n : Int))).run Try.prog w' = .ok (.slice (some ⟨w'.heap.size, 0, none⟩) n n) (w'.alloc (.cells (madeCells #[Value.bool false] n) 4)) := fun w' => make_bools w' n (by omega)
  have HP := Lib.hid (hp.below hb)
  have HB := Lib.hid hb
  have HB1 := Lib.hid hb1
  generalize matM (leadsR s X Y T) n n = be at *
  clear hp hb hb1
  go_enter Try.func24, Try.ntmps24
  go_wp2_with fail
  obtain ⟨bw, hbw⟩ : ∃ bw, w.heap.size = bw := ⟨_, rfl⟩
  rw [hbw] at c0 c1 l0 ⊢
  generalize w.alloc (.cells #[.slice A n cap, .int .i64 s] 53) = B0 at *
  go_wp2_with (go_at_call 22; with_reducible refine Calls.mono (GivesI.calls (MA.out _ HP.out)) ?_; rintro e w1 ⟨v, rfl, z, rfl, ho⟩; obtain ⟨F, cb, rfl⟩ := ho.shape_n ML.out; have HO := Lib.hid ho; clear ho)
  have HBZ : Hid (Below B0.heap.size B0 (z.val.alloc (.cells #[.slice F n cb] 24))) := by show Below _ _ _; exact below_alloc z.ok
  have HXB : Hid ((z.val.alloc (.cells #[.slice F n cb] 24)).heap[z.val.heap.size]? = some (.cells #[.slice F n cb] 24 (0, 0))) := one_box _ _ _
  have HF : Hid (IsInts (z.val.alloc (.cells #[.slice F n cb] 24)) F n fun i => be.getD i 0) := by
    show IsInts _ _ _ _
    exact ((HO.out.alloc _).ints (by rw [ML.out]; omega)).2
  obtain ⟨bb, hbb⟩ : ∃ bb, z.val.heap.size = bb := ⟨_, rfl⟩
  rw [hbb] at HXB ⊢
  clear hbb HO
  generalize z.val.alloc (.cells #[.slice F n cb] 24) = Z at *
  obtain ⟨x0, _, x2⟩ := box_facts HXB.out
  have hnM : n ≤ 1000000 := by omega
  go_cut [4, 5] (fun s4 s5 wx => ∃ bo bc go gc : Nat, s4 = .pointer (some ⟨bo, 0, none⟩) ∧ s5 = .pointer (some ⟨bc, 0, none⟩) ∧ Below Z.heap.size Z wx ∧
    wx.heap[bo]? = some (.cells #[.slice (some ⟨go, 0, none⟩) n n] 64 (0, 0)) ∧ wx.heap[bc]? = some (.cells #[.slice (some ⟨gc, 0, none⟩) n n] 64 (0, 0)) ∧
    OwnBl wx Z.heap.size (.slice (some ⟨go, 0, none⟩) n n) (List.replicate n false) ∧ OwnBl wx Z.heap.size (.slice (some ⟨gc, 0, none⟩) n n) (List.replicate n false) ∧
    (go ≠ gc ∧ go ≠ bo ∧ go ≠ bc ∧ gc ≠ bo ∧ gc ≠ bc) ∧ Z.heap.size ≤ go ∧ Z.heap.size ≤ gc)
  case first =>
    go_region
    all_goals
      go_wp2_with fail
      go_meet
      refine ⟨_, _, ?_, ?_, rfl, rfl, ?_, ?_, ?_, ?_, ?_, ?_, ?_, ?_⟩
      rotate_left 2
      · with_reducible exact four_below _ _ _ _ _
      · (first | with_reducible exact four_box1 _ _ _ _ _ _ | with_reducible exact four_box2 _ _ _ _ _ _ | with_reducible exact four_box3 _ _ _ _ _ _ | with_reducible exact four_box4 _ _ _ _ _ _)
      · (first | with_reducible exact four_box1 _ _ _ _ _ _ | with_reducible exact four_box2 _ _ _ _ _ _ | with_reducible exact four_box3 _ _ _ _ _ _ | with_reducible exact four_box4 _ _ _ _ _ _)
      · (first | with_reducible exact four_own1 _ _ hnM _ _ _ | with_reducible exact four_own2 _ _ hnM _ _ _ | with_reducible exact four_own3 _ _ hnM _ _ _ | with_reducible exact four_own4 _ _ hnM _ _ _)
      · (first | with_reducible exact four_own1 _ _ hnM _ _ _ | with_reducible exact four_own2 _ _ hnM _ _ _ | with_reducible exact four_own3 _ _ hnM _ _ _ | with_reducible exact four_own4 _ _ hnM _ _ _)
      · omega
      · omega
      · omega
  case rest =>
    obtain ⟨bo, bc, go, gc, rfl, rfl, hbx, ho, hc, oo, oc, hne, g1, g2⟩ := hcut
    have hzb := get_lt HXB.out
    have HXW : Hid (Z.heap[bw]? = some (.cells #[.slice A n cap, .int .i64 s] 53 (0, 0))) := by
      have h := HB1.out
      rw [hbw] at h
      exact (HBZ.out.block _ (get_lt h)).trans h
    have hzw := get_lt HXW.out
    have lo := (own_lt oo go rfl).2
    have lc := (own_lt oc gc rfl).2
    have ho2 := get_lt ho
    have hc2 := get_lt hc
    have AS0 : Hid (PS Z (wc.alloc (.cells #[.func (.func 42) #[] #[.pointer (some ⟨bo, 0, none⟩), .pointer (some ⟨bb, 0, none⟩), .pointer (some ⟨bc, 0, none⟩), .pointer (some ⟨bw, 0, none⟩), .pointer (some ⟨wc.heap.size, 0, none⟩)]] 65)) bo bb bc bw wc.heap.size go gc n cap cb A F s (opnM (leadsR s X Y T) be n 0).1 (opnM (leadsR s X Y T) be n 0).2) :=
      ⟨below_alloc hbx, alloc_far _ ho, alloc_far _ ((hbx.block _ hzb).trans HXB.out), alloc_far _ hc, one_box _ _ _, (Below.heap_alloc _ _ _ (Nat.lt_of_lt_of_le hzw hbx.size)).trans ((hbx.block _ hzw).trans HXW.out), World.ownsRow.alloc oo _, World.ownsRow.alloc oc _, by omega⟩
    have y0 := (hbx.cell (p := ⟨bb, 0, none⟩) x2).trans x0
    have y2 := Nat.lt_of_lt_of_le x2 hbx.size
    clear x0 x2 ho hc oo oc hne g1 g2 lo lc ho2 hc2 hzb hzw MKB hbx
    go_wp2_with fail
    obtain ⟨bk, hbk⟩ : ∃ bk, wc.heap.size = bk := ⟨_, rfl⟩
    rw [hbk] at AS0 ⊢
    clear hbk y0 y2
    generalize wc.alloc (.cells #[.func (.func 42) #[] #[.pointer (some ⟨bo, 0, none⟩), .pointer (some ⟨bb, 0, none⟩), .pointer (some ⟨bc, 0, none⟩), .pointer (some ⟨bw, 0, none⟩), .pointer (some ⟨bk, 0, none⟩)]] 65) = V at *
    obtain ⟨S, hS, hf⟩ := I.clo
    have OI := Lib.hid fun i (h : i ≤ n) => opnM_inv hS I.okm (fun j hj => hf j hj) i h
    have OS : Hid (∀ i : Nat, be.count (i : Int) = 0 → opnM (leadsR s X Y T) be n (i + 1) = opn (leadsR s X Y T) be n (n + 1) i (opnM (leadsR s X Y T) be n i)) := fun i h => by rw [opnM, if_pos h]
    have ON : Hid (∀ i : Nat, ¬ be.count (i : Int) = 0 → opnM (leadsR s X Y T) be n (i + 1) = opnM (leadsR s X Y T) be n i) := fun i h => by rw [opnM, if_neg h]
    have OA := Lib.hid fun (i : Nat) (op cu : List Bool) (V : World) (hi : i < n) (hc : be.count (i : Int) = 0) (h1 : op.length = n) (h2 : cu.length = n) (h3 : PS Z V bo bb bc bw bk go gc n cap cb A F s op cu) =>
      opn_any Z bo bb bc bw bk go gc n cap cb A F s X Y T be S W (HP.out.below HBZ.out) HF.out hS I.okm (n + 1) i op cu V hi (hf i hi hc) h1 h2 (by have := List.count_le_length (a := false) (l := cu); omega) h3
    have CO := Lib.hid fun (x : Int) (V : World) (h : Below Z.heap.size Z V) => contains_any n cb F be x V (by omega) ML.out (HF.out.below h)
    clear I hS hf W
    generalize leadsR s X Y T = L at *
    go_loopw [21] (fun u wr => ∃ i : Nat, u = .int .i64 (i : Nat) ∧ i ≤ n ∧ PS Z wr bo bb bc bw bk go gc n cap cb A F s (opnM L be n i).1 (opnM L be n i).2) (fun u _ => n - (intOf u).toNat)
    case atStart => exact ⟨0, rfl, by omega, AS0.out⟩
    case round =>
      obtain ⟨i, rfl, hi, ps⟩ := hrel
      clear AS0
      have HPS := Lib.hid ps
      obtain ⟨y0, _, y2⟩ := box_facts ps.xb
      obtain ⟨k0, _, k2⟩ := box_facts ps.xk
      have oi := OI.out i hi
      have HL1 : Hid ((opnM L be n i).1.length = n) := oi.l1
      have HL2 : Hid ((opnM L be n i).2.length = n) := oi.l2
      have CO1 := Lib.hid (CO.out (i : Int) wr ps.below)
      clear ps oi
      by_cases hlt : i < n
      · by_cases hct : be.count (i : Int) = 0
        · rw [show decide (be.count (i : Int) ≠ 0) = false by simp [hct]] at CO1
          have OS1 := Lib.hid (OS.out i hct)
          have OA1 := Lib.hid fun V h3 => OA.out i (opnM L be n i).1 (opnM L be n i).2 V hlt hct HL1.out HL2.out h3
          rw [show ((opnM L be n i).1, (opnM L be n i).2) = opnM L be n i from rfl] at OA1
          clear hct
          generalize opnM L be n i = st at *
          go_wp2_with (first
            | (go_at_call 44; with_reducible refine Calls.mono (Gives.calls (CO1.out)) ?_; rintro e w1 ⟨rfl, y, rfl⟩)
            | (go_at_call 42; with_reducible refine Calls.mono (OA1.out _ (HPS.out.later y)) ?_; rintro e w' ⟨rfl, ps2⟩; have PS2 := Lib.hid ps2; clear ps2))
          first
            | (go_roundw
               case rel => exact ⟨i + 1, by go_num, by omega, by rw [OS1.out]; exact PS2.out⟩
               case measure => simp [intOf]; omega)
            | (refine ⟨⟨i + 1, by go_num, by omega, by rw [OS1.out]; exact PS2.out⟩, ?_⟩; simp [intOf]; omega)
        · rw [show decide (be.count (i : Int) ≠ 0) = true by simp [hct]] at CO1
          have ON1 := Lib.hid (ON.out i hct)
          clear hct
          go_wp2_with (go_at_call 44; with_reducible refine Calls.mono (Gives.calls (CO1.out)) ?_; rintro e w1 ⟨rfl, y, rfl⟩)
          go_roundw
          case rel => exact ⟨i + 1, by go_num, by omega, by rw [ON1.out]; exact HPS.out.later y⟩
          case measure => simp [intOf]; omega
      · obtain rfl : i = n := by omega
        clear CO CO1 OA OS ON OI k0 k2
        go_wp2_with fail
        have HBW : Hid (Below w.heap.size w wr) := by
          show Below _ _ _
          exact below_more HB.out (below_more HBZ.out HPS.out.below)
        generalize opnM L be i i = st at *
        obtain ⟨lk, hlk⟩ : ∃ lk : Nat → List Nat, (fun k => (List.range k).filter fun i => st.1.getD i true && !st.2.getD i true) = lk := ⟨_, rfl⟩
        have HA : Hid (apartM i st = lk i) := congrFun hlk i
        have K0 : Hid (lk 0 = []) := by rw [← hlk]; rfl
        have KS : Hid (∀ k, lk (k + 1) = lk k ++ if (st.1.getD k true && !st.2.getD k true) = true then [k] else []) := fun k => by
          rw [← hlk]
          dsimp only
          rw [List.range_succ, List.filter_append]
          congr 1
          rw [List.filter_cons]
          split <;> simp_all
        have KL : Hid (∀ k, (lk k).length ≤ k) := fun k => by
          rw [← hlk]
          have := List.length_filter_le (fun i => st.1.getD i true && !st.2.getD i true) (List.range k)
          rw [List.length_range] at this
          exact this
        clear hlk y0 y2
        obtain ⟨i0, hi0, hz0, hz1, hz2⟩ := info_int
        generalize wr = U at *
        go_loopw [7, 34] (fun u v wr => ∃ k : Nat, v = .int .i64 (k : Nat) ∧ k ≤ i ∧ Below U.heap.size U wr ∧ OwnI wr U.heap.size u (natZ (lk k))) (fun _ v _ => i - (intOf v).toNat)
        case atStart => exact ⟨0, rfl, by omega, Below.refl _ _, by rw [K0.out]; exact OwnI.nil _ _⟩
        case round =>
          obtain ⟨k, rfl, hk, hbl, ho⟩ := hrel
          have HBL := Lib.hid hbl
          have HO := Lib.hid ho
          clear hbl ho
          by_cases hlt : k < i
          · have psw := HPS.out.later ⟨wr, HBL.out⟩
            obtain ⟨x0, _, x2⟩ := box_facts psw.xo
            obtain ⟨z0, _, z2⟩ := box_facts psw.xc
            obtain ⟨t3, _, t5⟩ := psw.oo.cell HL1.out hlt
            obtain ⟨q3, _, q5⟩ := psw.oc.cell HL2.out hlt
            have KS1 := Lib.hid (KS.out k)
            have HKL := Lib.hid (KL.out k)
            dsimp only at x0 x2 z0 z2 t3 t5 q3 q5
            clear psw KS KL
            generalize st.1.getD k true = a at *
            generalize st.2.getD k true = b at *
            cases a
            case false =>
              have KS2 : Hid (lk (k + 1) = lk k) := by show _ = _; rw [KS1.out]; simp
              go_wp2_with fail
              go_roundw
              case rel => exact ⟨k + 1, by go_num, by omega, HBL.out, by rw [KS2.out]; exact HO.out⟩
              case measure => simp [intOf]; omega
            case true =>
              cases b
              case true =>
                have KS2 : Hid (lk (k + 1) = lk k) := by show _ = _; rw [KS1.out]; simp
                go_wp2_with fail
                go_roundw
                case rel => exact ⟨k + 1, by go_num, by omega, HBL.out, by rw [KS2.out]; exact HO.out⟩
                case measure => simp [intOf]; omega
              case false =>
                have KS2 : Hid (lk (k + 1) = lk k ++ [k]) := by show _ = _; rw [KS1.out]; simp
                generalize lk k = l at *
                generalize wr = X at *
                go_wp2_with (at_builtin; refine wpList_append_own_at _ rfl _ _ 24 rfl U.heap.size 3 i0 (.int .i64 0) 1 8 Try.underlying24 hi0 hz0 hz1 hz2 rfl (by decide) _ _ _ rfl ((own_row HO.out (natZ_length l)).alloc _) ⟨_, 0, none⟩ 1 1 [.int .i64 (k : Nat)] rfl rfl lit_news one_int ?g1 ?g2 ?g3 ?_)
                case g1 => have := HKL.out; unfold maxLen; omega
                case g2 => have := HKL.out; omega
                case g3 => have := HBL.out.size; first | omega | (simp only [World.size_alloc]; omega)
                intro v6 w6 hown2 hgrow _ hat
                have hb6 : Below U.heap.size U w6 := below_own (w1 := X.alloc (.cells #[.int .i64 (k : Nat)] 3)) (below_alloc HBL.out) ((own_row HO.out (natZ_length l)).alloc _) (Nat.le_refl _) hgrow
                have HO6 : Hid (OwnI w6 U.heap.size v6 (natZ (l ++ [k]))) := by
                  show OwnI _ _ _ _
                  unfold OwnI
                  rw [natZ_length, List.length_append, cellsI_nat]
                  exact hown2
                have HB6 := Lib.hid hb6
                clear hown2 hgrow hat hb6
                go_wp2_with fail
                go_roundw
                case rel => exact ⟨k + 1, by go_num, by omega, HB6.out, by rw [KS2.out]; exact HO6.out⟩
                case measure => simp [intOf]; omega
          · obtain rfl : k = i := by omega
            go_wp2_with fail
            go_ret
            have h := HO.out.mono HBW.out.size
            rw [← HA.out] at h
            exact ⟨_, rfl, ⟨_, below_more HBW.out HBL.out⟩, rfl, h⟩
end Go.Proofs.Ytlljjaafejjeeaa
