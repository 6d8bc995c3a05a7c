/- The law BedSums: under way. -/
import Derived.Test.YtajfepogecakbaaDoorPairs
import Derived.Test.YtajfepogecakbaaDoorCounts
import Derived.Test.YtajfepogecakbaaDoorSame
import Derived.Test.YtajfepogecakbaaDoorAwake
import Derived.Test.YtajfepogecakbaaDoorBedRef
import Derived.Deep.DeepCutAuto
namespace Go.Proofs.YtajfepogecakbaaDoor
open Go.RowKit

theorem GivesIE.at_ {f : FuncId} {args : Array Value} {w : World} {l : List Int} {E : Int} (x : Later w) (h : GivesIE f args x.val l E) :
    Calls Tryd.prog f args x.val fun e w' => ∃ v, e = .returned (.tuple #[v, .int .i64 E]) ∧ ∃ y : Later w, w' = y.val ∧ OwnI w' x.val.heap.size v l :=
  Calls.mono h fun _ w' ⟨v, he, y, hy, ho⟩ => ⟨v, he, ⟨w', by rw [hy]; exact below_more x.ok y.ok⟩, rfl, ho⟩
theorem kind_reed (f : Nat → Int) : ∀ n, ((kindN n f 1 : Nat) : Int) = reedC f n
  | 0 => rfl
  | n + 1 => by
    have ih := kind_reed f n
    unfold kindN at ih ⊢
    rw [cntB_succ]
    show _ = reedC f n + (if f n = 1 then 1 else 0)
    rw [← ih]
    by_cases h : f n = 1 <;> simp [h]
theorem parts_bd {no g : Nat → Int} {tot k : Nat} (hk : k ≤ 900) (h : ∀ i, i < k → -9 ≤ g i ∧ g i ≤ 9) : ∀ j, j < tot → -1000000 ≤ (parts no g tot k).getD j 0 ∧ (parts no g tot k).getD j 0 ≤ 1000000 := fun j hj => by
  rw [parts_at hj]
  have := part_bd (no := no) (g := g) (k := k) (j := j) h
  omega

set_option maxRecDepth 100000 in
set_option maxHeartbeats 3200000 in
theorem sums_law (W H : Int) (A : Option Addr) (n cap : Nat) (f : Nat → Int) (w : World) (hp : IsInts w A n f) :
    Gives Tryd.prog 10 #[.agg #[.int .i64 W, .int .i64 H, .slice A n cap]] w (.bool true) := by
  have AW : Hid (∀ w, Gives Tryd.prog 16 #[] w (.bool true)) := awake_any
  have HP := Lib.hid hp
  have hm1 := hp.small
  clear hp
  cases hv : validM W H n f
  · have V : Hid (∀ w', IsInts w' A n f → Gives Tryd.prog 20 #[.agg #[.int .i64 W, .int .i64 H, .slice A n cap]] w' (.bool false)) := fun w' h => hv ▸ rmvalid_any W H A n cap f w' h
    clear hv
    go_enter Tryd.func10, Tryd.ntmps10
    go_wp2_with (first | (go_at_call 20; (first | (with_reducible show Calls _ _ _ (Later.val _) _; with_reducible refine Calls.mono (Later.call _ (V.out _ (HP.out.later ⟨_, by repeat (first | exact Below.refl _ _ | (with_reducible assumption) | apply below_later | apply below_alloc | apply below_drew | apply below_drewN)⟩))) ?_) | (with_reducible refine Calls.mono (Gives.calls (V.out _ (HP.out.later ⟨_, by repeat (first | exact Below.refl _ _ | (with_reducible assumption) | apply below_later | apply below_alloc | apply below_drew | apply below_drewN)⟩))) ?_)); rintro e w1 ⟨rfl, z, rfl⟩) | (go_at_call 16; (first | (with_reducible show Calls _ _ _ (Later.val _) _; with_reducible refine Calls.mono (Later.call _ (AW.out _)) ?_) | (with_reducible refine Calls.mono (Gives.calls (AW.out _)) ?_)); rintro e w1 ⟨rfl, y2, rfl⟩))
    go_ret
    exact ⟨rfl, later_of (by repeat (first | exact Below.refl _ _ | (with_reducible assumption) | apply below_later | apply below_alloc | apply below_drew | apply below_drewN))⟩
  · have V : Hid (∀ w', IsInts w' A n f → Gives Tryd.prog 20 #[.agg #[.int .i64 W, .int .i64 H, .slice A n cap]] w' (.bool true)) := fun w' h => hv ▸ rmvalid_any W H A n cap f w' h
    obtain ⟨⟨v1, v2⟩, ⟨v3, v4⟩, hn, _⟩ := validM_iff.1 hv
    obtain ⟨W, rfl⟩ : ∃ x : Nat, W = x := ⟨W.toNat, by omega⟩
    obtain ⟨H, rfl⟩ : ∃ y : Nat, H = y := ⟨H.toNat, by omega⟩
    have hn' : n = W * H := by rw [← Int.natCast_mul] at hn; omega
    have hW1 : 1 ≤ W := by omega
    have hH1 : 1 ≤ H := by omega
    have hn9 : n ≤ 900 := by rw [hn']; exact Nat.mul_le_mul (show W ≤ 30 by omega) (show H ≤ 30 by omega)
    have h0 : 0 < n := by
      have := Nat.mul_le_mul hW1 hH1
      omega
    obtain ⟨tot, htot⟩ : ∃ tot, bedsN W H f = tot := ⟨_, rfl⟩
    have htl : tot ≤ n := by rw [← htot, hn']; exact num_le_n _ _
    have C1 : Hid (∀ w', IsInts w' A n f → Gives Tryd.prog 24 #[.agg #[.int .i64 W, .int .i64 H, .slice A n cap], .int .i64 1] w' (.tuple #[.int .i64 (reedC f n), .int .i64 0])) := fun w' h => by
      have := Count_any W H n cap A f 1 w' h
      unfold countV countE at this
      rw [hv] at this
      simp only [show kindB 1 = true by decide, and_self, if_true] at this
      rwa [kind_reed] at this
    have B1 : Hid (∀ w', IsInts w' A n f → GivesIE 26 #[.agg #[.int .i64 W, .int .i64 H, .slice A n cap]] w' ((List.range n).map (bedNo W H f)) 0) := fun w' h => Beds_ok W H n cap A f w' h hv
    have B2 : Hid (∀ w', IsInts w' A n f → GivesIE 29 #[.agg #[.int .i64 W, .int .i64 H, .slice A n cap]] w' (sizesL W H f) 0) := fun w' h => Sizes_ok W H n cap A f w' h hv
    have B3 : Hid (∀ w', IsInts w' A n f → GivesIE 31 #[.agg #[.int .i64 W, .int .i64 H, .slice A n cap]] w' (sidesL W H f) 0) := fun w' h => Sides_ok W H n cap A f w' h hv
    have l2 : (sizesL W H f).length = tot := by rw [← htot]; exact parts_length _ _ _ _
    have l3 : (sidesL W H f).length = tot := by rw [← htot]; exact parts_length _ _ _ _
    have S2 : Hid (∀ (w' : World) (B : Option Addr) (c : Nat), IsInts w' B tot (fun i => (sizesL W H f).getD i 0) → Gives Tryd.prog 51 #[.slice B tot c] w' (.int .i64 (reedC f n))) := fun w' B c h => by
      have := sum_any B tot c _ w' (by omega) h (by rw [← htot]; exact parts_bd (hn' ▸ hn9) fun i _ => by omega)
      rw [← htot, sizes_sum hW1, ← hn'] at this
      rw [← htot]; exact this
    have S3 : Hid (∀ (w' : World) (B : Option Addr) (c : Nat), IsInts w' B tot (fun i => (sidesL W H f).getD i 0) → Gives Tryd.prog 51 #[.slice B tot c] w' (.int .i64 (4 * reedC f n - 2 * pairC W f n))) := fun w' B c h => by
      have := sum_any B tot c _ w' (by omega) h (by rw [← htot]; exact parts_bd (hn' ▸ hn9) fun i _ => by have := reedsN_le W H f i; omega)
      rw [← htot, sides_sum hW1 hH1, ← hn'] at this
      rw [← htot]; exact this
    have PR : Hid (∀ w', IsInts w' A n f → Gives Tryd.prog 52 #[.agg #[.int .i64 W, .int .i64 H, .slice A n cap]] w' (.int .i64 (pairC W f n))) := fun w' h => pairs_any W n cap H A f w' hW1 (by omega) (by omega) h
    have rb0 : -1000 ≤ reedC f n ∧ reedC f n ≤ 1000 := by
      have := sumTo_bd (h := fun i => if f i = 1 then 1 else 0) (c := 1) (n := n) (by omega) fun i _ => by show _ ≤ (if f i = 1 then (1 : Int) else 0) ∧ (if f i = 1 then (1 : Int) else 0) ≤ _; split <;> omega
      unfold reedC
      omega
    have pb0 : -2000 ≤ pairC W f n ∧ pairC W f n ≤ 2000 := by
      have := sumTo_bd (h := fun i => leftP W f i + upP W f i) (c := 2) (n := n) (by omega) fun i _ => by
        unfold leftP upP
        split <;> split <;> omega
      unfold pairC
      omega
    obtain ⟨rb0, rb1⟩ := rb0
    obtain ⟨pb0, pb1⟩ := pb0
    obtain ⟨rc, hrc⟩ : ∃ rc, reedC f n = rc := ⟨_, rfl⟩
    obtain ⟨pc, hpc⟩ : ∃ pc, pairC W f n = pc := ⟨_, rfl⟩
    rw [hrc] at C1 S2 S3 rb0 rb1
    rw [hpc] at S3 PR pb0 pb1
    have L2 := Lib.hid l2
    have L3 := Lib.hid l3
    have HNN := Lib.hid hn'
    have HTOT := Lib.hid htot
    clear hrc hpc l2 l3 hv hn hn' htot
    go_enter Tryd.func10, Tryd.ntmps10
    go_wp2_with (first
      | (go_at_call 20; (first | (with_reducible show Calls _ _ _ (Later.val _) _; with_reducible refine Calls.mono (Later.call _ (V.out _ (HP.out.later ⟨_, by repeat (first | exact Below.refl _ _ | (with_reducible assumption) | apply below_later | apply below_alloc | apply below_drew | apply below_drewN)⟩))) ?_) | (with_reducible refine Calls.mono (Gives.calls (V.out _ (HP.out.later ⟨_, by repeat (first | exact Below.refl _ _ | (with_reducible assumption) | apply below_later | apply below_alloc | apply below_drew | apply below_drewN)⟩))) ?_)); rintro e w1 ⟨rfl, z, rfl⟩)
      | (go_at_call 24; (first | (with_reducible show Calls _ _ _ (Later.val _) _; with_reducible refine Calls.mono (Later.call _ (C1.out _ (HP.out.later ⟨_, by repeat (first | exact Below.refl _ _ | (with_reducible assumption) | apply below_later | apply below_alloc | apply below_drew | apply below_drewN)⟩))) ?_) | (with_reducible refine Calls.mono (Gives.calls (C1.out _ (HP.out.later ⟨_, by repeat (first | exact Below.refl _ _ | (with_reducible assumption) | apply below_later | apply below_alloc | apply below_drew | apply below_drewN)⟩))) ?_)); rintro e w1 ⟨rfl, z2, rfl⟩)
      | (go_at_call 26; refine Calls.mono (GivesIE.calls (B1.out _ (HP.out.later ⟨_, by repeat (first | exact Below.refl _ _ | (with_reducible assumption) | apply below_later | apply below_alloc | apply below_drew | apply below_drewN)⟩))) ?_; rintro e w1 ⟨v, rfl, y1, rfl, ho1⟩; obtain ⟨A1, cap1, rfl⟩ := ho1.shape_n (n := n) (by simp); have O1 := Lib.hid ho1; clear ho1; have M0 : z2.val.heap[w.heap.size]? = some (.cells #[.int .i64 W, .int .i64 H, .slice A n cap] 24) := ((z2.ok.block _ (by simp)).trans (World.alloc_heap_new _ _)); have M1 := (y1.ok.block _ (lt_of_get M0)).trans M0; obtain ⟨⟨m0, m1, m2⟩, _⟩ := cells3 M1; have lM1 := lt_of_get M1)
      | (go_at_call 29; refine Calls.mono (GivesIE.calls (B2.out _ (HP.out.later ⟨_, by repeat (first | exact Below.refl _ _ | (with_reducible assumption) | apply below_later | apply below_alloc | apply below_drew | apply below_drewN)⟩))) ?_; rintro e w1 ⟨v, rfl, y2, rfl, ho1⟩; obtain ⟨A2, cap2, rfl⟩ := ho1.shape_n (n := tot) L2.out; have O2 := Lib.hid ho1; clear ho1; have M2 := (y2.ok.block _ lM1).trans M1; obtain ⟨⟨m0, m1, m2⟩, _⟩ := cells3 M2; have lM2 := lt_of_get M2)
      | (go_at_call 31; refine Calls.mono (GivesIE.calls (B3.out _ (HP.out.later ⟨_, by repeat (first | exact Below.refl _ _ | (with_reducible assumption) | apply below_later | apply below_alloc | apply below_drew | apply below_drewN)⟩))) ?_; rintro e w1 ⟨v, rfl, y3, rfl, ho1⟩; obtain ⟨A3, cap3, rfl⟩ := ho1.shape_n (n := tot) L3.out; have O3 := Lib.hid ho1; clear ho1; have M3 := (y3.ok.block _ lM2).trans M2; obtain ⟨⟨m0, m1, m2⟩, _⟩ := cells3 M3; have lM3 := lt_of_get M3))
    have hbv : Below w.heap.size w y3.val := by repeat (first | exact Below.refl _ _ | (with_reducible assumption) | apply below_later | apply below_alloc | apply below_drew | apply below_drewN)
    have i1 := (((O1.out.later y2).later y3).ints (by simp; omega)).2
    have i2 := ((O2.out.later y3).ints (by rw [L2.out]; omega)).2
    have i3 := (O3.out.ints (by rw [L3.out]; omega)).2
    have MV := Lib.hid M3
    generalize y3.val = V at *
    have HBV := Lib.hid hbv
    have I1 := Lib.hid i1
    have I2 := Lib.hid i2
    have I3 := Lib.hid i3
    clear i1 i2 i3 hbv
    refine wp_region_later (by kernel_rfl) (by kernel_rfl) ?_
    repeat (go_big_quiet_step ((first | (go_at_call 51; (with_reducible refine Later.call _ (S2.out _ _ _ (I2.out.later ⟨_, by repeat (first | exact Below.refl _ _ | (with_reducible assumption) | apply below_later | apply below_alloc | apply below_drew | apply below_drewN)⟩)))) | (go_at_call 51; (with_reducible refine Later.call _ (S3.out _ _ _ (I3.out.later ⟨_, by repeat (first | exact Below.refl _ _ | (with_reducible assumption) | apply below_later | apply below_alloc | apply below_drew | apply below_drewN)⟩)))) | (go_at_call 52; (with_reducible refine Later.call _ (PR.out _ ((HP.out.later ⟨V, HBV.out⟩).later ⟨_, by repeat (first | exact Below.refl _ _ | (with_reducible assumption) | apply below_later | apply below_alloc | apply below_drew | apply below_drewN)⟩)))))))
    refine wpQuiet_nil ?_
    intro y4
    have HV4 : Hid (Below w.heap.size w y4.val) := below_more HBV.out y4.ok
    have HM4 := Lib.hid ((y4.ok.block _ (lt_of_get MV.out)).trans MV.out)
    have J1 := Lib.hid (I1.out.later y4)
    have J2 := Lib.hid (I2.out.later y4)
    have MK : ∀ w', (Instr.makeSlice 22 (.int .i64 (tot : Int)) (.int .i64 (tot : Int))).run Tryd.prog w' = .ok (.slice (some ⟨w'.heap.size, 0, none⟩) tot tot) (w'.alloc (.cells (madeCells #[Value.int .i64 0] tot) 3)) := fun w' => make_ints w' tot (by omega)
    go_wp2
    have SI : Hid (∀ (w' : World) (B C : Option Addr) (c1 c2 : Nat), IsInts w' B tot (fun i => (sizesL W H f).getD i 0) → IsInts w' C tot (fun i => (sizesL W H f).getD i 0) → Gives Tryd.prog 28 #[.slice B tot c1, .slice C tot c2] w' (.bool true)) := fun w' B C c1 c2 h1 h2 => same_ints B C tot c1 c2 _ _ w' (by omega) h1 h2 fun i hi => rfl
    have SZ : Hid (sizesL W H f = parts (bedNo W H f) (fun _ => 1) tot n) := by show _ = _; unfold sizesL; rw [HTOT.out, HNN.out]
    have T0 : Hid (bedsTo W H f 0 = 0) := beds_none
    have TN : Hid (bedsTo W H f n = tot) := by show _ = _; rw [HNN.out, beds_all]; exact HTOT.out
    have NX : Hid (∀ i, bedNo W H f i ≤ (bedsTo W H f i : Nat) ∧ bedsTo W H f (i + 1) = bedsTo W H f i + if bedNo W H f i = ((bedsTo W H f i : Nat) : Int) then 1 else 0) := fun i => bed_next hW1
    have NB : Hid (∀ i, i < n → (f i ≠ 1 ∧ bedNo W H f i = -1) ∨ (f i = 1 ∧ ∃ j : Nat, j < tot ∧ bedNo W H f i = (j : Int))) := fun i hi => by
      have h1 := bedNo_cases (H := H) (f := f) hW1 (HNN.out ▸ hi)
      rw [HTOT.out] at h1
      rcases h1 with h1 | h1
      · exact .inl ⟨bedNo_reed.1 h1, h1⟩
      · refine .inr ⟨?_, h1⟩
        obtain ⟨j, _, h2⟩ := h1
        exact Classical.byContradiction fun h3 => by have := (bedNo_reed (W := W) (H := H)).2 h3; omega
    have LF : Hid (∀ i, i < n → f i = 1 → (i % W = 0) ∨ ∃ l, l + 1 = i ∧ 0 < i % W ∧ (f l ≠ 1 ∨ (f l = 1 ∧ bedNo W H f l = bedNo W H f i))) := fun i hi hf => by
      rcases Nat.eq_zero_or_pos (i % W) with h | h
      · exact .inl h
      · have h1 : 0 < i := Nat.lt_of_lt_of_le h (Nat.mod_le _ _)
        refine .inr ⟨i - 1, by omega, h, ?_⟩
        by_cases h2 : f (i - 1) = 1
        · exact .inr ⟨h2, bed_left hW1 (HNN.out ▸ hi) hf h h2⟩
        · exact .inl h2
    have UF : Hid (∀ i, i < n → f i = 1 → i < W ∨ ∃ m, m + W = i ∧ (f m ≠ 1 ∨ (f m = 1 ∧ bedNo W H f m = bedNo W H f i))) := fun i hi hf => by
      by_cases h : i < W
      · exact .inl h
      · have h1 : 0 < i / W := Nat.div_pos (by omega) (by omega)
        refine .inr ⟨i - W, by omega, ?_⟩
        by_cases h2 : f (i - W) = 1
        · exact .inr ⟨h2, bed_up hW1 (HNN.out ▸ hi) hf h1 h2⟩
        · exact .inl h2
    rw [SZ.out] at J2 SI
    clear C1 B1 B2 B3 S2 S3 PR L2 L3 O1 O2 O3 I1 I2 I3 SZ rb0 rb1 pb0 pb1 MV HBV HTOT HNN
    generalize bedNo W H f = no at *
    generalize bedsTo W H f = nxt at *
    have cM0 := cell_of_heap HM4.out 0 _ rfl
    have cM2 := cell_of_heap HM4.out 2 _ rfl
    have lM := lt_of_get HM4.out
    obtain ⟨b, off, hA, p⟩ := (HP.out.later ⟨y4.val, HV4.out⟩).at_ h0
    subst hA
    obtain ⟨b1, o1, hA1, p1⟩ := J1.out.at_ h0
    subst hA1
    have lb := p.lt
    have lb1 := p1.lt
    have PB := Lib.hid p
    have P1 := Lib.hid p1
    clear p p1
    have own0 := made_own y4.val tot y4.val.heap.size (Nat.le_refl _) (by omega)
    have OW0 : Hid (OwnI (y4.val.alloc (.cells (madeCells #[Value.int .i64 0] tot) 3)) y4.val.heap.size (.slice (some ⟨y4.val.heap.size, 0, none⟩) tot tot) (parts no (fun _ => 1) tot 0)) := by show OwnI _ _ _ _; rw [parts_zero]; exact own0
    clear own0
    go_loopw [11, 13] (fun u v wr => ∃ k : Nat, k ≤ n ∧ u = .int .i64 (nxt k : Nat) ∧ v = .int .i64 k ∧ Below y4.val.heap.size y4.val wr ∧ OwnI wr y4.val.heap.size (.slice (some ⟨y4.val.heap.size, 0, none⟩) tot tot) (parts no (fun _ => 1) tot k)) (fun _ v _ => n - (intOf v).toNat)
    case atStart => exact ⟨0, by omega, by rw [T0.out]; rfl, rfl, (Below.refl _ _).alloc (Nat.le_refl _) _, OW0.out⟩
    case round =>
      obtain ⟨k, hk, rfl, rfl, hX, ho⟩ := hrel
      by_cases hlt : k < n
      · have ck := PB.out.at_ k hlt
        have c1k := P1.out.at_ k hlt
        rw [map_at hlt] at c1k
        obtain ⟨nx0, nx1⟩ := NX.out k
        have HX := Lib.hid hX
        have lg := ho.lt.2
        have HO := Lib.hid ho
        clear ho
        have a0 := (hX.cell (p := ⟨w.heap.size, 0, none⟩) lM).trans cM0
        have a2 := (hX.cell (p := ⟨w.heap.size, 2, none⟩) lM).trans cM2
        have ak := (hX.cell (p := ⟨b, off + k, none⟩) lb).trans ck
        have b1k := (hX.cell (p := ⟨b1, o1 + k, none⟩) lb1).trans c1k
        have lM' := Nat.lt_of_lt_of_le lM hX.size
        have lb' := Nat.lt_of_lt_of_le lb hX.size
        have lb1' := Nat.lt_of_lt_of_le lb1 hX.size
        clear hX
        rcases NB.out k hlt with ⟨hf, hno⟩ | ⟨hf, j, hj, hno⟩
        · rw [hno] at b1k nx1 c1k
          have HS : Hid (parts no (fun _ => 1) tot (k + 1) = parts no (fun _ => 1) tot k) := parts_skip hno
          rw [if_neg (by omega), Nat.add_zero] at nx1
          have HN1 := Lib.hid nx1
          generalize f k = v at *
          obtain ⟨t, ht⟩ : ∃ t, nxt k = t := ⟨_, rfl⟩
          rw [ht] at HN1 ⊢
          have q1 : (v == 1) = false := by simpa using hf
          have q2 : (v != 1) = true := by simpa using hf
          have hd1 : decide ((t : Int) < -1) = false := by first | (simp; done) | (simp; omega)
          have hd2 : decide ((tot : Int) ≤ -1) = false := by simp; omega
          clear hf hno nx0 nx1 ht ck c1k
          go_wp2_with fail
          refine wp_region_later (by kernel_rfl) (by kernel_rfl) ?_
          repeat (go_big_quiet_step ((fail)))
          refine wpQuiet_nil ?_
          intro y
          go_wp2
          go_roundw
          case rel => exact ⟨k + 1, by omega, by rw [HN1.out]; first | done | rfl, by go_num, below_more HX.out y.ok, by rw [HS.out]; exact HO.out.later y⟩
          case measure => simp [intOf]; omega
        · rw [hno] at b1k nx0 nx1 c1k
          rw [hf] at ak
          have HS : Hid (parts no (fun _ => 1) tot (k + 1) = (parts no (fun _ => 1) tot k).set j (part no (fun _ => 1) k j + 1)) := parts_step hno hj
          obtain ⟨pb0, pb1⟩ := part_bd (no := no) (g := fun _ => 1) (k := k) (j := j) fun i _ => by show (-9 : Int) ≤ 1 ∧ (1 : Int) ≤ 9; omega
          obtain ⟨co, fo⟩ := HO.out.cell (parts_length no (fun _ => 1) tot k) hj
          rw [parts_at hj] at co
          have fo1 := fo j
          have LK := LF.out k hlt hf
          have UK := UF.out k hlt hf
          rw [hno] at LK UK
          obtain ⟨q, hq⟩ : ∃ q, part no (fun _ => 1) k j = q := ⟨_, rfl⟩
          rw [hq] at HS co pb0 pb1
          obtain ⟨t, ht⟩ : ∃ t, nxt k = t := ⟨_, rfl⟩
          rw [ht] at nx0 nx1 ⊢
          have hx : (k : Int) % (W : Int) = ((k % W : Nat) : Int) := (Int.natCast_emod _ _).symm
          obtain ⟨cc, hcc⟩ : ∃ cc, k % W = cc := ⟨_, rfl⟩
          rw [hcc] at hx LK
          have hd0 : decide ((0 : Int) ≤ (j : Int)) = true := by simp
          have hd3 : decide ((j : Int) < -1) = false := by first | (simp; done) | (simp; omega)
          have hd1 : decide ((t : Int) < (j : Int)) = false := by simp; omega
          have hd2 : decide ((tot : Int) ≤ (j : Int)) = false := by simp; omega
          have hj0 : ¬ (j : Int) < 0 := by omega
          have LKH := Lib.hid LK
          have UKH := Lib.hid UK
          clear fo hq ht hcc LK UK ck c1k hf
          obtain ⟨t1, ht1⟩ : ∃ t1, nxt (k + 1) = t1 := ⟨_, rfl⟩
          rw [ht1] at nx1
          have HN1 := Lib.hid ht1
          have NX1 := Lib.hid nx1
          have hd1' : ¬ (t : Int) < (j : Int) := by omega
          have hd1n : ¬ t < j := by omega
          clear ht1 nx0 nx1
          go_wp2_with fail
          refine wp_region_later (by kernel_rfl) (by kernel_rfl) ?_
          repeat (go_big_quiet_step ((fail)))
          refine wpQuiet_nil ?_
          intro y
          have fy := (y.frozen y4.val.heap.size j lg).trans fo1
          have ly := Nat.lt_of_lt_of_le lg y.size
          go_upto_if 139 with fail
          go_cut [11] (fun s11 wx => s11 = .int .i64 ((t1 : Nat) : Int) ∧ wx = y.val)
          case first =>
            by_cases e : j = t
            · subst e
              have nx1 := NX1.out
              rw [if_pos rfl] at nx1
              subst nx1
              go_wp2_with fail
              go_meet
              exact ⟨by first | rfl | go_num, rfl⟩
            · have nx1 := NX1.out
              rw [if_neg (by omega), Nat.add_zero] at nx1
              subst nx1
              have qe : ((j : Int) == (t1 : Int)) = false := by simpa using fun h => e (by omega)
              go_wp2_with fail
              go_meet
              exact ⟨rfl, rfl⟩
          case rest =>
            obtain ⟨rfl, rfl⟩ := hcut
            clear hd1 hd1' hd1n NX1
            go_wp2_with fail
            have hX2 : Below y4.val.heap.size y4.val (y.val.setCell ⟨y4.val.heap.size, j, none⟩ (.int .i64 (q + 1))) := (below_more HX.out y.ok).setCell (p := ⟨y4.val.heap.size, j, none⟩) (Nat.le_refl _) _
            have O2 : Hid (OwnI (y.val.setCell ⟨y4.val.heap.size, j, none⟩ (.int .i64 (q + 1))) y4.val.heap.size (.slice (some ⟨y4.val.heap.size, 0, none⟩) tot tot) (parts no (fun _ => 1) tot (k + 1))) := by show OwnI _ _ _ _; rw [HS.out]; exact (HO.out.later y).set (parts_length no (fun _ => 1) tot k) j _
            generalize y.val.setCell ⟨y4.val.heap.size, j, none⟩ (.int .i64 (q + 1)) = X2 at *
            clear a0 a2 ak b1k lM' lb' lb1' fy ly co fo1 hd0 hd2 hd3 hj0 HO HS HX
            have z0 := (hX2.cell (p := ⟨w.heap.size, 0, none⟩) lM).trans cM0
            have z2 := (hX2.cell (p := ⟨w.heap.size, 2, none⟩) lM).trans cM2
            have z1k := (hX2.cell (p := ⟨b1, o1 + k, none⟩) lb1).trans (P1.out.at_ k hlt)
            rw [map_at hlt, hno] at z1k
            have mM := Nat.lt_of_lt_of_le lM hX2.size
            have mb := Nat.lt_of_lt_of_le lb hX2.size
            have mb1 := Nat.lt_of_lt_of_le lb1 hX2.size
            have HX2 := Lib.hid hX2
            rcases LKH.out with hl | ⟨l, hl, hcp, fl | ⟨fl, nl⟩⟩
            · subst hl
              have hx0 : (k : Int) % (W : Int) = 0 := hx
              rcases UKH.out with hu | ⟨m, hm, fm | ⟨fm, nm⟩⟩
              · have hge : ¬ (W : Int) ≤ (k : Int) := by omega
                have hgd : decide ((W : Int) ≤ (k : Int)) = false := by simpa using hge
                clear hno
                as_aux_lemma =>
                  refine wp_region_later (by kernel_rfl) (by kernel_rfl) ?_
                  repeat (go_big_quiet_step ((fail)))
                  refine wpQuiet_nil ?_
                  intro y5
                  go_wp2
                  go_roundw
                  case rel => exact ⟨k + 1, by omega, by rw [HN1.out]; first | done | rfl, by go_num, below_more HX2.out y5.ok, O2.out.later y5⟩
                  case measure => simp [intOf]; omega
              · have hge : (W : Int) ≤ (k : Int) := by omega
                have hgd : decide ((W : Int) ≤ (k : Int)) = true := by simpa using hge
                have cm := (hX2.cell (p := ⟨b, off + m, none⟩) lb).trans (PB.out.at_ m (by omega))
                have wm : IntKind.i64.wrap ((k : Int) - (W : Int)) = (m : Int) := by rw [IntWalk.i64_in _ (by omega)]; omega
                have hml : m < n := by omega
                generalize f m = fmv at *
                have q3 : (fmv == 1) = false := by simpa using fm
                clear hno
                as_aux_lemma =>
                  refine wp_region_later (by kernel_rfl) (by kernel_rfl) ?_
                  repeat (go_big_quiet_step ((fail)))
                  refine wpQuiet_nil ?_
                  intro y5
                  go_wp2
                  go_roundw
                  case rel => exact ⟨k + 1, by omega, by rw [HN1.out]; first | done | rfl, by go_num, below_more HX2.out y5.ok, O2.out.later y5⟩
                  case measure => simp [intOf]; omega
              · have hge : (W : Int) ≤ (k : Int) := by omega
                have hgd : decide ((W : Int) ≤ (k : Int)) = true := by simpa using hge
                have cm := (hX2.cell (p := ⟨b, off + m, none⟩) lb).trans (PB.out.at_ m (by omega))
                have wm : IntKind.i64.wrap ((k : Int) - (W : Int)) = (m : Int) := by rw [IntWalk.i64_in _ (by omega)]; omega
                have hml : m < n := by omega
                rw [fm] at cm
                have c1m := (hX2.cell (p := ⟨b1, o1 + m, none⟩) lb1).trans (P1.out.at_ m hml)
                rw [map_at hml, nm] at c1m
                clear fm nm
                clear hno
                as_aux_lemma =>
                  refine wp_region_later (by kernel_rfl) (by kernel_rfl) ?_
                  repeat (go_big_quiet_step ((fail)))
                  refine wpQuiet_nil ?_
                  intro y5
                  go_wp2
                  go_roundw
                  case rel => exact ⟨k + 1, by omega, by rw [HN1.out]; first | done | rfl, by go_num, below_more HX2.out y5.ok, O2.out.later y5⟩
                  case measure => simp [intOf]; omega
            · have hcd : decide ((0 : Int) < (cc : Int)) = true := by simp; omega
              have hcp' : (0 : Int) < (cc : Int) := by omega
              have cl := (hX2.cell (p := ⟨b, off + l, none⟩) lb).trans (PB.out.at_ l (by omega))
              have wl : IntKind.i64.wrap ((k : Int) - 1) = (l : Int) := by rw [IntWalk.i64_in _ (by omega)]; omega
              have hll : l < n := by omega
              generalize f l = flv at *
              have q0 : (flv == 1) = false := by simpa using fl
              rcases UKH.out with hu | ⟨m, hm, fm | ⟨fm, nm⟩⟩
              · have hge : ¬ (W : Int) ≤ (k : Int) := by omega
                have hgd : decide ((W : Int) ≤ (k : Int)) = false := by simpa using hge
                clear hno
                as_aux_lemma =>
                  refine wp_region_later (by kernel_rfl) (by kernel_rfl) ?_
                  repeat (go_big_quiet_step ((fail)))
                  refine wpQuiet_nil ?_
                  intro y5
                  go_wp2
                  go_roundw
                  case rel => exact ⟨k + 1, by omega, by rw [HN1.out]; first | done | rfl, by go_num, below_more HX2.out y5.ok, O2.out.later y5⟩
                  case measure => simp [intOf]; omega
              · have hge : (W : Int) ≤ (k : Int) := by omega
                have hgd : decide ((W : Int) ≤ (k : Int)) = true := by simpa using hge
                have cm := (hX2.cell (p := ⟨b, off + m, none⟩) lb).trans (PB.out.at_ m (by omega))
                have wm : IntKind.i64.wrap ((k : Int) - (W : Int)) = (m : Int) := by rw [IntWalk.i64_in _ (by omega)]; omega
                have hml : m < n := by omega
                generalize f m = fmv at *
                have q3 : (fmv == 1) = false := by simpa using fm
                clear hno
                as_aux_lemma =>
                  refine wp_region_later (by kernel_rfl) (by kernel_rfl) ?_
                  repeat (go_big_quiet_step ((fail)))
                  refine wpQuiet_nil ?_
                  intro y5
                  go_wp2
                  go_roundw
                  case rel => exact ⟨k + 1, by omega, by rw [HN1.out]; first | done | rfl, by go_num, below_more HX2.out y5.ok, O2.out.later y5⟩
                  case measure => simp [intOf]; omega
              · have hge : (W : Int) ≤ (k : Int) := by omega
                have hgd : decide ((W : Int) ≤ (k : Int)) = true := by simpa using hge
                have cm := (hX2.cell (p := ⟨b, off + m, none⟩) lb).trans (PB.out.at_ m (by omega))
                have wm : IntKind.i64.wrap ((k : Int) - (W : Int)) = (m : Int) := by rw [IntWalk.i64_in _ (by omega)]; omega
                have hml : m < n := by omega
                rw [fm] at cm
                have c1m := (hX2.cell (p := ⟨b1, o1 + m, none⟩) lb1).trans (P1.out.at_ m hml)
                rw [map_at hml, nm] at c1m
                clear fm nm
                clear hno
                as_aux_lemma =>
                  refine wp_region_later (by kernel_rfl) (by kernel_rfl) ?_
                  repeat (go_big_quiet_step ((fail)))
                  refine wpQuiet_nil ?_
                  intro y5
                  go_wp2
                  go_roundw
                  case rel => exact ⟨k + 1, by omega, by rw [HN1.out]; first | done | rfl, by go_num, below_more HX2.out y5.ok, O2.out.later y5⟩
                  case measure => simp [intOf]; omega
            · have hcd : decide ((0 : Int) < (cc : Int)) = true := by simp; omega
              have hcp' : (0 : Int) < (cc : Int) := by omega
              have cl := (hX2.cell (p := ⟨b, off + l, none⟩) lb).trans (PB.out.at_ l (by omega))
              have wl : IntKind.i64.wrap ((k : Int) - 1) = (l : Int) := by rw [IntWalk.i64_in _ (by omega)]; omega
              have hll : l < n := by omega
              rw [fl] at cl
              have c1l := (hX2.cell (p := ⟨b1, o1 + l, none⟩) lb1).trans (P1.out.at_ l hll)
              rw [map_at hll, nl] at c1l
              clear fl nl
              rcases UKH.out with hu | ⟨m, hm, fm | ⟨fm, nm⟩⟩
              · have hge : ¬ (W : Int) ≤ (k : Int) := by omega
                have hgd : decide ((W : Int) ≤ (k : Int)) = false := by simpa using hge
                clear hno
                as_aux_lemma =>
                  refine wp_region_later (by kernel_rfl) (by kernel_rfl) ?_
                  repeat (go_big_quiet_step ((fail)))
                  refine wpQuiet_nil ?_
                  intro y5
                  go_wp2
                  go_roundw
                  case rel => exact ⟨k + 1, by omega, by rw [HN1.out]; first | done | rfl, by go_num, below_more HX2.out y5.ok, O2.out.later y5⟩
                  case measure => simp [intOf]; omega
              · have hge : (W : Int) ≤ (k : Int) := by omega
                have hgd : decide ((W : Int) ≤ (k : Int)) = true := by simpa using hge
                have cm := (hX2.cell (p := ⟨b, off + m, none⟩) lb).trans (PB.out.at_ m (by omega))
                have wm : IntKind.i64.wrap ((k : Int) - (W : Int)) = (m : Int) := by rw [IntWalk.i64_in _ (by omega)]; omega
                have hml : m < n := by omega
                generalize f m = fmv at *
                have q3 : (fmv == 1) = false := by simpa using fm
                clear hno
                as_aux_lemma =>
                  refine wp_region_later (by kernel_rfl) (by kernel_rfl) ?_
                  repeat (go_big_quiet_step ((fail)))
                  refine wpQuiet_nil ?_
                  intro y5
                  go_wp2
                  go_roundw
                  case rel => exact ⟨k + 1, by omega, by rw [HN1.out]; first | done | rfl, by go_num, below_more HX2.out y5.ok, O2.out.later y5⟩
                  case measure => simp [intOf]; omega
              · have hge : (W : Int) ≤ (k : Int) := by omega
                have hgd : decide ((W : Int) ≤ (k : Int)) = true := by simpa using hge
                have cm := (hX2.cell (p := ⟨b, off + m, none⟩) lb).trans (PB.out.at_ m (by omega))
                have wm : IntKind.i64.wrap ((k : Int) - (W : Int)) = (m : Int) := by rw [IntWalk.i64_in _ (by omega)]; omega
                have hml : m < n := by omega
                rw [fm] at cm
                have c1m := (hX2.cell (p := ⟨b1, o1 + m, none⟩) lb1).trans (P1.out.at_ m hml)
                rw [map_at hml, nm] at c1m
                clear fm nm
                clear hno
                as_aux_lemma =>
                  refine wp_region_later (by kernel_rfl) (by kernel_rfl) ?_
                  repeat (go_big_quiet_step ((fail)))
                  refine wpQuiet_nil ?_
                  intro y5
                  go_wp2
                  go_roundw
                  case rel => exact ⟨k + 1, by omega, by rw [HN1.out]; first | done | rfl, by go_num, below_more HX2.out y5.ok, O2.out.later y5⟩
                  case measure => simp [intOf]; omega
      · obtain rfl : k = n := by omega
        have HX := Lib.hid hX
        have ic := (ho.ints (by rw [parts_length]; omega)).2
        have is_ := J2.out.later ⟨wr, hX⟩
        have IC := Lib.hid ic
        have IS := Lib.hid is_
        clear ic ho
        rw [TN.out]
        go_wp2_with (first | (go_at_call 28; (first | (with_reducible show Calls _ _ _ (Later.val _) _; with_reducible refine Calls.mono (Later.call _ (SI.out _ _ _ _ _ (IC.out.later ⟨_, by repeat (first | exact Below.refl _ _ | (with_reducible assumption) | apply below_later | apply below_alloc | apply below_drew | apply below_drewN)⟩) (IS.out.later ⟨_, by repeat (first | exact Below.refl _ _ | (with_reducible assumption) | apply below_later | apply below_alloc | apply below_drew | apply below_drewN)⟩))) ?_) | (with_reducible refine Calls.mono (Gives.calls (SI.out _ _ _ _ _ (IC.out.later ⟨_, by repeat (first | exact Below.refl _ _ | (with_reducible assumption) | apply below_later | apply below_alloc | apply below_drew | apply below_drewN)⟩) (IS.out.later ⟨_, by repeat (first | exact Below.refl _ _ | (with_reducible assumption) | apply below_later | apply below_alloc | apply below_drew | apply below_drewN)⟩))) ?_)); rintro e w1 ⟨rfl, y6, rfl⟩) | (go_at_call 16; (first | (with_reducible show Calls _ _ _ (Later.val _) _; with_reducible refine Calls.mono (Later.call _ (AW.out _)) ?_) | (with_reducible refine Calls.mono (Gives.calls (AW.out _)) ?_)); rintro e w1 ⟨rfl, y7, rfl⟩))
        go_ret
        exact ⟨rfl, later_of (below_more (below_more HV4.out (HX.out)) y7.ok)⟩
end Go.Proofs.YtajfepogecakbaaDoor
