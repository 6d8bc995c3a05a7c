/- sluice.settle: walked. -/
import Derived.Test.YtelfinjnbncnlaaRunOver
import Derived.Lib.SliceRun
import Derived.Deep.LoopGhost
namespace Go.Proofs.Ytelfinjnbncnlaa
open Go.RowKit

theorem ints_news {w : World} {b off n : Nat} {f : Nat → Int} (h : Ints w b off n f) : ∀ (j : Nat) (u : Value), (cellsI ((List.range n).map f))[j]? = some u → w.cell? ((⟨b, off, none⟩ : Addr).add j) = some u := by
  intro j u hj
  have hl : j < n := by
    have := (List.getElem?_eq_some_iff.1 hj).1
    simpa [cellsI] using this
  have e : (cellsI ((List.range n).map f))[j]? = some (.int .i64 (f j)) := by simp [cellsI, hl]
  rw [e] at hj
  obtain rfl := Option.some.inj hj
  have : (⟨b, off, none⟩ : Addr).add j = ⟨b, off + j, none⟩ := by simp [Addr.add]
  rw [this]
  exact h.at_ j hl
set_option maxRecDepth 100000 in
theorem clone_ints (b off n cap : Nat) (f : Nat → Int) (w : World) (h0 : 0 < n) (hn : n ≤ 1000) (hp : Ints w b off n f) :
    GivesI 41 #[.slice (some ⟨b, off, none⟩) n cap] w ((List.range n).map f) := by
  have hl := hp.lt
  have Hp := Lib.hid hp
  clear hp
  have hnil := Lib.run_eql_slice_nil (P := Try.prog) w 22 3 (some ⟨b, off, none⟩) n cap 0 0 Try.underlying22
  go_enter Try.func41, Try.ntmps41
  obtain ⟨i0, hi, hz0, hz1, hz2⟩ := info_int
  have hown : OwnI (w.alloc (.cells #[] 3)) w.heap.size (.slice (some ⟨w.heap.size, 0, none⟩) 0 0) [] := World.ownsRow_made w #[] 0 (Nat.le_refl _) (by unfold maxLen; omega) rfl
  have hnews := ints_news (Hp.out.later ⟨w.alloc (.cells #[] 3), by repeat (first | exact Below.refl _ _ | (with_reducible assumption) | apply below_later | apply below_alloc | apply below_drew | apply below_drewN)⟩)
  have HN := Lib.hid hnews
  clear hnews
  go_wp2_with (at_builtin; refine wpList_append_own _ rfl _ _ 22 rfl w.heap.size 3 i0 (.int .i64 0) 1 8 Try.underlying22 hi hz0 hz1 hz2 rfl (by decide) _ _ _ rfl hown ⟨b, off, none⟩ n cap (cellsI ((List.range n).map f)) rfl ?c1 HN.out (cellsI_one _) ?c3 ?c4 ?c5 ?_)
  case c1 => rw [cellsI_length]; simp
  case c3 => simp only [maxLen]; omega
  case c4 => omega
  intro v' w1 hown2 hg1 _
  go_wp2
  go_ret
  refine ⟨v', rfl, ⟨w1, below_own (by repeat (first | exact Below.refl _ _ | (with_reducible assumption) | apply below_later | apply below_alloc | apply below_drew | apply below_drewN)) hown (Nat.le_refl _) hg1⟩, rfl, ?_⟩
  unfold OwnI
  rw [show ((List.range n).map f).length = n by simp]
  exact hown2
/-- What settle keeps: the buckets, and how often each square ran over. -/
structure SO (w V : World) (g1 c1 g2 n : Nat) (b o : List Int) : Prop where
  below : Below w.heap.size w V
  ob : OwnI V w.heap.size (.slice (some ⟨g1, 0, none⟩) n c1) b
  oo : OwnI V (g1 + 1) (.slice (some ⟨g2, 0, none⟩) n n) o
section
variable {w V V' : World} {g1 c1 g2 n : Nat} {b b' o : List Int}
theorem SO.later (h : SO w V g1 c1 g2 n b o) (x : Later V) : SO w x.val g1 c1 g2 n b o := ⟨below_more h.below x.ok, h.ob.later x, h.oo.later x⟩
theorem SO.ran (h : SO w V g1 c1 g2 n b o) (ho : Only (fun k => k = g1) V V') (hb : OwnI V' w.heap.size (.slice (some ⟨g1, 0, none⟩) n c1) b') : SO w V' g1 c1 g2 n b' o := by
  have a1 := (own_lt h.ob g1 rfl).1
  have a2 := own_lt h.oo g2 rfl
  refine ⟨ho.below h.below (fun k hk => by subst hk; exact a1) h.below.size, hb, h.oo.moved fun g hg => ?_⟩
  obtain rfl : g2 = g := by simpa [Value.ownBlock] using hg
  exact ho.block _ a2.2 (by show ¬ g2 = g1; omega)
theorem SO.put (h : SO w V g1 c1 g2 n b o) (hl : o.length = n) {i : Nat} (x : Int) : SO w (V.setCell ⟨g2, i, none⟩ (.int .i64 x)) g1 c1 g2 n b (o.set i x) := by
  have a1 := (own_lt h.ob g1 rfl).1
  have a2 := own_lt h.oo g2 rfl
  refine ⟨h.below.setCell (p := ⟨g2, i, none⟩) (by show w.heap.size ≤ g2; omega) _, h.ob.far fun g hg => ?_, h.oo.set hl i x⟩
  obtain rfl : g1 = g := by simpa [Value.ownBlock] using hg
  show g2 ≠ g1
  omega
end
/-- What settle answers. -/
def PostSt (w : World) (W H n : Nat) (f : Nat → Int) (e : Ending) (w' : World) : Prop :=
  ∃ v1 v2 b o k, e = .returned (.tuple #[v1, v2]) ∧ ∃ x : Later w, w' = x.val ∧ OwnI w' w.heap.size v1 b ∧ OwnI w' w.heap.size v2 o ∧ (b, o) = passes W H n ((List.range n).map f, List.replicate n 0) k ∧ (∀ j, j < n → b.getD j 0 < 4) ∧ SV W H n b o
theorem wsum_le {p : Nat → Int} {c d : Int} (hp : ∀ i, 0 ≤ p i ∧ p i ≤ c) (hc : 0 ≤ c) : ∀ (l : List Int) (k : Nat), (∀ x, x ∈ l → 0 ≤ x ∧ x ≤ d) → 0 ≤ d → wsum p k l ≤ c * d * l.length
  | [], _, _, _ => by show (0 : Int) ≤ c * d * 0; omega
  | y :: l, k, h, hd => by
    obtain ⟨y0, y1⟩ := h y (List.mem_cons_self ..)
    have ih := wsum_le hp hc l (k + 1) (fun x hx => h x (List.mem_cons_of_mem _ hx)) hd
    have m := Int.mul_le_mul (hp k).2 y1 y0 hc
    show p k * y + _ ≤ c * d * ((l.length + 1 : Nat) : Int)
    rw [Int.natCast_add, Int.mul_add]
    simp only [Int.natCast_one, Int.mul_one]
    omega
theorem wsum_zero (p : Nat → Int) : ∀ (n k : Nat), wsum p k (List.replicate n 0) = 0
  | 0, _ => rfl
  | n + 1, k => by show p k * 0 + wsum p (k + 1) (List.replicate n 0) = 0; rw [wsum_zero p n]; omega
theorem sv_start {W H n : Nat} {f : Nat → Int} (hW : 1 ≤ W) (hW2 : W ≤ 16) (hn9 : n ≤ 256) (hf : ∀ i, i < n → 0 ≤ f i ∧ f i ≤ 100) : SV W H n ((List.range n).map f) (List.replicate n 0) := by
  have hx : ∀ x, x ∈ (List.range n).map f → 0 ≤ x ∧ x ≤ 100 := fun x hx => by
    obtain ⟨i, hi, rfl⟩ := List.mem_map.1 hx
    exact hf i (List.mem_range.1 hi)
  have l1 : ((List.range n).map f).length = n := by simp
  have s1 := wsum_le (p := fun _ => 1) (c := 1) (d := 100) (fun _ => by decide) (by decide) _ 0 hx (by decide)
  have s2 := wsum_le (p := phi W) (c := 256) (d := 100) (fun i => ⟨phi_nonneg hW i, phi_le hW2 hW i⟩) (by decide) _ 0 hx (by decide)
  rw [l1] at s1 s2
  refine ⟨l1, by simp, fun i hi => ?_, fun i hi => ?_, by omega, ?_⟩
  · rw [l1] at hi
    rw [List.getD_eq_getElem?_getD, List.getElem?_map, List.getElem?_range hi]
    exact (hf i hi).1
  · rw [List.getD_eq_getElem?_getD, List.getElem?_replicate]
    split
    · exact Int.le_refl _
    · exact Int.le_refl _
  · rw [wsum_zero]
    omega

set_option maxRecDepth 100000 in
set_option maxHeartbeats 3200000 in
theorem settle_any (W H n cap b off : Nat) (f : Nat → Int) (w : World) (hW : 1 ≤ W) (hW2 : W ≤ 16) (hH1 : 1 ≤ H) (hH : H ≤ 16) (hn : n = W * H) (p : Ints w b off n f) (hf : ∀ i, i < n → 0 ≤ f i ∧ f i ≤ 100) :
    Calls Try.prog 44 #[.int .i64 W, .int .i64 H, .slice (some ⟨b, off, none⟩) n cap] w (PostSt w W H n f) := by
  have hn9 : n ≤ 256 := by rw [hn]; exact Nat.mul_le_mul hW2 hH
  have hn1 : 1 ≤ n := by rw [hn]; exact Nat.mul_le_mul hW hH1
  have CL := Lib.hid (clone_ints b off n cap f w hn1 (by omega) p)
  have SV0 := Lib.hid (sv_start (H := H) hW hW2 hn9 hf)
  obtain ⟨b0, hb0⟩ : ∃ b0, (List.range n).map f = b0 := ⟨_, rfl⟩
  have HB0 : Hid (b0.length = n) := by show _ = _; rw [← hb0]; simp
  have PP : ∀ e w', PostSt w W H n f e w' ↔ PostSt w W H n f e w' := fun _ _ => Iff.rfl
  have MK : ∀ w', (Instr.makeSlice 22 (.int .i64 (n : Int)) (.int .i64 (n : Int))).run Try.prog w' = .ok (.slice (some ⟨w'.heap.size, 0, none⟩) n n) (w'.alloc (.cells (madeCells #[Value.int .i64 0] n) 3)) := fun w' => make_ints w' n (by omega)
  rw [hb0] at CL SV0
  have HBE := Lib.hid hb0
  have HN := Lib.hid hn
  clear p hf hb0 PP hn
  go_enter Try.func44, Try.ntmps44
  go_wp2_with (go_at_call 41; refine Calls.mono (GivesI.calls CL.out) ?_; rintro e w1 ⟨v, rfl, y, rfl, ho⟩; obtain ⟨g1, c1, hv, q1, q2, _⟩ := ho.form (n := n) HB0.out (by omega); subst hv; have HO := Lib.hid ho; clear ho)
  have so0 : SO w (y.val.alloc (.cells (madeCells #[Value.int .i64 0] n) 3)) g1 c1 y.val.heap.size n b0 (List.replicate n 0) :=
    ⟨by repeat (first | exact Below.refl _ _ | (with_reducible assumption) | apply below_later | apply below_alloc | apply below_drew | apply below_drewN), HO.out.alloc _, made_own y.val n (g1 + 1) (by omega) (by omega)⟩
  have SO0 := Lib.hid so0
  clear so0 HO CL MK
  obtain ⟨g2, hg2⟩ : ∃ g2, y.val.heap.size = g2 := ⟨_, rfl⟩
  rw [hg2] at SO0 ⊢
  clear hg2 q2
  generalize y.val.alloc (.cells (madeCells #[Value.int .i64 0] n) 3) = V0 at *
  go_loopg [8] ((wsum (phi W) 0 b0).toNat + 1) (fun num mv wr => ∃ (m : Bool) (b o : List Int) (k : Nat), mv = .bool m ∧ num = (wsum (phi W) 0 b).toNat + (if m = true then 1 else 0) ∧ SO w wr g1 c1 g2 n b o ∧ SV W H n b o ∧ (b, o) = passes W H n (b0, List.replicate n 0) k ∧ (m = false → ∀ j, j < n → b.getD j 0 < 4))
  case atStart => exact ⟨true, b0, _, 0, rfl, rfl, SO0.out, SV0.out, rfl, fun h => by cases h⟩
  case round =>
    obtain ⟨m, b, o, k, rfl, hnum, so, sv, hps, hst⟩ := hrel
    have SO1 := Lib.hid so
    have SV1 := Lib.hid sv
    have HPS := Lib.hid hps
    have HNUM := Lib.hid hnum
    have HST := Lib.hid hst
    clear so sv hps hnum hst SO0
    cases m
    · go_wp2_with fail
      go_ret2
      exact ⟨_, _, b, o, k, rfl, ⟨_, SO1.out.below⟩, rfl, SO1.out.ob, SO1.out.oo.mono (by omega), by rw [HBE.out]; exact HPS.out, HST.out trivial, SV1.out⟩
    · go_wp2_with fail
      go_loopw [8, 19] (fun mv u wr => ∃ (m : Bool) (i : Nat) (b' o' : List Int), mv = .bool m ∧ u = .int .i64 i ∧ i ≤ n ∧ SO w wr g1 c1 g2 n b' o' ∧ SV W H n b' o' ∧ (b', o') = passTo W H (b, o) i ∧ (m = false → b' = b ∧ ∀ j, j < i → b.getD j 0 < 4) ∧ (m = true → wsum (phi W) 0 b' + 2 ≤ wsum (phi W) 0 b)) (fun _ u _ => n - (intOf u).toNat)
      case atStart => exact ⟨false, 0, b, o, rfl, rfl, by omega, SO1.out, SV1.out, rfl, fun _ => ⟨rfl, fun j hj => by omega⟩, fun h => by cases h⟩
      case round =>
        obtain ⟨m, i, b', o', rfl, rfl, hi, so, sv, hps, hst, hmv⟩ := hrel
        have SO2 := Lib.hid so
        have SV2 := Lib.hid sv
        have HP2 := Lib.hid hps
        have HS2 := Lib.hid hst
        have HM2 := Lib.hid hmv
        clear so sv hps hst hmv
        by_cases hlt : i < n
        · obtain ⟨ci, fi⟩ := SO2.out.ob.cell SV2.out.lb hlt
          have x0 := SV2.out.nb i (by rw [SV2.out.lb]; exact hlt)
          have x1 := entry_le b' 0 i SV2.out.nb (by rw [SV2.out.lb]; exact hlt)
          have few := SV2.out.few
          have lg1 := (own_lt SO2.out.ob g1 rfl).2
          have STEP : Hid (passTo W H (b, o) (i + 1) = stepS W H (b', o') i) := by show stepS W H (passTo W H (b, o) i) i = _; rw [← HP2.out]
          obtain ⟨x, hx⟩ : ∃ x, b'.getD i 0 = x := ⟨_, rfl⟩
          have HX := Lib.hid hx
          rw [hx] at ci x0 x1
          by_cases ht : 0 < x / 4
          · have RN : Hid (∀ V, OwnI V w.heap.size (.slice (some ⟨g1, 0, none⟩) n c1) b' → Calls Try.prog 59 #[.int .i64 W, .int .i64 H, .slice (some ⟨g1, 0, none⟩) n c1, .int .i64 i, .int .i64 (x / 4)] V fun e w' => e = .returned (.tuple #[]) ∧ Only (fun k => k = g1) V w' ∧ OwnI w' w.heap.size (.slice (some ⟨g1, 0, none⟩) n c1) (runL W H b' i (x / 4))) := fun V hV => run_any W H n g1 c1 w.heap.size i (x / 4) b' o' V hW hW2 hH HN.out hlt SV2.out.lb SV2.out.nb SV2.out.few ht (by rw [HX.out]; omega) hV
            have SV3 := Lib.hid (SV2.out.step HN.out hlt (t := x / 4) ht (by rw [HX.out]; omega))
            have RF := (run_facts HN.out SV2.out.lb SV2.out.nb hlt (t := x / 4) (by omega) (by rw [HX.out]; omega)).2.2
            have HRF := Lib.hid RF
            have SS : Hid (stepS W H (b', o') i = (runL W H b' i (x / 4), o'.set i (o'.getD i 0 + x / 4))) := by show _ = _; unfold stepS; rw [HX.out, if_pos ht]
            have oo0 := SV2.out.no i (by rw [SV2.out.lo]; exact hlt)
            have oo1 := entry_le o' 0 i SV2.out.no (by rw [SV2.out.lo]; exact hlt)
            have pot := SV2.out.pot
            have ph := wsum_nonneg (p := phi W) (phi_nonneg hW) b' 0 SV2.out.nb
            obtain ⟨z, hz⟩ : ∃ z, o'.getD i 0 = z := ⟨_, rfl⟩
            have HZ := Lib.hid hz
            rw [hz] at oo0 oo1 SV3 SS
            clear hz RF hx
            go_wp2_with (go_at_call 59; refine Calls.mono (RN.out _ SO2.out.ob) ?_; rintro e w3 ⟨rfl, o3, h3⟩; have SO3 := Lib.hid (SO2.out.ran o3 h3); obtain ⟨cz, fz⟩ := SO3.out.oo.cell SV2.out.lo hlt; rw [HZ.out] at cz; have fz1 := fz i; have lg2 := (own_lt SO3.out.oo g2 rfl).2; clear o3 h3 fz)
            go_roundw
            case rel =>
              refine ⟨true, i + 1, _, _, rfl, by go_num, by omega, SO3.out.put SV2.out.lo _, SV3.out, by rw [STEP.out, SS.out], fun h => (by cases h), fun _ => ?_⟩
              have r := HRF.out
              cases m
              · rw [(HS2.out rfl).1] at r
                rw [← (HS2.out rfl).1] at r ⊢
                omega
              · have := HM2.out rfl
                omega
            case measure => simp [intOf]; omega
          · have SS : Hid (stepS W H (b', o') i = (b', o')) := by show _ = _; unfold stepS; rw [HX.out, if_neg ht]
            have d4 : ¬ 0 < x / 4 := ht
            clear hx
            go_wp2_with fail
            go_roundw
            case rel =>
              refine ⟨m, i + 1, b', o', rfl, by go_num, by omega, SO2.out, SV2.out, by rw [STEP.out, SS.out], fun h => ?_, HM2.out⟩
              obtain ⟨e1, e2⟩ := HS2.out h
              refine ⟨e1, fun j hj => ?_⟩
              rcases Nat.lt_or_ge j i with h1 | h1
              · exact e2 j h1
              · obtain rfl : j = i := by omega
                rw [← e1, HX.out]; omega
            case measure => simp [intOf]; omega
        · obtain rfl : i = n := by omega
          go_wp2_with fail
          go_roundg ((wsum (phi W) 0 b').toNat + (if m = true then 1 else 0))
          case measure =>
            have a := HNUM.out
            have ph := wsum_nonneg (p := phi W) (phi_nonneg hW) b' 0 SV2.out.nb
            simp only [if_true] at a
            cases m
            · rw [(HS2.out rfl).1]; simp; omega
            · have := HM2.out rfl
              simp; omega
          case rel =>
            refine ⟨m, b', o', k + 1, rfl, rfl, SO2.out, SV2.out, ?_, fun h j hj => ?_⟩
            · show _ = passTo W H (passes W H i (b0, List.replicate i 0) k) i
              rw [← HPS.out]; exact HP2.out
            · obtain ⟨e1, e2⟩ := HS2.out h
              rw [e1]; exact e2 j hj
end Go.Proofs.Ytelfinjnbncnlaa
