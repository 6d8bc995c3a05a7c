/- The law's own Settle: walked; what is settled is one thing. -/
import Derived.Test.YtihgadppndcjaaaSRef
import Derived.Test.YtihgadppndcjaaaSOver
namespace Go.Proofs.Ytihgadppndcjaaa
open Go.RowKit

set_option maxRecDepth 100000 in
set_option maxHeartbeats 3200000 in
theorem rsettle_any (W H n cap b off : Nat) (f : Nat → Int) (w : World) (hW : 1 ≤ W) (hW2 : W ≤ 16) (hH1 : 1 ≤ H) (hH : H ≤ 16) (hn : n = W * H) (p : Ints w b off n f) (hf : ∀ i, i < n → 0 ≤ f i ∧ f i ≤ 100) :
    Calls Try.prog 45 #[.int .i64 W, .int .i64 H, .slice (some ⟨b, off, none⟩) n cap] w (PostSt w W H n f) := by
  have hn9 : n ≤ 256 := by rw [hn]; exact Nat.mul_le_mul hW2 hH
  have hn1 : 1 ≤ n := by rw [hn]; exact Nat.mul_le_mul hW hH1
  have hlp := p.lt
  have Hp := Lib.hid p
  have SV0 := Lib.hid (sv_start (H := H) hW hW2 hn9 hf)
  obtain ⟨b0, hb0⟩ : ∃ b0, (List.range n).map f = b0 := ⟨_, rfl⟩
  have HB0 : Hid (b0.length = n) := by show _ = _; rw [← hb0]; simp
  have PP : ∀ e w', PostSt w W H n f e w' ↔ PostSt w W H n f e w' := fun _ _ => Iff.rfl
  have MK : ∀ w', (Instr.makeSlice 22 (.int .i64 (n : Int)) (.int .i64 (n : Int))).run Try.prog w' = .ok (.slice (some ⟨w'.heap.size, 0, none⟩) n n) (w'.alloc (.cells (madeCells #[Value.int .i64 0] n) 3)) := fun w' => make_ints w' n (by omega)
  rw [hb0] at SV0
  have HBE := Lib.hid hb0
  have HN := Lib.hid hn
  clear p hf hb0 PP hn
  go_enter Try.func45, Try.ntmps45
  obtain ⟨i0, hi, hz0, hz1, hz2⟩ := info_int
  have hown : OwnI (w.alloc (.cells #[] 3)) w.heap.size (.slice (some ⟨w.heap.size, 0, none⟩) 0 0) [] := World.ownsRow_made w #[] 0 (Nat.le_refl _) (by unfold maxLen; omega) rfl
  have hnews := ints_news (Hp.out.later ⟨w.alloc (.cells #[] 3), by repeat (first | exact Below.refl _ _ | (with_reducible assumption) | apply below_later | apply below_alloc | apply below_drew | apply below_drewN)⟩)
  have HNW := Lib.hid hnews
  clear hnews Hp
  go_wp2_with (at_builtin; refine wpList_append_own _ rfl _ _ 22 rfl w.heap.size 3 i0 (.int .i64 0) 1 8 Try.underlying22 hi hz0 hz1 hz2 rfl (by decide) _ _ _ rfl hown ⟨b, off, none⟩ n cap (cellsI ((List.range n).map f)) rfl ?c1 HNW.out (cellsI_one _) ?c3 ?c4 ?c5 ?_)
  case c1 => rw [cellsI_length]; try simp
             try omega
  case c3 => simp only [maxLen]; omega
  case c4 => omega
  intro v' w1 hown2 hg1 _
  have HOW : OwnI w1 w.heap.size v' b0 := by
    unfold OwnI
    rw [HB0.out]
    first | exact hown2 | (rw [HBE.out] at hown2; exact hown2)
  have hbel : Below w.heap.size w w1 := below_own (by repeat (first | exact Below.refl _ _ | (with_reducible assumption) | apply below_later | apply below_alloc | apply below_drew | apply below_drewN)) hown (Nat.le_refl _) hg1
  obtain ⟨g1, c1, hv, q1, q2, _⟩ := HOW.form (n := n) HB0.out (by omega)
  subst hv
  have HO := Lib.hid HOW
  clear HOW hown hown2 hg1 HNW hi hz0 hz1 hz2
  go_wp2_with fail
  have so0 : SO w (w1.alloc (.cells (madeCells #[Value.int .i64 0] n) 3)) g1 c1 w1.heap.size n b0 (List.replicate n 0) :=
    ⟨by repeat (first | exact Below.refl _ _ | (with_reducible assumption) | apply below_later | apply below_alloc | apply below_drew | apply below_drewN), HO.out.alloc _, made_own w1 n (g1 + 1) (by omega) (by omega)⟩
  have SO0 := Lib.hid so0
  clear so0 HO MK hbel
  obtain ⟨g2, hg2⟩ : ∃ g2, w1.heap.size = g2 := ⟨_, rfl⟩
  rw [hg2] at SO0 ⊢
  clear hg2 q2
  generalize w1.alloc (.cells (madeCells #[Value.int .i64 0] n) 3) = V0 at *
  go_loopg [10] ((wsum (phi W) 0 b0).toNat + 1) (fun num mv wr => ∃ (m : Bool) (b o : List Int) (k : Nat), mv = .bool m ∧ num = (wsum (phi W) 0 b).toNat + (if m = true then 1 else 0) ∧ SO w wr g1 c1 g2 n b o ∧ SV W H n b o ∧ (b, o) = passes W H n (b0, List.replicate n 0) k ∧ (m = false → ∀ j, j < n → b.getD j 0 < 4))
  case atStart => exact ⟨true, b0, _, 0, rfl, rfl, SO0.out, SV0.out, rfl, fun h => by cases h⟩
  case round =>
    obtain ⟨m, b, o, k, rfl, hnum, so, sv, hps, hst⟩ := hrel
    have SO1 := Lib.hid so
    have SV1 := Lib.hid sv
    have HPS := Lib.hid hps
    have HNUM := Lib.hid hnum
    have HST := Lib.hid hst
    clear so sv hps hnum hst SO0
    cases m
    · go_wp2_with fail
      go_ret2
      exact ⟨_, _, b, o, k, rfl, ⟨_, SO1.out.below⟩, rfl, SO1.out.ob, SO1.out.oo.mono (by omega), by rw [HBE.out]; exact HPS.out, HST.out trivial, SV1.out⟩
    · go_wp2_with fail
      go_loopw [10, 11] (fun mv u wr => ∃ (m : Bool) (i : Nat) (b' o' : List Int), mv = .bool m ∧ u = .int .i64 i ∧ i ≤ n ∧ SO w wr g1 c1 g2 n b' o' ∧ SV W H n b' o' ∧ (b', o') = passTo W H (b, o) i ∧ (m = false → b' = b ∧ ∀ j, j < i → b.getD j 0 < 4) ∧ (m = true → wsum (phi W) 0 b' + 2 ≤ wsum (phi W) 0 b)) (fun _ u _ => n - (intOf u).toNat)
      case atStart => exact ⟨false, 0, b, o, rfl, rfl, by omega, SO1.out, SV1.out, rfl, fun _ => ⟨rfl, fun j hj => by omega⟩, fun h => by cases h⟩
      case round =>
        obtain ⟨m, i, b', o', rfl, rfl, hi, so, sv, hps, hst, hmv⟩ := hrel
        have SO2 := Lib.hid so
        have SV2 := Lib.hid sv
        have HP2 := Lib.hid hps
        have HS2 := Lib.hid hst
        have HM2 := Lib.hid hmv
        clear so sv hps hst hmv
        by_cases hlt : i < n
        · obtain ⟨ci, fi⟩ := SO2.out.ob.cell SV2.out.lb hlt
          have x0 := SV2.out.nb i (by rw [SV2.out.lb]; exact hlt)
          have x1 := entry_le b' 0 i SV2.out.nb (by rw [SV2.out.lb]; exact hlt)
          have few := SV2.out.few
          have lg1 := (own_lt SO2.out.ob g1 rfl).2
          have STEP : Hid (passTo W H (b, o) (i + 1) = stepS W H (b', o') i) := by show stepS W H (passTo W H (b, o) i) i = _; rw [← HP2.out]
          obtain ⟨x, hx⟩ : ∃ x, b'.getD i 0 = x := ⟨_, rfl⟩
          have HX := Lib.hid hx
          rw [hx] at ci x0 x1
          by_cases ht : 0 < x / 4
          · have RN : Hid (∀ V, OwnI V w.heap.size (.slice (some ⟨g1, 0, none⟩) n c1) b' → Calls Try.prog 72 #[.int .i64 W, .int .i64 H, .slice (some ⟨g1, 0, none⟩) n c1, .int .i64 i, .int .i64 (x / 4)] V fun e w' => e = .returned (.tuple #[]) ∧ Only (fun k => k = g1) V w' ∧ OwnI w' w.heap.size (.slice (some ⟨g1, 0, none⟩) n c1) (runL W H b' i (x / 4))) := fun V hV => rover_any W H n g1 c1 w.heap.size i (x / 4) b' o' V hW hW2 hH HN.out hlt SV2.out.lb SV2.out.nb SV2.out.few ht (by rw [HX.out]; omega) hV
            have SV3 := Lib.hid (SV2.out.step HN.out hlt (t := x / 4) ht (by rw [HX.out]; omega))
            have RF := (run_facts HN.out SV2.out.lb SV2.out.nb hlt (t := x / 4) (by omega) (by rw [HX.out]; omega)).2.2
            have HRF := Lib.hid RF
            have SS : Hid (stepS W H (b', o') i = (runL W H b' i (x / 4), o'.set i (o'.getD i 0 + x / 4))) := by show _ = _; unfold stepS; rw [HX.out, if_pos ht]
            have oo0 := SV2.out.no i (by rw [SV2.out.lo]; exact hlt)
            have oo1 := entry_le o' 0 i SV2.out.no (by rw [SV2.out.lo]; exact hlt)
            have pot := SV2.out.pot
            have ph := wsum_nonneg (p := phi W) (phi_nonneg hW) b' 0 SV2.out.nb
            obtain ⟨z, hz⟩ : ∃ z, o'.getD i 0 = z := ⟨_, rfl⟩
            have HZ := Lib.hid hz
            rw [hz] at oo0 oo1 SV3 SS
            clear hz RF hx
            go_wp2_with (go_at_call 72; refine Calls.mono (RN.out _ SO2.out.ob) ?_; rintro e w3 ⟨rfl, o3, h3⟩; have SO3 := Lib.hid (SO2.out.ran o3 h3); obtain ⟨cz, fz⟩ := SO3.out.oo.cell SV2.out.lo hlt; rw [HZ.out] at cz; have fz1 := fz i; have lg2 := (own_lt SO3.out.oo g2 rfl).2; clear o3 h3 fz)
            go_roundw
            case rel =>
              refine ⟨true, i + 1, _, _, rfl, by go_num, by omega, SO3.out.put SV2.out.lo _, SV3.out, by rw [STEP.out, SS.out], fun h => (by cases h), fun _ => ?_⟩
              have r := HRF.out
              cases m
              · rw [(HS2.out rfl).1] at r
                rw [← (HS2.out rfl).1] at r ⊢
                omega
              · have := HM2.out rfl
                omega
            case measure => simp [intOf]; omega
          · have SS : Hid (stepS W H (b', o') i = (b', o')) := by show _ = _; unfold stepS; rw [HX.out, if_neg ht]
            have d4 : ¬ 0 < x / 4 := ht
            clear hx
            go_wp2_with fail
            go_roundw
            case rel =>
              refine ⟨m, i + 1, b', o', rfl, by go_num, by omega, SO2.out, SV2.out, by rw [STEP.out, SS.out], fun h => ?_, HM2.out⟩
              obtain ⟨e1, e2⟩ := HS2.out h
              refine ⟨e1, fun j hj => ?_⟩
              rcases Nat.lt_or_ge j i with h1 | h1
              · exact e2 j h1
              · obtain rfl : j = i := by omega
                rw [← e1, HX.out]; omega
            case measure => simp [intOf]; omega
        · obtain rfl : i = n := by omega
          go_wp2_with fail
          go_roundg ((wsum (phi W) 0 b').toNat + (if m = true then 1 else 0))
          case measure =>
            have a := HNUM.out
            have ph := wsum_nonneg (p := phi W) (phi_nonneg hW) b' 0 SV2.out.nb
            simp only [if_true] at a
            cases m
            · rw [(HS2.out rfl).1]; simp; omega
            · have := HM2.out rfl
              simp; omega
          case rel =>
            refine ⟨m, b', o', k + 1, rfl, rfl, SO2.out, SV2.out, ?_, fun h j hj => ?_⟩
            · show _ = passTo W H (passes W H i (b0, List.replicate i 0) k) i
              rw [← HPS.out]; exact HP2.out
            · obtain ⟨e1, e2⟩ := HS2.out h
              rw [e1]; exact e2 j hj
theorem passTo_still {W H : Nat} {S : List Int × List Int} (h : ∀ j, S.1.getD j 0 < 4) : ∀ k, passTo W H S k = S
  | 0 => rfl
  | k + 1 => by
    show stepS W H (passTo W H S k) k = S
    rw [passTo_still h k]
    unfold stepS
    rw [if_neg (by have := h k; omega)]
theorem passes_still {W H n : Nat} {S : List Int × List Int} {k : Nat} (h : ∀ j, (passes W H n S k).1.getD j 0 < 4) : ∀ d, passes W H n S (k + d) = passes W H n S k
  | 0 => rfl
  | d + 1 => by
    show passTo W H (passes W H n S (k + d)) n = _
    rw [passes_still h d]
    exact passTo_still h n
/-- Two settled ends of the same passes are the same. -/
theorem passes_unique {W H n : Nat} {S T U : List Int × List Int} {k l : Nat} (hT : T = passes W H n S k) (hU : U = passes W H n S l) (h1 : ∀ j, T.1.getD j 0 < 4) (h2 : ∀ j, U.1.getD j 0 < 4) : T = U := by
  subst hT hU
  rcases Nat.le_total k l with h | h
  · obtain ⟨d, rfl⟩ := Nat.exists_eq_add_of_le h
    exact (passes_still h1 d).symm
  · obtain ⟨d, rfl⟩ := Nat.exists_eq_add_of_le h
    exact passes_still h2 d
end Go.Proofs.Ytihgadppndcjaaa
