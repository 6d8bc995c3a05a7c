/- The iterators of package bed: what they give out, whatever the rounds do. -/
import Derived.Test.YtajfepogecakbaaDoorSeqRegion
import Derived.Test.YtajfepogecakbaaDoorMap
import Derived.Deep.QuietTactic
import Derived.BigQuiet
import Derived.Outline
namespace Go.Proofs.YtajfepogecakbaaDoor
open Go.RowKit
attribute [local go_sem] Oper.semAt_some

theorem fm_split {α β : Type} (f : α → Option β) : ∀ (l : List α) (r : List α), (l ++ r).filterMap f = l.filterMap f ++ r.filterMap f := fun l r => List.filterMap_append
/-- How many are given out before place p. -/
def cntP (W H at_ p : Nat) : Nat := ((List.range p).filterMap (pickP W H at_)).length
theorem cntP_step {W H at_ p : Nat} : cntP W H at_ (p + 1) = cntP W H at_ p + if okP W H at_ p then 1 else 0 := by
  unfold cntP
  rw [List.range_succ, List.filterMap_append, List.length_append]
  unfold pickP
  cases h : okP W H at_ p <;> simp [h]
theorem range_split {p n : Nat} (h : p < n) : List.range n = List.range p ++ p :: (List.range (n - 1 - p)).map (fun j => p + 1 + j) := by
  apply List.ext_getElem
  · simp; omega
  · intro i h1 h2
    simp only [List.getElem_range, List.getElem_append, List.length_range]
    split
    · rfl
    · simp only [List.getElem_cons]
      split
      · omega
      · simp; omega
theorem aroundL_get {W H at_ p : Nat} (hp : p < 9) (hk : okP W H at_ p = true) : cntP W H at_ p < (aroundL W H at_).length ∧ (aroundL W H at_)[cntP W H at_ p]? = some (idP W at_ p) := by
  have e : aroundL W H at_ = (List.range p).filterMap (pickP W H at_) ++ (idP W at_ p :: ((List.range (9 - 1 - p)).map fun j => p + 1 + j).filterMap (pickP W H at_)) := by
    unfold aroundL
    rw [range_split hp, List.filterMap_append, List.filterMap_cons]
    have : pickP W H at_ p = some (idP W at_ p) := by unfold pickP; rw [if_pos hk]
    rw [this]
  unfold cntP
  rw [e]
  constructor
  · simp
  · rw [List.getElem?_append_right (Nat.le_refl _), Nat.sub_self]; rfl
/-- The values that are given out. -/
def valsOf (l : List Nat) : List (Array Value) := l.map fun (x : Nat) => #[Value.int .i64 x]
theorem valsOf_get {l : List Nat} {k x : Nat} (h : l[k]? = some x) : (valsOf l).getD k #[] = #[Value.int .i64 x] := by
  unfold valsOf
  rw [List.getD_eq_getElem?_getD, List.getElem?_map, h]; rfl
theorem valsOf_length (l : List Nat) : (valsOf l).length = l.length := by simp [valsOf]

theorem cell_of_heap {w : World} {b : Nat} {cs : Array Value} {t : TypeId} {z : Nat × Nat} (h : w.heap[b]? = some (.cells cs t z)) (i : Nat) (v : Value) (hi : cs[i]? = some v) : w.cell? ⟨b, i, none⟩ = some v := by
  simp [World.cell?, h, hi]

set_option maxRecDepth 100000 in
set_option maxHeartbeats 3200000 in
theorem around1_iter (W H at_ : Nat) (hW : 1 ≤ W) (hW2 : W ≤ 30) (hH : H ≤ 30) (hat : at_ < W * H) (A : Option Addr) (n cap : Nat) (w : World) (ba bm : Nat)
    (h1 : w.heap[ba]? = some (.cells #[.int .i64 at_] 3)) (h2 : w.heap[bm]? = some (.cells #[.int .i64 W, .int .i64 H, .slice A n cap] 24)) :
    IterC Tryd.prog 103 #[.pointer (some ⟨ba, 0, none⟩), .pointer (some ⟨bm, 0, none⟩)] (fun b => b = ba ∨ b = bm) (valsOf (aroundL W H at_)) w := by
  have hat2 : at_ < 900 := Nat.lt_of_lt_of_le hat (Nat.mul_le_mul hW2 hH)
  intro l J Jx S W0 hsub hsame hsz stJ stJx hround h0
  have la := (Array.getElem?_eq_some_iff.1 h1).1
  have lm := (Array.getElem?_eq_some_iff.1 h2).1
  have k1 : W0.heap[ba]? = some (.cells #[.int .i64 at_] 3) := (hsame _ (.inl rfl)).2.trans h1
  have k2 : W0.heap[bm]? = some (.cells #[.int .i64 W, .int .i64 H, .slice A n cap] 24) := (hsame _ (.inr rfl)).2.trans h2
  have HR := Lib.hid hround
  have HJ := Lib.hid stJ
  have HS := Lib.hid hsub
  have K1 := Lib.hid k1
  have K2 := Lib.hid k2
  have H0 := Lib.hid h0
  clear hround stJ stJx hsub hsame h1 h2 k1 k2 h0
  refine callsIn_of_wp Tryd.func103 rfl trivial ?_ rfl
  simp only [Tryd.ntmps103, List.size_toArray, List.length_cons, List.length_nil, Nat.reduceAdd, Nat.reduceSub, Array.replicate_succ, Array.replicate_zero, List.push_toArray, List.append_toArray, List.nil_append, List.cons_append]
  gi_wp2
  gi_loopw [7] (fun v wr => ∃ p : Nat, p ≤ 9 ∧ v = .int .i64 p ∧ ∃ T, (∀ b, S b → T b) ∧ J T (cntP W H at_ p) wr ∧ wr.heap[ba]? = some (.cells #[.int .i64 at_] 3) ∧ wr.heap[bm]? = some (.cells #[.int .i64 W, .int .i64 H, .slice A n cap] 24)) (fun v _ => 9 - (intOf v).toNat)
  case atStart => exact ⟨0, by omega, rfl, S, fun _ h => h, H0.out, K1.out, K2.out⟩
  case round =>
    obtain ⟨p, hp, rfl, T, hT, hj, g1, g2⟩ := hrel
    have c1 : wr.cell? ⟨ba, 0, none⟩ = some (.int .i64 at_) := cell_of_heap g1 0 _ rfl
    have c2 : wr.cell? ⟨bm, 0, none⟩ = some (.int .i64 W) := cell_of_heap g2 0 _ rfl
    have c3 : wr.cell? ⟨bm, 1, none⟩ = some (.int .i64 H) := cell_of_heap g2 1 _ rfl
    have c4 : wr.cell? ⟨bm, 2, none⟩ = some (.slice A n cap) := cell_of_heap g2 2 _ rfl
    have G1 := Lib.hid g1
    have G2 := Lib.hid g2
    have HT := Lib.hid hT
    have HJ2 := Lib.hid hj
    clear hT hj g1 g2
    by_cases hlt : p < 9
    · have hx : plX W at_ p = (at_ : Int) % (W : Int) + (p : Int) % 3 - 1 := rfl
      have hy : plY W at_ p = (at_ : Int) / (W : Int) + (p : Int) / 3 - 1 := rfl
      have b1 : (at_ : Int) % (W : Int) < 30 := by have := Int.emod_lt_of_pos (at_ : Int) (show (0 : Int) < W by omega); omega
      have b2 : 0 ≤ (at_ : Int) % (W : Int) := Int.emod_nonneg _ (by omega)
      have b3 : (at_ : Int) / (W : Int) < 900 := by have := Int.ediv_le_self (W : Int) (show 0 ≤ (at_ : Int) by omega); omega
      have b4 : 0 ≤ (at_ : Int) / (W : Int) := Int.ediv_nonneg (by omega) (by omega)
      have HX := Lib.hid hx
      have HY := Lib.hid hy
      have la2 : ba < wr.heap.size := (Array.getElem?_eq_some_iff.1 G1.out).1
      have lm2 : bm < wr.heap.size := (Array.getElem?_eq_some_iff.1 G2.out).1
      clear hx hy
      have hlt' : (p : Int) < 9 := by omega
      have b5 : 0 ≤ (p : Int) % 3 := Int.emod_nonneg _ (by omega)
      have b6 : (p : Int) % 3 < 3 := Int.emod_lt_of_pos _ (by omega)
      have b7 : 0 ≤ (p : Int) / 3 := Int.ediv_nonneg (by omega) (by omega)
      have b8 : (p : Int) / 3 < 3 := by omega
      by_cases h4 : p = 4
      · have n4 : ((p : Int) != 4) = false := by simp; omega
        have hno : okP W H at_ p = false := by unfold okP; rw [show (p != 4) = false by simp [h4], Bool.false_and]
        have HNO := Lib.hid hno
        clear h4 hno
        gi_wp2_with fail
        refine wpIn_wide.2 ?_
        first | (with_reducible show Code.wp _ _ _ _ (Later.val _); refine wp_region_later_at _ (by kernel_rfl) (by kernel_rfl) ?_) | refine wp_region_later (by kernel_rfl) (by kernel_rfl) ?_
        repeat (go_big_quiet_step ((fail)))
        refine wpQuiet_nil ?_
        intro z
        gi_wp2
        go_roundw
        case rel =>
          refine ⟨p + 1, by omega, by go_num, T, HT.out, ?_, (z.ok.block _ la2).trans G1.out, (z.ok.block _ lm2).trans G2.out⟩
          rw [cntP_step, HNO.out]
          exact HJ.out T T _ wr _ HJ2.out (Takes.refl _ _) (Only.later z)
        case measure => simp [intOf]; omega
      · have n4 : ((p : Int) != 4) = true := by simp; omega
        have N4 := Lib.hid (show (p != 4) = true by simp [h4])
        clear h4
        generalize hins : insB W H ((at_ : Int) % (W : Int) + (p : Int) % 3 - 1) ((at_ : Int) / (W : Int) + (p : Int) / 3 - 1) = ins
        have HI := Lib.hid hins
        clear hins
        cases ins
        · have hno : okP W H at_ p = false := by unfold okP plX plY; rw [N4.out, HI.out]; rfl
          have HNO := Lib.hid hno
          clear hno
          gi_wp2_with fail
          refine wpIn_wide.2 ?_
          first | (with_reducible show Code.wp _ _ _ _ (Later.val _); refine wp_region_later_at _ (by kernel_rfl) (by kernel_rfl) ?_) | refine wp_region_later (by kernel_rfl) (by kernel_rfl) ?_
          repeat (go_big_quiet_step ((fail)))
          refine wpQuiet_nil ?_
          intro z
          gi_wp2_with (gi_at_call 81; refine (callsIn_wide.2 (Gives.calls (HI.out ▸ within_any W H A n cap _ _ _))).mono ?_; rintro e w1 ⟨rfl, y, rfl⟩)
          go_roundw
          case rel =>
            refine ⟨p + 1, by omega, by go_num, T, HT.out, ?_, (y.ok.block _ (Nat.lt_of_lt_of_le la2 z.size)).trans ((z.ok.block _ la2).trans G1.out), (y.ok.block _ (Nat.lt_of_lt_of_le lm2 z.size)).trans ((z.ok.block _ lm2).trans G2.out)⟩
            rw [cntP_step, HNO.out]
            exact HJ.out T T _ wr _ HJ2.out (Takes.refl _ _) ((Only.later z).trans (Only.later y))
          case measure => simp [intOf]; omega
        · have hyes : okP W H at_ p = true := by unfold okP plX plY; rw [N4.out, HI.out]; rfl
          obtain ⟨hk1, hk2⟩ := aroundL_get hlt hyes
          have hins2 := HI.out
          simp only [insB, decide_eq_true_eq] at hins2
          obtain ⟨i1, i2, i3, i4⟩ := hins2
          have m1 : 0 ≤ ((at_ : Int) / (W : Int) + (p : Int) / 3 - 1) * (W : Int) := Int.mul_nonneg i3 (by omega)
          have m2 : ((at_ : Int) / (W : Int) + (p : Int) / 3 - 1) * (W : Int) ≤ 900 := by
            have := Int.mul_le_mul (show ((at_ : Int) / (W : Int) + (p : Int) / 3 - 1) ≤ 30 by omega) (show (W : Int) ≤ 30 by omega) (by omega) (by omega)
            omega
          have hid : ((idP W at_ p : Nat) : Int) = ((at_ : Int) / (W : Int) + (p : Int) / 3 - 1) * (W : Int) + ((at_ : Int) % (W : Int) + (p : Int) % 3 - 1) := by
            unfold idP
            rw [Int.toNat_of_nonneg (by unfold plX plY; omega)]
            rfl
          have hY : ∀ W1, J T (cntP W H at_ p) W1 → YieldAt Fence.wide 0 Tryd.prog l #[.int .i64 (((at_ : Int) / (W : Int) + (p : Int) / 3 - 1) * (W : Int) + ((at_ : Int) % (W : Int) + (p : Int) % 3 - 1))] W1 fun e W' => Kept T W1 W' ∧ ((e = .returned (.bool true) ∧ J T (cntP W H at_ p + 1) W') ∨ (e = .returned (.bool false) ∧ Jx T (cntP W H at_ p) W')) := fun W1 hW1 => by
            have := HR.out T (cntP W H at_ p) W1 (by rw [valsOf_length]; exact hk1) hW1
            rw [valsOf_get hk2, hid] at this
            exact this
          have HY2 := Lib.hid hY
          have HYES := Lib.hid hyes
          have HK1 := Lib.hid hk1
          clear hY hyes hk1 hk2 hid i1 i2 i3 i4
          gi_wp2_with fail
          refine wpIn_wide.2 ?_
          first | (with_reducible show Code.wp _ _ _ _ (Later.val _); refine wp_region_later_at _ (by kernel_rfl) (by kernel_rfl) ?_) | refine wp_region_later (by kernel_rfl) (by kernel_rfl) ?_
          repeat (go_big_quiet_step ((fail)))
          refine wpQuiet_nil ?_
          intro z
          gi_wp2_with (gi_at_call 81; refine (callsIn_wide.2 (Gives.calls (HI.out ▸ within_any W H A n cap _ _ _))).mono ?_; rintro e w1 ⟨rfl, y, rfl⟩; obtain ⟨fn, tmps, assign, body, hyy, hR⟩ := HY2.out y.val (HJ.out T T _ wr _ HJ2.out (Takes.refl _ _) ((Only.later z).trans (Only.later y))))
          refine hR.mono ?_
          have ly : ba < y.val.heap.size := Nat.lt_of_lt_of_le (Nat.lt_of_lt_of_le la2 z.size) y.size
          have lmy : bm < y.val.heap.size := Nat.lt_of_lt_of_le (Nat.lt_of_lt_of_le lm2 z.size) y.size
          have gy1 := (y.ok.block _ (Nat.lt_of_lt_of_le la2 z.size)).trans ((z.ok.block _ la2).trans G1.out)
          have gy2 := (y.ok.block _ (Nat.lt_of_lt_of_le lm2 z.size)).trans ((z.ok.block _ lm2).trans G2.out)
          have GY1 := Lib.hid gy1
          have GY2 := Lib.hid gy2
          clear gy1 gy2 hyy hR
          rintro e W' ⟨hkp, (⟨rfl, hJ'⟩ | ⟨rfl, hx'⟩)⟩
          · have HJ3 := Lib.hid hJ'
            have HKP := Lib.hid hkp
            clear hJ' hkp
            gi_wp2
            go_roundw
            case rel =>
              refine ⟨p + 1, by omega, by go_num, T, HT.out, ?_, (HKP.out.same _ (HT.out _ (HS.out _ (.inl rfl))) ly).trans GY1.out, (HKP.out.same _ (HT.out _ (HS.out _ (.inr rfl))) lmy).trans GY2.out⟩
              rw [cntP_step, HYES.out]
              exact HJ3.out
            case measure => simp [intOf]; omega
          · have HX2 := Lib.hid hx'
            clear hx' hkp
            gi_wp2
            refine bodyPost_ret (results_none rfl _ _ _) rfl ?_
            exact ⟨⟨_, rfl⟩, T, HT.out, .inr ⟨cntP W H at_ p, by rw [valsOf_length]; exact HK1.out, HX2.out⟩⟩
    · obtain rfl : p = 9 := by omega
      gi_wp2
      go_end0
      refine ⟨⟨_, rfl⟩, T, HT.out, .inl ?_⟩
      rw [valsOf_length]
      exact HJ2.out
end Go.Proofs.YtajfepogecakbaaDoor
