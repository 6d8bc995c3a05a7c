/- sluice.runOver: walked; slices.Clone of a list of numbers. -/
import Derived.Test.YtelfinjnbncnlaaSettleMath
import Derived.Laws.CopyOwn
namespace Go.Proofs.Ytelfinjnbncnlaa
open Go.RowKit

set_option maxRecDepth 100000 in
set_option maxHeartbeats 1600000 in
theorem run_any (W H n g cap base at_ : Nat) (t : Int) (b o : List Int) (w : World) (hW : 1 ≤ W) (hW2 : W ≤ 16) (hH : H ≤ 16) (hn : n = W * H) (ha : at_ < n) (hb : b.length = n) (hnn : NonN b) (hfew : wsum (fun _ => 1) 0 b ≤ 25600) (h0 : 0 < t) (ht : 4 * t ≤ b.getD at_ 0)
    (ho : OwnI w base (.slice (some ⟨g, 0, none⟩) n cap) b) :
    Calls Try.prog 59 #[.int .i64 W, .int .i64 H, .slice (some ⟨g, 0, none⟩) n cap, .int .i64 at_, .int .i64 t] w fun e w' =>
      e = .returned (.tuple #[]) ∧ Only (fun k => k = g) w w' ∧ OwnI w' base (.slice (some ⟨g, 0, none⟩) n cap) (runL W H b at_ t) := by
  have hn9 : n ≤ 256 := by rw [hn]; exact Nat.mul_le_mul hW2 hH
  obtain ⟨c0, f0⟩ := ho.cell hb ha
  have e0 := entry_le b 0 at_ hnn (by omega)
  have f00 := f0 at_
  have lg := World.block_lt_of_cell? _ _ c0
  obtain ⟨nl, hnl⟩ : ∃ nl, (near4 W H at_).length = nl := ⟨_, rfl⟩
  have HNL : Hid ((natN (near4 W H at_)).length = nl) := by show _ = _; rw [← hnl]; simp [natN]
  have HNL2 := Lib.hid hnl
  have nl4 : nl ≤ 4 := hnl ▸ near_len W H at_
  have NR : Hid (∀ w', GivesI 51 #[.int .i64 W, .int .i64 H, .int .i64 at_] w' (natN (near4 W H at_))) := fun w' => near_any W H at_ w' hW hW2 hH (hn ▸ ha)
  have LT : Hid (∀ j, j ∈ near4 W H at_ → j < n) := fun j hj => by rw [hn] at ha ⊢; exact near_lt hj ha
  -- what stands there behind k neighbours
  obtain ⟨st, hst⟩ : ∃ st : Nat → List Int, st = fun k => ((near4 W H at_).take k).foldl (addL t) (b.set at_ (b.getD at_ 0 - 4 * t)) := ⟨_, rfl⟩
  have S0 : Hid (st 0 = b.set at_ (b.getD at_ 0 - 4 * t)) := by show _ = _; rw [hst]; rfl
  have SS : Hid (∀ k j, (near4 W H at_)[k]? = some j → st (k + 1) = (st k).set j ((st k).getD j 0 + t)) := fun k j hj => by
    rw [hst]
    show ((near4 W H at_).take (k + 1)).foldl _ _ = _
    rw [List.take_add_one, hj, Option.toList_some, List.foldl_append]
    rfl
  have SN : Hid (st nl = runL W H b at_ t) := by show _ = _; rw [hst, ← hnl]; show ((near4 W H at_).take _).foldl _ _ = _; rw [List.take_length]; rfl
  have SL : Hid (∀ k, (st k).length = n) := fun k => by rw [hst]; show (((near4 W H at_).take k).foldl (addL t) (b.set at_ (b.getD at_ 0 - 4 * t))).length = n; rw [fold_length, List.length_set, hb]
  have SB : Hid (∀ k j, j < n → 0 ≤ (st k).getD j 0 ∧ (st k).getD j 0 ≤ 100000 + 4 * t) := fun k j hj => by
    have hl : (st k).length = n := SL.out k
    have nn : NonN (st k) := by rw [hst]; exact nonn_fold (by omega) _ _ (nonn_set hnn (by omega))
    have e := entry_le (st k) 0 j nn (by omega)
    refine ⟨nn j (by omega), Int.le_trans e ?_⟩
    rw [hst]
    show wsum _ 0 (((near4 W H at_).take k).foldl _ _) ≤ _
    rw [wsum_fold _ _ _ _ fun i hi => by rw [List.length_set, hb]; exact LT.out i (List.mem_of_mem_take hi), wsum_set _ _ _ _ _ (by omega)]
    have pl : ∀ l : List Nat, psum (fun _ => 1) l = (l.length : Int) := fun l => by
      induction l with
      | nil => rfl
      | cons j l ih => show 1 + psum (fun _ => 1) l = _; rw [ih, List.length_cons]; omega
    rw [pl]
    have m := Int.mul_le_mul_of_nonneg_left (show ((((near4 W H at_).take k).length : Nat) : Int) ≤ 4 by rw [List.length_take]; omega) (show 0 ≤ t by omega)
    omega
  have tb : t ≤ 6400 := by omega
  have HO := Lib.hid ho
  have HB := Lib.hid hb
  clear ho hst hnl hn f0 hnn hb
  generalize b.getD at_ 0 = v0 at *
  go_enter Try.func59, Try.ntmps59
  go_wp2_with (go_at_call 51; refine Calls.mono (GivesI.calls (NR.out _)) ?_; rintro e w2 ⟨vn, rfl, yn, rfl, hon⟩; obtain ⟨AN, capN, rfl⟩ := hon.shape_n (n := nl) HNL.out; have HON := Lib.hid hon; clear hon)
  go_loopw [25] (fun u wr => ∃ k : Nat, u = .int .i64 k ∧ k ≤ nl ∧ Only (fun k => k = g) w wr ∧ OwnI wr base (.slice (some ⟨g, 0, none⟩) n cap) (st k) ∧ OwnI wr w.heap.size (.slice AN nl capN) (natN (near4 W H at_))) (fun u _ => nl - (intOf u).toNat)
  case atStart =>
    refine ⟨0, rfl, by omega, Only.trans (Only.setCell _ ?_) (Only.later yn), by rw [S0.out]; exact (HO.out.set HB.out at_ _).later yn, HON.out.mono (by simp)⟩
    exact rfl
  case round =>
    obtain ⟨k, rfl, hk, hO, ho, hN⟩ := hrel
    have HO1 := Lib.hid hO
    have HO2 := Lib.hid ho
    have HN2 := Lib.hid hN
    clear hO ho hN
    by_cases hlt : k < nl
    · obtain ⟨gb, gf, hAN, pN⟩ := (HN2.out.ints (by rw [HNL.out]; omega)).2.at_ (by omega)
      have cN := pN.at_ k hlt
      have lN := pN.lt
      have ge := (own_lt HN2.out gb (by rw [hAN]; rfl)).1
      obtain ⟨j, hj⟩ : ∃ j, (near4 W H at_)[k]? = some j := ⟨_, List.getElem?_eq_getElem (by rw [HNL2.out]; exact hlt)⟩
      have ej : (natN (near4 W H at_)).getD k 0 = (j : Int) := by rw [List.getD_eq_getElem?_getD, natN, List.getElem?_map, hj]; rfl
      rw [ej] at cN
      have hjn : j < n := LT.out j (List.mem_of_getElem? hj)
      have STEP := Lib.hid (SS.out k j hj)
      obtain ⟨cj, fj⟩ := HO2.out.cell (SL.out k) hjn
      obtain ⟨sb1, sb2⟩ := SB.out k j hjn
      have fj1 := fj j
      have lg2 := (own_lt HO2.out g rfl).2
      generalize (st k).getD j 0 = q at *
      subst hAN
      clear pN ej hj fj
      go_wp2
      go_roundw
      case rel =>
        refine ⟨k + 1, by go_num, by omega, Only.trans HO1.out (Only.setCell _ ?_), by rw [STEP.out]; exact HO2.out.set (SL.out k) j _, HN2.out.far fun g' hg => ?_⟩
        · exact rfl
        · have := (own_lt HN2.out g' hg).1
          show g ≠ g'
          omega
      case measure => simp [intOf]; omega
    · obtain rfl : k = nl := by omega
      go_wp2
      go_end0
      exact ⟨rfl, HO1.out, by rw [← SN.out]; exact HO2.out⟩
end Go.Proofs.Ytelfinjnbncnlaa
