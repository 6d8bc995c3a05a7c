/- SluiceRidges: whatever comes in, the law returns true and leaves what came in as it was; no condition. -/
import Derived.Test.YtelfinjnbncnlaaSFen
import Derived.Test.YtelfinjnbncnlaaSClaimO
import Derived.Test.YtelfinjnbncnlaaRidgesLaw
namespace Go.Proofs.Ytelfinjnbncnlaa.cSluiceRidges
open Go.ChangeShapes Go.WideShapes Go.ChangeAt Go.RowKit

set_option maxRecDepth 100000 in
theorem contract (H : Type) (enc : TypeId × Value → H) (W : World) (base : Nat) (args : Array Value) (ds gs : List (DataW H)) (before : List MemPlace)
    (hval : ∀ (j : Nat) t v, Try.f3.params[j]? = some t → args[j]? = some v → Value.okWide Try.prog W .any base t v)
    (hW : DataW.Whole enc Try.prog Try.f3.params.toList Rows.sluiceRidgesSpec.vars false W args.toList ds gs before) :
    Calls Try.prog 3 args W fun e W' => ∃ v, e = .returned v ∧ Rows.sluiceRidgesSpec.post enc Try.prog Try.f3 false true false false W args v W' := by
  have hlt : ∀ b ∈ before, b.block < W.heap.size := fun b hb => hW.lt b hb
  have hW' := hW
  obtain ⟨p, q, hA0, hV, rfl, hfz, hnd⟩ := hW
  have hA : DataW.TrodAll enc Try.prog W 0 (fun _ => true) true Try.f3.params.toList args.toList ds p := hA0
  rw [Try.params3] at hA hval
  obtain ⟨v0, vs0, d0, ds0, p0, q0, hargs0, rfl, rfl, h0, r0⟩ := trodAll_cons hA
  obtain ⟨v1, vs1, d1, ds1, p1, q1, hargs1, rfl, rfl, h1, r1⟩ := trodAll_cons r0
  obtain ⟨rfl, rfl, rfl⟩ := trodAll_nil r1
  subst hargs1
  obtain rfl : args = #[v0, v1] := by
    apply Array.toList_inj.1
    simpa using hargs0
  obtain ⟨x0, y0, A0, n0, cap0, f0, B0, m0, capS0, sa0, ss0, rfl, wf0, ⟨hnc0, hcm0, hmc0, hms0⟩, hp0, hf0, hq0, hsf0⟩ := open_fen (fun b hb => hlt b (by simp [hb])) (hval 0 25 _ rfl rfl) h0
  obtain ⟨x1, y1, A1, n1, cap1, f1, rfl, wf1, hnc1, hcm1, hp1, hf1⟩ := open_claim3 (fun b hb => hlt b (by simp [hb])) (hval 1 27 _ rfl rfl) h1
  refine (ridges_law x0 y0 A0 n0 cap0 f0 B0 m0 capS0 sa0 ss0 x1 y1 A1 n1 cap1 f1 W hp0 (fun h => hq0 (by omega)) hp1).calls.mono fun e W' ⟨he, x, hx⟩ => ?_
  subst he hx
  exact ⟨_, rfl, law_post laid_out Try.underlying4 rfl (by kernel_rfl) (by kernel_rfl) hW' rfl x.ok⟩

set_option maxRecDepth 100000 in
theorem lifted (os : Os) (started : os.Started) (H : Type) (enc : TypeId × Value → H) (F : Stop.Interp) :
    ReturnsInHanded {} Try.checked os 3 .any ((OpenSpec.ofChange Rows.sluiceRidgesSpec).preRow enc Try.prog Try.f3 Rows.sluiceRidgesRow.domain false Rows.sluiceRidgesRow.laid) (((OpenSpec.ofChange Rows.sluiceRidgesSpec).at F).post enc Try.prog Try.f3 false true false false) := by
  have hx : ∃ places, DataW.whole enc Try.prog ((World.laidAll Try.prog os Rows.sluiceRidgesRow.laid).forCall (fun _ _ => 0) ⟨#[], #[.agg #[.int .i64 0, .int .i64 0, .slice none 0 0, .slice none 0 0], .agg #[.int .i64 0, .int .i64 0, .slice none 0 0]], []⟩).memory Try.f3.params.toList Rows.sluiceRidgesSpec.vars false #[Value.agg #[.int .i64 0, .int .i64 0, .slice none 0 0, .slice none 0 0], Value.agg #[.int .i64 0, .int .i64 0, .slice none 0 0]].toList 8 = some ([.agg [.lit (.int .i64 0), .lit (.int .i64 0), .nil, .nil], .agg [.lit (.int .i64 0), .lit (.int .i64 0), .nil]], [], places) :=
    ⟨[], by kernel_rfl⟩
  obtain ⟨places, hx⟩ := hx
  refine returnsInHanded_of_row (C := Try.checked) (s := OpenSpec.ofChange Rows.sluiceRidgesSpec) own started (by kernel_rfl) Try.func3
    (witness_row_at (enc := enc) (C := Try.checked) false (World.laidAll Try.prog os Rows.sluiceRidgesRow.laid) #[.agg #[.int .i64 0, .int .i64 0, .slice none 0 0, .slice none 0 0], .agg #[.int .i64 0, .int .i64 0, .slice none 0 0]] (World.laidAll_os _ _ _) (by kernel_rfl) (by kernel_rfl) (by kernel_rfl)
      (OpenSpec.preRow_of_cond 8 hx (by kernel_rfl) (fun k hk => by cases hk) (by kernel_rfl) (laidMet_laidAll _ (by kernel_rfl) (by kernel_rfl)))) ?_
  intro W base args ds gs before hval hW _ _ _ hL _ _
  exact contract H enc W base args ds gs before hval hW

theorem said : Rows.SluiceRidgesSaid :=
  OpenClaim.holds_of_cond 3 Try.f3 rfl rfl rfl rfl rfl rfl rfl ⟨rfl, rfl, rfl, rfl, rfl⟩ rfl rfl rfl rfl rfl (by kernel_rfl) Try.func3 (by kernel_rfl)
    (of_decide_eq_true (by kernel_rfl)) (by unfold Func.isWrapper; first | (rw [if_pos (by decide +kernel)]; kernel_rfl) | (rw [if_neg (by decide +kernel)]; exact ⟨rfl, rfl⟩))
    (fun os started H enc _ F => by rw [OpenClaim.pre_eq_preRow]; exact lifted os started H enc F)

end Go.Proofs.Ytelfinjnbncnlaa.cSluiceRidges
