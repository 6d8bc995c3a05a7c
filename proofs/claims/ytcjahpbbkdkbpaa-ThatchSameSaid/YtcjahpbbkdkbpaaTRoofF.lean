/- What the program and the document say of a roof: the same, in letters. -/
import Derived.Test.YtcjahpbbkdkbpaaTHip
import Derived.Test.YtcjahpbbkdkbpaaTNeeds
namespace Go.Proofs.Ytcjahpbbkdkbpaa
open Go.RowKit

/-- A list of ratios and an error. -/
def PostE (w : World) (k : Nat) (er : Int) (x y : Nat → Int) (e : Ending) (w' : World) : Prop := ∃ A cap, e = .returned (.tuple #[.slice A k cap, .int .i64 er]) ∧ ∃ x' : Later w, w' = x'.val ∧ IsPairs w' A k x y
theorem postE_of {w : World} {k : Nat} {l : List Pt} {e : Ending} {w' : World} (h : PostF w k l e w') : PostE w k 0 (hx l) (hy l) e w' := h
theorem pairs_none (w : World) (x y : Nat → Int) : IsPairs w none 0 x y := ⟨by omega, fun h => absurd h (by omega)⟩
theorem Faces_ok (L D H A B C : Nat) (h : Bool) (w : World) (R : Rf L D H A B C) (hv : okRoof L D A B C = true) :
    Calls Try.prog 10 #[roofV L D A B C h] w (PostF w (kN h) (facesL L H B C h (kN h))) := by
  cases h with
  | false => exact Faces_gable L D H A B C w R hv
  | true => exact Faces_hip L D H A B C w R hv
theorem rFaces_ok (L D H A B C : Nat) (h : Bool) (w : World) (R : Rf L D H A B C) (hv : okRoof L D A B C = true) :
    Calls Try.prog 11 #[roofV L D A B C h] w (PostF w (kN h) (facesL L H B C h (kN h))) := by
  cases h with
  | false => exact rFaces_gable L D H A B C w R hv
  | true => exact rFaces_hip L D H A B C w R hv
structure RoofF (l d a b c : Int) (h : Bool) (s : Int) (ok : Bool) (a1 a2 e : Int) (k : Nat) (fx fy : Nat → Int) (rn r1 r2 sn nn ne : Int) : Prop where
  ple : k ≤ 4
  pv1 : ∀ V, Gives Try.prog 8 #[roofV l d a b c h] V (.bool ok)
  pv2 : ∀ V, Gives Try.prog 9 #[roofV l d a b c h] V (.bool ok)
  pa1 : ∀ V, Gives Try.prog 6 #[roofV l d a b c h] V (.tuple #[.agg #[.int .i64 a1, .int .i64 a2], .int .i64 e])
  pa2 : ∀ V, Gives Try.prog 7 #[roofV l d a b c h] V (.tuple #[.agg #[.int .i64 a1, .int .i64 a2], .int .i64 e])
  pf1 : ∀ V, Calls Try.prog 10 #[roofV l d a b c h] V (PostE V k e fx fy)
  pf2 : ∀ V, Calls Try.prog 11 #[roofV l d a b c h] V (PostE V k e fx fy)
  pr1 : ∀ V, Gives Try.prog 12 #[roofV l d a b c h] V (.tuple #[.int .i64 rn, .agg #[.int .i64 r1, .int .i64 r2], .int .i64 e])
  pr2 : ∀ V, Gives Try.prog 13 #[roofV l d a b c h] V (.tuple #[.int .i64 rn, .agg #[.int .i64 r1, .int .i64 r2], .int .i64 e])
  ps1 : ∀ V, Gives Try.prog 14 #[roofV l d a b c h] V (.tuple #[.int .i64 sn, .int .i64 e])
  ps2 : ∀ V, Gives Try.prog 15 #[roofV l d a b c h] V (.tuple #[.int .i64 sn, .int .i64 e])
  pn1 : ∀ V, Gives Try.prog 16 #[roofV l d a b c h, .int .i64 s] V (.tuple #[.int .i64 nn, .int .i64 ne])
  pn2 : ∀ V, Gives Try.prog 17 #[roofV l d a b c h, .int .i64 s] V (.tuple #[.int .i64 nn, .int .i64 ne])
theorem post_none {n : Nat} {v : Value} {w : World} (h : Gives Try.prog n #[v] w (.tuple #[.slice none 0 0, .int .i64 80])) (x y : Nat → Int) : Calls Try.prog n #[v] w (PostE w 0 80 x y) :=
  Calls.mono (Gives.calls h) fun e w' ⟨he, x', hw⟩ => ⟨none, 0, he, x', hw, pairs_none _ _ _⟩
theorem roof_facts (l d a b c : Int) (h : Bool) (s : Int) : ∃ ok a1 a2 e k fx fy rn r1 r2 sn nn ne, RoofF l d a b c h s ok a1 a2 e k fx fy rn r1 r2 sn nn ne := by
  cases hv : okRoof l d a b c with
  | false =>
    exact ⟨false, 0, 0, 80, 0, fun _ => 0, fun _ => 0, 0, 0, 0, 0, 0, 80, by omega, fun V => hv ▸ ValidRoof_any l d a b c h V, fun V => hv ▸ rValidRoof_any l d a b c h V, fun V => Area_bad l d a b c h V hv, fun V => rArea_bad l d a b c h V hv,
      fun V => post_none (Faces_bad l d a b c h V hv) _ _, fun V => post_none (rFaces_bad l d a b c h V hv) _ _, fun V => Ridge_bad l d a b c h V hv, fun V => rRidge_bad l d a b c h V hv, fun V => Slant_bad l d a b c h V hv, fun V => rSlant_bad l d a b c h V hv,
      fun V => Needs_bad l d a b c h s V hv, fun V => rNeeds_bad l d a b c h s V hv⟩
  | true =>
    obtain ⟨L, D, H, A, B, C, rfl, rfl, rfl, rfl, rfl, R⟩ := okRoof_nat hv
    have main : ∀ (nn ne : Int), (∀ V, Gives Try.prog 16 #[roofV L D A B C h, .int .i64 s] V (.tuple #[.int .i64 nn, .int .i64 ne])) → (∀ V, Gives Try.prog 17 #[roofV L D A B C h, .int .i64 s] V (.tuple #[.int .i64 nn, .int .i64 ne])) →
        ∃ ok a1 a2 e k fx fy rn r1 r2 sn nn ne, RoofF L D A B C h s ok a1 a2 e k fx fy rn r1 r2 sn nn ne := fun nn ne h1 h2 =>
      ⟨true, _, _, 0, kN h, _, _, _, _, _, _, nn, ne, by cases h <;> decide, fun V => hv ▸ ValidRoof_any L D A B C h V, fun V => hv ▸ rValidRoof_any L D A B C h V, fun V => Area_ok L D H A B C h V R hv, fun V => rArea_ok L D H A B C h V R hv,
        fun V => Faces_ok L D H A B C h V R hv, fun V => rFaces_ok L D H A B C h V R hv, fun V => Ridge_ok L D H A B C h V R hv, fun V => rRidge_ok L D H A B C h V R hv, fun V => Slant_ok L D H A B C h V R hv, fun V => rSlant_ok L D H A B C h V R hv, h1, h2⟩
    cases hs : inI 1 s 1000 with
    | false => exact main _ _ (fun V => Needs_arg L D H A B C h s V R hv hs) (fun V => rNeeds_arg L D H A B C h s V R hv hs)
    | true =>
      obtain ⟨S, rfl⟩ : ∃ S : Nat, s = S := ⟨s.toNat, by have := inI_iff.1 hs; omega⟩
      exact main _ _ (fun V => Needs_ok L D H A B C h S V R hv hs) (fun V => rNeeds_ok L D H A B C h S V R hv hs)
end Go.Proofs.Ytcjahpbbkdkbpaa
