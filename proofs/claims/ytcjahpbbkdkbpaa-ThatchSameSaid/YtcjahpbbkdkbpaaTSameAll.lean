/- The law of roofs with a hip and with gables: whatever comes in. -/
import Derived.Test.YtcjahpbbkdkbpaaTSameLaw
namespace Go.Proofs.Ytcjahpbbkdkbpaa
open Go.RowKit
theorem sames_law (l d a b c : Int) (h : Bool) (i j : Int) (w : World) (wi : (Lit.int .u16 i).wf = true) (wj : (Lit.int .u16 j).wf = true) : Gives Try.prog 4 #[roofV l d a b c h, .int .u16 i, .int .u16 j] w (.bool true) := by
  obtain ⟨h0, h1⟩ := wf_u16 wi
  obtain ⟨k0, k1⟩ := wf_u16 wj
  obtain ⟨u, rfl⟩ : ∃ u : Nat, i = u := ⟨i.toNat, by omega⟩
  obtain ⟨v, rfl⟩ : ∃ v : Nat, j = v := ⟨j.toNat, by omega⟩
  cases hv : okRoof l d a b c with
  | false => exact sames_bad l d a b c h u v w hv
  | true =>
    obtain ⟨L, D, H, A, B, C, rfl, rfl, rfl, rfl, rfl, R⟩ := okRoof_nat hv
    exact sames_ok L D H A B C h u v w (by omega) (by omega) R hv
end Go.Proofs.Ytcjahpbbkdkbpaa
