/- thatch's and the document's Needs: walked. -/
import Derived.Test.YtcjahpbbkdkbpaaTRidge
namespace Go.Proofs.Ytcjahpbbkdkbpaa
open Go.RowKit

def needN (L D B C S : Nat) : Nat := upN (L * D * C * S) (B * 100)
theorem lo_le {n d : Nat} (hd : 1 ≤ d) : loN n d ≤ n ∧ 1 ≤ loD n d ∧ loD n d ≤ d := by
  have hg : 1 ≤ Nat.gcd n d := Nat.gcd_pos_of_pos_right _ hd
  refine ⟨Nat.div_le_self _ _, ?_, Nat.div_le_self _ _⟩
  exact Nat.div_pos (Nat.le_of_dvd hd (Nat.gcd_dvd_right n d)) hg
set_option maxRecDepth 100000 in
set_option maxHeartbeats 1600000 in
theorem Needs_bad (l d a b c : Int) (h : Bool) (s : Int) (w : World) (hv : okRoof l d a b c = false) :
    Gives Try.prog 16 #[roofV l d a b c h, .int .i64 s] w (.tuple #[.int .i64 0, .int .i64 80]) := by
  have VA := Lib.hid fun V => Area_bad l d a b c h V hv
  unfold roofV at VA ⊢
  clear hv
  go_enter Try.func16, Try.ntmps16
  go_wp2_with (go_at_call 6; with_reducible refine Calls.mono (Gives.calls (VA.out _)) ?_; rintro e w1 ⟨rfl, z, rfl⟩)
  go_ret2
  exact ⟨rfl, later_of (by repeat (first | exact Below.refl _ _ | (with_reducible assumption) | apply below_later | apply below_alloc | apply below_drew | apply below_drewN))⟩
set_option maxRecDepth 100000 in
theorem rNeeds_bad (l d a b c : Int) (h : Bool) (s : Int) (w : World) (hv : okRoof l d a b c = false) :
    Gives Try.prog 17 #[roofV l d a b c h, .int .i64 s] w (.tuple #[.int .i64 0, .int .i64 80]) := by
  have VA := Lib.hid fun V => hv ▸ rValidRoof_any l d a b c h V
  unfold roofV at VA ⊢
  clear hv
  go_enter Try.func17, Try.ntmps17
  go_wp2_with (go_at_call 9; with_reducible refine Calls.mono (Gives.calls (VA.out _)) ?_; rintro e w1 ⟨rfl, z, rfl⟩)
  go_ret2
  exact ⟨rfl, later_of (by repeat (first | exact Below.refl _ _ | (with_reducible assumption) | apply below_later | apply below_alloc | apply below_drew | apply below_drewN))⟩
set_option maxRecDepth 100000 in
set_option maxHeartbeats 1600000 in
theorem Needs_arg (L D H A B C : Nat) (h : Bool) (s : Int) (w : World) (R : Rf L D H A B C) (hv : okRoof L D A B C = true) (hs : inI 1 s 1000 = false) :
    Gives Try.prog 16 #[roofV L D A B C h, .int .i64 s] w (.tuple #[.int .i64 0, .int .i64 2]) := by
  have VA := Lib.hid fun V => Area_ok L D H A B C h V R hv
  have BT := Lib.hid fun V => hs ▸ between_any 1 s 1000 V
  unfold ratV at VA
  unfold roofV at VA ⊢
  generalize loN (L * D * C) B = r1 at *
  generalize loD (L * D * C) B = r2 at *
  clear hv R hs
  go_enter Try.func16, Try.ntmps16
  go_wp2_with (first | (go_at_call 6; with_reducible refine Calls.mono (Gives.calls (VA.out _)) ?_; rintro e w1 ⟨rfl, z, rfl⟩) | (go_at_call 37; with_reducible refine Calls.mono (Gives.calls (BT.out _)) ?_; rintro e w1 ⟨rfl, z2, rfl⟩))
  go_ret2
  exact ⟨rfl, later_of (by repeat (first | exact Below.refl _ _ | (with_reducible assumption) | apply below_later | apply below_alloc | apply below_drew | apply below_drewN))⟩
set_option maxRecDepth 100000 in
set_option maxHeartbeats 1600000 in
theorem rNeeds_arg (L D H A B C : Nat) (h : Bool) (s : Int) (w : World) (R : Rf L D H A B C) (hv : okRoof L D A B C = true) (hs : inI 1 s 1000 = false) :
    Gives Try.prog 17 #[roofV L D A B C h, .int .i64 s] w (.tuple #[.int .i64 0, .int .i64 2]) := by
  have VA := Lib.hid fun V => hv ▸ rValidRoof_any L D A B C h V
  have BT := Lib.hid fun V => hs ▸ rfrom_any 1 s 1000 V
  unfold roofV at VA ⊢
  clear hv R hs
  go_enter Try.func17, Try.ntmps17
  go_wp2_with (first | (go_at_call 9; with_reducible refine Calls.mono (Gives.calls (VA.out _)) ?_; rintro e w1 ⟨rfl, z, rfl⟩) | (go_at_call 32; with_reducible refine Calls.mono (Gives.calls (BT.out _)) ?_; rintro e w1 ⟨rfl, z2, rfl⟩))
  go_ret2
  exact ⟨rfl, later_of (by repeat (first | exact Below.refl _ _ | (with_reducible assumption) | apply below_later | apply below_alloc | apply below_drew | apply below_drewN))⟩
set_option maxRecDepth 100000 in
set_option maxHeartbeats 1600000 in
theorem Needs_ok (L D H A B C : Nat) (h : Bool) (S : Nat) (w : World) (R : Rf L D H A B C) (hv : okRoof L D A B C = true) (hs : inI 1 S 1000 = true) :
    Gives Try.prog 16 #[roofV L D A B C h, .int .i64 S] w (.tuple #[.int .i64 (needN L D B C S : Nat), .int .i64 0]) := by
  have VA := Lib.hid fun V => Area_ok L D H A B C h V R hv
  have BT := Lib.hid fun V => hs ▸ between_any 1 S 1000 V
  have hS : 1 ≤ S ∧ S ≤ 1000 := by have := inI_iff.1 hs; omega
  have hm : L * D ≤ 160000 := mul_le3 (m := 400) (n := 400) R.l2 (by have := R.dl; have := R.l2; omega)
  have hm2 : L * D * C ≤ 160000000 := mul_le3 (m := 160000) (n := 1000) hm R.c1.2
  obtain ⟨q1, q2, q3⟩ := lo_le (n := L * D * C) (d := B) R.b1.1
  have q4 := R.b1.2
  have hN : needN L D B C S = upN (loN (L * D * C) B * S) (loD (L * D * C) B * 100) := (needs_same R.b1.1).symm
  rw [hN]
  have k1 : loN (L * D * C) B * S ≤ 160000000000 := mul_le3 (m := 160000000) (n := 1000) (by omega) hS.2
  have k2 : loD (L * D * C) B * 100 ≤ 100000 := by omega
  have e1 := wrap_mul k1 (by omega)
  have e2 : IntKind.i64.wrap (((loD (L * D * C) B : Nat) : Int) * 100) = ((loD (L * D * C) B * 100 : Nat) : Int) := wrap_mul (b := 100) k2 (by omega)
  have e3 : ((loD (L * D * C) B : Nat) : Int) * 100 = ((loD (L * D * C) B * 100 : Nat) : Int) := by omega
  have RU := Lib.hid fun V => roundedUp_any (loN (L * D * C) B * S) (loD (L * D * C) B * 100) V (by omega) (by omega) (by omega)
  unfold ratV at VA
  unfold roofV at VA ⊢
  generalize upN (loN (L * D * C) B * S) (loD (L * D * C) B * 100) = up at *
  generalize loN (L * D * C) B * S = p1 at *
  generalize loD (L * D * C) B * 100 = p2 at *
  generalize loN (L * D * C) B = r1 at *
  generalize loD (L * D * C) B = r2 at *
  clear hv R hs hN
  go_enter Try.func16, Try.ntmps16
  go_wp2_with (first | (go_at_call 6; with_reducible refine Calls.mono (Gives.calls (VA.out _)) ?_; rintro e w1 ⟨rfl, z, rfl⟩) | (go_at_call 37; with_reducible refine Calls.mono (Gives.calls (BT.out _)) ?_; rintro e w1 ⟨rfl, z2, rfl⟩) | (go_at_call 35; with_reducible refine Calls.mono (Gives.calls (RU.out _)) ?_; rintro e w1 ⟨rfl, z3, rfl⟩))
  go_ret2
  exact ⟨rfl, later_of (by repeat (first | exact Below.refl _ _ | (with_reducible assumption) | apply below_later | apply below_alloc | apply below_drew | apply below_drewN))⟩
set_option maxRecDepth 100000 in
set_option maxHeartbeats 1600000 in
theorem rNeeds_ok (L D H A B C : Nat) (h : Bool) (S : Nat) (w : World) (R : Rf L D H A B C) (hv : okRoof L D A B C = true) (hs : inI 1 S 1000 = true) :
    Gives Try.prog 17 #[roofV L D A B C h, .int .i64 S] w (.tuple #[.int .i64 (needN L D B C S : Nat), .int .i64 0]) := by
  have VA := Lib.hid fun V => hv ▸ rValidRoof_any L D A B C h V
  have BT := Lib.hid fun V => hs ▸ rfrom_any 1 S 1000 V
  have hS : 1 ≤ S ∧ S ≤ 1000 := by have := inI_iff.1 hs; omega
  have hm : L * D ≤ 160000 := mul_le3 (m := 400) (n := 400) R.l2 (by have := R.dl; have := R.l2; omega)
  have hm2 : L * D * C ≤ 160000000 := mul_le3 (m := 160000) (n := 1000) hm R.c1.2
  have hm3 : L * D * C * S ≤ 160000000000 := mul_le3 (m := 160000000) (n := 1000) hm2 hS.2
  have q4 := R.b1
  have e0 := wrap_mul hm (by omega)
  have e1 := wrap_mul hm2 (by omega)
  have e2 := wrap_mul hm3 (by omega)
  have e3 : IntKind.i64.wrap ((B : Int) * 100) = ((B * 100 : Nat) : Int) := wrap_mul (b := 100) (show B * 100 ≤ 100000 by omega) (by omega)
  have e4 : (B : Int) * 100 = ((B * 100 : Nat) : Int) := by omega
  have RU := Lib.hid fun V => rup_any (L * D * C * S) (B * 100) V (by omega) (by omega) (by omega)
  unfold needN
  unfold roofV at VA ⊢
  generalize upN (L * D * C * S) (B * 100) = up at *
  generalize L * D * C * S = p3 at *
  generalize L * D * C = p2 at *
  generalize L * D = p1 at *
  generalize B * 100 = p4 at *
  clear hv R hs
  go_enter Try.func17, Try.ntmps17
  go_wp2_with (first
    | ((go_at_call 9; with_reducible refine Calls.mono (Gives.calls (VA.out _)) ?_; rintro e w1 ⟨rfl, z, rfl⟩); obtain ⟨⟨x0, x1, x2, x3, x4, x5⟩, lx⟩ := roof_at (w := w) (V := z.val) (l := L) (d := D) (a := A) (b := B) (c := C) (h := h) (by repeat (first | exact Below.refl _ _ | (with_reducible assumption) | apply below_later | apply below_alloc | apply below_drew | apply below_drewN)))
    | ((go_at_call 32; with_reducible refine Calls.mono (Gives.calls (BT.out _)) ?_; rintro e w1 ⟨rfl, z2, rfl⟩); obtain ⟨⟨x0, x1, x2, x3, x4, x5⟩, lx⟩ := roof_at (w := w) (V := z2.val) (l := L) (d := D) (a := A) (b := B) (c := C) (h := h) (by repeat (first | exact Below.refl _ _ | (with_reducible assumption) | apply below_later | apply below_alloc | apply below_drew | apply below_drewN)))
    | (go_at_call 36; with_reducible refine Calls.mono (Gives.calls (RU.out _)) ?_; rintro e w1 ⟨rfl, z3, rfl⟩))
  go_ret2
  exact ⟨rfl, later_of (by repeat (first | exact Below.refl _ _ | (with_reducible assumption) | apply below_later | apply below_alloc | apply below_drew | apply below_drewN))⟩
end Go.Proofs.Ytcjahpbbkdkbpaa
