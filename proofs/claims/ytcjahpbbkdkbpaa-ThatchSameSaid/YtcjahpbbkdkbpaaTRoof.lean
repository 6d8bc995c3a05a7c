/- Which pitches and roofs are valid: walked, of the program and of the document. -/
import Derived.Test.YtcjahpbbkdkbpaaTNum
namespace Go.Proofs.Ytcjahpbbkdkbpaa
open Go.RowKit

def pitV (a b c : Int) : Value := .agg #[.int .i64 a, .int .i64 b, .int .i64 c]
def okPit (a b c : Int) : Bool := (inI 1 a 1000 && inI 1 b 1000) && inI 1 c 1000 && decide (a * a + b * b = c * c)
theorem okPit_iff {a b c : Int} : okPit a b c = true ↔ (1 ≤ a ∧ a ≤ 1000) ∧ (1 ≤ b ∧ b ≤ 1000) ∧ (1 ≤ c ∧ c ≤ 1000) ∧ a * a + b * b = c * c := by
  simp only [okPit, Bool.and_eq_true, inI_iff, decide_eq_true_eq]
  constructor
  · rintro ⟨⟨⟨h1, h2⟩, h3⟩, h4⟩; exact ⟨h1, h2, h3, h4⟩
  · rintro ⟨h1, h2, h3, h4⟩; exact ⟨⟨⟨h1, h2⟩, h3⟩, h4⟩
theorem sq_bd {a : Int} (h0 : 1 ≤ a) (h1 : a ≤ 1000) : 1 ≤ a * a ∧ a * a ≤ 1000000 := by
  have h2 := (mul_bd (a := a) (b := a) 1000 1000 (by omega) h1 (by omega) h1).2
  have h3 := Int.mul_le_mul h0 h0 (by omega) (by omega : (0 : Int) ≤ a)
  omega
theorem box_at {w V : World} {cs : Array Value} {t : TypeId} (hb : Below (w.alloc (.cells cs t)).heap.size (w.alloc (.cells cs t)) V) (i : Nat) (v : Value) (h : cs[i]? = some v) : V.cell? ⟨w.heap.size, i, none⟩ = some v :=
  cell_of_heap (res_cell hb) i v h
theorem pit_at {w V : World} {a b c : Int} (hb : Below (w.alloc (.cells #[.int .i64 a, .int .i64 b, .int .i64 c] 23)).heap.size (w.alloc (.cells #[.int .i64 a, .int .i64 b, .int .i64 c] 23)) V) :
    V.cell? ⟨w.heap.size, 0, none⟩ = some (.int .i64 a) ∧ V.cell? ⟨w.heap.size, 1, none⟩ = some (.int .i64 b) ∧ V.cell? ⟨w.heap.size, 2, none⟩ = some (.int .i64 c) :=
  ⟨box_at hb 0 _ rfl, box_at hb 1 _ rfl, box_at hb 2 _ rfl⟩
set_option maxRecDepth 100000 in
set_option maxHeartbeats 1600000 in
theorem ValidPitch_any (a b c : Int) (w : World) : Gives Try.prog 31 #[pitV a b c] w (.bool (okPit a b c)) := by
  have B1 := Lib.hid fun V => between_any 1 a 1000 V
  have B2 := Lib.hid fun V => between_any 1 b 1000 V
  have B3 := Lib.hid fun V => between_any 1 c 1000 V
  have HE : Hid (okPit a b c = ((inI 1 a 1000 && inI 1 b 1000) && inI 1 c 1000 && decide (a * a + b * b = c * c))) := rfl
  have HV : Hid (((inI 1 a 1000 && inI 1 b 1000) && inI 1 c 1000) = true → ((1 ≤ a ∧ a ≤ 1000) ∧ (1 ≤ b ∧ b ≤ 1000)) ∧ (1 ≤ c ∧ c ≤ 1000)) := fun h => by simpa only [Bool.and_eq_true, inI_iff] using h
  unfold pitV
  generalize okPit a b c = res at *
  generalize inI 1 a 1000 = r1 at *
  generalize inI 1 b 1000 = r2 at *
  generalize inI 1 c 1000 = r3 at *
  cases r1
  · go_enter Try.func31, Try.ntmps31
    go_wp2_with (first | (go_at_call 37; with_reducible refine Calls.mono (Gives.calls (B1.out _)) ?_; rintro e w1 ⟨rfl, z1, rfl⟩) | (go_at_call 37; with_reducible refine Calls.mono (Gives.calls (B2.out _)) ?_; rintro e w1 ⟨rfl, z2, rfl⟩) | (go_at_call 37; with_reducible refine Calls.mono (Gives.calls (B3.out _)) ?_; rintro e w1 ⟨rfl, z3, rfl⟩))
    go_ret
    exact ⟨ret_bool (by rw [HE.out]; rfl), later_of (by repeat (first | exact Below.refl _ _ | (with_reducible assumption) | apply below_later | apply below_alloc | apply below_drew | apply below_drewN))⟩
  cases r2
  · go_enter Try.func31, Try.ntmps31
    go_wp2_with (first | (go_at_call 37; with_reducible refine Calls.mono (Gives.calls (B1.out _)) ?_; rintro e w1 ⟨rfl, z1, rfl⟩) | (go_at_call 37; with_reducible refine Calls.mono (Gives.calls (B2.out _)) ?_; rintro e w1 ⟨rfl, z2, rfl⟩) | (go_at_call 37; with_reducible refine Calls.mono (Gives.calls (B3.out _)) ?_; rintro e w1 ⟨rfl, z3, rfl⟩))
    go_ret
    exact ⟨ret_bool (by rw [HE.out]; rfl), later_of (by repeat (first | exact Below.refl _ _ | (with_reducible assumption) | apply below_later | apply below_alloc | apply below_drew | apply below_drewN))⟩
  cases r3
  · go_enter Try.func31, Try.ntmps31
    go_wp2_with (first | (go_at_call 37; with_reducible refine Calls.mono (Gives.calls (B1.out _)) ?_; rintro e w1 ⟨rfl, z1, rfl⟩) | (go_at_call 37; with_reducible refine Calls.mono (Gives.calls (B2.out _)) ?_; rintro e w1 ⟨rfl, z2, rfl⟩) | (go_at_call 37; with_reducible refine Calls.mono (Gives.calls (B3.out _)) ?_; rintro e w1 ⟨rfl, z3, rfl⟩))
    go_ret
    exact ⟨ret_bool (by rw [HE.out]; rfl), later_of (by repeat (first | exact Below.refl _ _ | (with_reducible assumption) | apply below_later | apply below_alloc | apply below_drew | apply below_drewN))⟩
  obtain ⟨⟨⟨a0, a1⟩, b0, b1⟩, c0, c1⟩ := HV.out rfl
  obtain ⟨a2, a3⟩ := sq_bd a0 a1
  obtain ⟨b2, b3⟩ := sq_bd b0 b1
  obtain ⟨c2, c3⟩ := sq_bd c0 c1
  go_enter Try.func31, Try.ntmps31
  go_wp2_with (first | (go_at_call 37; with_reducible refine Calls.mono (Gives.calls (B1.out _)) ?_; rintro e w1 ⟨rfl, z1, rfl⟩) | (go_at_call 37; with_reducible refine Calls.mono (Gives.calls (B2.out _)) ?_; rintro e w1 ⟨rfl, z2, rfl⟩) | ((go_at_call 37; with_reducible refine Calls.mono (Gives.calls (B3.out _)) ?_; rintro e w1 ⟨rfl, z3, rfl⟩); obtain ⟨x0, x1, x2⟩ := pit_at (w := w) (V := z3.val) (a := a) (b := b) (c := c) (by repeat (first | exact Below.refl _ _ | (with_reducible assumption) | apply below_later | apply below_alloc | apply below_drew | apply below_drewN))))
  go_ret
  exact ⟨ret_bool (by rw [HE.out]; rfl), later_of (by repeat (first | exact Below.refl _ _ | (with_reducible assumption) | apply below_later | apply below_alloc | apply below_drew | apply below_drewN))⟩
set_option maxRecDepth 100000 in
set_option maxHeartbeats 1600000 in
theorem rValidPitch_any (a b c : Int) (w : World) : Gives Try.prog 33 #[pitV a b c] w (.bool (okPit a b c)) := by
  have B1 := Lib.hid fun V => rfrom_any 1 a 1000 V
  have B2 := Lib.hid fun V => rfrom_any 1 b 1000 V
  have B3 := Lib.hid fun V => rfrom_any 1 c 1000 V
  have HE : Hid (okPit a b c = ((inI 1 a 1000 && inI 1 b 1000) && inI 1 c 1000 && decide (a * a + b * b = c * c))) := rfl
  have HV : Hid (((inI 1 a 1000 && inI 1 b 1000) && inI 1 c 1000) = true → ((1 ≤ a ∧ a ≤ 1000) ∧ (1 ≤ b ∧ b ≤ 1000)) ∧ (1 ≤ c ∧ c ≤ 1000)) := fun h => by simpa only [Bool.and_eq_true, inI_iff] using h
  unfold pitV
  generalize okPit a b c = res at *
  generalize inI 1 a 1000 = r1 at *
  generalize inI 1 b 1000 = r2 at *
  generalize inI 1 c 1000 = r3 at *
  cases r1
  · go_enter Try.func33, Try.ntmps33
    go_wp2_with (first | (go_at_call 32; with_reducible refine Calls.mono (Gives.calls (B1.out _)) ?_; rintro e w1 ⟨rfl, z1, rfl⟩) | (go_at_call 32; with_reducible refine Calls.mono (Gives.calls (B2.out _)) ?_; rintro e w1 ⟨rfl, z2, rfl⟩) | (go_at_call 32; with_reducible refine Calls.mono (Gives.calls (B3.out _)) ?_; rintro e w1 ⟨rfl, z3, rfl⟩))
    go_ret
    exact ⟨ret_bool (by rw [HE.out]; rfl), later_of (by repeat (first | exact Below.refl _ _ | (with_reducible assumption) | apply below_later | apply below_alloc | apply below_drew | apply below_drewN))⟩
  cases r2
  · go_enter Try.func33, Try.ntmps33
    go_wp2_with (first | (go_at_call 32; with_reducible refine Calls.mono (Gives.calls (B1.out _)) ?_; rintro e w1 ⟨rfl, z1, rfl⟩) | (go_at_call 32; with_reducible refine Calls.mono (Gives.calls (B2.out _)) ?_; rintro e w1 ⟨rfl, z2, rfl⟩) | (go_at_call 32; with_reducible refine Calls.mono (Gives.calls (B3.out _)) ?_; rintro e w1 ⟨rfl, z3, rfl⟩))
    go_ret
    exact ⟨ret_bool (by rw [HE.out]; rfl), later_of (by repeat (first | exact Below.refl _ _ | (with_reducible assumption) | apply below_later | apply below_alloc | apply below_drew | apply below_drewN))⟩
  cases r3
  · go_enter Try.func33, Try.ntmps33
    go_wp2_with (first | (go_at_call 32; with_reducible refine Calls.mono (Gives.calls (B1.out _)) ?_; rintro e w1 ⟨rfl, z1, rfl⟩) | (go_at_call 32; with_reducible refine Calls.mono (Gives.calls (B2.out _)) ?_; rintro e w1 ⟨rfl, z2, rfl⟩) | (go_at_call 32; with_reducible refine Calls.mono (Gives.calls (B3.out _)) ?_; rintro e w1 ⟨rfl, z3, rfl⟩))
    go_ret
    exact ⟨ret_bool (by rw [HE.out]; rfl), later_of (by repeat (first | exact Below.refl _ _ | (with_reducible assumption) | apply below_later | apply below_alloc | apply below_drew | apply below_drewN))⟩
  obtain ⟨⟨⟨a0, a1⟩, b0, b1⟩, c0, c1⟩ := HV.out rfl
  obtain ⟨a2, a3⟩ := sq_bd a0 a1
  obtain ⟨b2, b3⟩ := sq_bd b0 b1
  obtain ⟨c2, c3⟩ := sq_bd c0 c1
  go_enter Try.func33, Try.ntmps33
  go_wp2_with (first | (go_at_call 32; with_reducible refine Calls.mono (Gives.calls (B1.out _)) ?_; rintro e w1 ⟨rfl, z1, rfl⟩) | (go_at_call 32; with_reducible refine Calls.mono (Gives.calls (B2.out _)) ?_; rintro e w1 ⟨rfl, z2, rfl⟩) | ((go_at_call 32; with_reducible refine Calls.mono (Gives.calls (B3.out _)) ?_; rintro e w1 ⟨rfl, z3, rfl⟩); obtain ⟨x0, x1, x2⟩ := pit_at (w := w) (V := z3.val) (a := a) (b := b) (c := c) (by repeat (first | exact Below.refl _ _ | (with_reducible assumption) | apply below_later | apply below_alloc | apply below_drew | apply below_drewN))))
  go_ret
  exact ⟨ret_bool (by rw [HE.out]; rfl), later_of (by repeat (first | exact Below.refl _ _ | (with_reducible assumption) | apply below_later | apply below_alloc | apply below_drew | apply below_drewN))⟩
/-- Is a length of a roof even, and within its bounds? -/
def okLen (x : Int) : Bool := inI 2 x 400 && decide (x.tmod 2 = 0)
theorem isFeet_any (x : Int) (w : World) : Gives Try.prog 30 #[.int .i64 x] w (.bool (okLen x)) := by
  have B1 := Lib.hid fun V => between_any 2 x 400 V
  have HE : Hid (okLen x = (inI 2 x 400 && decide (x.tmod 2 = 0))) := rfl
  have HV : Hid (inI 2 x 400 = true → 2 ≤ x ∧ x ≤ 400) := fun h => inI_iff.1 h
  generalize okLen x = res at *
  generalize inI 2 x 400 = r1 at *
  cases r1
  · go_enter Try.func30, Try.ntmps30
    go_wp2_with (go_at_call 37; with_reducible refine Calls.mono (Gives.calls (B1.out _)) ?_; rintro e w1 ⟨rfl, z1, rfl⟩)
    go_ret
    exact ⟨ret_bool (by rw [HE.out]; rfl), later_of (by repeat (first | exact Below.refl _ _ | (with_reducible assumption) | apply below_later | apply below_alloc | apply below_drew | apply below_drewN))⟩
  obtain ⟨h0, h1⟩ := HV.out rfl
  go_enter Try.func30, Try.ntmps30
  go_wp2_with (go_at_call 37; with_reducible refine Calls.mono (Gives.calls (B1.out _)) ?_; rintro e w1 ⟨rfl, z1, rfl⟩)
  go_ret
  exact ⟨ret_bool (by rw [HE.out, Int.tmod_eq_emod_of_nonneg (by omega)]; rfl), later_of (by repeat (first | exact Below.refl _ _ | (with_reducible assumption) | apply below_later | apply below_alloc | apply below_drew | apply below_drewN))⟩
/-- Is a roof as described? -/
def okRoof (l d a b c : Int) : Bool := ((okLen l && okLen d) && decide (d ≤ l)) && okPit a b c
def roofV (l d a b c : Int) (h : Bool) : Value := .agg #[.int .i64 l, .int .i64 d, .int .i64 a, .int .i64 b, .int .i64 c, .bool h]
set_option maxRecDepth 100000 in
set_option maxHeartbeats 1600000 in
theorem ValidRoof_any (l d a b c : Int) (h : Bool) (w : World) : Gives Try.prog 8 #[roofV l d a b c h] w (.bool (okRoof l d a b c)) := by
  have B1 := Lib.hid fun V => isFeet_any l V
  have B2 := Lib.hid fun V => isFeet_any d V
  have B3 := Lib.hid fun V => ValidPitch_any a b c V
  have HE : Hid (okRoof l d a b c = (((okLen l && okLen d) && decide (d ≤ l)) && okPit a b c)) := rfl
  unfold pitV at B3
  unfold roofV
  generalize okRoof l d a b c = res at *
  generalize okLen l = r1 at *
  generalize okLen d = r2 at *
  generalize okPit a b c = r3 at *
  cases r1
  · go_enter Try.func8, Try.ntmps8
    go_wp2_with (first | (go_at_call 30; with_reducible refine Calls.mono (Gives.calls (B1.out _)) ?_; rintro e w1 ⟨rfl, z1, rfl⟩) | (go_at_call 30; with_reducible refine Calls.mono (Gives.calls (B2.out _)) ?_; rintro e w1 ⟨rfl, z2, rfl⟩) | (go_at_call 31; with_reducible refine Calls.mono (Gives.calls (B3.out _)) ?_; rintro e w1 ⟨rfl, z3, rfl⟩))
    go_ret
    exact ⟨ret_bool (by rw [HE.out]; rfl), later_of (by repeat (first | exact Below.refl _ _ | (with_reducible assumption) | apply below_later | apply below_alloc | apply below_drew | apply below_drewN))⟩
  cases r2
  · go_enter Try.func8, Try.ntmps8
    go_wp2_with (first | (go_at_call 30; with_reducible refine Calls.mono (Gives.calls (B1.out _)) ?_; rintro e w1 ⟨rfl, z1, rfl⟩) | (go_at_call 30; with_reducible refine Calls.mono (Gives.calls (B2.out _)) ?_; rintro e w1 ⟨rfl, z2, rfl⟩) | (go_at_call 31; with_reducible refine Calls.mono (Gives.calls (B3.out _)) ?_; rintro e w1 ⟨rfl, z3, rfl⟩))
    go_ret
    exact ⟨ret_bool (by rw [HE.out]; rfl), later_of (by repeat (first | exact Below.refl _ _ | (with_reducible assumption) | apply below_later | apply below_alloc | apply below_drew | apply below_drewN))⟩
  by_cases hd : d ≤ l
  · go_enter Try.func8, Try.ntmps8
    go_wp2_with (first | (go_at_call 30; with_reducible refine Calls.mono (Gives.calls (B1.out _)) ?_; rintro e w1 ⟨rfl, z1, rfl⟩) | (go_at_call 30; with_reducible refine Calls.mono (Gives.calls (B2.out _)) ?_; rintro e w1 ⟨rfl, z2, rfl⟩) | (go_at_call 31; with_reducible refine Calls.mono (Gives.calls (B3.out _)) ?_; rintro e w1 ⟨rfl, z3, rfl⟩))
    go_ret
    exact ⟨ret_bool (by rw [HE.out, decide_eq_true hd]; simp), later_of (by repeat (first | exact Below.refl _ _ | (with_reducible assumption) | apply below_later | apply below_alloc | apply below_drew | apply below_drewN))⟩
  · go_enter Try.func8, Try.ntmps8
    go_wp2_with (first | (go_at_call 30; with_reducible refine Calls.mono (Gives.calls (B1.out _)) ?_; rintro e w1 ⟨rfl, z1, rfl⟩) | (go_at_call 30; with_reducible refine Calls.mono (Gives.calls (B2.out _)) ?_; rintro e w1 ⟨rfl, z2, rfl⟩) | (go_at_call 31; with_reducible refine Calls.mono (Gives.calls (B3.out _)) ?_; rintro e w1 ⟨rfl, z3, rfl⟩))
    go_ret
    exact ⟨ret_bool (by rw [HE.out, decide_eq_false (by omega : ¬ d ≤ l)]; simp), later_of (by repeat (first | exact Below.refl _ _ | (with_reducible assumption) | apply below_later | apply below_alloc | apply below_drew | apply below_drewN))⟩
set_option maxRecDepth 100000 in
set_option maxHeartbeats 1600000 in
theorem rValidRoof_any (l d a b c : Int) (h : Bool) (w : World) : Gives Try.prog 9 #[roofV l d a b c h] w (.bool (okRoof l d a b c)) := by
  have B1 := Lib.hid fun V => rfrom_any 2 l 400 V
  have B2 := Lib.hid fun V => rfrom_any 2 d 400 V
  have B3 := Lib.hid fun V => rValidPitch_any a b c V
  have HE : Hid (okRoof l d a b c = ((((inI 2 l 400 && decide (l.tmod 2 = 0)) && (inI 2 d 400 && decide (d.tmod 2 = 0))) && decide (d ≤ l)) && okPit a b c)) := rfl
  have HV1 : Hid (inI 2 l 400 = true → 2 ≤ l ∧ l ≤ 400) := fun h => inI_iff.1 h
  have HV2 : Hid (inI 2 d 400 = true → 2 ≤ d ∧ d ≤ 400) := fun h => inI_iff.1 h
  unfold pitV at B3
  unfold roofV
  generalize okRoof l d a b c = res at *
  generalize inI 2 l 400 = r1 at *
  generalize inI 2 d 400 = r2 at *
  generalize okPit a b c = r3 at *
  cases r1
  · go_enter Try.func9, Try.ntmps9
    go_wp2_with (first | (go_at_call 32; with_reducible refine Calls.mono (Gives.calls (B1.out _)) ?_; rintro e w1 ⟨rfl, z1, rfl⟩) | (go_at_call 32; with_reducible refine Calls.mono (Gives.calls (B2.out _)) ?_; rintro e w1 ⟨rfl, z2, rfl⟩) | (go_at_call 33; with_reducible refine Calls.mono (Gives.calls (B3.out _)) ?_; rintro e w1 ⟨rfl, z3, rfl⟩))
    go_ret
    exact ⟨ret_bool (by rw [HE.out]; simp), later_of (by repeat (first | exact Below.refl _ _ | (with_reducible assumption) | apply below_later | apply below_alloc | apply below_drew | apply below_drewN))⟩
  cases r2
  · go_enter Try.func9, Try.ntmps9
    go_wp2_with (first | (go_at_call 32; with_reducible refine Calls.mono (Gives.calls (B1.out _)) ?_; rintro e w1 ⟨rfl, z1, rfl⟩) | (go_at_call 32; with_reducible refine Calls.mono (Gives.calls (B2.out _)) ?_; rintro e w1 ⟨rfl, z2, rfl⟩) | (go_at_call 33; with_reducible refine Calls.mono (Gives.calls (B3.out _)) ?_; rintro e w1 ⟨rfl, z3, rfl⟩))
    go_ret
    exact ⟨ret_bool (by rw [HE.out]; simp), later_of (by repeat (first | exact Below.refl _ _ | (with_reducible assumption) | apply below_later | apply below_alloc | apply below_drew | apply below_drewN))⟩
  obtain ⟨l0, l1⟩ := HV1.out rfl
  obtain ⟨d0, d1⟩ := HV2.out rfl
  rw [Int.tmod_eq_emod_of_nonneg (by omega), Int.tmod_eq_emod_of_nonneg (by omega)] at HE
  by_cases m1 : l % 2 = 0
  · by_cases m2 : d % 2 = 0
    · by_cases hd : d ≤ l
      · go_enter Try.func9, Try.ntmps9
        go_wp2_with (first | (go_at_call 32; with_reducible refine Calls.mono (Gives.calls (B1.out _)) ?_; rintro e w1 ⟨rfl, z1, rfl⟩) | (go_at_call 32; with_reducible refine Calls.mono (Gives.calls (B2.out _)) ?_; rintro e w1 ⟨rfl, z2, rfl⟩) | (go_at_call 33; with_reducible refine Calls.mono (Gives.calls (B3.out _)) ?_; rintro e w1 ⟨rfl, z3, rfl⟩))
        go_ret
        exact ⟨ret_bool (by rw [HE.out, decide_eq_true hd, decide_eq_true m1, decide_eq_true m2]; simp), later_of (by repeat (first | exact Below.refl _ _ | (with_reducible assumption) | apply below_later | apply below_alloc | apply below_drew | apply below_drewN))⟩
      · go_enter Try.func9, Try.ntmps9
        go_wp2_with (first | (go_at_call 32; with_reducible refine Calls.mono (Gives.calls (B1.out _)) ?_; rintro e w1 ⟨rfl, z1, rfl⟩) | (go_at_call 32; with_reducible refine Calls.mono (Gives.calls (B2.out _)) ?_; rintro e w1 ⟨rfl, z2, rfl⟩) | (go_at_call 33; with_reducible refine Calls.mono (Gives.calls (B3.out _)) ?_; rintro e w1 ⟨rfl, z3, rfl⟩))
        go_ret
        exact ⟨ret_bool (by rw [HE.out, decide_eq_false (by omega : ¬ d ≤ l)]; simp), later_of (by repeat (first | exact Below.refl _ _ | (with_reducible assumption) | apply below_later | apply below_alloc | apply below_drew | apply below_drewN))⟩
    · have e2 : (d % 2 == 0) = false := by simp; omega
      go_enter Try.func9, Try.ntmps9
      go_wp2_with (first | (go_at_call 32; with_reducible refine Calls.mono (Gives.calls (B1.out _)) ?_; rintro e w1 ⟨rfl, z1, rfl⟩) | (go_at_call 32; with_reducible refine Calls.mono (Gives.calls (B2.out _)) ?_; rintro e w1 ⟨rfl, z2, rfl⟩) | (go_at_call 33; with_reducible refine Calls.mono (Gives.calls (B3.out _)) ?_; rintro e w1 ⟨rfl, z3, rfl⟩))
      go_ret
      exact ⟨ret_bool (by rw [HE.out, decide_eq_false m2]; simp), later_of (by repeat (first | exact Below.refl _ _ | (with_reducible assumption) | apply below_later | apply below_alloc | apply below_drew | apply below_drewN))⟩
  · have e2 : (l % 2 == 0) = false := by simp; omega
    go_enter Try.func9, Try.ntmps9
    go_wp2_with (first | (go_at_call 32; with_reducible refine Calls.mono (Gives.calls (B1.out _)) ?_; rintro e w1 ⟨rfl, z1, rfl⟩) | (go_at_call 32; with_reducible refine Calls.mono (Gives.calls (B2.out _)) ?_; rintro e w1 ⟨rfl, z2, rfl⟩) | (go_at_call 33; with_reducible refine Calls.mono (Gives.calls (B3.out _)) ?_; rintro e w1 ⟨rfl, z3, rfl⟩))
    go_ret
    exact ⟨ret_bool (by rw [HE.out, decide_eq_false m1]; simp), later_of (by repeat (first | exact Below.refl _ _ | (with_reducible assumption) | apply below_later | apply below_alloc | apply below_drew | apply below_drewN))⟩
end Go.Proofs.Ytcjahpbbkdkbpaa
