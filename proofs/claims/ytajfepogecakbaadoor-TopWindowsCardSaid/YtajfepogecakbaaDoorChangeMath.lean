/- What spreading, mowing, mirroring and turning leave as it was: a map stays valid, its water stays, and how its reed is counted. -/
import Derived.Test.YtajfepogecakbaaDoorWinMath
import Derived.Test.YtajfepogecakbaaDoorGrowthLaw
import Derived.Test.YtajfepogecakbaaDoorCounts
namespace Go.Proofs.YtajfepogecakbaaDoor

theorem kind_num (n : Nat) (f : Nat → Int) (k : Int) : kindN n f k = num n fun i => f i = k := by
  unfold kindN cntB num
  congr 1
  exact List.filter_congr fun i _ => by simp
theorem kind_le {n : Nat} {f g : Nat → Int} {k : Int} (h : ∀ i, i < n → f i = k → g i = k) : kindN n f k ≤ kindN n g k := by
  rw [kind_num, kind_num]
  exact num_le (fun a b => a = b) (fun a ha hp => ⟨a, ha, h a ha hp, rfl⟩) fun a a' b _ _ _ _ h1 h2 => h1.trans h2.symm
theorem kind_perm {n : Nat} {f : Nat → Int} {k : Int} (s t : Nat → Nat) (hs : ∀ i, i < n → s i < n) (ht : ∀ i, i < n → t i < n) (hst : ∀ i, i < n → s (t i) = i) (hts : ∀ i, i < n → t (s i) = i) : kindN n (fun i => f (s i)) k = kindN n f k := by
  rw [kind_num, kind_num]
  refine Nat.le_antisymm ?_ ?_
  · exact num_le (fun a b => b = s a) (fun a ha hp => ⟨s a, hs a ha, hp, rfl⟩) fun a a' b ha ha' _ _ h1 h2 => by rw [← hts a ha, ← hts a' ha', ← h1, ← h2]
  · exact num_le (fun a b => b = t a) (fun a ha hp => ⟨t a, ht a ha, by rw [hst a ha]; exact hp, rfl⟩) fun a a' b ha ha' _ _ h1 h2 => by rw [← hst a ha, ← hst a' ha', ← h1, ← h2]
theorem flip_flip {W H i : Nat} (hW : 1 ≤ W) (hi : i < W * H) : flipAt W (flipAt W i) = i := by
  have hc := col_lt hi
  have he := cell_eq (W := W) i
  unfold flipAt
  rw [cell_x (show W - 1 - i % W < W by omega), cell_y (show W - 1 - i % W < W by omega)]
  omega
/-- The square that comes to be square i of the map that is turned .. the other way. -/
def turnBack (W H i : Nat) : Nat := i % W * H + (H - 1 - i / W)
theorem turnBack_lt {W H i : Nat} (_hW : 1 ≤ W) (hi : i < W * H) : turnBack W H i < H * W := by
  have hr := row_lt hi
  have hc := col_lt hi
  unfold turnBack
  generalize i / W = q at *
  generalize i % W = c at *
  exact cell_lt (W := H) (H := W) (x := H - 1 - q) (y := c) (by omega) hc
theorem turn_back {W H i : Nat} (hi : i < W * H) : turnAt W H (turnBack W H i) = i := by
  have hr := row_lt hi
  have he := cell_eq (W := W) i
  unfold turnAt turnBack
  generalize i / W = q at *
  generalize i % W = c at *
  rw [cell_x (show H - 1 - q < H by omega), cell_y (show H - 1 - q < H by omega), show H - 1 - (H - 1 - q) = q by omega]
  exact he
theorem back_turn {W H i : Nat} (hi : i < H * W) : turnBack W H (turnAt W H i) = i := by
  have hr := row_lt hi
  have hc := col_lt hi
  have he := cell_eq (W := H) i
  unfold turnAt turnBack
  generalize i / H = q at *
  generalize i % H = c at *
  rw [cell_x hr, cell_y hr, show H - 1 - (H - 1 - c) = c by omega]
  exact he

/-- What a change, by its kind, makes of a map. -/
def chW (k W H : Nat) : Nat := if k = 3 then H else W
def chH (k W H : Nat) : Nat := if k = 3 then W else H
def chF (k W H : Nat) (f : Nat → Int) : Nat → Int := if k = 0 then spreadF W H f else if k = 1 then mowF W H f else if k = 2 then fun i => f (flipAt W i) else fun i => f (turnAt W H i)
theorem ch_size {k W H : Nat} : chW k W H * chH k W H = W * H := by
  unfold chW chH
  by_cases h : k = 3
  · rw [if_pos h, if_pos h, Nat.mul_comm]
  · rw [if_neg h, if_neg h]
theorem kind_four {k : Nat} (hk : k < 4) : k = 0 ∨ k = 1 ∨ k = 2 ∨ k = 3 := by omega
theorem ch_valid {k W H n : Nat} {f : Nat → Int} (hv : validM W H n f = true) : validM (chW k W H : Nat) (chH k W H : Nat) n (fun i => ((List.range n).map (chF k W H f)).getD i 0) = true := by
  obtain ⟨⟨v1, v2⟩, ⟨v3, v4⟩, hn, h4⟩ := validM_iff.1 hv
  have hn' : n = W * H := by rw [← Int.natCast_mul] at hn; omega
  have hs := ch_size (k := k) (W := W) (H := H)
  refine validM_iff.2 ⟨?_, ?_, ?_, fun i hi => ?_⟩
  · unfold chW; split <;> omega
  · unfold chH; split <;> omega
  · rw [← Int.natCast_mul, hs, hn']
  · rw [map_getD _ hi]
    have g := grow_ok W H f i
    unfold growOk at g
    have := h4 i hi
    unfold chF
    split
    · omega
    · split
      · omega
      · split
        · exact h4 _ (hn' ▸ flipAt_lt (by omega) (hn' ▸ hi))
        · exact h4 _ (hn' ▸ turnAt_lt (by omega) (by rw [Nat.mul_comm]; exact hn' ▸ hi))
theorem kind_got (n : Nat) (g : Nat → Int) (k : Int) : kindN n (fun i => ((List.range n).map g).getD i 0) k = kindN n g k :=
  Nat.le_antisymm (kind_le fun i hi h => by rwa [map_getD _ hi] at h) (kind_le fun i hi h => by rwa [map_getD _ hi])
theorem ch_water {k W H n : Nat} {f : Nat → Int} (hv : validM W H n f = true) : kindN n (chF k W H f) 2 = kindN n f 2 := by
  obtain ⟨⟨v1, v2⟩, ⟨v3, v4⟩, hn, h4⟩ := validM_iff.1 hv
  have hn' : n = W * H := by rw [← Int.natCast_mul] at hn; omega
  unfold chF
  split
  · refine Nat.le_antisymm (kind_le fun i hi h => ?_) (kind_le fun i hi h => ?_) <;> (have g := grow_ok W H f i; unfold growOk at g; omega)
  · split
    · refine Nat.le_antisymm (kind_le fun i hi h => ?_) (kind_le fun i hi h => ?_) <;> (have g := grow_ok W H f i; unfold growOk at g; omega)
    · split
      · rw [hn']; exact kind_perm (flipAt W) (flipAt W) (fun i hi => flipAt_lt (by omega) hi) (fun i hi => flipAt_lt (by omega) hi) (fun i hi => flip_flip (by omega) hi) (fun i hi => flip_flip (by omega) hi)
      · rw [hn']; exact kind_perm (turnAt W H) (turnBack W H) (fun i hi => turnAt_lt (by omega) (by rwa [Nat.mul_comm])) (fun i hi => by rw [Nat.mul_comm]; exact turnBack_lt (by omega) hi) (fun i hi => turn_back hi) (fun i hi => back_turn (by rwa [Nat.mul_comm]))
theorem ch_reed {k W H n : Nat} {f : Nat → Int} (hv : validM W H n f = true) : (k = 0 → kindN n f 1 ≤ kindN n (chF k W H f) 1) ∧ (k = 1 → kindN n (chF k W H f) 1 ≤ kindN n f 1) ∧ (k ≠ 0 → k ≠ 1 → kindN n (chF k W H f) 1 = kindN n f 1) := by
  obtain ⟨⟨v1, v2⟩, ⟨v3, v4⟩, hn, h4⟩ := validM_iff.1 hv
  have hn' : n = W * H := by rw [← Int.natCast_mul] at hn; omega
  refine ⟨fun h => ?_, fun h => ?_, fun h h1 => ?_⟩
  · unfold chF
    rw [if_pos h]
    exact kind_le fun i hi q => by have g := grow_ok W H f i; unfold growOk at g; omega
  · unfold chF
    rw [if_neg (by omega), if_pos h]
    exact kind_le fun i hi q => by have g := grow_ok W H f i; unfold growOk at g; omega
  · unfold chF
    rw [if_neg h, if_neg h1]
    split
    · rw [hn']; exact kind_perm (flipAt W) (flipAt W) (fun i hi => flipAt_lt (by omega) hi) (fun i hi => flipAt_lt (by omega) hi) (fun i hi => flip_flip (by omega) hi) (fun i hi => flip_flip (by omega) hi)
    · rw [hn']; exact kind_perm (turnAt W H) (turnBack W H) (fun i hi => turnAt_lt (by omega) (by rwa [Nat.mul_comm])) (fun i hi => by rw [Nat.mul_comm]; exact turnBack_lt (by omega) hi) (fun i hi => turn_back hi) (fun i hi => back_turn (by rwa [Nat.mul_comm]))
end Go.Proofs.YtajfepogecakbaaDoor
