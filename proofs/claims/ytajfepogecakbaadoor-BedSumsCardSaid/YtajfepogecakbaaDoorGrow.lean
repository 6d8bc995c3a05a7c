/- bed.Spread and bed.Mow. -/
import Derived.Test.YtajfepogecakbaaDoorTurn
import Derived.Test.YtajfepogecakbaaDoorReedNear
import Derived.Test.YtajfepogecakbaaDoorGrid
namespace Go.Proofs.YtajfepogecakbaaDoor
open Go.RowKit

/-- What becomes of square i by spreading; by mowing. -/
def spreadF (W H : Nat) (f : Nat → Int) (i : Nat) : Int := if (f i = 3 ∨ f i = 4) ∧ 2 ≤ reedsN W H f i then 1 else f i
def mowF (W H : Nat) (f : Nat → Int) (i : Nat) : Int := if f i = 1 ∧ reedsN W H f i ≤ 1 then 4 else f i
theorem place_at (W i : Nat) : (i : Int) / (W : Int) * (W : Int) + (i : Int) % (W : Int) = (i : Int) := by
  have := Int.mul_ediv_add_emod (i : Int) (W : Int)
  rw [Int.mul_comm] at this
  exact this
theorem reedsN_le (W H : Nat) (f : Nat → Int) (i : Nat) : reedsN W H f i ≤ 9 := Nat.le_trans (List.length_filter_le _ _) (nbrs_len W H i)

set_option maxRecDepth 100000 in
set_option maxHeartbeats 1600000 in
theorem spread1_any (W H b off n cap bm i : Nat) (f : Nat → Int) (w : World) (hW1 : 1 ≤ W) (hW : W ≤ 30) (hH : H ≤ 30) (hn : n = W * H) (hi : i < W * H) (p : Ints w b off n f)
    (c0 : w.cell? ⟨bm, 0, none⟩ = some (.int .i64 W)) (c1 : w.cell? ⟨bm, 1, none⟩ = some (.int .i64 H)) (c2 : w.cell? ⟨bm, 2, none⟩ = some (.slice (some ⟨b, off, none⟩) n cap)) :
    Gives Tryd.prog 84 #[.int .i64 ((i : Int) % (W : Int)), .int .i64 ((i : Int) / (W : Int)), .pointer (some ⟨bm, 0, none⟩)] w (.int .i64 (spreadF W H f i)) := by
  have lm := World.block_lt_of_cell? _ _ c0
  have lb := p.lt
  have h9 : W * H ≤ 900 := Nat.mul_le_mul hW hH
  have b1 : (i : Int) % (W : Int) < 30 := by have := Int.emod_lt_of_pos (i : Int) (show (0 : Int) < W by omega); omega
  have b2 : 0 ≤ (i : Int) % (W : Int) := Int.emod_nonneg _ (by omega)
  have b3 : (i : Int) / (W : Int) < 900 := by
    have := Int.ediv_le_self (W : Int) (show 0 ≤ (i : Int) by omega)
    omega
  have b4 : 0 ≤ (i : Int) / (W : Int) := Int.ediv_nonneg (by omega) (by omega)
  have e := place_at W i
  have e8 : 0 ≤ (i : Int) / (W : Int) * (W : Int) := Int.mul_nonneg b4 (by omega)
  have e9 : (i : Int) / (W : Int) * (W : Int) ≤ 900 := by omega
  have c := p.at_ i (by omega)
  have t0 : 0 ≤ (i : Int) / (W : Int) * (W : Int) + (i : Int) % (W : Int) := by omega
  have t1 : (i : Int) / (W : Int) * (W : Int) + (i : Int) % (W : Int) < (n : Int) := by omega
  have tn : ((i : Int) / (W : Int) * (W : Int) + (i : Int) % (W : Int)).toNat = i := by omega
  have RN : Hid (∀ w', Ints w' b off n f → Gives Tryd.prog 72 #[.agg #[.int .i64 W, .int .i64 H, .slice (some ⟨b, off, none⟩) n cap], .int .i64 ((i : Int) / (W : Int) * (W : Int) + (i : Int) % (W : Int))] w' (.int .i64 ((reedsN W H f i : Nat) : Int))) := fun w' h => by
    rw [e]; exact reedNear_any W H i n cap b off f w' hW1 hW hH hn hi h
  have HR : Hid (spreadF W H f i = spreadF W H f i) := rfl
  have rl := reedsN_le W H f i
  have P := Lib.hid p
  obtain ⟨r, hr⟩ : ∃ r, spreadF W H f i = r := ⟨_, rfl⟩
  have hr2 := hr
  unfold spreadF at hr2
  rw [hr]
  clear HR hr
  obtain ⟨v, hv⟩ : ∃ v, f i = v := ⟨_, rfl⟩
  rw [hv] at hr2 c
  generalize reedsN W H f i = rd at *
  have HRR := Lib.hid hr2
  have co : w.cell? ⟨b, off + (i / W * W + i % W), none⟩ = some (.int .i64 v) := by rw [cell_eq]; exact c
  clear e tn hn p hi c hv hr2 h9
  by_cases h3 : v = 3
  · by_cases hk : rd ≤ 1
    · have q1 : ¬ 2 ≤ rd := by omega
      have q2 : decide ((2 : Int) ≤ (rd : Int)) = false := by simp; omega
      have q3 : decide ((rd : Int) ≤ 1) = true := by simp; omega
      subst h3
      have HF : Hid (r = 3) := by have := HRR.out; simp [q1] at this; exact this.symm
      clear HRR
      go_enter Tryd.func84, Tryd.ntmps84
      go_wp2_with (go_at_call 72; (first | (with_reducible show Calls _ _ _ (Later.val _) _; with_reducible refine Calls.mono (Later.call _ (RN.out _ (P.out.later ⟨_, by repeat (first | exact Below.refl _ _ | (with_reducible assumption) | apply below_later | apply below_alloc | apply below_drew | apply below_drewN)⟩))) ?_) | (with_reducible refine Calls.mono (Gives.calls (RN.out _ (P.out.later ⟨_, by repeat (first | exact Below.refl _ _ | (with_reducible assumption) | apply below_later | apply below_alloc | apply below_drew | apply below_drewN)⟩))) ?_)); rintro e w1 ⟨rfl, z, rfl⟩)
      go_ret
      exact ⟨ret_int (by rw [HF.out]), later_of (by repeat (first | exact Below.refl _ _ | (with_reducible assumption) | apply below_later | apply below_alloc | apply below_drew | apply below_drewN))⟩
    · have q1 : 2 ≤ rd := by omega
      have q2 : decide ((2 : Int) ≤ (rd : Int)) = true := by simp; omega
      have q3 : decide ((rd : Int) ≤ 1) = false := by simp; omega
      subst h3
      have HF := HRR
      go_enter Tryd.func84, Tryd.ntmps84
      go_wp2_with (go_at_call 72; (first | (with_reducible show Calls _ _ _ (Later.val _) _; with_reducible refine Calls.mono (Later.call _ (RN.out _ (P.out.later ⟨_, by repeat (first | exact Below.refl _ _ | (with_reducible assumption) | apply below_later | apply below_alloc | apply below_drew | apply below_drewN)⟩))) ?_) | (with_reducible refine Calls.mono (Gives.calls (RN.out _ (P.out.later ⟨_, by repeat (first | exact Below.refl _ _ | (with_reducible assumption) | apply below_later | apply below_alloc | apply below_drew | apply below_drewN)⟩))) ?_)); rintro e w1 ⟨rfl, z, rfl⟩)
      go_ret
      exact ⟨ret_int (by have := HF.out; simp [q1] at this; exact this), later_of (by repeat (first | exact Below.refl _ _ | (with_reducible assumption) | apply below_later | apply below_alloc | apply below_drew | apply below_drewN))⟩
  · by_cases h4 : v = 4
    · by_cases hk : rd ≤ 1
      · have q1 : ¬ 2 ≤ rd := by omega
        have q2 : decide ((2 : Int) ≤ (rd : Int)) = false := by simp; omega
        have q3 : decide ((rd : Int) ≤ 1) = true := by simp; omega
        subst h4
        have HF : Hid (r = 4) := by have := HRR.out; simp [q1] at this; exact this.symm
        clear HRR
        go_enter Tryd.func84, Tryd.ntmps84
        go_wp2_with (go_at_call 72; (first | (with_reducible show Calls _ _ _ (Later.val _) _; with_reducible refine Calls.mono (Later.call _ (RN.out _ (P.out.later ⟨_, by repeat (first | exact Below.refl _ _ | (with_reducible assumption) | apply below_later | apply below_alloc | apply below_drew | apply below_drewN)⟩))) ?_) | (with_reducible refine Calls.mono (Gives.calls (RN.out _ (P.out.later ⟨_, by repeat (first | exact Below.refl _ _ | (with_reducible assumption) | apply below_later | apply below_alloc | apply below_drew | apply below_drewN)⟩))) ?_)); rintro e w1 ⟨rfl, z, rfl⟩)
        go_ret
        exact ⟨ret_int (by rw [HF.out]), later_of (by repeat (first | exact Below.refl _ _ | (with_reducible assumption) | apply below_later | apply below_alloc | apply below_drew | apply below_drewN))⟩
      · have q1 : 2 ≤ rd := by omega
        have q2 : decide ((2 : Int) ≤ (rd : Int)) = true := by simp; omega
        have q3 : decide ((rd : Int) ≤ 1) = false := by simp; omega
        subst h4
        have HF := HRR
        go_enter Tryd.func84, Tryd.ntmps84
        go_wp2_with (go_at_call 72; (first | (with_reducible show Calls _ _ _ (Later.val _) _; with_reducible refine Calls.mono (Later.call _ (RN.out _ (P.out.later ⟨_, by repeat (first | exact Below.refl _ _ | (with_reducible assumption) | apply below_later | apply below_alloc | apply below_drew | apply below_drewN)⟩))) ?_) | (with_reducible refine Calls.mono (Gives.calls (RN.out _ (P.out.later ⟨_, by repeat (first | exact Below.refl _ _ | (with_reducible assumption) | apply below_later | apply below_alloc | apply below_drew | apply below_drewN)⟩))) ?_)); rintro e w1 ⟨rfl, z, rfl⟩)
        go_ret
        exact ⟨ret_int (by have := HF.out; simp [q1] at this; exact this), later_of (by repeat (first | exact Below.refl _ _ | (with_reducible assumption) | apply below_later | apply below_alloc | apply below_drew | apply below_drewN))⟩
    · by_cases h1 : v = 1
      · by_cases hk : rd ≤ 1
        · have q1 : ¬ 2 ≤ rd := by omega
          have q2 : decide ((2 : Int) ≤ (rd : Int)) = false := by simp; omega
          have q3 : decide ((rd : Int) ≤ 1) = true := by simp; omega
          subst h1
          have HF := HRR
          have HK := Lib.hid hk
          clear HRR
          go_enter Tryd.func84, Tryd.ntmps84
          go_wp2_with (go_at_call 72; (first | (with_reducible show Calls _ _ _ (Later.val _) _; with_reducible refine Calls.mono (Later.call _ (RN.out _ (P.out.later ⟨_, by repeat (first | exact Below.refl _ _ | (with_reducible assumption) | apply below_later | apply below_alloc | apply below_drew | apply below_drewN)⟩))) ?_) | (with_reducible refine Calls.mono (Gives.calls (RN.out _ (P.out.later ⟨_, by repeat (first | exact Below.refl _ _ | (with_reducible assumption) | apply below_later | apply below_alloc | apply below_drew | apply below_drewN)⟩))) ?_)); rintro e w1 ⟨rfl, z, rfl⟩)
          go_ret
          exact ⟨ret_int (by have := HF.out; have hk := HK.out; simp [hk] at this; exact this), later_of (by repeat (first | exact Below.refl _ _ | (with_reducible assumption) | apply below_later | apply below_alloc | apply below_drew | apply below_drewN))⟩
        · have q1 : 2 ≤ rd := by omega
          have q2 : decide ((2 : Int) ≤ (rd : Int)) = true := by simp; omega
          have q3 : decide ((rd : Int) ≤ 1) = false := by simp; omega
          subst h1
          have HF : Hid (r = 1) := by have := HRR.out; simp [hk] at this; exact this.symm
          clear HRR
          go_enter Tryd.func84, Tryd.ntmps84
          go_wp2_with (go_at_call 72; (first | (with_reducible show Calls _ _ _ (Later.val _) _; with_reducible refine Calls.mono (Later.call _ (RN.out _ (P.out.later ⟨_, by repeat (first | exact Below.refl _ _ | (with_reducible assumption) | apply below_later | apply below_alloc | apply below_drew | apply below_drewN)⟩))) ?_) | (with_reducible refine Calls.mono (Gives.calls (RN.out _ (P.out.later ⟨_, by repeat (first | exact Below.refl _ _ | (with_reducible assumption) | apply below_later | apply below_alloc | apply below_drew | apply below_drewN)⟩))) ?_)); rintro e w1 ⟨rfl, z, rfl⟩)
          go_ret
          exact ⟨ret_int (by rw [HF.out]), later_of (by repeat (first | exact Below.refl _ _ | (with_reducible assumption) | apply below_later | apply below_alloc | apply below_drew | apply below_drewN))⟩
      · have q3 : (v == 3) = false := by simpa using h3
        have q4 : (v == 4) = false := by simpa using h4
        have q1 : (v == 1) = false := by simpa using h1
        have HF : Hid (r = v) := by have := HRR.out; simp [h1, h3, h4] at this; exact this.symm
        clear HRR h1 h3 h4
        go_enter Tryd.func84, Tryd.ntmps84
        go_wp2_with (go_at_call 72; (first | (with_reducible show Calls _ _ _ (Later.val _) _; with_reducible refine Calls.mono (Later.call _ (RN.out _ (P.out.later ⟨_, by repeat (first | exact Below.refl _ _ | (with_reducible assumption) | apply below_later | apply below_alloc | apply below_drew | apply below_drewN)⟩))) ?_) | (with_reducible refine Calls.mono (Gives.calls (RN.out _ (P.out.later ⟨_, by repeat (first | exact Below.refl _ _ | (with_reducible assumption) | apply below_later | apply below_alloc | apply below_drew | apply below_drewN)⟩))) ?_)); rintro e w1 ⟨rfl, z, rfl⟩)
        go_ret
        exact ⟨ret_int (by rw [HF.out]), later_of (by repeat (first | exact Below.refl _ _ | (with_reducible assumption) | apply below_later | apply below_alloc | apply below_drew | apply below_drewN))⟩
set_option maxRecDepth 100000 in
set_option maxHeartbeats 1600000 in
theorem mow1_any (W H b off n cap bm i : Nat) (f : Nat → Int) (w : World) (hW1 : 1 ≤ W) (hW : W ≤ 30) (hH : H ≤ 30) (hn : n = W * H) (hi : i < W * H) (p : Ints w b off n f)
    (c0 : w.cell? ⟨bm, 0, none⟩ = some (.int .i64 W)) (c1 : w.cell? ⟨bm, 1, none⟩ = some (.int .i64 H)) (c2 : w.cell? ⟨bm, 2, none⟩ = some (.slice (some ⟨b, off, none⟩) n cap)) :
    Gives Tryd.prog 86 #[.int .i64 ((i : Int) % (W : Int)), .int .i64 ((i : Int) / (W : Int)), .pointer (some ⟨bm, 0, none⟩)] w (.int .i64 (mowF W H f i)) := by
  have lm := World.block_lt_of_cell? _ _ c0
  have lb := p.lt
  have h9 : W * H ≤ 900 := Nat.mul_le_mul hW hH
  have b1 : (i : Int) % (W : Int) < 30 := by have := Int.emod_lt_of_pos (i : Int) (show (0 : Int) < W by omega); omega
  have b2 : 0 ≤ (i : Int) % (W : Int) := Int.emod_nonneg _ (by omega)
  have b3 : (i : Int) / (W : Int) < 900 := by
    have := Int.ediv_le_self (W : Int) (show 0 ≤ (i : Int) by omega)
    omega
  have b4 : 0 ≤ (i : Int) / (W : Int) := Int.ediv_nonneg (by omega) (by omega)
  have e := place_at W i
  have e8 : 0 ≤ (i : Int) / (W : Int) * (W : Int) := Int.mul_nonneg b4 (by omega)
  have e9 : (i : Int) / (W : Int) * (W : Int) ≤ 900 := by omega
  have c := p.at_ i (by omega)
  have t0 : 0 ≤ (i : Int) / (W : Int) * (W : Int) + (i : Int) % (W : Int) := by omega
  have t1 : (i : Int) / (W : Int) * (W : Int) + (i : Int) % (W : Int) < (n : Int) := by omega
  have tn : ((i : Int) / (W : Int) * (W : Int) + (i : Int) % (W : Int)).toNat = i := by omega
  have RN : Hid (∀ w', Ints w' b off n f → Gives Tryd.prog 72 #[.agg #[.int .i64 W, .int .i64 H, .slice (some ⟨b, off, none⟩) n cap], .int .i64 ((i : Int) / (W : Int) * (W : Int) + (i : Int) % (W : Int))] w' (.int .i64 ((reedsN W H f i : Nat) : Int))) := fun w' h => by
    rw [e]; exact reedNear_any W H i n cap b off f w' hW1 hW hH hn hi h
  have HR : Hid (mowF W H f i = mowF W H f i) := rfl
  have rl := reedsN_le W H f i
  have P := Lib.hid p
  obtain ⟨r, hr⟩ : ∃ r, mowF W H f i = r := ⟨_, rfl⟩
  have hr2 := hr
  unfold mowF at hr2
  rw [hr]
  clear HR hr
  obtain ⟨v, hv⟩ : ∃ v, f i = v := ⟨_, rfl⟩
  rw [hv] at hr2 c
  generalize reedsN W H f i = rd at *
  have HRR := Lib.hid hr2
  have co : w.cell? ⟨b, off + (i / W * W + i % W), none⟩ = some (.int .i64 v) := by rw [cell_eq]; exact c
  clear e tn hn p hi c hv hr2 h9
  by_cases h3 : v = 3
  · by_cases hk : rd ≤ 1
    · have q1 : ¬ 2 ≤ rd := by omega
      have q2 : decide ((2 : Int) ≤ (rd : Int)) = false := by simp; omega
      have q3 : decide ((rd : Int) ≤ 1) = true := by simp; omega
      subst h3
      have HF : Hid (r = 3) := by have := HRR.out; simp [q1] at this; exact this.symm
      clear HRR
      go_enter Tryd.func86, Tryd.ntmps86
      go_wp2_with (go_at_call 72; (first | (with_reducible show Calls _ _ _ (Later.val _) _; with_reducible refine Calls.mono (Later.call _ (RN.out _ (P.out.later ⟨_, by repeat (first | exact Below.refl _ _ | (with_reducible assumption) | apply below_later | apply below_alloc | apply below_drew | apply below_drewN)⟩))) ?_) | (with_reducible refine Calls.mono (Gives.calls (RN.out _ (P.out.later ⟨_, by repeat (first | exact Below.refl _ _ | (with_reducible assumption) | apply below_later | apply below_alloc | apply below_drew | apply below_drewN)⟩))) ?_)); rintro e w1 ⟨rfl, z, rfl⟩)
      go_ret
      exact ⟨ret_int (by rw [HF.out]), later_of (by repeat (first | exact Below.refl _ _ | (with_reducible assumption) | apply below_later | apply below_alloc | apply below_drew | apply below_drewN))⟩
    · have q1 : 2 ≤ rd := by omega
      have q2 : decide ((2 : Int) ≤ (rd : Int)) = true := by simp; omega
      have q3 : decide ((rd : Int) ≤ 1) = false := by simp; omega
      subst h3
      have HF := HRR
      go_enter Tryd.func86, Tryd.ntmps86
      go_wp2_with (go_at_call 72; (first | (with_reducible show Calls _ _ _ (Later.val _) _; with_reducible refine Calls.mono (Later.call _ (RN.out _ (P.out.later ⟨_, by repeat (first | exact Below.refl _ _ | (with_reducible assumption) | apply below_later | apply below_alloc | apply below_drew | apply below_drewN)⟩))) ?_) | (with_reducible refine Calls.mono (Gives.calls (RN.out _ (P.out.later ⟨_, by repeat (first | exact Below.refl _ _ | (with_reducible assumption) | apply below_later | apply below_alloc | apply below_drew | apply below_drewN)⟩))) ?_)); rintro e w1 ⟨rfl, z, rfl⟩)
      go_ret
      exact ⟨ret_int (by have := HF.out; simp [q1] at this; exact this), later_of (by repeat (first | exact Below.refl _ _ | (with_reducible assumption) | apply below_later | apply below_alloc | apply below_drew | apply below_drewN))⟩
  · by_cases h4 : v = 4
    · by_cases hk : rd ≤ 1
      · have q1 : ¬ 2 ≤ rd := by omega
        have q2 : decide ((2 : Int) ≤ (rd : Int)) = false := by simp; omega
        have q3 : decide ((rd : Int) ≤ 1) = true := by simp; omega
        subst h4
        have HF : Hid (r = 4) := by have := HRR.out; simp [q1] at this; exact this.symm
        clear HRR
        go_enter Tryd.func86, Tryd.ntmps86
        go_wp2_with (go_at_call 72; (first | (with_reducible show Calls _ _ _ (Later.val _) _; with_reducible refine Calls.mono (Later.call _ (RN.out _ (P.out.later ⟨_, by repeat (first | exact Below.refl _ _ | (with_reducible assumption) | apply below_later | apply below_alloc | apply below_drew | apply below_drewN)⟩))) ?_) | (with_reducible refine Calls.mono (Gives.calls (RN.out _ (P.out.later ⟨_, by repeat (first | exact Below.refl _ _ | (with_reducible assumption) | apply below_later | apply below_alloc | apply below_drew | apply below_drewN)⟩))) ?_)); rintro e w1 ⟨rfl, z, rfl⟩)
        go_ret
        exact ⟨ret_int (by rw [HF.out]), later_of (by repeat (first | exact Below.refl _ _ | (with_reducible assumption) | apply below_later | apply below_alloc | apply below_drew | apply below_drewN))⟩
      · have q1 : 2 ≤ rd := by omega
        have q2 : decide ((2 : Int) ≤ (rd : Int)) = true := by simp; omega
        have q3 : decide ((rd : Int) ≤ 1) = false := by simp; omega
        subst h4
        have HF := HRR
        go_enter Tryd.func86, Tryd.ntmps86
        go_wp2_with (go_at_call 72; (first | (with_reducible show Calls _ _ _ (Later.val _) _; with_reducible refine Calls.mono (Later.call _ (RN.out _ (P.out.later ⟨_, by repeat (first | exact Below.refl _ _ | (with_reducible assumption) | apply below_later | apply below_alloc | apply below_drew | apply below_drewN)⟩))) ?_) | (with_reducible refine Calls.mono (Gives.calls (RN.out _ (P.out.later ⟨_, by repeat (first | exact Below.refl _ _ | (with_reducible assumption) | apply below_later | apply below_alloc | apply below_drew | apply below_drewN)⟩))) ?_)); rintro e w1 ⟨rfl, z, rfl⟩)
        go_ret
        exact ⟨ret_int (by have := HF.out; simp [q1] at this; exact this), later_of (by repeat (first | exact Below.refl _ _ | (with_reducible assumption) | apply below_later | apply below_alloc | apply below_drew | apply below_drewN))⟩
    · by_cases h1 : v = 1
      · by_cases hk : rd ≤ 1
        · have q1 : ¬ 2 ≤ rd := by omega
          have q2 : decide ((2 : Int) ≤ (rd : Int)) = false := by simp; omega
          have q3 : decide ((rd : Int) ≤ 1) = true := by simp; omega
          subst h1
          have HF := HRR
          have HK := Lib.hid hk
          clear HRR
          go_enter Tryd.func86, Tryd.ntmps86
          go_wp2_with (go_at_call 72; (first | (with_reducible show Calls _ _ _ (Later.val _) _; with_reducible refine Calls.mono (Later.call _ (RN.out _ (P.out.later ⟨_, by repeat (first | exact Below.refl _ _ | (with_reducible assumption) | apply below_later | apply below_alloc | apply below_drew | apply below_drewN)⟩))) ?_) | (with_reducible refine Calls.mono (Gives.calls (RN.out _ (P.out.later ⟨_, by repeat (first | exact Below.refl _ _ | (with_reducible assumption) | apply below_later | apply below_alloc | apply below_drew | apply below_drewN)⟩))) ?_)); rintro e w1 ⟨rfl, z, rfl⟩)
          go_ret
          exact ⟨ret_int (by have := HF.out; have hk := HK.out; simp [hk] at this; exact this), later_of (by repeat (first | exact Below.refl _ _ | (with_reducible assumption) | apply below_later | apply below_alloc | apply below_drew | apply below_drewN))⟩
        · have q1 : 2 ≤ rd := by omega
          have q2 : decide ((2 : Int) ≤ (rd : Int)) = true := by simp; omega
          have q3 : decide ((rd : Int) ≤ 1) = false := by simp; omega
          subst h1
          have HF : Hid (r = 1) := by have := HRR.out; simp [hk] at this; exact this.symm
          clear HRR
          go_enter Tryd.func86, Tryd.ntmps86
          go_wp2_with (go_at_call 72; (first | (with_reducible show Calls _ _ _ (Later.val _) _; with_reducible refine Calls.mono (Later.call _ (RN.out _ (P.out.later ⟨_, by repeat (first | exact Below.refl _ _ | (with_reducible assumption) | apply below_later | apply below_alloc | apply below_drew | apply below_drewN)⟩))) ?_) | (with_reducible refine Calls.mono (Gives.calls (RN.out _ (P.out.later ⟨_, by repeat (first | exact Below.refl _ _ | (with_reducible assumption) | apply below_later | apply below_alloc | apply below_drew | apply below_drewN)⟩))) ?_)); rintro e w1 ⟨rfl, z, rfl⟩)
          go_ret
          exact ⟨ret_int (by rw [HF.out]), later_of (by repeat (first | exact Below.refl _ _ | (with_reducible assumption) | apply below_later | apply below_alloc | apply below_drew | apply below_drewN))⟩
      · have q3 : (v == 3) = false := by simpa using h3
        have q4 : (v == 4) = false := by simpa using h4
        have q1 : (v == 1) = false := by simpa using h1
        have HF : Hid (r = v) := by have := HRR.out; simp [h1, h3, h4] at this; exact this.symm
        clear HRR h1 h3 h4
        go_enter Tryd.func86, Tryd.ntmps86
        go_wp2_with (go_at_call 72; (first | (with_reducible show Calls _ _ _ (Later.val _) _; with_reducible refine Calls.mono (Later.call _ (RN.out _ (P.out.later ⟨_, by repeat (first | exact Below.refl _ _ | (with_reducible assumption) | apply below_later | apply below_alloc | apply below_drew | apply below_drewN)⟩))) ?_) | (with_reducible refine Calls.mono (Gives.calls (RN.out _ (P.out.later ⟨_, by repeat (first | exact Below.refl _ _ | (with_reducible assumption) | apply below_later | apply below_alloc | apply below_drew | apply below_drewN)⟩))) ?_)); rintro e w1 ⟨rfl, z, rfl⟩)
        go_ret
        exact ⟨ret_int (by rw [HF.out]), later_of (by repeat (first | exact Below.refl _ _ | (with_reducible assumption) | apply below_later | apply below_alloc | apply below_drew | apply below_drewN))⟩
set_option maxRecDepth 100000 in
set_option maxHeartbeats 1600000 in
theorem Spread_ok (W H n cap : Nat) (A : Option Addr) (f : Nat → Int) (w : World) (hp : IsInts w A n f) (hv : validM W H n f = true) :
    GivesME 37 #[.agg #[.int .i64 W, .int .i64 H, .slice A n cap]] w W H ((List.range (W * H)).map (spreadF W H f)) 0 := by
  have V : Hid (∀ w', IsInts w' A n f → Gives Tryd.prog 19 #[.agg #[.int .i64 W, .int .i64 H, .slice A n cap]] w' (.bool true)) := fun w' h => hv ▸ bvalid_any W H A n cap f w' h
  obtain ⟨⟨v1, v2⟩, ⟨v3, v4⟩, hn, _⟩ := validM_iff.1 hv
  have hn' : n = W * H := by rw [← Int.natCast_mul] at hn; omega
  have h0 : 0 < n := by
    have := Nat.mul_le_mul (show 1 ≤ W by omega) (show 1 ≤ H by omega)
    omega
  obtain ⟨b, off, rfl, p⟩ := hp.at_ h0
  have D : Hid (∀ (w' : World) (bm : Nat), w'.heap[bm]? = some (.cells #[.int .i64 W, .int .i64 H, .slice (some ⟨b, off, none⟩) n cap] 24) → Ints w' b off n f →
      GivesM 83 #[.int .i64 W, .int .i64 H, .func (.func 84) #[] #[.pointer (some ⟨bm, 0, none⟩)]] w' W H ((List.range (W * H)).map (spreadF W H f))) := fun w' bm g q => by
    refine draw_spread W H bm _ w' (by omega) (by omega) (by omega) fun x i hi => ?_
    have g2 := (x.ok.block _ (Array.getElem?_eq_some_iff.1 g).1).trans g
    obtain ⟨⟨c0, c1, c2⟩, _⟩ := cells3 g2
    exact spread1_any W H b off n cap bm i f x.val (by omega) (by omega) (by omega) hn' hi (q.later x) c0 c1 c2
  have HP := Lib.hid hp
  have P := Lib.hid p
  clear hp hv hn hn' p
  go_enter Tryd.func37, Tryd.ntmps37
  go_wp2_with (go_at_call 19; (first | (with_reducible show Calls _ _ _ (Later.val _) _; with_reducible refine Calls.mono (Later.call _ (V.out _ (HP.out.later ⟨_, by repeat (first | exact Below.refl _ _ | (with_reducible assumption) | apply below_later | apply below_alloc | apply below_drew | apply below_drewN)⟩))) ?_) | (with_reducible refine Calls.mono (Gives.calls (V.out _ (HP.out.later ⟨_, by repeat (first | exact Below.refl _ _ | (with_reducible assumption) | apply below_later | apply below_alloc | apply below_drew | apply below_drewN)⟩))) ?_)); rintro e w1 ⟨rfl, z, rfl⟩)
  have gm : z.val.heap[w.heap.size]? = some (.cells #[.int .i64 W, .int .i64 H, .slice (some ⟨b, off, none⟩) n cap] 24) := by
    rw [z.ok.block _ (by simp only [World.size_alloc]; omega), Below.heap_alloc _ _ _ (by simp)]; exact World.alloc_heap_new w _
  have g : z.val.heap[w.heap.size + 1]? = some (.cells #[.int .i64 0, .int .i64 0, .slice none 0 0] 24) := by
    rw [z.ok.block _ (by simp)]
    have := World.alloc_heap_new (w.alloc (.cells #[.int .i64 W, .int .i64 H, .slice (some ⟨b, off, none⟩) n cap] 24)) (.cells #[.int .i64 0, .int .i64 0, .slice none 0 0] 24)
    rwa [World.size_alloc] at this
  obtain ⟨⟨d0, d1, d2⟩, _⟩ := cells3 gm
  have lm := (Array.getElem?_eq_some_iff.1 gm).1
  have pz := P.out.later ⟨z.val, by repeat (first | exact Below.refl _ _ | (with_reducible assumption) | apply below_later | apply below_alloc | apply below_drew | apply below_drewN)⟩
  have DD := Lib.hid (D.out z.val _ gm pz)
  have GM := Lib.hid gm
  have G := Lib.hid g
  clear gm g pz D
  go_wp2_with (go_at_call 83; refine Calls.mono DD.out.calls ?_; rintro e w1 ⟨v, rfl, y, rfl, ho⟩; obtain ⟨A', cap', rfl⟩ := ho.shape_n (n := W * H) (by simp); obtain ⟨⟨c0, c1, c2⟩, f0, f1, f2⟩ := cells3 ((y.ok.block _ (Array.getElem?_eq_some_iff.1 G.out).1).trans G.out))
  have k3 := put3 (v0 := .int .i64 W) (v1 := .int .i64 H) (v2 := .slice A' (W * H) cap') ((y.ok.block _ (Array.getElem?_eq_some_iff.1 G.out).1).trans G.out)
  obtain ⟨⟨r0, r1, r2⟩, _⟩ := cells3 k3
  refine bodyPost_ret (v := .tuple #[.agg #[.int .i64 W, .int .i64 H, .slice A' (W * H) cap'], .int .i64 0]) (by simp [results, Tryd.results37, go_sem, r0, r1, r2]) rfl ?_
  have zz := z.size
  simp only [World.size_alloc] at zz
  refine ⟨_, rfl, ⟨_, below_put3 (by repeat (first | exact Below.refl _ _ | (with_reducible assumption) | apply below_later | apply below_alloc | apply below_drew | apply below_drewN)) (by simp)⟩, rfl, own_put3 (ho.mono (by omega)) ?_⟩
  intro g hg e
  have := (own_lt ho g hg).1
  omega
set_option maxRecDepth 100000 in
set_option maxHeartbeats 1600000 in
theorem Mow_ok (W H n cap : Nat) (A : Option Addr) (f : Nat → Int) (w : World) (hp : IsInts w A n f) (hv : validM W H n f = true) :
    GivesME 39 #[.agg #[.int .i64 W, .int .i64 H, .slice A n cap]] w W H ((List.range (W * H)).map (mowF W H f)) 0 := by
  have V : Hid (∀ w', IsInts w' A n f → Gives Tryd.prog 19 #[.agg #[.int .i64 W, .int .i64 H, .slice A n cap]] w' (.bool true)) := fun w' h => hv ▸ bvalid_any W H A n cap f w' h
  obtain ⟨⟨v1, v2⟩, ⟨v3, v4⟩, hn, _⟩ := validM_iff.1 hv
  have hn' : n = W * H := by rw [← Int.natCast_mul] at hn; omega
  have h0 : 0 < n := by
    have := Nat.mul_le_mul (show 1 ≤ W by omega) (show 1 ≤ H by omega)
    omega
  obtain ⟨b, off, rfl, p⟩ := hp.at_ h0
  have D : Hid (∀ (w' : World) (bm : Nat), w'.heap[bm]? = some (.cells #[.int .i64 W, .int .i64 H, .slice (some ⟨b, off, none⟩) n cap] 24) → Ints w' b off n f →
      GivesM 83 #[.int .i64 W, .int .i64 H, .func (.func 86) #[] #[.pointer (some ⟨bm, 0, none⟩)]] w' W H ((List.range (W * H)).map (mowF W H f))) := fun w' bm g q => by
    refine draw_mow W H bm _ w' (by omega) (by omega) (by omega) fun x i hi => ?_
    have g2 := (x.ok.block _ (Array.getElem?_eq_some_iff.1 g).1).trans g
    obtain ⟨⟨c0, c1, c2⟩, _⟩ := cells3 g2
    exact mow1_any W H b off n cap bm i f x.val (by omega) (by omega) (by omega) hn' hi (q.later x) c0 c1 c2
  have HP := Lib.hid hp
  have P := Lib.hid p
  clear hp hv hn hn' p
  go_enter Tryd.func39, Tryd.ntmps39
  go_wp2_with (go_at_call 19; (first | (with_reducible show Calls _ _ _ (Later.val _) _; with_reducible refine Calls.mono (Later.call _ (V.out _ (HP.out.later ⟨_, by repeat (first | exact Below.refl _ _ | (with_reducible assumption) | apply below_later | apply below_alloc | apply below_drew | apply below_drewN)⟩))) ?_) | (with_reducible refine Calls.mono (Gives.calls (V.out _ (HP.out.later ⟨_, by repeat (first | exact Below.refl _ _ | (with_reducible assumption) | apply below_later | apply below_alloc | apply below_drew | apply below_drewN)⟩))) ?_)); rintro e w1 ⟨rfl, z, rfl⟩)
  have gm : z.val.heap[w.heap.size]? = some (.cells #[.int .i64 W, .int .i64 H, .slice (some ⟨b, off, none⟩) n cap] 24) := by
    rw [z.ok.block _ (by simp only [World.size_alloc]; omega), Below.heap_alloc _ _ _ (by simp)]; exact World.alloc_heap_new w _
  have g : z.val.heap[w.heap.size + 1]? = some (.cells #[.int .i64 0, .int .i64 0, .slice none 0 0] 24) := by
    rw [z.ok.block _ (by simp)]
    have := World.alloc_heap_new (w.alloc (.cells #[.int .i64 W, .int .i64 H, .slice (some ⟨b, off, none⟩) n cap] 24)) (.cells #[.int .i64 0, .int .i64 0, .slice none 0 0] 24)
    rwa [World.size_alloc] at this
  obtain ⟨⟨d0, d1, d2⟩, _⟩ := cells3 gm
  have lm := (Array.getElem?_eq_some_iff.1 gm).1
  have pz := P.out.later ⟨z.val, by repeat (first | exact Below.refl _ _ | (with_reducible assumption) | apply below_later | apply below_alloc | apply below_drew | apply below_drewN)⟩
  have DD := Lib.hid (D.out z.val _ gm pz)
  have GM := Lib.hid gm
  have G := Lib.hid g
  clear gm g pz D
  go_wp2_with (go_at_call 83; refine Calls.mono DD.out.calls ?_; rintro e w1 ⟨v, rfl, y, rfl, ho⟩; obtain ⟨A', cap', rfl⟩ := ho.shape_n (n := W * H) (by simp); obtain ⟨⟨c0, c1, c2⟩, f0, f1, f2⟩ := cells3 ((y.ok.block _ (Array.getElem?_eq_some_iff.1 G.out).1).trans G.out))
  have k3 := put3 (v0 := .int .i64 W) (v1 := .int .i64 H) (v2 := .slice A' (W * H) cap') ((y.ok.block _ (Array.getElem?_eq_some_iff.1 G.out).1).trans G.out)
  obtain ⟨⟨r0, r1, r2⟩, _⟩ := cells3 k3
  refine bodyPost_ret (v := .tuple #[.agg #[.int .i64 W, .int .i64 H, .slice A' (W * H) cap'], .int .i64 0]) (by simp [results, Tryd.results39, go_sem, r0, r1, r2]) rfl ?_
  have zz := z.size
  simp only [World.size_alloc] at zz
  refine ⟨_, rfl, ⟨_, below_put3 (by repeat (first | exact Below.refl _ _ | (with_reducible assumption) | apply below_later | apply below_alloc | apply below_drew | apply below_drewN)) (by simp)⟩, rfl, own_put3 (ho.mono (by omega)) ?_⟩
  intro g hg e
  have := (own_lt ho g hg).1
  omega
end Go.Proofs.YtajfepogecakbaaDoor
