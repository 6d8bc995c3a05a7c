/- bed.Windows: what small windows tell. -/
import Derived.Test.YtajfepogecakbaaDoorBedValid
import Derived.Test.YtajfepogecakbaaDoorAroundC
namespace Go.Proofs.YtajfepogecakbaaDoor
open Go.RowKit

/-- Is the square (x, y) on the map, and reed? -/
def rdB (W H : Nat) (f : Nat → Int) (x y : Int) : Bool := insB W H x y && decide (f (y * W + x).toNat = 1)

theorem at_bd {W H : Nat} (hW : W ≤ 30) (hH : H ≤ 30) {x y : Int} (h : insB W H x y = true) : ((0 ≤ x ∧ x < W) ∧ 0 ≤ y ∧ y < H) ∧ (0 ≤ y * W ∧ y * W ≤ 900) ∧ 0 ≤ y * W + x ∧ y * W + x < W * H := by
  unfold insB at h
  obtain ⟨h1, h2, h3, h4⟩ := of_decide_eq_true h
  have m1 := Int.mul_nonneg h3 (show (0 : Int) ≤ W by omega)
  have m2 := Int.mul_le_mul (show y ≤ (H : Int) - 1 by omega) (show (W : Int) ≤ W from Int.le_refl _) (by omega) (by omega)
  have m4 := Int.mul_le_mul (show y ≤ 30 by omega) (show (W : Int) ≤ 30 by omega) (by omega) (by omega)
  have m3 : ((H : Int) - 1) * W = (W : Int) * H - W := by rw [Int.sub_mul, Int.one_mul, Int.mul_comm]
  omega

set_option maxRecDepth 100000 in
set_option maxHeartbeats 1600000 in
theorem reed_any (W H n cap b off bm : Nat) (f : Nat → Int) (x y : Int) (w : World) (hW : W ≤ 30) (hH : H ≤ 30) (hn : n = W * H) (p : Ints w b off n f)
    (h0 : w.cell? ⟨bm, 0, none⟩ = some (.int .i64 W)) (h1 : w.cell? ⟨bm, 1, none⟩ = some (.int .i64 H)) (h2 : w.cell? ⟨bm, 2, none⟩ = some (.slice (some ⟨b, off, none⟩) n cap)) :
    Gives Tryd.prog 80 #[.int .i64 x, .int .i64 y, .pointer (some ⟨bm, 0, none⟩)] w (.bool (rdB W H f x y)) := by
  have lm := World.block_lt_of_cell? _ _ h0
  have lb := p.lt
  have P := Lib.hid p
  clear p
  have HR : Hid (rdB W H f x y = (insB W H x y && decide (f (y * W + x).toNat = 1))) := rfl
  generalize rdB W H f x y = r at HR ⊢
  cases hi : insB W H x y
  · have Wi : Hid (∀ w, Gives Tryd.prog 81 #[.agg #[.int .i64 W, .int .i64 H, .slice (some ⟨b, off, none⟩) n cap], .int .i64 x, .int .i64 y] w (.bool false)) := fun w => hi ▸ within_any W H _ n cap x y w
    rw [hi] at HR
    clear hi hn
    go_enter Tryd.func80, Tryd.ntmps80
    go_wp2_with (go_at_call 81; (first | (with_reducible show Calls _ _ _ (Later.val _) _; with_reducible refine Calls.mono (Later.call _ (Wi.out _)) ?_) | (with_reducible refine Calls.mono (Gives.calls (Wi.out _)) ?_)); rintro e w1 ⟨rfl, z, rfl⟩)
    go_ret
    exact ⟨ret_bool (by rw [HR.out]; rfl), later_of (by repeat (first | exact Below.refl _ _ | (with_reducible assumption) | apply below_later | apply below_alloc | apply below_drew | apply below_drewN))⟩
  · have Wi : Hid (∀ w, Gives Tryd.prog 81 #[.agg #[.int .i64 W, .int .i64 H, .slice (some ⟨b, off, none⟩) n cap], .int .i64 x, .int .i64 y] w (.bool true)) := fun w => hi ▸ within_any W H _ n cap x y w
    obtain ⟨⟨⟨x0, x1⟩, y0, y1⟩, ⟨m0, m1⟩, t0, t1⟩ := at_bd hW hH hi
    rw [hi, Bool.true_and] at HR
    clear hi
    obtain ⟨j, hj⟩ : ∃ j : Nat, (j : Int) = y * W + x := ⟨(y * W + x).toNat, by omega⟩
    have jl : j < n := by rw [hn]; rw [← Int.natCast_mul] at t1; omega
    have e : (y * W + x).toNat = j := by omega
    rw [e] at HR
    have c : w.cell? ⟨b, off + j, none⟩ = some (.int .i64 (f j)) := P.out.at_ j jl
    have HJ := Lib.hid e
    have t2 : y * W + x < (n : Int) := by omega
    clear e hj hn
    by_cases hf : f j = 1
    · have q : (f j == 1) = true := by simp [hf]
      have HF := Lib.hid hf
      clear hf
      rw [← HJ.out] at c q
      go_enter Tryd.func80, Tryd.ntmps80
      go_wp2_with (go_at_call 81; (first | (with_reducible show Calls _ _ _ (Later.val _) _; with_reducible refine Calls.mono (Later.call _ (Wi.out _)) ?_) | (with_reducible refine Calls.mono (Gives.calls (Wi.out _)) ?_)); rintro e w1 ⟨rfl, z, rfl⟩)
      go_ret
      exact ⟨ret_bool (by rw [HR.out, HF.out]; rfl), later_of (by repeat (first | exact Below.refl _ _ | (with_reducible assumption) | apply below_later | apply below_alloc | apply below_drew | apply below_drewN))⟩
    · have q : (f j == 1) = false := by simp [hf]
      have HF := Lib.hid hf
      clear hf
      rw [← HJ.out] at c q
      go_enter Tryd.func80, Tryd.ntmps80
      go_wp2_with (go_at_call 81; (first | (with_reducible show Calls _ _ _ (Later.val _) _; with_reducible refine Calls.mono (Later.call _ (Wi.out _)) ?_) | (with_reducible refine Calls.mono (Gives.calls (Wi.out _)) ?_)); rintro e w1 ⟨rfl, z, rfl⟩)
      go_ret
      exact ⟨ret_bool (by rw [HR.out]; simp [HF.out]), later_of (by repeat (first | exact Below.refl _ _ | (with_reducible assumption) | apply below_later | apply below_alloc | apply below_drew | apply below_drewN))⟩
/-- What one window tells. -/
def winAt (p : Int → Int → Bool) (X Y : Int) : Int :=
  if p X Y = true then 1 - (if p (X + 1) Y = true then 1 else 0) - (if p X (Y + 1) = true then 1 else 0) + (if (p (X + 1) Y && p X (Y + 1) && p (X + 1) (Y + 1)) = true then 1 else 0) else 0
def winTo (W : Nat) (p : Int → Int → Bool) : Nat → Int
  | 0 => 0
  | k + 1 => winTo W p k + winAt p ((k : Int) % (W : Int)) ((k : Int) / (W : Int))
theorem winAt_bd (p : Int → Int → Bool) (X Y : Int) : -1 ≤ winAt p X Y ∧ winAt p X Y ≤ 1 := by
  unfold winAt
  cases p X Y <;> cases p (X + 1) Y <;> cases p X (Y + 1) <;> cases p (X + 1) (Y + 1) <;> simp
theorem winTo_bd (W : Nat) (p : Int → Int → Bool) : ∀ k : Nat, -(k : Int) ≤ winTo W p k ∧ winTo W p k ≤ k
  | 0 => by simp [winTo]
  | k + 1 => by
    have := winTo_bd W p k
    have := winAt_bd p ((k : Int) % (W : Int)) ((k : Int) / (W : Int))
    unfold winTo
    omega
/-- What bed.Windows answers. -/
def windowsR (W H : Int) (n : Nat) (f : Nat → Int) : Value :=
  if validM W H n f = true then .tuple #[.int .i64 (winTo W.toNat (rdB W.toNat H.toNat f) n), .int .i64 0] else .tuple #[.int .i64 0, .int .i64 20]

set_option maxRecDepth 100000 in
set_option maxHeartbeats 3200000 in
theorem windows_ok (W H n cap : Nat) (A : Option Addr) (f : Nat → Int) (w : World) (hv : validM W H n f = true) (hp : IsInts w A n f) :
    Gives Tryd.prog 35 #[.agg #[.int .i64 W, .int .i64 H, .slice A n cap]] w (.tuple #[.int .i64 (winTo W (rdB W H f) n), .int .i64 0]) := by
  have V : Hid (∀ w', IsInts w' A n f → Gives Tryd.prog 19 #[.agg #[.int .i64 W, .int .i64 H, .slice A n cap]] w' (.bool true)) := fun w' h => hv ▸ bvalid_any W H A n cap f w' h
  obtain ⟨⟨v1, v2⟩, ⟨v3, v4⟩, hn, _⟩ := validM_iff.1 hv
  have hn' : n = W * H := by rw [← Int.natCast_mul] at hn; omega
  have h0 : 0 < n := by
    have := Nat.mul_le_mul (show 1 ≤ W by omega) (show 1 ≤ H by omega)
    omega
  have hn9 : n ≤ 900 := by rw [hn']; exact Nat.mul_le_mul (show W ≤ 30 by omega) (show H ≤ 30 by omega)
  obtain ⟨b, off, rfl, p⟩ := hp.at_ h0
  have lb := p.lt
  have RD : Hid (∀ (x y : Int) (w : World) (bm : Nat), w.cell? ⟨bm, 0, none⟩ = some (.int .i64 W) → w.cell? ⟨bm, 1, none⟩ = some (.int .i64 H) → w.cell? ⟨bm, 2, none⟩ = some (.slice (some ⟨b, off, none⟩) n cap) → Ints w b off n f → Gives Tryd.prog 80 #[.int .i64 x, .int .i64 y, .pointer (some ⟨bm, 0, none⟩)] w (.bool (rdB W H f x y))) :=
    fun x y w bm c0 c1 c2 p => reed_any W H n cap b off bm f x y w (by omega) (by omega) hn' p c0 c1 c2
  generalize hq : rdB W H f = q at *
  clear hq hv
  have HP := Lib.hid hp
  have P := Lib.hid p
  have HN := Lib.hid hn
  have hmb : (W : Int) * (H : Int) ≤ 900 := by omega
  have hm0 : 0 ≤ (W : Int) * (H : Int) := by omega
  clear hp p hn hn'
  go_enter Tryd.func35, Tryd.ntmps35
  go_wp2_with (go_at_call 19; (first | (with_reducible show Calls _ _ _ (Later.val _) _; with_reducible refine Calls.mono (Later.call _ (V.out _ (HP.out.later ⟨_, by repeat (first | exact Below.refl _ _ | (with_reducible assumption) | apply below_later | apply below_alloc | apply below_drew | apply below_drewN)⟩))) ?_) | (with_reducible refine Calls.mono (Gives.calls (V.out _ (HP.out.later ⟨_, by repeat (first | exact Below.refl _ _ | (with_reducible assumption) | apply below_later | apply below_alloc | apply below_drew | apply below_drewN)⟩))) ?_)); rintro e w1 ⟨rfl, z, rfl⟩)
  have zz := z.size
  simp only [World.size_alloc] at zz
  have zc0 : z.val.cell? ⟨w.heap.size, 0, none⟩ = some (.int .i64 W) := (z.cell _ _ (by simp)).trans (by simp)
  have zc1 : z.val.cell? ⟨w.heap.size, 1, none⟩ = some (.int .i64 H) := (z.cell _ _ (by simp)).trans (by simp)
  have zc2 : z.val.cell? ⟨w.heap.size, 2, none⟩ = some (.slice (some ⟨b, off, none⟩) n cap) := (z.cell _ _ (by simp)).trans (by simp)
  have zp : Ints z.val b off n f := (P.out.later ⟨w.alloc (.cells #[.int .i64 W, .int .i64 H, .slice (some ⟨b, off, none⟩) n cap] 24), by repeat (first | exact Below.refl _ _ | (with_reducible assumption) | apply below_later | apply below_alloc | apply below_drew | apply below_drewN)⟩).later z
  have ZP := Lib.hid zp
  clear zp
  go_loopw [5, 18] (fun u v wr => ∃ k : Nat, k ≤ n ∧ u = .int .i64 (winTo W q k) ∧ v = .int .i64 k ∧ ∃ x : Later z.val, wr = x.val) (fun _ v _ => n - (intOf v).toNat)
  case atStart => exact ⟨0, by omega, rfl, rfl, ⟨z.val, Below.refl _ _⟩, rfl⟩
  case round =>
    obtain ⟨k, hk, rfl, rfl, x, rfl⟩ := hrel
    have lw : w.heap.size < z.val.heap.size := by omega
    have xc0 := (x.cell _ _ lw).trans zc0
    have xc1 := (x.cell _ _ lw).trans zc1
    have xc2 := (x.cell _ _ lw).trans zc2
    have bd := winTo_bd W q k
    have HS : Hid (winTo W q (k + 1) = winTo W q k + winAt q ((k : Int) % (W : Int)) ((k : Int) / (W : Int))) := rfl
    by_cases hlt : k < n
    · have hlt' : (k : Int) < (W : Int) * (H : Int) := by rw [← HN.out]; omega
      have b1 : (k : Int) % (W : Int) < 30 := by have := Int.emod_lt_of_pos (k : Int) (show (0 : Int) < W by omega); omega
      have b2 : 0 ≤ (k : Int) % (W : Int) := Int.emod_nonneg _ (by omega)
      have b3 : (k : Int) / (W : Int) < 900 := by have := Int.ediv_le_self (W : Int) (show 0 ≤ (k : Int) by omega); omega
      have b4 : 0 ≤ (k : Int) / (W : Int) := Int.ediv_nonneg (by omega) (by omega)
      have C : Hid (∀ (X Y : Int) (y : Later z.val), Gives Tryd.prog 80 #[.int .i64 X, .int .i64 Y, .pointer (some ⟨w.heap.size, 0, none⟩)] y.val (.bool (q X Y))) := fun X Y y =>
        RD.out X Y y.val w.heap.size ((y.cell _ _ lw).trans zc0) ((y.cell _ _ lw).trans zc1) ((y.cell _ _ lw).trans zc2) (ZP.out.later y)
      unfold winAt at HS
      have R0 := Lib.hid (fun y => C.out ((k : Int) % (W : Int)) ((k : Int) / (W : Int)) y)
      have R1 := Lib.hid (fun y => C.out ((k : Int) % (W : Int) + 1) ((k : Int) / (W : Int)) y)
      have R2 := Lib.hid (fun y => C.out ((k : Int) % (W : Int)) ((k : Int) / (W : Int) + 1) y)
      have R3 := Lib.hid (fun y => C.out ((k : Int) % (W : Int) + 1) ((k : Int) / (W : Int) + 1) y)
      clear C
      generalize winTo W q k = s at *
      generalize q ((k : Int) % (W : Int)) ((k : Int) / (W : Int)) = r0 at *
      generalize q ((k : Int) % (W : Int) + 1) ((k : Int) / (W : Int)) = r1 at *
      generalize q ((k : Int) % (W : Int)) ((k : Int) / (W : Int) + 1) = r2 at *
      generalize q ((k : Int) % (W : Int) + 1) ((k : Int) / (W : Int) + 1) = r3 at *
      have REL : Hid (∀ (t : Int) (w' : World), winTo W q (k + 1) = t → (∃ y : Later z.val, w' = y.val) → ∃ k' : Nat, k' ≤ n ∧ Value.int .i64 t = .int .i64 (winTo W q k') ∧ Value.int .i64 ((k : Int) + 1) = .int .i64 k' ∧ ∃ y : Later z.val, w' = y.val) := fun t w' ht hy =>
        ⟨k + 1, by omega, by rw [ht], rfl, hy⟩
      cases r0
      · clear R1 R2 R3
        go_wp2_with fail
        first | (with_reducible show Code.wp _ _ _ _ (Later.val _); refine wp_region_later_at _ (by kernel_rfl) (by kernel_rfl) ?_) | refine wp_region_later (by kernel_rfl) (by kernel_rfl) ?_
        repeat (go_big_quiet_step ((fail)))
        refine wpQuiet_nil ?_
        intro y0
        go_wp2_with (first | (go_at_call 80; (first | (with_reducible show Calls _ _ _ (Later.val _) _; with_reducible refine Calls.mono (Later.call _ (R0.out _)) ?_) | (with_reducible refine Calls.mono (Gives.calls (R0.out _)) ?_)); rintro e w1 ⟨rfl, z0, rfl⟩) | (go_at_call 80; (first | (with_reducible show Calls _ _ _ (Later.val _) _; with_reducible refine Calls.mono (Later.call _ (R1.out _)) ?_) | (with_reducible refine Calls.mono (Gives.calls (R1.out _)) ?_)); rintro e w1 ⟨rfl, z1, rfl⟩) | (go_at_call 80; (first | (with_reducible show Calls _ _ _ (Later.val _) _; with_reducible refine Calls.mono (Later.call _ (R2.out _)) ?_) | (with_reducible refine Calls.mono (Gives.calls (R2.out _)) ?_)); rintro e w1 ⟨rfl, z2, rfl⟩) | (go_at_call 80; (first | (with_reducible show Calls _ _ _ (Later.val _) _; with_reducible refine Calls.mono (Later.call _ (R3.out _)) ?_) | (with_reducible refine Calls.mono (Gives.calls (R3.out _)) ?_)); rintro e w1 ⟨rfl, z3, rfl⟩))
        go_roundw
        case rel => exact REL.out _ _ (by rw [HS.out]; simp <;> omega) ⟨_, rfl⟩
        case measure => simp [intOf]; omega
      · cases r1
        · cases r2
          · clear R3
            go_wp2_with fail
            first | (with_reducible show Code.wp _ _ _ _ (Later.val _); refine wp_region_later_at _ (by kernel_rfl) (by kernel_rfl) ?_) | refine wp_region_later (by kernel_rfl) (by kernel_rfl) ?_
            repeat (go_big_quiet_step ((fail)))
            refine wpQuiet_nil ?_
            intro y0
            go_wp2_with (first | (go_at_call 80; (first | (with_reducible show Calls _ _ _ (Later.val _) _; with_reducible refine Calls.mono (Later.call _ (R0.out _)) ?_) | (with_reducible refine Calls.mono (Gives.calls (R0.out _)) ?_)); rintro e w1 ⟨rfl, z0, rfl⟩) | (go_at_call 80; (first | (with_reducible show Calls _ _ _ (Later.val _) _; with_reducible refine Calls.mono (Later.call _ (R1.out _)) ?_) | (with_reducible refine Calls.mono (Gives.calls (R1.out _)) ?_)); rintro e w1 ⟨rfl, z1, rfl⟩) | (go_at_call 80; (first | (with_reducible show Calls _ _ _ (Later.val _) _; with_reducible refine Calls.mono (Later.call _ (R2.out _)) ?_) | (with_reducible refine Calls.mono (Gives.calls (R2.out _)) ?_)); rintro e w1 ⟨rfl, z2, rfl⟩) | (go_at_call 80; (first | (with_reducible show Calls _ _ _ (Later.val _) _; with_reducible refine Calls.mono (Later.call _ (R3.out _)) ?_) | (with_reducible refine Calls.mono (Gives.calls (R3.out _)) ?_)); rintro e w1 ⟨rfl, z3, rfl⟩))
            go_roundw
            case rel => exact REL.out _ _ (by rw [HS.out]; simp <;> omega) ⟨_, rfl⟩
            case measure => simp [intOf]; omega
          · clear R3
            go_wp2_with fail
            first | (with_reducible show Code.wp _ _ _ _ (Later.val _); refine wp_region_later_at _ (by kernel_rfl) (by kernel_rfl) ?_) | refine wp_region_later (by kernel_rfl) (by kernel_rfl) ?_
            repeat (go_big_quiet_step ((fail)))
            refine wpQuiet_nil ?_
            intro y0
            go_wp2_with (first | (go_at_call 80; (first | (with_reducible show Calls _ _ _ (Later.val _) _; with_reducible refine Calls.mono (Later.call _ (R0.out _)) ?_) | (with_reducible refine Calls.mono (Gives.calls (R0.out _)) ?_)); rintro e w1 ⟨rfl, z0, rfl⟩) | (go_at_call 80; (first | (with_reducible show Calls _ _ _ (Later.val _) _; with_reducible refine Calls.mono (Later.call _ (R1.out _)) ?_) | (with_reducible refine Calls.mono (Gives.calls (R1.out _)) ?_)); rintro e w1 ⟨rfl, z1, rfl⟩) | (go_at_call 80; (first | (with_reducible show Calls _ _ _ (Later.val _) _; with_reducible refine Calls.mono (Later.call _ (R2.out _)) ?_) | (with_reducible refine Calls.mono (Gives.calls (R2.out _)) ?_)); rintro e w1 ⟨rfl, z2, rfl⟩) | (go_at_call 80; (first | (with_reducible show Calls _ _ _ (Later.val _) _; with_reducible refine Calls.mono (Later.call _ (R3.out _)) ?_) | (with_reducible refine Calls.mono (Gives.calls (R3.out _)) ?_)); rintro e w1 ⟨rfl, z3, rfl⟩))
            go_roundw
            case rel => exact REL.out _ _ (by rw [HS.out]; simp <;> omega) ⟨_, rfl⟩
            case measure => simp [intOf]; omega
        · cases r2
          · clear R3
            go_wp2_with fail
            first | (with_reducible show Code.wp _ _ _ _ (Later.val _); refine wp_region_later_at _ (by kernel_rfl) (by kernel_rfl) ?_) | refine wp_region_later (by kernel_rfl) (by kernel_rfl) ?_
            repeat (go_big_quiet_step ((fail)))
            refine wpQuiet_nil ?_
            intro y0
            go_wp2_with (first | (go_at_call 80; (first | (with_reducible show Calls _ _ _ (Later.val _) _; with_reducible refine Calls.mono (Later.call _ (R0.out _)) ?_) | (with_reducible refine Calls.mono (Gives.calls (R0.out _)) ?_)); rintro e w1 ⟨rfl, z0, rfl⟩) | (go_at_call 80; (first | (with_reducible show Calls _ _ _ (Later.val _) _; with_reducible refine Calls.mono (Later.call _ (R1.out _)) ?_) | (with_reducible refine Calls.mono (Gives.calls (R1.out _)) ?_)); rintro e w1 ⟨rfl, z1, rfl⟩) | (go_at_call 80; (first | (with_reducible show Calls _ _ _ (Later.val _) _; with_reducible refine Calls.mono (Later.call _ (R2.out _)) ?_) | (with_reducible refine Calls.mono (Gives.calls (R2.out _)) ?_)); rintro e w1 ⟨rfl, z2, rfl⟩) | (go_at_call 80; (first | (with_reducible show Calls _ _ _ (Later.val _) _; with_reducible refine Calls.mono (Later.call _ (R3.out _)) ?_) | (with_reducible refine Calls.mono (Gives.calls (R3.out _)) ?_)); rintro e w1 ⟨rfl, z3, rfl⟩))
            go_roundw
            case rel => exact REL.out _ _ (by rw [HS.out]; simp <;> omega) ⟨_, rfl⟩
            case measure => simp [intOf]; omega
          · cases r3
            · skip
              go_wp2_with fail
              first | (with_reducible show Code.wp _ _ _ _ (Later.val _); refine wp_region_later_at _ (by kernel_rfl) (by kernel_rfl) ?_) | refine wp_region_later (by kernel_rfl) (by kernel_rfl) ?_
              repeat (go_big_quiet_step ((fail)))
              refine wpQuiet_nil ?_
              intro y0
              go_wp2_with (first | (go_at_call 80; (first | (with_reducible show Calls _ _ _ (Later.val _) _; with_reducible refine Calls.mono (Later.call _ (R0.out _)) ?_) | (with_reducible refine Calls.mono (Gives.calls (R0.out _)) ?_)); rintro e w1 ⟨rfl, z0, rfl⟩) | (go_at_call 80; (first | (with_reducible show Calls _ _ _ (Later.val _) _; with_reducible refine Calls.mono (Later.call _ (R1.out _)) ?_) | (with_reducible refine Calls.mono (Gives.calls (R1.out _)) ?_)); rintro e w1 ⟨rfl, z1, rfl⟩) | (go_at_call 80; (first | (with_reducible show Calls _ _ _ (Later.val _) _; with_reducible refine Calls.mono (Later.call _ (R2.out _)) ?_) | (with_reducible refine Calls.mono (Gives.calls (R2.out _)) ?_)); rintro e w1 ⟨rfl, z2, rfl⟩) | (go_at_call 80; (first | (with_reducible show Calls _ _ _ (Later.val _) _; with_reducible refine Calls.mono (Later.call _ (R3.out _)) ?_) | (with_reducible refine Calls.mono (Gives.calls (R3.out _)) ?_)); rintro e w1 ⟨rfl, z3, rfl⟩))
              go_roundw
              case rel => exact REL.out _ _ (by rw [HS.out]; simp <;> omega) ⟨_, rfl⟩
              case measure => simp [intOf]; omega
            · skip
              go_wp2_with fail
              first | (with_reducible show Code.wp _ _ _ _ (Later.val _); refine wp_region_later_at _ (by kernel_rfl) (by kernel_rfl) ?_) | refine wp_region_later (by kernel_rfl) (by kernel_rfl) ?_
              repeat (go_big_quiet_step ((fail)))
              refine wpQuiet_nil ?_
              intro y0
              go_wp2_with (first | (go_at_call 80; (first | (with_reducible show Calls _ _ _ (Later.val _) _; with_reducible refine Calls.mono (Later.call _ (R0.out _)) ?_) | (with_reducible refine Calls.mono (Gives.calls (R0.out _)) ?_)); rintro e w1 ⟨rfl, z0, rfl⟩) | (go_at_call 80; (first | (with_reducible show Calls _ _ _ (Later.val _) _; with_reducible refine Calls.mono (Later.call _ (R1.out _)) ?_) | (with_reducible refine Calls.mono (Gives.calls (R1.out _)) ?_)); rintro e w1 ⟨rfl, z1, rfl⟩) | (go_at_call 80; (first | (with_reducible show Calls _ _ _ (Later.val _) _; with_reducible refine Calls.mono (Later.call _ (R2.out _)) ?_) | (with_reducible refine Calls.mono (Gives.calls (R2.out _)) ?_)); rintro e w1 ⟨rfl, z2, rfl⟩) | (go_at_call 80; (first | (with_reducible show Calls _ _ _ (Later.val _) _; with_reducible refine Calls.mono (Later.call _ (R3.out _)) ?_) | (with_reducible refine Calls.mono (Gives.calls (R3.out _)) ?_)); rintro e w1 ⟨rfl, z3, rfl⟩))
              go_roundw
              case rel => exact REL.out _ _ (by rw [HS.out]; simp <;> omega) ⟨_, rfl⟩
              case measure => simp [intOf]; omega
    · obtain rfl : k = n := by omega
      have hlt' : ¬ (k : Int) < (W : Int) * (H : Int) := by rw [← HN.out]; omega
      go_wp2
      go_ret2
      exact ⟨rfl, later_of (by repeat (first | exact Below.refl _ _ | (with_reducible assumption) | apply below_later | apply below_alloc | apply below_drew | apply below_drewN))⟩
end Go.Proofs.YtajfepogecakbaaDoor
