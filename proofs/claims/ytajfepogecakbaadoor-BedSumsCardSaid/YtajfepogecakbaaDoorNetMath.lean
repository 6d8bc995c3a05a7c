/- What stands around a square, in plain numbers; the pairs that hang together. -/
import Derived.Test.YtajfepogecakbaaDoorNets
namespace Go.Proofs.YtajfepogecakbaaDoor

theorem int_mod (i W : Nat) : (i : Int) % (W : Int) = ((i % W : Nat) : Int) := (Int.natCast_emod _ _).symm
theorem int_div (i W : Nat) : (i : Int) / (W : Int) = ((i / W : Nat) : Int) := (Int.natCast_ediv _ _).symm
theorem pick_some {W H i p j : Nat} (h : pickP W H i p = some j) : p ≠ 4 ∧ ∃ x y : Nat, (x : Int) = plX W i p ∧ (y : Int) = plY W i p ∧ x < W ∧ y < H ∧ j = y * W + x := by
  unfold pickP at h
  split at h
  · rename_i hk
    obtain rfl := Option.some.inj h
    unfold okP insB at hk
    simp only [Bool.and_eq_true, decide_eq_true_eq, bne_iff_ne] at hk
    obtain ⟨h0, h1, h2, h3, h4⟩ := hk
    refine ⟨h0, (plX W i p).toNat, (plY W i p).toNat, by omega, by omega, by omega, by omega, ?_⟩
    unfold idP
    have e1 : plY W i p = (((plY W i p).toNat : Nat) : Int) := by omega
    have e2 : plX W i p = (((plX W i p).toNat : Nat) : Int) := by omega
    generalize (plY W i p).toNat = y at *
    generalize (plX W i p).toNat = x at *
    rw [e1, e2, ← Int.natCast_mul]
    omega
  · cases h
theorem mem_around {W H i j : Nat} (hW : 1 ≤ W) : j ∈ aroundL W H i ↔ j < W * H ∧ j ≠ i ∧ Near W i j := by
  unfold aroundL
  rw [List.mem_filterMap]
  constructor
  · rintro ⟨p, hp, h⟩
    obtain ⟨h4, x, y, ex, ey, hx, hy, rfl⟩ := pick_some h
    have hp9 := List.mem_range.1 hp
    have mx : (y * W + x) % W = x := cell_x hx
    have my : (y * W + x) / W = y := cell_y hx
    unfold plX at ex
    unfold plY at ey
    rw [int_mod] at ex
    rw [int_div] at ey
    refine ⟨cell_lt hx hy, fun e => ?_, ?_⟩
    · rw [e] at mx my
      omega
    · unfold Near
      rw [mx, my]
      omega
  · rintro ⟨hj, hne, ⟨hn1, hn2⟩, hn3, hn4⟩
    refine ⟨(j / W + 1 - i / W) * 3 + (j % W + 1 - i % W), List.mem_range.2 (by omega), ?_⟩
    have hx : j % W < W := Nat.mod_lt _ (by omega)
    have hy : j / W < H := Nat.div_lt_of_lt_mul hj
    have ce := cell_eq (W := W) j
    have ci := cell_eq (W := W) i
    have key : ∀ a b c d : Nat, a < W → b < H → c ≤ a + 1 → a ≤ c + 1 → d ≤ b + 1 → b ≤ d + 1 → ¬ (a = c ∧ b = d) → i % W = c → i / W = d → pickP W H i ((b + 1 - d) * 3 + (a + 1 - c)) = some (b * W + a) := by
      intro a b c d ha hb h1 h2 h3 h4 hne ec ed
      obtain ⟨p, hp⟩ : ∃ p, (b + 1 - d) * 3 + (a + 1 - c) = p := ⟨_, rfl⟩
      rw [hp]
      have e1 : plX W i p = (a : Int) := by unfold plX; rw [int_mod, ec]; omega
      have e2 : plY W i p = (b : Int) := by unfold plY; rw [int_div, ed]; omega
      have h4 : p ≠ 4 := by omega
      have hok : okP W H i p = true := by
        unfold okP insB
        rw [e1, e2]
        simp only [Bool.and_eq_true, bne_iff_ne, decide_eq_true_eq]
        omega
      have hid : idP W i p = b * W + a := by
        unfold idP
        rw [e1, e2, ← Int.natCast_mul]
        omega
      unfold pickP
      rw [if_pos hok, hid]
    have := key (j % W) (j / W) (i % W) (i / W) hx hy hn1 hn2 hn3 hn4 (fun ⟨a1, a2⟩ => hne (by rw [a1, a2] at ce; exact ce.symm.trans ci)) rfl rfl
    rw [this, ce]
theorem mem_nbrs {W H i j : Nat} (hW : 1 ≤ W) : j ∈ nbrs W H i ↔ j < W * H ∧ j ≠ i ∧ Near W i j ∧ (j % W = i % W ∨ j / W = i / W) := by
  unfold nbrs
  rw [List.mem_filter, mem_around hW]
  unfold beside
  simp only [Bool.or_eq_true, beq_iff_eq]
  exact ⟨fun ⟨⟨a, b, c⟩, d⟩ => ⟨a, b, c, d⟩, fun ⟨a, b, c, d⟩ => ⟨⟨a, b, c⟩, d⟩⟩
theorem near_symm {W i j : Nat} (h : Near W i j) : Near W j i := ⟨⟨h.1.2, h.1.1⟩, h.2.2, h.2.1⟩

/-- The pairs of N squares that hang together. -/
def pairsOf (N : Nat) (bel : Nat → Bool) (nx : Nat → List Nat) : List (Nat × Nat) := (List.range N).flatMap fun i => ((nx i).filter fun j => decide (j < N) && bel i && bel j).map fun j => (i, j)
theorem mem_pairs {N : Nat} {bel : Nat → Bool} {nx : Nat → List Nat} {i j : Nat} : (i, j) ∈ pairsOf N bel nx ↔ i < N ∧ j < N ∧ j ∈ nx i ∧ bel i = true ∧ bel j = true := by
  unfold pairsOf
  simp only [List.mem_flatMap, List.mem_range, List.mem_map, List.mem_filter, Bool.and_eq_true, decide_eq_true_eq, Prod.mk.injEq]
  constructor
  · rintro ⟨a, ha, b, ⟨h1, ⟨h2, h3⟩, h4⟩, rfl, rfl⟩
    exact ⟨ha, h2, h1, h3, h4⟩
  · rintro ⟨h1, h2, h3, h4, h5⟩
    exact ⟨i, h1, j, ⟨h3, ⟨h2, h4⟩, h5⟩, rfl, rfl⟩
theorem net_of {N : Nat} {bel : Nat → Bool} {nx : Nat → List Nat} (hlt : ∀ i j, j ∈ nx i → j < N) (hs : ∀ i j, i < N → j < N → j ∈ nx i → i ∈ nx j) : Net (pairsOf N bel nx) bel N nx where
  edge i j h := by
    obtain ⟨h1, h2, h3, h4, h5⟩ := mem_pairs.1 h
    exact ⟨h1, h2, h4, h5, h3, hs i j h1 h2 h3⟩
  link i j hi hb hj hbj := ⟨hlt i j hj, Conn.edge (mem_pairs.2 ⟨hi, hlt i j hj, hj, hb, hbj⟩)⟩
section
variable (W H : Nat) (f : Nat → Int)
def esPools : List (Nat × Nat) := pairsOf (W * H) (belPools f) (nxPools W H)
def esBeds : List (Nat × Nat) := pairsOf (W * H) (belBeds f) (nxBeds W H)
variable {W H f}
theorem net_pools (hW : 1 ≤ W) : Net (esPools W H f) (belPools f) (W * H) (nxPools W H) :=
  net_of (fun _ _ h => nxPools_lt h) fun i j hi _ h => by
    obtain ⟨_, h2, h3⟩ := (mem_around hW).1 h
    exact (mem_around hW).2 ⟨hi, fun e => h2 e.symm, near_symm h3⟩
theorem net_beds (hW : 1 ≤ W) : Net (esBeds W H f) (belBeds f) (W * H) (nxBeds W H) :=
  net_of (fun _ _ h => nxBeds_lt h) fun i j hi _ h => by
    obtain ⟨_, h2, h3, h4⟩ := (mem_nbrs hW).1 h
    exact (mem_nbrs hW).2 ⟨hi, fun e => h2 e.symm, near_symm h3, h4.imp Eq.symm Eq.symm⟩
theorem dry_pools (hW : 1 ≤ W) : IsDry W H (isReed f) (esPools W H f) := by
  intro i j
  unfold esPools
  rw [mem_pairs]
  unfold nxPools
  rw [mem_around hW]
  unfold belPools
  simp only [Bool.not_eq_true']
  exact ⟨fun ⟨h1, h2, ⟨_, h4, h5⟩, h6, h7⟩ => ⟨h1, h2, h6, h7, h5, fun e => h4 e.symm⟩, fun ⟨h1, h2, h6, h7, h5, h4⟩ => ⟨h1, h2, ⟨h2, fun e => h4 e.symm, h5⟩, h6, h7⟩⟩
end
end Go.Proofs.YtajfepogecakbaaDoor
