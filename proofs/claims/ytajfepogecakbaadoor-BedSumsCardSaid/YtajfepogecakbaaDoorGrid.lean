/- A map's squares and the places between them. -/
import Derived.Test.YtajfepogecakbaaDoorEuler
namespace Go.Proofs.YtajfepogecakbaaDoor

/-! A map's squares, and the places between them: place 0 is outside. -/
section
variable (W H : Nat)
/-- The place whose lower right square is (i, j): 0 where it is no window. -/
def pl (i j : Nat) : Nat := if 1 ≤ i ∧ i < W ∧ 1 ≤ j ∧ j < H then 1 + (j - 1) * (W - 1) + (i - 1) else 0
def edR (i : Nat) : Dual := ⟨i, i + 1, pl W H (i % W + 1) (i / W), pl W H (i % W + 1) (i / W + 1)⟩
def edD (i : Nat) : Dual := ⟨i, i + W, pl W H (i % W) (i / W + 1), pl W H (i % W + 1) (i / W + 1)⟩
def edgesAt (i : Nat) : List Dual := (if i % W + 1 < W then [edR W H i] else []) ++ (if i / W + 1 < H then [edD W H i] else [])
def edges : List Dual := (List.range (W * H)).flatMap (edgesAt W H)
end

theorem lsum_flatMap {α β : Type} (l : List α) (k : α → List β) (f : β → Nat) : lsum (l.flatMap k) f = lsum l fun a => lsum (k a) f := by
  induction l with
  | nil => rfl
  | cons a l ih => rw [List.flatMap_cons, lsum_append, lsum_cons, ih]
theorem lsum_pick {n x : Nat} (c : Nat → Nat) : (lsum (List.range n) fun i => c i * ind (i = x)) = if x < n then c x else 0 := by
  rw [← lsum_one (n := n) (x := x) (c x)]
  apply lsum_congr
  intro i _
  by_cases h : i = x
  · subst h; rw [if_pos rfl, ind_pos rfl, Nat.mul_one]
  · rw [if_neg h, ind_neg h, Nat.mul_zero]
theorem lsum_shift {n x s : Nat} (c : Nat → Nat) : (lsum (List.range n) fun i => c i * ind (i + s = x)) = if s ≤ x ∧ x - s < n then c (x - s) else 0 := by
  by_cases h : s ≤ x
  · have := lsum_pick (n := n) (x := x - s) c
    have e : (lsum (List.range n) fun i => c i * ind (i + s = x)) = lsum (List.range n) fun i => c i * ind (i = x - s) := by
      apply lsum_congr
      intro i _
      congr 1
      by_cases k : i = x - s
      · rw [ind_pos k, ind_pos (by omega)]
      · rw [ind_neg k, ind_neg (by omega)]
    rw [e, this]
    by_cases k : x - s < n
    · rw [if_pos k, if_pos ⟨h, k⟩]
    · rw [if_neg k, if_neg (fun q => k q.2)]
  · rw [if_neg (fun q => h q.1)]
    have e : (lsum (List.range n) fun i => c i * ind (i + s = x)) = lsum (List.range n) fun _ => 0 := by
      apply lsum_congr
      intro i _
      rw [ind_neg (by omega), Nat.mul_zero]
    rw [e]
    induction n with
    | zero => rfl
    | succ n ih => rw [List.range_succ, lsum_append, lsum_cons, lsum_nil]; simp only [Nat.add_zero]; exact ih (by
        apply lsum_congr; intro i _; rw [ind_neg (by omega), Nat.mul_zero])

section
variable {W H : Nat}
theorem cell_lt {x y : Nat} (hx : x < W) (hy : y < H) : y * W + x < W * H := by
  have : (y + 1) * W ≤ H * W := Nat.mul_le_mul_right _ (by omega)
  rw [Nat.add_mul] at this
  rw [Nat.mul_comm W H]; omega
theorem cell_x {x y : Nat} (hx : x < W) : (y * W + x) % W = x := by rw [Nat.mul_comm, Nat.mul_add_mod, Nat.mod_eq_of_lt hx]
theorem cell_y {x y : Nat} (hx : x < W) : (y * W + x) / W = y := by rw [Nat.mul_comm, Nat.mul_add_div (by omega), Nat.div_eq_of_lt hx, Nat.add_zero]
theorem div_less {x : Nat} (h : W ≤ x) (h0 : 1 ≤ W) : (x - W) / W = x / W - 1 := by
  have := Nat.add_div_right (x - W) (show 0 < W by omega)
  rw [Nat.sub_add_cancel h] at this
  generalize (x - W) / W = a at *
  generalize x / W = b at *
  omega
theorem cell_eq (i : Nat) : i / W * W + i % W = i := by rw [Nat.mul_comm]; exact Nat.div_add_mod i W
theorem row_lt {i : Nat} (h : i < W * H) : i / W < H := Nat.div_lt_of_lt_mul h
theorem col_lt {i : Nat} (h : i < W * H) : i % W < W := Nat.mod_lt _ (by rcases Nat.eq_zero_or_pos W with e | e; (rw [e] at h; simp at h); exact e)

theorem pl_lt (i j : Nat) : pl W H i j < (W - 1) * (H - 1) + 1 := by
  unfold pl
  split
  · rename_i h
    have : (j - 1 + 1) * (W - 1) ≤ (H - 1) * (W - 1) := Nat.mul_le_mul_right _ (by omega)
    rw [Nat.add_mul] at this
    rw [Nat.mul_comm (W - 1)]; omega
  · omega
theorem pl_inj {i j i' j' : Nat} (h0 : pl W H i j ≠ 0) (h : pl W H i j = pl W H i' j') : i = i' ∧ j = j' := by
  have h0' : pl W H i' j' ≠ 0 := h ▸ h0
  unfold pl at h h0 h0'
  split at h0
  · rename_i a
    split at h0'
    · rename_i b
      rw [if_pos a, if_pos b] at h
      have e1 := cell_x (W := W - 1) (x := i - 1) (y := j - 1) (by omega)
      have e2 := cell_x (W := W - 1) (x := i' - 1) (y := j' - 1) (by omega)
      have e3 := cell_y (W := W - 1) (x := i - 1) (y := j - 1) (by omega)
      have e4 := cell_y (W := W - 1) (x := i' - 1) (y := j' - 1) (by omega)
      have e : (j - 1) * (W - 1) + (i - 1) = (j' - 1) * (W - 1) + (i' - 1) := by omega
      rw [e] at e1 e3
      omega
    · exact absurd rfl h0'
  · exact absurd rfl h0
theorem pl_out {i j : Nat} (h : i = 0 ∨ W ≤ i ∨ j = 0 ∨ H ≤ j) : pl W H i j = 0 := by unfold pl; rw [if_neg (by omega)]
theorem pl_in {i j : Nat} (h1 : 1 ≤ i) (h2 : i < W) (h3 : 1 ≤ j) (h4 : j < H) : pl W H i j ≠ 0 := by unfold pl; rw [if_pos ⟨h1, h2, h3, h4⟩]; omega
theorem pl_sur {p : Nat} (h0 : p ≠ 0) (h : p < (W - 1) * (H - 1) + 1) : ∃ i j, 1 ≤ i ∧ i < W ∧ 1 ≤ j ∧ j < H ∧ pl W H i j = p := by
  have hp : p - 1 < (W - 1) * (H - 1) := by omega
  have h1 := col_lt hp
  have h2 := row_lt hp
  have h3 := cell_eq (W := W - 1) (p - 1)
  generalize (p - 1) % (W - 1) = a at *
  generalize (p - 1) / (W - 1) = b at *
  refine ⟨a + 1, b + 1, by omega, by omega, by omega, by omega, ?_⟩
  unfold pl
  rw [if_pos ⟨by omega, by omega, by omega, by omega⟩]
  simp only [Nat.add_sub_cancel]
  omega

noncomputable def dif (A : Nat → Prop) (f g : Nat) : Nat := ind (A f ∧ ¬ A g ∨ ¬ A f ∧ A g)
theorem dif_self (A : Nat → Prop) (f : Nat) : dif A f f = 0 := ind_neg (by rintro (⟨h, k⟩ | ⟨h, k⟩); exact k h; exact h k)
theorem dif_round (A : Nat → Prop) (a b c d : Nat) : (dif A a b + dif A c d + dif A a c + dif A b d) % 2 = 0 := by
  unfold dif
  by_cases ha : A a <;> by_cases hb : A b <;> by_cases hc : A c <;> by_cases hd : A d <;> simp [ind, ha, hb, hc, hd]

theorem even_edges (hW : 1 ≤ W) : EvenAt (W * H) (edges W H) := by
  intro A x hx
  have hy := row_lt hx
  have hc := col_lt hx
  have hxe := cell_eq (W := W) x
  unfold edges
  rw [lsum_flatMap]
  have e : (lsum (List.range (W * H)) fun i => lsum (edgesAt W H i) fun d => ind (A d.f ∧ ¬ A d.g ∨ ¬ A d.f ∧ A d.g) * (ind (d.u = x) + ind (d.v = x)))
      = (lsum (List.range (W * H)) fun i => (if i % W + 1 < W then dif A (edR W H i).f (edR W H i).g else 0) * ind (i = x)) + (lsum (List.range (W * H)) fun i => (if i % W + 1 < W then dif A (edR W H i).f (edR W H i).g else 0) * ind (i + 1 = x))
        + ((lsum (List.range (W * H)) fun i => (if i / W + 1 < H then dif A (edD W H i).f (edD W H i).g else 0) * ind (i = x)) + (lsum (List.range (W * H)) fun i => (if i / W + 1 < H then dif A (edD W H i).f (edD W H i).g else 0) * ind (i + W = x))) := by
    rw [← lsum_add, ← lsum_add, ← lsum_add]
    apply lsum_congr
    intro i _
    unfold edgesAt
    rw [lsum_append]
    congr 1
    · split
      · rw [lsum_cons, lsum_nil, Nat.add_zero, Nat.mul_add]; rfl
      · simp [lsum_nil]
    · split
      · rw [lsum_cons, lsum_nil, Nat.add_zero, Nat.mul_add]; rfl
      · simp [lsum_nil]
  rw [e, lsum_pick, lsum_shift, lsum_pick, lsum_shift, if_pos hx, if_pos hx]
  -- the four places around x
  have r := dif_round A (pl W H (x % W + 1) (x / W)) (pl W H (x % W + 1) (x / W + 1)) (pl W H (x % W) (x / W)) (pl W H (x % W) (x / W + 1))
  have t1 : (if x % W + 1 < W then dif A (edR W H x).f (edR W H x).g else 0) = dif A (pl W H (x % W + 1) (x / W)) (pl W H (x % W + 1) (x / W + 1)) := by
    split
    · rfl
    · rw [pl_out (j := x / W) (by omega), pl_out (j := x / W + 1) (by omega), dif_self]
  have t2 : (if x / W + 1 < H then dif A (edD W H x).f (edD W H x).g else 0) = dif A (pl W H (x % W) (x / W + 1)) (pl W H (x % W + 1) (x / W + 1)) := by
    split
    · rfl
    · rw [pl_out (i := x % W) (by omega), pl_out (i := x % W + 1) (by omega), dif_self]
  have t3 : (if 1 ≤ x ∧ x - 1 < W * H then (if (x - 1) % W + 1 < W then dif A (edR W H (x - 1)).f (edR W H (x - 1)).g else 0) else 0) = dif A (pl W H (x % W) (x / W)) (pl W H (x % W) (x / W + 1)) := by
    by_cases h0 : x % W = 0
    · rw [h0, pl_out (j := x / W) (by omega), pl_out (j := x / W + 1) (by omega), dif_self]
      split
      · rename_i h1
        rw [if_neg]
        intro h2
        have k1 := cell_eq (W := W) (x - 1)
        have k2 := cell_x (W := W) (x := (x - 1) % W + 1) (y := (x - 1) / W) h2
        rw [show (x - 1) / W * W + ((x - 1) % W + 1) = x by omega] at k2
        omega
      · rfl
    · have k : (x / W) * W + (x % W - 1) = x - 1 := by omega
      have k2 := cell_x (W := W) (x := x % W - 1) (y := x / W) (by omega)
      have k3 := cell_y (W := W) (x := x % W - 1) (y := x / W) (by omega)
      rw [k] at k2 k3
      rw [if_pos ⟨by omega, by omega⟩, if_pos (by omega)]
      show dif A (pl W H ((x - 1) % W + 1) ((x - 1) / W)) (pl W H ((x - 1) % W + 1) ((x - 1) / W + 1)) = _
      rw [k2, k3, show x % W - 1 + 1 = x % W by omega]
  have t4 : (if W ≤ x ∧ x - W < W * H then (if (x - W) / W + 1 < H then dif A (edD W H (x - W)).f (edD W H (x - W)).g else 0) else 0) = dif A (pl W H (x % W) (x / W)) (pl W H (x % W + 1) (x / W)) := by
    by_cases h0 : x / W = 0
    · rw [h0, pl_out (i := x % W) (by omega), pl_out (i := x % W + 1) (by omega), dif_self, if_neg]
      intro h1
      have := Nat.div_pos h1.1 (by omega)
      omega
    · have hge : W ≤ x := by
        rcases Nat.lt_or_ge x W with h | h
        · rw [Nat.div_eq_of_lt h] at h0; omega
        · exact h
      have k2 : (x - W) % W = x % W := (Nat.mod_eq_sub_mod hge).symm
      have k3 : (x - W) / W = x / W - 1 := div_less hge hW
      have q2 : (x - W) / W + 1 < H := by
        rw [k3]
        clear e k2 k3 t1 t2 t3 r
        generalize x / W = q at *
        omega
      rw [if_pos ⟨hge, Nat.lt_of_le_of_lt (Nat.sub_le _ _) hx⟩, if_pos q2]
      show dif A (pl W H ((x - W) % W) ((x - W) / W + 1)) (pl W H ((x - W) % W + 1) ((x - W) / W + 1)) = _
      rw [k2, k3, Nat.sub_add_cancel (Nat.pos_of_ne_zero h0)]
  rw [t1, t2, t3, t4]
  have s1 : dif A (pl W H (x % W + 1) (x / W)) (pl W H (x % W) (x / W)) = dif A (pl W H (x % W) (x / W)) (pl W H (x % W + 1) (x / W)) := by
    unfold dif; congr 1; rw [eq_iff_iff]; exact ⟨fun h => h.elim (fun k => .inr ⟨k.2, k.1⟩) (fun k => .inl ⟨k.2, k.1⟩), fun h => h.elim (fun k => .inr ⟨k.2, k.1⟩) (fun k => .inl ⟨k.2, k.1⟩)⟩
  have s2 : dif A (pl W H (x % W + 1) (x / W + 1)) (pl W H (x % W) (x / W + 1)) = dif A (pl W H (x % W) (x / W + 1)) (pl W H (x % W + 1) (x / W + 1)) := by
    unfold dif; congr 1; rw [eq_iff_iff]; exact ⟨fun h => h.elim (fun k => .inr ⟨k.2, k.1⟩) (fun k => .inl ⟨k.2, k.1⟩), fun h => h.elim (fun k => .inr ⟨k.2, k.1⟩) (fun k => .inl ⟨k.2, k.1⟩)⟩
  omega

theorem lsum_rows (f : Nat → Nat) (W : Nat) : ∀ H, lsum (List.range (W * H)) f = lsum (List.range H) fun y => lsum (List.range W) fun x => f (y * W + x)
  | 0 => by simp [lsum]
  | H + 1 => by
    have e : List.range (W * (H + 1)) = List.range (W * H) ++ (List.range W).map (W * H + ·) := by
      rw [Nat.mul_add, Nat.mul_one, List.range_add]
    rw [e, lsum_append, lsum_rows f W H, List.range_succ, lsum_append, lsum_cons, lsum_nil, Nat.add_zero]
    congr 1
    simp only [lsum, List.map_map, Function.comp_def]
    rw [Nat.mul_comm]
theorem lsum_const {α : Type} (l : List α) (c : Nat) : (lsum l fun _ => c) = l.length * c := by
  induction l with
  | nil => simp [lsum]
  | cons a l ih => rw [lsum_cons, ih, List.length_cons, Nat.add_mul, Nat.one_mul, Nat.add_comm]
theorem lsum_below (n m : Nat) : (lsum (List.range n) fun i => if i + 1 < m then 1 else 0) = min n (m - 1) := by
  induction n with
  | zero => simp [lsum]
  | succ n ih => rw [List.range_succ, lsum_append, ih, lsum_cons, lsum_nil]; split <;> omega
theorem edges_length (hW : 1 ≤ W) (hH : 1 ≤ H) : (edges W H).length + 2 = W * H + ((W - 1) * (H - 1) + 1) := by
  have e0 : (edges W H).length = lsum (edges W H) fun _ => 1 := by rw [lsum_const, Nat.mul_one]
  rw [e0]
  unfold edges
  rw [lsum_flatMap]
  have e : (lsum (List.range (W * H)) fun i => lsum (edgesAt W H i) fun _ => 1) = (lsum (List.range (W * H)) fun i => if i % W + 1 < W then 1 else 0) + (lsum (List.range (W * H)) fun i => if i / W + 1 < H then 1 else 0) := by
    rw [← lsum_add]
    apply lsum_congr
    intro i _
    unfold edgesAt
    rw [lsum_append]
    congr 1 <;> split <;> rfl
  rw [e, lsum_rows, lsum_rows]
  have a1 : (lsum (List.range H) fun y => lsum (List.range W) fun x => if (y * W + x) % W + 1 < W then 1 else 0) = H * (W - 1) := by
    have : (lsum (List.range H) fun y => lsum (List.range W) fun x => if (y * W + x) % W + 1 < W then 1 else 0) = lsum (List.range H) fun _ => W - 1 := by
      apply lsum_congr
      intro y _
      rw [lsum_congr (g := fun x => if x + 1 < W then 1 else 0) (fun x hx => by rw [cell_x (List.mem_range.1 hx)]), lsum_below]
      omega
    rw [this, lsum_const, List.length_range]
  have a2 : (lsum (List.range H) fun y => lsum (List.range W) fun x => if (y * W + x) / W + 1 < H then 1 else 0) = W * (H - 1) := by
    have : (lsum (List.range H) fun y => lsum (List.range W) fun x => if (y * W + x) / W + 1 < H then 1 else 0) = lsum (List.range H) fun y => W * (if y + 1 < H then 1 else 0) := by
      apply lsum_congr
      intro y _
      rw [lsum_congr (g := fun _ => if y + 1 < H then 1 else 0) (fun x hx => by rw [cell_y (List.mem_range.1 hx)]), lsum_const, List.length_range]
    rw [this]
    have m : ∀ l : List Nat, (lsum l fun y => W * (if y + 1 < H then 1 else 0)) = W * lsum l fun y => if y + 1 < H then 1 else 0 := fun l => by
      induction l with
      | nil => simp [lsum]
      | cons a l ih => rw [lsum_cons, lsum_cons, ih, Nat.mul_add]
    rw [m, lsum_below]
    congr 1; omega
  rw [a1, a2]
  obtain ⟨w, rfl⟩ : ∃ w, W = w + 1 := ⟨W - 1, by omega⟩
  obtain ⟨h, rfl⟩ : ∃ h, H = h + 1 := ⟨H - 1, by omega⟩
  simp only [Nat.add_sub_cancel]
  grind

theorem mem_edges {d : Dual} : d ∈ edges W H ↔ ∃ i, i < W * H ∧ ((i % W + 1 < W ∧ d = edR W H i) ∨ (i / W + 1 < H ∧ d = edD W H i)) := by
  unfold edges
  rw [List.mem_flatMap]
  constructor
  · rintro ⟨i, hi, hd⟩
    refine ⟨i, List.mem_range.1 hi, ?_⟩
    unfold edgesAt at hd
    rcases List.mem_append.1 hd with h | h
    · split at h
      · exact .inl ⟨by assumption, by simpa using h⟩
      · cases h
    · split at h
      · exact .inr ⟨by assumption, by simpa using h⟩
      · cases h
  · rintro ⟨i, hi, h | h⟩
    · exact ⟨i, List.mem_range.2 hi, List.mem_append_left _ (by rw [if_pos h.1]; simp [h.2])⟩
    · exact ⟨i, List.mem_range.2 hi, List.mem_append_right _ (by rw [if_pos h.1]; simp [h.2])⟩
theorem edges_lt {d : Dual} (h : d ∈ edges W H) : (d.u < W * H ∧ d.v < W * H) ∧ (d.f < (W - 1) * (H - 1) + 1 ∧ d.g < (W - 1) * (H - 1) + 1) := by
  obtain ⟨i, hi, ⟨h', rfl⟩ | ⟨h', rfl⟩⟩ := mem_edges.1 h
  · refine ⟨⟨hi, ?_⟩, pl_lt _ _, pl_lt _ _⟩
    have := cell_lt (W := W) (H := H) h' (row_lt hi)
    have := cell_eq (W := W) i
    show i + 1 < W * H
    omega
  · refine ⟨⟨hi, ?_⟩, pl_lt _ _, pl_lt _ _⟩
    have := cell_lt (W := W) (H := H) (col_lt hi) h'
    have := cell_eq (W := W) i
    rw [Nat.add_mul] at *
    show i + W < W * H
    omega
theorem whole_prim (hW : 1 ≤ W) (hH : 1 ≤ H) : comps (W * H) (Conn (prim (edges W H))) = 1 := by
  refine comps_one (Nat.mul_pos hW hH) fun i hi => ?_
  induction i using Nat.strongRecOn with
  | _ i ih =>
    have hc := col_lt hi
    have hr := row_lt hi
    have he := cell_eq (W := W) i
    by_cases h0 : i % W = 0
    · by_cases h1 : i / W = 0
      · have : i = 0 := by rw [h0, h1] at he; omega
        subst this; exact .refl _
      · have hge : W ≤ i := by
          rcases Nat.lt_or_ge i W with h | h
          · rw [Nat.div_eq_of_lt h] at h1; omega
          · exact h
        have k3 : (i - W) / W = i / W - 1 := div_less hge hW
        refine .fwd (ih (i - W) (by omega) (by omega)) (List.mem_map.2 ⟨edD W H (i - W), mem_edges.2 ⟨i - W, by omega, .inr ⟨by rw [k3]; clear ih; generalize i / W = q at *; omega, rfl⟩⟩, ?_⟩)
        show (i - W, i - W + W) = _
        rw [Nat.sub_add_cancel hge]
    · have k : (i / W) * W + (i % W - 1) = i - 1 := by omega
      have k2 := cell_x (W := W) (x := i % W - 1) (y := i / W) (by omega)
      rw [k] at k2
      refine .fwd (ih (i - 1) (by omega) (by omega)) (List.mem_map.2 ⟨edR W H (i - 1), mem_edges.2 ⟨i - 1, by omega, .inl ⟨by omega, rfl⟩⟩, ?_⟩)
      show (i - 1, i - 1 + 1) = _
      rw [Nat.sub_add_cancel (by omega)]
theorem whole_dual : comps ((W - 1) * (H - 1) + 1) (Conn (dual (edges W H))) = 1 := by
  refine comps_one (by omega) fun p hp => ?_
  by_cases h0 : p = 0
  · subst h0; exact .refl _
  · obtain ⟨i, j, h1, h2, h3, h4, rfl⟩ := pl_sur h0 hp
    clear h0 hp
    have key : ∀ j, j < H → Conn (dual (edges W H)) 0 (pl W H i j) := by
      intro j
      induction j with
      | zero => intro _; rw [pl_out (by omega)]; exact .refl _
      | succ j ih =>
        intro hj
        refine .fwd (ih (by omega)) (List.mem_map.2 ⟨edR W H (j * W + (i - 1)), mem_edges.2 ⟨_, cell_lt (by omega) (by omega), .inl ⟨by rw [cell_x (by omega)]; omega, rfl⟩⟩, ?_⟩)
        show (pl W H ((j * W + (i - 1)) % W + 1) ((j * W + (i - 1)) / W), pl W H ((j * W + (i - 1)) % W + 1) ((j * W + (i - 1)) / W + 1)) = _
        rw [cell_x (by omega), cell_y (by omega), show i - 1 + 1 = i by omega]
    exact key j h4
end
end Go.Proofs.YtajfepogecakbaaDoor
