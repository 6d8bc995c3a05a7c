/- What small windows tell is how many beds there are, less the pools. -/
import Derived.Test.YtajfepogecakbaaDoorNetMath
import Derived.Test.YtajfepogecakbaaDoorPoolsMath
import Derived.Test.YtajfepogecakbaaDoorWindows
import Derived.Test.YtajfepogecakbaaDoorBedsC
namespace Go.Proofs.YtajfepogecakbaaDoor

theorem num_lsum (p : Nat → Prop) : ∀ n, num n p = lsum (List.range n) fun i => ind (p i)
  | 0 => rfl
  | n + 1 => by rw [num_succ, num_lsum p n, List.range_succ, lsum_append, lsum_cons, lsum_nil, Nat.add_zero]
theorem Conn.into {es fs : List (Nat × Nat)} (hs : ∀ a b, (a, b) ∈ es → Conn fs a b) {u v : Nat} (h : Conn es u v) : Conn fs u v := by
  induction h with
  | refl => exact .refl _
  | fwd _ he ih => exact ih.trans (hs _ _ he)
  | bwd _ he ih => exact ih.trans (hs _ _ he).symm
section
variable {W H : Nat} {f : Nat → Int}
theorem rd_at {x y : Nat} : rdB W H f (x : Int) (y : Int) = (decide (x < W ∧ y < H) && isReed f (y * W + x)) := by
  unfold rdB insB isReed
  have e : ((y : Int) * (W : Int) + (x : Int)).toNat = y * W + x := by rw [← Int.natCast_mul]; omega
  rw [e]
  congr 1
  exact decide_eq_decide.2 (by omega)
/-- The pairs of reed that begin at a square. -/
noncomputable def pairsAt (W H : Nat) (f : Nat → Int) (i : Nat) : Nat :=
  ind (i % W + 1 < W ∧ isReed f i = true ∧ isReed f (i + 1) = true) + ind (i / W + 1 < H ∧ isReed f i = true ∧ isReed f (i + W) = true)
theorem pairs_len : (sEdges W H (isReed f)).length = lsum (List.range (W * H)) (pairsAt W H f) := by
  have e0 : (sEdges W H (isReed f)).length = lsum (sEdges W H (isReed f)) fun _ => 1 := by rw [lsum_const, Nat.mul_one]
  rw [e0]
  unfold sEdges edges
  rw [List.filter_flatMap, lsum_flatMap]
  apply lsum_congr
  intro i _
  unfold edgesAt pairsAt
  rw [List.filter_append, lsum_append]
  congr 1
  · by_cases h : i % W + 1 < W
    · rw [if_pos h]
      by_cases k : isReed f i = true ∧ isReed f (i + 1) = true
      · rw [ind_pos ⟨h, k⟩, List.filter_cons_of_pos (by unfold both edR; simp [k.1, k.2])]; rfl
      · rw [ind_neg fun q => k q.2, List.filter_cons_of_neg (by unfold both edR; simpa using k)]; rfl
    · rw [if_neg h, ind_neg fun q => h q.1]; rfl
  · by_cases h : i / W + 1 < H
    · rw [if_pos h]
      by_cases k : isReed f i = true ∧ isReed f (i + W) = true
      · rw [ind_pos ⟨h, k⟩, List.filter_cons_of_pos (by unfold both edD; simp [k.1, k.2])]; rfl
      · rw [ind_neg fun q => k q.2, List.filter_cons_of_neg (by unfold both edD; simpa using k)]; rfl
    · rw [if_neg h, ind_neg fun q => h q.1]; rfl
theorem win_at {i : Nat} (hi : i < W * H) : winAt (rdB W H f) ((i : Int) % (W : Int)) ((i : Int) / (W : Int)) + (pairsAt W H f i : Nat) = (ind (isReed f i = true) : Nat) + (ind (FullAt W H (isReed f) i) : Nat) := by
  have hc := col_lt hi
  have hr := row_lt hi
  have he := cell_eq (W := W) i
  rw [int_mod, int_div]
  have r0 : rdB W H f ((i % W : Nat) : Int) ((i / W : Nat) : Int) = isReed f i := by rw [rd_at, he, decide_eq_true ⟨hc, hr⟩, Bool.true_and]
  have r1 : rdB W H f (((i % W : Nat) : Int) + 1) ((i / W : Nat) : Int) = (decide (i % W + 1 < W) && isReed f (i + 1)) := by
    have := rd_at (W := W) (H := H) (f := f) (x := i % W + 1) (y := i / W)
    rw [show i / W * W + (i % W + 1) = i + 1 by omega, Int.natCast_add] at this
    refine this.trans ?_
    congr 1
    exact decide_eq_decide.2 ⟨fun h => h.1, fun h => ⟨h, hr⟩⟩
  have r2 : rdB W H f ((i % W : Nat) : Int) (((i / W : Nat) : Int) + 1) = (decide (i / W + 1 < H) && isReed f (i + W)) := by
    have := rd_at (W := W) (H := H) (f := f) (x := i % W) (y := i / W + 1)
    rw [Nat.add_mul, Nat.one_mul, show i / W * W + W + i % W = i + W by omega, Int.natCast_add] at this
    refine this.trans ?_
    congr 1
    exact decide_eq_decide.2 ⟨fun h => h.2, fun h => ⟨hc, h⟩⟩
  have r3 : rdB W H f (((i % W : Nat) : Int) + 1) (((i / W : Nat) : Int) + 1) = (decide (i % W + 1 < W ∧ i / W + 1 < H) && isReed f (i + W + 1)) := by
    have := rd_at (W := W) (H := H) (f := f) (x := i % W + 1) (y := i / W + 1)
    rw [Nat.add_mul, Nat.one_mul, show i / W * W + W + (i % W + 1) = i + W + 1 by omega, Int.natCast_add, Int.natCast_add] at this
    exact this
  unfold winAt pairsAt FullAt
  rw [r0, r1, r2, r3]
  generalize isReed f i = a
  generalize isReed f (i + 1) = b
  generalize isReed f (i + W) = c
  generalize isReed f (i + W + 1) = d
  unfold ind
  by_cases h1 : i % W + 1 < W <;> by_cases h2 : i / W + 1 < H <;> cases a <;> cases b <;> cases c <;> cases d <;> simp [h1, h2]
theorem win_sum : ∀ k, k ≤ W * H → winTo W (rdB W H f) k + (lsum (List.range k) (pairsAt W H f) : Nat) = (num k (fun i => isReed f i = true) : Nat) + (num k (FullAt W H (isReed f)) : Nat)
  | 0, _ => by simp [winTo, lsum, num]
  | k + 1, h => by
    have ih := win_sum k (by omega)
    have hk := win_at (f := f) (show k < W * H by omega)
    rw [num_succ, num_succ, List.range_succ, lsum_append, lsum_cons, lsum_nil, Nat.add_zero]
    unfold winTo
    omega
theorem conn_beds (hW : 1 ≤ W) {i j : Nat} : Conn (prim (sEdges W H (isReed f))) i j ↔ Conn (esBeds W H f) i j := by
  have net := net_beds (W := W) (H := H) (f := f) hW
  constructor
  · refine Conn.into fun a b hab => ?_
    obtain ⟨d, hd, e⟩ := List.mem_map.1 hab
    obtain ⟨hd1, hd2⟩ := List.mem_filter.1 hd
    unfold both at hd2
    simp only [Bool.and_eq_true] at hd2
    obtain ⟨rfl, rfl⟩ : d.u = a ∧ d.v = b := by simpa using e
    obtain ⟨⟨hu, hv⟩, _⟩ := edges_lt hd1
    refine (net.link _ _ hu hd2.1 ?_ hd2.2).2
    refine (mem_nbrs hW).2 ?_
    obtain ⟨i, hi, ⟨h', rfl⟩ | ⟨h', rfl⟩⟩ := mem_edges.1 hd1
    · have s := step_right (W := W) (i := i) h'
      refine ⟨hv, show i + 1 ≠ i by omega, ?_, .inr s.2⟩
      show Near W i (i + 1)
      unfold Near; omega
    · have s := step_down hW i
      refine ⟨hv, show i + W ≠ i by omega, ?_, .inl s.1⟩
      show Near W i (i + W)
      unfold Near; omega
  · refine Conn.into fun a b hab => ?_
    obtain ⟨ha, hb, ra, rb, hab, _⟩ := net.edge a b hab
    have key : ∀ x y, x < W * H → y < W * H → isReed f x = true → isReed f y = true → y = x + 1 ∧ x % W + 1 < W ∨ y = x + W ∧ x / W + 1 < H → Conn (prim (sEdges W H (isReed f))) x y := by
      intro x y hx hy rx ry h
      refine Conn.edge (List.mem_map.2 ?_)
      rcases h with ⟨rfl, h⟩ | ⟨rfl, h⟩
      · exact ⟨edR W H x, List.mem_filter.2 ⟨mem_edges.2 ⟨x, hx, .inl ⟨h, rfl⟩⟩, by unfold both edR; simp [rx, ry]⟩, rfl⟩
      · exact ⟨edD W H x, List.mem_filter.2 ⟨mem_edges.2 ⟨x, hx, .inr ⟨h, rfl⟩⟩, by unfold both edD; simp [rx, ry]⟩, rfl⟩
    obtain ⟨_, hne, hn, hd⟩ := (mem_nbrs hW).1 hab
    obtain ⟨⟨n1, n2⟩, n3, n4⟩ := hn
    have ea := cell_eq (W := W) a
    have eb := cell_eq (W := W) b
    have ca := col_lt ha
    have cb := col_lt hb
    have qa := row_lt ha
    have qb := row_lt hb
    rcases hd with hd | hd
    · by_cases h : a / W < b / W
      · have h' : b / W = a / W + 1 := by omega
        rw [h', Nat.add_mul, Nat.one_mul, hd] at eb
        exact key a b ha hb ra rb (.inr ⟨by omega, by omega⟩)
      · by_cases h2 : b / W < a / W
        · have h' : a / W = b / W + 1 := by omega
          rw [h', Nat.add_mul, Nat.one_mul, ← hd] at ea
          exact (key b a hb ha rb ra (.inr ⟨by omega, by omega⟩)).symm
        · have h' : a / W = b / W := by omega
          rw [h', ← hd] at ea
          omega
    · rw [hd] at eb
      by_cases h : a % W < b % W
      · exact key a b ha hb ra rb (.inl ⟨by omega, by omega⟩)
      · exact (key b a hb ha rb ra (.inl ⟨by omega, by omega⟩)).symm
theorem windows_tell (hW : 1 ≤ W) (hH : 1 ≤ H) : winTo W (rdB W H f) (W * H) = (bedsN W H f : Nat) - (poolsN W H f : Nat) := by
  have m := windows_main (W := W) (H := H) (reed := isReed f) (es := esPools W H f) hW hH (dry_pools hW)
  have s := win_sum (W := W) (H := H) (f := f) (W * H) (Nat.le_refl _)
  rw [← pairs_len] at s
  have b : bedsN W H f = num (W * H) (fun i => IsRoot (Conn (prim (sEdges W H (isReed f)))) i ∧ isReed f i = true) := by
    unfold bedsN setsTo
    refine num_congr fun i _ => ?_
    have : IsRoot (Conn (esBeds W H f)) i ↔ IsRoot (Conn (prim (sEdges W H (isReed f)))) i := by
      unfold IsRoot
      exact ⟨fun h j hj k => h j hj ((conn_beds hW).1 k), fun h j hj k => h j hj ((conn_beds hW).2 k)⟩
    rw [this]; rfl
  rw [b]
  unfold poolsN
  omega
end
end Go.Proofs.YtajfepogecakbaaDoor
