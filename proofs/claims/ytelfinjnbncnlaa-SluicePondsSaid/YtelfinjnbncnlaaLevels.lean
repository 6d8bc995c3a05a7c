/- sluice.Levels: walked. -/
import Derived.Test.YtelfinjnbncnlaaFenValid
namespace Go.Proofs.Ytelfinjnbncnlaa
open Go.RowKit

theorem at_x {W x y : Nat} (hx : x < W) : (y * W + x) % W = x := by rw [Nat.mul_comm, Nat.mul_add_mod, Nat.mod_eq_of_lt hx]
theorem at_y {W x y : Nat} (hx : x < W) : (y * W + x) / W = y := by rw [Nat.mul_comm, Nat.mul_add_div (by omega), Nat.div_eq_of_lt hx, Nat.add_zero]
theorem in_rect {W H x y : Nat} (hx : x < W) (hy : y < H) : y * W + x < W * H := by
  have : (y + 1) * W ≤ H * W := Nat.mul_le_mul_right _ (by omega)
  rw [Nat.add_mul] at this
  rw [Nat.mul_comm W H]; omega
theorem mem_near {W H i j : Nat} : j ∈ near4 W H i ↔ (0 < i / W ∧ j = i - W) ∨ (0 < i % W ∧ j = i - 1) ∨ (i % W + 1 < W ∧ j = i + 1) ∨ (i / W + 1 < H ∧ j = i + W) := by
  unfold near4
  simp only [List.mem_append]
  constructor
  · rintro (((h | h) | h) | h)
    all_goals
      split at h
      · simp only [List.mem_singleton] at h
        simp [*]
      · cases h
  · rintro (⟨h, rfl⟩ | ⟨h, rfl⟩ | ⟨h, rfl⟩ | ⟨h, rfl⟩)
    · rw [if_pos h]; simp
    · rw [if_pos h]; simp
    · rw [if_pos h]; simp
    · rw [if_pos h]; simp
/-- A square by its place. -/
theorem by_place {W H i : Nat} (hi : i < W * H) : ∃ x y, x < W ∧ y < H ∧ i = y * W + x := by
  have hW : 0 < W := by rcases Nat.eq_zero_or_pos W with e | e; (rw [e] at hi; simp at hi); exact e
  exact ⟨i % W, i / W, Nat.mod_lt _ hW, Nat.div_lt_of_lt_mul hi, (cell_eq (W := W) i).symm⟩
theorem near_lt {W H i j : Nat} (hj : j ∈ near4 W H i) (hi : i < W * H) : j < W * H := by
  obtain ⟨x, y, hx, hy, rfl⟩ := by_place hi
  rw [mem_near, at_x hx, at_y hx] at hj
  rcases hj with ⟨_, rfl⟩ | ⟨_, rfl⟩ | ⟨h, rfl⟩ | ⟨h, rfl⟩
  · omega
  · omega
  · exact in_rect (x := x + 1) h hy
  · have := in_rect (x := x) (y := y + 1) hx h
    rw [Nat.add_mul, Nat.one_mul] at this
    omega
section
variable {W H : Nat} {h : Nat → Int} {sl : List (Nat × Int)} {x : Int}
theorem leaves_first (hh : ∀ i, i < W * H → h i ≤ x) : ∀ i, i < W * H → Leaves (W * H) (near4 W H) h sl x i → Leaves (W * H) (near4 W H) h sl x 0 := by
  intro i
  induction i using Nat.strongRecOn with
  | _ i ih =>
    intro hi hl
    obtain ⟨u, v, hu, hv, rfl⟩ := by_place hi
    by_cases hx : 0 < u
    · have e : v * W + u - 1 < W * H := by omega
      refine ih _ (by omega) e (.on e hl (mem_near.2 (.inr (.inl ⟨by rw [at_x hu]; exact hx, rfl⟩))) (hh _ e))
    · by_cases hy : 0 < v
      · have m := Nat.mul_le_mul_right W (show 1 ≤ v from hy)
        have e : v * W + u - W < W * H := by omega
        refine ih _ (by omega) e (.on e hl (mem_near.2 (.inl ⟨by rw [at_y hu]; exact hy, rfl⟩)) (hh _ e))
      · have e1 : u = 0 := by omega
        have e2 : v = 0 := by omega
        subst e1 e2
        simpa using hl
theorem leaves_all (hh : ∀ i, i < W * H → h i ≤ x) (h0 : Leaves (W * H) (near4 W H) h sl x 0) : ∀ i, i < W * H → Leaves (W * H) (near4 W H) h sl x i := by
  intro i
  induction i using Nat.strongRecOn with
  | _ i ih =>
    intro hi
    obtain ⟨u, v, hu, hv, rfl⟩ := by_place hi
    by_cases hx : 0 < u
    · have e : v * W + (u - 1) < W * H := by omega
      refine .on hi (ih (v * W + (u - 1)) (by omega) e) (mem_near.2 (.inr (.inr (.inl ⟨by rw [at_x (by omega)]; omega, by omega⟩)))) (hh _ hi)
    · by_cases hy : 0 < v
      · obtain ⟨v', rfl⟩ : ∃ v', v = v' + 1 := ⟨v - 1, by omega⟩
        have ee : (v' + 1) * W + u = v' * W + u + W := by rw [Nat.add_mul, Nat.one_mul]; omega
        have e : v' * W + u < W * H := by omega
        refine .on hi (ih (v' * W + u) (by omega) e) (mem_near.2 (.inr (.inr (.inr ⟨by rw [at_y hu]; exact hv, ee⟩)))) (hh _ hi)
      · have e1 : u = 0 := by omega
        have e2 : v = 0 := by omega
        subst e1 e2
        simpa using h0
end
/-- The sluices of a fen, as pairs. -/
def slOf (m : Nat) (a s : Nat → Int) : List (Nat × Int) := (List.range m).map fun i => ((a i).toNat, s i)
theorem valid_facts {W H : Int} {n m : Nat} {f a s : Nat → Int} (hv : validF W H n f m a s = true) : ((1 ≤ W ∧ W ≤ 16) ∧ 1 ≤ H ∧ H ≤ 16) ∧ (n : Int) = W * H ∧ (∀ i, i < n → 0 ≤ f i ∧ f i ≤ 1000) ∧ (1 ≤ m ∧ m ≤ 20) ∧ ∀ i, i < m → (0 ≤ a i ∧ a i < n) ∧ 0 ≤ s i ∧ s i ≤ 1000 := by
  unfold validF sidesB at hv
  simp only [Bool.and_eq_true, decide_eq_true_eq, allB_iff, numB, sluB] at hv
  obtain ⟨⟨⟨a1, a2⟩, a3, a4⟩, ⟨a5, a6⟩, a7, a8⟩ := hv
  exact ⟨⟨⟨a1, a3⟩, a2, a4⟩, a5, a6, a7, a8⟩
theorem all_leave {W H n m : Nat} {f a s : Nat → Int} (hv : validF W H n f m a s = true) : ∀ i, i < n → Leaves n (near4 W H) f (slOf m a s) 1000 i := by
  obtain ⟨⟨⟨a1, a2⟩, a3, a4⟩, a5, a6, ⟨a7, a8⟩, a9⟩ := valid_facts hv
  have hn : n = W * H := by rw [← Int.natCast_mul] at a5; omega
  obtain ⟨⟨b1, b2⟩, b3, b4⟩ := a9 0 (by omega)
  have hl : (a 0).toNat < n := by omega
  have h1 : Leaves n (near4 W H) f (slOf m a s) 1000 (a 0).toNat := .out hl (List.mem_map.2 ⟨0, List.mem_range.2 (by omega), rfl⟩) b4 (a6 _ hl).2
  subst hn
  exact leaves_all (fun i hi => (a6 i hi).2) (leaves_first (fun i hi => (a6 i hi).2) _ hl h1)

/-- A call that returns the levels. -/
def PostLv (w : World) (W H n : Nat) (f : Nat → Int) (sl : List (Nat × Int)) (e : Ending) (w' : World) : Prop :=
  ∃ v L, e = .returned (.tuple #[v, .int .i64 0]) ∧ ∃ x : Later w, w' = x.val ∧ OwnI w' w.heap.size v L ∧ L.length = n ∧ IsLevel n (near4 W H) f sl (fun i => L.getD i 0) ∧ ∀ i, i < n → 0 ≤ L.getD i 0
set_option maxRecDepth 100000 in
set_option maxHeartbeats 1600000 in
theorem Levels_ok (W H n cap m capS : Nat) (A B : Option Addr) (f a s : Nat → Int) (w : World) (hp : IsInts w A n f) (hq : IsSlu w B m a s) (hv : validF W H n f m a s = true) :
    Calls Try.prog 21 #[.agg #[.int .i64 W, .int .i64 H, .slice A n cap, .slice B m capS]] w (PostLv w W H n f (slOf m a s)) := by
  have V : Hid (∀ w', IsInts w' A n f → IsSlu w' B m a s → Gives Try.prog 23 #[.agg #[.int .i64 W, .int .i64 H, .slice A n cap, .slice B m capS]] w' (.bool true)) := fun w' h1 h2 => hv ▸ Valid_any W H A B n cap m capS f a s w' h1 h2
  obtain ⟨⟨⟨a1, a2⟩, a3, a4⟩, a5, a6, ⟨a7, a8⟩, a9⟩ := valid_facts hv
  have hn : n = W * H := by rw [← Int.natCast_mul] at a5; omega
  have hn1 : 1 ≤ n := by rw [hn]; exact Nat.mul_le_mul (show 1 ≤ W by omega) (show 1 ≤ H by omega)
  obtain ⟨b, off, hA, p⟩ := hp.at_ hn1
  obtain ⟨sb, so, hB, q⟩ := hq.at_ a7
  have LV : Hid (∀ w' : World, Below w.heap.size w w' → Calls Try.prog 25 #[.agg #[.int .i64 W, .int .i64 H, .slice A n cap, .slice B m capS]] w' fun e w'' => ∃ v L, e = .returned v ∧ ∃ x : Later w', w'' = x.val ∧ OwnI w'' w'.heap.size v L ∧ L.length = n ∧ IsLevel n (near4 W H) f (slOf m a s) (fun i => L.getD i 0) ∧ ∀ i, i < n → 0 ≤ L.getD i 0) := fun w' hb => by
    subst hA hB
    have p' := p.later ⟨w', hb⟩
    have q' := q.later ⟨w', hb⟩
    exact levelsOf_any W H n m cap capS b off sb so f (fun i => (a i).toNat) s w' (by omega) (by omega) (by omega) (by omega) hn a7 a8 p' ⟨q'.lt, fun i hi => by
      rw [q'.x i hi, show (((a i).toNat : Nat) : Int) = a i by have := a9 i hi; omega], q'.y⟩ (fun i hi => by have := a9 i hi; omega) (fun i j hj hi => by rw [hn] at hi ⊢; exact near_lt hj hi) fun i hi => ⟨1000, all_leave hv i hi⟩
  have HP := Lib.hid hp
  have HQ := Lib.hid hq
  clear hp hq hv a5 a6 a9 hn p q hA hB
  go_enter Try.func21, Try.ntmps21
  go_wp2_with (first
    | (go_at_call 23; (first | (with_reducible show Calls _ _ _ (Later.val _) _; with_reducible refine Calls.mono (Later.call _ (V.out _ (HP.out.later ⟨_, by repeat (first | exact Below.refl _ _ | (with_reducible assumption) | apply below_later | apply below_alloc | apply below_drew | apply below_drewN)⟩) (HQ.out.later ⟨_, by repeat (first | exact Below.refl _ _ | (with_reducible assumption) | apply below_later | apply below_alloc | apply below_drew | apply below_drewN)⟩))) ?_) | (with_reducible refine Calls.mono (Gives.calls (V.out _ (HP.out.later ⟨_, by repeat (first | exact Below.refl _ _ | (with_reducible assumption) | apply below_later | apply below_alloc | apply below_drew | apply below_drewN)⟩) (HQ.out.later ⟨_, by repeat (first | exact Below.refl _ _ | (with_reducible assumption) | apply below_later | apply below_alloc | apply below_drew | apply below_drewN)⟩))) ?_)); rintro e w1 ⟨rfl, z, rfl⟩)
    | (go_at_call 25; refine Calls.mono (LV.out _ (by repeat (first | exact Below.refl _ _ | (with_reducible assumption) | apply below_later | apply below_alloc | apply below_drew | apply below_drewN))) ?_; rintro e w1 ⟨v, L, rfl, y, rfl, ho, r⟩; have HO := Lib.hid ho; have R := Lib.hid r; clear ho r))
  go_ret2
  exact ⟨v, L, rfl, ⟨_, by repeat (first | exact Below.refl _ _ | (with_reducible assumption) | apply below_later | apply below_alloc | apply below_drew | apply below_drewN)⟩, rfl, HO.out.mono (by have := z.size; simp at this; omega), R.out⟩
set_option maxRecDepth 100000 in
set_option maxHeartbeats 1600000 in
theorem Levels_bad (W H : Int) (n cap m capS : Nat) (A B : Option Addr) (f a s : Nat → Int) (w : World) (hp : IsInts w A n f) (hq : IsSlu w B m a s) (hv : validF W H n f m a s = false) :
    Gives Try.prog 21 #[.agg #[.int .i64 W, .int .i64 H, .slice A n cap, .slice B m capS]] w (.tuple #[.slice none 0 0, .int .i64 30]) := by
  have V : Hid (∀ w', IsInts w' A n f → IsSlu w' B m a s → Gives Try.prog 23 #[.agg #[.int .i64 W, .int .i64 H, .slice A n cap, .slice B m capS]] w' (.bool false)) := fun w' h1 h2 => hv ▸ Valid_any W H A B n cap m capS f a s w' h1 h2
  have HP := Lib.hid hp
  have HQ := Lib.hid hq
  clear hp hq hv
  go_enter Try.func21, Try.ntmps21
  go_wp2_with (go_at_call 23; (first | (with_reducible show Calls _ _ _ (Later.val _) _; with_reducible refine Calls.mono (Later.call _ (V.out _ (HP.out.later ⟨_, by repeat (first | exact Below.refl _ _ | (with_reducible assumption) | apply below_later | apply below_alloc | apply below_drew | apply below_drewN)⟩) (HQ.out.later ⟨_, by repeat (first | exact Below.refl _ _ | (with_reducible assumption) | apply below_later | apply below_alloc | apply below_drew | apply below_drewN)⟩))) ?_) | (with_reducible refine Calls.mono (Gives.calls (V.out _ (HP.out.later ⟨_, by repeat (first | exact Below.refl _ _ | (with_reducible assumption) | apply below_later | apply below_alloc | apply below_drew | apply below_drewN)⟩) (HQ.out.later ⟨_, by repeat (first | exact Below.refl _ _ | (with_reducible assumption) | apply below_later | apply below_alloc | apply below_drew | apply below_drewN)⟩))) ?_)); rintro e w1 ⟨rfl, z, rfl⟩)
  go_ret2
  exact ⟨rfl, later_of (by repeat (first | exact Below.refl _ _ | (with_reducible assumption) | apply below_later | apply below_alloc | apply below_drew | apply below_drewN))⟩
end Go.Proofs.Ytelfinjnbncnlaa
