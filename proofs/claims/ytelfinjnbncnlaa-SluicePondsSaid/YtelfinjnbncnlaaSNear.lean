/- The neighbours of a square: the program's and the document's lists. -/
import Derived.Test.YtelfinjnbncnlaaOwnI
import Derived.Test.YtelfinjnbncnlaaAroundC
import Derived.Test.YtelfinjnbncnlaaTail
import Derived.RegionTactic
namespace Go.Proofs.Ytelfinjnbncnlaa
open Go.RowKit

def natN (l : List Nat) : List Int := l.map Int.ofNat
theorem cellsI_app (l k : List Int) : cellsI (l ++ k) = cellsI l ++ cellsI k := by simp [cellsI]
def PostI (w : World) (l : List Int) (e : Ending) (w' : World) : Prop := ∃ v, e = .returned v ∧ ∃ x : Later w, w' = x.val ∧ OwnI w' w.heap.size v l
/-- A call that returns a list of numbers of its own. -/
def GivesI (f : FuncId) (args : Array Value) (w : World) (l : List Int) : Prop := Calls Try.prog f args w (PostI w l)
theorem GivesI.calls {f : FuncId} {args : Array Value} {w : World} {l : List Int} (h : GivesI f args w l) : Calls Try.prog f args w fun e w' => ∃ v, e = .returned v ∧ ∃ x : Later w, w' = x.val ∧ OwnI w' w.heap.size v l := h
theorem lit_news {w : World} {v : Value} {t : TypeId} : ∀ (j : Nat) (u : Value), [v][j]? = some u → (w.alloc (.cells #[v] t)).cell? ((⟨w.heap.size, 0, none⟩ : Addr).add j) = some u := by
  intro j u hj
  match j, hj with
  | 0, hj => simp at hj; subst hj; simp [Addr.add]
theorem one_int {x : Int} : ∀ u ∈ [Value.int .i64 x], u.oneCell' = true := by intro u hu; simp at hu; subst hu; rfl
/-- What a list of one's own keeps while it grows. -/
structure NK (w V : World) (v : Value) (n : Nat) (xs : List Value) : Prop where
  below : Below w.heap.size w V
  own : V.ownsRow w.heap.size 3 1 v n xs
theorem NK.step {w V w5 : World} {v v5 : Value} {n n' : Nat} {xs ys : List Value} {o : Obj} (h : NK w V v n xs) (hg : (V.alloc o).grownBy w5 v.ownBlock) (ho : w5.ownsRow w.heap.size 3 1 v5 n' ys) : NK w w5 v5 n' ys :=
  ⟨(h.below.alloc h.below.size o).grown hg (by have := h.below.size; simp; omega) fun k hk => (own_lt h.own k hk).1, ho⟩

/-- The neighbours, in the order of their numbers. -/
def near4 (W H i : Nat) : List Nat := (if 0 < i / W then [i - W] else []) ++ (if 0 < i % W then [i - 1] else []) ++ (if i % W + 1 < W then [i + 1] else []) ++ (if i / W + 1 < H then [i + W] else [])
theorem int_mod (i W : Nat) : (i : Int) % (W : Int) = ((i % W : Nat) : Int) := (Int.natCast_emod _ _).symm
theorem int_div (i W : Nat) : (i : Int) / (W : Int) = ((i / W : Nat) : Int) := (Int.natCast_ediv _ _).symm
theorem cell_eq {W : Nat} (i : Nat) : i / W * W + i % W = i := by rw [Nat.mul_comm]; exact Nat.div_add_mod i W

set_option maxRecDepth 100000 in
set_option maxHeartbeats 3200000 in
theorem near_any (W H at_ : Nat) (w : World) (hW : 1 ≤ W) (hW2 : W ≤ 16) (hH : H ≤ 16) (hat : at_ < W * H) :
    GivesI 51 #[.int .i64 W, .int .i64 H, .int .i64 at_] w (natN (near4 W H at_)) := by
  have hat2 : at_ < 256 := Nat.lt_of_lt_of_le hat (Nat.mul_le_mul hW2 hH)
  have b1 : (at_ : Int) % (W : Int) < 16 := by have := Int.emod_lt_of_pos (at_ : Int) (show (0 : Int) < W by omega); omega
  have b2 : 0 ≤ (at_ : Int) % (W : Int) := Int.emod_nonneg _ (by omega)
  have b3 : (at_ : Int) / (W : Int) < 256 := by have := Int.ediv_le_self (W : Int) (show 0 ≤ (at_ : Int) by omega); omega
  have b4 : 0 ≤ (at_ : Int) / (W : Int) := Int.ediv_nonneg (by omega) (by omega)
  obtain ⟨i0, hi0, hz0, hz1, hz2⟩ := info_int
  have ce := cell_eq (W := W) at_
  have L1 : Hid (cellsI (natN (near4 W H at_)) = (if 0 < at_ / W then [Value.int .i64 ((at_ : Int) - (W : Int))] else []) ++ (if 0 < at_ % W then [Value.int .i64 ((at_ : Int) - 1)] else []) ++ (if at_ % W + 1 < W then [Value.int .i64 ((at_ : Int) + 1)] else []) ++ (if at_ / W + 1 < H then [Value.int .i64 ((at_ : Int) + (W : Int))] else [])) := by
    show _ = _
    unfold near4 natN
    rw [List.map_append, List.map_append, List.map_append, cellsI_app, cellsI_app, cellsI_app]
    congr 1
    · congr 1
      · congr 1
        · by_cases h : 0 < at_ / W
          · have := Nat.mul_le_mul_right W (show 1 ≤ at_ / W from h)
            rw [if_pos h, if_pos h]
            simp only [cellsI, List.map_cons, List.map_nil]
            congr 2
            show ((at_ - W : Nat) : Int) = _
            omega
          · rw [if_neg h, if_neg h]; rfl
        · by_cases h : 0 < at_ % W
          · have := Nat.mod_le at_ W
            rw [if_pos h, if_pos h]
            simp only [cellsI, List.map_cons, List.map_nil]
            congr 2
            show ((at_ - 1 : Nat) : Int) = _
            omega
          · rw [if_neg h, if_neg h]; rfl
      · split <;> rfl
    · split <;> rfl
  have L2 : Hid ((natN (near4 W H at_)).length = (cellsI (natN (near4 W H at_))).length) := by show _ = _; simp [cellsI]
  have k1 : (0 < at_ / W) ↔ (0 : Int) < (at_ : Int) / (W : Int) := by rw [int_div]; omega
  have k2 : (0 < at_ % W) ↔ (0 : Int) < (at_ : Int) % (W : Int) := by rw [int_mod]; omega
  have k3 : (at_ % W + 1 < W) ↔ (at_ : Int) % (W : Int) < (W : Int) - 1 := by rw [int_mod]; omega
  have k4 : (at_ / W + 1 < H) ↔ (at_ : Int) / (W : Int) < (H : Int) - 1 := by rw [int_div]; omega
  have j1 : (0 : Int) < (at_ : Int) / (W : Int) ↔ (W : Int) ≤ (at_ : Int) := by
    rw [← k1]
    constructor
    · intro h
      have := Nat.mul_le_mul_right W (show 1 ≤ at_ / W from h)
      omega
    · intro h; exact Nat.div_pos (by omega) (by omega)
  have j4 : (at_ : Int) / (W : Int) < (H : Int) - 1 ↔ (at_ : Int) < (W : Int) * ((H : Int) - 1) := by
    rw [Int.mul_comm]
    exact Int.ediv_lt_iff_lt_mul (by omega)
  have hmb : -16 ≤ (W : Int) * ((H : Int) - 1) ∧ (W : Int) * ((H : Int) - 1) ≤ 256 := by
    have m1 := Int.mul_le_mul_of_nonneg_left (show (H : Int) - 1 ≤ 15 by omega) (show (0 : Int) ≤ W by omega)
    have m2 := Int.mul_le_mul_of_nonneg_left (show (-1 : Int) ≤ (H : Int) - 1 by omega) (show (0 : Int) ≤ W by omega)
    omega
  obtain ⟨hmb1, hmb2⟩ := hmb
  simp only [k1, k2, k3, k4] at L1
  generalize natN (near4 W H at_) = res at *
  clear k1 k2 k3 k4 ce hat
  by_cases h1 : (0 : Int) < (at_ : Int) / (W : Int) <;> by_cases h2 : (0 : Int) < (at_ : Int) % (W : Int) <;> by_cases h3 : (at_ : Int) % (W : Int) < (W : Int) - 1 <;> by_cases h4 : (at_ : Int) / (W : Int) < (H : Int) - 1
  all_goals
    simp only [h1, h2, h3, h4, if_true, if_false] at L1
    have g1 := j1
    have g4 := j4
    simp only [h1, h4, true_iff, false_iff] at g1 g4
    clear j1 j4
    go_enter Try.func51, Try.ntmps51
    have nk : NK w w (.slice none 0 0) 0 [] := ⟨Below.refl _ _, World.ownsRow_nil _ _ _ _⟩
    go_wp2_with (first | (at_builtin; refine wpList_append_own _ rfl _ _ 22 rfl w.heap.size 3 i0 (.int .i64 0) 1 8 Try.underlying22 hi0 hz0 hz1 hz2 rfl (by decide) _ _ _ rfl (nk.own.alloc _) ⟨_, 0, none⟩ 1 1 [.int .i64 ((at_ : Int) - (W : Int))] rfl rfl lit_news one_int (by unfold maxLen; omega) (by omega) (by have := nk.below.size; simp only [World.size_alloc]; omega) ?_; intro v5 w5 hown2 hgrow _; have nk := nk.step hgrow hown2) | (at_builtin; refine wpList_append_own _ rfl _ _ 22 rfl w.heap.size 3 i0 (.int .i64 0) 1 8 Try.underlying22 hi0 hz0 hz1 hz2 rfl (by decide) _ _ _ rfl (nk.own.alloc _) ⟨_, 0, none⟩ 1 1 [.int .i64 ((at_ : Int) - 1)] rfl rfl lit_news one_int (by unfold maxLen; omega) (by omega) (by have := nk.below.size; simp only [World.size_alloc]; omega) ?_; intro v5 w5 hown2 hgrow _; have nk := nk.step hgrow hown2) | (at_builtin; refine wpList_append_own _ rfl _ _ 22 rfl w.heap.size 3 i0 (.int .i64 0) 1 8 Try.underlying22 hi0 hz0 hz1 hz2 rfl (by decide) _ _ _ rfl (nk.own.alloc _) ⟨_, 0, none⟩ 1 1 [.int .i64 ((at_ : Int) + 1)] rfl rfl lit_news one_int (by unfold maxLen; omega) (by omega) (by have := nk.below.size; simp only [World.size_alloc]; omega) ?_; intro v5 w5 hown2 hgrow _; have nk := nk.step hgrow hown2) | (at_builtin; refine wpList_append_own _ rfl _ _ 22 rfl w.heap.size 3 i0 (.int .i64 0) 1 8 Try.underlying22 hi0 hz0 hz1 hz2 rfl (by decide) _ _ _ rfl (nk.own.alloc _) ⟨_, 0, none⟩ 1 1 [.int .i64 ((at_ : Int) + (W : Int))] rfl rfl lit_news one_int (by unfold maxLen; omega) (by omega) (by have := nk.below.size; simp only [World.size_alloc]; omega) ?_; intro v5 w5 hown2 hgrow _; have nk := nk.step hgrow hown2))
    go_ret
    refine ⟨_, rfl, ⟨_, nk.below⟩, rfl, ?_⟩
    show World.ownsRow _ _ _ _ _ _ _
    rw [L2.out, L1.out]
    exact nk.own
set_option maxRecDepth 100000 in
set_option maxHeartbeats 3200000 in
theorem rnear_any (W H at_ : Nat) (w : World) (hW : 1 ≤ W) (hW2 : W ≤ 16) (hH : H ≤ 16) (hat : at_ < W * H) :
    GivesI 33 #[.int .i64 W, .int .i64 H, .int .i64 at_] w (natN (near4 W H at_)) := by
  have hat2 : at_ < 256 := Nat.lt_of_lt_of_le hat (Nat.mul_le_mul hW2 hH)
  have b1 : (at_ : Int) % (W : Int) < 16 := by have := Int.emod_lt_of_pos (at_ : Int) (show (0 : Int) < W by omega); omega
  have b2 : 0 ≤ (at_ : Int) % (W : Int) := Int.emod_nonneg _ (by omega)
  have b3 : (at_ : Int) / (W : Int) < 256 := by have := Int.ediv_le_self (W : Int) (show 0 ≤ (at_ : Int) by omega); omega
  have b4 : 0 ≤ (at_ : Int) / (W : Int) := Int.ediv_nonneg (by omega) (by omega)
  obtain ⟨i0, hi0, hz0, hz1, hz2⟩ := info_int
  have ce := cell_eq (W := W) at_
  have L1 : Hid (cellsI (natN (near4 W H at_)) = (if 0 < at_ / W then [Value.int .i64 ((at_ : Int) - (W : Int))] else []) ++ (if 0 < at_ % W then [Value.int .i64 ((at_ : Int) - 1)] else []) ++ (if at_ % W + 1 < W then [Value.int .i64 ((at_ : Int) + 1)] else []) ++ (if at_ / W + 1 < H then [Value.int .i64 ((at_ : Int) + (W : Int))] else [])) := by
    show _ = _
    unfold near4 natN
    rw [List.map_append, List.map_append, List.map_append, cellsI_app, cellsI_app, cellsI_app]
    congr 1
    · congr 1
      · congr 1
        · by_cases h : 0 < at_ / W
          · have := Nat.mul_le_mul_right W (show 1 ≤ at_ / W from h)
            rw [if_pos h, if_pos h]
            simp only [cellsI, List.map_cons, List.map_nil]
            congr 2
            show ((at_ - W : Nat) : Int) = _
            omega
          · rw [if_neg h, if_neg h]; rfl
        · by_cases h : 0 < at_ % W
          · have := Nat.mod_le at_ W
            rw [if_pos h, if_pos h]
            simp only [cellsI, List.map_cons, List.map_nil]
            congr 2
            show ((at_ - 1 : Nat) : Int) = _
            omega
          · rw [if_neg h, if_neg h]; rfl
      · split <;> rfl
    · split <;> rfl
  have L2 : Hid ((natN (near4 W H at_)).length = (cellsI (natN (near4 W H at_))).length) := by show _ = _; simp [cellsI]
  have k1 : (0 < at_ / W) ↔ (0 : Int) < (at_ : Int) / (W : Int) := by rw [int_div]; omega
  have k2 : (0 < at_ % W) ↔ (0 : Int) < (at_ : Int) % (W : Int) := by rw [int_mod]; omega
  have k3 : (at_ % W + 1 < W) ↔ (at_ : Int) % (W : Int) < (W : Int) - 1 := by rw [int_mod]; omega
  have k4 : (at_ / W + 1 < H) ↔ (at_ : Int) / (W : Int) < (H : Int) - 1 := by rw [int_div]; omega
  have j1 : (0 : Int) < (at_ : Int) / (W : Int) ↔ (W : Int) ≤ (at_ : Int) := by
    rw [← k1]
    constructor
    · intro h
      have := Nat.mul_le_mul_right W (show 1 ≤ at_ / W from h)
      omega
    · intro h; exact Nat.div_pos (by omega) (by omega)
  have j4 : (at_ : Int) / (W : Int) < (H : Int) - 1 ↔ (at_ : Int) < (W : Int) * ((H : Int) - 1) := by
    rw [Int.mul_comm]
    exact Int.ediv_lt_iff_lt_mul (by omega)
  have hmb : -16 ≤ (W : Int) * ((H : Int) - 1) ∧ (W : Int) * ((H : Int) - 1) ≤ 256 := by
    have m1 := Int.mul_le_mul_of_nonneg_left (show (H : Int) - 1 ≤ 15 by omega) (show (0 : Int) ≤ W by omega)
    have m2 := Int.mul_le_mul_of_nonneg_left (show (-1 : Int) ≤ (H : Int) - 1 by omega) (show (0 : Int) ≤ W by omega)
    omega
  obtain ⟨hmb1, hmb2⟩ := hmb
  simp only [k1, k2, k3, k4] at L1
  generalize natN (near4 W H at_) = res at *
  clear k1 k2 k3 k4 ce hat
  by_cases h1 : (0 : Int) < (at_ : Int) / (W : Int) <;> by_cases h2 : (0 : Int) < (at_ : Int) % (W : Int) <;> by_cases h3 : (at_ : Int) % (W : Int) < (W : Int) - 1 <;> by_cases h4 : (at_ : Int) / (W : Int) < (H : Int) - 1
  all_goals
    simp only [h1, h2, h3, h4, if_true, if_false] at L1
    have g1 := j1
    have g4 := j4
    simp only [h1, h4, true_iff, false_iff] at g1 g4
    clear j1 j4
    go_enter Try.func33, Try.ntmps33
    have nk : NK w w (.slice none 0 0) 0 [] := ⟨Below.refl _ _, World.ownsRow_nil _ _ _ _⟩
    go_wp2_with (first | (at_builtin; refine wpList_append_own _ rfl _ _ 22 rfl w.heap.size 3 i0 (.int .i64 0) 1 8 Try.underlying22 hi0 hz0 hz1 hz2 rfl (by decide) _ _ _ rfl (nk.own.alloc _) ⟨_, 0, none⟩ 1 1 [.int .i64 ((at_ : Int) - (W : Int))] rfl rfl lit_news one_int (by unfold maxLen; omega) (by omega) (by have := nk.below.size; simp only [World.size_alloc]; omega) ?_; intro v5 w5 hown2 hgrow _; have nk := nk.step hgrow hown2) | (at_builtin; refine wpList_append_own _ rfl _ _ 22 rfl w.heap.size 3 i0 (.int .i64 0) 1 8 Try.underlying22 hi0 hz0 hz1 hz2 rfl (by decide) _ _ _ rfl (nk.own.alloc _) ⟨_, 0, none⟩ 1 1 [.int .i64 ((at_ : Int) - 1)] rfl rfl lit_news one_int (by unfold maxLen; omega) (by omega) (by have := nk.below.size; simp only [World.size_alloc]; omega) ?_; intro v5 w5 hown2 hgrow _; have nk := nk.step hgrow hown2) | (at_builtin; refine wpList_append_own _ rfl _ _ 22 rfl w.heap.size 3 i0 (.int .i64 0) 1 8 Try.underlying22 hi0 hz0 hz1 hz2 rfl (by decide) _ _ _ rfl (nk.own.alloc _) ⟨_, 0, none⟩ 1 1 [.int .i64 ((at_ : Int) + 1)] rfl rfl lit_news one_int (by unfold maxLen; omega) (by omega) (by have := nk.below.size; simp only [World.size_alloc]; omega) ?_; intro v5 w5 hown2 hgrow _; have nk := nk.step hgrow hown2) | (at_builtin; refine wpList_append_own _ rfl _ _ 22 rfl w.heap.size 3 i0 (.int .i64 0) 1 8 Try.underlying22 hi0 hz0 hz1 hz2 rfl (by decide) _ _ _ rfl (nk.own.alloc _) ⟨_, 0, none⟩ 1 1 [.int .i64 ((at_ : Int) + (W : Int))] rfl rfl lit_news one_int (by unfold maxLen; omega) (by omega) (by have := nk.below.size; simp only [World.size_alloc]; omega) ?_; intro v5 w5 hown2 hgrow _; have nk := nk.step hgrow hown2))
    go_ret
    refine ⟨_, rfl, ⟨_, nk.below⟩, rfl, ?_⟩
    show World.ownsRow _ _ _ _ _ _ _
    rw [L2.out, L1.out]
    exact nk.own
end Go.Proofs.Ytelfinjnbncnlaa
