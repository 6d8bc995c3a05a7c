/- The document's own list of neighbours. -/
import Derived.Test.YtajfepogecakbaaDoorNbrMath
import Derived.Test.YtajfepogecakbaaDoorBedRef
import Derived.Test.YtajfepogecakbaaDoorAroundC
import Derived.Test.YtajfepogecakbaaDoorGroupsKeep
import Derived.RegionTactic
namespace Go.Proofs.YtajfepogecakbaaDoor
open Go.RowKit

/-- A call that returns a list of numbers of its own. -/
def PostI (w : World) (l : List Int) (e : Ending) (w' : World) : Prop := ∃ v, e = .returned v ∧ ∃ x : Later w, w' = x.val ∧ OwnI w' w.heap.size v l
def GivesI (f : FuncId) (args : Array Value) (w : World) (l : List Int) : Prop := Calls Tryd.prog f args w (PostI w l)
theorem GivesI.calls {f : FuncId} {args : Array Value} {w : World} {l : List Int} (h : GivesI f args w l) : Calls Tryd.prog f args w fun e w' => ∃ v, e = .returned v ∧ ∃ x : Later w, w' = x.val ∧ OwnI w' w.heap.size v l := h
theorem GivesI.at_ {f : FuncId} {args : Array Value} {w : World} {l : List Int} (x : Later w) (h : GivesI f args x.val l) :
    Calls Tryd.prog f args x.val fun e w' => ∃ v, e = .returned v ∧ ∃ y : Later w, w' = y.val ∧ OwnI w' x.val.heap.size v l :=
  Calls.mono h fun _ w' ⟨v, he, y, hy, ho⟩ => ⟨v, he, ⟨w', by rw [hy]; exact below_more x.ok y.ok⟩, rfl, ho⟩
theorem OwnI.mono_row {w : World} {base base' : Nat} {v : Value} {n : Nat} {xs : List Value} (h : w.ownsRow base 3 1 v n xs) (hb : base' ≤ base) : w.ownsRow base' 3 1 v n xs :=
  ⟨h.1, h.2.imp id fun ⟨g, cap, cur, e, hg, r⟩ => ⟨g, cap, cur, e, Nat.le_trans hb hg, r⟩⟩
theorem lit_news {w : World} {v : Value} {t : TypeId} : ∀ (j : Nat) (u : Value), [v][j]? = some u → (w.alloc (.cells #[v] t)).cell? ((⟨w.heap.size, 0, none⟩ : Addr).add j) = some u := by
  intro j u hj
  match j, hj with
  | 0, hj => simp at hj; subst hj; simp [Addr.add]
theorem one_int {x : Int} : ∀ u ∈ [Value.int .i64 x], u.oneCell' = true := by intro u hu; simp at hu; subst hu; rfl
/-- What a list of one's own keeps while it grows: the box of the call's map. -/
structure NK (M : Obj) (w V : World) (v : Value) (n : Nat) (xs : List Value) : Prop where
  below : Below w.heap.size w V
  box : V.heap[w.heap.size]? = some M
  own : V.ownsRow (w.heap.size + 1) 3 1 v n xs
theorem NK.step {M : Obj} {w V w5 : World} {v v5 : Value} {n n' : Nat} {xs ys : List Value} {o : Obj} (h : NK M w V v n xs) (hg : (V.alloc o).grownBy w5 v.ownBlock) (ho : w5.ownsRow (w.heap.size + 1) 3 1 v5 n' ys) : NK M w w5 v5 n' ys := by
  have hs := h.below.size
  have hl := lt_of_get h.box
  refine ⟨(h.below.alloc hs o).grown hg (by simp; omega) fun k hk => Nat.le_trans (by omega) (own_lt h.own k hk).1, ?_, ho⟩
  rw [hg.block _ (by simp; omega) (fun e => by have := (own_lt h.own _ e.symm).1; omega), Below.heap_alloc _ _ _ hl]
  exact h.box

set_option maxRecDepth 100000 in
set_option maxHeartbeats 3200000 in
theorem rnbr_any (W H at_ n cap : Nat) (A : Option Addr) (w : World) (hW : 1 ≤ W) (hW2 : W ≤ 30) (hH : H ≤ 30) (hat : at_ < W * H) :
    GivesI 73 #[.agg #[.int .i64 W, .int .i64 H, .slice A n cap], .int .i64 at_] w (natL (nbr4 W H at_)) := by
  have hat2 : at_ < 900 := Nat.lt_of_lt_of_le hat (Nat.mul_le_mul hW2 hH)
  have b1 : (at_ : Int) % (W : Int) < 30 := by have := Int.emod_lt_of_pos (at_ : Int) (show (0 : Int) < W by omega); omega
  have b2 : 0 ≤ (at_ : Int) % (W : Int) := Int.emod_nonneg _ (by omega)
  have b3 : (at_ : Int) / (W : Int) < 900 := by have := Int.ediv_le_self (W : Int) (show 0 ≤ (at_ : Int) by omega); omega
  have b4 : 0 ≤ (at_ : Int) / (W : Int) := Int.ediv_nonneg (by omega) (by omega)
  obtain ⟨i0, hi0, hz0, hz1, hz2⟩ := info_int
  have ce := cell_eq (W := W) at_
  have L1 : Hid (cellsI (natL (nbr4 W H at_)) = (if 0 < at_ / W then [Value.int .i64 ((at_ : Int) - (W : Int))] else []) ++ (if 0 < at_ % W then [Value.int .i64 ((at_ : Int) - 1)] else []) ++ (if at_ % W + 1 < W then [Value.int .i64 ((at_ : Int) + 1)] else []) ++ (if at_ / W + 1 < H then [Value.int .i64 ((at_ : Int) + (W : Int))] else [])) := by
    show _ = _
    unfold nbr4
    rw [natL_append, natL_append, natL_append, cellsI_append, cellsI_append, cellsI_append]
    congr 1
    · congr 1
      · congr 1
        · by_cases h : 0 < at_ / W
          · have := Nat.mul_le_mul_right W (show 1 ≤ at_ / W from h)
            rw [if_pos h, if_pos h]
            simp only [natL, cellsI, List.map_cons, List.map_nil]
            congr 2
            show ((at_ - W : Nat) : Int) = _
            omega
          · rw [if_neg h, if_neg h]; rfl
        · by_cases h : 0 < at_ % W
          · have := Nat.mod_le at_ W
            rw [if_pos h, if_pos h]
            simp only [natL, cellsI, List.map_cons, List.map_nil]
            congr 2
            show ((at_ - 1 : Nat) : Int) = _
            omega
          · rw [if_neg h, if_neg h]; rfl
      · split <;> rfl
    · split <;> rfl
  have L2 : Hid ((natL (nbr4 W H at_)).length = (cellsI (natL (nbr4 W H at_))).length) := (cellsI_length _).symm
  have k1 : (0 < at_ / W) ↔ (0 : Int) < (at_ : Int) / (W : Int) := by rw [int_div]; omega
  have k2 : (0 < at_ % W) ↔ (0 : Int) < (at_ : Int) % (W : Int) := by rw [int_mod]; omega
  have k3 : (at_ % W + 1 < W) ↔ (at_ : Int) % (W : Int) + 1 < (W : Int) := by rw [int_mod]; omega
  have k4 : (at_ / W + 1 < H) ↔ (at_ : Int) / (W : Int) + 1 < (H : Int) := by rw [int_div]; omega
  simp only [k1, k2, k3, k4] at L1
  generalize natL (nbr4 W H at_) = res at *
  clear k1 k2 k3 k4 ce hat
  by_cases h1 : (0 : Int) < (at_ : Int) / (W : Int) <;> by_cases h2 : (0 : Int) < (at_ : Int) % (W : Int) <;> by_cases h3 : (at_ : Int) % (W : Int) + 1 < (W : Int) <;> by_cases h4 : (at_ : Int) / (W : Int) + 1 < (H : Int)
  all_goals
    simp only [h1, h2, h3, h4, if_true, if_false] at L1
    go_enter Tryd.func73, Tryd.ntmps73
    go_wp2_with fail
    first | (with_reducible show Code.wp _ _ _ _ (Later.val _); refine wp_region_later_at _ (by kernel_rfl) (by kernel_rfl) ?_) | refine wp_region_later (by kernel_rfl) (by kernel_rfl) ?_
    repeat (go_big_quiet_step ((fail)))
    refine wpQuiet_nil ?_
    intro y0
    have nk : NK (.cells #[.int .i64 W, .int .i64 H, .slice A n cap] 24) w y0.val (.slice none 0 0) 0 [] := ⟨by repeat (first | exact Below.refl _ _ | (with_reducible assumption) | apply below_later | apply below_alloc | apply below_drew | apply below_drewN), (y0.ok.block _ (by simp)).trans (World.alloc_heap_new _ _), World.ownsRow_nil _ _ _ _⟩
    have e0 := cell_of_heap nk.box 0 _ rfl
    have e1 := cell_of_heap nk.box 1 _ rfl
    have lw := lt_of_get nk.box
    go_wp2_with (first | (at_builtin; refine wpList_append_own _ rfl _ _ 22 rfl (w.heap.size + 1) 3 i0 (.int .i64 0) 1 8 Tryd.underlying22 hi0 hz0 hz1 hz2 rfl (by decide) _ _ _ rfl (nk.own.alloc _) ⟨_, 0, none⟩ 1 1 [.int .i64 ((at_ : Int) - (W : Int))] rfl rfl lit_news one_int (by unfold maxLen; omega) (by omega) (by simp; omega) ?_; intro v5 w5 hown2 hgrow _; have nk := nk.step hgrow hown2; have e0 := cell_of_heap nk.box 0 _ rfl; have e1 := cell_of_heap nk.box 1 _ rfl; have lw := lt_of_get nk.box) | (at_builtin; refine wpList_append_own _ rfl _ _ 22 rfl (w.heap.size + 1) 3 i0 (.int .i64 0) 1 8 Tryd.underlying22 hi0 hz0 hz1 hz2 rfl (by decide) _ _ _ rfl (nk.own.alloc _) ⟨_, 0, none⟩ 1 1 [.int .i64 ((at_ : Int) - 1)] rfl rfl lit_news one_int (by unfold maxLen; omega) (by omega) (by simp; omega) ?_; intro v5 w5 hown2 hgrow _; have nk := nk.step hgrow hown2; have e0 := cell_of_heap nk.box 0 _ rfl; have e1 := cell_of_heap nk.box 1 _ rfl; have lw := lt_of_get nk.box) | (at_builtin; refine wpList_append_own _ rfl _ _ 22 rfl (w.heap.size + 1) 3 i0 (.int .i64 0) 1 8 Tryd.underlying22 hi0 hz0 hz1 hz2 rfl (by decide) _ _ _ rfl (nk.own.alloc _) ⟨_, 0, none⟩ 1 1 [.int .i64 ((at_ : Int) + 1)] rfl rfl lit_news one_int (by unfold maxLen; omega) (by omega) (by simp; omega) ?_; intro v5 w5 hown2 hgrow _; have nk := nk.step hgrow hown2; have e0 := cell_of_heap nk.box 0 _ rfl; have e1 := cell_of_heap nk.box 1 _ rfl; have lw := lt_of_get nk.box) | (at_builtin; refine wpList_append_own _ rfl _ _ 22 rfl (w.heap.size + 1) 3 i0 (.int .i64 0) 1 8 Tryd.underlying22 hi0 hz0 hz1 hz2 rfl (by decide) _ _ _ rfl (nk.own.alloc _) ⟨_, 0, none⟩ 1 1 [.int .i64 ((at_ : Int) + (W : Int))] rfl rfl lit_news one_int (by unfold maxLen; omega) (by omega) (by simp; omega) ?_; intro v5 w5 hown2 hgrow _; have nk := nk.step hgrow hown2; have e0 := cell_of_heap nk.box 0 _ rfl; have e1 := cell_of_heap nk.box 1 _ rfl; have lw := lt_of_get nk.box))
    go_ret
    refine ⟨_, rfl, ⟨_, nk.below⟩, rfl, ?_⟩
    show World.ownsRow _ _ _ _ _ _ _
    rw [L2.out, L1.out]
    exact OwnI.mono_row nk.own (by omega)
end Go.Proofs.YtajfepogecakbaaDoor
