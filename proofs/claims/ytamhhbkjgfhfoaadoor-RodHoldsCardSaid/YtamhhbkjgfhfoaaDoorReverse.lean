/- slices.Reverse over posts of one's own. -/
import Derived.Test.YtamhhbkjgfhfoaaDoorChain
import Derived.Test.YtamhhbkjgfhfoaaDoorTail
namespace Go.Proofs.YtamhhbkjgfhfoaaDoor
open Go.RowKit

def mixR (n k : Nat) (p : Nat → Int) (i : Nat) : Int := if i < k ∨ n ≤ i + k then p (n - 1 - i) else p i
def revTo (n k : Nat) (px py : Nat → Int) : List Pt := ptsOf n (mixR n k px) (mixR n k py)
theorem rev_zero (n : Nat) (px py : Nat → Int) : revTo n 0 px py = ptsOf n px py := pts_congr fun i hi => by unfold mixR; rw [if_neg (by omega), if_neg (by omega)]; exact ⟨rfl, rfl⟩
theorem rev_step {n k m : Nat} (hn : k + m + 1 = n) (hk : k < m) (px py : Nat → Int) : revTo n (k + 1) px py = ((revTo n k px py).set k (px m, py m)).set m (px k, py k) := by
  apply List.ext_getElem?
  intro i
  unfold revTo
  rw [List.getElem?_set, List.getElem?_set, List.length_set, ptsOf_length]
  rcases Nat.lt_or_ge i n with h | h
  · rw [ptsOf_get h]
    by_cases e : m = i
    · subst e
      rw [if_pos rfl, if_pos (by omega)]
      unfold mixR
      rw [if_pos (by omega), if_pos (by omega), show n - 1 - m = k by omega]
    · rw [if_neg e]
      by_cases e2 : k = i
      · subst e2
        rw [if_pos rfl, if_pos (by omega)]
        unfold mixR
        rw [if_pos (by omega), if_pos (by omega), show n - 1 - k = m by omega]
      · rw [if_neg e2, ptsOf_get h]
        unfold mixR
        have : (i < k + 1 ∨ n ≤ i + (k + 1)) = (i < k ∨ n ≤ i + k) := by rw [eq_iff_iff]; omega
        simp only [this]
  · rw [List.getElem?_eq_none (by rw [ptsOf_length]; exact h), if_neg (by omega), if_neg (by omega), List.getElem?_eq_none (by rw [ptsOf_length]; exact h)]
theorem rev_all {n k m : Nat} (hn : k + m + 1 = n) (hk : m ≤ k) (px py : Nat → Int) : revTo n k px py = (ptsOf n px py).reverse := by
  apply List.ext_getElem?
  intro i
  unfold revTo
  rcases Nat.lt_or_ge i n with h | h
  · rw [ptsOf_get h, List.getElem?_reverse (by rw [ptsOf_length]; exact h), ptsOf_length, ptsOf_get (by omega)]
    unfold mixR
    by_cases c : i < k ∨ n ≤ i + k
    · rw [if_pos c, if_pos c]
    · rw [if_neg c, if_neg c, show n - 1 - i = i by omega]
  · rw [List.getElem?_eq_none (by rw [ptsOf_length]; exact h), List.getElem?_eq_none (by rw [List.length_reverse, ptsOf_length]; exact h)]

/-- What a function that writes into a list of one's own leaves. -/
def Wrote (w : World) (g base : Nat) (v : Value) (l : List Pt) (w' : World) : Prop := w.grownBy w' (some g) ∧ OwnP w' base v l
theorem grown_set {w : World} {g : Nat} (j : Nat) (v : Value) : w.grownBy (w.setCell ⟨g, j, none⟩ v) (some g) :=
  ⟨rfl, rfl, rfl, by simp [World.setCell], fun b _ hb => Below.heap_setCell w _ v b (fun e => hb (by rw [e]))⟩

set_option maxRecDepth 100000 in
set_option maxHeartbeats 1600000 in
theorem reverse_any (g n cap base : Nat) (px py : Nat → Int) (w : World) (h0 : 0 < n) (hn : n ≤ 1000) (ho : OwnP w base (.slice (some ⟨g, 0, none⟩) n cap) (ptsOf n px py)) :
    Calls Tryd.prog 21 #[.slice (some ⟨g, 0, none⟩) n cap] w fun e w' => e = .returned (.tuple #[]) ∧ Wrote w g base (.slice (some ⟨g, 0, none⟩) n cap) (ptsOf n px py).reverse w' := by
  obtain ⟨m0, hm0⟩ : ∃ m : Nat, (n : Int) - 1 = m := ⟨n - 1, by omega⟩
  have HO := Lib.hid ho
  clear ho
  go_enter Tryd.func21, Tryd.ntmps21
  go_wp2
  go_loopw [2, 3] (fun i j wr => ∃ k m : Nat, k + m + 1 = n ∧ k ≤ m + 1 ∧ i = .int .i64 k ∧ j = .int .i64 m ∧ w.grownBy wr (some g) ∧ OwnP wr base (.slice (some ⟨g, 0, none⟩) n cap) (revTo n k px py)) (fun i j _ => (intOf j + 1 - intOf i).toNat)
  case atStart => exact ⟨0, m0, by omega, by omega, rfl, rfl, World.grownBy.refl _ _, rev_zero n px py ▸ HO.out⟩
  case round =>
    obtain ⟨k, m, hkm, hk1, rfl, rfl, hg, ho⟩ := hrel
    have HG := Lib.hid hg
    have HW := Lib.hid ho
    clear hg
    have hlen : (revTo n k px py).length = n := ptsOf_length _ _ _
    by_cases hlt : k < m
    · obtain ⟨c1, c2, c3⟩ := ho.cell hlen (i := k) (by omega)
      obtain ⟨c4, c5, _⟩ := ho.cell hlen (i := m) (by omega)
      have e1 : hx (revTo n k px py) k = px k := by unfold revTo; rw [hx_pts (by omega)]; unfold mixR; rw [if_neg (by omega)]
      have e2 : hy (revTo n k px py) k = py k := by unfold revTo; rw [hy_pts (by omega)]; unfold mixR; rw [if_neg (by omega)]
      have e3 : hx (revTo n k px py) m = px m := by unfold revTo; rw [hx_pts (by omega)]; unfold mixR; rw [if_neg (by omega)]
      have e4 : hy (revTo n k px py) m = py m := by unfold revTo; rw [hy_pts (by omega)]; unfold mixR; rw [if_neg (by omega)]
      rw [e1] at c1
      rw [e2] at c2
      rw [e3] at c4
      rw [e4] at c5
      have f1 := c3 (k * 2)
      have f2 := c3 (k * 2 + 1)
      have f3 := c3 (m * 2)
      have f4 := c3 (m * 2 + 1)
      have hgl : g < wr.heap.size := World.block_lt_of_cell? _ _ c1
      have w1 : k < n := by omega
      have w2 : m < n := by omega
      obtain ⟨m1, hm1⟩ : ∃ m1 : Nat, (m : Int) - 1 = m1 := ⟨m - 1, by omega⟩
      have ho2 := Lib.hid ho
      clear c3 e1 e2 e3 e4 ho
      go_wp2_with fail
      refine wp_region_tail 4 12 (by kernel_rfl) (by kernel_rfl) ?_
      simp only [List.take_succ_cons, List.take_zero, List.drop_succ_cons, List.drop_zero]
      repeat (go_big_quiet_step ((fail)))
      refine wpQuiet_nil ?_
      intro x
      have hx1 := ho2.out.later x
      go_wp2
      refine calm_normal ?_
      have HX1 := Lib.hid hx1
      have HM1 := Lib.hid hm1
      clear hx1
      go_wp2
      go_roundw
      case rel =>
        refine ⟨k + 1, m1, by have := HM1.out; omega, by have := HM1.out; omega, by go_num, rfl, ?_, ?_⟩
        · exact HG.out.trans ((((World.grownBy.but (grown_of_later x) _).trans (grown_set _ _)).trans (grown_set _ _)).trans ((grown_set _ _).trans (grown_set _ _)))
        · have a := HX1.out.set hlen (i := k) (by omega) (px m) (py m)
          have b := a.set (by rw [List.length_set]; exact hlen) (i := m) (by omega) (px k) (py k)
          rw [rev_step hkm hlt]
          exact b
      case measure => have := HM1.out; simp [intOf]; omega
    · go_wp2
      go_end0
      exact ⟨rfl, HG.out, by rw [← rev_all hkm (by omega)]; exact HW.out⟩
end Go.Proofs.YtamhhbkjgfhfoaaDoor
