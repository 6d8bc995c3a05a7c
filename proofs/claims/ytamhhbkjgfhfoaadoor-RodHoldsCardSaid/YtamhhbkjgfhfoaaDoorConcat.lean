/- slices.Concat of two lists of posts. -/
import Derived.Test.YtamhhbkjgfhfoaaDoorMoves
import Derived.Lib.AppendZeros
namespace Go.Proofs.YtamhhbkjgfhfoaaDoor
open Go.RowKit

set_option maxRecDepth 100000 in
set_option maxHeartbeats 1600000 in
theorem grow_any (n : Nat) (w : World) (h0 : 0 < n) (hn : n ≤ 4000) :
    GivesL 40 #[.slice none 0 0, .int .i64 n] w [] := by
  obtain ⟨i0, hi, hz0, hz1, hz2⟩ := info_parts infoXY
  have hpos : (0 : Int) < n := by omega
  have hsz : (Value.agg #[Value.int .i64 0, Value.int .i64 0]).cells.size = 2 := by simp [Value.cells]
  have hge := grownCap_ge w n 0 34
  have hle := grownCap_le_maxLen w n 0 34 (by unfold maxLen; omega)
  have hown : OwnP (w.drew.alloc (.cells (Builtin.zeroCells (Value.agg #[Value.int .i64 0, Value.int .i64 0]).cells n ++ Builtin.zeroCells (Value.agg #[Value.int .i64 0, Value.int .i64 0]).cells (grownCap w n 0 34 - n)) 34)) w.heap.size (.slice (some ⟨w.heap.size, 0, none⟩) 0 (grownCap w n 0 34)) [] :=
    World.ownsRow_made w.drew _ _ (Nat.le_refl _) hle (by rw [Array.size_append, size_zeroCells, size_zeroCells, hsz, ← Nat.add_mul]; congr 1; omega)
  have HO := Lib.hid hown
  clear hown hsz
  go_enter Tryd.func40, Tryd.ntmps40
  go_wp2_with (at_builtin; refine Lib.wpList_append_run _ rfl _ _ 22 3 rfl (.slice none 0 0) (.int .i64 n) rfl rfl _ _ (Lib.run_append_nil_zeros w 22 3 _ 34 i0 (.agg #[.int .i64 0, .int .i64 0]) .i64 _ Tryd.underlying22 Tryd.underlying3 hi hz0 n h0 (by rw [hz1]; decide) (by omega) (by rw [hz2]; omega)) ?_)
  go_ret
  exact ⟨_, rfl, ⟨_, (by repeat (first | exact Below.refl _ _ | (with_reducible assumption) | apply below_later | apply below_alloc | apply below_drew | apply below_drewN))⟩, rfl, HO.out⟩

set_option maxRecDepth 100000 in
set_option maxHeartbeats 3200000 in
theorem concat2_any (g cap b1 o1 n1 c1 b2 o2 n2 c2 : Nat) (px py qx qy : Nat → Int) (w : World) (m1 : 0 < n1) (m2 : n1 ≤ 1000) (m3 : 0 < n2) (m4 : n2 ≤ 1000)
    (hp : Posts w b1 o1 n1 px py) (hq : Posts w b2 o2 n2 qx qy) (d1 : w.cell? ⟨g, 0, none⟩ = some (.slice (some ⟨b1, o1, none⟩) n1 c1)) (d2 : w.cell? ⟨g, 1, none⟩ = some (.slice (some ⟨b2, o2, none⟩) n2 c2)) (hg : g < w.heap.size) :
    GivesL 22 #[.slice (some ⟨g, 0, none⟩) 2 cap] w (ptsOf n1 px py ++ ptsOf n2 qx qy) := by
  have Hp := Lib.hid hp
  have Hq := Lib.hid hq
  have l1 := hp.lt
  have l2 := hq.lt
  clear hp hq
  obtain ⟨i0, hi, hz0, hz1, hz2⟩ := info_parts infoXY
  have L1 := ptsOf_length n1 px py
  have L2 := ptsOf_length n2 qx qy
  go_enter Tryd.func22, Tryd.ntmps22
  go_wp2
  go_loopw [3, 11] (fun v c wr => ((c = .int .i64 0 ∧ v = .int .i64 0) ∨ (c = .int .i64 1 ∧ v = .int .i64 n1) ∨ (c = .int .i64 2 ∧ v = .int .i64 ((n1 + n2 : Nat) : Int))) ∧ ∃ x : Later w, wr = x.val) (fun _ c _ => 2 - (intOf c).toNat)
  case atStart => exact ⟨.inl ⟨rfl, rfl⟩, later_of (by repeat (first | exact Below.refl _ _ | (with_reducible assumption) | apply below_later | apply below_alloc | apply below_drew | apply below_drewN))⟩
  case round =>
    obtain ⟨⟨rfl, rfl⟩ | ⟨rfl, rfl⟩ | ⟨rfl, rfl⟩, x, rfl⟩ := hrel
    · go_wp2
      go_roundw
      case rel => exact ⟨.inr (.inl ⟨rfl, rfl⟩), later_of (by repeat (first | exact Below.refl _ _ | (with_reducible assumption) | apply below_later | apply below_alloc | apply below_drew | apply below_drewN))⟩
      case measure => simp [intOf]
    · go_wp2
      go_roundw
      case rel => exact ⟨.inr (.inr ⟨rfl, by go_num⟩), later_of (by repeat (first | exact Below.refl _ _ | (with_reducible assumption) | apply below_later | apply below_alloc | apply below_drew | apply below_drewN))⟩
      case measure => simp [intOf]
    · generalize hN : n1 + n2 = N at *
      have q1 : 0 < N := by omega
      have q2 : N ≤ 4000 := by omega
      go_wp2_with (go_at_call 40; with_reducible refine Calls.mono (GivesL.at_ _ (grow_any N _ q1 q2)) ?_; rintro e w1 ⟨v, rfl, y, rfl, ho⟩; have hy := ho.mono x.size; obtain ⟨A, cap', rfl⟩ := hy.shape_n (n := 0) rfl)
      clear ho
      go_loopw [6, 27] (fun v c wr => ∃ x : Later w, wr = x.val ∧ ((c = .int .i64 0 ∧ OwnP wr w.heap.size v []) ∨ (c = .int .i64 1 ∧ OwnP wr w.heap.size v (ptsOf n1 px py)) ∨ (c = .int .i64 2 ∧ OwnP wr w.heap.size v (ptsOf n1 px py ++ ptsOf n2 qx qy)))) (fun _ c _ => 2 - (intOf c).toNat)
      case atStart => exact ⟨⟨y.val, (by repeat (first | exact Below.refl _ _ | (with_reducible assumption) | apply below_later | apply below_alloc | apply below_drew | apply below_drewN))⟩, rfl, .inl ⟨rfl, hy⟩⟩
      case round =>
        clear hy
        obtain ⟨x, rfl, ⟨rfl, ho⟩ | ⟨rfl, ho⟩ | ⟨rfl, ho⟩⟩ := hrel
        · obtain ⟨A, cap', rfl⟩ := ho.shape_n (n := 0) rfl
          have HN := Lib.hid (posts_news (Hp.out.later x))
          have HO := Lib.hid ho
          clear ho
          have hs := x.size
          go_wp2_with (at_builtin; (refine wpList_append_own _ rfl _ _ 22 rfl w.heap.size 34 i0 (.agg #[.int .i64 0, .int .i64 0]) 2 16 Tryd.underlying22 hi hz0 hz1 hz2 rfl (by decide) _ _ _ rfl HO.out ⟨b1, o1, none⟩ n1 c1 (cells2 (ptsOf n1 px py)) rfl (by rw [cells2_length, L1]) HN.out (cells2_one _) (by simp only [maxLen, List.length_nil]; omega) (by simp only [List.length_nil]; omega) (by omega) ?_); intro v' w1 hown2 hg1 _)
          go_wp2
          go_roundw
          case rel =>
            refine ⟨⟨w1, below_own (by repeat (first | exact Below.refl _ _ | (with_reducible assumption) | apply below_later | apply below_alloc | apply below_drew | apply below_drewN)) HO.out (Nat.le_refl _) hg1⟩, rfl, .inr (.inl ⟨rfl, ?_⟩)⟩
            unfold OwnP
            rw [L1]
            simp only [List.length_nil, Nat.zero_add] at hown2
            exact hown2
          case measure => simp [intOf]
        · obtain ⟨A, cap', rfl⟩ := ho.shape_n L1
          have HN := Lib.hid (posts_news (Hq.out.later x))
          have HO := Lib.hid ho
          clear ho
          have hs := x.size
          go_wp2_with (at_builtin; (refine wpList_append_own _ rfl _ _ 22 rfl w.heap.size 34 i0 (.agg #[.int .i64 0, .int .i64 0]) 2 16 Tryd.underlying22 hi hz0 hz1 hz2 rfl (by decide) _ _ _ rfl HO.out ⟨b2, o2, none⟩ n2 c2 (cells2 (ptsOf n2 qx qy)) rfl (by rw [cells2_length, L2]) HN.out (cells2_one _) (by simp only [maxLen]; omega) (by omega) (by omega) ?_); intro v' w1 hown2 hg1 _)
          go_wp2
          go_roundw
          case rel =>
            refine ⟨⟨w1, below_own (by repeat (first | exact Below.refl _ _ | (with_reducible assumption) | apply below_later | apply below_alloc | apply below_drew | apply below_drewN)) HO.out (Nat.le_refl _) hg1⟩, rfl, .inr (.inr ⟨rfl, ?_⟩)⟩
            unfold OwnP
            rw [List.length_append, L1, L2, cells2_append]
            rw [L1] at hown2
            exact hown2
          case measure => simp [intOf]
        · obtain ⟨A, cap', rfl⟩ := ho.shape
          go_wp2
          go_ret
          exact ⟨_, rfl, ⟨_, (by repeat (first | exact Below.refl _ _ | (with_reducible assumption) | apply below_later | apply below_alloc | apply below_drew | apply below_drewN))⟩, rfl, ho⟩
end Go.Proofs.YtamhhbkjgfhfoaaDoor
