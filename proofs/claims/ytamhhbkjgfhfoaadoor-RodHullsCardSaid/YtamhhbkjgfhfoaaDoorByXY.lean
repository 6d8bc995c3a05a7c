/- rod.byXY: posts by x, then by y. -/
import Derived.Test.YtamhhbkjgfhfoaaDoorOwn
import Derived.Test.YtamhhbkjgfhfoaaDoorTail
import Derived.Test.YtamhhbkjgfhfoaaDoorShelf
import Derived.Sort.Grow
import Derived.RangeFuncBound
namespace Go.Proofs.YtamhhbkjgfhfoaaDoor
open Go.RowKit Go.Sort

def orI (a b : Int) : Int := if a = 0 then b else a
set_option maxHeartbeats 800000 in
theorem or_any (g cap : Nat) (a b : Int) (w : World) (h0 : w.cell? ⟨g, 0, none⟩ = some (.int .i64 a)) (h1 : w.cell? ⟨g, 1, none⟩ = some (.int .i64 b)) :
    Calls Tryd.prog 37 #[.slice (some ⟨g, 0, none⟩) 2 cap] w fun e w' => e = .returned (.int .i64 (orI a b)) ∧ w' = w := by
  by_cases ha : a = 0
  · have E : Hid (orI a b = b) := if_pos ha
    subst ha
    by_cases hb : b = 0
    · subst hb
      go_enter Tryd.func37, Tryd.ntmps37
      go_wp2
      go_loop [8] (fun i => ∃ k : Nat, k ≤ 2 ∧ i = .int .i64 k) (fun i => 2 - (intOf i).toNat)
      case atStart => exact ⟨0, by omega, rfl⟩
      case round =>
        obtain ⟨k, hk, rfl⟩ := hrel
        have hk' : k = 0 ∨ k = 1 ∨ k = 2 := by omega
        rcases hk' with rfl | rfl | rfl
        · go_wp2
          go_round
          case rel => exact ⟨1, by omega, rfl⟩
          case measure => simp [intOf]
        · go_wp2
          go_round
          case rel => exact ⟨2, by omega, rfl⟩
          case measure => simp [intOf]
        · go_wp2
          go_ret
          exact ⟨by rw [E.out]; try rfl, rfl⟩
    · have hb' : (b != 0) = true := by simpa using hb
      go_enter Tryd.func37, Tryd.ntmps37
      go_wp2
      go_loop [8] (fun i => ∃ k : Nat, k ≤ 1 ∧ i = .int .i64 k) (fun i => 2 - (intOf i).toNat)
      case atStart => exact ⟨0, by omega, rfl⟩
      case round =>
        obtain ⟨k, hk, rfl⟩ := hrel
        have hk' : k = 0 ∨ k = 1 := by omega
        rcases hk' with rfl | rfl
        · go_wp2
          go_round
          case rel => exact ⟨1, by omega, rfl⟩
          case measure => simp [intOf]
        · go_wp2
          go_ret
          exact ⟨by rw [E.out]; try rfl, rfl⟩
  · have E : Hid (orI a b = a) := if_neg ha
    have ha' : (a != 0) = true := by simpa using ha
    go_enter Tryd.func37, Tryd.ntmps37
    go_wp2
    go_loop [8] (fun i => ∃ k : Nat, k ≤ 0 ∧ i = .int .i64 k) (fun i => 2 - (intOf i).toNat)
    case atStart => exact ⟨0, by omega, rfl⟩
    case round =>
      obtain ⟨k, hk, rfl⟩ := hrel
      obtain rfl : k = 0 := by omega
      go_wp2
      go_ret
      exact ⟨by rw [E.out]; try rfl, rfl⟩

theorem new_cell {w : World} {o1 o2 : Obj} {cs : Array Value} {t : TypeId} (n j : Nat) (v : Value) (h : cs[j]? = some v) : ((((w.alloc o1).alloc o2).drewN n).alloc (.cells cs t)).cell? ⟨w.heap.size + 1 + 1, j, none⟩ = some v := by
  have e : ((((w.alloc o1).alloc o2).drewN n).alloc (.cells cs t)).heap[w.heap.size + 1 + 1]? = some (.cells cs t) := by
    have := World.alloc_heap_new (((w.alloc o1).alloc o2).drewN n) (.cells cs t)
    have hz : (((w.alloc o1).alloc o2).drewN n).heap.size = w.heap.size + 1 + 1 := by
      show ((w.alloc o1).alloc o2).heap.size = _
      rw [World.size_alloc, World.size_alloc]
    rw [hz] at this
    exact this
  unfold World.cell?
  simp only [e]
  simpa using h
def cmpXY (p q : Pt) : Int := orI (Lib.compareInt p.1 q.1) (Lib.compareInt p.2 q.2)
def encXY (p : Pt) : List Value := [.int .i64 p.1, .int .i64 p.2]
set_option maxRecDepth 100000 in
set_option maxHeartbeats 800000 in
theorem byXY_any (p q : Pt) (w : World) : Calls Tryd.prog 18 #[.agg #[.int .i64 p.1, .int .i64 p.2], .agg #[.int .i64 q.1, .int .i64 q.2]] w fun e w' => e = .returned (.int .i64 (cmpXY p q)) ∧ ∃ n os, w' = grow (w.drewN n) os := by
  have C : Hid (∀ x y w, Calls Tryd.prog 38 #[.int .i64 x, .int .i64 y] w fun e w' => e = .returned (.int .i64 (Lib.compareInt x y)) ∧ w' = w) := fun x y w => Tryd.cmp_Compare_int x y w
  unfold cmpXY
  go_enter Tryd.func18, Tryd.ntmps18
  go_wp2
  refine wp_region_tail_in (C := fun w' => ∃ n, w' = ((w.alloc (.cells #[.int .i64 p.1, .int .i64 p.2] 34)).alloc (.cells #[.int .i64 q.1, .int .i64 q.2] 34)).drewN n) 0 10 (by kernel_rfl) (by kernel_rfl) ⟨1, rfl⟩ ?_
  simp only [List.take_succ_cons, List.take_zero, List.drop_succ_cons, List.drop_zero]
  repeat (go_big_quiet_step ((go_at_call 38; refine (C.out _ _ _).mono ?_; rintro e w'' ⟨rfl, rfl⟩; exact ⟨rfl, _, rfl⟩)))
  refine wpQuiet_nil ?_
  rintro w' ⟨n, rfl⟩
  generalize hA : Lib.compareInt p.1 q.1 = A
  generalize hB : Lib.compareInt p.2 q.2 = B
  go_wp2_with (go_at_call 37; refine (or_any (w.heap.size + 1 + 1) _ A B _ (new_cell n 0 _ rfl) (new_cell n 1 _ rfl)).mono ?_; rintro e w' ⟨rfl, rfl⟩)
  refine calm_normal ?_
  go_wp2
  go_ret
  subst hA hB
  exact ⟨rfl, n, #[_, _, _], by rw [alloc_eq_grow]; rfl⟩
end Go.Proofs.YtamhhbkjgfhfoaaDoor
