/- The questions that bed.groups asks, and the squares that it goes to next. -/
import Derived.Test.YtajfepogecakbaaDoorGroupsKeep
import Derived.Test.YtajfepogecakbaaDoorMarks
import Derived.Test.YtajfepogecakbaaDoorReedNear
namespace Go.Proofs.YtajfepogecakbaaDoor
open Go.RowKit

def belPools (f : Nat → Int) (i : Nat) : Bool := !isReed f i
def belBeds (f : Nat → Int) (i : Nat) : Bool := isReed f i
def nxPools (W H i : Nat) : List Nat := aroundL W H i
def nxBeds (W H i : Nat) : List Nat := nbrs W H i
/-- What an iterator has caught, whose two blocks are s and s + 1. -/
def lbPools (s : Nat) : Array Value := #[.pointer (some ⟨s + 1, 0, none⟩), .pointer (some ⟨s, 0, none⟩)]
def lbBeds (s : Nat) : Array Value := #[.pointer (some ⟨s, 0, none⟩), .pointer (some ⟨s + 1, 0, none⟩)]

theorem around_lt2 {W H i x : Nat} (h : x ∈ aroundL W H i) : x < W * H := by
  obtain ⟨p, _, hp⟩ := List.mem_filterMap.1 h
  unfold pickP at hp
  split at hp
  · rename_i hk
    obtain rfl := Option.some.inj hp
    unfold okP insB at hk
    simp only [Bool.and_eq_true, decide_eq_true_eq] at hk
    obtain ⟨_, h1, h2, h3, h4⟩ := hk
    have m := Int.mul_le_mul (show plY W i p ≤ (H : Int) - 1 by omega) (Int.le_refl (W : Int)) (by omega) (by omega)
    have e : ((H : Int) - 1) * W = ((W * H : Nat) : Int) - W := by rw [Int.sub_mul, Int.one_mul, Int.mul_comm, Int.natCast_mul]
    have m2 := Int.mul_nonneg h3 (show (0 : Int) ≤ W by omega)
    unfold idP
    omega
  · cases hp
theorem nxPools_lt {W H i x : Nat} (h : x ∈ nxPools W H i) : x < W * H := around_lt2 h
theorem nxBeds_lt {W H i x : Nat} (h : x ∈ nxBeds W H i) : x < W * H := nbrs_lt h
theorem nxPools_len (W H i : Nat) : (nxPools W H i).length ≤ 9 := by
  have h2 := List.length_filterMap_le (pickP W H i) (List.range 9)
  rw [List.length_range] at h2
  unfold nxPools aroundL; omega
theorem nxBeds_len (W H i : Nat) : (nxBeds W H i).length ≤ 9 := nbrs_len W H i

set_option maxHeartbeats 800000 in
theorem belPools_any (W H n cap b off bm i : Nat) (f : Nat → Int) (w : World) (hi : i < n) (hn : n ≤ 1000) (p : Ints w b off n f) (c2 : w.cell? ⟨bm, 2, none⟩ = some (.slice (some ⟨b, off, none⟩) n cap)) :
    Gives Tryd.prog 75 #[.int .i64 i, .pointer (some ⟨bm, 0, none⟩)] w (.bool (belPools f i)) := by
  have lm := World.block_lt_of_cell? _ _ c2
  have lb := p.lt
  have c := p.at_ i hi
  have HR : Hid (belPools f i = if f i = 1 then (!true) else true) := by show _ = _; unfold belPools isReed; by_cases h : f i = 1 <;> simp [h]
  generalize belPools f i = r at HR ⊢
  clear p
  by_cases h : f i = 1
  · rw [if_pos h] at HR
    rw [h] at c
    clear h
    go_enter Tryd.func75, Tryd.ntmps75
    go_wp2
    go_ret
    exact ⟨ret_bool (by rw [HR.out]; rfl), later_of (by repeat (first | exact Below.refl _ _ | (with_reducible assumption) | apply below_later | apply below_alloc | apply below_drew | apply below_drewN))⟩
  · rw [if_neg h] at HR
    have q : (f i == 1) = false := by simpa using h
    have q2 : (f i != 1) = true := by simpa using h
    clear h
    go_enter Tryd.func75, Tryd.ntmps75
    go_wp2
    go_ret
    exact ⟨ret_bool (by rw [HR.out]), later_of (by repeat (first | exact Below.refl _ _ | (with_reducible assumption) | apply below_later | apply below_alloc | apply below_drew | apply below_drewN))⟩
set_option maxHeartbeats 800000 in
theorem nextPools_any (W H at_ n cap bm : Nat) (A : Option Addr) (w : World) (c0 : w.cell? ⟨bm, 0, none⟩ = some (.int .i64 W)) (c1 : w.cell? ⟨bm, 1, none⟩ = some (.int .i64 H)) (c2 : w.cell? ⟨bm, 2, none⟩ = some (.slice A n cap)) :
    Calls Tryd.prog 76 #[.int .i64 at_, .pointer (some ⟨bm, 0, none⟩)] w fun e w' =>
      e = .returned (.func (.func 103) #[] (lbPools w.heap.size)) ∧ w' = (w.alloc (.cells #[.int .i64 W, .int .i64 H, .slice A n cap] 24)).alloc (.cells #[.int .i64 at_] 3) := by
  go_enter Tryd.func76, Tryd.ntmps76
  go_wp2_with (go_at_call 77; refine Calls.mono (around_any W H at_ A n cap _) ?_; rintro e w' ⟨rfl, rfl⟩)
  go_ret
  exact ⟨rfl, rfl⟩
theorem iterPools (W H at_ : Nat) (hW : 1 ≤ W) (hW2 : W ≤ 30) (hH : H ≤ 30) (hat : at_ < W * H) (A : Option Addr) (n cap : Nat) (w : World) :
    IterC Tryd.prog 103 (lbPools w.heap.size) (fun b => b = w.heap.size + 1 ∨ b = w.heap.size) (valsOf (nxPools W H at_)) ((w.alloc (.cells #[.int .i64 W, .int .i64 H, .slice A n cap] 24)).alloc (.cells #[.int .i64 at_] 3)) := by
  have h1 : ((w.alloc (.cells #[.int .i64 W, .int .i64 H, .slice A n cap] 24)).alloc (.cells #[.int .i64 at_] 3)).heap[w.heap.size + 1]? = some (.cells #[.int .i64 at_] 3) := by
    have := World.alloc_heap_new (w.alloc (.cells #[.int .i64 W, .int .i64 H, .slice A n cap] 24)) (.cells #[.int .i64 at_] 3)
    rwa [World.size_alloc] at this
  have h2 : ((w.alloc (.cells #[.int .i64 W, .int .i64 H, .slice A n cap] 24)).alloc (.cells #[.int .i64 at_] 3)).heap[w.heap.size]? = some (.cells #[.int .i64 W, .int .i64 H, .slice A n cap] 24) := by
    rw [Below.heap_alloc _ _ _ (by simp)]; exact World.alloc_heap_new w _
  exact around1_iter W H at_ hW hW2 hH hat A n cap _ (w.heap.size+1) w.heap.size h1 h2
set_option maxHeartbeats 800000 in
theorem belBeds_any (W H n cap b off bm i : Nat) (f : Nat → Int) (w : World) (hi : i < n) (hn : n ≤ 1000) (p : Ints w b off n f) (c2 : w.cell? ⟨bm, 2, none⟩ = some (.slice (some ⟨b, off, none⟩) n cap)) :
    Gives Tryd.prog 99 #[.int .i64 i, .pointer (some ⟨bm, 0, none⟩)] w (.bool (belBeds f i)) := by
  have lm := World.block_lt_of_cell? _ _ c2
  have lb := p.lt
  have c := p.at_ i hi
  have HR : Hid (belBeds f i = if f i = 1 then (!false) else false) := by show _ = _; unfold belBeds isReed; by_cases h : f i = 1 <;> simp [h]
  generalize belBeds f i = r at HR ⊢
  clear p
  by_cases h : f i = 1
  · rw [if_pos h] at HR
    rw [h] at c
    clear h
    go_enter Tryd.func99, Tryd.ntmps99
    go_wp2
    go_ret
    exact ⟨ret_bool (by rw [HR.out]; rfl), later_of (by repeat (first | exact Below.refl _ _ | (with_reducible assumption) | apply below_later | apply below_alloc | apply below_drew | apply below_drewN))⟩
  · rw [if_neg h] at HR
    have q : (f i == 1) = false := by simpa using h
    have q2 : (f i != 1) = true := by simpa using h
    clear h
    go_enter Tryd.func99, Tryd.ntmps99
    go_wp2
    go_ret
    exact ⟨ret_bool (by rw [HR.out]), later_of (by repeat (first | exact Below.refl _ _ | (with_reducible assumption) | apply below_later | apply below_alloc | apply below_drew | apply below_drewN))⟩
set_option maxHeartbeats 800000 in
theorem nextBeds_any (W H at_ n cap bm : Nat) (A : Option Addr) (w : World) (c0 : w.cell? ⟨bm, 0, none⟩ = some (.int .i64 W)) (c1 : w.cell? ⟨bm, 1, none⟩ = some (.int .i64 H)) (c2 : w.cell? ⟨bm, 2, none⟩ = some (.slice A n cap)) :
    Calls Tryd.prog 100 #[.int .i64 at_, .pointer (some ⟨bm, 0, none⟩)] w fun e w' =>
      e = .returned (.func (.func 109) #[] (lbBeds w.heap.size)) ∧ w' = (w.alloc (.cells #[.int .i64 W, .int .i64 H, .slice A n cap] 24)).alloc (.cells #[.int .i64 at_] 3) := by
  go_enter Tryd.func100, Tryd.ntmps100
  go_wp2_with (go_at_call 101; refine Calls.mono (neighbours_any W H at_ A n cap _) ?_; rintro e w' ⟨rfl, rfl⟩)
  go_ret
  exact ⟨rfl, rfl⟩
theorem iterBeds (W H at_ : Nat) (hW : 1 ≤ W) (hW2 : W ≤ 30) (hH : H ≤ 30) (hat : at_ < W * H) (A : Option Addr) (n cap : Nat) (w : World) :
    IterC Tryd.prog 109 (lbBeds w.heap.size) (fun b => b = w.heap.size + 1 ∨ b = w.heap.size) (valsOf (nxBeds W H at_)) ((w.alloc (.cells #[.int .i64 W, .int .i64 H, .slice A n cap] 24)).alloc (.cells #[.int .i64 at_] 3)) := by
  have h1 : ((w.alloc (.cells #[.int .i64 W, .int .i64 H, .slice A n cap] 24)).alloc (.cells #[.int .i64 at_] 3)).heap[w.heap.size + 1]? = some (.cells #[.int .i64 at_] 3) := by
    have := World.alloc_heap_new (w.alloc (.cells #[.int .i64 W, .int .i64 H, .slice A n cap] 24)) (.cells #[.int .i64 at_] 3)
    rwa [World.size_alloc] at this
  have h2 : ((w.alloc (.cells #[.int .i64 W, .int .i64 H, .slice A n cap] 24)).alloc (.cells #[.int .i64 at_] 3)).heap[w.heap.size]? = some (.cells #[.int .i64 W, .int .i64 H, .slice A n cap] 24) := by
    rw [Below.heap_alloc _ _ _ (by simp)]; exact World.alloc_heap_new w _
  exact neighbours1_iter W H at_ hW hW2 hH hat A n cap _ w.heap.size (w.heap.size+1) h1 h2
end Go.Proofs.YtajfepogecakbaaDoor
