/- The two examples with which each law of layer 3 ends: walked. -/
import Derived.Test.YtelfinjnbncnlaaSluiceFirst
namespace Go.Proofs.Ytelfinjnbncnlaa
open Go.RowKit

theorem box_ints {X : World} {b n : Nat} {cs : Array Value} {f : Nat → Int} (hn : n ≤ 1000) (h : X.heap[b]? = some (.cells cs 3)) (hc : ∀ i, i < n → cs[i]? = some (.int .i64 (f i))) : IsInts X (some ⟨b, 0, none⟩) n f :=
  ⟨by omega, fun _ => ⟨b, 0, rfl, get_lt h, fun i hi => by rw [Nat.zero_add]; exact cell_of_heap h i _ (hc i hi)⟩⟩
theorem box_slu {X : World} {b : Nat} {a s : Nat → Int} (h : X.heap[b]? = some (.cells #[.int .i64 (a 0), .int .i64 (s 0)] 47)) : IsSlu X (some ⟨b, 0, none⟩) 1 a s := by
  refine ⟨by omega, fun _ => ⟨b, 0, rfl, get_lt h, fun i hi => ?_, fun i hi => ?_⟩⟩
  · obtain rfl : i = 0 := by omega
    exact cell_of_heap h 0 _ rfl
  · obtain rfl : i = 0 := by omega
    exact cell_of_heap h 1 _ rfl
theorem lit4 (i : Nat) (hi : i < 4) : (#[Value.int .i64 5, .int .i64 1, .int .i64 5, .int .i64 2] : Array Value)[i]? = some (.int .i64 (exH i)) := by
  match i, hi with
  | 0, _ => rfl
  | 1, _ => rfl
  | 2, _ => rfl
  | 3, _ => rfl
theorem litM (i : Nat) (hi : i < 4) : (#[Value.int .i64 5, .int .i64 5, .int .i64 5, .int .i64 2] : Array Value)[i]? = some (.int .i64 (([5, 5, 5, 2] : List Int).getD i 0)) := by
  match i, hi with
  | 0, _ => rfl
  | 1, _ => rfl
  | 2, _ => rfl
  | 3, _ => rfl
theorem lit1 (x : Int) (i : Nat) (hi : i < 1) : (#[Value.int .i64 x] : Array Value)[i]? = some (.int .i64 (([x] : List Int).getD i 0)) := by
  obtain rfl : i = 0 := by omega
  rfl
theorem three_1 (w : World) (o p q : Obj) : (((w.alloc o).alloc p).alloc q).heap[w.heap.size]? = some o := by
  rw [Below.heap_alloc _ _ _ (by simp only [World.size_alloc]; omega), Below.heap_alloc _ _ _ (by simp)]
  exact World.alloc_heap_new _ _
theorem three_2 (w : World) (o p q : Obj) : (((w.alloc o).alloc p).alloc q).heap[w.heap.size + 1]? = some p := by
  rw [Below.heap_alloc _ _ _ (by simp)]
  exact box_two w o p
theorem list_of {L : List Int} {M : Nat → Int} {n : Nat} (hl : L.length = n) (h : ∀ i, i < n → L.getD i 0 = M i) : L = (List.range n).map M := by
  apply List.ext_getElem
  · simp [hl]
  · intro i h1 h2
    have := h i (by omega)
    rw [List.getD_eq_getElem?_getD, List.getElem?_eq_getElem h1] at this
    simpa using this
set_option maxRecDepth 100000 in
set_option maxHeartbeats 3200000 in
theorem first_any (w : World) : Gives Try.prog 7 #[] w (.bool true) := by
  have FL : Hid (∀ (w' : World) (A B : Option Addr) (c1 c2 : Nat), IsInts w' A 4 exH → IsSlu w' B 1 exA exS → Calls Try.prog 21 #[.agg #[.int .i64 4, .int .i64 1, .slice A 4 c1, .slice B 1 c2]] w' fun e w'' => ∃ v, e = .returned (.tuple #[v, .int .i64 0]) ∧ ∃ x : Later w', w'' = x.val ∧ OwnI w'' w'.heap.size v [5, 5, 5, 2]) := fun w' A B c1 c2 h1 h2 => by
    refine Calls.mono (Levels_ok 4 1 4 c1 1 c2 A B exH exA exS w' h1 h2 ex_valid) ?_
    rintro e w2 ⟨v, L, rfl, x, rfl, ho, hl, hlev, _⟩
    have e5 : L = [5, 5, 5, 2] := (list_of hl fun i hi => level_unique hlev ex_level hi).trans (by decide)
    exact ⟨v, rfl, x, rfl, e5 ▸ ho⟩
  have ST : Hid (∀ (w' : World) (A : Option Addr) (c1 : Nat), IsInts w' A 1 (fun _ => 9) → Calls Try.prog 22 #[.int .i64 1, .int .i64 1, .slice A 1 c1] w' fun e w'' => ∃ v1 v2, e = .returned (.tuple #[v1, v2, .int .i64 0]) ∧ ∃ x : Later w', w'' = x.val ∧ OwnI w'' w'.heap.size v1 [1] ∧ OwnI w'' w'.heap.size v2 [2]) := fun w' A c1 h1 => by
    refine Calls.mono (Settle_ok 1 1 1 c1 A (fun _ => 9) w' h1 (by decide)) ?_
    rintro e w2 ⟨v1, v2, b, o, k, rfl, x, rfl, h1, h2, hp, hs, _⟩
    have e1 : (b, o) = ([1], [2]) := by
      cases k with
      | zero =>
        have e0 : (b, o) = ([9], [0]) := hp
        obtain ⟨rfl, rfl⟩ := Prod.mk.inj e0
        exact absurd (hs 0 (by omega)) (by decide)
      | succ k => exact hp.trans (ex_passes k)
    obtain ⟨rfl, rfl⟩ := Prod.mk.inj e1
    exact ⟨v1, v2, rfl, x, rfl, h1, h2⟩
  have SI4 : Hid (∀ (w' : World) (A B : Option Addr) (c1 c2 : Nat), IsInts w' A 4 (fun i => ([5, 5, 5, 2] : List Int).getD i 0) → IsInts w' B 4 (fun i => ([5, 5, 5, 2] : List Int).getD i 0) → Gives Try.prog 11 #[.slice A 4 c1, .slice B 4 c2] w' (.bool true)) := fun w' A B c1 c2 h1 h2 => same_ints A B 4 c1 c2 _ _ w' (by omega) h1 h2 fun _ _ => rfl
  have SI1 : Hid (∀ (w' : World) (A B : Option Addr) (c1 c2 : Nat), IsInts w' A 1 (fun i => ([1] : List Int).getD i 0) → IsInts w' B 1 (fun i => ([1] : List Int).getD i 0) → Gives Try.prog 11 #[.slice A 1 c1, .slice B 1 c2] w' (.bool true)) := fun w' A B c1 c2 h1 h2 => same_ints A B 1 c1 c2 _ _ w' (by omega) h1 h2 fun _ _ => rfl
  have SI2 : Hid (∀ (w' : World) (A B : Option Addr) (c1 c2 : Nat), IsInts w' A 1 (fun i => ([2] : List Int).getD i 0) → IsInts w' B 1 (fun i => ([2] : List Int).getD i 0) → Gives Try.prog 11 #[.slice A 1 c1, .slice B 1 c2] w' (.bool true)) := fun w' A B c1 c2 h1 h2 => same_ints A B 1 c1 c2 _ _ w' (by omega) h1 h2 fun _ _ => rfl
  have SX4 : Hid (∀ (V W0 : World) (A : Option Addr) (c1 c2 : Nat) (Q : Ending → World → Prop), IsInts W0 A 4 (fun i => ([5, 5, 5, 2] : List Int).getD i 0) → Below W0.heap.size W0 V → (∀ t : Later (V.alloc (.cells #[.int .i64 5, .int .i64 5, .int .i64 5, .int .i64 2] 3)), Q (.returned (.bool true)) t.val) → Calls Try.prog 11 #[.slice A 4 c1, .slice (some ⟨V.heap.size, 0, none⟩) 4 c2] (V.alloc (.cells #[.int .i64 5, .int .i64 5, .int .i64 5, .int .i64 2] 3)) Q) := fun V W0 A c1 c2 Q hA hv hq => by
    have hb := box_ints (n := 4) (f := fun i => ([5, 5, 5, 2] : List Int).getD i 0) (by decide) (World.alloc_heap_new V (.cells #[.int .i64 5, .int .i64 5, .int .i64 5, .int .i64 2] 3)) litM
    refine Calls.mono (Gives.calls (SI4.out _ A _ c1 c2 (hA.later ⟨_, below_alloc hv⟩) hb)) ?_
    rintro e w3 ⟨rfl, t1, rfl⟩
    exact hq t1
  have SX1 : Hid (∀ (V W0 : World) (A : Option Addr) (c1 c2 : Nat) (Q : Ending → World → Prop), IsInts W0 A 1 (fun i => ([1] : List Int).getD i 0) → Below W0.heap.size W0 V → (∀ t : Later (V.alloc (.cells #[.int .i64 1] 3)), Q (.returned (.bool true)) t.val) → Calls Try.prog 11 #[.slice A 1 c1, .slice (some ⟨V.heap.size, 0, none⟩) 1 c2] (V.alloc (.cells #[.int .i64 1] 3)) Q) := fun V W0 A c1 c2 Q hA hv hq => by
    have hb := box_ints (n := 1) (f := fun i => ([1] : List Int).getD i 0) (by decide) (World.alloc_heap_new V (.cells #[.int .i64 1] 3)) (lit1 1)
    refine Calls.mono (Gives.calls (SI1.out _ A _ c1 c2 (hA.later ⟨_, below_alloc hv⟩) hb)) ?_
    rintro e w3 ⟨rfl, t1, rfl⟩
    exact hq t1
  have SX2 : Hid (∀ (V W0 : World) (A : Option Addr) (c1 c2 : Nat) (Q : Ending → World → Prop), IsInts W0 A 1 (fun i => ([2] : List Int).getD i 0) → Below W0.heap.size W0 V → (∀ t : Later (V.alloc (.cells #[.int .i64 2] 3)), Q (.returned (.bool true)) t.val) → Calls Try.prog 11 #[.slice A 1 c1, .slice (some ⟨V.heap.size, 0, none⟩) 1 c2] (V.alloc (.cells #[.int .i64 2] 3)) Q) := fun V W0 A c1 c2 Q hA hv hq => by
    have hb := box_ints (n := 1) (f := fun i => ([2] : List Int).getD i 0) (by decide) (World.alloc_heap_new V (.cells #[.int .i64 2] 3)) (lit1 2)
    refine Calls.mono (Gives.calls (SI2.out _ A _ c1 c2 (hA.later ⟨_, below_alloc hv⟩) hb)) ?_
    rintro e w3 ⟨rfl, t1, rfl⟩
    exact hq t1
  go_enter Try.func7, Try.ntmps7
  go_wp2_with (first
    | (go_at_call 21; refine Calls.mono (FL.out _ _ _ _ _ (box_ints (f := exH) (by omega) (three_1 w _ _ _) lit4) (box_slu (three_2 w _ _ _))) ?_; rintro e w1 ⟨v, rfl, z, rfl, ho⟩; obtain ⟨A1, cap1, rfl⟩ := ho.shape_n (n := 4) rfl; have HI := Lib.hid (show IsInts _ _ 4 (fun i => ([5, 5, 5, 2] : List Int).getD i 0) from (ho.ints (by decide)).2); clear ho)
    | (go_at_call 22; refine Calls.mono (ST.out _ _ _ (box_ints (f := fun _ => 9) (by omega) (World.alloc_heap_new _ _) (fun i hi => by obtain rfl : i = 0 := (by omega); rfl))) ?_; rintro e w2 ⟨v1, v2, rfl, y, rfl, h1, h2⟩; obtain ⟨A2, cap2, rfl⟩ := h1.shape_n (n := 1) rfl; obtain ⟨A3, cap3, rfl⟩ := h2.shape_n (n := 1) rfl; have HI1 := Lib.hid (show IsInts _ _ 1 (fun i => ([1] : List Int).getD i 0) from (h1.ints (by decide)).2); have HI2 := Lib.hid (show IsInts _ _ 1 (fun i => ([2] : List Int).getD i 0) from (h2.ints (by decide)).2); clear h1 h2)
    | (go_at_call 11; (with_reducible refine SX4.out _ _ _ _ _ _ HI.out (by repeat (first | exact Below.refl _ _ | (with_reducible assumption) | apply below_later | apply below_alloc | apply below_drew | apply below_drewN)) ?_; intro t1))
    | (go_at_call 11; (with_reducible refine SX1.out _ _ _ _ _ _ HI1.out (by repeat (first | exact Below.refl _ _ | (with_reducible assumption) | apply below_later | apply below_alloc | apply below_drew | apply below_drewN)) ?_; intro t2))
    | (go_at_call 11; (with_reducible refine SX2.out _ _ _ _ _ _ HI2.out (by repeat (first | exact Below.refl _ _ | (with_reducible assumption) | apply below_later | apply below_alloc | apply below_drew | apply below_drewN)) ?_; intro t3)))
  go_ret
  exact ⟨rfl, later_of (by repeat (first | exact Below.refl _ _ | (with_reducible assumption) | apply below_later | apply below_alloc | apply below_drew | apply below_drewN))⟩
end Go.Proofs.Ytelfinjnbncnlaa
