/- SluiceLevels: the walk. -/
import Derived.Test.YtihgadppndcjaaaSFirst
import Derived.Test.YtihgadppndcjaaaDepths
import Derived.Test.YtihgadppndcjaaaSFen
namespace Go.Proofs.Ytihgadppndcjaaa
open Go.RowKit

theorem least_nat {P : Nat → Prop} : ∀ k, P k → ∃ y, y ≤ k ∧ P y ∧ ∀ z, z < y → ¬ P z := by
  intro k
  induction k using Nat.strongRecOn with
  | _ k ih =>
    intro hk
    rcases Classical.em (∃ z, z < k ∧ P z) with ⟨z, hz, pz⟩ | h
    · obtain ⟨y, h1, h2, h3⟩ := ih z hz pz
      exact ⟨y, by omega, h2, h3⟩
    · exact ⟨k, Nat.le_refl _, hk, fun z hz pz => h ⟨z, hz, pz⟩⟩
/-- Every valid fen has its levels. -/
theorem fen_levels {W H n m : Nat} {f a s : Nat → Int} (hv : validF W H n f m a s = true) : ∃ L, FenL W H n m f a s L := by
  obtain ⟨_, _, a6, _⟩ := valid_facts hv
  have h : ∀ i, i < n → ∃ y : Int, 0 ≤ y ∧ ∀ x, Leaves n (near4 W H) f (slOf m a s) x i ↔ y ≤ x := fun i hi => by
    obtain ⟨y, _, h2, h3⟩ := least_nat (P := fun k => Leaves n (near4 W H) f (slOf m a s) (k : Int) i) 1000 (all_leave hv i hi)
    refine ⟨y, by omega, fun x => ⟨fun hx => ?_, fun hx => h2.more hx⟩⟩
    rcases Int.lt_or_le x y with q | q
    · have := hx.high
      have := a6 i hi
      refine absurd ?_ (h3 x.toNat (by omega))
      show Leaves n (near4 W H) f (slOf m a s) ((x.toNat : Nat) : Int) i
      rw [Int.toNat_of_nonneg (by omega)]
      exact hx
    · exact q
  obtain ⟨L, hL⟩ := pick_lt h
  exact ⟨L, hv, fun i hi x => (hL i hi).2 x, fun i hi => (hL i hi).1⟩
set_option maxHeartbeats 1600000 in
theorem fenLarge_any (W H : Int) (A B : Option Addr) (n cap m capS : Nat) (w : World) : Gives Try.prog 15 #[.agg #[.int .i64 W, .int .i64 H, .slice A n cap, .slice B m capS]] w (.bool (decide (100 < n) || decide (30 < m))) := by
  by_cases h1 : 100 < n
  · have q1 : decide ((100 : Int) < (n : Int)) = true := decide_eq_true (by omega)
    rw [decide_eq_true h1, Bool.true_or]
    go_enter Try.func15, Try.ntmps15
    go_wp2
    go_ret
    exact ⟨rfl, later_of (by repeat (first | exact Below.refl _ _ | (with_reducible assumption) | apply below_later | apply below_alloc | apply below_drew | apply below_drewN))⟩
  · have q1 : decide ((100 : Int) < (n : Int)) = false := decide_eq_false (by omega)
    rw [decide_eq_false h1, Bool.false_or]
    by_cases h2 : 30 < m
    · have q2 : decide ((30 : Int) < (m : Int)) = true := decide_eq_true (by omega)
      rw [decide_eq_true h2]
      go_enter Try.func15, Try.ntmps15
      go_wp2
      go_ret
      exact ⟨rfl, later_of (by repeat (first | exact Below.refl _ _ | (with_reducible assumption) | apply below_later | apply below_alloc | apply below_drew | apply below_drewN))⟩
    · have q2 : decide ((30 : Int) < (m : Int)) = false := decide_eq_false (by omega)
      rw [decide_eq_false h2]
      go_enter Try.func15, Try.ntmps15
      go_wp2
      go_ret
      exact ⟨rfl, later_of (by repeat (first | exact Below.refl _ _ | (with_reducible assumption) | apply below_later | apply below_alloc | apply below_drew | apply below_drewN))⟩
set_option maxRecDepth 100000 in
set_option maxHeartbeats 3200000 in
theorem levels_law (W H : Int) (A : Option Addr) (n cap : Nat) (f : Nat → Int) (B : Option Addr) (m capS : Nat) (a s : Nat → Int) (w : World) (hp : n ≤ 9223372036854775807 → IsInts w A n f) (hq : m ≤ 60 → IsSlu w B m a s) :
    Gives Try.prog 3 #[.agg #[.int .i64 W, .int .i64 H, .slice A n cap, .slice B m capS]] w (.bool true) := by
  have F1 : Hid (∀ w, Gives Try.prog 16 #[] w (.bool true)) := first_any
  have FW : Hid (∀ w, Gives Try.prog 15 #[.agg #[.int .i64 W, .int .i64 H, .slice A n cap, .slice B m capS]] w (.bool (decide (100 < n) || decide (30 < m)))) := fun w => fenLarge_any W H A B n cap m capS w
  cases hl : (decide (100 < n) || decide (30 < m))
  · rw [hl] at FW
    simp only [Bool.or_eq_false_iff, decide_eq_false_iff_not] at hl
    have hp' := hp (by omega)
    have hq' := hq (by omega)
    clear hp hq
    have BX : Hid (∀ V, Below (w.alloc (.cells #[.int .i64 W, .int .i64 H, .slice A n cap, .slice B m capS] 25)).heap.size (w.alloc (.cells #[.int .i64 W, .int .i64 H, .slice A n cap, .slice B m capS] 25)) V → V.cell? ⟨w.heap.size, 0, none⟩ = some (.int .i64 W) ∧ V.cell? ⟨w.heap.size, 1, none⟩ = some (.int .i64 H) ∧ V.cell? ⟨w.heap.size, 2, none⟩ = some (.slice A n cap) ∧ V.cell? ⟨w.heap.size, 3, none⟩ = some (.slice B m capS) ∧ w.heap.size < V.heap.size) := fun V h =>
      ⟨(Later.cell ⟨V, h⟩ _ _ (by simp)).trans (cell_of_heap (World.alloc_heap_new _ _) 0 _ rfl), (Later.cell ⟨V, h⟩ _ _ (by simp)).trans (cell_of_heap (World.alloc_heap_new _ _) 1 _ rfl), (Later.cell ⟨V, h⟩ _ _ (by simp)).trans (cell_of_heap (World.alloc_heap_new _ _) 2 _ rfl), (Later.cell ⟨V, h⟩ _ _ (by simp)).trans (cell_of_heap (World.alloc_heap_new _ _) 3 _ rfl), by have := h.size; simp at this; omega⟩
    cases hv : validF W H n f m a s
    · have C1 : Hid (∀ w', Below w.heap.size w w' → Gives Try.prog 17 #[.agg #[.int .i64 W, .int .i64 H, .slice A n cap, .slice B m capS]] w' (.tuple #[.slice none 0 0, .int .i64 30])) := fun w' h => Levels_bad W H n cap m capS A B f a s w' (hp'.later ⟨w', h⟩) (hq'.later ⟨w', h⟩) hv
      have C2 : Hid (∀ w', Below w.heap.size w w' → Gives Try.prog 18 #[.agg #[.int .i64 W, .int .i64 H, .slice A n cap, .slice B m capS]] w' (.tuple #[.slice none 0 0, .int .i64 30])) := fun w' h => Depths_bad W H n cap m capS A B f a s w' (hp'.later ⟨w', h⟩) (hq'.later ⟨w', h⟩) hv
      have C3 : Hid (∀ w', Below w.heap.size w w' → Gives Try.prog 19 #[.agg #[.int .i64 W, .int .i64 H, .slice A n cap, .slice B m capS]] w' (.tuple #[.int .i64 0, .int .i64 30])) := fun w' h => Volume_bad W H n cap m capS A B f a s w' (hp'.later ⟨w', h⟩) (hq'.later ⟨w', h⟩) hv
      have C4 : Hid (∀ w', Below w.heap.size w w' → Gives Try.prog 20 #[.agg #[.int .i64 W, .int .i64 H, .slice A n cap, .slice B m capS]] w' (.bool false)) := fun w' h => hv ▸ rvalid_any W H A B n cap m capS f a s w' (by omega) (hp'.later ⟨w', h⟩) (hq'.later ⟨w', h⟩)
      have C5 : Hid (∀ w', Below w.heap.size w w' → Gives Try.prog 21 #[.agg #[.int .i64 W, .int .i64 H, .slice A n cap, .slice B m capS]] w' (.bool false)) := fun w' h => hv ▸ Valid_any W H A B n cap m capS f a s w' (hp'.later ⟨w', h⟩) (hq'.later ⟨w', h⟩)
      clear hv hp' hq' hl
      go_enter Try.func3, Try.ntmps3
      go_wp2_with (first
        | (go_at_call 15; (first | (with_reducible show Calls _ _ _ (Later.val _) _; with_reducible refine Calls.mono (Later.call _ (FW.out _)) ?_) | (with_reducible refine Calls.mono (Gives.calls (FW.out _)) ?_)); rintro e w1 ⟨rfl, z1, rfl⟩)
        | (go_at_call 17; with_reducible refine Calls.mono (Gives.calls (C1.out _ (by repeat (first | exact Below.refl _ _ | (with_reducible assumption) | apply below_later | apply below_alloc | apply below_drew | apply below_drewN)))) ?_; rintro e w1 ⟨rfl, z2, rfl⟩; obtain ⟨b20, b21, b22, b23, b24⟩ := BX.out z2.val (by repeat (first | exact Below.refl _ _ | (with_reducible assumption) | apply below_later | apply below_alloc | apply below_drew | apply below_drewN)))
        | (go_at_call 18; with_reducible refine Calls.mono (Gives.calls (C2.out _ (by repeat (first | exact Below.refl _ _ | (with_reducible assumption) | apply below_later | apply below_alloc | apply below_drew | apply below_drewN)))) ?_; rintro e w1 ⟨rfl, z3, rfl⟩; obtain ⟨b30, b31, b32, b33, b34⟩ := BX.out z3.val (by repeat (first | exact Below.refl _ _ | (with_reducible assumption) | apply below_later | apply below_alloc | apply below_drew | apply below_drewN)))
        | (go_at_call 19; with_reducible refine Calls.mono (Gives.calls (C3.out _ (by repeat (first | exact Below.refl _ _ | (with_reducible assumption) | apply below_later | apply below_alloc | apply below_drew | apply below_drewN)))) ?_; rintro e w1 ⟨rfl, z4, rfl⟩; obtain ⟨b40, b41, b42, b43, b44⟩ := BX.out z4.val (by repeat (first | exact Below.refl _ _ | (with_reducible assumption) | apply below_later | apply below_alloc | apply below_drew | apply below_drewN)))
        | (go_at_call 20; with_reducible refine Calls.mono (Gives.calls (C4.out _ (by repeat (first | exact Below.refl _ _ | (with_reducible assumption) | apply below_later | apply below_alloc | apply below_drew | apply below_drewN)))) ?_; rintro e w1 ⟨rfl, z5, rfl⟩; obtain ⟨b50, b51, b52, b53, b54⟩ := BX.out z5.val (by repeat (first | exact Below.refl _ _ | (with_reducible assumption) | apply below_later | apply below_alloc | apply below_drew | apply below_drewN)))
        | (go_at_call 21; with_reducible refine Calls.mono (Gives.calls (C5.out _ (by repeat (first | exact Below.refl _ _ | (with_reducible assumption) | apply below_later | apply below_alloc | apply below_drew | apply below_drewN)))) ?_; rintro e w1 ⟨rfl, z6, rfl⟩)
        | (go_at_call 16; (first | (with_reducible show Calls _ _ _ (Later.val _) _; with_reducible refine Calls.mono (Later.call _ (F1.out _)) ?_) | (with_reducible refine Calls.mono (Gives.calls (F1.out _)) ?_)); rintro e w1 ⟨rfl, z9, rfl⟩))
      go_ret
      exact ⟨rfl, later_of (by repeat (first | exact Below.refl _ _ | (with_reducible assumption) | apply below_later | apply below_alloc | apply below_drew | apply below_drewN))⟩
    · obtain ⟨⟨⟨a1, a2⟩, a3, a4⟩, _⟩ := valid_facts hv
      obtain ⟨W', rfl⟩ : ∃ x : Nat, W = x := ⟨W.toNat, by omega⟩
      obtain ⟨H', rfl⟩ : ∃ x : Nat, H = x := ⟨H.toNat, by omega⟩
      obtain ⟨L, hL⟩ := fen_levels hv
      obtain ⟨_, _, _, _, hnn, hn1, hn2, _⟩ := hL.facts
      clear hnn
      obtain ⟨b, off, rfl, p⟩ := hp'.at_ hn1
      have C1 : Hid (∀ w', Below w.heap.size w w' → Calls Try.prog 17 #[.agg #[.int .i64 W', .int .i64 H', .slice (some ⟨b, off, none⟩) n cap, .slice B m capS]] w' fun e w'' => ∃ v, e = .returned (.tuple #[v, .int .i64 0]) ∧ ∃ x : Later w', w'' = x.val ∧ OwnI w'' w'.heap.size v (tab n L)) := fun w' h => Levels_tab hL cap capS _ B w' (hp'.later ⟨w', h⟩) (hq'.later ⟨w', h⟩)
      have C2 : Hid (∀ w', Below w.heap.size w w' → Calls Try.prog 18 #[.agg #[.int .i64 W', .int .i64 H', .slice (some ⟨b, off, none⟩) n cap, .slice B m capS]] w' fun e w'' => ∃ v, e = .returned (.tuple #[v, .int .i64 0]) ∧ ∃ x : Later w', w'' = x.val ∧ OwnI w'' w'.heap.size v (tab n fun i => L i - f i)) := fun w' h => depths_ok hL cap capS _ B w' (hp'.later ⟨w', h⟩) (hq'.later ⟨w', h⟩)
      have C3 : Hid (∀ w', Below w.heap.size w w' → Gives Try.prog 19 #[.agg #[.int .i64 W', .int .i64 H', .slice (some ⟨b, off, none⟩) n cap, .slice B m capS]] w' (.tuple #[.int .i64 (sumN (fun i => L i - f i) n), .int .i64 0])) := fun w' h => volume_ok hL cap capS _ B w' (hp'.later ⟨w', h⟩) (hq'.later ⟨w', h⟩)
      have C4 : Hid (∀ w', Below w.heap.size w w' → Gives Try.prog 20 #[.agg #[.int .i64 W', .int .i64 H', .slice (some ⟨b, off, none⟩) n cap, .slice B m capS]] w' (.bool true)) := fun w' h => hv ▸ rvalid_any W' H' _ B n cap m capS f a s w' (by omega) (hp'.later ⟨w', h⟩) (hq'.later ⟨w', h⟩)
      have C5 : Hid (∀ w', Below w.heap.size w w' → Gives Try.prog 21 #[.agg #[.int .i64 W', .int .i64 H', .slice (some ⟨b, off, none⟩) n cap, .slice B m capS]] w' (.bool true)) := fun w' h => hv ▸ Valid_any W' H' _ B n cap m capS f a s w' (hp'.later ⟨w', h⟩) (hq'.later ⟨w', h⟩)
      have R1 : Hid (∀ w', Below w.heap.size w w' → GivesI 23 #[.agg #[.int .i64 W', .int .i64 H', .slice (some ⟨b, off, none⟩) n cap, .slice B m capS]] w' (tab n L)) := fun w' hb => by
        obtain ⟨h1, h2, h3, h4, h5, _, _, h9, _, _, h6, h7⟩ := hL.facts
        exact rlevels_any W' H' n cap m capS b off B f a s L w' h1 h2 h3 h4 h5 (p.later ⟨w', hb⟩) (hq'.later ⟨w', hb⟩) h9 h6 h7 hL.lev hL.pos fun i hi => (hL.high i hi).2
      have R2 : Hid (∀ w', Below w.heap.size w w' → GivesI 24 #[.agg #[.int .i64 W', .int .i64 H', .slice (some ⟨b, off, none⟩) n cap, .slice B m capS]] w' (tab n fun i => L i - f i)) := fun w' hb => rdepths_any hL cap capS b off B w' (p.later ⟨w', hb⟩) (hq'.later ⟨w', hb⟩)
      have R3 : Hid (∀ w', Below w.heap.size w w' → Gives Try.prog 25 #[.agg #[.int .i64 W', .int .i64 H', .slice (some ⟨b, off, none⟩) n cap, .slice B m capS]] w' (.int .i64 (sumN (fun i => L i - f i) n))) := fun w' hb => rvolume_any hL cap capS b off B w' (p.later ⟨w', hb⟩) (hq'.later ⟨w', hb⟩)
      have SI : Hid (∀ (l : List Int) (w' : World) (A B : Option Addr) (c1 c2 : Nat), IsInts w' A n (fun i => l.getD i 0) → IsInts w' B n (fun i => l.getD i 0) → Gives Try.prog 22 #[.slice A n c1, .slice B n c2] w' (.bool true)) := fun l w' A B c1 c2 h1 h2 => same_ints A B n c1 c2 _ _ w' (by omega) h1 h2 fun _ _ => rfl
      generalize sumN (fun i => L i - f i) n = s1 at *
      have HL1 : Hid ((tab n L).length = n) := tab_len _ _
      have HL2 : Hid ((tab n fun i => L i - f i).length = n) := tab_len _ _
      clear hv hp' hq' hl hL p
      generalize (tab n fun i => L i - f i) = l2 at *
      generalize tab n L = l1 at *
      go_enter Try.func3, Try.ntmps3
      go_wp2_with (first
        | (go_at_call 15; (first | (with_reducible show Calls _ _ _ (Later.val _) _; with_reducible refine Calls.mono (Later.call _ (FW.out _)) ?_) | (with_reducible refine Calls.mono (Gives.calls (FW.out _)) ?_)); rintro e w1 ⟨rfl, z1, rfl⟩)
        | (go_at_call 17; with_reducible refine Calls.mono (C1.out _ (by repeat (first | exact Below.refl _ _ | (with_reducible assumption) | apply below_later | apply below_alloc | apply below_drew | apply below_drewN))) ?_; rintro e w1 ⟨v1, rfl, z2, rfl, h1⟩; obtain ⟨A1, cap1, rfl⟩ := h1.shape_n (n := n) HL1.out; have HI1 := Lib.hid (h1.ints (by rw [HL1.out]; omega)).2; clear h1; obtain ⟨b20, b21, b22, b23, b24⟩ := BX.out z2.val (by repeat (first | exact Below.refl _ _ | (with_reducible assumption) | apply below_later | apply below_alloc | apply below_drew | apply below_drewN)))
        | (go_at_call 18; with_reducible refine Calls.mono (C2.out _ (by repeat (first | exact Below.refl _ _ | (with_reducible assumption) | apply below_later | apply below_alloc | apply below_drew | apply below_drewN))) ?_; rintro e w1 ⟨v2, rfl, z3, rfl, h2⟩; obtain ⟨A2, cap2, rfl⟩ := h2.shape_n (n := n) HL2.out; have HI2 := Lib.hid (h2.ints (by rw [HL2.out]; omega)).2; clear h2; obtain ⟨b30, b31, b32, b33, b34⟩ := BX.out z3.val (by repeat (first | exact Below.refl _ _ | (with_reducible assumption) | apply below_later | apply below_alloc | apply below_drew | apply below_drewN)))
        | (go_at_call 19; with_reducible refine Calls.mono (Gives.calls (C3.out _ (by repeat (first | exact Below.refl _ _ | (with_reducible assumption) | apply below_later | apply below_alloc | apply below_drew | apply below_drewN)))) ?_; rintro e w1 ⟨rfl, z4, rfl⟩; obtain ⟨b40, b41, b42, b43, b44⟩ := BX.out z4.val (by repeat (first | exact Below.refl _ _ | (with_reducible assumption) | apply below_later | apply below_alloc | apply below_drew | apply below_drewN)))
        | (go_at_call 20; with_reducible refine Calls.mono (Gives.calls (C4.out _ (by repeat (first | exact Below.refl _ _ | (with_reducible assumption) | apply below_later | apply below_alloc | apply below_drew | apply below_drewN)))) ?_; rintro e w1 ⟨rfl, z5, rfl⟩; obtain ⟨b50, b51, b52, b53, b54⟩ := BX.out z5.val (by repeat (first | exact Below.refl _ _ | (with_reducible assumption) | apply below_later | apply below_alloc | apply below_drew | apply below_drewN)))
        | (go_at_call 21; with_reducible refine Calls.mono (Gives.calls (C5.out _ (by repeat (first | exact Below.refl _ _ | (with_reducible assumption) | apply below_later | apply below_alloc | apply below_drew | apply below_drewN)))) ?_; rintro e w1 ⟨rfl, z6, rfl⟩; obtain ⟨b60, b61, b62, b63, b64⟩ := BX.out z6.val (by repeat (first | exact Below.refl _ _ | (with_reducible assumption) | apply below_later | apply below_alloc | apply below_drew | apply below_drewN)))
        | (go_at_call 23; with_reducible refine Calls.mono (GivesI.calls (R1.out _ (by repeat (first | exact Below.refl _ _ | (with_reducible assumption) | apply below_later | apply below_alloc | apply below_drew | apply below_drewN)))) ?_; rintro e w1 ⟨v3, rfl, z7, rfl, h3⟩; obtain ⟨A3, cap3, rfl⟩ := h3.shape_n (n := n) HL1.out; have HI3 := Lib.hid (h3.ints (by rw [HL1.out]; omega)).2; clear h3)
        | (go_at_call 22; with_reducible refine Calls.mono (Gives.calls (SI.out l1 _ _ _ _ _ (HI1.out.later ⟨_, by repeat (first | exact Below.refl _ _ | (with_reducible assumption) | apply below_later | apply below_alloc | apply below_drew | apply below_drewN)⟩) (HI3.out.later ⟨_, by repeat (first | exact Below.refl _ _ | (with_reducible assumption) | apply below_later | apply below_alloc | apply below_drew | apply below_drewN)⟩))) ?_; rintro e w3 ⟨rfl, z8, rfl⟩; obtain ⟨b80, b81, b82, b83, b84⟩ := BX.out z8.val (by repeat (first | exact Below.refl _ _ | (with_reducible assumption) | apply below_later | apply below_alloc | apply below_drew | apply below_drewN)))
        | (go_at_call 24; with_reducible refine Calls.mono (GivesI.calls (R2.out _ (by repeat (first | exact Below.refl _ _ | (with_reducible assumption) | apply below_later | apply below_alloc | apply below_drew | apply below_drewN)))) ?_; rintro e w1 ⟨v4, rfl, z10, rfl, h4⟩; obtain ⟨A4, cap4, rfl⟩ := h4.shape_n (n := n) HL2.out; have HI4 := Lib.hid (h4.ints (by rw [HL2.out]; omega)).2; clear h4)
        | (go_at_call 22; with_reducible refine Calls.mono (Gives.calls (SI.out l2 _ _ _ _ _ (HI2.out.later ⟨_, by repeat (first | exact Below.refl _ _ | (with_reducible assumption) | apply below_later | apply below_alloc | apply below_drew | apply below_drewN)⟩) (HI4.out.later ⟨_, by repeat (first | exact Below.refl _ _ | (with_reducible assumption) | apply below_later | apply below_alloc | apply below_drew | apply below_drewN)⟩))) ?_; rintro e w3 ⟨rfl, z11, rfl⟩; obtain ⟨b70, b71, b72, b73, b74⟩ := BX.out z11.val (by repeat (first | exact Below.refl _ _ | (with_reducible assumption) | apply below_later | apply below_alloc | apply below_drew | apply below_drewN)))
        | (go_at_call 25; with_reducible refine Calls.mono (Gives.calls (R3.out _ (by repeat (first | exact Below.refl _ _ | (with_reducible assumption) | apply below_later | apply below_alloc | apply below_drew | apply below_drewN)))) ?_; rintro e w1 ⟨rfl, z12, rfl⟩)
        | (go_at_call 16; (first | (with_reducible show Calls _ _ _ (Later.val _) _; with_reducible refine Calls.mono (Later.call _ (F1.out _)) ?_) | (with_reducible refine Calls.mono (Gives.calls (F1.out _)) ?_)); rintro e w1 ⟨rfl, z9, rfl⟩))
      go_ret
      exact ⟨rfl, later_of (by repeat (first | exact Below.refl _ _ | (with_reducible assumption) | apply below_later | apply below_alloc | apply below_drew | apply below_drewN))⟩
  · rw [hl] at FW
    clear hp hq hl
    go_enter Try.func3, Try.ntmps3
    go_wp2_with (first
      | (go_at_call 15; (first | (with_reducible show Calls _ _ _ (Later.val _) _; with_reducible refine Calls.mono (Later.call _ (FW.out _)) ?_) | (with_reducible refine Calls.mono (Gives.calls (FW.out _)) ?_)); rintro e w1 ⟨rfl, z1, rfl⟩)
      | (go_at_call 16; (first | (with_reducible show Calls _ _ _ (Later.val _) _; with_reducible refine Calls.mono (Later.call _ (F1.out _)) ?_) | (with_reducible refine Calls.mono (Gives.calls (F1.out _)) ?_)); rintro e w1 ⟨rfl, z4, rfl⟩))
    go_ret
    exact ⟨rfl, later_of (by repeat (first | exact Below.refl _ _ | (with_reducible assumption) | apply below_later | apply below_alloc | apply below_drew | apply below_drewN))⟩
end Go.Proofs.Ytihgadppndcjaaa
