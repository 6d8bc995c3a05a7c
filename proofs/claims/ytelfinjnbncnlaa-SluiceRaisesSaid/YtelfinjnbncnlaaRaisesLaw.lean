/- SluiceRaises: the walk. -/
import Derived.Test.YtelfinjnbncnlaaLevelsLaw
import Derived.Test.YtelfinjnbncnlaaRaise
import Derived.Deep.DeepCutAuto
import Derived.Deep.RegionWith
import Derived.Test.YtelfinjnbncnlaaRaisesOrd
namespace Go.Proofs.Ytelfinjnbncnlaa
open Go.RowKit

set_option maxRecDepth 100000 in
set_option maxHeartbeats 1600000 in
theorem same_fens (W H : Int) (A A' B B' : Option Addr) (n cap cap' m cS cS' : Nat) (f a s : Nat → Int) (w : World) (hn : n ≤ 1000) (h1 : IsInts w A n f) (h2 : IsInts w A' n f) (q1 : IsSlu w B m a s) (q2 : IsSlu w B' m a s) :
    Gives Try.prog 20 #[.agg #[.int .i64 W, .int .i64 H, .slice A n cap, .slice B m cS], .agg #[.int .i64 W, .int .i64 H, .slice A' n cap', .slice B' m cS']] w (.bool true) := by
  have SI : Hid (∀ w', IsInts w' A n f → IsInts w' A' n f → Gives Try.prog 11 #[.slice A n cap, .slice A' n cap'] w' (.bool true)) := fun w' h1 h2 => same_ints A A' n cap cap' _ _ w' (by omega) h1 h2 fun _ _ => rfl
  have sm := q1.small
  have H1 := Lib.hid h1
  have H2 := Lib.hid h2
  have Q1 := Lib.hid q1
  have Q2 := Lib.hid q2
  clear h1 h2 q1 q2
  go_enter Try.func20, Try.ntmps20
  go_wp2_with (go_at_call 11; (first | (with_reducible show Calls _ _ _ (Later.val _) _; with_reducible refine Calls.mono (Later.call _ (SI.out _ (H1.out.later ⟨_, by repeat (first | exact Below.refl _ _ | (with_reducible assumption) | apply below_later | apply below_alloc | apply below_drew | apply below_drewN)⟩) (H2.out.later ⟨_, by repeat (first | exact Below.refl _ _ | (with_reducible assumption) | apply below_later | apply below_alloc | apply below_drew | apply below_drewN)⟩))) ?_) | (with_reducible refine Calls.mono (Gives.calls (SI.out _ (H1.out.later ⟨_, by repeat (first | exact Below.refl _ _ | (with_reducible assumption) | apply below_later | apply below_alloc | apply below_drew | apply below_drewN)⟩) (H2.out.later ⟨_, by repeat (first | exact Below.refl _ _ | (with_reducible assumption) | apply below_later | apply below_alloc | apply below_drew | apply below_drewN)⟩))) ?_)); rintro e w1 ⟨rfl, z, rfl⟩)
  have HB : Hid (Below ((w.alloc (.cells #[.int .i64 W, .int .i64 H, .slice A n cap, .slice B m cS] 25)).alloc (.cells #[.int .i64 W, .int .i64 H, .slice A' n cap', .slice B' m cS'] 25)).heap.size ((w.alloc (.cells #[.int .i64 W, .int .i64 H, .slice A n cap, .slice B m cS] 25)).alloc (.cells #[.int .i64 W, .int .i64 H, .slice A' n cap', .slice B' m cS'] 25)) z.val) := by show Below _ _ _; repeat (first | exact Below.refl _ _ | (with_reducible assumption) | apply below_later | apply below_alloc | apply below_drew | apply below_drewN)
  have g0 := (HB.out.block w.heap.size (by simp; omega)).trans ((Below.heap_alloc _ _ _ (by simp)).trans (World.alloc_heap_new w _))
  have g1 := (HB.out.block (w.heap.size + 1) (by simp)).trans (box_two w _ _)
  have m3 := cell_of_heap g0 3 _ rfl
  have m4 := cell_of_heap g1 3 _ rfl
  have l3 := get_lt g0
  have l4 := get_lt g1
  have Q3 := Lib.hid (Q1.out.later ⟨z.val, by repeat (first | exact Below.refl _ _ | (with_reducible assumption) | apply below_later | apply below_alloc | apply below_drew | apply below_drewN)⟩)
  have Q4 := Lib.hid (Q2.out.later ⟨z.val, by repeat (first | exact Below.refl _ _ | (with_reducible assumption) | apply below_later | apply below_alloc | apply below_drew | apply below_drewN)⟩)
  have HBW : Hid (Below w.heap.size w z.val) := by show Below _ _ _; repeat (first | exact Below.refl _ _ | (with_reducible assumption) | apply below_later | apply below_alloc | apply below_drew | apply below_drewN)
  clear g0 g1 HB
  generalize z.val = VZ at *
  go_loopw [5] (fun u wr => ∃ k : Nat, k ≤ m ∧ u = .int .i64 k ∧ ∃ x : Later VZ, wr = x.val) (fun u _ => m - (intOf u).toNat)
  case atStart => exact ⟨0, by omega, rfl, ⟨_, Below.refl _ _⟩, rfl⟩
  case round =>
    obtain ⟨k, hk, rfl, x, rfl⟩ := hrel
    by_cases hlt : k < m
    · obtain ⟨b1, o1, hB1, p1⟩ := (Q3.out.later x).at_ (by omega)
      obtain ⟨b2, o2, hB2, p2⟩ := (Q4.out.later x).at_ (by omega)
      subst hB1 hB2
      have c1 := p1.x k hlt
      have c2 := p1.y k hlt
      have c3 := p2.x k hlt
      have c4 := p2.y k hlt
      have l1 := p1.lt
      have l2 := p2.lt
      clear p1 p2
      have m3' := (x.cell w.heap.size 3 l3).trans m3
      have m4' := (x.cell (w.heap.size + 1) 3 l4).trans m4
      have l3' := x.lt _ l3
      have l4' := x.lt _ l4
      go_wp2_with fail
      refine wp_region_later (by kernel_rfl) (by kernel_rfl) ?_
      repeat (go_big_quiet_step ((fail)))
      refine wpQuiet_nil ?_
      intro y9
      go_wp2
      go_roundw
      case rel => exact ⟨k + 1, by omega, by go_num, later_of (by repeat (first | exact Below.refl _ _ | (with_reducible assumption) | apply below_later | apply below_alloc | apply below_drew | apply below_drewN))⟩
      case measure => simp [intOf]; omega
    · obtain rfl : k = m := by omega
      go_wp2_with fail
      go_ret
      exact ⟨rfl, ⟨⟨_, below_more HBW.out x.ok⟩, rfl⟩⟩
/-- The fen that is wanted, as it lies in memory: its box, and its heights, a list of its own. -/
structure WantB (V5 wx : World) (W H n m capS : Nat) (B : Option Addr) (nb g1 c1 : Nat) (l : List Int) : Prop where
  below : Below V5.heap.size V5 wx
  box : wx.heap[nb]? = some (.cells #[.int .i64 W, .int .i64 H, .slice (some ⟨g1, 0, none⟩) n c1, .slice B m capS] 25)
  own : OwnI wx V5.heap.size (.slice (some ⟨g1, 0, none⟩) n c1) l
  far : V5.heap.size ≤ nb
  ne : nb ≠ g1
theorem want_of {V5 wr : World} {W H n m capS : Nat} {B : Option Addr} {nb g1 c1 : Nat} {l : List Int} {u0 u1 u2 u3 : Value} (hb : Below V5.heap.size V5 wr) (hx : wr.heap[nb]? = some (.cells #[u0, u1, u2, u3] 25)) (ho : OwnI wr V5.heap.size (.slice (some ⟨g1, 0, none⟩) n c1) l) (h1 : V5.heap.size ≤ nb) (h2 : nb ≠ g1) :
    WantB V5 ((((wr.setCell ⟨nb, 0, none⟩ (.int .i64 W)).setCell ⟨nb, 1, none⟩ (.int .i64 H)).setCell ⟨nb, 2, none⟩ (.slice (some ⟨g1, 0, none⟩) n c1)).setCell ⟨nb, 3, none⟩ (.slice B m capS)) W H n m capS B nb g1 c1 l where
  below := below_set (below_set (below_set (below_set hb h1) h1) h1) h1
  box := put4 hx
  own := by
    have fr : ∀ k : Nat, ∀ t, Value.ownBlock (.slice (some ⟨g1, 0, none⟩) n c1) = some t → (⟨nb, k, none⟩ : Addr).block ≠ t := fun k t ht => by simp [Value.ownBlock] at ht; show nb ≠ t; omega
    exact (((ho.far (fr 0)).far (fr 1)).far (fr 2)).far (fr 3)
  far := h1
  ne := h2
theorem OwnI.of_tab {w : World} {base n cap : Nat} {A : Option Addr} {g : Nat → Int} (h : OwnI w base (.slice A n cap) (tab n g)) (hn : n ≤ 1000) : IsInts w A n g := by
  have k := (h.ints (by rw [tab_len]; omega)).2
  exact ⟨k.small, fun h0 => let ⟨b, off, e, p⟩ := k.at_ h0; ⟨b, off, e, p.lt, fun i hi => by rw [p.at_ i hi, tab_get hi]⟩⟩
theorem ints_zero (w : World) (f : Nat → Int) : IsInts w none 0 f := ⟨by omega, fun h => absurd h (by omega)⟩
theorem slu_zero (w : World) (a s : Nat → Int) : IsSlu w none 0 a s := ⟨by omega, fun h => absurd h (by omega)⟩
set_option maxRecDepth 100000 in
set_option maxHeartbeats 3200000 in
theorem raises_law (W H : Int) (A : Option Addr) (n cap : Nat) (f : Nat → Int) (B : Option Addr) (m capS : Nat) (a s : Nat → Int) (at_ d : Int) (w : World) (hp : n ≤ 9223372036854775807 → IsInts w A n f) (hq : m ≤ 60 → IsSlu w B m a s) :
    Gives Try.prog 5 #[.agg #[.int .i64 W, .int .i64 H, .slice A n cap, .slice B m capS], .int .i64 at_, .int .i64 d] w (.bool true) := by
  have F1 : Hid (∀ w, Gives Try.prog 7 #[] w (.bool true)) := first_any
  have FW : Hid (∀ w, Gives Try.prog 6 #[.agg #[.int .i64 W, .int .i64 H, .slice A n cap, .slice B m capS]] w (.bool (decide (100 < n) || decide (30 < m)))) := fun w => fenLarge_any W H A B n cap m capS w
  have ZF : Hid (∀ w, Gives Try.prog 20 #[.agg #[.int .i64 0, .int .i64 0, .slice none 0 0, .slice none 0 0], .agg #[.int .i64 0, .int .i64 0, .slice none 0 0, .slice none 0 0]] w (.bool true)) := fun w => same_fens 0 0 none none none none 0 0 0 0 0 0 f a s w (by omega) (ints_zero _ _) (ints_zero _ _) (slu_zero _ _ _) (slu_zero _ _ _)
  cases hl : (decide (100 < n) || decide (30 < m))
  · rw [hl] at FW
    simp only [Bool.or_eq_false_iff, decide_eq_false_iff_not] at hl
    have hp' := hp (by omega)
    have hq' := hq (by omega)
    have hn100 : n ≤ 100 := by omega
    have hm30 : m ≤ 30 := by omega
    clear hp hq hl
    have BX : Hid (∀ V, Below (w.alloc (.cells #[.int .i64 W, .int .i64 H, .slice A n cap, .slice B m capS] 25)).heap.size (w.alloc (.cells #[.int .i64 W, .int .i64 H, .slice A n cap, .slice B m capS] 25)) V → V.cell? ⟨w.heap.size, 0, none⟩ = some (.int .i64 W) ∧ V.cell? ⟨w.heap.size, 1, none⟩ = some (.int .i64 H) ∧ V.cell? ⟨w.heap.size, 2, none⟩ = some (.slice A n cap) ∧ V.cell? ⟨w.heap.size, 3, none⟩ = some (.slice B m capS) ∧ w.heap.size < V.heap.size) := fun V h =>
      ⟨(Later.cell ⟨V, h⟩ _ _ (by simp)).trans (cell_of_heap (World.alloc_heap_new _ _) 0 _ rfl), (Later.cell ⟨V, h⟩ _ _ (by simp)).trans (cell_of_heap (World.alloc_heap_new _ _) 1 _ rfl), (Later.cell ⟨V, h⟩ _ _ (by simp)).trans (cell_of_heap (World.alloc_heap_new _ _) 2 _ rfl), (Later.cell ⟨V, h⟩ _ _ (by simp)).trans (cell_of_heap (World.alloc_heap_new _ _) 3 _ rfl), by have := h.size; simp at this; omega⟩
    have RV : Hid (∀ w', Below w.heap.size w w' → Gives Try.prog 10 #[.agg #[.int .i64 W, .int .i64 H, .slice A n cap, .slice B m capS]] w' (.bool (validF W H n f m a s))) := fun w' h => rvalid_any W H A B n cap m capS f a s w' (by omega) (hp'.later ⟨w', h⟩) (hq'.later ⟨w', h⟩)
    cases hv : validF W H n f m a s
    · rw [hv] at RV
      have C1 : Hid (∀ w', Below w.heap.size w w' → Gives Try.prog 19 #[.agg #[.int .i64 W, .int .i64 H, .slice A n cap, .slice B m capS], .int .i64 at_, .int .i64 d] w' (.tuple #[.agg #[.int .i64 0, .int .i64 0, .slice none 0 0, .slice none 0 0], .int .i64 30])) := fun w' h => raise_fen W H n cap m capS A B f a s at_ d w' (hp'.later ⟨w', h⟩) (hq'.later ⟨w', h⟩) hv
      clear hp' hq' hv
      go_enter Try.func5, Try.ntmps5
      go_wp2_with (first
        | (go_at_call 6; (first | (with_reducible show Calls _ _ _ (Later.val _) _; with_reducible refine Calls.mono (Later.call _ (FW.out _)) ?_) | (with_reducible refine Calls.mono (Gives.calls (FW.out _)) ?_)); rintro e w1 ⟨rfl, z1, rfl⟩)
        | (go_at_call 19; with_reducible refine Calls.mono (Gives.calls (C1.out _ (by repeat (first | exact Below.refl _ _ | (with_reducible assumption) | apply below_later | apply below_alloc | apply below_drew | apply below_drewN)))) ?_; rintro e w1 ⟨rfl, z2, rfl⟩; obtain ⟨b20, b21, b22, b23, b24⟩ := BX.out z2.val (by repeat (first | exact Below.refl _ _ | (with_reducible assumption) | apply below_later | apply below_alloc | apply below_drew | apply below_drewN)))
        | (go_at_call 10; with_reducible refine Calls.mono (Gives.calls (RV.out _ (by repeat (first | exact Below.refl _ _ | (with_reducible assumption) | apply below_later | apply below_alloc | apply below_drew | apply below_drewN)))) ?_; rintro e w1 ⟨rfl, z5, rfl⟩; obtain ⟨b50, b51, b52, b53, b54⟩ := BX.out z5.val (by repeat (first | exact Below.refl _ _ | (with_reducible assumption) | apply below_later | apply below_alloc | apply below_drew | apply below_drewN)))
        | (go_at_call 20; with_reducible refine Calls.mono (Gives.calls (ZF.out _)) ?_; rintro e w1 ⟨rfl, z7, rfl⟩)
        | (go_at_call 7; with_reducible refine Calls.mono (Gives.calls (F1.out _)) ?_; rintro e w1 ⟨rfl, z9, rfl⟩))
      go_ret
      exact ⟨rfl, later_of (by repeat (first | exact Below.refl _ _ | (with_reducible assumption) | apply below_later | apply below_alloc | apply below_drew | apply below_drewN))⟩
    · rw [hv] at RV
      by_cases hat : 0 ≤ at_ ∧ at_ < n
      · obtain ⟨i, rfl⟩ : ∃ i : Nat, at_ = i := ⟨at_.toNat, by omega⟩
        have hi : i < n := by omega
        have d1 : decide ((i : Int) < 0) = false := decide_eq_false (by omega)
        have d2 : decide ((n : Int) ≤ (i : Int)) = false := decide_eq_false (by omega)
        by_cases hd : d < 0
        · have d3 : decide (d < 0) = true := decide_eq_true hd
          have C1 : Hid (∀ w', Below w.heap.size w w' → Gives Try.prog 19 #[.agg #[.int .i64 W, .int .i64 H, .slice A n cap, .slice B m capS], .int .i64 i, .int .i64 d] w' (.tuple #[.agg #[.int .i64 0, .int .i64 0, .slice none 0 0, .slice none 0 0], .int .i64 2])) := fun w' h => raise_arg W H n cap m capS A B f a s i d w' (hp'.later ⟨w', h⟩) (hq'.later ⟨w', h⟩) hv (.inr hd)
          clear hp' hq' hv hat
          go_enter Try.func5, Try.ntmps5
          go_wp2_with (first
            | (go_at_call 6; (first | (with_reducible show Calls _ _ _ (Later.val _) _; with_reducible refine Calls.mono (Later.call _ (FW.out _)) ?_) | (with_reducible refine Calls.mono (Gives.calls (FW.out _)) ?_)); rintro e w1 ⟨rfl, z1, rfl⟩)
            | (go_at_call 19; with_reducible refine Calls.mono (Gives.calls (C1.out _ (by repeat (first | exact Below.refl _ _ | (with_reducible assumption) | apply below_later | apply below_alloc | apply below_drew | apply below_drewN)))) ?_; rintro e w1 ⟨rfl, z2, rfl⟩; obtain ⟨b20, b21, b22, b23, b24⟩ := BX.out z2.val (by repeat (first | exact Below.refl _ _ | (with_reducible assumption) | apply below_later | apply below_alloc | apply below_drew | apply below_drewN)))
            | (go_at_call 10; with_reducible refine Calls.mono (Gives.calls (RV.out _ (by repeat (first | exact Below.refl _ _ | (with_reducible assumption) | apply below_later | apply below_alloc | apply below_drew | apply below_drewN)))) ?_; rintro e w1 ⟨rfl, z5, rfl⟩; obtain ⟨b50, b51, b52, b53, b54⟩ := BX.out z5.val (by repeat (first | exact Below.refl _ _ | (with_reducible assumption) | apply below_later | apply below_alloc | apply below_drew | apply below_drewN)))
            | (go_at_call 20; with_reducible refine Calls.mono (Gives.calls (ZF.out _)) ?_; rintro e w1 ⟨rfl, z7, rfl⟩)
            | (go_at_call 7; with_reducible refine Calls.mono (Gives.calls (F1.out _)) ?_; rintro e w1 ⟨rfl, z9, rfl⟩))
          go_ret
          exact ⟨rfl, later_of (by repeat (first | exact Below.refl _ _ | (with_reducible assumption) | apply below_later | apply below_alloc | apply below_drew | apply below_drewN))⟩
        · have d3 : decide (d < 0) = false := decide_eq_false hd
          have hf := (valid_facts hv).2.2.1 i hi
          obtain ⟨b, off, hA, p⟩ := hp'.at_ (by omega)
          subst hA
          have PP := Lib.hid p
          clear p
          by_cases hb : 1000 - f i < d
          · have d4 : decide (1000 - f i < d) = true := decide_eq_true hb
            have C1 : Hid (∀ w', Below w.heap.size w w' → Gives Try.prog 19 #[.agg #[.int .i64 W, .int .i64 H, .slice (some ⟨b, off, none⟩) n cap, .slice B m capS], .int .i64 i, .int .i64 d] w' (.tuple #[.agg #[.int .i64 0, .int .i64 0, .slice none 0 0, .slice none 0 0], .int .i64 4])) := fun w' h => raise_lim W H n cap m capS _ B f a s i d w' (hp'.later ⟨w', h⟩) (hq'.later ⟨w', h⟩) hv i hi rfl (by omega) hb
            clear hp' hq' hv hat hd hb
            go_enter Try.func5, Try.ntmps5
            go_wp2_with (first
              | (go_at_call 6; (first | (with_reducible show Calls _ _ _ (Later.val _) _; with_reducible refine Calls.mono (Later.call _ (FW.out _)) ?_) | (with_reducible refine Calls.mono (Gives.calls (FW.out _)) ?_)); rintro e w1 ⟨rfl, z1, rfl⟩)
              | (go_at_call 19; with_reducible refine Calls.mono (Gives.calls (C1.out _ (by repeat (first | exact Below.refl _ _ | (with_reducible assumption) | apply below_later | apply below_alloc | apply below_drew | apply below_drewN)))) ?_; rintro e w1 ⟨rfl, z2, rfl⟩; obtain ⟨b20, b21, b22, b23, b24⟩ := BX.out z2.val (by repeat (first | exact Below.refl _ _ | (with_reducible assumption) | apply below_later | apply below_alloc | apply below_drew | apply below_drewN)))
              | (go_at_call 10; with_reducible refine Calls.mono (Gives.calls (RV.out _ (by repeat (first | exact Below.refl _ _ | (with_reducible assumption) | apply below_later | apply below_alloc | apply below_drew | apply below_drewN)))) ?_; rintro e w1 ⟨rfl, z5, rfl⟩; obtain ⟨b50, b51, b52, b53, b54⟩ := BX.out z5.val (by repeat (first | exact Below.refl _ _ | (with_reducible assumption) | apply below_later | apply below_alloc | apply below_drew | apply below_drewN)); have p5 := PP.out.later ⟨z5.val, (by repeat (first | exact Below.refl _ _ | (with_reducible assumption) | apply below_later | apply below_alloc | apply below_drew | apply below_drewN))⟩; have c5 := p5.at_ i hi; have l5 := p5.lt; clear p5)
              | (go_at_call 20; with_reducible refine Calls.mono (Gives.calls (ZF.out _)) ?_; rintro e w1 ⟨rfl, z7, rfl⟩)
              | (go_at_call 7; with_reducible refine Calls.mono (Gives.calls (F1.out _)) ?_; rintro e w1 ⟨rfl, z9, rfl⟩))
            go_ret
            exact ⟨rfl, later_of (by repeat (first | exact Below.refl _ _ | (with_reducible assumption) | apply below_later | apply below_alloc | apply below_drew | apply below_drewN))⟩
          · have d4 : decide (1000 - f i < d) = false := decide_eq_false hb
            obtain ⟨⟨⟨a1', a2⟩, a3, a4⟩, a5x, _⟩ := valid_facts hv
            clear a5x
            obtain ⟨W', rfl⟩ : ∃ x : Nat, W = x := ⟨W.toNat, by omega⟩
            obtain ⟨H', rfl⟩ : ∃ x : Nat, H = x := ⟨H.toNat, by omega⟩
            have RA : Hid (∀ w', Below w.heap.size w w' → Calls Try.prog 19 #[.agg #[.int .i64 W', .int .i64 H', .slice (some ⟨b, off, none⟩) n cap, .slice B m capS], .int .i64 i, .int .i64 d] w' fun e w'' => ∃ v1 v2, e = .returned (.tuple #[.agg #[.int .i64 W', .int .i64 H', v1, v2], .int .i64 0]) ∧ ∃ x : Later w', w'' = x.val ∧ OwnI w'' w'.heap.size v1 (tab n fun k => if k = i then f k + d else f k) ∧ OwnS w'' w'.heap.size v2 (prs m a s)) := fun w' h => raise_ok W' H' n cap m capS _ B f a s i d w' (hp'.later ⟨w', h⟩) (hq'.later ⟨w', h⟩) hv hi (by omega) (by omega)
            have TL : Hid ((tab n f).length = n) := tab_len _ _
            have TG : Hid ((tab n f).set i (f i + d) = tab n fun k => if k = i then f k + d else f k) := list_eq (n := n) (by rw [List.length_set]; exact tab_len _ _) (tab_len _ _) fun j hj => by
              have e := tab_get (n := n) (g := fun k => if k = i then f k + d else f k) hj
              rw [getD_put (by rw [tab_len]; exact hi), e]
              by_cases c : j = i
              · subst c; simp
              · simp only [if_neg c, tab_get hj]
            generalize hg : (fun k => if k = i then f k + d else f k) = g at RA TG
            clear hg
            have TF : Hid ((tab n f).getD i 0 = f i) := tab_get hi
            obtain ⟨i0, hi0, hz0, hz1, hz2⟩ := info_int
            have HNW : Hid (∀ V, Below w.heap.size w V → ∀ (j : Nat) (u : Value), (cellsI (tab n f))[j]? = some u → V.cell? ((⟨b, off, none⟩ : Addr).add j) = some u) := fun V h => ints_news (PP.out.later ⟨V, h⟩)
            have OWN0 : Hid (∀ V : World, OwnI (V.alloc (.cells #[] 3)) V.heap.size (.slice (some ⟨V.heap.size, 0, none⟩) 0 0) []) := fun V => World.ownsRow_made V #[] 0 (Nat.le_refl _) (by unfold maxLen; omega) rfl
            have HQB := Lib.hid hq'
            have HWR : Hid (IntKind.i64.wrap (f i + d) = f i + d) := IntWalk.i64_in _ ⟨by omega, by omega⟩
            clear hp' hq' hv hat hd hb
            go_enter Try.func5, Try.ntmps5
            go_wp2_with (first
              | (go_at_call 6; (first | (with_reducible show Calls _ _ _ (Later.val _) _; with_reducible refine Calls.mono (Later.call _ (FW.out _)) ?_) | (with_reducible refine Calls.mono (Gives.calls (FW.out _)) ?_)); rintro e w1 ⟨rfl, z1, rfl⟩)
              | (go_at_call 19; with_reducible refine Calls.mono (RA.out _ (by repeat (first | exact Below.refl _ _ | (with_reducible assumption) | apply below_later | apply below_alloc | apply below_drew | apply below_drewN))) ?_; rintro e w1 ⟨v1, v2, rfl, z2, rfl, h1, h2⟩; obtain ⟨A2, c2, rfl⟩ := h1.shape_n (n := n) (tab_len _ _); have HI2 := Lib.hid (h1.of_tab (by omega)); obtain ⟨B2, c3, rfl, hq2⟩ := h2.slu (by omega); have HQ2 := Lib.hid hq2; clear h1 h2 hq2; obtain ⟨b20, b21, b22, b23, b24⟩ := BX.out z2.val (by repeat (first | exact Below.refl _ _ | (with_reducible assumption) | apply below_later | apply below_alloc | apply below_drew | apply below_drewN)))
              | (go_at_call 10; with_reducible refine Calls.mono (Gives.calls (RV.out _ (by repeat (first | exact Below.refl _ _ | (with_reducible assumption) | apply below_later | apply below_alloc | apply below_drew | apply below_drewN)))) ?_; rintro e w1 ⟨rfl, z5, rfl⟩; obtain ⟨b50, b51, b52, b53, b54⟩ := BX.out z5.val (by repeat (first | exact Below.refl _ _ | (with_reducible assumption) | apply below_later | apply below_alloc | apply below_drew | apply below_drewN)); have hb5 : Below w.heap.size w z5.val := (by repeat (first | exact Below.refl _ _ | (with_reducible assumption) | apply below_later | apply below_alloc | apply below_drew | apply below_drewN)); have p5 := PP.out.later ⟨z5.val, hb5⟩; have c5 := p5.at_ i hi; have l5 := p5.lt; clear p5))
            have HL0 : Hid ((cellsI (tab n f)).length = n * 1) := by show _ = _; rw [cellsI_length, tab_len]; omega
            have hbx5 : Below (w.alloc (.cells #[.int .i64 W', .int .i64 H', .slice (some ⟨b, off, none⟩) n cap, .slice B m capS] 25)).heap.size (w.alloc (.cells #[.int .i64 W', .int .i64 H', .slice (some ⟨b, off, none⟩) n cap, .slice B m capS] 25)) z5.val := by repeat (first | exact Below.refl _ _ | (with_reducible assumption) | apply below_later | apply below_alloc | apply below_drew | apply below_drewN)
            have HBX5 := Lib.hid hbx5
            clear hbx5
            have HXZ : Hid (∀ V, Below z5.val.heap.size z5.val V → V.cell? ⟨w.heap.size, 0, none⟩ = some (.int .i64 W') ∧ V.cell? ⟨w.heap.size, 1, none⟩ = some (.int .i64 H') ∧ V.cell? ⟨w.heap.size, 2, none⟩ = some (.slice (some ⟨b, off, none⟩) n cap) ∧ V.cell? ⟨w.heap.size, 3, none⟩ = some (.slice B m capS) ∧ w.heap.size < V.heap.size) := fun V h => BX.out V (below_more HBX5.out h)
            have dn : decide (n ≤ i) = false := decide_eq_false (by omega)
            simp only [dn]
            go_cut [10] (fun s10 wx => ∃ nb g1 c1 : Nat, s10 = .pointer (some ⟨nb, 0, none⟩) ∧ WantB z5.val wx W' H' n m capS B nb g1 c1 (tab n f))
            case first =>
              refine wp_region_inv (fun a0 L' a' w' => ∃ x61 x62 x63 x64 x65 x66 x67 x68 x69 x70 x71 x10 : Value, a' = putL a0 [61, 62, 63, 64, 65, 66, 67, 68, 69, 70, 71, 10] [x61, x62, x63, x64, x65, x66, x67, x68, x69, x70, x71, x10] ∧ ((L' 0 = true → x61 = .pointer (some ⟨w.heap.size, 0, none⟩)) ∧ (L' 1 = true → x62 = .int .i64 W') ∧ (L' 2 = true → x63 = .pointer (some ⟨w.heap.size, 1, none⟩)) ∧ (L' 3 = true → x64 = .int .i64 H') ∧ (L' 5 = true → x66 = .pointer (some ⟨w.heap.size, 2, none⟩)) ∧ (L' 6 = true → x67 = .slice (some ⟨b, off, none⟩) n cap) ∧ (L' 8 = true → x69 = .pointer (some ⟨w.heap.size, 3, none⟩)) ∧ (L' 9 = true → x70 = .slice B m capS) ∧ (L' 10 = true → x71 = .agg #[.int .i64 W', .int .i64 H', x68, .slice B m capS]) ∧ (L' 10 = true → L' 7 = true)) ∧ FenB z5.val W' H' n m capS B (tab n f) (L' 4) (L' 7) (L' 11) (L' 12) x65 x68 x10 w') (by kernel_rfl) (by kernel_rfl) ?_ ?_ ?_
              · refine ⟨_, _, _, _, _, _, _, _, _, _, _, _, putL_self _ _, ?_, ?_⟩
                · exact ⟨fun h => Bool.noConfusion h, fun h => Bool.noConfusion h, fun h => Bool.noConfusion h, fun h => Bool.noConfusion h, fun h => Bool.noConfusion h, fun h => Bool.noConfusion h, fun h => Bool.noConfusion h, fun h => Bool.noConfusion h, fun h => Bool.noConfusion h, fun h => Bool.noConfusion h⟩
                · exact ⟨below_drew (Below.refl _ _), fun h => Bool.noConfusion h, fun h => Bool.noConfusion h, fun h => Bool.noConfusion h, fun h => Bool.noConfusion h, fun h => Bool.noConfusion h⟩
              ·
                refine steps_cons ?_ ?_
                · rintro L' a wv K hn ha ⟨x61, x62, x63, x64, x65, x66, x67, x68, x69, x70, x71, x10, rfl, ⟨f0, f1, f2, f3, f5, f6, f8, f9, f10, f107⟩, hW⟩ hK
                  have hB := hW.below
                  have hxx := HXZ.out wv hB; have y0 := hxx.1; have y1 := hxx.2.1; have y2 := hxx.2.2.1; have y3 := hxx.2.2.2.1; have ly := hxx.2.2.2.2; clear hxx
                  refine ⟨?_⟩
                  simp only [putL, Act.put, List.setIfInBounds_toArray, List.set_cons_zero, List.set_cons_succ]
                  go_simp
                  exact hK.out _ _ ⟨.pointer (some ⟨w.heap.size, 0, none⟩), x62, x63, x64, x65, x66, x67, x68, x69, x70, x71, x10, by simp only [putL, Act.put, List.setIfInBounds_toArray, List.set_cons_zero, List.set_cons_succ], ⟨fun _ => rfl, f1, f2, f3, f5, f6, f8, f9, f10, f107⟩, hW⟩
                refine steps_cons ?_ ?_
                · rintro L' a wv K hn ha ⟨x61, x62, x63, x64, x65, x66, x67, x68, x69, x70, x71, x10, rfl, ⟨f0, f1, f2, f3, f5, f6, f8, f9, f10, f107⟩, hW⟩ hK
                  obtain rfl := f0 (afterL_get ha 0 (by kernel_rfl))
                  have hB := hW.below
                  have hxx := HXZ.out wv hB; have y0 := hxx.1; have y1 := hxx.2.1; have y2 := hxx.2.2.1; have y3 := hxx.2.2.2.1; have ly := hxx.2.2.2.2; clear hxx
                  refine ⟨?_⟩
                  simp only [putL, Act.put, List.setIfInBounds_toArray, List.set_cons_zero, List.set_cons_succ]
                  go_simp
                  exact hK.out _ _ ⟨.pointer (some ⟨w.heap.size, 0, none⟩), .int .i64 W', x63, x64, x65, x66, x67, x68, x69, x70, x71, x10, by simp only [putL, Act.put, List.setIfInBounds_toArray, List.set_cons_zero, List.set_cons_succ], ⟨f0, fun _ => rfl, f2, f3, f5, f6, f8, f9, f10, f107⟩, hW⟩
                refine steps_cons ?_ ?_
                · rintro L' a wv K hn ha ⟨x61, x62, x63, x64, x65, x66, x67, x68, x69, x70, x71, x10, rfl, ⟨f0, f1, f2, f3, f5, f6, f8, f9, f10, f107⟩, hW⟩ hK
                  have hB := hW.below
                  have hxx := HXZ.out wv hB; have y0 := hxx.1; have y1 := hxx.2.1; have y2 := hxx.2.2.1; have y3 := hxx.2.2.2.1; have ly := hxx.2.2.2.2; clear hxx
                  refine ⟨?_⟩
                  simp only [putL, Act.put, List.setIfInBounds_toArray, List.set_cons_zero, List.set_cons_succ]
                  go_simp
                  exact hK.out _ _ ⟨x61, x62, .pointer (some ⟨w.heap.size, 1, none⟩), x64, x65, x66, x67, x68, x69, x70, x71, x10, by simp only [putL, Act.put, List.setIfInBounds_toArray, List.set_cons_zero, List.set_cons_succ], ⟨f0, f1, fun _ => rfl, f3, f5, f6, f8, f9, f10, f107⟩, hW⟩
                refine steps_cons ?_ ?_
                · rintro L' a wv K hn ha ⟨x61, x62, x63, x64, x65, x66, x67, x68, x69, x70, x71, x10, rfl, ⟨f0, f1, f2, f3, f5, f6, f8, f9, f10, f107⟩, hW⟩ hK
                  obtain rfl := f2 (afterL_get ha 2 (by kernel_rfl))
                  have hB := hW.below
                  have hxx := HXZ.out wv hB; have y0 := hxx.1; have y1 := hxx.2.1; have y2 := hxx.2.2.1; have y3 := hxx.2.2.2.1; have ly := hxx.2.2.2.2; clear hxx
                  refine ⟨?_⟩
                  simp only [putL, Act.put, List.setIfInBounds_toArray, List.set_cons_zero, List.set_cons_succ]
                  go_simp
                  exact hK.out _ _ ⟨x61, x62, .pointer (some ⟨w.heap.size, 1, none⟩), .int .i64 H', x65, x66, x67, x68, x69, x70, x71, x10, by simp only [putL, Act.put, List.setIfInBounds_toArray, List.set_cons_zero, List.set_cons_succ], ⟨f0, f1, f2, fun _ => rfl, f5, f6, f8, f9, f10, f107⟩, hW⟩
                refine steps_cons ?_ ?_
                · rintro L' a wv K hn ha ⟨x61, x62, x63, x64, x65, x66, x67, x68, x69, x70, x71, x10, rfl, ⟨f0, f1, f2, f3, f5, f6, f8, f9, f10, f107⟩, hW⟩ hK
                  have hB := hW.below
                  have hxx := HXZ.out wv hB; have y0 := hxx.1; have y1 := hxx.2.1; have y2 := hxx.2.2.1; have y3 := hxx.2.2.2.1; have ly := hxx.2.2.2.2; clear hxx
                  refine ⟨?_⟩
                  simp only [putL, Act.put, List.setIfInBounds_toArray, List.set_cons_zero, List.set_cons_succ]
                  go_simp
                  exact hK.out _ _ ⟨x61, x62, x63, x64, .slice (some ⟨wv.heap.size, 0, none⟩) 0 0, x66, x67, x68, x69, x70, x71, x10, by simp only [putL, Act.put, List.setIfInBounds_toArray, List.set_cons_zero, List.set_cons_succ], ⟨f0, f1, f2, f3, f5, f6, f8, f9, f10, f107⟩, hW.new4 hn⟩
                refine steps_cons ?_ ?_
                · rintro L' a wv K hn ha ⟨x61, x62, x63, x64, x65, x66, x67, x68, x69, x70, x71, x10, rfl, ⟨f0, f1, f2, f3, f5, f6, f8, f9, f10, f107⟩, hW⟩ hK
                  have hB := hW.below
                  have hxx := HXZ.out wv hB; have y0 := hxx.1; have y1 := hxx.2.1; have y2 := hxx.2.2.1; have y3 := hxx.2.2.2.1; have ly := hxx.2.2.2.2; clear hxx
                  refine ⟨?_⟩
                  simp only [putL, Act.put, List.setIfInBounds_toArray, List.set_cons_zero, List.set_cons_succ]
                  go_simp
                  exact hK.out _ _ ⟨x61, x62, x63, x64, x65, .pointer (some ⟨w.heap.size, 2, none⟩), x67, x68, x69, x70, x71, x10, by simp only [putL, Act.put, List.setIfInBounds_toArray, List.set_cons_zero, List.set_cons_succ], ⟨f0, f1, f2, f3, fun _ => rfl, f6, f8, f9, f10, f107⟩, hW⟩
                refine steps_cons ?_ ?_
                · rintro L' a wv K hn ha ⟨x61, x62, x63, x64, x65, x66, x67, x68, x69, x70, x71, x10, rfl, ⟨f0, f1, f2, f3, f5, f6, f8, f9, f10, f107⟩, hW⟩ hK
                  obtain rfl := f5 (afterL_get ha 5 (by kernel_rfl))
                  have hB := hW.below
                  have hxx := HXZ.out wv hB; have y0 := hxx.1; have y1 := hxx.2.1; have y2 := hxx.2.2.1; have y3 := hxx.2.2.2.1; have ly := hxx.2.2.2.2; clear hxx
                  refine ⟨?_⟩
                  simp only [putL, Act.put, List.setIfInBounds_toArray, List.set_cons_zero, List.set_cons_succ]
                  go_simp
                  exact hK.out _ _ ⟨x61, x62, x63, x64, x65, .pointer (some ⟨w.heap.size, 2, none⟩), .slice (some ⟨b, off, none⟩) n cap, x68, x69, x70, x71, x10, by simp only [putL, Act.put, List.setIfInBounds_toArray, List.set_cons_zero, List.set_cons_succ], ⟨f0, f1, f2, f3, f5, fun _ => rfl, f8, f9, f10, f107⟩, hW⟩
                refine steps_cons ?_ ?_
                · rintro L' a wv K hn ha ⟨x61, x62, x63, x64, x65, x66, x67, x68, x69, x70, x71, x10, rfl, ⟨f0, f1, f2, f3, f5, f6, f8, f9, f10, f107⟩, hW⟩ hK
                  obtain rfl := f6 (afterL_get ha 6 (by kernel_rfl))
                  have hB := hW.below
                  have hxx := HXZ.out wv hB; have y0 := hxx.1; have y1 := hxx.2.1; have y2 := hxx.2.2.1; have y3 := hxx.2.2.2.1; have ly := hxx.2.2.2.2; clear hxx
                  obtain ⟨g0, rfl, ho⟩ := hW.at4 (afterL_get ha 4 (by kernel_rfl)) hn
                  refine ⟨?_⟩
                  simp only [putL, Act.put, List.setIfInBounds_toArray, List.set_cons_zero, List.set_cons_succ]
                  refine ite_in rfl ?_
                  refine wp_append_lies wv (.tmp 65) (.tmp 67) 22 ?c2 z5.val.heap.size 3 i0 (.int .i64 0) 1 8 Try.underlying22 hi0 hz0 hz1 hz2 rfl (by decide) (.slice (some ⟨g0, 0, none⟩) 0 0) 0 [] ?c3 ho ⟨b, off, none⟩ n cap (cellsI (tab n f)) ?c4 HL0.out (HNW.out wv (below_more hb5 hB)) (cellsI_one _) (by omega) (by simp only [maxLen]; omega) (by omega) hB.size _ rfl ?c5
                  case c2 => rfl
                  case c3 => rfl
                  case c4 => rfl
                  intro g1 cp1 w2 hown2 hg2 hat hlt
                  rw [Nat.zero_add] at hown2 ⊢
                  have ho2 : OwnI w2 z5.val.heap.size (.slice (some ⟨g1, 0, none⟩) n cp1) (tab n f) := by unfold OwnI; rw [tab_len]; exact hown2
                  exact hK.out _ _ ⟨x61, x62, x63, x64, .slice (some ⟨g0, 0, none⟩) 0 0, x66, .slice (some ⟨b, off, none⟩) n cap, .slice (some ⟨g1, 0, none⟩) n cp1, x69, x70, x71, x10, by simp only [putL, Act.put, List.setIfInBounds_toArray, List.set_cons_zero, List.set_cons_succ], ⟨f0, f1, f2, f3, f5, f6, f8, f9, fun h10 => absurd ((f107 h10).symm.trans hn) (by decide), fun _ => rfl⟩, hW.grow7 (afterL_get ha 4 (by kernel_rfl)) hn ho2 hg2⟩
                refine steps_cons ?_ ?_
                · rintro L' a wv K hn ha ⟨x61, x62, x63, x64, x65, x66, x67, x68, x69, x70, x71, x10, rfl, ⟨f0, f1, f2, f3, f5, f6, f8, f9, f10, f107⟩, hW⟩ hK
                  have hB := hW.below
                  have hxx := HXZ.out wv hB; have y0 := hxx.1; have y1 := hxx.2.1; have y2 := hxx.2.2.1; have y3 := hxx.2.2.2.1; have ly := hxx.2.2.2.2; clear hxx
                  refine ⟨?_⟩
                  simp only [putL, Act.put, List.setIfInBounds_toArray, List.set_cons_zero, List.set_cons_succ]
                  go_simp
                  exact hK.out _ _ ⟨x61, x62, x63, x64, x65, x66, x67, x68, .pointer (some ⟨w.heap.size, 3, none⟩), x70, x71, x10, by simp only [putL, Act.put, List.setIfInBounds_toArray, List.set_cons_zero, List.set_cons_succ], ⟨f0, f1, f2, f3, f5, f6, fun _ => rfl, f9, f10, f107⟩, hW⟩
                refine steps_cons ?_ ?_
                · rintro L' a wv K hn ha ⟨x61, x62, x63, x64, x65, x66, x67, x68, x69, x70, x71, x10, rfl, ⟨f0, f1, f2, f3, f5, f6, f8, f9, f10, f107⟩, hW⟩ hK
                  obtain rfl := f8 (afterL_get ha 8 (by kernel_rfl))
                  have hB := hW.below
                  have hxx := HXZ.out wv hB; have y0 := hxx.1; have y1 := hxx.2.1; have y2 := hxx.2.2.1; have y3 := hxx.2.2.2.1; have ly := hxx.2.2.2.2; clear hxx
                  refine ⟨?_⟩
                  simp only [putL, Act.put, List.setIfInBounds_toArray, List.set_cons_zero, List.set_cons_succ]
                  go_simp
                  exact hK.out _ _ ⟨x61, x62, x63, x64, x65, x66, x67, x68, .pointer (some ⟨w.heap.size, 3, none⟩), .slice B m capS, x71, x10, by simp only [putL, Act.put, List.setIfInBounds_toArray, List.set_cons_zero, List.set_cons_succ], ⟨f0, f1, f2, f3, f5, f6, f8, fun _ => rfl, f10, f107⟩, hW⟩
                refine steps_cons ?_ ?_
                · rintro L' a wv K hn ha ⟨x61, x62, x63, x64, x65, x66, x67, x68, x69, x70, x71, x10, rfl, ⟨f0, f1, f2, f3, f5, f6, f8, f9, f10, f107⟩, hW⟩ hK
                  obtain rfl := f1 (afterL_get ha 1 (by kernel_rfl))
                  obtain rfl := f3 (afterL_get ha 3 (by kernel_rfl))
                  obtain rfl := f9 (afterL_get ha 9 (by kernel_rfl))
                  have hB := hW.below
                  have hxx := HXZ.out wv hB; have y0 := hxx.1; have y1 := hxx.2.1; have y2 := hxx.2.2.1; have y3 := hxx.2.2.2.1; have ly := hxx.2.2.2.2; clear hxx
                  obtain ⟨g1, c1, rfl, ho⟩ := hW.at7 (afterL_get ha 7 (by kernel_rfl))
                  refine ⟨?_⟩
                  simp only [putL, Act.put, List.setIfInBounds_toArray, List.set_cons_zero, List.set_cons_succ]
                  go_simp
                  exact hK.out _ _ ⟨x61, .int .i64 W', x63, .int .i64 H', x65, x66, x67, .slice (some ⟨g1, 0, none⟩) n c1, x69, .slice B m capS, .agg #[.int .i64 W', .int .i64 H', .slice (some ⟨g1, 0, none⟩) n c1, .slice B m capS], x10, by simp only [putL, Act.put, List.setIfInBounds_toArray, List.set_cons_zero, List.set_cons_succ], ⟨f0, f1, f2, f3, f5, f6, f8, f9, fun _ => rfl, fun _ => afterL_get ha 7 (by kernel_rfl)⟩, hW⟩
                refine steps_cons ?_ ?_
                · rintro L' a wv K hn ha ⟨x61, x62, x63, x64, x65, x66, x67, x68, x69, x70, x71, x10, rfl, ⟨f0, f1, f2, f3, f5, f6, f8, f9, f10, f107⟩, hW⟩ hK
                  have hB := hW.below
                  have hxx := HXZ.out wv hB; have y0 := hxx.1; have y1 := hxx.2.1; have y2 := hxx.2.2.1; have y3 := hxx.2.2.2.1; have ly := hxx.2.2.2.2; clear hxx
                  refine ⟨?_⟩
                  simp only [putL, Act.put, List.setIfInBounds_toArray, List.set_cons_zero, List.set_cons_succ]
                  go_simp
                  exact hK.out _ _ ⟨x61, x62, x63, x64, x65, x66, x67, x68, x69, x70, x71, .pointer (some ⟨wv.heap.size, 0, none⟩), by simp only [putL, Act.put, List.setIfInBounds_toArray, List.set_cons_zero, List.set_cons_succ], ⟨f0, f1, f2, f3, f5, f6, f8, f9, f10, f107⟩, hW.new11 hn⟩
                refine steps_cons ?_ ?_
                · rintro L' a wv K hn ha ⟨x61, x62, x63, x64, x65, x66, x67, x68, x69, x70, x71, x10, rfl, ⟨f0, f1, f2, f3, f5, f6, f8, f9, f10, f107⟩, hW⟩ hK
                  have hB := hW.below
                  have hxx := HXZ.out wv hB; have y0 := hxx.1; have y1 := hxx.2.1; have y2 := hxx.2.2.1; have y3 := hxx.2.2.2.1; have ly := hxx.2.2.2.2; clear hxx
                  have h7' := f107 (afterL_get ha 10 (by kernel_rfl))
                  have e10 := f10 (afterL_get ha 10 (by kernel_rfl))
                  obtain ⟨g1, c1, rfl, ho⟩ := hW.at7 h7'
                  subst e10
                  obtain ⟨nb, u0, u1, u2, u3, rfl, hlo, hh, _⟩ := hW.at11 (afterL_get ha 11 (by kernel_rfl))
                  have c40 := (cells4 hh).1.1; have c41 := (cells4 hh).1.2.1; have c42 := (cells4 hh).1.2.2.1; have c43 := (cells4 hh).1.2.2.2; have t40 := (cells4 hh).2.1; have t41 := (cells4 hh).2.2.1; have t42 := (cells4 hh).2.2.2.1; have t43 := (cells4 hh).2.2.2.2
                  refine ⟨?_⟩
                  simp only [putL, Act.put, List.setIfInBounds_toArray, List.set_cons_zero, List.set_cons_succ]
                  go_simp
                  exact hK.out _ _ ⟨x61, x62, x63, x64, x65, x66, x67, .slice (some ⟨g1, 0, none⟩) n c1, x69, x70, .agg #[.int .i64 W', .int .i64 H', .slice (some ⟨g1, 0, none⟩) n c1, .slice B m capS], .pointer (some ⟨nb, 0, none⟩), by simp only [putL, Act.put, List.setIfInBounds_toArray, List.set_cons_zero, List.set_cons_succ], ⟨f0, f1, f2, f3, f5, f6, f8, f9, f10, f107⟩, hW.put12 h7' (afterL_get ha 11 (by kernel_rfl))⟩
                exact steps_nil
              · rintro L' a' w' hall ⟨x61, x62, x63, x64, x65, x66, x67, x68, x69, x70, x71, x10, rfl, ⟨f0, f1, f2, f3, f5, f6, f8, f9, f10, f107⟩, hW⟩
                obtain ⟨g1, c1, rfl, ho⟩ := hW.at7 (hall 7 (by decide))
                obtain ⟨nb, u0, u1, u2, u3, rfl, hlo, hh, hd⟩ := hW.at11 (hall 11 (by decide))
                obtain ⟨rfl, rfl, rfl, rfl⟩ := hd (hall 12 (by decide))
                simp only [putL, Act.put, List.setIfInBounds_toArray, List.set_cons_zero, List.set_cons_succ]
                go_wp2
                go_meet
                exact ⟨nb, g1, c1, rfl, hW.below, hh, ho, hlo, own_ne_fen ho hh rfl⟩
            case rest =>
              obtain ⟨nb, g1, c1, rfl, hwant⟩ := hcut
              have HWB := Lib.hid hwant
              clear hwant
              obtain ⟨⟨p0, p1, p2, p3⟩, pf0, pf1, pf2, pf3⟩ := cells4 HWB.out.box
              obtain ⟨pc, pfz⟩ := HWB.out.own.cell (tab_len n f) hi
              rw [TF.out] at pc
              have pfi := pfz i
              have pnb := get_lt HWB.out.box
              have hwr := HWR.out
              go_upto_region 15 with fail
              clear hwr
              clear p0 p1 p2 p3 pf0 pf1 pf2 pf3 pc pfz pfi pnb
              have hlo := HWB.out.own.lt.1
              have hB9 : Below z5.val.heap.size z5.val (wc.setCell ⟨g1, i, none⟩ (.int .i64 (f i + d))) := below_set HWB.out.below hlo
              have ho9 : OwnI (wc.setCell ⟨g1, i, none⟩ (.int .i64 (f i + d))) z5.val.heap.size (.slice (some ⟨g1, 0, none⟩) n c1) (tab n g) := by
                rw [← TG.out]
                exact HWB.out.own.set (tab_len n f) i (f i + d)
              have hb10 : (wc.setCell ⟨g1, i, none⟩ (.int .i64 (f i + d))).heap[nb]? = some (.cells #[.int .i64 W', .int .i64 H', .slice (some ⟨g1, 0, none⟩) n c1, .slice B m capS] 25 (0, 0)) := (Below.heap_setCell _ _ _ _ (fun e => HWB.out.ne e)).trans HWB.out.box
              have hb7 : (wc.setCell ⟨g1, i, none⟩ (.int .i64 (f i + d))).heap[z2.val.heap.size]? = some (.cells #[.int .i64 W', .int .i64 H', .slice A2 n c2, .slice B2 m c3] 25 (0, 0)) := (hB9.block _ (get_lt ((z5.ok.block _ (by simp)).trans (World.alloc_heap_new _ _)))).trans ((z5.ok.block _ (by simp)).trans (World.alloc_heap_new _ _))
              have hz9 : Below z2.val.heap.size z2.val (wc.setCell ⟨g1, i, none⟩ (.int .i64 (f i + d))) := below_more (by repeat (first | exact Below.refl _ _ | (with_reducible assumption) | apply below_later | apply below_alloc | apply below_drew | apply below_drewN)) hB9
              have hw9 : Below w.heap.size w (wc.setCell ⟨g1, i, none⟩ (.int .i64 (f i + d))) := below_more hb5 hB9
              generalize wc.setCell ⟨g1, i, none⟩ (.int .i64 (f i + d)) = W9 at *
              have SF : Hid (∀ V, Below W9.heap.size W9 V → Gives Try.prog 20 #[.agg #[.int .i64 W', .int .i64 H', .slice A2 n c2, .slice B2 m c3], .agg #[.int .i64 W', .int .i64 H', .slice (some ⟨g1, 0, none⟩) n c1, .slice B m capS]] V (.bool true)) := fun V hV => same_fens _ _ _ _ _ _ _ _ _ _ _ _ g a s V (by omega)
                (HI2.out.later ⟨V, below_more hz9 hV⟩) ((OwnI.of_tab ho9 (by omega)).later ⟨V, hV⟩) (HQ2.out.later ⟨V, below_more hz9 hV⟩) (HQB.out.later ⟨V, below_more hw9 hV⟩)
              obtain ⟨⟨p0, p1, p2, p3⟩, _⟩ := cells4 hb10
              obtain ⟨⟨q0, q1, q2, q3⟩, _⟩ := cells4 hb7
              have l10 := get_lt hb10
              have l7 := get_lt hb7
              have HW9 := Lib.hid hw9
              clear hb10 hb7 ho9 hB9 hz9 hw9 HWB
              go_wp2_with (first
                | (go_at_call 20; with_reducible refine Calls.mono (Gives.calls (SF.out _ (by repeat (first | exact Below.refl _ _ | (with_reducible assumption) | apply below_later | apply below_alloc | apply below_drew | apply below_drewN)))) ?_; rintro e w1 ⟨rfl, z11, rfl⟩)
                | (go_at_call 7; with_reducible refine Calls.mono (Gives.calls (F1.out _)) ?_; rintro e w1 ⟨rfl, z12, rfl⟩))
              go_ret
              exact ⟨rfl, later_of (below_more HW9.out (by repeat (first | exact Below.refl _ _ | (with_reducible assumption) | apply below_later | apply below_alloc | apply below_drew | apply below_drewN)))⟩
      · have C1 : Hid (∀ w', Below w.heap.size w w' → Gives Try.prog 19 #[.agg #[.int .i64 W, .int .i64 H, .slice A n cap, .slice B m capS], .int .i64 at_, .int .i64 d] w' (.tuple #[.agg #[.int .i64 0, .int .i64 0, .slice none 0 0, .slice none 0 0], .int .i64 2])) := fun w' h => raise_arg W H n cap m capS A B f a s at_ d w' (hp'.later ⟨w', h⟩) (hq'.later ⟨w', h⟩) hv (.inl hat)
        clear hp' hq' hv
        by_cases hneg : at_ < 0
        · have d1 : decide (at_ < 0) = true := decide_eq_true hneg
          clear hat hneg
          go_enter Try.func5, Try.ntmps5
          go_wp2_with (first
            | (go_at_call 6; (first | (with_reducible show Calls _ _ _ (Later.val _) _; with_reducible refine Calls.mono (Later.call _ (FW.out _)) ?_) | (with_reducible refine Calls.mono (Gives.calls (FW.out _)) ?_)); rintro e w1 ⟨rfl, z1, rfl⟩)
            | (go_at_call 19; with_reducible refine Calls.mono (Gives.calls (C1.out _ (by repeat (first | exact Below.refl _ _ | (with_reducible assumption) | apply below_later | apply below_alloc | apply below_drew | apply below_drewN)))) ?_; rintro e w1 ⟨rfl, z2, rfl⟩; obtain ⟨b20, b21, b22, b23, b24⟩ := BX.out z2.val (by repeat (first | exact Below.refl _ _ | (with_reducible assumption) | apply below_later | apply below_alloc | apply below_drew | apply below_drewN)))
            | (go_at_call 10; with_reducible refine Calls.mono (Gives.calls (RV.out _ (by repeat (first | exact Below.refl _ _ | (with_reducible assumption) | apply below_later | apply below_alloc | apply below_drew | apply below_drewN)))) ?_; rintro e w1 ⟨rfl, z5, rfl⟩; obtain ⟨b50, b51, b52, b53, b54⟩ := BX.out z5.val (by repeat (first | exact Below.refl _ _ | (with_reducible assumption) | apply below_later | apply below_alloc | apply below_drew | apply below_drewN)))
            | (go_at_call 20; with_reducible refine Calls.mono (Gives.calls (ZF.out _)) ?_; rintro e w1 ⟨rfl, z7, rfl⟩)
            | (go_at_call 7; with_reducible refine Calls.mono (Gives.calls (F1.out _)) ?_; rintro e w1 ⟨rfl, z9, rfl⟩))
          go_ret
          exact ⟨rfl, later_of (by repeat (first | exact Below.refl _ _ | (with_reducible assumption) | apply below_later | apply below_alloc | apply below_drew | apply below_drewN))⟩
        · have d1 : decide (at_ < 0) = false := decide_eq_false hneg
          have d2 : decide ((n : Int) ≤ at_) = true := decide_eq_true (by omega)
          clear hat hneg
          go_enter Try.func5, Try.ntmps5
          go_wp2_with (first
            | (go_at_call 6; (first | (with_reducible show Calls _ _ _ (Later.val _) _; with_reducible refine Calls.mono (Later.call _ (FW.out _)) ?_) | (with_reducible refine Calls.mono (Gives.calls (FW.out _)) ?_)); rintro e w1 ⟨rfl, z1, rfl⟩)
            | (go_at_call 19; with_reducible refine Calls.mono (Gives.calls (C1.out _ (by repeat (first | exact Below.refl _ _ | (with_reducible assumption) | apply below_later | apply below_alloc | apply below_drew | apply below_drewN)))) ?_; rintro e w1 ⟨rfl, z2, rfl⟩; obtain ⟨b20, b21, b22, b23, b24⟩ := BX.out z2.val (by repeat (first | exact Below.refl _ _ | (with_reducible assumption) | apply below_later | apply below_alloc | apply below_drew | apply below_drewN)))
            | (go_at_call 10; with_reducible refine Calls.mono (Gives.calls (RV.out _ (by repeat (first | exact Below.refl _ _ | (with_reducible assumption) | apply below_later | apply below_alloc | apply below_drew | apply below_drewN)))) ?_; rintro e w1 ⟨rfl, z5, rfl⟩; obtain ⟨b50, b51, b52, b53, b54⟩ := BX.out z5.val (by repeat (first | exact Below.refl _ _ | (with_reducible assumption) | apply below_later | apply below_alloc | apply below_drew | apply below_drewN)))
            | (go_at_call 20; with_reducible refine Calls.mono (Gives.calls (ZF.out _)) ?_; rintro e w1 ⟨rfl, z7, rfl⟩)
            | (go_at_call 7; with_reducible refine Calls.mono (Gives.calls (F1.out _)) ?_; rintro e w1 ⟨rfl, z9, rfl⟩))
          go_ret
          exact ⟨rfl, later_of (by repeat (first | exact Below.refl _ _ | (with_reducible assumption) | apply below_later | apply below_alloc | apply below_drew | apply below_drewN))⟩
  · rw [hl] at FW
    clear hp hq hl
    go_enter Try.func5, Try.ntmps5
    go_wp2_with (first
      | (go_at_call 6; (first | (with_reducible show Calls _ _ _ (Later.val _) _; with_reducible refine Calls.mono (Later.call _ (FW.out _)) ?_) | (with_reducible refine Calls.mono (Gives.calls (FW.out _)) ?_)); rintro e w1 ⟨rfl, z1, rfl⟩)
      | (go_at_call 7; (first | (with_reducible show Calls _ _ _ (Later.val _) _; with_reducible refine Calls.mono (Later.call _ (F1.out _)) ?_) | (with_reducible refine Calls.mono (Gives.calls (F1.out _)) ?_)); rintro e w1 ⟨rfl, z4, rfl⟩))
    go_ret
    exact ⟨rfl, later_of (by repeat (first | exact Below.refl _ _ | (with_reducible assumption) | apply below_later | apply below_alloc | apply below_drew | apply below_drewN))⟩
end Go.Proofs.Ytelfinjnbncnlaa
