/- WaderNests, walked. -/
import Derived.Test.YtbflpidjcflndaaKRDays
import Derived.Test.YtbflpidjcflndaaKAwake
namespace Go.Proofs.Ytbflpidjcflndaa
open Go.RowKit

/-- Closed, Days and Opens answer as the document's do. -/
theorem nest_pairs (A : Option Addr) (m cap : Nat) (X Y F T R : Nat → Int) (ax ay f t : Int) (w : World) (hm : m ≤ 60) (hp : IsNsts w A m X Y F T R) :
    ∃ (b : Bool) (E n E2 o E3 : Int), (Hid (∀ V, Below w.heap.size w V → Gives Try.prog 39 #[.slice A m cap, .agg #[.int .i64 ax, .int .i64 ay], .int .i64 f] V (.tuple #[.bool b, .int .i64 E])) ∧ Hid (∀ V, Below w.heap.size w V → Gives Try.prog 40 #[.slice A m cap, .agg #[.int .i64 ax, .int .i64 ay], .int .i64 f] V (.tuple #[.bool b, .int .i64 E]))) ∧
      (Hid (∀ V, Below w.heap.size w V → Gives Try.prog 41 #[.slice A m cap, .agg #[.int .i64 ax, .int .i64 ay], .int .i64 f, .int .i64 t] V (.tuple #[.int .i64 n, .int .i64 E2])) ∧ Hid (∀ V, Below w.heap.size w V → Gives Try.prog 42 #[.slice A m cap, .agg #[.int .i64 ax, .int .i64 ay], .int .i64 f, .int .i64 t] V (.tuple #[.int .i64 n, .int .i64 E2]))) ∧
      (Hid (∀ V, Below w.heap.size w V → Gives Try.prog 43 #[.slice A m cap, .agg #[.int .i64 ax, .int .i64 ay], .int .i64 f] V (.tuple #[.int .i64 o, .int .i64 E3])) ∧ Hid (∀ V, Below w.heap.size w V → Gives Try.prog 44 #[.slice A m cap, .agg #[.int .i64 ax, .int .i64 ay], .int .i64 f] V (.tuple #[.int .i64 o, .int .i64 E3]))) := by
  have nb : ∀ {g h : Int}, nestE (nestsB m X Y F T R) ax ay g h = 0 → nestsB m X Y F T R = true := fun {g h} e => by
    cases hn : nestsB m X Y F T R
    · rw [hn] at e; cases e
    · rfl
  obtain ⟨b, E, h1⟩ : ∃ (b : Bool) (E : Int), Hid (∀ V, Below w.heap.size w V → Gives Try.prog 39 #[.slice A m cap, .agg #[.int .i64 ax, .int .i64 ay], .int .i64 f] V (.tuple #[.bool b, .int .i64 E])) ∧ Hid (∀ V, Below w.heap.size w V → Gives Try.prog 40 #[.slice A m cap, .agg #[.int .i64 ax, .int .i64 ay], .int .i64 f] V (.tuple #[.bool b, .int .i64 E])) := by
    by_cases he : nestE (nestsB m X Y F T R) ax ay f f = 0
    · have hn := nb he
      rw [hn] at he
      exact ⟨_, _, fun V h => Closed_ok A m cap X Y F T R ax ay f f V (hp.below h) hn he, fun V h => RClosed_ok A m cap X Y F T R ax ay f f V (hp.below h) hn he⟩
    · exact ⟨_, _, fun V h => Closed_bad A m cap X Y F T R ax ay f f V (fun _ => hp.below h) he, fun V h => RClosed_bad A m cap X Y F T R ax ay f f V (by omega) (hp.below h) he⟩
  obtain ⟨n, E2, h2⟩ : ∃ (n E2 : Int), Hid (∀ V, Below w.heap.size w V → Gives Try.prog 41 #[.slice A m cap, .agg #[.int .i64 ax, .int .i64 ay], .int .i64 f, .int .i64 t] V (.tuple #[.int .i64 n, .int .i64 E2])) ∧ Hid (∀ V, Below w.heap.size w V → Gives Try.prog 42 #[.slice A m cap, .agg #[.int .i64 ax, .int .i64 ay], .int .i64 f, .int .i64 t] V (.tuple #[.int .i64 n, .int .i64 E2])) := by
    by_cases he : nestE (nestsB m X Y F T R) ax ay f t = 0
    · have hn := nb he
      rw [hn] at he
      exact ⟨_, _, fun V h => Days_ok A m cap X Y F T R ax ay f t V (hp.below h) hn he, fun V h => RDays_ok A m cap X Y F T R ax ay f t V (hp.below h) hn he⟩
    · exact ⟨_, _, fun V h => Days_bad A m cap X Y F T R ax ay f t V (fun _ => hp.below h) he, fun V h => RDays_bad A m cap X Y F T R ax ay f t V (by omega) (hp.below h) he⟩
  obtain ⟨o, E3, h3⟩ : ∃ (o E3 : Int), Hid (∀ V, Below w.heap.size w V → Gives Try.prog 43 #[.slice A m cap, .agg #[.int .i64 ax, .int .i64 ay], .int .i64 f] V (.tuple #[.int .i64 o, .int .i64 E3])) ∧ Hid (∀ V, Below w.heap.size w V → Gives Try.prog 44 #[.slice A m cap, .agg #[.int .i64 ax, .int .i64 ay], .int .i64 f] V (.tuple #[.int .i64 o, .int .i64 E3])) := by
    by_cases he : nestE (nestsB m X Y F T R) ax ay f f = 0
    · have hn := nb he
      rw [hn] at he
      exact ⟨_, _, fun V h => Opens_ok A m cap X Y F T R ax ay f f V (hp.below h) hn he, fun V h => ROpens_ok A m cap X Y F T R ax ay f f V (hp.below h) hn he⟩
    · exact ⟨_, _, fun V h => Opens_bad A m cap X Y F T R ax ay f f V (fun _ => hp.below h) he, fun V h => ROpens_bad A m cap X Y F T R ax ay f V (by omega) (hp.below h) he⟩
  exact ⟨b, E, n, E2, o, E3, h1, h2, h3⟩
set_option maxRecDepth 100000 in
set_option maxHeartbeats 6400000 in
theorem nests_law (A : Option Addr) (m cap : Nat) (X Y F T R : Nat → Int) (ax ay f t : Int) (w : World) (hp : m ≤ 60 → IsNsts w A m X Y F T R) :
    Gives Try.prog 9 #[.slice A m cap, .agg #[.int .i64 ax, .int .i64 ay], .agg #[.int .i64 f, .int .i64 t]] w (.bool true) := by
  have AW := Lib.hid awake_law
  obtain ⟨n0, n1, l0⟩ := box2 w (.int .i64 ax) (.int .i64 ay) 52
  obtain ⟨d0, d1, l1⟩ := box2 (w.alloc (.cells #[.int .i64 ax, .int .i64 ay] 52)) (.int .i64 f) (.int .i64 t) 23
  have hb : Below w.heap.size w ((w.alloc (.cells #[.int .i64 ax, .int .i64 ay] 52)).alloc (.cells #[.int .i64 f, .int .i64 t] 23)) := below_alloc (below_alloc (Below.refl _ _))
  have hb2 : Below (w.alloc (.cells #[.int .i64 ax, .int .i64 ay] 52)).heap.size (w.alloc (.cells #[.int .i64 ax, .int .i64 ay] 52)) ((w.alloc (.cells #[.int .i64 ax, .int .i64 ay] 52)).alloc (.cells #[.int .i64 f, .int .i64 t] 23)) := below_alloc (Below.refl _ _)
  have m0 := (hb2.cell (p := ⟨w.heap.size, 0, none⟩) l0).trans n0
  have m1 := (hb2.cell (p := ⟨w.heap.size, 1, none⟩) l0).trans n1
  have m2 := Nat.lt_of_lt_of_le l0 hb2.size
  rw [World.size_alloc] at d0 d1 l1
  by_cases h60 : m ≤ 60
  · obtain ⟨b, E, n, E2, o, E3, ⟨C1, C2⟩, ⟨D1, D2⟩, O1, O2⟩ := nest_pairs A m cap X Y F T R ax ay f t w h60 (hp h60)
    have HB := Lib.hid hb
    clear hp hb hb2 n0 n1 l0
    go_enter Try.func9, Try.ntmps9
    go_wp2_with fail
    obtain ⟨b8, hb8⟩ : ∃ b8, w.heap.size = b8 := ⟨_, rfl⟩
    rw [hb8] at m0 m1 m2 d0 d1 l1 ⊢
    obtain ⟨b9, hb9⟩ : ∃ b9, b8 + 1 = b9 := ⟨_, rfl⟩
    rw [hb9] at d0 d1 l1 ⊢
    clear hb8 hb9
    replace C1 : Hid (∀ V, Below ((w.alloc (.cells #[.int .i64 ax, .int .i64 ay] 52)).alloc (.cells #[.int .i64 f, .int .i64 t] 23)).heap.size ((w.alloc (.cells #[.int .i64 ax, .int .i64 ay] 52)).alloc (.cells #[.int .i64 f, .int .i64 t] 23)) V → Gives Try.prog 39 #[.slice A m cap, .agg #[.int .i64 ax, .int .i64 ay], .int .i64 f] V (.tuple #[.bool b, .int .i64 E])) := fun V h => C1.out V (below_more HB.out h)
    replace C2 : Hid (∀ V, Below ((w.alloc (.cells #[.int .i64 ax, .int .i64 ay] 52)).alloc (.cells #[.int .i64 f, .int .i64 t] 23)).heap.size ((w.alloc (.cells #[.int .i64 ax, .int .i64 ay] 52)).alloc (.cells #[.int .i64 f, .int .i64 t] 23)) V → Gives Try.prog 40 #[.slice A m cap, .agg #[.int .i64 ax, .int .i64 ay], .int .i64 f] V (.tuple #[.bool b, .int .i64 E])) := fun V h => C2.out V (below_more HB.out h)
    replace D1 : Hid (∀ V, Below ((w.alloc (.cells #[.int .i64 ax, .int .i64 ay] 52)).alloc (.cells #[.int .i64 f, .int .i64 t] 23)).heap.size ((w.alloc (.cells #[.int .i64 ax, .int .i64 ay] 52)).alloc (.cells #[.int .i64 f, .int .i64 t] 23)) V → Gives Try.prog 41 #[.slice A m cap, .agg #[.int .i64 ax, .int .i64 ay], .int .i64 f, .int .i64 t] V (.tuple #[.int .i64 n, .int .i64 E2])) := fun V h => D1.out V (below_more HB.out h)
    replace D2 : Hid (∀ V, Below ((w.alloc (.cells #[.int .i64 ax, .int .i64 ay] 52)).alloc (.cells #[.int .i64 f, .int .i64 t] 23)).heap.size ((w.alloc (.cells #[.int .i64 ax, .int .i64 ay] 52)).alloc (.cells #[.int .i64 f, .int .i64 t] 23)) V → Gives Try.prog 42 #[.slice A m cap, .agg #[.int .i64 ax, .int .i64 ay], .int .i64 f, .int .i64 t] V (.tuple #[.int .i64 n, .int .i64 E2])) := fun V h => D2.out V (below_more HB.out h)
    replace O1 : Hid (∀ V, Below ((w.alloc (.cells #[.int .i64 ax, .int .i64 ay] 52)).alloc (.cells #[.int .i64 f, .int .i64 t] 23)).heap.size ((w.alloc (.cells #[.int .i64 ax, .int .i64 ay] 52)).alloc (.cells #[.int .i64 f, .int .i64 t] 23)) V → Gives Try.prog 43 #[.slice A m cap, .agg #[.int .i64 ax, .int .i64 ay], .int .i64 f] V (.tuple #[.int .i64 o, .int .i64 E3])) := fun V h => O1.out V (below_more HB.out h)
    replace O2 : Hid (∀ V, Below ((w.alloc (.cells #[.int .i64 ax, .int .i64 ay] 52)).alloc (.cells #[.int .i64 f, .int .i64 t] 23)).heap.size ((w.alloc (.cells #[.int .i64 ax, .int .i64 ay] 52)).alloc (.cells #[.int .i64 f, .int .i64 t] 23)) V → Gives Try.prog 44 #[.slice A m cap, .agg #[.int .i64 ax, .int .i64 ay], .int .i64 f] V (.tuple #[.int .i64 o, .int .i64 E3])) := fun V h => O2.out V (below_more HB.out h)
    generalize (w.alloc (.cells #[.int .i64 ax, .int .i64 ay] 52)).alloc (.cells #[.int .i64 f, .int .i64 t] 23) = Z at *
    have HX : Hid (∀ V, Below Z.heap.size Z V → V.cell? ⟨b8, 0, none⟩ = some (.int .i64 ax) ∧ V.cell? ⟨b8, 1, none⟩ = some (.int .i64 ay) ∧ b8 < V.heap.size ∧ V.cell? ⟨b9, 0, none⟩ = some (.int .i64 f) ∧ V.cell? ⟨b9, 1, none⟩ = some (.int .i64 t) ∧ b9 < V.heap.size) := fun V h =>
      ⟨(h.cell (p := ⟨b8, 0, none⟩) m2).trans m0, (h.cell (p := ⟨b8, 1, none⟩) m2).trans m1, Nat.lt_of_lt_of_le m2 h.size, (h.cell (p := ⟨b9, 0, none⟩) l1).trans d0, (h.cell (p := ⟨b9, 1, none⟩) l1).trans d1, Nat.lt_of_lt_of_le l1 h.size⟩
    go_wp2_with (first
      | ((go_at_call 39; with_reducible refine Calls.mono (Gives.calls (C1.out _ (by repeat (first | exact Below.refl _ _ | (with_reducible assumption) | apply below_later | apply below_alloc | apply below_drew | apply below_drewN)))) ?_; rintro e w1 ⟨rfl, z1, rfl⟩); obtain ⟨j0, j1, j2, j3, j4, j5⟩ := HX.out z1.val (by repeat (first | exact Below.refl _ _ | (with_reducible assumption) | apply below_later | apply below_alloc | apply below_drew | apply below_drewN)))
      | ((go_at_call 40; with_reducible refine Calls.mono (Gives.calls (C2.out _ (by repeat (first | exact Below.refl _ _ | (with_reducible assumption) | apply below_later | apply below_alloc | apply below_drew | apply below_drewN)))) ?_; rintro e w1 ⟨rfl, z2, rfl⟩); obtain ⟨j0, j1, j2, j3, j4, j5⟩ := HX.out z2.val (by repeat (first | exact Below.refl _ _ | (with_reducible assumption) | apply below_later | apply below_alloc | apply below_drew | apply below_drewN)))
      | ((go_at_call 41; with_reducible refine Calls.mono (Gives.calls (D1.out _ (by repeat (first | exact Below.refl _ _ | (with_reducible assumption) | apply below_later | apply below_alloc | apply below_drew | apply below_drewN)))) ?_; rintro e w1 ⟨rfl, z3, rfl⟩); obtain ⟨j0, j1, j2, j3, j4, j5⟩ := HX.out z3.val (by repeat (first | exact Below.refl _ _ | (with_reducible assumption) | apply below_later | apply below_alloc | apply below_drew | apply below_drewN)))
      | ((go_at_call 42; with_reducible refine Calls.mono (Gives.calls (D2.out _ (by repeat (first | exact Below.refl _ _ | (with_reducible assumption) | apply below_later | apply below_alloc | apply below_drew | apply below_drewN)))) ?_; rintro e w1 ⟨rfl, z4, rfl⟩); obtain ⟨j0, j1, j2, j3, j4, j5⟩ := HX.out z4.val (by repeat (first | exact Below.refl _ _ | (with_reducible assumption) | apply below_later | apply below_alloc | apply below_drew | apply below_drewN)))
      | ((go_at_call 43; with_reducible refine Calls.mono (Gives.calls (O1.out _ (by repeat (first | exact Below.refl _ _ | (with_reducible assumption) | apply below_later | apply below_alloc | apply below_drew | apply below_drewN)))) ?_; rintro e w1 ⟨rfl, z5, rfl⟩); obtain ⟨j0, j1, j2, j3, j4, j5⟩ := HX.out z5.val (by repeat (first | exact Below.refl _ _ | (with_reducible assumption) | apply below_later | apply below_alloc | apply below_drew | apply below_drewN)))
      | ((go_at_call 44; with_reducible refine Calls.mono (Gives.calls (O2.out _ (by repeat (first | exact Below.refl _ _ | (with_reducible assumption) | apply below_later | apply below_alloc | apply below_drew | apply below_drewN)))) ?_; rintro e w1 ⟨rfl, z6, rfl⟩); obtain ⟨j0, j1, j2, j3, j4, j5⟩ := HX.out z6.val (by repeat (first | exact Below.refl _ _ | (with_reducible assumption) | apply below_later | apply below_alloc | apply below_drew | apply below_drewN)))
      | (go_at_call 14; with_reducible refine Calls.mono (Gives.calls (AW.out _)) ?_; rintro e w1 ⟨rfl, z7, rfl⟩))
    go_ret
    have hbz := HB.out
    exact ⟨rfl, later_of (by repeat (first | exact Below.refl _ _ | (with_reducible assumption) | apply below_later | apply below_alloc | apply below_drew | apply below_drewN))⟩
  · clear hp hb hb2
    go_enter Try.func9, Try.ntmps9
    go_wp2_with (go_at_call 14; with_reducible refine Calls.mono (Gives.calls (AW.out _)) ?_; rintro e w1 ⟨rfl, z, rfl⟩)
    go_ret
    exact ⟨rfl, later_of (by repeat (first | exact Below.refl _ _ | (with_reducible assumption) | apply below_later | apply below_alloc | apply below_drew | apply below_drewN))⟩
end Go.Proofs.Ytbflpidjcflndaa
