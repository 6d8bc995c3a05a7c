/- Nests in memory; wader's areNests and closed, the document's Nests and closed: walked. -/
import Derived.Test.YtbflpidjcflndaaKValid
namespace Go.Proofs.Ytbflpidjcflndaa
open Go.RowKit

/-- m nests from cell off of block b on. -/
structure Nsts (w : World) (b off m : Nat) (X Y F T R : Nat → Int) : Prop where
  lt : b < w.heap.size
  x : ∀ i, i < m → w.cell? ⟨b, off + i * 5, none⟩ = some (.int .i64 (X i))
  y : ∀ i, i < m → w.cell? ⟨b, off + i * 5 + 1, none⟩ = some (.int .i64 (Y i))
  f : ∀ i, i < m → w.cell? ⟨b, off + i * 5 + 2, none⟩ = some (.int .i64 (F i))
  t : ∀ i, i < m → w.cell? ⟨b, off + i * 5 + 3, none⟩ = some (.int .i64 (T i))
  r : ∀ i, i < m → w.cell? ⟨b, off + i * 5 + 4, none⟩ = some (.int .i64 (R i))
theorem Nsts.later {w : World} {b off m : Nat} {X Y F T R : Nat → Int} (h : Nsts w b off m X Y F T R) (x : Later w) : Nsts x.val b off m X Y F T R :=
  ⟨Nat.lt_of_lt_of_le h.lt x.size, fun i hi => (x.cell _ _ h.lt).trans (h.x i hi), fun i hi => (x.cell _ _ h.lt).trans (h.y i hi), fun i hi => (x.cell _ _ h.lt).trans (h.f i hi), fun i hi => (x.cell _ _ h.lt).trans (h.t i hi), fun i hi => (x.cell _ _ h.lt).trans (h.r i hi)⟩
structure IsNsts (w : World) (A : Option Addr) (m : Nat) (X Y F T R : Nat → Int) : Prop where
  small : m ≤ 9223372036854775807
  at_ : 0 < m → ∃ b off, A = some ⟨b, off, none⟩ ∧ Nsts w b off m X Y F T R
theorem IsNsts.later {w : World} {A : Option Addr} {m : Nat} {X Y F T R : Nat → Int} (h : IsNsts w A m X Y F T R) (x : Later w) : IsNsts x.val A m X Y F T R :=
  ⟨h.small, fun h0 => let ⟨b, off, e, hp⟩ := h.at_ h0; ⟨b, off, e, hp.later x⟩⟩
theorem IsNsts.below {w V : World} {A : Option Addr} {m : Nat} {X Y F T R : Nat → Int} (h : IsNsts w A m X Y F T R) (hb : Below w.heap.size w V) : IsNsts V A m X Y F T R := h.later ⟨V, hb⟩
def dayB (x : Int) : Bool := decide (0 ≤ x) && decide (x ≤ 10000)
def placeB (x y : Int) : Bool := (decide (-1000 ≤ x) && decide (x ≤ 1000)) && (decide (-1000 ≤ y) && decide (y ≤ 1000))
/-- Is a nest as described? -/
def okN (x y f t r : Int) : Bool := placeB x y && (dayB f && (dayB t && (decide (f ≤ t) && (decide (0 ≤ r) && decide (r ≤ 100)))))
/-- Does a nest close a square on a day? -/
def shutB (x y f t r ax ay d : Int) : Bool := (decide (f ≤ d) && decide (d ≤ t)) && decide (awayZ x y ax ay ≤ r)
/-- Is one of m so? -/
def anyN (m : Nat) (p : Nat → Bool) : Bool := !allB m fun i => !p i
theorem anyN_iff {m : Nat} {p : Nat → Bool} : anyN m p = true ↔ ∃ i, i < m ∧ p i = true := by
  unfold anyN
  cases h : allB m fun i => !p i
  · simp only [Bool.not_false, true_iff]
    exact Classical.byContradiction fun hn => by
      have : (allB m fun i => !p i) = true := allB_iff.2 fun i hi => by
        cases e : p i
        · rfl
        · exact absurd ⟨i, hi, e⟩ hn
      rw [h] at this
      cases this
  · simp only [Bool.not_true, Bool.false_eq_true, false_iff]
    rintro ⟨i, hi, e⟩
    have := allB_iff.1 h i hi
    rw [e] at this
    cases this
theorem anyN_no {m : Nat} {p : Nat → Bool} (h : ∀ i, i < m → p i = false) : anyN m p = false := by
  cases e : anyN m p
  · rfl
  · obtain ⟨i, hi, hp⟩ := anyN_iff.1 e
    rw [h i hi] at hp
    cases hp
theorem box5 (w : World) (a b c d e : Value) (t : TypeId) : (w.alloc (.cells #[a, b, c, d, e] t)).cell? ⟨w.heap.size, 0, none⟩ = some a ∧ (w.alloc (.cells #[a, b, c, d, e] t)).cell? ⟨w.heap.size, 1, none⟩ = some b ∧ (w.alloc (.cells #[a, b, c, d, e] t)).cell? ⟨w.heap.size, 2, none⟩ = some c ∧ (w.alloc (.cells #[a, b, c, d, e] t)).cell? ⟨w.heap.size, 3, none⟩ = some d ∧ (w.alloc (.cells #[a, b, c, d, e] t)).cell? ⟨w.heap.size, 4, none⟩ = some e ∧ w.heap.size < (w.alloc (.cells #[a, b, c, d, e] t)).heap.size :=
  ⟨cell_of_heap (World.alloc_heap_new _ _) 0 _ rfl, cell_of_heap (World.alloc_heap_new _ _) 1 _ rfl, cell_of_heap (World.alloc_heap_new _ _) 2 _ rfl, cell_of_heap (World.alloc_heap_new _ _) 3 _ rfl, cell_of_heap (World.alloc_heap_new _ _) 4 _ rfl, by simp⟩
theorem awayZ_comm (x y u v : Int) : awayZ x y u v = awayZ u v x y := by unfold awayZ; omega
set_option maxRecDepth 100000 in
set_option maxHeartbeats 3200000 in
theorem areNests1_any (x y f t r : Int) (w : World) : Gives Try.prog 95 #[.agg #[.int .i64 x, .int .i64 y, .int .i64 f, .int .i64 t, .int .i64 r]] w (.bool (!okN x y f t r)) := by
  have P1 : Hid (∀ w', Gives Try.prog 53 #[.int .i64 x, .int .i64 y] w' (.bool (placeB x y))) := fun w' => isPlace_any x y w'
  have D1 : Hid (∀ w', Gives Try.prog 54 #[.int .i64 f] w' (.bool (dayB f))) := fun w' => isTime_any f w'
  have D2 : Hid (∀ w', Gives Try.prog 54 #[.int .i64 t] w' (.bool (dayB t))) := fun w' => isTime_any t w'
  have HR : Hid ((!okN x y f t r) = !(placeB x y && (dayB f && (dayB t && (decide (f ≤ t) && (decide (0 ≤ r) && decide (r ≤ 100))))))) := rfl
  obtain ⟨c0, c1, c2, c3, c4, l0⟩ := box5 w (.int .i64 x) (.int .i64 y) (.int .i64 f) (.int .i64 t) (.int .i64 r) 62
  have HX : Hid (∀ V, Below (w.alloc (.cells #[.int .i64 x, .int .i64 y, .int .i64 f, .int .i64 t, .int .i64 r] 62)).heap.size (w.alloc (.cells #[.int .i64 x, .int .i64 y, .int .i64 f, .int .i64 t, .int .i64 r] 62)) V → V.cell? ⟨w.heap.size, 2, none⟩ = some (.int .i64 f) ∧ V.cell? ⟨w.heap.size, 3, none⟩ = some (.int .i64 t) ∧ V.cell? ⟨w.heap.size, 4, none⟩ = some (.int .i64 r) ∧ w.heap.size < V.heap.size) := fun V h =>
    ⟨(h.cell (p := ⟨w.heap.size, 2, none⟩) l0).trans c2, (h.cell (p := ⟨w.heap.size, 3, none⟩) l0).trans c3, (h.cell (p := ⟨w.heap.size, 4, none⟩) l0).trans c4, Nat.lt_of_lt_of_le l0 h.size⟩
  generalize (!okN x y f t r) = res at *
  generalize placeB x y = r1 at *
  generalize dayB f = r2 at *
  generalize dayB t = r3 at *
  rcases r1 with _ | _
  · go_enter Try.func95, Try.ntmps95
    go_wp2_with (first | (go_at_call 53; with_reducible refine Calls.mono (Gives.calls (P1.out _)) ?_; rintro e w1 ⟨rfl, z, rfl⟩) | ((go_at_call 54; with_reducible refine Calls.mono (Gives.calls (D1.out _)) ?_; rintro e w1 ⟨rfl, z2, rfl⟩); obtain ⟨p2, p3, p4, p5⟩ := HX.out z2.val (by repeat (first | exact Below.refl _ _ | (with_reducible assumption) | apply below_later | apply below_alloc | apply below_drew | apply below_drewN))) | ((go_at_call 54; with_reducible refine Calls.mono (Gives.calls (D2.out _)) ?_; rintro e w1 ⟨rfl, z3, rfl⟩); obtain ⟨p2, p3, p4, p5⟩ := HX.out z3.val (by repeat (first | exact Below.refl _ _ | (with_reducible assumption) | apply below_later | apply below_alloc | apply below_drew | apply below_drewN))))
    go_ret
    exact ⟨ret_bool (by rw [HR.out]; rfl), later_of (by repeat (first | exact Below.refl _ _ | (with_reducible assumption) | apply below_later | apply below_alloc | apply below_drew | apply below_drewN))⟩
  rcases r2 with _ | _
  · go_enter Try.func95, Try.ntmps95
    go_wp2_with (first | (go_at_call 53; with_reducible refine Calls.mono (Gives.calls (P1.out _)) ?_; rintro e w1 ⟨rfl, z, rfl⟩) | ((go_at_call 54; with_reducible refine Calls.mono (Gives.calls (D1.out _)) ?_; rintro e w1 ⟨rfl, z2, rfl⟩); obtain ⟨p2, p3, p4, p5⟩ := HX.out z2.val (by repeat (first | exact Below.refl _ _ | (with_reducible assumption) | apply below_later | apply below_alloc | apply below_drew | apply below_drewN))) | ((go_at_call 54; with_reducible refine Calls.mono (Gives.calls (D2.out _)) ?_; rintro e w1 ⟨rfl, z3, rfl⟩); obtain ⟨p2, p3, p4, p5⟩ := HX.out z3.val (by repeat (first | exact Below.refl _ _ | (with_reducible assumption) | apply below_later | apply below_alloc | apply below_drew | apply below_drewN))))
    go_ret
    exact ⟨ret_bool (by rw [HR.out]; rfl), later_of (by repeat (first | exact Below.refl _ _ | (with_reducible assumption) | apply below_later | apply below_alloc | apply below_drew | apply below_drewN))⟩
  rcases r3 with _ | _
  · go_enter Try.func95, Try.ntmps95
    go_wp2_with (first | (go_at_call 53; with_reducible refine Calls.mono (Gives.calls (P1.out _)) ?_; rintro e w1 ⟨rfl, z, rfl⟩) | ((go_at_call 54; with_reducible refine Calls.mono (Gives.calls (D1.out _)) ?_; rintro e w1 ⟨rfl, z2, rfl⟩); obtain ⟨p2, p3, p4, p5⟩ := HX.out z2.val (by repeat (first | exact Below.refl _ _ | (with_reducible assumption) | apply below_later | apply below_alloc | apply below_drew | apply below_drewN))) | ((go_at_call 54; with_reducible refine Calls.mono (Gives.calls (D2.out _)) ?_; rintro e w1 ⟨rfl, z3, rfl⟩); obtain ⟨p2, p3, p4, p5⟩ := HX.out z3.val (by repeat (first | exact Below.refl _ _ | (with_reducible assumption) | apply below_later | apply below_alloc | apply below_drew | apply below_drewN))))
    go_ret
    exact ⟨ret_bool (by rw [HR.out]; rfl), later_of (by repeat (first | exact Below.refl _ _ | (with_reducible assumption) | apply below_later | apply below_alloc | apply below_drew | apply below_drewN))⟩
  by_cases h1 : f > t
  · go_enter Try.func95, Try.ntmps95
    go_wp2_with (first | (go_at_call 53; with_reducible refine Calls.mono (Gives.calls (P1.out _)) ?_; rintro e w1 ⟨rfl, z, rfl⟩) | ((go_at_call 54; with_reducible refine Calls.mono (Gives.calls (D1.out _)) ?_; rintro e w1 ⟨rfl, z2, rfl⟩); obtain ⟨p2, p3, p4, p5⟩ := HX.out z2.val (by repeat (first | exact Below.refl _ _ | (with_reducible assumption) | apply below_later | apply below_alloc | apply below_drew | apply below_drewN))) | ((go_at_call 54; with_reducible refine Calls.mono (Gives.calls (D2.out _)) ?_; rintro e w1 ⟨rfl, z3, rfl⟩); obtain ⟨p2, p3, p4, p5⟩ := HX.out z3.val (by repeat (first | exact Below.refl _ _ | (with_reducible assumption) | apply below_later | apply below_alloc | apply below_drew | apply below_drewN))))
    go_ret
    exact ⟨ret_bool (by rw [HR.out, decide_eq_false (by omega : ¬ f ≤ t)]; rfl), later_of (by repeat (first | exact Below.refl _ _ | (with_reducible assumption) | apply below_later | apply below_alloc | apply below_drew | apply below_drewN))⟩
  by_cases h2 : r < 0
  · go_enter Try.func95, Try.ntmps95
    go_wp2_with (first | (go_at_call 53; with_reducible refine Calls.mono (Gives.calls (P1.out _)) ?_; rintro e w1 ⟨rfl, z, rfl⟩) | ((go_at_call 54; with_reducible refine Calls.mono (Gives.calls (D1.out _)) ?_; rintro e w1 ⟨rfl, z2, rfl⟩); obtain ⟨p2, p3, p4, p5⟩ := HX.out z2.val (by repeat (first | exact Below.refl _ _ | (with_reducible assumption) | apply below_later | apply below_alloc | apply below_drew | apply below_drewN))) | ((go_at_call 54; with_reducible refine Calls.mono (Gives.calls (D2.out _)) ?_; rintro e w1 ⟨rfl, z3, rfl⟩); obtain ⟨p2, p3, p4, p5⟩ := HX.out z3.val (by repeat (first | exact Below.refl _ _ | (with_reducible assumption) | apply below_later | apply below_alloc | apply below_drew | apply below_drewN))))
    go_ret
    exact ⟨ret_bool (by rw [HR.out, decide_eq_true (by omega : f ≤ t), decide_eq_false (by omega : ¬ 0 ≤ r)]; rfl), later_of (by repeat (first | exact Below.refl _ _ | (with_reducible assumption) | apply below_later | apply below_alloc | apply below_drew | apply below_drewN))⟩
  by_cases h3 : r > 100
  · go_enter Try.func95, Try.ntmps95
    go_wp2_with (first | (go_at_call 53; with_reducible refine Calls.mono (Gives.calls (P1.out _)) ?_; rintro e w1 ⟨rfl, z, rfl⟩) | ((go_at_call 54; with_reducible refine Calls.mono (Gives.calls (D1.out _)) ?_; rintro e w1 ⟨rfl, z2, rfl⟩); obtain ⟨p2, p3, p4, p5⟩ := HX.out z2.val (by repeat (first | exact Below.refl _ _ | (with_reducible assumption) | apply below_later | apply below_alloc | apply below_drew | apply below_drewN))) | ((go_at_call 54; with_reducible refine Calls.mono (Gives.calls (D2.out _)) ?_; rintro e w1 ⟨rfl, z3, rfl⟩); obtain ⟨p2, p3, p4, p5⟩ := HX.out z3.val (by repeat (first | exact Below.refl _ _ | (with_reducible assumption) | apply below_later | apply below_alloc | apply below_drew | apply below_drewN))))
    go_ret
    exact ⟨ret_bool (by rw [HR.out, decide_eq_true (by omega : f ≤ t), decide_eq_true (by omega : 0 ≤ r), decide_eq_false (by omega : ¬ r ≤ 100)]; rfl), later_of (by repeat (first | exact Below.refl _ _ | (with_reducible assumption) | apply below_later | apply below_alloc | apply below_drew | apply below_drewN))⟩
  · go_enter Try.func95, Try.ntmps95
    go_wp2_with (first | (go_at_call 53; with_reducible refine Calls.mono (Gives.calls (P1.out _)) ?_; rintro e w1 ⟨rfl, z, rfl⟩) | ((go_at_call 54; with_reducible refine Calls.mono (Gives.calls (D1.out _)) ?_; rintro e w1 ⟨rfl, z2, rfl⟩); obtain ⟨p2, p3, p4, p5⟩ := HX.out z2.val (by repeat (first | exact Below.refl _ _ | (with_reducible assumption) | apply below_later | apply below_alloc | apply below_drew | apply below_drewN))) | ((go_at_call 54; with_reducible refine Calls.mono (Gives.calls (D2.out _)) ?_; rintro e w1 ⟨rfl, z3, rfl⟩); obtain ⟨p2, p3, p4, p5⟩ := HX.out z3.val (by repeat (first | exact Below.refl _ _ | (with_reducible assumption) | apply below_later | apply below_alloc | apply below_drew | apply below_drewN))))
    go_ret
    exact ⟨ret_bool (by rw [HR.out, decide_eq_true (by omega : f ≤ t), decide_eq_true (by omega : 0 ≤ r), decide_eq_true (by omega : r ≤ 100)]; first | rfl | (simp; omega)), later_of (by repeat (first | exact Below.refl _ _ | (with_reducible assumption) | apply below_later | apply below_alloc | apply below_drew | apply below_drewN))⟩
set_option maxRecDepth 100000 in
set_option maxHeartbeats 3200000 in
theorem closed1_any (x y f t r ax ay d : Int) (bd ba : Nat) (w : World) (hx : placeB x y = true) (ha : placeB ax ay = true) (hd : w.cell? ⟨bd, 0, none⟩ = some (.int .i64 d)) (h0 : w.cell? ⟨ba, 0, none⟩ = some (.int .i64 ax)) (h1 : w.cell? ⟨ba, 1, none⟩ = some (.int .i64 ay)) :
    Gives Try.prog 90 #[.agg #[.int .i64 x, .int .i64 y, .int .i64 f, .int .i64 t, .int .i64 r], .pointer (some ⟨bd, 0, none⟩), .pointer (some ⟨ba, 0, none⟩)] w (.bool (shutB x y f t r ax ay d)) := by
  have ld := World.block_lt_of_cell? _ _ hd
  have la := World.block_lt_of_cell? _ _ h0
  unfold placeB at hx ha
  simp only [Bool.and_eq_true, decide_eq_true_eq] at hx ha
  have AW : Hid (∀ w', Gives Try.prog 77 #[.int .i64 x, .int .i64 y, .int .i64 ax, .int .i64 ay] w' (.int .i64 (awayZ x y ax ay))) := fun w' => away_any x y ax ay w' hx.1 hx.2 ha.1 ha.2
  have HR : Hid (shutB x y f t r ax ay d = ((decide (f ≤ d) && decide (d ≤ t)) && decide (awayZ x y ax ay ≤ r))) := rfl
  obtain ⟨c0, c1, c2, c3, c4, l0⟩ := box5 w (.int .i64 x) (.int .i64 y) (.int .i64 f) (.int .i64 t) (.int .i64 r) 62
  have hb : Below w.heap.size w (w.alloc (.cells #[.int .i64 x, .int .i64 y, .int .i64 f, .int .i64 t, .int .i64 r] 62)) := (Below.refl _ _).alloc (Nat.le_refl _) _
  have d0 := (hb.cell (p := ⟨bd, 0, none⟩) ld).trans hd
  have d1 := (hb.cell (p := ⟨ba, 0, none⟩) la).trans h0
  have d2 := (hb.cell (p := ⟨ba, 1, none⟩) la).trans h1
  have d3 := Nat.lt_of_lt_of_le ld hb.size
  have d4 := Nat.lt_of_lt_of_le la hb.size
  have HB := Lib.hid hb
  generalize shutB x y f t r ax ay d = res at *
  generalize awayZ x y ax ay = q at *
  clear hx ha hd h0 h1 ld la hb
  by_cases g1 : f ≤ d
  · have e1 : decide (f ≤ d) = true := decide_eq_true g1
    by_cases g2 : d ≤ t
    · have e2 : decide (d ≤ t) = true := decide_eq_true g2
      go_enter Try.func90, Try.ntmps90
      go_wp2_with fail
      obtain ⟨b9, hb9⟩ : ∃ b9, w.heap.size = b9 := ⟨_, rfl⟩
      rw [hb9] at c0 c1 c2 c3 c4 l0 ⊢
      clear hb9
      generalize w.alloc (.cells #[.int .i64 x, .int .i64 y, .int .i64 f, .int .i64 t, .int .i64 r] 62) = Z at *
      refine wp_region_later (by kernel_rfl) (by kernel_rfl) ?_
      repeat (go_big_quiet_step ((go_at_call 77; (with_reducible refine Later.call _ (AW.out _)))))
      refine wpQuiet_nil ?_
      intro q2
      go_wp2
      go_ret
      exact ⟨ret_bool (by rw [HR.out, e1, e2]; rfl), later_of (below_more HB.out q2.ok)⟩
    · have e2 : decide (d ≤ t) = false := decide_eq_false g2
      go_enter Try.func90, Try.ntmps90
      go_wp2_with fail
      obtain ⟨b9, hb9⟩ : ∃ b9, w.heap.size = b9 := ⟨_, rfl⟩
      rw [hb9] at c0 c1 c2 c3 c4 l0 ⊢
      clear hb9
      generalize w.alloc (.cells #[.int .i64 x, .int .i64 y, .int .i64 f, .int .i64 t, .int .i64 r] 62) = Z at *
      refine wp_region_later (by kernel_rfl) (by kernel_rfl) ?_
      repeat (go_big_quiet_step ((go_at_call 77; (with_reducible refine Later.call _ (AW.out _)))))
      refine wpQuiet_nil ?_
      intro q2
      go_wp2
      go_ret
      exact ⟨ret_bool (by rw [HR.out, e1, e2]; rfl), later_of (below_more HB.out q2.ok)⟩
  · have e1 : decide (f ≤ d) = false := decide_eq_false g1
    go_enter Try.func90, Try.ntmps90
    go_wp2_with fail
    obtain ⟨b9, hb9⟩ : ∃ b9, w.heap.size = b9 := ⟨_, rfl⟩
    rw [hb9] at c0 c1 c2 c3 c4 l0 ⊢
    clear hb9
    generalize w.alloc (.cells #[.int .i64 x, .int .i64 y, .int .i64 f, .int .i64 t, .int .i64 r] 62) = Z at *
    refine wp_region_later (by kernel_rfl) (by kernel_rfl) ?_
    repeat (go_big_quiet_step ((go_at_call 77; (with_reducible refine Later.call _ (AW.out _)))))
    refine wpQuiet_nil ?_
    intro q2
    go_wp2
    go_ret
    exact ⟨ret_bool (by rw [HR.out, e1]; rfl), later_of (below_more HB.out q2.ok)⟩
set_option maxRecDepth 100000 in
set_option maxHeartbeats 3200000 in
theorem nindex_are (A : Option Addr) (m cap : Nat) (X Y F T R : Nat → Int) (p : Nat → Bool) (bd ba : Nat) (w : World) (hm : m ≤ 1000) (hp : IsNsts w A m X Y F T R)
    (hc : ∀ V, Below w.heap.size w V → ∀ k, k < m → Gives Try.prog 95 #[.agg #[.int .i64 (X k), .int .i64 (Y k), .int .i64 (F k), .int .i64 (T k), .int .i64 (R k)]] V (.bool (p k))) :
    Calls Try.prog 96 #[.slice A m cap, .func (.func 95) #[] #[]] w fun e w' => ∃ r : Int, e = .returned (.int .i64 r) ∧ (∃ x : Later w, w' = x.val) ∧ (0 ≤ r ↔ anyN m p = true) ∧ -1 ≤ r ∧ r ≤ m := by
  have HP := Lib.hid hp
  have HC := Lib.hid hc
  clear hp hc
  go_enter Try.func96, Try.ntmps96
  go_wp2
  go_loopw [8] (fun u wr => ∃ k : Nat, k ≤ m ∧ u = .int .i64 k ∧ (∀ j, j < k → p j = false) ∧ ∃ x : Later w, wr = x.val) (fun u _ => m - (intOf u).toNat)
  case atStart => exact ⟨0, by omega, rfl, by omega, later_of (by repeat (first | exact Below.refl _ _ | (with_reducible assumption) | apply below_later | apply below_alloc | apply below_drew | apply below_drewN))⟩
  case round =>
    obtain ⟨k, hk, rfl, hall, x, rfl⟩ := hrel
    have HALL := Lib.hid hall
    clear hall
    by_cases hlt : k < m
    · obtain ⟨b, off, hB, q⟩ := (HP.out.later x).at_ (by omega)
      subst hB
      have c0 := q.x k hlt
      have c1 := q.y k hlt
      have c2 := q.f k hlt
      have c3 := q.t k hlt
      have c4 := q.r k hlt
      have lb := q.lt
      clear q
      have A1 := Lib.hid (HC.out x.val x.ok k hlt)
      cases hF : p k
      · rw [hF] at A1
        have HN : Hid (∀ j, j < k + 1 → p j = false) := fun j hj => by
          by_cases e : j = k
          · subst e; exact hF
          · exact HALL.out j (by omega)
        clear hF
        go_wp2_with (go_at_call 95; (first | (with_reducible show Calls _ _ _ (Later.val _) _; with_reducible refine Calls.mono (Later.call _ (A1.out)) ?_) | (with_reducible refine Calls.mono (Gives.calls (A1.out)) ?_)); rintro e w1 ⟨rfl, z, rfl⟩)
        go_roundw
        case rel => exact ⟨k + 1, by omega, by go_num, HN.out, later_of (by repeat (first | exact Below.refl _ _ | (with_reducible assumption) | apply below_later | apply below_alloc | apply below_drew | apply below_drewN))⟩
        case measure => simp [intOf]; omega
      · rw [hF] at A1
        have HT : Hid (anyN m p = true) := anyN_iff.2 ⟨k, hlt, hF⟩
        clear hF
        go_wp2_with (go_at_call 95; (first | (with_reducible show Calls _ _ _ (Later.val _) _; with_reducible refine Calls.mono (Later.call _ (A1.out)) ?_) | (with_reducible refine Calls.mono (Gives.calls (A1.out)) ?_)); rintro e w1 ⟨rfl, z, rfl⟩)
        go_ret
        exact ⟨(k : Int), rfl, later_of (by repeat (first | exact Below.refl _ _ | (with_reducible assumption) | apply below_later | apply below_alloc | apply below_drew | apply below_drewN)), ⟨fun _ => HT.out, fun _ => by omega⟩, by omega, by omega⟩
    · obtain rfl : k = m := by omega
      have HT : Hid (anyN k p = false) := anyN_no HALL.out
      go_wp2
      go_ret
      exact ⟨(-1 : Int), rfl, later_of (by repeat (first | exact Below.refl _ _ | (with_reducible assumption) | apply below_later | apply below_alloc | apply below_drew | apply below_drewN)), ⟨fun h => by omega, fun h => by rw [HT.out] at h; cases h⟩, by omega, by omega⟩
theorem ncontains_are (A : Option Addr) (m cap : Nat) (X Y F T R : Nat → Int) (p : Nat → Bool) (bd ba : Nat) (w : World) (hm : m ≤ 1000) (hp : IsNsts w A m X Y F T R)
    (hc : ∀ V, Below w.heap.size w V → ∀ k, k < m → Gives Try.prog 95 #[.agg #[.int .i64 (X k), .int .i64 (Y k), .int .i64 (F k), .int .i64 (T k), .int .i64 (R k)]] V (.bool (p k))) :
    Gives Try.prog 89 #[.slice A m cap, .func (.func 95) #[] #[]] w (.bool (anyN m p)) := by
  have HI := Lib.hid (nindex_are A m cap X Y F T R p bd ba w hm hp hc)
  clear hp hc
  generalize anyN m p = r at *
  go_enter Try.func89, Try.ntmps89
  go_wp2_with (go_at_call 96; refine Calls.mono HI.out ?_; rintro e w1 ⟨q, rfl, ⟨x, rfl⟩, hq, hq1, hq2⟩; have HQ := Lib.hid hq)
  go_ret
  refine ⟨ret_bool ?_, later_of (by repeat (first | exact Below.refl _ _ | (with_reducible assumption) | apply below_later | apply below_alloc | apply below_drew | apply below_drewN))⟩
  have := HQ.out
  cases r <;> simp_all
set_option maxRecDepth 100000 in
set_option maxHeartbeats 3200000 in
theorem nindex_clo (A : Option Addr) (m cap : Nat) (X Y F T R : Nat → Int) (p : Nat → Bool) (bd ba : Nat) (w : World) (hm : m ≤ 1000) (hp : IsNsts w A m X Y F T R)
    (hc : ∀ V, Below w.heap.size w V → ∀ k, k < m → Gives Try.prog 90 #[.agg #[.int .i64 (X k), .int .i64 (Y k), .int .i64 (F k), .int .i64 (T k), .int .i64 (R k)], .pointer (some ⟨bd, 0, none⟩), .pointer (some ⟨ba, 0, none⟩)] V (.bool (p k))) :
    Calls Try.prog 96 #[.slice A m cap, .func (.func 90) #[] #[.pointer (some ⟨bd, 0, none⟩), .pointer (some ⟨ba, 0, none⟩)]] w fun e w' => ∃ r : Int, e = .returned (.int .i64 r) ∧ (∃ x : Later w, w' = x.val) ∧ (0 ≤ r ↔ anyN m p = true) ∧ -1 ≤ r ∧ r ≤ m := by
  have HP := Lib.hid hp
  have HC := Lib.hid hc
  clear hp hc
  go_enter Try.func96, Try.ntmps96
  go_wp2
  go_loopw [8] (fun u wr => ∃ k : Nat, k ≤ m ∧ u = .int .i64 k ∧ (∀ j, j < k → p j = false) ∧ ∃ x : Later w, wr = x.val) (fun u _ => m - (intOf u).toNat)
  case atStart => exact ⟨0, by omega, rfl, by omega, later_of (by repeat (first | exact Below.refl _ _ | (with_reducible assumption) | apply below_later | apply below_alloc | apply below_drew | apply below_drewN))⟩
  case round =>
    obtain ⟨k, hk, rfl, hall, x, rfl⟩ := hrel
    have HALL := Lib.hid hall
    clear hall
    by_cases hlt : k < m
    · obtain ⟨b, off, hB, q⟩ := (HP.out.later x).at_ (by omega)
      subst hB
      have c0 := q.x k hlt
      have c1 := q.y k hlt
      have c2 := q.f k hlt
      have c3 := q.t k hlt
      have c4 := q.r k hlt
      have lb := q.lt
      clear q
      have A1 := Lib.hid (HC.out x.val x.ok k hlt)
      cases hF : p k
      · rw [hF] at A1
        have HN : Hid (∀ j, j < k + 1 → p j = false) := fun j hj => by
          by_cases e : j = k
          · subst e; exact hF
          · exact HALL.out j (by omega)
        clear hF
        go_wp2_with (go_at_call 90; (first | (with_reducible show Calls _ _ _ (Later.val _) _; with_reducible refine Calls.mono (Later.call _ (A1.out)) ?_) | (with_reducible refine Calls.mono (Gives.calls (A1.out)) ?_)); rintro e w1 ⟨rfl, z, rfl⟩)
        go_roundw
        case rel => exact ⟨k + 1, by omega, by go_num, HN.out, later_of (by repeat (first | exact Below.refl _ _ | (with_reducible assumption) | apply below_later | apply below_alloc | apply below_drew | apply below_drewN))⟩
        case measure => simp [intOf]; omega
      · rw [hF] at A1
        have HT : Hid (anyN m p = true) := anyN_iff.2 ⟨k, hlt, hF⟩
        clear hF
        go_wp2_with (go_at_call 90; (first | (with_reducible show Calls _ _ _ (Later.val _) _; with_reducible refine Calls.mono (Later.call _ (A1.out)) ?_) | (with_reducible refine Calls.mono (Gives.calls (A1.out)) ?_)); rintro e w1 ⟨rfl, z, rfl⟩)
        go_ret
        exact ⟨(k : Int), rfl, later_of (by repeat (first | exact Below.refl _ _ | (with_reducible assumption) | apply below_later | apply below_alloc | apply below_drew | apply below_drewN)), ⟨fun _ => HT.out, fun _ => by omega⟩, by omega, by omega⟩
    · obtain rfl : k = m := by omega
      have HT : Hid (anyN k p = false) := anyN_no HALL.out
      go_wp2
      go_ret
      exact ⟨(-1 : Int), rfl, later_of (by repeat (first | exact Below.refl _ _ | (with_reducible assumption) | apply below_later | apply below_alloc | apply below_drew | apply below_drewN)), ⟨fun h => by omega, fun h => by rw [HT.out] at h; cases h⟩, by omega, by omega⟩
theorem ncontains_clo (A : Option Addr) (m cap : Nat) (X Y F T R : Nat → Int) (p : Nat → Bool) (bd ba : Nat) (w : World) (hm : m ≤ 1000) (hp : IsNsts w A m X Y F T R)
    (hc : ∀ V, Below w.heap.size w V → ∀ k, k < m → Gives Try.prog 90 #[.agg #[.int .i64 (X k), .int .i64 (Y k), .int .i64 (F k), .int .i64 (T k), .int .i64 (R k)], .pointer (some ⟨bd, 0, none⟩), .pointer (some ⟨ba, 0, none⟩)] V (.bool (p k))) :
    Gives Try.prog 89 #[.slice A m cap, .func (.func 90) #[] #[.pointer (some ⟨bd, 0, none⟩), .pointer (some ⟨ba, 0, none⟩)]] w (.bool (anyN m p)) := by
  have HI := Lib.hid (nindex_clo A m cap X Y F T R p bd ba w hm hp hc)
  clear hp hc
  generalize anyN m p = r at *
  go_enter Try.func89, Try.ntmps89
  go_wp2_with (go_at_call 96; refine Calls.mono HI.out ?_; rintro e w1 ⟨q, rfl, ⟨x, rfl⟩, hq, hq1, hq2⟩; have HQ := Lib.hid hq)
  go_ret
  refine ⟨ret_bool ?_, later_of (by repeat (first | exact Below.refl _ _ | (with_reducible assumption) | apply below_later | apply below_alloc | apply below_drew | apply below_drewN))⟩
  have := HQ.out
  cases r <;> simp_all
def nestsB (m : Nat) (X Y F T R : Nat → Int) : Bool := decide (m ≤ 50) && allB m fun i => okN (X i) (Y i) (F i) (T i) (R i)
theorem anyN_not (m : Nat) (p : Nat → Bool) : anyN m (fun i => !p i) = !allB m p := by
  unfold anyN
  congr 2
  funext i
  simp
/-- More than 50 nests need not be read. -/
theorem areNests_any (A : Option Addr) (m cap : Nat) (X Y F T R : Nat → Int) (w : World) (hp : m ≤ 50 → IsNsts w A m X Y F T R) :
    Gives Try.prog 88 #[.slice A m cap] w (.bool (nestsB m X Y F T R)) := by
  have HR : Hid (nestsB m X Y F T R = (decide (m ≤ 50) && allB m fun i => okN (X i) (Y i) (F i) (T i) (R i))) := rfl
  have C0 : m ≤ 50 → ∀ V, Below w.heap.size w V → Gives Try.prog 89 #[.slice A m cap, .func (.func 95) #[] #[]] V (.bool (!allB m fun i => okN (X i) (Y i) (F i) (T i) (R i))) := fun h V hV =>
    anyN_not m (fun i => okN (X i) (Y i) (F i) (T i) (R i)) ▸ ncontains_are A m cap X Y F T R _ 0 0 V (by omega) ((hp h).below hV) fun V' _ k _ => areNests1_any (X k) (Y k) (F k) (T k) (R k) V'
  generalize (allB m fun i => okN (X i) (Y i) (F i) (T i) (R i)) = r0 at *
  generalize nestsB m X Y F T R = r at *
  by_cases h : m ≤ 50
  · have C1 := Lib.hid (C0 h)
    clear C0 hp
    have hd : ¬ ((m : Int) > 50) := by omega
    go_enter Try.func88, Try.ntmps88
    go_wp2_with (go_at_call 89; with_reducible refine Calls.mono (Gives.calls (C1.out _ (by repeat (first | exact Below.refl _ _ | (with_reducible assumption) | apply below_later | apply below_alloc | apply below_drew | apply below_drewN)))) ?_; rintro e w1 ⟨rfl, z, rfl⟩)
    go_ret
    exact ⟨ret_bool (by rw [HR.out, decide_eq_true h]; simp), later_of (by repeat (first | exact Below.refl _ _ | (with_reducible assumption) | apply below_later | apply below_alloc | apply below_drew | apply below_drewN))⟩
  · clear C0 hp
    go_enter Try.func88, Try.ntmps88
    go_wp2
    go_ret
    exact ⟨ret_bool (by rw [HR.out, decide_eq_false h]; rfl), later_of (by repeat (first | exact Below.refl _ _ | (with_reducible assumption) | apply below_later | apply below_alloc | apply below_drew | apply below_drewN))⟩
/-- Is a square closed on a day? -/
def shutN (m : Nat) (X Y F T R : Nat → Int) (ax ay d : Int) : Bool := anyN m fun i => shutB (X i) (Y i) (F i) (T i) (R i) ax ay d
theorem nests_facts {m : Nat} {X Y F T R : Nat → Int} (h : nestsB m X Y F T R = true) : m ≤ 50 ∧ ∀ i, i < m → okN (X i) (Y i) (F i) (T i) (R i) = true := by
  unfold nestsB at h
  simp only [Bool.and_eq_true, decide_eq_true_eq] at h
  exact ⟨h.1, fun i hi => allB_iff.1 h.2 i hi⟩
theorem okN_place {x y f t r : Int} (h : okN x y f t r = true) : placeB x y = true := by
  unfold okN at h
  simp only [Bool.and_eq_true] at h
  exact h.1
set_option maxRecDepth 100000 in
theorem closed_any (A : Option Addr) (m cap : Nat) (X Y F T R : Nat → Int) (ax ay d : Int) (w : World) (hn : nestsB m X Y F T R = true) (ha : placeB ax ay = true) (hp : IsNsts w A m X Y F T R) :
    Gives Try.prog 75 #[.slice A m cap, .agg #[.int .i64 ax, .int .i64 ay], .int .i64 d] w (.bool (shutN m X Y F T R ax ay d)) := by
  obtain ⟨hm, hok⟩ := nests_facts hn
  have hb : Below w.heap.size w ((w.alloc (.cells #[.int .i64 ax, .int .i64 ay] 52)).alloc (.cells #[.int .i64 d] 3)) := below_alloc (below_alloc (Below.refl _ _))
  obtain ⟨c0, c1, l0⟩ := box2 w (.int .i64 ax) (.int .i64 ay) 52
  have C0 : Hid (Gives Try.prog 89 #[.slice A m cap, .func (.func 90) #[] #[.pointer (some ⟨w.heap.size + 1, 0, none⟩), .pointer (some ⟨w.heap.size, 0, none⟩)]] ((w.alloc (.cells #[.int .i64 ax, .int .i64 ay] 52)).alloc (.cells #[.int .i64 d] 3)) (.bool (shutN m X Y F T R ax ay d))) := by
    refine ncontains_clo A m cap X Y F T R _ (w.heap.size + 1) w.heap.size _ (by omega) (hp.below hb) fun V hV k hk => ?_
    have hh : ((w.alloc (.cells #[.int .i64 ax, .int .i64 ay] 52)).alloc (.cells #[.int .i64 d] 3)).heap[w.heap.size + 1]? = some (.cells #[.int .i64 d] 3) := by
      have h := World.alloc_heap_new (w.alloc (.cells #[.int .i64 ax, .int .i64 ay] 52)) (.cells #[.int .i64 d] 3)
      rw [World.size_alloc] at h
      exact h
    have hl : w.heap.size < ((w.alloc (.cells #[.int .i64 ax, .int .i64 ay] 52)).alloc (.cells #[.int .i64 d] 3)).heap.size := by simp only [World.size_alloc]; omega
    refine closed1_any _ _ _ _ _ ax ay d _ _ V (okN_place (hok k hk)) ha ?_ ?_ ?_
    · exact (hV.cell (p := ⟨w.heap.size + 1, 0, none⟩) (get_lt hh)).trans (cell_of_heap hh 0 _ rfl)
    · exact (hV.cell (p := ⟨w.heap.size, 0, none⟩) hl).trans ((cell_alloc1 l0).trans c0)
    · exact (hV.cell (p := ⟨w.heap.size, 1, none⟩) hl).trans ((cell_alloc1 l0).trans c1)
  generalize shutN m X Y F T R ax ay d = r at *
  clear hp hok hn ha hb
  go_enter Try.func75, Try.ntmps75
  go_wp2_with (go_at_call 89; with_reducible refine Calls.mono (Gives.calls (C0.out)) ?_; rintro e w1 ⟨rfl, z, rfl⟩)
  go_ret
  exact ⟨rfl, later_of (by repeat (first | exact Below.refl _ _ | (with_reducible assumption) | apply below_later | apply below_alloc | apply below_drew | apply below_drewN))⟩
end Go.Proofs.Ytbflpidjcflndaa
