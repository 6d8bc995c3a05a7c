/- checkNests, Closed, Days and Opens, of the program and of the document: walked. -/
import Derived.Test.YtbflpidjcflndaaKRNests
namespace Go.Proofs.Ytbflpidjcflndaa
open Go.RowKit

/-- The error of nests, a square and a span of days. -/
def nestE (nb : Bool) (ax ay f t : Int) : Int := if nb = false then 61 else if (placeB ax ay && (dayB f && (dayB t && decide (f ≤ t)))) = true then 0 else 2
/-- On how many of k days from one on. -/
def daysC (p : Int → Bool) (f : Int) : Nat → Nat
  | 0 => 0
  | k + 1 => daysC p f k + if p (f + k) = true then 1 else 0
theorem daysC_le (p : Int → Bool) (f : Int) : ∀ k, daysC p f k ≤ k := by
  intro k
  induction k with
  | zero => exact Nat.le_refl _
  | succ k ih => unfold daysC; split <;> omega
/-- The first day from one on, of k at most, on which it is not so. -/
def firstO (p : Int → Bool) : Nat → Int → Int
  | 0, d => d
  | k + 1, d => if p d = true then firstO p k (d + 1) else d
theorem shut_last {m : Nat} {X Y F T R : Nat → Int} {ax ay d : Int} (hn : nestsB m X Y F T R = true) (h : shutN m X Y F T R ax ay d = true) : d ≤ 10000 := by
  obtain ⟨i, hi, hp⟩ := anyN_iff.1 h
  have := (nests_facts hn).2 i hi
  unfold okN dayB at this
  unfold shutB at hp
  simp only [Bool.and_eq_true, decide_eq_true_eq] at this hp
  omega
theorem day_facts {f t : Int} (h : (dayB f && (dayB t && decide (f ≤ t))) = true) : 0 ≤ f ∧ f ≤ 10000 ∧ 0 ≤ t ∧ t ≤ 10000 ∧ f ≤ t := by
  unfold dayB at h
  simp only [Bool.and_eq_true, decide_eq_true_eq] at h
  omega
set_option maxRecDepth 100000 in
set_option maxHeartbeats 3200000 in
theorem checkNests_any (A : Option Addr) (m cap : Nat) (X Y F T R : Nat → Int) (ax ay f t : Int) (w : World) (hp : m ≤ 50 → IsNsts w A m X Y F T R) :
    Gives Try.prog 74 #[.slice A m cap, .agg #[.int .i64 ax, .int .i64 ay], .int .i64 f, .int .i64 t] w (.int .i64 (nestE (nestsB m X Y F T R) ax ay f t)) := by
  have hb : Below w.heap.size w (w.alloc (.cells #[.int .i64 ax, .int .i64 ay] 52)) := (Below.refl _ _).alloc (Nat.le_refl _) _
  have AN : Hid (∀ V, Below w.heap.size w V → Gives Try.prog 88 #[.slice A m cap] V (.bool (nestsB m X Y F T R))) := fun V h => areNests_any A m cap X Y F T R V fun h2 => (hp h2).below h
  have P1 : Hid (∀ w', Gives Try.prog 53 #[.int .i64 ax, .int .i64 ay] w' (.bool (placeB ax ay))) := fun w' => isPlace_any ax ay w'
  have D1 : Hid (∀ w', Gives Try.prog 54 #[.int .i64 f] w' (.bool (dayB f))) := fun w' => isTime_any f w'
  have D2 : Hid (∀ w', Gives Try.prog 54 #[.int .i64 t] w' (.bool (dayB t))) := fun w' => isTime_any t w'
  obtain ⟨n0, n1, l0⟩ := box2 w (.int .i64 ax) (.int .i64 ay) 52
  have HX : Hid (∀ V, Below (w.alloc (.cells #[.int .i64 ax, .int .i64 ay] 52)).heap.size (w.alloc (.cells #[.int .i64 ax, .int .i64 ay] 52)) V → V.cell? ⟨w.heap.size, 0, none⟩ = some (.int .i64 ax) ∧ V.cell? ⟨w.heap.size, 1, none⟩ = some (.int .i64 ay) ∧ w.heap.size < V.heap.size) := fun V h =>
    ⟨(h.cell (p := ⟨w.heap.size, 0, none⟩) l0).trans n0, (h.cell (p := ⟨w.heap.size, 1, none⟩) l0).trans n1, Nat.lt_of_lt_of_le l0 h.size⟩
  have HR : Hid (∀ r0 r1 r2 r3 : Bool, nestE r0 ax ay f t = nestE r0 ax ay f t) := fun _ _ _ _ => rfl
  have HE : Hid (nestE (nestsB m X Y F T R) ax ay f t = if nestsB m X Y F T R = false then 61 else if (placeB ax ay && (dayB f && (dayB t && decide (f ≤ t)))) = true then 0 else 2) := rfl
  generalize nestE (nestsB m X Y F T R) ax ay f t = res at *
  generalize nestsB m X Y F T R = r0 at *
  generalize placeB ax ay = r1 at *
  generalize dayB f = r2 at *
  generalize dayB t = r3 at *
  clear hp hb HR
  rcases r0 with _ | _
  · have E1 : Hid (res = 61) := HE.out
    go_enter Try.func74, Try.ntmps74
    go_wp2_with (first | ((go_at_call 88; with_reducible refine Calls.mono (Gives.calls (AN.out _ (by repeat (first | exact Below.refl _ _ | (with_reducible assumption) | apply below_later | apply below_alloc | apply below_drew | apply below_drewN)))) ?_; rintro e w1 ⟨rfl, z, rfl⟩); obtain ⟨p0, p1, p2⟩ := HX.out z.val (by repeat (first | exact Below.refl _ _ | (with_reducible assumption) | apply below_later | apply below_alloc | apply below_drew | apply below_drewN))) | (go_at_call 53; with_reducible refine Calls.mono (Gives.calls (P1.out _)) ?_; rintro e w1 ⟨rfl, z2, rfl⟩) | (go_at_call 54; with_reducible refine Calls.mono (Gives.calls (D1.out _)) ?_; rintro e w1 ⟨rfl, z3, rfl⟩) | (go_at_call 54; with_reducible refine Calls.mono (Gives.calls (D2.out _)) ?_; rintro e w1 ⟨rfl, z4, rfl⟩))
    go_ret
    exact ⟨ret_int E1.out.symm, later_of (by repeat (first | exact Below.refl _ _ | (with_reducible assumption) | apply below_later | apply below_alloc | apply below_drew | apply below_drewN))⟩
  rcases r1 with _ | _
  · have E1 : Hid (res = 2) := HE.out
    go_enter Try.func74, Try.ntmps74
    go_wp2_with (first | ((go_at_call 88; with_reducible refine Calls.mono (Gives.calls (AN.out _ (by repeat (first | exact Below.refl _ _ | (with_reducible assumption) | apply below_later | apply below_alloc | apply below_drew | apply below_drewN)))) ?_; rintro e w1 ⟨rfl, z, rfl⟩); obtain ⟨p0, p1, p2⟩ := HX.out z.val (by repeat (first | exact Below.refl _ _ | (with_reducible assumption) | apply below_later | apply below_alloc | apply below_drew | apply below_drewN))) | (go_at_call 53; with_reducible refine Calls.mono (Gives.calls (P1.out _)) ?_; rintro e w1 ⟨rfl, z2, rfl⟩) | (go_at_call 54; with_reducible refine Calls.mono (Gives.calls (D1.out _)) ?_; rintro e w1 ⟨rfl, z3, rfl⟩) | (go_at_call 54; with_reducible refine Calls.mono (Gives.calls (D2.out _)) ?_; rintro e w1 ⟨rfl, z4, rfl⟩))
    go_ret
    exact ⟨ret_int E1.out.symm, later_of (by repeat (first | exact Below.refl _ _ | (with_reducible assumption) | apply below_later | apply below_alloc | apply below_drew | apply below_drewN))⟩
  rcases r2 with _ | _
  · have E1 : Hid (res = 2) := HE.out
    go_enter Try.func74, Try.ntmps74
    go_wp2_with (first | ((go_at_call 88; with_reducible refine Calls.mono (Gives.calls (AN.out _ (by repeat (first | exact Below.refl _ _ | (with_reducible assumption) | apply below_later | apply below_alloc | apply below_drew | apply below_drewN)))) ?_; rintro e w1 ⟨rfl, z, rfl⟩); obtain ⟨p0, p1, p2⟩ := HX.out z.val (by repeat (first | exact Below.refl _ _ | (with_reducible assumption) | apply below_later | apply below_alloc | apply below_drew | apply below_drewN))) | (go_at_call 53; with_reducible refine Calls.mono (Gives.calls (P1.out _)) ?_; rintro e w1 ⟨rfl, z2, rfl⟩) | (go_at_call 54; with_reducible refine Calls.mono (Gives.calls (D1.out _)) ?_; rintro e w1 ⟨rfl, z3, rfl⟩) | (go_at_call 54; with_reducible refine Calls.mono (Gives.calls (D2.out _)) ?_; rintro e w1 ⟨rfl, z4, rfl⟩))
    go_ret
    exact ⟨ret_int E1.out.symm, later_of (by repeat (first | exact Below.refl _ _ | (with_reducible assumption) | apply below_later | apply below_alloc | apply below_drew | apply below_drewN))⟩
  rcases r3 with _ | _
  · have E1 : Hid (res = 2) := HE.out
    go_enter Try.func74, Try.ntmps74
    go_wp2_with (first | ((go_at_call 88; with_reducible refine Calls.mono (Gives.calls (AN.out _ (by repeat (first | exact Below.refl _ _ | (with_reducible assumption) | apply below_later | apply below_alloc | apply below_drew | apply below_drewN)))) ?_; rintro e w1 ⟨rfl, z, rfl⟩); obtain ⟨p0, p1, p2⟩ := HX.out z.val (by repeat (first | exact Below.refl _ _ | (with_reducible assumption) | apply below_later | apply below_alloc | apply below_drew | apply below_drewN))) | (go_at_call 53; with_reducible refine Calls.mono (Gives.calls (P1.out _)) ?_; rintro e w1 ⟨rfl, z2, rfl⟩) | (go_at_call 54; with_reducible refine Calls.mono (Gives.calls (D1.out _)) ?_; rintro e w1 ⟨rfl, z3, rfl⟩) | (go_at_call 54; with_reducible refine Calls.mono (Gives.calls (D2.out _)) ?_; rintro e w1 ⟨rfl, z4, rfl⟩))
    go_ret
    exact ⟨ret_int E1.out.symm, later_of (by repeat (first | exact Below.refl _ _ | (with_reducible assumption) | apply below_later | apply below_alloc | apply below_drew | apply below_drewN))⟩
  by_cases h : f > t
  · have E1 : Hid (res = 2) := by show _ = _; rw [HE.out, decide_eq_false (by omega : ¬ f ≤ t)]; rfl
    go_enter Try.func74, Try.ntmps74
    go_wp2_with (first | ((go_at_call 88; with_reducible refine Calls.mono (Gives.calls (AN.out _ (by repeat (first | exact Below.refl _ _ | (with_reducible assumption) | apply below_later | apply below_alloc | apply below_drew | apply below_drewN)))) ?_; rintro e w1 ⟨rfl, z, rfl⟩); obtain ⟨p0, p1, p2⟩ := HX.out z.val (by repeat (first | exact Below.refl _ _ | (with_reducible assumption) | apply below_later | apply below_alloc | apply below_drew | apply below_drewN))) | (go_at_call 53; with_reducible refine Calls.mono (Gives.calls (P1.out _)) ?_; rintro e w1 ⟨rfl, z2, rfl⟩) | (go_at_call 54; with_reducible refine Calls.mono (Gives.calls (D1.out _)) ?_; rintro e w1 ⟨rfl, z3, rfl⟩) | (go_at_call 54; with_reducible refine Calls.mono (Gives.calls (D2.out _)) ?_; rintro e w1 ⟨rfl, z4, rfl⟩))
    go_ret
    exact ⟨ret_int E1.out.symm, later_of (by repeat (first | exact Below.refl _ _ | (with_reducible assumption) | apply below_later | apply below_alloc | apply below_drew | apply below_drewN))⟩
  · have E1 : Hid (res = 0) := by show _ = _; rw [HE.out, decide_eq_true (by omega : f ≤ t)]; rfl
    go_enter Try.func74, Try.ntmps74
    go_wp2_with (first | ((go_at_call 88; with_reducible refine Calls.mono (Gives.calls (AN.out _ (by repeat (first | exact Below.refl _ _ | (with_reducible assumption) | apply below_later | apply below_alloc | apply below_drew | apply below_drewN)))) ?_; rintro e w1 ⟨rfl, z, rfl⟩); obtain ⟨p0, p1, p2⟩ := HX.out z.val (by repeat (first | exact Below.refl _ _ | (with_reducible assumption) | apply below_later | apply below_alloc | apply below_drew | apply below_drewN))) | (go_at_call 53; with_reducible refine Calls.mono (Gives.calls (P1.out _)) ?_; rintro e w1 ⟨rfl, z2, rfl⟩) | (go_at_call 54; with_reducible refine Calls.mono (Gives.calls (D1.out _)) ?_; rintro e w1 ⟨rfl, z3, rfl⟩) | (go_at_call 54; with_reducible refine Calls.mono (Gives.calls (D2.out _)) ?_; rintro e w1 ⟨rfl, z4, rfl⟩))
    go_ret
    exact ⟨ret_int E1.out.symm, later_of (by repeat (first | exact Below.refl _ _ | (with_reducible assumption) | apply below_later | apply below_alloc | apply below_drew | apply below_drewN))⟩
set_option maxRecDepth 100000 in
theorem Closed_bad (A : Option Addr) (m cap : Nat) (X Y F T R : Nat → Int) (ax ay f t : Int) (w : World) (hp : m ≤ 50 → IsNsts w A m X Y F T R) (he : nestE (nestsB m X Y F T R) ax ay f f ≠ 0) :
    Gives Try.prog 39 #[.slice A m cap, .agg #[.int .i64 ax, .int .i64 ay], .int .i64 f] w (.tuple #[.bool false, .int .i64 (nestE (nestsB m X Y F T R) ax ay f f)]) := by
  have CN : Hid (∀ V, Below w.heap.size w V → Gives Try.prog 74 #[.slice A m cap, .agg #[.int .i64 ax, .int .i64 ay], .int .i64 f, .int .i64 f] V (.int .i64 (nestE (nestsB m X Y F T R) ax ay f f))) := fun V h => checkNests_any A m cap X Y F T R ax ay f f V fun h2 => (hp h2).below h
  obtain ⟨n0, n1, l0⟩ := box2 w (.int .i64 ax) (.int .i64 ay) 52
  have HX : Hid (∀ V, Below (w.alloc (.cells #[.int .i64 ax, .int .i64 ay] 52)).heap.size (w.alloc (.cells #[.int .i64 ax, .int .i64 ay] 52)) V → V.cell? ⟨w.heap.size, 0, none⟩ = some (.int .i64 ax) ∧ V.cell? ⟨w.heap.size, 1, none⟩ = some (.int .i64 ay) ∧ w.heap.size < V.heap.size) := fun V h =>
    ⟨(h.cell (p := ⟨w.heap.size, 0, none⟩) l0).trans n0, (h.cell (p := ⟨w.heap.size, 1, none⟩) l0).trans n1, Nat.lt_of_lt_of_le l0 h.size⟩
  generalize nestE (nestsB m X Y F T R) ax ay f f = E at *
  have hE : (E != 0) = true := by simpa using he
  clear hp he
  go_enter Try.func39, Try.ntmps39
  go_wp2_with (go_at_call 74; with_reducible refine Calls.mono (Gives.calls (CN.out _ (by repeat (first | exact Below.refl _ _ | (with_reducible assumption) | apply below_later | apply below_alloc | apply below_drew | apply below_drewN)))) ?_; rintro e w1 ⟨rfl, z, rfl⟩)
  go_ret2
  exact ⟨rfl, later_of (by repeat (first | exact Below.refl _ _ | (with_reducible assumption) | apply below_later | apply below_alloc | apply below_drew | apply below_drewN))⟩
set_option maxRecDepth 100000 in
theorem Days_bad (A : Option Addr) (m cap : Nat) (X Y F T R : Nat → Int) (ax ay f t : Int) (w : World) (hp : m ≤ 50 → IsNsts w A m X Y F T R) (he : nestE (nestsB m X Y F T R) ax ay f t ≠ 0) :
    Gives Try.prog 41 #[.slice A m cap, .agg #[.int .i64 ax, .int .i64 ay], .int .i64 f, .int .i64 t] w (.tuple #[.int .i64 0, .int .i64 (nestE (nestsB m X Y F T R) ax ay f t)]) := by
  have CN : Hid (∀ V, Below w.heap.size w V → Gives Try.prog 74 #[.slice A m cap, .agg #[.int .i64 ax, .int .i64 ay], .int .i64 f, .int .i64 t] V (.int .i64 (nestE (nestsB m X Y F T R) ax ay f t))) := fun V h => checkNests_any A m cap X Y F T R ax ay f t V fun h2 => (hp h2).below h
  obtain ⟨n0, n1, l0⟩ := box2 w (.int .i64 ax) (.int .i64 ay) 52
  have HX : Hid (∀ V, Below (w.alloc (.cells #[.int .i64 ax, .int .i64 ay] 52)).heap.size (w.alloc (.cells #[.int .i64 ax, .int .i64 ay] 52)) V → V.cell? ⟨w.heap.size, 0, none⟩ = some (.int .i64 ax) ∧ V.cell? ⟨w.heap.size, 1, none⟩ = some (.int .i64 ay) ∧ w.heap.size < V.heap.size) := fun V h =>
    ⟨(h.cell (p := ⟨w.heap.size, 0, none⟩) l0).trans n0, (h.cell (p := ⟨w.heap.size, 1, none⟩) l0).trans n1, Nat.lt_of_lt_of_le l0 h.size⟩
  generalize nestE (nestsB m X Y F T R) ax ay f t = E at *
  have hE : (E != 0) = true := by simpa using he
  clear hp he
  go_enter Try.func41, Try.ntmps41
  go_wp2_with (go_at_call 74; with_reducible refine Calls.mono (Gives.calls (CN.out _ (by repeat (first | exact Below.refl _ _ | (with_reducible assumption) | apply below_later | apply below_alloc | apply below_drew | apply below_drewN)))) ?_; rintro e w1 ⟨rfl, z, rfl⟩)
  go_ret2
  exact ⟨rfl, later_of (by repeat (first | exact Below.refl _ _ | (with_reducible assumption) | apply below_later | apply below_alloc | apply below_drew | apply below_drewN))⟩
set_option maxRecDepth 100000 in
theorem Opens_bad (A : Option Addr) (m cap : Nat) (X Y F T R : Nat → Int) (ax ay f t : Int) (w : World) (hp : m ≤ 50 → IsNsts w A m X Y F T R) (he : nestE (nestsB m X Y F T R) ax ay f f ≠ 0) :
    Gives Try.prog 43 #[.slice A m cap, .agg #[.int .i64 ax, .int .i64 ay], .int .i64 f] w (.tuple #[.int .i64 0, .int .i64 (nestE (nestsB m X Y F T R) ax ay f f)]) := by
  have CN : Hid (∀ V, Below w.heap.size w V → Gives Try.prog 74 #[.slice A m cap, .agg #[.int .i64 ax, .int .i64 ay], .int .i64 f, .int .i64 f] V (.int .i64 (nestE (nestsB m X Y F T R) ax ay f f))) := fun V h => checkNests_any A m cap X Y F T R ax ay f f V fun h2 => (hp h2).below h
  obtain ⟨n0, n1, l0⟩ := box2 w (.int .i64 ax) (.int .i64 ay) 52
  have HX : Hid (∀ V, Below (w.alloc (.cells #[.int .i64 ax, .int .i64 ay] 52)).heap.size (w.alloc (.cells #[.int .i64 ax, .int .i64 ay] 52)) V → V.cell? ⟨w.heap.size, 0, none⟩ = some (.int .i64 ax) ∧ V.cell? ⟨w.heap.size, 1, none⟩ = some (.int .i64 ay) ∧ w.heap.size < V.heap.size) := fun V h =>
    ⟨(h.cell (p := ⟨w.heap.size, 0, none⟩) l0).trans n0, (h.cell (p := ⟨w.heap.size, 1, none⟩) l0).trans n1, Nat.lt_of_lt_of_le l0 h.size⟩
  generalize nestE (nestsB m X Y F T R) ax ay f f = E at *
  have hE : (E != 0) = true := by simpa using he
  clear hp he
  go_enter Try.func43, Try.ntmps43
  go_wp2_with (go_at_call 74; with_reducible refine Calls.mono (Gives.calls (CN.out _ (by repeat (first | exact Below.refl _ _ | (with_reducible assumption) | apply below_later | apply below_alloc | apply below_drew | apply below_drewN)))) ?_; rintro e w1 ⟨rfl, z, rfl⟩)
  go_ret2
  exact ⟨rfl, later_of (by repeat (first | exact Below.refl _ _ | (with_reducible assumption) | apply below_later | apply below_alloc | apply below_drew | apply below_drewN))⟩
set_option maxRecDepth 100000 in
set_option maxHeartbeats 3200000 in
theorem Closed_ok (A : Option Addr) (m cap : Nat) (X Y F T R : Nat → Int) (ax ay f t : Int) (w : World) (hp : IsNsts w A m X Y F T R) (hn : nestsB m X Y F T R = true) (he : nestE true ax ay f f = 0) :
    Gives Try.prog 39 #[.slice A m cap, .agg #[.int .i64 ax, .int .i64 ay], .int .i64 f] w (.tuple #[.bool (shutN m X Y F T R ax ay f), .int .i64 0]) := by
  rw [← hn] at he
  have hpl : placeB ax ay = true := by
    unfold nestE at he
    rw [hn, if_neg (by simp)] at he
    split at he
    · rename_i h
      simp only [Bool.and_eq_true] at h
      exact h.1
    · cases he
  have hdy : (dayB f && (dayB f && decide (f ≤ f))) = true := by
    unfold nestE at he
    rw [hn, if_neg (by simp)] at he
    split at he
    · rename_i h
      rw [Bool.and_eq_true] at h
      exact h.2
    · cases he
  obtain ⟨f0, f1, t0, t1, ft⟩ := day_facts hdy
  have CN : Hid (∀ V, Below w.heap.size w V → Gives Try.prog 74 #[.slice A m cap, .agg #[.int .i64 ax, .int .i64 ay], .int .i64 f, .int .i64 f] V (.int .i64 0)) := fun V h => he ▸ checkNests_any A m cap X Y F T R ax ay f f V fun _ => hp.below h
  have CL : Hid (∀ V d, Below w.heap.size w V → Gives Try.prog 75 #[.slice A m cap, .agg #[.int .i64 ax, .int .i64 ay], .int .i64 d] V (.bool (shutN m X Y F T R ax ay d))) := fun V d h => closed_any A m cap X Y F T R ax ay d V hn hpl (hp.below h)
  have LAST : Hid (∀ d, shutN m X Y F T R ax ay d = true → d ≤ 10000) := fun d h => shut_last hn h
  obtain ⟨n0, n1, l0⟩ := box2 w (.int .i64 ax) (.int .i64 ay) 52
  have HX : Hid (∀ V, Below (w.alloc (.cells #[.int .i64 ax, .int .i64 ay] 52)).heap.size (w.alloc (.cells #[.int .i64 ax, .int .i64 ay] 52)) V → V.cell? ⟨w.heap.size, 0, none⟩ = some (.int .i64 ax) ∧ V.cell? ⟨w.heap.size, 1, none⟩ = some (.int .i64 ay) ∧ w.heap.size < V.heap.size) := fun V h =>
    ⟨(h.cell (p := ⟨w.heap.size, 0, none⟩) l0).trans n0, (h.cell (p := ⟨w.heap.size, 1, none⟩) l0).trans n1, Nat.lt_of_lt_of_le l0 h.size⟩
  generalize shutN m X Y F T R ax ay = p at *
  clear hp he hn hpl hdy
  go_enter Try.func39, Try.ntmps39
  go_wp2_with (first | ((go_at_call 74; with_reducible refine Calls.mono (Gives.calls (CN.out _ (by repeat (first | exact Below.refl _ _ | (with_reducible assumption) | apply below_later | apply below_alloc | apply below_drew | apply below_drewN)))) ?_; rintro e w1 ⟨rfl, z, rfl⟩); obtain ⟨p0, p1, p2⟩ := HX.out z.val (by repeat (first | exact Below.refl _ _ | (with_reducible assumption) | apply below_later | apply below_alloc | apply below_drew | apply below_drewN))) | (go_at_call 75; with_reducible refine Calls.mono (Gives.calls (CL.out _ _ (by repeat (first | exact Below.refl _ _ | (with_reducible assumption) | apply below_later | apply below_alloc | apply below_drew | apply below_drewN)))) ?_; rintro e w1 ⟨rfl, z2, rfl⟩))
  go_ret2
  exact ⟨rfl, later_of (by repeat (first | exact Below.refl _ _ | (with_reducible assumption) | apply below_later | apply below_alloc | apply below_drew | apply below_drewN))⟩
set_option maxRecDepth 100000 in
set_option maxHeartbeats 3200000 in
theorem Days_ok (A : Option Addr) (m cap : Nat) (X Y F T R : Nat → Int) (ax ay f t : Int) (w : World) (hp : IsNsts w A m X Y F T R) (hn : nestsB m X Y F T R = true) (he : nestE true ax ay f t = 0) :
    Gives Try.prog 41 #[.slice A m cap, .agg #[.int .i64 ax, .int .i64 ay], .int .i64 f, .int .i64 t] w (.tuple #[.int .i64 (daysC (shutN m X Y F T R ax ay) f ((t + 1 - f).toNat) : Nat), .int .i64 0]) := by
  rw [← hn] at he
  have hpl : placeB ax ay = true := by
    unfold nestE at he
    rw [hn, if_neg (by simp)] at he
    split at he
    · rename_i h
      simp only [Bool.and_eq_true] at h
      exact h.1
    · cases he
  have hdy : (dayB f && (dayB t && decide (f ≤ t))) = true := by
    unfold nestE at he
    rw [hn, if_neg (by simp)] at he
    split at he
    · rename_i h
      rw [Bool.and_eq_true] at h
      exact h.2
    · cases he
  obtain ⟨f0, f1, t0, t1, ft⟩ := day_facts hdy
  have CN : Hid (∀ V, Below w.heap.size w V → Gives Try.prog 74 #[.slice A m cap, .agg #[.int .i64 ax, .int .i64 ay], .int .i64 f, .int .i64 t] V (.int .i64 0)) := fun V h => he ▸ checkNests_any A m cap X Y F T R ax ay f t V fun _ => hp.below h
  have CL : Hid (∀ V d, Below w.heap.size w V → Gives Try.prog 75 #[.slice A m cap, .agg #[.int .i64 ax, .int .i64 ay], .int .i64 d] V (.bool (shutN m X Y F T R ax ay d))) := fun V d h => closed_any A m cap X Y F T R ax ay d V hn hpl (hp.below h)
  have LAST : Hid (∀ d, shutN m X Y F T R ax ay d = true → d ≤ 10000) := fun d h => shut_last hn h
  obtain ⟨n0, n1, l0⟩ := box2 w (.int .i64 ax) (.int .i64 ay) 52
  have HX : Hid (∀ V, Below (w.alloc (.cells #[.int .i64 ax, .int .i64 ay] 52)).heap.size (w.alloc (.cells #[.int .i64 ax, .int .i64 ay] 52)) V → V.cell? ⟨w.heap.size, 0, none⟩ = some (.int .i64 ax) ∧ V.cell? ⟨w.heap.size, 1, none⟩ = some (.int .i64 ay) ∧ w.heap.size < V.heap.size) := fun V h =>
    ⟨(h.cell (p := ⟨w.heap.size, 0, none⟩) l0).trans n0, (h.cell (p := ⟨w.heap.size, 1, none⟩) l0).trans n1, Nat.lt_of_lt_of_le l0 h.size⟩
  generalize shutN m X Y F T R ax ay = p at *
  clear hp he hn hpl hdy
  go_enter Try.func41, Try.ntmps41
  go_wp2_with (first | ((go_at_call 74; with_reducible refine Calls.mono (Gives.calls (CN.out _ (by repeat (first | exact Below.refl _ _ | (with_reducible assumption) | apply below_later | apply below_alloc | apply below_drew | apply below_drewN)))) ?_; rintro e w1 ⟨rfl, z, rfl⟩); obtain ⟨p0, p1, p2⟩ := HX.out z.val (by repeat (first | exact Below.refl _ _ | (with_reducible assumption) | apply below_later | apply below_alloc | apply below_drew | apply below_drewN))))
  have HBZ : Hid (Below w.heap.size w z.val) := by show Below _ _ _; repeat (first | exact Below.refl _ _ | (with_reducible assumption) | apply below_later | apply below_alloc | apply below_drew | apply below_drewN)
  generalize z.val = Z at *
  have DL := Lib.hid (daysC_le p f)
  have DS : Hid (∀ k, daysC p f (k + 1) = daysC p f k + if p (f + k) = true then 1 else 0) := fun _ => rfl
  have D0 : Hid (daysC p f 0 = 0) := rfl
  have HCC : ∃ C : Nat → Nat, Hid (∀ k, daysC p f k = C k) := ⟨_, fun _ => rfl⟩
  obtain ⟨C, HCC⟩ := HCC
  replace DL : Hid (∀ k, C k ≤ k) := fun k => HCC.out k ▸ DL.out k
  replace DS : Hid (∀ k, C (k + 1) = C k + if p (f + k) = true then 1 else 0) := fun k => by rw [← HCC.out, ← HCC.out]; exact DS.out k
  replace D0 : Hid (C 0 = 0) := by show _ = _; rw [← HCC.out]; exact D0.out
  go_loopw [11, 12] (fun u v wr => ∃ k : Nat, u = .int .i64 (C k : Nat) ∧ v = .int .i64 (f + k) ∧ f + k ≤ t + 1 ∧ Below Z.heap.size Z wr) (fun _ v _ => (t + 1 - intOf v).toNat)
  case atStart => exact ⟨0, by rw [D0.out]; rfl, by simp, by simp; omega, Below.refl _ _⟩
  case round =>
    obtain ⟨k, rfl, rfl, hk, hbl⟩ := hrel
    have HBL := Lib.hid hbl
    have q0 := (hbl.cell (p := ⟨w.heap.size, 0, none⟩) p2).trans p0
    have q1 := (hbl.cell (p := ⟨w.heap.size, 1, none⟩) p2).trans p1
    have q2 := Nat.lt_of_lt_of_le p2 hbl.size
    clear hbl
    have ck := DL.out k
    have hkt : (k : Int) ≤ 10002 := by omega
    obtain ⟨d, hd⟩ : ∃ d, f + (k : Int) = d := ⟨_, rfl⟩
    have HD := Lib.hid hd
    rw [hd] at hk ⊢
    have hd0 : 0 ≤ d := by omega
    have hd1 : d ≤ 10001 := by omega
    clear hd
    by_cases hlt : d ≤ t
    · have CL1 := Lib.hid fun V h => CL.out V d h
      cases hpd : p d
      case false =>
        rw [hpd] at CL1
        have HS : Hid (C (k + 1) = C k) := by show _ = _; rw [DS.out, HD.out, hpd]; rfl
        clear hpd
        generalize wr = U at *
        go_wp2_with (go_at_call 75; with_reducible refine Calls.mono (Gives.calls (CL1.out _ (below_more HBZ.out (below_more HBL.out (by repeat (first | exact Below.refl _ _ | (with_reducible assumption) | apply below_later | apply below_alloc | apply below_drew | apply below_drewN)))))) ?_; rintro e w1 ⟨rfl, y, rfl⟩)
        go_roundw
        case rel => exact ⟨k + 1, by rw [HS.out], by have := HD.out; congr 1; omega, by have := HD.out; omega, below_more HBL.out y.ok⟩
        case measure => simp [intOf]; omega
      case true =>
        rw [hpd] at CL1
        have HS : Hid (C (k + 1) = C k + 1) := by show _ = _; rw [DS.out, HD.out, hpd]; rfl
        clear hpd
        generalize wr = U at *
        go_wp2_with (go_at_call 75; with_reducible refine Calls.mono (Gives.calls (CL1.out _ (below_more HBZ.out (below_more HBL.out (by repeat (first | exact Below.refl _ _ | (with_reducible assumption) | apply below_later | apply below_alloc | apply below_drew | apply below_drewN)))))) ?_; rintro e w1 ⟨rfl, y, rfl⟩)
        go_roundw
        case rel => exact ⟨k + 1, by rw [HS.out]; go_num, by have := HD.out; congr 1; omega, by have := HD.out; omega, below_more HBL.out y.ok⟩
        case measure => simp [intOf]; omega
    · have HK : Hid ((t + 1 - f).toNat = k) := by have := HD.out; show _ = _; omega
      go_wp2_with fail
      go_ret2
      exact ⟨by rw [HK.out, HCC.out]; rfl, ⟨_, below_more HBZ.out HBL.out⟩, rfl⟩
set_option maxRecDepth 100000 in
set_option maxHeartbeats 3200000 in
theorem Opens_ok (A : Option Addr) (m cap : Nat) (X Y F T R : Nat → Int) (ax ay f t : Int) (w : World) (hp : IsNsts w A m X Y F T R) (hn : nestsB m X Y F T R = true) (he : nestE true ax ay f f = 0) :
    Gives Try.prog 43 #[.slice A m cap, .agg #[.int .i64 ax, .int .i64 ay], .int .i64 f] w (.tuple #[.int .i64 (firstO (shutN m X Y F T R ax ay) ((10001 - f).toNat) f), .int .i64 0]) := by
  rw [← hn] at he
  have hpl : placeB ax ay = true := by
    unfold nestE at he
    rw [hn, if_neg (by simp)] at he
    split at he
    · rename_i h
      simp only [Bool.and_eq_true] at h
      exact h.1
    · cases he
  have hdy : (dayB f && (dayB f && decide (f ≤ f))) = true := by
    unfold nestE at he
    rw [hn, if_neg (by simp)] at he
    split at he
    · rename_i h
      rw [Bool.and_eq_true] at h
      exact h.2
    · cases he
  obtain ⟨f0, f1, t0, t1, ft⟩ := day_facts hdy
  have CN : Hid (∀ V, Below w.heap.size w V → Gives Try.prog 74 #[.slice A m cap, .agg #[.int .i64 ax, .int .i64 ay], .int .i64 f, .int .i64 f] V (.int .i64 0)) := fun V h => he ▸ checkNests_any A m cap X Y F T R ax ay f f V fun _ => hp.below h
  have CL : Hid (∀ V d, Below w.heap.size w V → Gives Try.prog 75 #[.slice A m cap, .agg #[.int .i64 ax, .int .i64 ay], .int .i64 d] V (.bool (shutN m X Y F T R ax ay d))) := fun V d h => closed_any A m cap X Y F T R ax ay d V hn hpl (hp.below h)
  have LAST : Hid (∀ d, shutN m X Y F T R ax ay d = true → d ≤ 10000) := fun d h => shut_last hn h
  obtain ⟨n0, n1, l0⟩ := box2 w (.int .i64 ax) (.int .i64 ay) 52
  have HX : Hid (∀ V, Below (w.alloc (.cells #[.int .i64 ax, .int .i64 ay] 52)).heap.size (w.alloc (.cells #[.int .i64 ax, .int .i64 ay] 52)) V → V.cell? ⟨w.heap.size, 0, none⟩ = some (.int .i64 ax) ∧ V.cell? ⟨w.heap.size, 1, none⟩ = some (.int .i64 ay) ∧ w.heap.size < V.heap.size) := fun V h =>
    ⟨(h.cell (p := ⟨w.heap.size, 0, none⟩) l0).trans n0, (h.cell (p := ⟨w.heap.size, 1, none⟩) l0).trans n1, Nat.lt_of_lt_of_le l0 h.size⟩
  generalize shutN m X Y F T R ax ay = p at *
  clear hp he hn hpl hdy
  go_enter Try.func43, Try.ntmps43
  go_wp2_with (first | ((go_at_call 74; with_reducible refine Calls.mono (Gives.calls (CN.out _ (by repeat (first | exact Below.refl _ _ | (with_reducible assumption) | apply below_later | apply below_alloc | apply below_drew | apply below_drewN)))) ?_; rintro e w1 ⟨rfl, z, rfl⟩); obtain ⟨p0, p1, p2⟩ := HX.out z.val (by repeat (first | exact Below.refl _ _ | (with_reducible assumption) | apply below_later | apply below_alloc | apply below_drew | apply below_drewN))))
  have HBZ : Hid (Below w.heap.size w z.val) := by show Below _ _ _; repeat (first | exact Below.refl _ _ | (with_reducible assumption) | apply below_later | apply below_alloc | apply below_drew | apply below_drewN)
  generalize z.val = Z at *
  have FS : Hid (∀ k d, firstO p (k + 1) d = if p d = true then firstO p k (d + 1) else d) := fun _ _ => rfl
  have F0 : Hid (∀ d, firstO p 0 d = d) := fun _ => rfl
  obtain ⟨FO, HFF⟩ : ∃ FO : Nat → Int → Int, Hid (∀ k d, firstO p k d = FO k d) := ⟨_, fun _ _ => rfl⟩
  replace FS : Hid (∀ k d, FO (k + 1) d = if p d = true then FO k (d + 1) else d) := fun k d => by rw [← HFF.out, ← HFF.out]; exact FS.out k d
  replace F0 : Hid (∀ d, FO 0 d = d) := fun d => by rw [← HFF.out]; exact F0.out d
  obtain ⟨res, hres⟩ : ∃ res, FO (10001 - f).toNat f = res := ⟨_, rfl⟩
  have HRES := Lib.hid hres
  clear hres
  go_loopw [2] (fun v wr => ∃ (k : Nat) (d : Int), v = .int .i64 d ∧ d + k = 10001 ∧ 0 ≤ d ∧ FO k d = res ∧ Below Z.heap.size Z wr) (fun v _ => (10001 - intOf v).toNat)
  case atStart => exact ⟨(10001 - f).toNat, f, rfl, by omega, f0, HRES.out, Below.refl _ _⟩
  case round =>
    obtain ⟨k, d, rfl, hk, hd0, hfo, hbl⟩ := hrel
    have HBL := Lib.hid hbl
    have HFO := Lib.hid hfo
    have q0 := (hbl.cell (p := ⟨w.heap.size, 0, none⟩) p2).trans p0
    have q1 := (hbl.cell (p := ⟨w.heap.size, 1, none⟩) p2).trans p1
    have q2 := Nat.lt_of_lt_of_le p2 hbl.size
    clear hbl hfo
    have CL1 := Lib.hid fun V h => CL.out V d h
    cases hpd : p d
    case false =>
      rw [hpd] at CL1
      have HS : Hid (d = res) := by
        show _ = _
        rw [← HFO.out]
        cases k with
        | zero => exact (F0.out d).symm
        | succ k => rw [FS.out, hpd]; rfl
      clear hpd
      generalize wr = U at *
      go_wp2_with (go_at_call 75; with_reducible refine Calls.mono (Gives.calls (CL1.out _ (below_more HBZ.out (below_more HBL.out (by repeat (first | exact Below.refl _ _ | (with_reducible assumption) | apply below_later | apply below_alloc | apply below_drew | apply below_drewN)))))) ?_; rintro e w1 ⟨rfl, y, rfl⟩)
      go_ret2
      exact ⟨by rw [HFF.out, HRES.out, HS.out]; rfl, ⟨_, below_more HBZ.out (below_more HBL.out y.ok)⟩, rfl⟩
    case true =>
      rw [hpd] at CL1
      have hdl := LAST.out d hpd
      obtain ⟨k', hk'⟩ : ∃ k', k = k' + 1 := ⟨k - 1, by omega⟩
      have HS : Hid (FO k' (d + 1) = res) := by
        show _ = _
        rw [← HFO.out, hk', FS.out, hpd]
        rfl
      clear hpd
      generalize wr = U at *
      go_wp2_with (go_at_call 75; with_reducible refine Calls.mono (Gives.calls (CL1.out _ (below_more HBZ.out (below_more HBL.out (by repeat (first | exact Below.refl _ _ | (with_reducible assumption) | apply below_later | apply below_alloc | apply below_drew | apply below_drewN)))))) ?_; rintro e w1 ⟨rfl, y, rfl⟩)
      go_roundw
      case rel => exact ⟨k', d + 1, by go_num, by omega, by omega, HS.out, below_more HBL.out y.ok⟩
      case measure => simp [intOf]; omega
end Go.Proofs.Ytbflpidjcflndaa
