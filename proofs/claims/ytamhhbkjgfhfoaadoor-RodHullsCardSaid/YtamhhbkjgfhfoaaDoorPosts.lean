/- Contracts of the functions of package rod that go over posts. -/
import Derived.Test.YtamhhbkjgfhfoaaDoorNum
namespace Go.Proofs.YtamhhbkjgfhfoaaDoor
open Go.RowKit

/-- n posts from cell off of block b on. -/
structure Posts (w : World) (b off n : Nat) (px py : Nat → Int) : Prop where
  lt : b < w.heap.size
  x : ∀ i, i < n → w.cell? ⟨b, off + i * 2, none⟩ = some (.int .i64 (px i))
  y : ∀ i, i < n → w.cell? ⟨b, off + i * 2 + 1, none⟩ = some (.int .i64 (py i))
theorem Posts.later {w : World} {b off n : Nat} {px py : Nat → Int} (h : Posts w b off n px py) (x : Later w) : Posts x.val b off n px py :=
  ⟨Nat.lt_of_lt_of_le h.lt x.size, fun i hi => (x.cell _ _ h.lt).trans (h.x i hi), fun i hi => (x.cell _ _ h.lt).trans (h.y i hi)⟩

/-- All of the first n. -/
def allB (n : Nat) (p : Nat → Bool) : Bool := (List.range n).all p
theorem allB_true {n : Nat} {p : Nat → Bool} (h : ∀ i, i < n → p i = true) : allB n p = true := by
  unfold allB; rw [List.all_eq_true]; intro x hx; exact h x (List.mem_range.1 hx)
theorem allB_false {n k : Nat} {p : Nat → Bool} (hk : k < n) (h : p k = false) : allB n p = false := by
  unfold allB; rw [List.all_eq_false]; exact ⟨k, List.mem_range.2 hk, by rw [h]; decide⟩
theorem allB_iff {n : Nat} {p : Nat → Bool} : allB n p = true ↔ ∀ i, i < n → p i = true := by
  unfold allB; rw [List.all_eq_true]; exact ⟨fun h i hi => h i (List.mem_range.2 hi), fun h x hx => h x (List.mem_range.1 hx)⟩

def rangedB (n : Nat) (px py : Nat → Int) : Bool := allB n fun i => inR (px i) && inR (py i)

/-- The corner behind k of n, round about. -/
def nx (n k : Nat) : Nat := (k + 1) % n
theorem nx_lt {n : Nat} (k : Nat) (h : 0 < n) : nx n k < n := Nat.mod_lt _ h
theorem nx_eq (n k : Nat) : ((k : Int) + 1) % (n : Int) = ((nx n k : Nat) : Int) := by
  unfold nx
  rw [Int.natCast_emod]
  rfl
/-- The corner before k of n, round about. -/
def pv (n k : Nat) : Nat := (k + n - 1) % n
theorem pv_lt {n : Nat} (k : Nat) (h : 0 < n) : pv n k < n := Nat.mod_lt _ h
theorem pv_eq (n k : Nat) (h : 0 < n) : ((k : Int) + (n : Int) - 1) % (n : Int) = ((pv n k : Nat) : Int) := by
  unfold pv
  have e : ((k : Int) + (n : Int) - 1) = ((k + n - 1 : Nat) : Int) := by omega
  rw [e, Int.natCast_emod]

def sumN : Nat → (Nat → Int) → Int
  | 0, _ => 0
  | n + 1, f => sumN n f + f n
theorem sumN_bd (m : Int) (f : Nat → Int) (n : Nat) (h : ∀ i, i < n → -m ≤ f i ∧ f i ≤ m) (hm : 0 ≤ m) (B : Int) (hB : (n : Int) * m ≤ B) : -B ≤ sumN n f ∧ sumN n f ≤ B := by
  have key : ∀ k, k ≤ n → -((k : Int) * m) ≤ sumN k f ∧ sumN k f ≤ (k : Int) * m := by
    intro k
    induction k with
    | zero => intro _; simp [sumN]
    | succ k ih =>
      intro hk
      have h1 := ih (by omega)
      have h2 := h k (by omega)
      have e : ((k + 1 : Nat) : Int) * m = (k : Int) * m + m := by rw [show ((k + 1 : Nat) : Int) = (k : Int) + 1 by omega, Int.add_mul, Int.one_mul]
      rw [e]
      simp only [sumN]
      omega
  have := key n (Nat.le_refl _)
  omega
theorem sumN_congr {f g : Nat → Int} (n : Nat) (h : ∀ i, i < n → f i = g i) : sumN n f = sumN n g := by
  induction n with
  | zero => rfl
  | succ n ih => simp only [sumN]; rw [ih fun i hi => h i (by omega), h n (by omega)]

set_option maxHeartbeats 800000 in
theorem allInRange_any (b off n cap : Nat) (px py : Nat → Int) (w : World) (hn : n ≤ 1000) (hp : Posts w b off n px py) :
    Gives Tryd.prog 15 #[.slice (some ⟨b, off, none⟩) n cap] w (.bool (rangedB n px py)) := by
  have hl := hp.lt
  go_enter Tryd.func15, Tryd.ntmps15
  go_wp2
  go_loopw [7] (fun v wr => ∃ k : Nat, k ≤ n ∧ v = .int .i64 k ∧ (∀ j, j < k → (inR (px j) && inR (py j)) = true) ∧ ∃ x : Later w, wr = x.val) (fun v _ => n - (intOf v).toNat)
  case atStart => exact ⟨0, by omega, rfl, by omega, later_of (by repeat (first | exact Below.refl _ _ | (with_reducible assumption) | apply below_later | apply below_alloc | apply below_drew | apply below_drewN))⟩
  case round =>
    obtain ⟨k, hk, rfl, hj, x, rfl⟩ := hrel
    have Hj := Lib.hid hj
    clear hj
    by_cases hlt : k < n
    · have c1 := hp.x k hlt
      have c2 := hp.y k hlt
      have hs := x.size
      cases hg : (inR (px k) && inR (py k))
      · have Hg := Lib.hid hg
        go_wp2_with (first | (go_at_call 29; (first | (with_reducible show Calls _ _ _ (Later.val _) _; with_reducible refine Calls.mono (Later.call _ (inRange_any _ _ _)) ?_) | (with_reducible refine Calls.mono (Gives.calls (inRange_any _ _ _)) ?_)); rintro e w1 ⟨rfl, y, rfl⟩))
        go_ret
        exact ⟨ret_bool (by symm; exact allB_false hlt Hg.out), later_of (by repeat (first | exact Below.refl _ _ | (with_reducible assumption) | apply below_later | apply below_alloc | apply below_drew | apply below_drewN))⟩
      · have Hg := Lib.hid hg
        go_wp2_with (first | (go_at_call 29; (first | (with_reducible show Calls _ _ _ (Later.val _) _; with_reducible refine Calls.mono (Later.call _ (inRange_any _ _ _)) ?_) | (with_reducible refine Calls.mono (Gives.calls (inRange_any _ _ _)) ?_)); rintro e w1 ⟨rfl, y, rfl⟩))
        go_roundw
        case rel =>
          refine ⟨k + 1, by omega, by go_num, fun j hj => ?_, later_of (by repeat (first | exact Below.refl _ _ | (with_reducible assumption) | apply below_later | apply below_alloc | apply below_drew | apply below_drewN))⟩
          rcases Nat.lt_or_ge j k with h | h
          · exact Hj.out j h
          · obtain rfl : j = k := by omega
            exact Hg.out
        case measure => simp [intOf]; omega
    · go_wp2
      go_ret
      exact ⟨ret_bool (by symm; exact allB_true fun i hi => Hj.out i (by omega)), later_of (by repeat (first | exact Below.refl _ _ | (with_reducible assumption) | apply below_later | apply below_alloc | apply below_drew | apply below_drewN))⟩

def areaI (n : Nat) (px py : Nat → Int) : Int := sumN n fun k => crossI 0 0 (px k) (py k) (px (nx n k)) (py (nx n k))
theorem zero_inRange : InRange 0 0 := by unfold InRange; omega

set_option maxRecDepth 100000 in
set_option maxHeartbeats 800000 in
theorem signedArea_any (b off n cap : Nat) (px py : Nat → Int) (w : World) (h0 : 0 < n) (hn : n ≤ 40) (hp : Posts w b off n px py) (hr : ∀ i, i < n → InRange (px i) (py i)) :
    Gives Tryd.prog 28 #[.slice (some ⟨b, off, none⟩) n cap] w (.int .i64 (areaI n px py)) := by
  have hl := hp.lt
  have Hr := Lib.hid hr
  have Z := zero_inRange
  have hbd : ∀ k, k ≤ n → -400000000 ≤ sumN k (fun k => crossI 0 0 (px k) (py k) (px (nx n k)) (py (nx n k))) ∧ sumN k (fun k => crossI 0 0 (px k) (py k) (px (nx n k)) (py (nx n k))) ≤ 400000000 := fun k hk =>
    sumN_bd 8000000 _ k (fun i hi => crossI_bd Z (hr i (by omega)) (hr _ (nx_lt _ h0))) (by omega) _ (by omega)
  have Hb := Lib.hid hbd
  clear hr hbd
  go_enter Tryd.func28, Tryd.ntmps28
  go_wp2
  go_loopw [3, 7] (fun s v wr => ∃ k : Nat, k ≤ n ∧ v = .int .i64 k ∧ s = .int .i64 (sumN k fun k => crossI 0 0 (px k) (py k) (px (nx n k)) (py (nx n k))) ∧ ∃ x : Later w, wr = x.val) (fun _ v _ => n - (intOf v).toNat)
  case atStart => exact ⟨0, by omega, rfl, rfl, later_of (by repeat (first | exact Below.refl _ _ | (with_reducible assumption) | apply below_later | apply below_alloc | apply below_drew | apply below_drewN))⟩
  case round =>
    obtain ⟨k, hk, rfl, rfl, x, rfl⟩ := hrel
    by_cases hlt : k < n
    · have c1 := hp.x k hlt
      have c2 := hp.y k hlt
      have c3 := hp.x (nx n k) (nx_lt _ h0)
      have c4 := hp.y (nx n k) (nx_lt _ h0)
      have hnx := nx_lt (n := n) k h0
      have e1 := nx_eq n k
      have r1 := Hr.out k hlt
      have r2 := Hr.out _ (nx_lt (n := n) k h0)
      have hb1 := Hb.out k hk
      have hb2 := Hb.out (k + 1) hlt
      simp only [sumN] at hb2
      obtain ⟨q1, q2⟩ := hb1
      obtain ⟨q3, q4⟩ := hb2
      generalize hS : sumN k (fun k => crossI 0 0 (px k) (py k) (px (nx n k)) (py (nx n k))) = S at *
      have HS := Lib.hid hS
      clear hS
      go_wp2_with fail
      first | (with_reducible show Code.wp _ _ _ _ (Later.val _); refine wp_region_later_at _ (by kernel_rfl) (by kernel_rfl) ?_) | refine wp_region_later (by kernel_rfl) (by kernel_rfl) ?_
      repeat (go_big_quiet_step ((first | (go_at_call 39; (with_reducible refine Later.call _ (cross_any _ _ _ _ _ _ _ (by assumption) (by assumption) (by assumption)))))))
      refine wpQuiet_nil ?_
      intro y
      go_wp2
      go_roundw
      case rel => exact ⟨k + 1, by omega, by go_num, by simp only [sumN]; rw [HS.out], later_of (by repeat (first | exact Below.refl _ _ | (with_reducible assumption) | apply below_later | apply below_alloc | apply below_drew | apply below_drewN))⟩
      case measure => simp [intOf]; omega
    · obtain rfl : k = n := by omega
      go_wp2
      go_ret
      exact ⟨rfl, later_of (by repeat (first | exact Below.refl _ _ | (with_reducible assumption) | apply below_later | apply below_alloc | apply below_drew | apply below_drewN))⟩
end Go.Proofs.YtamhhbkjgfhfoaaDoor
