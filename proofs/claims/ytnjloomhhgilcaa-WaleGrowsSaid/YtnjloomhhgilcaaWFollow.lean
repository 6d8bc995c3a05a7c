/- wale's follow, worth and isChange. -/
import Derived.Test.YtnjloomhhgilcaaWale
namespace Go.Proofs.Ytnjloomhhgilcaa
open Go.RowKit

theorem inS_true {m : Nat} {x : Int} (h : inS m x = true) : ∃ i : Nat, x = i ∧ i < m := by
  simp only [inS, decide_eq_true_eq] at h
  exact ⟨x.toNat, by omega, by omega⟩
theorem inS_nat {m i : Nat} (h : i < m) : inS m (i : Int) = true := by simp [inS, h]
theorem box2 (w : World) (a b : Value) (t : TypeId) : (w.alloc (.cells #[a, b] t)).cell? ⟨w.heap.size, 0, none⟩ = some a ∧ (w.alloc (.cells #[a, b] t)).cell? ⟨w.heap.size, 1, none⟩ = some b ∧ w.heap.size < (w.alloc (.cells #[a, b] t)).heap.size :=
  ⟨cell_of_heap (World.alloc_heap_new _ _) 0 _ rfl, cell_of_heap (World.alloc_heap_new _ _) 1 _ rfl, by simp⟩

theorem box3 (w : World) (a b c : Value) (t : TypeId) : (w.alloc (.cells #[a, b, c] t)).cell? ⟨w.heap.size, 0, none⟩ = some a ∧ (w.alloc (.cells #[a, b, c] t)).cell? ⟨w.heap.size, 1, none⟩ = some b ∧ (w.alloc (.cells #[a, b, c] t)).cell? ⟨w.heap.size, 2, none⟩ = some c ∧ w.heap.size < (w.alloc (.cells #[a, b, c] t)).heap.size :=
  ⟨cell_of_heap (World.alloc_heap_new _ _) 0 _ rfl, cell_of_heap (World.alloc_heap_new _ _) 1 _ rfl, cell_of_heap (World.alloc_heap_new _ _) 2 _ rfl, by simp⟩
theorem isChange_any (n m cap : Nat) (x : Int) (A : Option Addr) (w : World) : Gives Try.prog 62 #[.agg #[.int .i64 n, .slice A m cap], .int .i64 x] w (.bool (inS m x)) := by
  have HR : Hid (inS m x = (decide (0 ≤ x) && decide (x < (m : Int)))) := by
    show inS m x = _
    unfold inS
    simp
  generalize inS m x = r at *
  by_cases h1 : 0 ≤ x <;> by_cases h2 : x < (m : Int)
  all_goals
    go_enter Try.func62, Try.ntmps62
    go_wp2
    go_ret
    exact ⟨ret_bool (by rw [HR.out]; simp [h1, h2]), later_of (by repeat (first | exact Below.refl _ _ | (with_reducible assumption) | apply below_later | apply below_alloc | apply below_drew | apply below_drewN))⟩

/-- Where the first k of a list of changes lead. -/
def fol (m : Nat) (f t : Nat → Nat) (c : Nat → Int) (start : Nat) : Nat → Option Nat
  | 0 => some start
  | k + 1 => match fol m f t c start k with
    | none => none
    | some a => if inS m (c k) = true ∧ f (c k).toNat = a then some (t (c k).toNat) else none
def folV : Option Nat → Value
  | some a => .tuple #[.int .i64 (a : Nat), .bool true]
  | none => .tuple #[.int .i64 0, .bool false]
theorem fol_none {m : Nat} {f t : Nat → Nat} {c : Nat → Int} {start j : Nat} (h : fol m f t c start j = none) : ∀ k, j ≤ k → fol m f t c start k = none := by
  intro k
  induction k with
  | zero => intro hk; obtain rfl : j = 0 := by omega
            exact h
  | succ k ih =>
    intro hk
    by_cases e : j = k + 1
    · subst e; exact h
    · rw [fol, ih (by omega)]

set_option maxRecDepth 100000 in
set_option maxHeartbeats 1600000 in
theorem follow_any (n m cap k capB start : Nat) (A B : Option Addr) (f t : Nat → Nat) (V : Nat → Int) (c : Nat → Int) (w : World) (hm : m ≤ 1000) (hk : k ≤ 2000) (hp : IsChs w A m (fun i => (f i : Int)) (fun i => (t i : Int)) V) (hc : IsInts w B k c) :
    Gives Try.prog 45 #[.agg #[.int .i64 n, .slice A m cap], .int .i64 start, .slice B k capB] w (folV (fol m f t c start k)) := by
  have hb : Below w.heap.size w (w.alloc (.cells #[.int .i64 n, .slice A m cap] 75)) := (Below.refl _ _).alloc (Nat.le_refl _) _
  have HP : Hid (IsChs (w.alloc (.cells #[.int .i64 n, .slice A m cap] 75)) A m (fun i => (f i : Int)) (fun i => (t i : Int)) V) := hp.later ⟨_, hb⟩
  have HC : Hid (IsInts (w.alloc (.cells #[.int .i64 n, .slice A m cap] 75)) B k c) := hc.later ⟨_, hb⟩
  have HB := Lib.hid hb
  obtain ⟨c0, c1, l0⟩ := box2 w (.int .i64 n) (.slice A m cap) 75
  have IC : Hid (∀ (x : Int) (w : World), Gives Try.prog 62 #[.agg #[.int .i64 n, .slice A m cap], .int .i64 x] w (.bool (inS m x))) := fun x w => isChange_any n m cap x A w
  clear hp hc hb
  go_enter Try.func45, Try.ntmps45
  go_wp2
  obtain ⟨b8, hb8⟩ : ∃ b8, w.heap.size = b8 := ⟨_, rfl⟩
  rw [hb8] at c0 c1 l0 ⊢
  clear hb8
  generalize w.alloc (.cells #[.int .i64 n, .slice A m cap] 75) = Z at *
  go_loopw [8, 14] (fun u v wr => ∃ j a : Nat, u = .int .i64 (a : Nat) ∧ v = .int .i64 (j : Nat) ∧ j ≤ k ∧ fol m f t c start j = some a ∧ ∃ x : Later Z, wr = x.val) (fun _ v _ => k - (intOf v).toNat)
  case atStart => exact ⟨0, start, rfl, rfl, by omega, rfl, later_of (by repeat (first | exact Below.refl _ _ | (with_reducible assumption) | apply below_later | apply below_alloc | apply below_drew | apply below_drewN))⟩
  case round =>
    obtain ⟨j, a, rfl, rfl, hj, hf, x, rfl⟩ := hrel
    have HF := Lib.hid hf
    clear hf
    by_cases hlt : j < k
    · obtain ⟨bb, oo, hB, q⟩ := (HC.out.later x).at_ (by omega)
      subst hB
      have cj := q.at_ j hlt
      have lq := q.lt
      have d0 := (x.cell _ _ l0).trans c0
      have d1 := (x.cell _ _ l0).trans c1
      have l1 := x.lt _ l0
      clear q
      cases hi : inS m (c j)
      · have I1 := IC.out (c j)
        rw [hi] at I1
        have I2 := Lib.hid I1
        have HN : Hid (fol m f t c start (j + 1) = none) := by show _ = _; rw [fol, HF.out, hi]; simp
        clear I1 hi
        go_wp2_with (go_at_call 62; with_reducible refine Calls.mono (Gives.calls (I2.out _)) ?_; rintro e w1 ⟨rfl, z, rfl⟩)
        go_ret2
        exact ⟨by rw [fol_none HN.out k (by omega)]; rfl, later_of (by have := HB.out; repeat (first | exact this | exact Below.refl _ _ | apply below_later | apply below_alloc | apply below_drew | apply below_drewN))⟩
      · obtain ⟨i, hci, him⟩ := inS_true hi
        have I1 := IC.out (c j)
        rw [hi, hci] at I1
        have I2 := Lib.hid I1
        obtain ⟨ba, oa, hA, p⟩ := (HP.out.later x).at_ (by omega)
        subst hA
        have cf := p.f i him
        have ct := p.t i him
        have lp := p.lt
        rw [hci] at cj
        by_cases e : f i = a
        · have HN : Hid (fol m f t c start (j + 1) = some (t i)) := by show _ = _; rw [fol, HF.out, hci, Int.toNat_natCast]; simp [inS_nat him, e]
          have e1 : ((f i : Int) != (a : Int)) = false := by simp [e]
          clear p I1 hi hci e
          go_wp2_with (go_at_call 62; with_reducible refine Calls.mono (Gives.calls (I2.out _)) ?_; rintro e w1 ⟨rfl, z, rfl⟩)
          go_roundw
          case rel => exact ⟨j + 1, t i, rfl, by go_num, by omega, HN.out, later_of (by repeat (first | exact Below.refl _ _ | (with_reducible assumption) | apply below_later | apply below_alloc | apply below_drew | apply below_drewN))⟩
          case measure => simp [intOf]; omega
        · have HN : Hid (fol m f t c start (j + 1) = none) := by show _ = _; rw [fol, HF.out, hci, Int.toNat_natCast]; simp [inS_nat him, e]
          have e1 : ((f i : Int) != (a : Int)) = true := by simp; omega
          clear p I1 hi hci e
          go_wp2_with (go_at_call 62; with_reducible refine Calls.mono (Gives.calls (I2.out _)) ?_; rintro e w1 ⟨rfl, z, rfl⟩)
          go_ret2
          exact ⟨by rw [fol_none HN.out k (by omega)]; rfl, later_of (by have := HB.out; repeat (first | exact this | exact Below.refl _ _ | apply below_later | apply below_alloc | apply below_drew | apply below_drewN))⟩
    · obtain rfl : j = k := by omega
      go_wp2
      go_ret2
      exact ⟨by rw [HF.out]; rfl, later_of (by have := HB.out; repeat (first | exact this | exact Below.refl _ _ | apply below_later | apply below_alloc | apply below_drew | apply below_drewN))⟩

theorem wor_bd {V : Nat → Int} {c : Nat → Nat} {m : Nat} (hv : ∀ i, i < m → -1000 ≤ V i ∧ V i ≤ 1000) : ∀ k : Nat, (∀ i, i < k → c i < m) → -(1000 * (k : Int)) ≤ wor V c k ∧ wor V c k ≤ 1000 * (k : Int) := by
  intro k
  induction k with
  | zero => intro _; simp [wor]
  | succ k ih =>
    intro h
    have h1 := ih fun i hi => h i (by omega)
    have h2 := hv _ (h k (by omega))
    unfold wor
    omega
set_option maxRecDepth 100000 in
set_option maxHeartbeats 1600000 in
theorem worth_any (n m cap k capB : Nat) (A B : Option Addr) (f t : Nat → Nat) (V : Nat → Int) (c : Nat → Nat) (w : World) (hm : m ≤ 1000) (hk : k ≤ 2000) (hv : ∀ i, i < m → -1000 ≤ V i ∧ V i ≤ 1000) (hp : IsChs w A m (fun i => (f i : Int)) (fun i => (t i : Int)) V) (hc : IsInts w B k fun i => (c i : Int)) (hcm : ∀ i, i < k → c i < m) :
    Gives Try.prog 46 #[.agg #[.int .i64 n, .slice A m cap], .slice B k capB] w (.int .i64 (wor V c k)) := by
  have hb : Below w.heap.size w (w.alloc (.cells #[.int .i64 n, .slice A m cap] 75)) := (Below.refl _ _).alloc (Nat.le_refl _) _
  have HP : Hid (IsChs (w.alloc (.cells #[.int .i64 n, .slice A m cap] 75)) A m (fun i => (f i : Int)) (fun i => (t i : Int)) V) := hp.later ⟨_, hb⟩
  have HC : Hid (IsInts (w.alloc (.cells #[.int .i64 n, .slice A m cap] 75)) B k fun i => (c i : Int)) := hc.later ⟨_, hb⟩
  have HB := Lib.hid hb
  have HM := Lib.hid hcm
  have HV := Lib.hid hv
  obtain ⟨c0, c1, l0⟩ := box2 w (.int .i64 n) (.slice A m cap) 75
  clear hp hc hb hcm hv
  go_enter Try.func46, Try.ntmps46
  go_wp2
  obtain ⟨b8, hb8⟩ : ∃ b8, w.heap.size = b8 := ⟨_, rfl⟩
  rw [hb8] at c0 c1 l0 ⊢
  clear hb8
  generalize w.alloc (.cells #[.int .i64 n, .slice A m cap] 75) = Z at *
  go_loopw [5, 10] (fun u v wr => ∃ j : Nat, u = .int .i64 (wor V c j) ∧ v = .int .i64 (j : Nat) ∧ j ≤ k ∧ ∃ x : Later Z, wr = x.val) (fun _ v _ => k - (intOf v).toNat)
  case atStart => exact ⟨0, rfl, rfl, by omega, later_of (by repeat (first | exact Below.refl _ _ | (with_reducible assumption) | apply below_later | apply below_alloc | apply below_drew | apply below_drewN))⟩
  case round =>
    obtain ⟨j, rfl, rfl, hj, x, rfl⟩ := hrel
    by_cases hlt : j < k
    · obtain ⟨bb, oo, hB, q⟩ := (HC.out.later x).at_ (by omega)
      subst hB
      have cj := q.at_ j hlt
      have lq := q.lt
      have d1 := (x.cell _ _ l0).trans c1
      have l1 := x.lt _ l0
      have him := HM.out j hlt
      obtain ⟨ba, oa, hA, p⟩ := (HP.out.later x).at_ (by omega)
      subst hA
      have cv := p.v _ him
      have lp := p.lt
      obtain ⟨b0, b1⟩ := wor_bd HV.out j fun i hi => HM.out i (by omega)
      obtain ⟨b2, b3⟩ := HV.out _ him
      have HW : Hid (wor V c (j + 1) = wor V c j + V (c j)) := rfl
      generalize wor V c j = s at *
      generalize V (c j) = y at *
      clear p q
      go_wp2
      go_roundw
      case rel => exact ⟨j + 1, by rw [HW.out], by go_num, by omega, later_of (by repeat (first | exact Below.refl _ _ | (with_reducible assumption) | apply below_later | apply below_alloc | apply below_drew | apply below_drewN))⟩
      case measure => simp [intOf]; omega
    · obtain rfl : j = k := by omega
      go_wp2
      go_ret
      exact ⟨rfl, later_of (by have := HB.out; repeat (first | exact this | exact Below.refl _ _ | apply below_later | apply below_alloc | apply below_drew | apply below_drewN))⟩
end Go.Proofs.Ytnjloomhhgilcaa
