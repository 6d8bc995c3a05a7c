/- thatch's and the document's small words of numbers, common divisors and lowest terms: walked. -/
import Derived.Test.YtcjahpbbkdkbpaaDBase
import Derived.Test.YtcjahpbbkdkbpaaTCMath
import Derived.IntWalk
namespace Go.Proofs.Ytcjahpbbkdkbpaa
open Go.RowKit

theorem gcd_step {a b : Nat} : Nat.gcd b (a % b) = Nat.gcd a b := by
  rw [Nat.gcd_comm a b, Nat.gcd_rec b a, Nat.gcd_comm]
theorem res_cell {w V : World} {o : Obj} (hb : Below (w.alloc o).heap.size (w.alloc o) V) : V.heap[w.heap.size]? = some o := (hb.block _ (by simp)).trans (World.alloc_heap_new _ _)
theorem res_facts {w V : World} {a b : Value} {t : TypeId} (hb : Below (w.alloc (.cells #[a, b] t)).heap.size (w.alloc (.cells #[a, b] t)) V) :
    V.cell? ⟨w.heap.size, 0, none⟩ = some a ∧ V.cell? ⟨w.heap.size, 1, none⟩ = some b ∧ w.heap.size < V.heap.size ∧ V.frozen? ⟨w.heap.size, 0, none⟩ = false ∧ V.frozen? ⟨w.heap.size, 1, none⟩ = false := by
  have hr := res_cell hb
  exact ⟨cell_of_heap hr 0 _ rfl, cell_of_heap hr 1 _ rfl, get_lt hr, by simp [World.frozen?, hr], by simp [World.frozen?, hr]⟩
theorem res_put {V : World} {g : Nat} {a b x y : Value} (h0 : V.cell? ⟨g, 0, none⟩ = some a) (h1 : V.cell? ⟨g, 1, none⟩ = some b) :
    ((V.setCell ⟨g, 0, none⟩ x).setCell ⟨g, 1, none⟩ y).cell? ⟨g, 0, none⟩ = some x ∧ ((V.setCell ⟨g, 0, none⟩ x).setCell ⟨g, 1, none⟩ y).cell? ⟨g, 1, none⟩ = some y := by
  constructor <;> simp [go_sem, h0, h1]
def inI (a x b : Int) : Bool := decide (a ≤ x) && decide (x ≤ b)
theorem inI_iff {a x b : Int} : inI a x b = true ↔ a ≤ x ∧ x ≤ b := by simp [inI]
theorem rfrom_any (a x b : Int) (w : World) : Gives Try.prog 32 #[.int .i64 a, .int .i64 x, .int .i64 b] w (.bool (inI a x b)) := by
  unfold inI
  by_cases h1 : a ≤ x <;> by_cases h2 : x ≤ b
  all_goals
    go_enter Try.func32, Try.ntmps32
    go_wp2
    go_ret
    exact ⟨ret_bool (by simp [h1, h2]), later_of (by repeat (first | exact Below.refl _ _ | (with_reducible assumption) | apply below_later | apply below_alloc | apply below_drew | apply below_drewN))⟩
theorem between_any (a x b : Int) (w : World) : Gives Try.prog 37 #[.int .i64 x, .int .i64 a, .int .i64 b] w (.bool (inI a x b)) := by
  unfold inI
  by_cases h1 : a ≤ x <;> by_cases h2 : x ≤ b
  all_goals
    go_enter Try.func37, Try.ntmps37
    go_wp2
    go_ret
    exact ⟨ret_bool (by simp [h1, h2]), later_of (by repeat (first | exact Below.refl _ _ | (with_reducible assumption) | apply below_later | apply below_alloc | apply below_drew | apply below_drewN))⟩
theorem i64_nat {n : Nat} (h : n ≤ 1000000000000000) : IntKind.i64.wrap (n : Int) = n := IntWalk.i64_in _ ⟨by omega, by omega⟩
theorem wrap_mul_nat {a b m : Nat} (h : a * b ≤ m) (hm : m ≤ 1000000000000000) : IntKind.i64.wrap ((a : Int) * (b : Int)) = ((a * b : Nat) : Int) := by rw [← Int.natCast_mul]; exact i64_nat (by omega)
theorem roundedUp_any (n d : Nat) (w : World) (hn : n ≤ 1000000000000) (hd1 : 1 ≤ d) (hd : d ≤ 1000000000) : Gives Try.prog 35 #[.int .i64 n, .int .i64 d] w (.int .i64 (upN n d : Nat)) := by
  have e1 : IntKind.i64.wrap ((n : Int) + (d : Int)) = ((n + d : Nat) : Int) := by rw [← Int.natCast_add]; exact i64_nat (by omega)
  have e2 : IntKind.i64.wrap (((n + d : Nat) : Int) - 1) = ((n + d - 1 : Nat) : Int) := by rw [show (((n + d : Nat) : Int) - 1) = ((n + d - 1 : Nat) : Int) by omega]; exact i64_nat (by omega)
  have e3 : (d : Int) ≠ 0 := by omega
  have hq : upN n d ≤ n + d - 1 := Nat.div_le_self _ _
  have e4 : IntKind.i64.wrap (((n + d - 1 : Nat) : Int) / (d : Int)) = ((upN n d : Nat) : Int) := by rw [← Int.natCast_ediv]; exact i64_nat (by show upN n d ≤ _; omega)
  have e5 : IntKind.i64.wrap ((((n + d - 1 : Nat) : Int)).tdiv (d : Int)) = ((upN n d : Nat) : Int) := by rw [Int.tdiv_eq_ediv_of_nonneg (by omega)]; exact e4
  generalize upN n d = q at *
  generalize hm : n + d - 1 = m at *
  have HM := Lib.hid hm
  clear hm
  have e6 : (n : Int) + (d : Int) - 1 = (m : Int) := by have := HM.out; omega
  go_enter Try.func35, Try.ntmps35
  go_wp2
  go_ret
  exact ⟨ret_int (by first | rfl | exact e4 | exact e5 | (rw [e6]; first | exact e4 | exact e5) | (simp only [e1, e2, e4, e5])), later_of (by repeat (first | exact Below.refl _ _ | (with_reducible assumption) | apply below_later | apply below_alloc | apply below_drew | apply below_drewN))⟩
theorem rup_any (n d : Nat) (w : World) (hn : n ≤ 1000000000000) (hd1 : 1 ≤ d) (hd : d ≤ 1000000000) : Gives Try.prog 36 #[.int .i64 n, .int .i64 d] w (.int .i64 (upN n d : Nat)) := by
  have e1 : IntKind.i64.wrap ((n : Int) + (d : Int)) = ((n + d : Nat) : Int) := by rw [← Int.natCast_add]; exact i64_nat (by omega)
  have e2 : IntKind.i64.wrap (((n + d : Nat) : Int) - 1) = ((n + d - 1 : Nat) : Int) := by rw [show (((n + d : Nat) : Int) - 1) = ((n + d - 1 : Nat) : Int) by omega]; exact i64_nat (by omega)
  have e3 : (d : Int) ≠ 0 := by omega
  have hq : upN n d ≤ n + d - 1 := Nat.div_le_self _ _
  have e4 : IntKind.i64.wrap (((n + d - 1 : Nat) : Int) / (d : Int)) = ((upN n d : Nat) : Int) := by rw [← Int.natCast_ediv]; exact i64_nat (by show upN n d ≤ _; omega)
  have e5 : IntKind.i64.wrap ((((n + d - 1 : Nat) : Int)).tdiv (d : Int)) = ((upN n d : Nat) : Int) := by rw [Int.tdiv_eq_ediv_of_nonneg (by omega)]; exact e4
  generalize upN n d = q at *
  generalize hm : n + d - 1 = m at *
  have HM := Lib.hid hm
  clear hm
  have e6 : (n : Int) + (d : Int) - 1 = (m : Int) := by have := HM.out; omega
  go_enter Try.func36, Try.ntmps36
  go_wp2
  go_ret
  exact ⟨ret_int (by first | rfl | exact e4 | exact e5 | (rw [e6]; first | exact e4 | exact e5) | (simp only [e1, e2, e4, e5])), later_of (by repeat (first | exact Below.refl _ _ | (with_reducible assumption) | apply below_later | apply below_alloc | apply below_drew | apply below_drewN))⟩
set_option maxRecDepth 100000 in
set_option maxHeartbeats 1600000 in
theorem Divisor_any (n d : Nat) (w : World) (hn : n ≤ 1000000000000) (hd : d ≤ 1000000000) : Gives Try.prog 47 #[.int .i64 n, .int .i64 d] w (.int .i64 (Nat.gcd n d : Nat)) := by
  go_enter Try.func47, Try.ntmps47
  go_wp2
  go_loopw [0, 1] (fun u v wr => ∃ a b : Nat, u = .int .i64 (a : Nat) ∧ v = .int .i64 (b : Nat) ∧ a ≤ 1000000000000 ∧ b ≤ 1000000000 ∧ Nat.gcd a b = Nat.gcd n d ∧ ∃ x : Later w, wr = x.val) (fun _ v _ => (intOf v).toNat)
  case atStart => exact ⟨n, d, rfl, rfl, by omega, by omega, rfl, later_of (by repeat (first | exact Below.refl _ _ | (with_reducible assumption) | apply below_later | apply below_alloc | apply below_drew | apply below_drewN))⟩
  case round =>
    obtain ⟨a, b, rfl, rfl, ha, hb, hg, x, rfl⟩ := hrel
    have HG := Lib.hid hg
    clear hg
    by_cases hb0 : b = 0
    · subst hb0
      have HA : Hid (a = Nat.gcd n d) := by show _ = _; rw [← HG.out, Nat.gcd_zero_right]
      go_wp2_with fail
      all_goals
        go_ret
        exact ⟨ret_int (by have := HA.out; first | (rw [← this]; done) | (split <;> omega) | omega), later_of (by repeat (first | exact Below.refl _ _ | (with_reducible assumption) | apply below_later | apply below_alloc | apply below_drew | apply below_drewN))⟩
    · have hb1 : (b : Int) ≠ 0 := by omega
      have hb2 : ((b : Int) != 0) = true := by simp; omega
      have hm : ((a : Int) % (b : Int)) = ((a % b : Nat) : Int) := by omega
      have HM := Lib.hid hm
      clear hm
      go_wp2_with fail
      refine wp_region_later (by kernel_rfl) (by kernel_rfl) ?_
      repeat (go_big_quiet_step ((fail)))
      refine wpQuiet_nil ?_
      intro q
      go_wp2
      go_roundw
      case rel => exact ⟨b, a % b, rfl, by rw [HM.out], by omega, by have := Nat.mod_lt a (show 0 < b by omega); omega, gcd_step.trans HG.out, later_of (by repeat (first | exact Below.refl _ _ | (with_reducible assumption) | apply below_later | apply below_alloc | apply below_drew | apply below_drewN))⟩
      case measure =>
        have := Nat.mod_lt a (show 0 < b by omega)
        have := HM.out
        simp [intOf]; omega
set_option maxRecDepth 100000 in
set_option maxHeartbeats 1600000 in
theorem divisor_any (n d : Nat) (w : World) (hn : n ≤ 1000000000000) (hd : d ≤ 1000000000) : Gives Try.prog 46 #[.int .i64 n, .int .i64 d] w (.int .i64 (Nat.gcd n d : Nat)) := by
  go_enter Try.func46, Try.ntmps46
  go_wp2
  go_loopw [0, 1] (fun u v wr => ∃ a b : Nat, u = .int .i64 (a : Nat) ∧ v = .int .i64 (b : Nat) ∧ a ≤ 1000000000000 ∧ b ≤ 1000000000 ∧ Nat.gcd a b = Nat.gcd n d ∧ ∃ x : Later w, wr = x.val) (fun _ v _ => (intOf v).toNat)
  case atStart => exact ⟨n, d, rfl, rfl, by omega, by omega, rfl, later_of (by repeat (first | exact Below.refl _ _ | (with_reducible assumption) | apply below_later | apply below_alloc | apply below_drew | apply below_drewN))⟩
  case round =>
    obtain ⟨a, b, rfl, rfl, ha, hb, hg, x, rfl⟩ := hrel
    have HG := Lib.hid hg
    clear hg
    by_cases hb0 : b = 0
    · subst hb0
      have HA : Hid (a = Nat.gcd n d) := by show _ = _; rw [← HG.out, Nat.gcd_zero_right]
      go_wp2_with fail
      all_goals
        go_ret
        exact ⟨ret_int (by have := HA.out; first | (rw [← this]; done) | (split <;> omega) | omega), later_of (by repeat (first | exact Below.refl _ _ | (with_reducible assumption) | apply below_later | apply below_alloc | apply below_drew | apply below_drewN))⟩
    · have hb1 : (b : Int) ≠ 0 := by omega
      have hb2 : ((b : Int) != 0) = true := by simp; omega
      have hm : ((a : Int) % (b : Int)) = ((a % b : Nat) : Int) := by omega
      have HM := Lib.hid hm
      clear hm
      go_wp2_with fail
      refine wp_region_later (by kernel_rfl) (by kernel_rfl) ?_
      repeat (go_big_quiet_step ((fail)))
      refine wpQuiet_nil ?_
      intro q
      go_wp2
      go_roundw
      case rel => exact ⟨b, a % b, rfl, by rw [HM.out], by omega, by have := Nat.mod_lt a (show 0 < b by omega); omega, gcd_step.trans HG.out, later_of (by repeat (first | exact Below.refl _ _ | (with_reducible assumption) | apply below_later | apply below_alloc | apply below_drew | apply below_drewN))⟩
      case measure =>
        have := Nat.mod_lt a (show 0 < b by omega)
        have := HM.out
        simp [intOf]; omega
/-- Lowest terms of whole numbers. -/
def loN (n d : Nat) : Nat := n / Nat.gcd n d
def loD (n d : Nat) : Nat := d / Nat.gcd n d
def ratV (n d : Nat) : Value := .agg #[.int .i64 (loN n d : Nat), .int .i64 (loD n d : Nat)]
set_option maxRecDepth 100000 in
set_option maxHeartbeats 1600000 in
theorem Lowest_any (n d : Nat) (w : World) (hn : n ≤ 1000000000000) (hd1 : 1 ≤ d) (hd : d ≤ 1000000000) : Gives Try.prog 34 #[.int .i64 n, .int .i64 d] w (ratV n d) := by
  have HD := Lib.hid fun V => Divisor_any n d V hn hd
  have hg1 : 1 ≤ Nat.gcd n d := Nat.gcd_pos_of_pos_right _ hd1
  have hl1 : loN n d ≤ n := Nat.div_le_self _ _
  have hl2 : loD n d ≤ d := Nat.div_le_self _ _
  have t1 : ((n : Int) / ((Nat.gcd n d : Nat) : Int)) = ((loN n d : Nat) : Int) := by rw [← Int.natCast_ediv]; rfl
  have t2 : ((d : Int) / ((Nat.gcd n d : Nat) : Int)) = ((loD n d : Nat) : Int) := by rw [← Int.natCast_ediv]; rfl
  have e0 : decide ((d : Int) ≤ 0) = false := by simp; omega
  unfold ratV
  have HX := Lib.hid fun (V : World) (h : Below (w.alloc (.cells #[.int .i64 0, .int .i64 0] 27)).heap.size (w.alloc (.cells #[.int .i64 0, .int .i64 0] 27)) V) => res_facts h
  generalize Nat.gcd n d = g at *
  generalize loN n d = r1 at *
  generalize loD n d = r2 at *
  have v1 : IntKind.i64.wrap ((n : Int) / (g : Int)) = (r1 : Int) := by rw [t1]; exact i64_nat (by omega)
  have v2 : IntKind.i64.wrap ((d : Int) / (g : Int)) = (r2 : Int) := by rw [t2]; exact i64_nat (by omega)
  have v3 : IntKind.i64.wrap ((n : Int).tdiv (g : Int)) = (r1 : Int) := by rw [Int.tdiv_eq_ediv_of_nonneg (by omega)]; exact v1
  have v4 : IntKind.i64.wrap ((d : Int).tdiv (g : Int)) = (r2 : Int) := by rw [Int.tdiv_eq_ediv_of_nonneg (by omega)]; exact v2
  have e3 : (g : Int) ≠ 0 := by omega
  clear t1 t2
  go_enter Try.func34, Try.ntmps34
  go_wp2_with ((go_at_call 47; with_reducible refine Calls.mono (Gives.calls (HD.out _)) ?_; rintro e w1 ⟨rfl, z, rfl⟩); obtain ⟨c2, c3, l2, f2, f3⟩ := HX.out z.val (by repeat (first | exact Below.refl _ _ | (with_reducible assumption) | apply below_later | apply below_alloc | apply below_drew | apply below_drewN)))
  have HB2 : Hid (Below w.heap.size w z.val) := by show Below _ _ _; repeat (first | exact Below.refl _ _ | (with_reducible assumption) | apply below_later | apply below_alloc | apply below_drew | apply below_drewN)
  generalize z.val = Z at *
  go_region
  go_wp2
  have r0 := res_put (x := .int .i64 r1) (y := .int .i64 r2) c2 c3
  refine bodyPost_ret (v := .agg #[.int .i64 r1, .int .i64 r2]) (by simp [results, Try.results34, go_sem, r0.1, r0.2]) rfl ?_
  exact ⟨rfl, later_of (below_drew ((HB2.out.setCell (Nat.le_refl _) _).setCell (Nat.le_refl _) _))⟩
set_option maxRecDepth 100000 in
set_option maxHeartbeats 1600000 in
theorem rratio_any (n d : Nat) (w : World) (hn : n ≤ 1000000000000) (hd1 : 1 ≤ d) (hd : d ≤ 1000000000) : Gives Try.prog 29 #[.int .i64 n, .int .i64 d] w (ratV n d) := by
  have HD := Lib.hid fun V => divisor_any n d V hn hd
  have hg1 : 1 ≤ Nat.gcd n d := Nat.gcd_pos_of_pos_right _ hd1
  have hl1 : loN n d ≤ n := Nat.div_le_self _ _
  have hl2 : loD n d ≤ d := Nat.div_le_self _ _
  have t1 : ((n : Int) / ((Nat.gcd n d : Nat) : Int)) = ((loN n d : Nat) : Int) := by rw [← Int.natCast_ediv]; rfl
  have t2 : ((d : Int) / ((Nat.gcd n d : Nat) : Int)) = ((loD n d : Nat) : Int) := by rw [← Int.natCast_ediv]; rfl
  unfold ratV
  have HX := Lib.hid fun (V : World) (h : Below (w.alloc (.cells #[.int .i64 0, .int .i64 0] 27)).heap.size (w.alloc (.cells #[.int .i64 0, .int .i64 0] 27)) V) => res_facts h
  generalize Nat.gcd n d = g at *
  generalize loN n d = r1 at *
  generalize loD n d = r2 at *
  have v1 : IntKind.i64.wrap ((n : Int) / (g : Int)) = (r1 : Int) := by rw [t1]; exact i64_nat (by omega)
  have v2 : IntKind.i64.wrap ((d : Int) / (g : Int)) = (r2 : Int) := by rw [t2]; exact i64_nat (by omega)
  have v3 : IntKind.i64.wrap ((n : Int).tdiv (g : Int)) = (r1 : Int) := by rw [Int.tdiv_eq_ediv_of_nonneg (by omega)]; exact v1
  have v4 : IntKind.i64.wrap ((d : Int).tdiv (g : Int)) = (r2 : Int) := by rw [Int.tdiv_eq_ediv_of_nonneg (by omega)]; exact v2
  have e3 : (g : Int) ≠ 0 := by omega
  clear t1 t2
  go_enter Try.func29, Try.ntmps29
  go_wp2_with ((go_at_call 46; with_reducible refine Calls.mono (Gives.calls (HD.out _)) ?_; rintro e w1 ⟨rfl, z, rfl⟩); obtain ⟨c2, c3, l2, f2, f3⟩ := HX.out z.val (by repeat (first | exact Below.refl _ _ | (with_reducible assumption) | apply below_later | apply below_alloc | apply below_drew | apply below_drewN)))
  have HB2 : Hid (Below w.heap.size w z.val) := by show Below _ _ _; repeat (first | exact Below.refl _ _ | (with_reducible assumption) | apply below_later | apply below_alloc | apply below_drew | apply below_drewN)
  generalize z.val = Z at *
  go_region
  go_wp2
  have r0 := res_put (x := .int .i64 r1) (y := .int .i64 r2) c2 c3
  refine bodyPost_ret (v := .agg #[.int .i64 r1, .int .i64 r2]) (by simp [results, Try.results29, go_sem, r0.1, r0.2]) rfl ?_
  exact ⟨rfl, later_of (below_drew ((HB2.out.setCell (Nat.le_refl _) _).setCell (Nat.le_refl _) _))⟩
end Go.Proofs.Ytcjahpbbkdkbpaa
