/- Contracts of the functions of package rod that look at a corner with its neighbours. -/
import Derived.Test.YtamhhbkjgfhfoaaDoorPosts
import Derived.BigRegion
namespace Go.Proofs.YtamhhbkjgfhfoaaDoor
open Go.RowKit

def xyV (x y : Int) : Value := .agg #[.int .i64 x, .int .i64 y]

set_option maxRecDepth 100000 in
set_option maxHeartbeats 800000 in
theorem around_any (b off n cap k : Nat) (px py : Nat → Int) (w : World) (h0 : 2 ≤ n) (hn : n ≤ 40) (hk : k < n) (hp : Posts w b off n px py) :
    Gives Tryd.prog 44 #[.slice (some ⟨b, off, none⟩) n cap, .int .i64 k] w
      (.tuple #[.agg #[.int .i64 (px (pv n k)), .int .i64 (py (pv n k))], .agg #[.int .i64 (px k), .int .i64 (py k)], .agg #[.int .i64 (px (nx n k)), .int .i64 (py (nx n k))]]) := by
  have hl := hp.lt
  have c1 := hp.x k hk
  have c2 := hp.y k hk
  have h1 := nx_lt (n := n) k (by omega)
  have h2 := pv_lt (n := n) k (by omega)
  have c3 := hp.x _ h1
  have c4 := hp.y _ h1
  have c5 := hp.x _ h2
  have c6 := hp.y _ h2
  have e1 := nx_eq n k
  have e2 := pv_eq n k (by omega)
  go_enter Tryd.func44, Tryd.ntmps44
  go_wp2_with fail
  go_region
  go_wp2
  exact bodyPost_ret (v := .tuple #[.agg #[.int .i64 (px (pv n k)), .int .i64 (py (pv n k))], .agg #[.int .i64 (px k), .int .i64 (py k)], .agg #[.int .i64 (px (nx n k)), .int .i64 (py (nx n k))]]) (by simp [results, Tryd.results44, go_sem]) rfl ⟨rfl, later_of (by repeat (first | exact Below.refl _ _ | (with_reducible assumption) | apply below_later | apply below_alloc | apply below_drew | apply below_drewN))⟩

/-- What '==' asks of two posts beforehand. -/
@[go_sem] theorem guardXY (op : BinOp) (x y : Operand) (xs ys : Array Value) (w : World) : (eqGuard op 34 x y (.agg xs) (.agg ys)).run Tryd.prog w = .ok () w :=
  run_eqGuard_agg w op 34 x y xs ys (by kernel_rfl)

def sameXY (px py : Nat → Int) (i k : Nat) : Bool := px i == px k && py i == py k
def diffB (n : Nat) (px py : Nat → Int) : Bool := allB n fun k => allB k fun i => !sameXY px py i k

theorem all_step {p : Nat → Bool} {k : Nat} (h : ∀ j, j < k → p j = true) (hk : p k = true) : ∀ j, j < k + 1 → p j = true := fun j hj => by
  rcases Nat.lt_or_ge j k with h1 | h1
  · exact h j h1
  · obtain rfl : j = k := by omega
    exact hk

set_option maxRecDepth 100000 in
set_option maxHeartbeats 800000 in
theorem cornersDiffer_any (b off n cap : Nat) (px py : Nat → Int) (w : World) (hn : n ≤ 40) (hp : Posts w b off n px py) :
    Gives Tryd.prog 41 #[.slice (some ⟨b, off, none⟩) n cap] w (.bool (diffB n px py)) := by
  have hl := hp.lt
  go_enter Tryd.func41, Tryd.ntmps41
  go_wp2
  go_loopw [7] (fun v wr => ∃ k : Nat, k ≤ n ∧ v = .int .i64 k ∧ (∀ j, j < k → (allB j fun i => !sameXY px py i j) = true) ∧ ∃ x : Later w, wr = x.val) (fun v _ => n - (intOf v).toNat)
  case atStart => exact ⟨0, by omega, rfl, by omega, later_of (by repeat (first | exact Below.refl _ _ | (with_reducible assumption) | apply below_later | apply below_alloc | apply below_drew | apply below_drewN))⟩
  case round =>
    obtain ⟨k, hk, rfl, hj, x, rfl⟩ := hrel
    have Hj := Lib.hid hj
    clear hj
    by_cases hlt : k < n
    · go_wp2
      go_loopw [11] (fun v wr => ∃ i : Nat, i ≤ k ∧ v = .int .i64 i ∧ (∀ j, j < i → (!sameXY px py j k) = true) ∧ ∃ x : Later w, wr = x.val) (fun v _ => k - (intOf v).toNat)
      case atStart => exact ⟨0, by omega, rfl, by omega, later_of (by repeat (first | exact Below.refl _ _ | (with_reducible assumption) | apply below_later | apply below_alloc | apply below_drew | apply below_drewN))⟩
      case round =>
        obtain ⟨i, hi, rfl, hj, y, rfl⟩ := hrel
        have Hi := Lib.hid hj
        clear hj
        by_cases hit : i < k
        · have c1 := hp.x k hlt
          have c2 := hp.y k hlt
          have c3 := hp.x i (by omega)
          have c4 := hp.y i (by omega)
          by_cases h1 : px i = px k
          · by_cases h2 : py i = py k
            · have H1 := Lib.hid h1
              have H2 := Lib.hid h2
              go_wp2_with fail
              first | (with_reducible show Code.wp _ _ _ _ (Later.val _); refine wp_region_later_at _ (by kernel_rfl) (by kernel_rfl) ?_) | refine wp_region_later (by kernel_rfl) (by kernel_rfl) ?_
              repeat (go_big_quiet_step ((fail)))
              refine wpQuiet_nil ?_
              intro z
              go_wp2
              go_ret
              exact ⟨ret_bool (by symm; exact allB_false hlt (allB_false hit (by simp [sameXY, H1.out, H2.out]))), later_of (by repeat (first | exact Below.refl _ _ | (with_reducible assumption) | apply below_later | apply below_alloc | apply below_drew | apply below_drewN))⟩
            · have H2 := Lib.hid h2
              go_wp2_with fail
              first | (with_reducible show Code.wp _ _ _ _ (Later.val _); refine wp_region_later_at _ (by kernel_rfl) (by kernel_rfl) ?_) | refine wp_region_later (by kernel_rfl) (by kernel_rfl) ?_
              repeat (go_big_quiet_step ((fail)))
              refine wpQuiet_nil ?_
              intro z
              go_wp2
              go_roundw
              case rel => exact ⟨i + 1, by omega, by go_num, all_step Hi.out (by simp [sameXY, H2.out]), later_of (by repeat (first | exact Below.refl _ _ | (with_reducible assumption) | apply below_later | apply below_alloc | apply below_drew | apply below_drewN))⟩
              case measure => simp [intOf]; omega
          · have H1 := Lib.hid h1
            go_wp2_with fail
            first | (with_reducible show Code.wp _ _ _ _ (Later.val _); refine wp_region_later_at _ (by kernel_rfl) (by kernel_rfl) ?_) | refine wp_region_later (by kernel_rfl) (by kernel_rfl) ?_
            repeat (go_big_quiet_step ((fail)))
            refine wpQuiet_nil ?_
            intro z
            go_wp2
            go_roundw
            case rel => exact ⟨i + 1, by omega, by go_num, all_step Hi.out (by simp [sameXY, H1.out]), later_of (by repeat (first | exact Below.refl _ _ | (with_reducible assumption) | apply below_later | apply below_alloc | apply below_drew | apply below_drewN))⟩
            case measure => simp [intOf]; omega
        · obtain rfl : i = k := by omega
          go_wp2
          go_roundw
          case rel => exact ⟨i + 1, by omega, by go_num, all_step Hj.out (allB_true Hi.out), later_of (by repeat (first | exact Below.refl _ _ | (with_reducible assumption) | apply below_later | apply below_alloc | apply below_drew | apply below_drewN))⟩
          case measure => simp [intOf]; omega
    · go_wp2
      go_ret
      exact ⟨ret_bool (by symm; exact allB_true fun i hi => Hj.out i (by omega)), later_of (by repeat (first | exact Below.refl _ _ | (with_reducible assumption) | apply below_later | apply below_alloc | apply below_drew | apply below_drewN))⟩

def bendI (n : Nat) (px py : Nat → Int) (k : Nat) : Int := crossI (px (pv n k)) (py (pv n k)) (px k) (py k) (px (nx n k)) (py (nx n k))

set_option maxRecDepth 100000 in
set_option maxHeartbeats 800000 in
theorem bend_any (b off n cap k : Nat) (px py : Nat → Int) (w : World) (h0 : 2 ≤ n) (hn : n ≤ 40) (hk : k < n) (hp : Posts w b off n px py) (hr : ∀ i, i < n → InRange (px i) (py i)) :
    Gives Tryd.prog 27 #[.slice (some ⟨b, off, none⟩) n cap, .int .i64 k] w (.int .i64 (bendI n px py k)) := by
  have r1 := hr _ (pv_lt (n := n) k (by omega))
  have r2 := hr k hk
  have r3 := hr _ (nx_lt (n := n) k (by omega))
  have Hp := Lib.hid hp
  clear hr hp
  go_enter Tryd.func27, Tryd.ntmps27
  go_wp2_with (first | (go_at_call 44; (first | (with_reducible show Calls _ _ _ (Later.val _) _; with_reducible refine Calls.mono (Later.call _ (around_any _ _ _ _ _ _ _ _ h0 hn hk Hp.out)) ?_) | (with_reducible refine Calls.mono (Gives.calls (around_any _ _ _ _ _ _ _ _ h0 hn hk Hp.out)) ?_)); rintro e w1 ⟨rfl, x1, rfl⟩) | (go_at_call 39; (first | (with_reducible show Calls _ _ _ (Later.val _) _; with_reducible refine Calls.mono (Later.call _ (cross_any _ _ _ _ _ _ _ (by assumption) (by assumption) (by assumption))) ?_) | (with_reducible refine Calls.mono (Gives.calls (cross_any _ _ _ _ _ _ _ (by assumption) (by assumption) (by assumption))) ?_)); rintro e w1 ⟨rfl, x2, rfl⟩))
  go_ret
  exact ⟨rfl, later_of (by repeat (first | exact Below.refl _ _ | (with_reducible assumption) | apply below_later | apply below_alloc | apply below_drew | apply below_drewN))⟩
end Go.Proofs.YtamhhbkjgfhfoaaDoor
