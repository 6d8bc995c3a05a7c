/- wale's Proves and the document's. -/
import Derived.Test.YtnjloomhhgilcaaWPlansWalk
namespace Go.Proofs.Ytnjloomhhgilcaa
open Go.RowKit

def okH (x : Int) : Bool := decide (-1000000 ≤ x) && decide (x ≤ 1000000)
def canB (n N D : Int) : Bool := (decide (1 ≤ D) && decide (D ≤ n)) && (decide (-1000 * n ≤ N) && decide (N ≤ 1000 * n))
def stepOk (f t : Nat → Nat) (V : Nat → Int) (H : Nat → Int) (N D : Int) (i : Nat) : Bool := decide (D * V i - N + H (t i) ≤ H (f i))
theorem heights1_any (x : Int) (w : World) : Gives Try.prog 65 #[.int .i64 x] w (.bool (!okH x)) := by
  have HR : Hid ((!okH x) = (decide (x < -1000000) || decide (1000000 < x))) := by
    show (!okH x) = _
    unfold okH
    rw [Bool.not_and, ← decide_not, ← decide_not]
    simp
  generalize (!okH x) = r at *
  by_cases h1 : x < -1000000
  · go_enter Try.func65, Try.ntmps65
    go_wp2
    go_ret
    exact ⟨ret_bool (by rw [HR.out]; simp [h1]), later_of (by repeat (first | exact Below.refl _ _ | (with_reducible assumption) | apply below_later | apply below_alloc | apply below_drew | apply below_drewN))⟩
  · by_cases h2 : 1000000 < x
    all_goals
      go_enter Try.func65, Try.ntmps65
      go_wp2
      go_ret
      exact ⟨ret_bool (by rw [HR.out]; simp [h1, h2]), later_of (by repeat (first | exact Below.refl _ _ | (with_reducible assumption) | apply below_later | apply below_alloc | apply below_drew | apply below_drewN))⟩
set_option maxRecDepth 100000 in
theorem hindex_any (k cap : Nat) (A : Option Addr) (H : Nat → Int) (w : World) (hk : k ≤ 1000) (hc : IsInts w A k H) :
    Calls Try.prog 70 #[.slice A k cap, .func (.func 65) #[] #[]] w fun e w' => ∃ r : Int, e = .returned (.int .i64 r) ∧ (∃ x : Later w, w' = x.val) ∧ (0 ≤ r ↔ allB k (fun i => okH (H i)) = false) ∧ -1 ≤ r ∧ r ≤ k := by
  have HC := Lib.hid hc
  clear hc
  go_enter Try.func70, Try.ntmps70
  go_wp2
  go_loopw [8] (fun u wr => ∃ j : Nat, j ≤ k ∧ u = .int .i64 j ∧ (∀ i, i < j → okH (H i) = true) ∧ ∃ x : Later w, wr = x.val) (fun u _ => k - (intOf u).toNat)
  case atStart => exact ⟨0, by omega, rfl, by omega, later_of (by repeat (first | exact Below.refl _ _ | (with_reducible assumption) | apply below_later | apply below_alloc | apply below_drew | apply below_drewN))⟩
  case round =>
    obtain ⟨j, hj, rfl, hall, x, rfl⟩ := hrel
    have HALL := Lib.hid hall
    clear hall
    by_cases hlt : j < k
    · obtain ⟨b, off, hB, p⟩ := (HC.out.later x).at_ (by omega)
      subst hB
      have cj := p.at_ j hlt
      have lb := p.lt
      clear p
      have A1 : Hid (∀ w, Gives Try.prog 65 #[.int .i64 (H j)] w (.bool (!okH (H j)))) := fun w => heights1_any (H j) w
      cases hF : okH (H j)
      · have F0 := Lib.hid hF
        rw [hF] at A1
        have A2 : Hid (∀ w, Gives Try.prog 65 #[.int .i64 (H j)] w (.bool true)) := A1.out
        clear hF A1
        go_wp2_with (go_at_call 65; (first | (with_reducible show Calls _ _ _ (Later.val _) _; with_reducible refine Calls.mono (Later.call _ (A2.out _)) ?_) | (with_reducible refine Calls.mono (Gives.calls (A2.out _)) ?_)); rintro e w1 ⟨rfl, z, rfl⟩)
        go_ret
        exact ⟨(j : Int), rfl, later_of (by repeat (first | exact Below.refl _ _ | (with_reducible assumption) | apply below_later | apply below_alloc | apply below_drew | apply below_drewN)), ⟨fun _ => allB_false hlt F0.out, fun _ => by omega⟩, by omega, by omega⟩
      · have F0 := Lib.hid hF
        rw [hF] at A1
        have A2 : Hid (∀ w, Gives Try.prog 65 #[.int .i64 (H j)] w (.bool false)) := A1.out
        clear hF A1
        go_wp2_with (go_at_call 65; (first | (with_reducible show Calls _ _ _ (Later.val _) _; with_reducible refine Calls.mono (Later.call _ (A2.out _)) ?_) | (with_reducible refine Calls.mono (Gives.calls (A2.out _)) ?_)); rintro e w1 ⟨rfl, z, rfl⟩)
        go_roundw
        case rel => exact ⟨j + 1, by omega, by go_num, all_step HALL.out F0.out, later_of (by repeat (first | exact Below.refl _ _ | (with_reducible assumption) | apply below_later | apply below_alloc | apply below_drew | apply below_drewN))⟩
        case measure => simp [intOf]; omega
    · obtain rfl : j = k := by omega
      go_wp2
      go_ret
      exact ⟨(-1 : Int), rfl, later_of (by repeat (first | exact Below.refl _ _ | (with_reducible assumption) | apply below_later | apply below_alloc | apply below_drew | apply below_drewN)), ⟨fun h => by omega, fun h => by rw [allB_true (p := fun i => okH (H i)) HALL.out] at h; cases h⟩, by omega, by omega⟩
theorem hcontains_any (k cap : Nat) (A : Option Addr) (H : Nat → Int) (w : World) (hk : k ≤ 1000) (hc : IsInts w A k H) :
    Gives Try.prog 64 #[.slice A k cap, .func (.func 65) #[] #[]] w (.bool (!allB k fun i => okH (H i))) := by
  have HI := Lib.hid (hindex_any k cap A H w hk hc)
  clear hc
  generalize allB k (fun i => okH (H i)) = r at *
  go_enter Try.func64, Try.ntmps64
  go_wp2_with (go_at_call 70; refine Calls.mono HI.out ?_; rintro e w1 ⟨q, rfl, ⟨x, rfl⟩, hq, hq1, hq2⟩; have HQ := Lib.hid hq)
  go_ret
  refine ⟨ret_bool ?_, later_of (by repeat (first | exact Below.refl _ _ | (with_reducible assumption) | apply below_later | apply below_alloc | apply below_drew | apply below_drewN))⟩
  have := HQ.out
  cases r <;> simp_all
theorem areHeights_any (k cap : Nat) (A : Option Addr) (H : Nat → Int) (w : World) (hk : k ≤ 1000) (hc : IsInts w A k H) :
    Gives Try.prog 48 #[.slice A k cap] w (.bool (allB k fun i => okH (H i))) := by
  have HI := Lib.hid (hcontains_any k cap A H w hk hc)
  clear hc
  generalize allB k (fun i => okH (H i)) = r at *
  go_enter Try.func48, Try.ntmps48
  go_wp2_with (go_at_call 64; with_reducible refine Calls.mono (Gives.calls (HI.out)) ?_; rintro e w1 ⟨rfl, y, rfl⟩)
  go_ret
  exact ⟨ret_bool (by simp), later_of (by repeat (first | exact Below.refl _ _ | (with_reducible assumption) | apply below_later | apply below_alloc | apply below_drew | apply below_drewN))⟩
set_option maxRecDepth 100000 in
theorem canBeMean_any (n N D : Int) (w : World) (hn1 : 1 ≤ n) (hn8 : n ≤ 8) : Gives Try.prog 49 #[.int .i64 n, .agg #[.int .i64 N, .int .i64 D]] w (.bool (canB n N D)) := by
  have HR : Hid (canB n N D = ((decide (1 ≤ D) && decide (D ≤ n)) && (decide (-1000 * n ≤ N) && decide (N ≤ 1000 * n)))) := rfl
  generalize canB n N D = r at *
  have u1 : IntKind.i64.wrap (-1000 * n) = -1000 * n := IntWalk.i64_in _ ⟨by omega, by omega⟩
  have u2 : IntKind.i64.wrap (1000 * n) = 1000 * n := IntWalk.i64_in _ ⟨by omega, by omega⟩
  by_cases h1 : 1 ≤ D
  · by_cases h2 : D ≤ n
    · by_cases h3 : -1000 * n ≤ N
      · by_cases h4 : N ≤ 1000 * n
        · have E : Hid (r = true) := by show _ = _; rw [HR.out]; simp; omega
          clear HR
          go_enter Try.func49, Try.ntmps49
          go_wp2
          go_ret
          exact ⟨ret_bool E.out.symm, later_of (by repeat (first | exact Below.refl _ _ | (with_reducible assumption) | apply below_later | apply below_alloc | apply below_drew | apply below_drewN))⟩
        · have E : Hid (r = false) := by show _ = _; rw [HR.out]; simp; omega
          clear HR
          go_enter Try.func49, Try.ntmps49
          go_wp2
          go_ret
          exact ⟨ret_bool E.out.symm, later_of (by repeat (first | exact Below.refl _ _ | (with_reducible assumption) | apply below_later | apply below_alloc | apply below_drew | apply below_drewN))⟩
      · have E : Hid (r = false) := by show _ = _; rw [HR.out]; simp; omega
        clear HR
        go_enter Try.func49, Try.ntmps49
        go_wp2
        go_ret
        exact ⟨ret_bool E.out.symm, later_of (by repeat (first | exact Below.refl _ _ | (with_reducible assumption) | apply below_later | apply below_alloc | apply below_drew | apply below_drewN))⟩
    · have E : Hid (r = false) := by show _ = _; rw [HR.out]; simp; omega
      clear HR
      go_enter Try.func49, Try.ntmps49
      go_wp2
      go_ret
      exact ⟨ret_bool E.out.symm, later_of (by repeat (first | exact Below.refl _ _ | (with_reducible assumption) | apply below_later | apply below_alloc | apply below_drew | apply below_drewN))⟩
  · have E : Hid (r = false) := by show _ = _; rw [HR.out]; simp; omega
    clear HR
    go_enter Try.func49, Try.ntmps49
    go_wp2
    go_ret
    exact ⟨ret_bool E.out.symm, later_of (by repeat (first | exact Below.refl _ _ | (with_reducible assumption) | apply below_later | apply below_alloc | apply below_drew | apply below_drewN))⟩
end Go.Proofs.Ytnjloomhhgilcaa
