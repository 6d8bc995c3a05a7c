/- Which jobs are as described; thatch's Hours, slices.Max, ContainsFunc at the two closures: walked. -/
import Derived.Test.YtcjahpbbkdkbpaaTCoat2
namespace Go.Proofs.Ytcjahpbbkdkbpaa
open Go.RowKit

def topF (g : Nat → Nat) : Nat → Nat
  | 0 => 0
  | k + 1 => max (topF g k) (g k)
theorem topF_succ (g : Nat → Nat) (k : Nat) : topF g (k + 1) = max (topF g k) (g k) := rfl
theorem topF_le {g : Nat → Nat} {b k : Nat} (h : ∀ i, i < k → g i ≤ b) : topF g k ≤ b := by
  induction k with
  | zero => exact Nat.zero_le _
  | succ k ih => rw [topF_succ]; have := ih fun i hi => h i (by omega); have := h k (by omega); omega
theorem le_topF {g : Nat → Nat} {i k : Nat} (h : i < k) : g i ≤ topF g k := by
  induction k with
  | zero => omega
  | succ k ih =>
    rw [topF_succ]
    rcases Nat.lt_or_ge i k with h1 | h1
    · have := ih h1; omega
    · obtain rfl : i = k := by omega
      omega
def notZero (x : Int) : Bool := x != 0
def notJob (x : Int) : Bool := !inI 0 x 100
theorem isJob1_any (x : Int) (w : World) : Gives Try.prog 54 #[.int .i64 x] w (.bool (notJob x)) := by
  have BT := Lib.hid fun V => between_any 0 x 100 V
  have HE : Hid (notJob x = !inI 0 x 100) := rfl
  generalize inI 0 x 100 = r at *
  generalize notJob x = q at *
  go_enter Try.func54, Try.ntmps54
  go_wp2_with (go_at_call 37; with_reducible refine Calls.mono (Gives.calls (BT.out _)) ?_; rintro e w1 ⟨rfl, z, rfl⟩)
  go_ret
  exact ⟨ret_bool HE.out.symm, later_of (by repeat (first | exact Below.refl _ _ | (with_reducible assumption) | apply below_later | apply below_alloc | apply below_drew | apply below_drewN))⟩
set_option maxRecDepth 100000 in
set_option maxHeartbeats 1600000 in
theorem jindex_any (m cap : Nat) (A : Option Addr) (c : Nat → Int) (w : World) (hm : m ≤ 1000) (hp : IsInts w A m c) :
    Calls Try.prog 58 #[.slice A m cap, .func (.func 54) #[] #[]] w fun e w' => ∃ r : Int, e = .returned (.int .i64 r) ∧ (∃ x : Later w, w' = x.val) ∧ (0 ≤ r ↔ (!allB m fun k => !notJob (c k)) = true) ∧ -1 ≤ r ∧ r ≤ m := by
  have HP := Lib.hid hp
  have HC := Lib.hid fun (x : Int) (V : World) => isJob1_any x V
  clear hp
  go_enter Try.func58, Try.ntmps58
  go_wp2
  go_loopw [8] (fun u wr => ∃ k : Nat, k ≤ m ∧ u = .int .i64 k ∧ (∀ j, j < k → (!notJob (c j)) = true) ∧ ∃ x : Later w, wr = x.val) (fun u _ => m - (intOf u).toNat)
  case atStart => exact ⟨0, by omega, rfl, by omega, later_of (by repeat (first | exact Below.refl _ _ | (with_reducible assumption) | apply below_later | apply below_alloc | apply below_drew | apply below_drewN))⟩
  case round =>
    obtain ⟨k, hk, rfl, hall, x, rfl⟩ := hrel
    have HALL := Lib.hid hall
    clear hall
    by_cases hlt : k < m
    · obtain ⟨b, off, hB, q⟩ := (HP.out.later x).at_ (by omega)
      subst hB
      have ck := q.at_ k hlt
      have lb := q.lt
      clear q
      have A1 := Lib.hid fun V => HC.out (c k) V
      cases hF : notJob (c k)
      · rw [hF] at A1
        have HN : Hid (∀ j, j < k + 1 → (!notJob (c j)) = true) := all_step HALL.out (by rw [hF]; rfl)
        clear hF
        go_wp2_with (go_at_call 54; with_reducible refine Calls.mono (Gives.calls (A1.out _)) ?_; rintro e w1 ⟨rfl, z, rfl⟩)
        all_goals
          first
            | (refine ⟨⟨k + 1, by omega, by go_num, HN.out, later_of (by repeat (first | exact Below.refl _ _ | (with_reducible assumption) | apply below_later | apply below_alloc | apply below_drew | apply below_drewN))⟩, ?_⟩; simp [intOf]; omega)
            | (go_roundw
               case rel => exact ⟨k + 1, by omega, by go_num, HN.out, later_of (by repeat (first | exact Below.refl _ _ | (with_reducible assumption) | apply below_later | apply below_alloc | apply below_drew | apply below_drewN))⟩
               case measure => simp [intOf]; omega)
      · rw [hF] at A1
        have HT : Hid ((!allB m fun k => !notJob (c k)) = true) := by show _ = _; rw [allB_false (p := fun k => !notJob (c k)) hlt (by rw [hF]; rfl)]; rfl
        clear hF
        go_wp2_with (go_at_call 54; with_reducible refine Calls.mono (Gives.calls (A1.out _)) ?_; rintro e w1 ⟨rfl, z, rfl⟩)
        go_ret
        exact ⟨(k : Int), rfl, later_of (by repeat (first | exact Below.refl _ _ | (with_reducible assumption) | apply below_later | apply below_alloc | apply below_drew | apply below_drewN)), ⟨fun _ => HT.out, fun _ => by omega⟩, by omega, by omega⟩
    · obtain rfl : k = m := by omega
      have HT : Hid ((!allB k fun k => !notJob (c k)) = false) := by show _ = _; rw [allB_true (p := fun k => !notJob (c k)) HALL.out]; rfl
      go_wp2
      go_ret
      exact ⟨(-1 : Int), rfl, later_of (by repeat (first | exact Below.refl _ _ | (with_reducible assumption) | apply below_later | apply below_alloc | apply below_drew | apply below_drewN)), ⟨fun h => by omega, fun h => by rw [HT.out] at h; cases h⟩, by omega, by omega⟩
theorem jcontains_any (m cap : Nat) (A : Option Addr) (c : Nat → Int) (w : World) (hm : m ≤ 1000) (hp : IsInts w A m c) :
    Gives Try.prog 53 #[.slice A m cap, .func (.func 54) #[] #[]] w (.bool (!allB m fun k => !notJob (c k))) := by
  have HI := Lib.hid (jindex_any m cap A c w hm hp)
  clear hp
  generalize (!allB m fun k => !notJob (c k)) = r at *
  go_enter Try.func53, Try.ntmps53
  go_wp2_with (go_at_call 58; refine Calls.mono HI.out ?_; rintro e w1 ⟨q, rfl, ⟨x, rfl⟩, hq, hq1, hq2⟩; have HQ := Lib.hid hq)
  go_ret
  refine ⟨ret_bool ?_, later_of (by repeat (first | exact Below.refl _ _ | (with_reducible assumption) | apply below_later | apply below_alloc | apply below_drew | apply below_drewN))⟩
  have := HQ.out
  cases r <;> simp_all
/-- Is a list a job? -/
def okJob (n : Nat) (f : Nat → Int) : Bool := inI 1 n 10 && allB n fun i => inI 0 (f i) 100
theorem okJob_iff {n : Nat} {f : Nat → Int} : okJob n f = true ↔ (1 ≤ n ∧ n ≤ 10) ∧ ∀ i, i < n → 0 ≤ f i ∧ f i ≤ 100 := by
  simp only [okJob, Bool.and_eq_true, inI_iff, allB_iff]
  exact ⟨fun h => ⟨by omega, h.2⟩, fun h => ⟨by omega, h.2⟩⟩
theorem ret_tup {a b : Int} {v : Value} (h : a = b) : Ending.returned (.tuple #[.int .i64 a, v]) = .returned (.tuple #[.int .i64 b, v]) := by rw [h]
theorem okJob_nat {n : Nat} {f : Nat → Int} (h : okJob n f = true) : ∃ g : Nat → Nat, (∀ i, i < n → f i = (g i : Nat)) ∧ ∀ i, g i ≤ 100 := by
  have hj := (okJob_iff.1 h).2
  refine ⟨fun i => if i < n then (f i).toNat else 0, fun i hi => ?_, fun i => ?_⟩
  · show f i = ((if i < n then (f i).toNat else 0 : Nat) : Int)
    rw [if_pos hi]
    have := hj i hi
    omega
  · show (if i < n then (f i).toNat else 0) ≤ 100
    split
    · have := hj i (by assumption)
      omega
    · omega
set_option maxRecDepth 100000 in
theorem isJob_any (n cap : Nat) (A : Option Addr) (f : Nat → Int) (w : World) (hn : n ≤ 9223372036854775807) (hp : IsInts w A n f) :
    Gives Try.prog 49 #[.slice A n cap] w (.bool (okJob n f)) := by
  have BT := Lib.hid fun V => between_any 1 n 10 V
  have HE : Hid (okJob n f = (inI 1 n 10 && allB n fun i => inI 0 (f i) 100)) := rfl
  have HV : Hid (inI 1 n 10 = true → n ≤ 10) := fun h => by have := inI_iff.1 h; omega
  have HP := Lib.hid hp
  clear hp
  generalize okJob n f = res at *
  generalize inI 1 n 10 = r1 at *
  cases r1
  · go_enter Try.func49, Try.ntmps49
    go_wp2_with (go_at_call 37; with_reducible refine Calls.mono (Gives.calls (BT.out _)) ?_; rintro e w1 ⟨rfl, z, rfl⟩)
    go_ret
    exact ⟨ret_bool (by rw [HE.out]; rfl), later_of (by repeat (first | exact Below.refl _ _ | (with_reducible assumption) | apply below_later | apply below_alloc | apply below_drew | apply below_drewN))⟩
  · have hn10 := HV.out rfl
    have CF := Lib.hid fun (V : World) (hb : Below w.heap.size w V) => jcontains_any n cap A f V (by omega) (HP.out.below hb)
    have e : (fun i => !notJob (f i)) = fun i => inI 0 (f i) 100 := by funext j; simp [notJob]
    rw [e] at CF
    generalize allB n (fun i => inI 0 (f i) 100) = r at *
    go_enter Try.func49, Try.ntmps49
    go_wp2_with (first | (go_at_call 37; with_reducible refine Calls.mono (Gives.calls (BT.out _)) ?_; rintro e w1 ⟨rfl, z, rfl⟩) | (go_at_call 53; with_reducible refine Calls.mono (Gives.calls (CF.out _ (by repeat (first | exact Below.refl _ _ | (with_reducible assumption) | apply below_later | apply below_alloc | apply below_drew | apply below_drewN)))) ?_; rintro e w1 ⟨rfl, z2, rfl⟩))
    go_ret
    exact ⟨ret_bool (by rw [HE.out]; simp), later_of (by repeat (first | exact Below.refl _ _ | (with_reducible assumption) | apply below_later | apply below_alloc | apply below_drew | apply below_drewN))⟩
def jobE (n : Nat) (f : Nat → Int) (h : Int) : Int := if okJob n f = false then 82 else if inI 1 h 10 = false then 2 else 0
theorem jobE_cases (n : Nat) (f : Nat → Int) (h : Int) : jobE n f h = 0 ∨ jobE n f h = 82 ∨ jobE n f h = 2 := by
  unfold jobE
  split
  · simp
  · split <;> simp
theorem jobE_ok {n : Nat} {f : Nat → Int} {h : Int} (e : jobE n f h = 0) : okJob n f = true ∧ 1 ≤ h ∧ h ≤ 10 := by
  unfold jobE at e
  split at e
  · cases e
  · split at e
    · cases e
    · rename_i h1 h2
      exact ⟨by simpa using h1, inI_iff.1 (by simpa using h2)⟩
set_option maxRecDepth 100000 in
theorem checkJob_any (n cap : Nat) (A : Option Addr) (f : Nat → Int) (h : Int) (w : World) (hn : n ≤ 9223372036854775807) (hp : IsInts w A n f) :
    Gives Try.prog 42 #[.slice A n cap, .int .i64 h] w (.int .i64 (jobE n f h)) := by
  have IJ := Lib.hid fun (V : World) (hb : Below w.heap.size w V) => isJob_any n cap A f V hn (hp.below hb)
  have BT := Lib.hid fun V => between_any 1 h 10 V
  have HE : Hid (jobE n f h = if okJob n f = false then 82 else if inI 1 h 10 = false then 2 else 0) := rfl
  clear hp
  generalize jobE n f h = res at *
  generalize okJob n f = r1 at *
  generalize inI 1 h 10 = r2 at *
  cases r1 <;> cases r2
  all_goals
    go_enter Try.func42, Try.ntmps42
    go_wp2_with (first | (go_at_call 49; with_reducible refine Calls.mono (Gives.calls (IJ.out _ (by repeat (first | exact Below.refl _ _ | (with_reducible assumption) | apply below_later | apply below_alloc | apply below_drew | apply below_drewN)))) ?_; rintro e w1 ⟨rfl, z, rfl⟩) | (go_at_call 37; with_reducible refine Calls.mono (Gives.calls (BT.out _)) ?_; rintro e w1 ⟨rfl, z2, rfl⟩))
    go_ret
    exact ⟨ret_int (by rw [HE.out]; rfl), later_of (by repeat (first | exact Below.refl _ _ | (with_reducible assumption) | apply below_later | apply below_alloc | apply below_drew | apply below_drewN))⟩
set_option maxRecDepth 100000 in
set_option maxHeartbeats 1600000 in
theorem max_any (n cap : Nat) (A : Option Addr) (g : Nat → Nat) (w : World) (h0 : 1 ≤ n) (hn : n ≤ 1000) (hg : ∀ i, i < n → g i ≤ 1000000) (hp : IsInts w A n fun i => ((g i : Nat) : Int)) :
    Gives Try.prog 44 #[.slice A n cap] w (.int .i64 (topF g n : Nat)) := by
  have TS := Lib.hid fun k => topF_succ g k
  have T1 : Hid (topF g 1 = g 0) := by show topF g 1 = g 0; rw [topF_succ]; show max 0 (g 0) = _; omega
  have HG := Lib.hid hg
  have TB := Lib.hid fun k (hk : k ≤ n) => topF_le (g := g) (k := k) (b := 1000000) fun i hi => hg i (by omega)
  generalize topF g = T at *
  have HP := Lib.hid hp
  obtain ⟨b, off, hA, q0⟩ := hp.at_ (by omega)
  subst hA
  have c0 := q0.at_ 0 (by omega)
  have lb := q0.lt
  rw [Nat.add_zero] at c0
  have e1 : decide ((n : Int) < 1) = false := by simp; omega
  clear hp q0 hg
  go_enter Try.func44, Try.ntmps44
  go_wp2
  go_loopw [3, 4] (fun u v wr => ∃ k : Nat, u = .int .i64 (T k : Nat) ∧ v = .int .i64 (k : Nat) ∧ 1 ≤ k ∧ k ≤ n ∧ ∃ x : Later w, wr = x.val) (fun _ v _ => n - (intOf v).toNat)
  case atStart => exact ⟨1, by rw [T1.out], rfl, by omega, by omega, later_of (by repeat (first | exact Below.refl _ _ | (with_reducible assumption) | apply below_later | apply below_alloc | apply below_drew | apply below_drewN))⟩
  case round =>
    obtain ⟨k, rfl, rfl, hk1, hk, x, rfl⟩ := hrel
    by_cases hlt : k < n
    · obtain ⟨b', off', hA, q⟩ := (HP.out.later x).at_ (by omega)
      simp only [Option.some.injEq, Addr.mk.injEq, and_true] at hA
      obtain ⟨rfl, rfl⟩ := hA
      have ck := q.at_ k hlt
      have lk := q.lt
      have b1 := TB.out k (by omega)
      have b2 := HG.out k hlt
      have HN := Lib.hid (TS.out k)
      clear q c0
      obtain ⟨t2, ht2⟩ : ∃ t2, T (k + 1) = t2 := ⟨_, rfl⟩
      rw [ht2] at HN
      have HT2 := Lib.hid ht2
      clear ht2
      generalize T k = t at *
      generalize g k = gk at *
      go_wp2_with fail
      all_goals
        first
          | (refine ⟨⟨k + 1, by rw [HT2.out]; congr 1; have := HN.out; omega, by go_num, by omega, by omega, later_of (by repeat (first | exact Below.refl _ _ | (with_reducible assumption) | apply below_later | apply below_alloc | apply below_drew | apply below_drewN))⟩, ?_⟩; simp [intOf]; omega)
          | (go_roundw
             case rel => exact ⟨k + 1, by rw [HT2.out]; congr 1; have := HN.out; omega, by go_num, by omega, by omega, later_of (by repeat (first | exact Below.refl _ _ | (with_reducible assumption) | apply below_later | apply below_alloc | apply below_drew | apply below_drewN))⟩
             case measure => simp [intOf]; omega)
    · obtain rfl : k = n := by omega
      go_wp2_with fail
      go_ret
      exact ⟨rfl, later_of (by repeat (first | exact Below.refl _ _ | (with_reducible assumption) | apply below_later | apply below_alloc | apply below_drew | apply below_drewN))⟩
/-- The least number of hours. -/
def hoursN (g : Nat → Nat) (n h : Nat) : Nat := max (topF g n) (upN (addN g n) h)
set_option maxRecDepth 100000 in
theorem Hours_bad (n cap : Nat) (A : Option Addr) (f : Nat → Int) (h : Int) (w : World) (hn : n ≤ 9223372036854775807) (hp : IsInts w A n f) (he : jobE n f h ≠ 0) :
    Gives Try.prog 26 #[.slice A n cap, .int .i64 h] w (.tuple #[.int .i64 0, .int .i64 (jobE n f h)]) := by
  have CH := Lib.hid fun (V : World) (hb : Below w.heap.size w V) => checkJob_any n cap A f h V hn (hp.below hb)
  generalize jobE n f h = E at *
  have e1 : (E != 0) = true := by simpa using he
  clear hp he
  go_enter Try.func26, Try.ntmps26
  go_wp2_with (go_at_call 42; with_reducible refine Calls.mono (Gives.calls (CH.out _ (by repeat (first | exact Below.refl _ _ | (with_reducible assumption) | apply below_later | apply below_alloc | apply below_drew | apply below_drewN)))) ?_; rintro e w1 ⟨rfl, z, rfl⟩)
  go_ret2
  exact ⟨rfl, later_of (by repeat (first | exact Below.refl _ _ | (with_reducible assumption) | apply below_later | apply below_alloc | apply below_drew | apply below_drewN))⟩
set_option maxRecDepth 100000 in
set_option maxHeartbeats 1600000 in
theorem Hours_ok (n cap h : Nat) (A : Option Addr) (g : Nat → Nat) (w : World) (hp : IsInts w A n fun i => ((g i : Nat) : Int)) (he : jobE n (fun i => ((g i : Nat) : Int)) h = 0) :
    Gives Try.prog 26 #[.slice A n cap, .int .i64 h] w (.tuple #[.int .i64 (hoursN g n h : Nat), .int .i64 0]) := by
  obtain ⟨hj, h1, h10⟩ := jobE_ok he
  obtain ⟨⟨n1, n10⟩, hv⟩ := okJob_iff.1 hj
  have hgb : ∀ i, i < n → g i ≤ 100 := fun i hi => by have := (hv i hi).2; omega
  have CH := Lib.hid fun (V : World) (hb : Below w.heap.size w V) => he ▸ checkJob_any n cap A _ h V (by omega) (hp.below hb)
  have MX := Lib.hid fun (V : World) (hb : Below w.heap.size w V) => max_any n cap A g V n1 (by omega) (fun i hi => by have := hgb i hi; omega) (hp.below hb)
  have AB := Lib.hid fun k (hk : k ≤ n) => addN_le (g := g) (k := k) (b := 100) fun i hi => hgb i (by omega)
  have hsum : addN g n ≤ 1000 := by have := AB.out n (Nat.le_refl _); omega
  have RU := Lib.hid fun V => roundedUp_any (addN g n) h V (by omega) (by omega) (by omega)
  have hup : upN (addN g n) h ≤ 1100 := Nat.le_trans (Nat.div_le_self _ _) (by omega)
  have htop := topF_le (g := g) (k := n) (b := 100) hgb
  have HH : Hid (hoursN g n h = max (topF g n) (upN (addN g n) h)) := rfl
  have AS := Lib.hid fun k => addN_succ g k
  have A0 : Hid (addN g 0 = 0) := rfl
  have HG := Lib.hid hgb
  have HP := Lib.hid hp
  generalize hoursN g n h = res at *
  generalize topF g n = tp at *
  generalize upN (addN g n) h = up at *
  generalize addN g = S at *
  clear hp he hj hv hgb
  go_enter Try.func26, Try.ntmps26
  go_wp2_with (go_at_call 42; with_reducible refine Calls.mono (Gives.calls (CH.out _ (by repeat (first | exact Below.refl _ _ | (with_reducible assumption) | apply below_later | apply below_alloc | apply below_drew | apply below_drewN)))) ?_; rintro e w1 ⟨rfl, z, rfl⟩)
  have HZ : Hid (Below w.heap.size w z.val) := by show Below _ _ _; repeat (first | exact Below.refl _ _ | (with_reducible assumption) | apply below_later | apply below_alloc | apply below_drew | apply below_drewN)
  clear CH
  generalize z.val = Z at *
  go_loopw [7, 18] (fun u v wr => ∃ k : Nat, u = .int .i64 (S k : Nat) ∧ v = .int .i64 (k : Nat) ∧ k ≤ n ∧ ∃ x : Later Z, wr = x.val) (fun _ v _ => n - (intOf v).toNat)
  case atStart => exact ⟨0, by rw [A0.out]; rfl, rfl, by omega, later_of (by repeat (first | exact Below.refl _ _ | (with_reducible assumption) | apply below_later | apply below_alloc | apply below_drew | apply below_drewN))⟩
  case round =>
    obtain ⟨k, rfl, rfl, hk, x, rfl⟩ := hrel
    by_cases hlt : k < n
    · obtain ⟨b', off', hA, q⟩ := (HP.out.below (below_more HZ.out x.ok)).at_ (by omega)
      subst hA
      have ck := q.at_ k hlt
      have lk := q.lt
      have b1 := AB.out k (by omega)
      have b2 := HG.out k hlt
      have HN := Lib.hid (AS.out k)
      clear q
      obtain ⟨t2, ht2⟩ : ∃ t2, S (k + 1) = t2 := ⟨_, rfl⟩
      rw [ht2] at HN
      have HT2 := Lib.hid ht2
      clear ht2
      generalize S k = t at *
      generalize g k = gk at *
      go_wp2_with fail
      all_goals
        first
          | (refine ⟨⟨k + 1, by rw [HT2.out]; congr 1; have := HN.out; omega, by go_num, by omega, later_of (by repeat (first | exact Below.refl _ _ | (with_reducible assumption) | apply below_later | apply below_alloc | apply below_drew | apply below_drewN))⟩, ?_⟩; simp [intOf]; omega)
          | (go_roundw
             case rel => exact ⟨k + 1, by rw [HT2.out]; congr 1; have := HN.out; omega, by go_num, by omega, later_of (by repeat (first | exact Below.refl _ _ | (with_reducible assumption) | apply below_later | apply below_alloc | apply below_drew | apply below_drewN))⟩
             case measure => simp [intOf]; omega)
    · obtain rfl : k = n := by omega
      have HBX : Hid (Below w.heap.size w x.val) := below_more HZ.out x.ok
      generalize x.val = X at *
      generalize S k = t at *
      go_wp2_with (first | (go_at_call 44; with_reducible refine Calls.mono (Gives.calls (MX.out _ (below_more HBX.out (by repeat (first | exact Below.refl _ _ | (with_reducible assumption) | apply below_later | apply below_alloc | apply below_drew | apply below_drewN))))) ?_; rintro e w1 ⟨rfl, z2, rfl⟩) | (go_at_call 35; with_reducible refine Calls.mono (Gives.calls (RU.out _)) ?_; rintro e w1 ⟨rfl, z3, rfl⟩))
      all_goals
        go_ret2
        exact ⟨by rw [HH.out]; exact ret_tup (by omega), later_of (below_more HBX.out (by repeat (first | exact Below.refl _ _ | (with_reducible assumption) | apply below_later | apply below_alloc | apply below_drew | apply below_drewN)))⟩
end Go.Proofs.Ytcjahpbbkdkbpaa
