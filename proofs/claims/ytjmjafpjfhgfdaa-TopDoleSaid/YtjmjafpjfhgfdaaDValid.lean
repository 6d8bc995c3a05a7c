/- dole's Valid, IsShare and check: walked. -/
import Derived.Test.YtjmjafpjfhgfdaaDBase
import Derived.Test.YtjmjafpjfhgfdaaDMath
namespace Go.Proofs.Ytjmjafpjfhgfdaa
open Go.RowKit

/-- Is a value as described? -/
def okV (x : Int) : Bool := decide (0 ≤ x) && decide (x ≤ 1000)
def rowB (n : Nat) (f : Nat → Int) : Bool := decide (n ≤ 12) && allB n fun j => okV (f j)
def tabB (k : Nat) (R : Nat → Row) : Bool := decide (0 < k) && (decide (k ≤ 6) && allB k fun i => decide ((R i).n = (R 0).n) && rowB (R i).n (R i).f)
/-- What values keep to. -/
structure Vals (k n : Nat) (R : Nat → Row) : Prop where
  k1 : 0 < k
  k6 : k ≤ 6
  n12 : n ≤ 12
  len : ∀ i, i < k → (R i).n = n
  val : ∀ i, i < k → ∀ j, j < n → 0 ≤ (R i).f j ∧ (R i).f j ≤ 1000
theorem rowB_iff {n : Nat} {f : Nat → Int} : rowB n f = true ↔ n ≤ 12 ∧ ∀ j, j < n → 0 ≤ f j ∧ f j ≤ 1000 := by
  unfold rowB okV
  simp only [Bool.and_eq_true, decide_eq_true_eq, allB_iff]
theorem tabB_iff {k : Nat} {R : Nat → Row} : tabB k R = true ↔ Vals k (R 0).n R := by
  unfold tabB
  simp only [Bool.and_eq_true, decide_eq_true_eq, allB_iff]
  constructor
  · rintro ⟨h1, h2, h3⟩
    have h4 := rowB_iff.1 (h3 0 h1).2
    exact ⟨h1, h2, h4.1, fun i hi => (h3 i hi).1, fun i hi j hj => (rowB_iff.1 (h3 i hi).2).2 j (by rw [(h3 i hi).1]; exact hj)⟩
  · rintro ⟨h1, h2, h3, h4, h5⟩
    exact ⟨h1, h2, fun i hi => ⟨h4 i hi, rowB_iff.2 ⟨by rw [h4 i hi]; exact h3, fun j hj => h5 i hi j (by rw [← h4 i hi]; exact hj)⟩⟩⟩
theorem isRow1_any (x : Int) (w : World) : Gives Try.prog 74 #[.int .i64 x] w (.bool (!okV x)) := by
  by_cases h1 : x < 0
  · go_enter Try.func74, Try.ntmps74
    go_wp2
    go_ret
    exact ⟨ret_bool (by unfold okV; simp; omega), later_of (by repeat (first | exact Below.refl _ _ | (with_reducible assumption) | apply below_later | apply below_alloc | apply below_drew | apply below_drewN))⟩
  · by_cases h2 : 1000 < x
    all_goals
      go_enter Try.func74, Try.ntmps74
      go_wp2
      go_ret
      exact ⟨ret_bool (by unfold okV; simp; omega), later_of (by repeat (first | exact Below.refl _ _ | (with_reducible assumption) | apply below_later | apply below_alloc | apply below_drew | apply below_drewN))⟩
set_option maxRecDepth 100000 in
set_option maxHeartbeats 1600000 in
theorem rindex_any (m cap : Nat) (A : Option Addr) (c : Nat → Int) (p : Nat → Bool) (w : World) (hm : m ≤ 1000) (hp : IsInts w A m c)
    (hc : ∀ V, Below w.heap.size w V → ∀ k, k < m → Gives Try.prog 74 #[.int .i64 (c k)] V (.bool (p k))) :
    Calls Try.prog 81 #[.slice A m cap, .func (.func 74) #[] #[]] w fun e w' => ∃ r : Int, e = .returned (.int .i64 r) ∧ (∃ x : Later w, w' = x.val) ∧ (0 ≤ r ↔ (!allB m fun k => !p k) = true) ∧ -1 ≤ r ∧ r ≤ m := by
  have HP := Lib.hid hp
  have HC := Lib.hid hc
  clear hp hc
  go_enter Try.func81, Try.ntmps81
  go_wp2
  go_loopw [8] (fun u wr => ∃ k : Nat, k ≤ m ∧ u = .int .i64 k ∧ (∀ j, j < k → (!p j) = true) ∧ ∃ x : Later w, wr = x.val) (fun u _ => m - (intOf u).toNat)
  case atStart => exact ⟨0, by omega, rfl, by omega, later_of (by repeat (first | exact Below.refl _ _ | (with_reducible assumption) | apply below_later | apply below_alloc | apply below_drew | apply below_drewN))⟩
  case round =>
    obtain ⟨k, hk, rfl, hall, x, rfl⟩ := hrel
    have HALL := Lib.hid hall
    clear hall
    by_cases hlt : k < m
    · obtain ⟨b, off, hB, q⟩ := (HP.out.later x).at_ (by omega)
      subst hB
      have ck := q.at_ k hlt
      have lb := q.lt
      clear q
      have A1 := Lib.hid (HC.out x.val x.ok k hlt)
      cases hF : p k
      · rw [hF] at A1
        have HN : Hid (∀ j, j < k + 1 → (!p j) = true) := all_step HALL.out (by rw [hF]; rfl)
        clear hF
        go_wp2_with (go_at_call 74; (first | (with_reducible show Calls _ _ _ (Later.val _) _; with_reducible refine Calls.mono (Later.call _ (A1.out)) ?_) | (with_reducible refine Calls.mono (Gives.calls (A1.out)) ?_)); rintro e w1 ⟨rfl, z, rfl⟩)
        go_roundw
        case rel => exact ⟨k + 1, by omega, by go_num, HN.out, later_of (by repeat (first | exact Below.refl _ _ | (with_reducible assumption) | apply below_later | apply below_alloc | apply below_drew | apply below_drewN))⟩
        case measure => simp [intOf]; omega
      · rw [hF] at A1
        have HT : Hid ((!allB m fun k => !p k) = true) := by show _ = _; rw [allB_false (p := fun k => !p k) hlt (by rw [hF]; rfl)]; rfl
        clear hF
        go_wp2_with (go_at_call 74; (first | (with_reducible show Calls _ _ _ (Later.val _) _; with_reducible refine Calls.mono (Later.call _ (A1.out)) ?_) | (with_reducible refine Calls.mono (Gives.calls (A1.out)) ?_)); rintro e w1 ⟨rfl, z, rfl⟩)
        go_ret
        exact ⟨(k : Int), rfl, later_of (by repeat (first | exact Below.refl _ _ | (with_reducible assumption) | apply below_later | apply below_alloc | apply below_drew | apply below_drewN)), ⟨fun _ => HT.out, fun _ => by omega⟩, by omega, by omega⟩
    · obtain rfl : k = m := by omega
      have HT : Hid ((!allB k fun k => !p k) = false) := by show _ = _; rw [allB_true (p := fun k => !p k) HALL.out]; rfl
      go_wp2
      go_ret
      exact ⟨(-1 : Int), rfl, later_of (by repeat (first | exact Below.refl _ _ | (with_reducible assumption) | apply below_later | apply below_alloc | apply below_drew | apply below_drewN)), ⟨fun h => by omega, fun h => by rw [HT.out] at h; cases h⟩, by omega, by omega⟩
theorem rcontains_any (m cap : Nat) (A : Option Addr) (c : Nat → Int) (p : Nat → Bool) (w : World) (hm : m ≤ 1000) (hp : IsInts w A m c)
    (hc : ∀ V, Below w.heap.size w V → ∀ k, k < m → Gives Try.prog 74 #[.int .i64 (c k)] V (.bool (p k))) :
    Gives Try.prog 69 #[.slice A m cap, .func (.func 74) #[] #[]] w (.bool (!allB m fun k => !p k)) := by
  have HI := Lib.hid (rindex_any m cap  A c p w hm hp hc)
  clear hp hc
  generalize (!allB m fun k => !p k) = r at *
  go_enter Try.func69, Try.ntmps69
  go_wp2_with (go_at_call 81; refine Calls.mono HI.out ?_; rintro e w1 ⟨q, rfl, ⟨x, rfl⟩, hq, hq1, hq2⟩; have HQ := Lib.hid hq)
  go_ret
  refine ⟨ret_bool ?_, later_of (by repeat (first | exact Below.refl _ _ | (with_reducible assumption) | apply below_later | apply below_alloc | apply below_drew | apply below_drewN))⟩
  have := HQ.out
  cases r <;> simp_all
set_option maxRecDepth 100000 in
theorem isRow_any (n cap : Nat) (A : Option Addr) (f : Nat → Int) (w : World) (hp : n ≤ 12 → IsInts w A n f) : Gives Try.prog 55 #[.slice A n cap] w (.bool (rowB n f)) := by
  have HR : Hid (rowB n f = (decide (n ≤ 12) && allB n fun j => okV (f j))) := rfl
  have CF := Lib.hid fun (V : World) (hn : n ≤ 12) (hb : Below w.heap.size w V) => rcontains_any n cap A f (fun j => !okV (f j)) V (by omega) ((hp hn).below hb) fun V' _ j _ => isRow1_any (f j) V'
  have e : (fun j => !(!okV (f j))) = fun j => okV (f j) := by funext j; simp
  have CF2 : Hid (∀ V, n ≤ 12 → Below w.heap.size w V → Gives Try.prog 69 #[.slice A n cap, .func (.func 74) #[] #[]] V (.bool (!allB n fun j => okV (f j)))) := fun V h hb => by
    have := CF.out V h hb
    rw [e] at this
    exact this
  clear CF e hp
  generalize allB n (fun j => okV (f j)) = r0 at *
  generalize rowB n f = r at *
  by_cases h1 : n ≤ 12
  · go_enter Try.func55, Try.ntmps55
    go_wp2_with (go_at_call 69; with_reducible refine Calls.mono (Gives.calls (CF2.out _ h1 (by repeat (first | exact Below.refl _ _ | (with_reducible assumption) | apply below_later | apply below_alloc | apply below_drew | apply below_drewN)))) ?_; rintro e w1 ⟨rfl, z, rfl⟩)
    go_ret
    exact ⟨ret_bool (by rw [HR.out, decide_eq_true h1]; simp), later_of (by repeat (first | exact Below.refl _ _ | (with_reducible assumption) | apply below_later | apply below_alloc | apply below_drew | apply below_drewN))⟩
  · go_enter Try.func55, Try.ntmps55
    go_wp2
    go_ret
    exact ⟨ret_bool (by rw [HR.out, decide_eq_false h1]; rfl), later_of (by repeat (first | exact Below.refl _ _ | (with_reducible assumption) | apply below_later | apply below_alloc | apply below_drew | apply below_drewN))⟩
set_option maxRecDepth 100000 in
theorem valid1_any (k cap bv i : Nat) (A : Option Addr) (R : Nat → Row) (w : World) (hi : i < k) (hp : IsTab w A k R) (hb : w.heap[bv]? = some (.cells #[.slice A k cap] 22 (0, 0))) :
    Gives Try.prog 54 #[(R i).val, .pointer (some ⟨bv, 0, none⟩)] w (.bool (!(decide ((R i).n = (R 0).n) && rowB (R i).n (R i).f))) := by
  obtain ⟨b0, _, b2⟩ := box_facts hb
  obtain ⟨b, off, hB, hlt, hc⟩ := hp.at_ (by omega)
  subst hB
  have c0 : w.cell? ⟨b, off, none⟩ = some (R 0).val := hc 0 (by omega)
  have IR := Lib.hid fun (V : World) (h : Below w.heap.size w V) => isRow_any (R i).n (R i).c (R i).a (R i).f V fun _ => (hp.row i hi).1.below h
  clear hp hb hc
  unfold Row.val at *
  generalize rowB (R i).n (R i).f = r at *
  generalize R i = ri at *
  generalize R 0 = ro at *
  by_cases h1 : ri.n = ro.n
  · have e1 : ((ri.n : Int) != (ro.n : Int)) = false := by rw [h1]; simp
    have H1 := Lib.hid h1
    clear h1
    go_enter Try.func54, Try.ntmps54
    go_wp2_with (go_at_call 55; with_reducible refine Calls.mono (Gives.calls (IR.out _ (by repeat (first | exact Below.refl _ _ | (with_reducible assumption) | apply below_later | apply below_alloc | apply below_drew | apply below_drewN)))) ?_; rintro e w1 ⟨rfl, y, rfl⟩)
    go_ret
    exact ⟨ret_bool (by simp [H1.out]), later_of (by repeat (first | exact Below.refl _ _ | (with_reducible assumption) | apply below_later | apply below_alloc | apply below_drew | apply below_drewN))⟩
  · have e1 : ((ri.n : Int) != (ro.n : Int)) = true := by simp; omega
    have H1 := Lib.hid h1
    clear h1
    go_enter Try.func54, Try.ntmps54
    go_wp2_with (go_at_call 55; with_reducible refine Calls.mono (Gives.calls (IR.out _ (by repeat (first | exact Below.refl _ _ | (with_reducible assumption) | apply below_later | apply below_alloc | apply below_drew | apply below_drewN)))) ?_; rintro e w1 ⟨rfl, y, rfl⟩)
    go_ret
    exact ⟨ret_bool (by simp [H1.out]), later_of (by repeat (first | exact Below.refl _ _ | (with_reducible assumption) | apply below_later | apply below_alloc | apply below_drew | apply below_drewN))⟩
set_option maxRecDepth 100000 in
set_option maxHeartbeats 1600000 in
theorem vindex_any (m cap bv : Nat) (A : Option Addr) (R : Nat → Row) (p : Nat → Bool) (w : World) (hm : m ≤ 1000) (hp : IsTab w A m R)
    (hc : ∀ V, Below w.heap.size w V → ∀ k, k < m → Gives Try.prog 54 #[(R k).val, .pointer (some ⟨bv, 0, none⟩)] V (.bool (p k))) :
    Calls Try.prog 73 #[.slice A m cap, .func (.func 54) #[] #[.pointer (some ⟨bv, 0, none⟩)]] w fun e w' => ∃ r : Int, e = .returned (.int .i64 r) ∧ (∃ x : Later w, w' = x.val) ∧ (0 ≤ r ↔ (!allB m fun k => !p k) = true) ∧ -1 ≤ r ∧ r ≤ m := by
  have HP := Lib.hid hp
  have HC := Lib.hid hc
  clear hp hc
  go_enter Try.func73, Try.ntmps73
  go_wp2
  go_loopw [8] (fun u wr => ∃ k : Nat, k ≤ m ∧ u = .int .i64 k ∧ (∀ j, j < k → (!p j) = true) ∧ ∃ x : Later w, wr = x.val) (fun u _ => m - (intOf u).toNat)
  case atStart => exact ⟨0, by omega, rfl, by omega, later_of (by repeat (first | exact Below.refl _ _ | (with_reducible assumption) | apply below_later | apply below_alloc | apply below_drew | apply below_drewN))⟩
  case round =>
    obtain ⟨k, hk, rfl, hall, x, rfl⟩ := hrel
    have HALL := Lib.hid hall
    clear hall
    by_cases hlt : k < m
    · obtain ⟨b, off, hB, lb, q⟩ := (HP.out.later x).at_ (by omega)
      subst hB
      have ck := q k hlt
      clear q
      have A1 := Lib.hid (HC.out x.val x.ok k hlt)
      unfold Row.val at ck A1
      generalize R k = rk at *
      cases hF : p k
      · rw [hF] at A1
        have HN : Hid (∀ j, j < k + 1 → (!p j) = true) := all_step HALL.out (by rw [hF]; rfl)
        clear hF
        go_wp2_with (go_at_call 54; (first | (with_reducible show Calls _ _ _ (Later.val _) _; with_reducible refine Calls.mono (Later.call _ (A1.out)) ?_) | (with_reducible refine Calls.mono (Gives.calls (A1.out)) ?_)); rintro e w1 ⟨rfl, z, rfl⟩)
        go_roundw
        case rel => exact ⟨k + 1, by omega, by go_num, HN.out, later_of (by repeat (first | exact Below.refl _ _ | (with_reducible assumption) | apply below_later | apply below_alloc | apply below_drew | apply below_drewN))⟩
        case measure => simp [intOf]; omega
      · rw [hF] at A1
        have HT : Hid ((!allB m fun k => !p k) = true) := by show _ = _; rw [allB_false (p := fun k => !p k) hlt (by rw [hF]; rfl)]; rfl
        clear hF
        go_wp2_with (go_at_call 54; (first | (with_reducible show Calls _ _ _ (Later.val _) _; with_reducible refine Calls.mono (Later.call _ (A1.out)) ?_) | (with_reducible refine Calls.mono (Gives.calls (A1.out)) ?_)); rintro e w1 ⟨rfl, z, rfl⟩)
        go_ret
        exact ⟨(k : Int), rfl, later_of (by repeat (first | exact Below.refl _ _ | (with_reducible assumption) | apply below_later | apply below_alloc | apply below_drew | apply below_drewN)), ⟨fun _ => HT.out, fun _ => by omega⟩, by omega, by omega⟩
    · obtain rfl : k = m := by omega
      have HT : Hid ((!allB k fun k => !p k) = false) := by show _ = _; rw [allB_true (p := fun k => !p k) HALL.out]; rfl
      go_wp2
      go_ret
      exact ⟨(-1 : Int), rfl, later_of (by repeat (first | exact Below.refl _ _ | (with_reducible assumption) | apply below_later | apply below_alloc | apply below_drew | apply below_drewN)), ⟨fun h => by omega, fun h => by rw [HT.out] at h; cases h⟩, by omega, by omega⟩
theorem vcontains_any (m cap bv : Nat) (A : Option Addr) (R : Nat → Row) (p : Nat → Bool) (w : World) (hm : m ≤ 1000) (hp : IsTab w A m R)
    (hc : ∀ V, Below w.heap.size w V → ∀ k, k < m → Gives Try.prog 54 #[(R k).val, .pointer (some ⟨bv, 0, none⟩)] V (.bool (p k))) :
    Gives Try.prog 53 #[.slice A m cap, .func (.func 54) #[] #[.pointer (some ⟨bv, 0, none⟩)]] w (.bool (!allB m fun k => !p k)) := by
  have HI := Lib.hid (vindex_any m cap bv  A R p w hm hp hc)
  clear hp hc
  generalize (!allB m fun k => !p k) = r at *
  go_enter Try.func53, Try.ntmps53
  go_wp2_with (go_at_call 73; refine Calls.mono HI.out ?_; rintro e w1 ⟨q, rfl, ⟨x, rfl⟩, hq, hq1, hq2⟩; have HQ := Lib.hid hq)
  go_ret
  refine ⟨ret_bool ?_, later_of (by repeat (first | exact Below.refl _ _ | (with_reducible assumption) | apply below_later | apply below_alloc | apply below_drew | apply below_drewN))⟩
  have := HQ.out
  cases r <;> simp_all
theorem big_rows {k : Nat} {R : Nat → Row} {i : Nat} (hi : i < k) (h : (decide ((R i).n = (R 0).n) && rowB (R i).n (R i).f) = false) : tabB k R = false := by
  unfold tabB
  rw [allB_false (p := fun i => decide ((R i).n = (R 0).n) && rowB (R i).n (R i).f) hi h]
  simp
set_option maxRecDepth 100000 in
theorem valid_any (k cap : Nat) (A : Option Addr) (R : Nat → Row) (w : World) (hp : IsTab w A k R) : Gives Try.prog 20 #[.slice A k cap] w (.bool (tabB k R)) := by
  have HR : Hid (tabB k R = (decide (0 < k) && (decide (k ≤ 6) && allB k fun i => decide ((R i).n = (R 0).n) && rowB (R i).n (R i).f))) := rfl
  have hbx : Below w.heap.size w (w.alloc (.cells #[.slice A k cap] 22)) := (Below.refl _ _).alloc (Nat.le_refl _) _
  have hnew := one_box w (.slice A k cap) 22
  have HP := Lib.hid (hp.below hbx)
  clear hp
  by_cases h1 : k = 0
  · subst h1
    go_enter Try.func20, Try.ntmps20
    go_wp2
    go_ret
    exact ⟨ret_bool (by rw [HR.out]; rfl), later_of (by repeat (first | exact Below.refl _ _ | (with_reducible assumption) | apply below_later | apply below_alloc | apply below_drew | apply below_drewN))⟩
  · have e1 : ((k : Int) == 0) = false := by simp; omega
    by_cases h2 : 6 < k
    · have e2 : decide ((6 : Int) < (k : Int)) = true := by simp; omega
      go_enter Try.func20, Try.ntmps20
      go_wp2
      go_ret
      exact ⟨ret_bool (by rw [HR.out, decide_eq_false (by omega : ¬ k ≤ 6)]; simp), later_of (by repeat (first | exact Below.refl _ _ | (with_reducible assumption) | apply below_later | apply below_alloc | apply below_drew | apply below_drewN))⟩
    · have e2 : decide ((6 : Int) < (k : Int)) = false := by simp; omega
      have CF := Lib.hid fun (V : World) (hb : Below (w.alloc (.cells #[.slice A k cap] 22)).heap.size (w.alloc (.cells #[.slice A k cap] 22)) V) => vcontains_any k cap w.heap.size A R (fun i => !(decide ((R i).n = (R 0).n) && rowB (R i).n (R i).f)) V (by omega) (HP.out.below hb) fun V' hV' i hi =>
        valid1_any k cap w.heap.size i A R V' hi ((HP.out.below hb).below hV') (((below_more hb hV').block _ (get_lt hnew)).trans hnew)
      have e : (fun i => !(!(decide ((R i).n = (R 0).n) && rowB (R i).n (R i).f))) = fun i => decide ((R i).n = (R 0).n) && rowB (R i).n (R i).f := by funext j; simp
      have CF2 : Hid (∀ V, Below (w.alloc (.cells #[.slice A k cap] 22)).heap.size (w.alloc (.cells #[.slice A k cap] 22)) V → Gives Try.prog 53 #[.slice A k cap, .func (.func 54) #[] #[.pointer (some ⟨w.heap.size, 0, none⟩)]] V (.bool (!allB k fun i => decide ((R i).n = (R 0).n) && rowB (R i).n (R i).f))) := fun V h => by
        have := CF.out V h
        rw [e] at this
        exact this
      clear CF e hbx
      have c0 : (w.alloc (.cells #[.slice A k cap] 22)).cell? ⟨w.heap.size, 0, none⟩ = some (.slice A k cap) := (box_facts hnew).1
      clear hnew
      have HD : Hid (tabB k R = allB k fun i => decide ((R i).n = (R 0).n) && rowB (R i).n (R i).f) := by show _ = _; rw [HR.out, decide_eq_true (by omega : 0 < k), decide_eq_true (by omega : k ≤ 6)]; rfl
      generalize allB k (fun i => decide ((R i).n = (R 0).n) && rowB (R i).n (R i).f) = r0 at *
      go_enter Try.func20, Try.ntmps20
      go_wp2_with (go_at_call 53; with_reducible refine Calls.mono (Gives.calls (CF2.out _ (by repeat (first | exact Below.refl _ _ | (with_reducible assumption) | apply below_later | apply below_alloc | apply below_drew | apply below_drewN)))) ?_; rintro e w1 ⟨rfl, z, rfl⟩)
      go_ret
      exact ⟨ret_bool (by rw [HD.out]; try simp), later_of (by repeat (first | exact Below.refl _ _ | (with_reducible assumption) | apply below_later | apply below_alloc | apply below_drew | apply below_drewN))⟩
theorem isCommoner_any (k cap : Nat) (A : Option Addr) (x : Int) (w : World) : Gives Try.prog 71 #[.slice A k cap, .int .i64 x] w (.bool (inS k x)) := by
  have HR : Hid (inS k x = (decide (0 ≤ x) && decide (x < (k : Int)))) := by
    show inS k x = _
    unfold inS
    simp
  generalize inS k x = r at *
  by_cases h1 : 0 ≤ x <;> by_cases h2 : x < (k : Int)
  all_goals
    go_enter Try.func71, Try.ntmps71
    go_wp2
    go_ret
    exact ⟨ret_bool (by rw [HR.out]; simp [h1, h2]), later_of (by repeat (first | exact Below.refl _ _ | (with_reducible assumption) | apply below_later | apply below_alloc | apply below_drew | apply below_drewN))⟩
set_option maxRecDepth 100000 in
theorem give1_any (k cap bv : Nat) (A : Option Addr) (x : Int) (w : World) (hb : w.heap[bv]? = some (.cells #[.slice A k cap] 22 (0, 0))) :
    Gives Try.prog 70 #[.int .i64 x, .pointer (some ⟨bv, 0, none⟩)] w (.bool (!inS k x)) := by
  obtain ⟨b0, _, b2⟩ := box_facts hb
  have IC := Lib.hid fun V => isCommoner_any k cap A x V
  clear hb
  generalize inS k x = r at *
  go_enter Try.func70, Try.ntmps70
  go_wp2_with (go_at_call 71; with_reducible refine Calls.mono (Gives.calls (IC.out _)) ?_; rintro e w1 ⟨rfl, z, rfl⟩)
  go_ret
  exact ⟨rfl, later_of (by repeat (first | exact Below.refl _ _ | (with_reducible assumption) | apply below_later | apply below_alloc | apply below_drew | apply below_drewN))⟩
set_option maxRecDepth 100000 in
set_option maxHeartbeats 1600000 in
theorem gindex_any (m cap bv : Nat) (A : Option Addr) (c : Nat → Int) (p : Nat → Bool) (w : World) (hm : m ≤ 1000) (hp : IsInts w A m c)
    (hc : ∀ V, Below w.heap.size w V → ∀ k, k < m → Gives Try.prog 70 #[.int .i64 (c k), .pointer (some ⟨bv, 0, none⟩)] V (.bool (p k))) :
    Calls Try.prog 81 #[.slice A m cap, .func (.func 70) #[] #[.pointer (some ⟨bv, 0, none⟩)]] w fun e w' => ∃ r : Int, e = .returned (.int .i64 r) ∧ (∃ x : Later w, w' = x.val) ∧ (0 ≤ r ↔ (!allB m fun k => !p k) = true) ∧ -1 ≤ r ∧ r ≤ m := by
  have HP := Lib.hid hp
  have HC := Lib.hid hc
  clear hp hc
  go_enter Try.func81, Try.ntmps81
  go_wp2
  go_loopw [8] (fun u wr => ∃ k : Nat, k ≤ m ∧ u = .int .i64 k ∧ (∀ j, j < k → (!p j) = true) ∧ ∃ x : Later w, wr = x.val) (fun u _ => m - (intOf u).toNat)
  case atStart => exact ⟨0, by omega, rfl, by omega, later_of (by repeat (first | exact Below.refl _ _ | (with_reducible assumption) | apply below_later | apply below_alloc | apply below_drew | apply below_drewN))⟩
  case round =>
    obtain ⟨k, hk, rfl, hall, x, rfl⟩ := hrel
    have HALL := Lib.hid hall
    clear hall
    by_cases hlt : k < m
    · obtain ⟨b, off, hB, q⟩ := (HP.out.later x).at_ (by omega)
      subst hB
      have ck := q.at_ k hlt
      have lb := q.lt
      clear q
      have A1 := Lib.hid (HC.out x.val x.ok k hlt)
      cases hF : p k
      · rw [hF] at A1
        have HN : Hid (∀ j, j < k + 1 → (!p j) = true) := all_step HALL.out (by rw [hF]; rfl)
        clear hF
        go_wp2_with (go_at_call 70; (first | (with_reducible show Calls _ _ _ (Later.val _) _; with_reducible refine Calls.mono (Later.call _ (A1.out)) ?_) | (with_reducible refine Calls.mono (Gives.calls (A1.out)) ?_)); rintro e w1 ⟨rfl, z, rfl⟩)
        go_roundw
        case rel => exact ⟨k + 1, by omega, by go_num, HN.out, later_of (by repeat (first | exact Below.refl _ _ | (with_reducible assumption) | apply below_later | apply below_alloc | apply below_drew | apply below_drewN))⟩
        case measure => simp [intOf]; omega
      · rw [hF] at A1
        have HT : Hid ((!allB m fun k => !p k) = true) := by show _ = _; rw [allB_false (p := fun k => !p k) hlt (by rw [hF]; rfl)]; rfl
        clear hF
        go_wp2_with (go_at_call 70; (first | (with_reducible show Calls _ _ _ (Later.val _) _; with_reducible refine Calls.mono (Later.call _ (A1.out)) ?_) | (with_reducible refine Calls.mono (Gives.calls (A1.out)) ?_)); rintro e w1 ⟨rfl, z, rfl⟩)
        go_ret
        exact ⟨(k : Int), rfl, later_of (by repeat (first | exact Below.refl _ _ | (with_reducible assumption) | apply below_later | apply below_alloc | apply below_drew | apply below_drewN)), ⟨fun _ => HT.out, fun _ => by omega⟩, by omega, by omega⟩
    · obtain rfl : k = m := by omega
      have HT : Hid ((!allB k fun k => !p k) = false) := by show _ = _; rw [allB_true (p := fun k => !p k) HALL.out]; rfl
      go_wp2
      go_ret
      exact ⟨(-1 : Int), rfl, later_of (by repeat (first | exact Below.refl _ _ | (with_reducible assumption) | apply below_later | apply below_alloc | apply below_drew | apply below_drewN)), ⟨fun h => by omega, fun h => by rw [HT.out] at h; cases h⟩, by omega, by omega⟩
theorem gcontains_any (m cap bv : Nat) (A : Option Addr) (c : Nat → Int) (p : Nat → Bool) (w : World) (hm : m ≤ 1000) (hp : IsInts w A m c)
    (hc : ∀ V, Below w.heap.size w V → ∀ k, k < m → Gives Try.prog 70 #[.int .i64 (c k), .pointer (some ⟨bv, 0, none⟩)] V (.bool (p k))) :
    Gives Try.prog 69 #[.slice A m cap, .func (.func 70) #[] #[.pointer (some ⟨bv, 0, none⟩)]] w (.bool (!allB m fun k => !p k)) := by
  have HI := Lib.hid (gindex_any m cap bv  A c p w hm hp hc)
  clear hp hc
  generalize (!allB m fun k => !p k) = r at *
  go_enter Try.func69, Try.ntmps69
  go_wp2_with (go_at_call 81; refine Calls.mono HI.out ?_; rintro e w1 ⟨q, rfl, ⟨x, rfl⟩, hq, hq1, hq2⟩; have HQ := Lib.hid hq)
  go_ret
  refine ⟨ret_bool ?_, later_of (by repeat (first | exact Below.refl _ _ | (with_reducible assumption) | apply below_later | apply below_alloc | apply below_drew | apply below_drewN))⟩
  have := HQ.out
  cases r <;> simp_all
/-- Is a list a share-out of n strips among k? -/
def shareB (k n m : Nat) (c : Nat → Int) : Bool := decide (m = n) && allB m fun j => inS k (c j)
theorem shareB_iff {k n m : Nat} {c : Nat → Int} : shareB k n m c = true ↔ m = n ∧ ∀ j, j < m → 0 ≤ c j ∧ c j < k := by
  unfold shareB inS
  simp only [Bool.and_eq_true, decide_eq_true_eq, allB_iff]
set_option maxRecDepth 100000 in
theorem give_any (k cap m cS : Nat) (A S : Option Addr) (R : Nat → Row) (c : Nat → Int) (w : World) (hk : 0 < k) (hp : IsTab w A k R) (hn : (R 0).n ≤ 12) (hc : IsInts w S m c) :
    Gives Try.prog 50 #[.slice A k cap, .slice S m cS] w (.bool (shareB k (R 0).n m c)) := by
  have HR : Hid (shareB k (R 0).n m c = (decide (m = (R 0).n) && allB m fun j => inS k (c j))) := rfl
  have hbx : Below w.heap.size w (w.alloc (.cells #[.slice A k cap] 22)) := (Below.refl _ _).alloc (Nat.le_refl _) _
  have hnew := one_box w (.slice A k cap) 22
  obtain ⟨b, off, hB, hlt, hcell⟩ := (hp.below hbx).at_ (by omega)
  have cA : (w.alloc (.cells #[.slice A k cap] 22)).cell? ⟨b, off, none⟩ = some (R 0).val := hcell 0 (by omega)
  have CF := Lib.hid fun (V : World) (hm : m = (R 0).n) (hb : Below (w.alloc (.cells #[.slice A k cap] 22)).heap.size (w.alloc (.cells #[.slice A k cap] 22)) V) => gcontains_any m cS w.heap.size S c (fun j => !inS k (c j)) V (by omega) (hc.below (below_more hbx hb)) fun V' hV' i hi =>
    give1_any k cap w.heap.size A (c i) V' (((below_more hb hV').block _ (get_lt hnew)).trans hnew)
  have e : (fun i => !(!inS k (c i))) = fun i => inS k (c i) := by funext j; simp
  have CF2 : Hid (∀ V, m = (R 0).n → Below (w.alloc (.cells #[.slice A k cap] 22)).heap.size (w.alloc (.cells #[.slice A k cap] 22)) V → Gives Try.prog 69 #[.slice S m cS, .func (.func 70) #[] #[.pointer (some ⟨w.heap.size, 0, none⟩)]] V (.bool (!allB m fun j => inS k (c j)))) := fun V h hb => by
    have := CF.out V h hb
    rw [e] at this
    exact this
  have c0 : (w.alloc (.cells #[.slice A k cap] 22)).cell? ⟨w.heap.size, 0, none⟩ = some (.slice A k cap) := (box_facts hnew).1
  clear CF e hbx hcell hp hc hnew
  subst hB
  unfold Row.val at cA
  generalize allB m (fun j => inS k (c j)) = r0 at *
  generalize shareB k (R 0).n m c = r at *
  generalize R 0 = ro at *
  by_cases h1 : m = ro.n
  · have e1 : ((m : Int) == (ro.n : Int)) = true := by rw [h1]; simp
    have H1 := Lib.hid h1
    clear h1
    go_enter Try.func50, Try.ntmps50
    go_wp2_with (go_at_call 69; with_reducible refine Calls.mono (Gives.calls (CF2.out _ H1.out (by repeat (first | exact Below.refl _ _ | (with_reducible assumption) | apply below_later | apply below_alloc | apply below_drew | apply below_drewN)))) ?_; rintro e w1 ⟨rfl, y, rfl⟩)
    go_ret
    exact ⟨ret_bool (by rw [HR.out, decide_eq_true H1.out]; simp), later_of (by repeat (first | exact Below.refl _ _ | (with_reducible assumption) | apply below_later | apply below_alloc | apply below_drew | apply below_drewN))⟩
  · have e1 : ((m : Int) == (ro.n : Int)) = false := by simp; omega
    have H1 := Lib.hid h1
    clear h1
    go_enter Try.func50, Try.ntmps50
    go_wp2
    go_ret
    exact ⟨ret_bool (by rw [HR.out, decide_eq_false H1.out]; rfl), later_of (by repeat (first | exact Below.refl _ _ | (with_reducible assumption) | apply below_later | apply below_alloc | apply below_drew | apply below_drewN))⟩
theorem isShare_bad (k cap m cS : Nat) (A S : Option Addr) (R : Nat → Row) (w : World) (hp : IsTab w A k R) (hv : tabB k R = false) :
    Gives Try.prog 15 #[.slice A k cap, .slice S m cS] w (.tuple #[.bool false, .int .i64 70]) := by
  have VA := Lib.hid fun (V : World) (h : Below w.heap.size w V) => hv ▸ valid_any k cap A R V (hp.below h)
  clear hp hv
  go_enter Try.func15, Try.ntmps15
  go_wp2_with (go_at_call 20; with_reducible refine Calls.mono (Gives.calls (VA.out _ (by repeat (first | exact Below.refl _ _ | (with_reducible assumption) | apply below_later | apply below_alloc | apply below_drew | apply below_drewN)))) ?_; rintro e w1 ⟨rfl, z, rfl⟩)
  go_ret2
  exact ⟨rfl, later_of (by repeat (first | exact Below.refl _ _ | (with_reducible assumption) | apply below_later | apply below_alloc | apply below_drew | apply below_drewN))⟩
theorem isShare_ok (k cap m cS n : Nat) (A S : Option Addr) (R : Nat → Row) (c : Nat → Int) (w : World) (hp : IsTab w A k R) (hv : Vals k n R) (hc : IsInts w S m c) :
    Gives Try.prog 15 #[.slice A k cap, .slice S m cS] w (.tuple #[.bool (shareB k n m c), .int .i64 0]) := by
  obtain rfl : (R 0).n = n := hv.len 0 hv.k1
  have VA := Lib.hid fun (V : World) (h : Below w.heap.size w V) => (tabB_iff.2 hv) ▸ valid_any k cap A R V (hp.below h)
  have GA := Lib.hid fun (V : World) (h : Below w.heap.size w V) => give_any k cap m cS A S R c V hv.k1 (hp.below h) hv.n12 (hc.below h)
  clear hp hv hc
  generalize shareB k (R 0).n m c = r at *
  go_enter Try.func15, Try.ntmps15
  go_wp2_with (first | (go_at_call 20; with_reducible refine Calls.mono (Gives.calls (VA.out _ (by repeat (first | exact Below.refl _ _ | (with_reducible assumption) | apply below_later | apply below_alloc | apply below_drew | apply below_drewN)))) ?_; rintro e w1 ⟨rfl, z, rfl⟩) | (go_at_call 50; with_reducible refine Calls.mono (Gives.calls (GA.out _ (by repeat (first | exact Below.refl _ _ | (with_reducible assumption) | apply below_later | apply below_alloc | apply below_drew | apply below_drewN)))) ?_; rintro e w1 ⟨rfl, z2, rfl⟩))
  go_ret2
  exact ⟨rfl, later_of (by repeat (first | exact Below.refl _ _ | (with_reducible assumption) | apply below_later | apply below_alloc | apply below_drew | apply below_drewN))⟩
/-- The error of values and a share-out. -/
def errE (k : Nat) (R : Nat → Row) (m : Nat) (c : Nat → Int) : Int := if tabB k R = false then 70 else if shareB k (R 0).n m c = false then 71 else 0
theorem check_any (k cap m cS : Nat) (A S : Option Addr) (R : Nat → Row) (c : Nat → Int) (w : World) (hp : IsTab w A k R) (hc : IsInts w S m c) :
    Gives Try.prog 51 #[.slice A k cap, .slice S m cS] w (.int .i64 (errE k R m c)) := by
  have HE : Hid (errE k R m c = if tabB k R = false then 70 else if shareB k (R 0).n m c = false then 71 else 0) := rfl
  cases hv : tabB k R
  · have IS := Lib.hid fun (V : World) (h : Below w.heap.size w V) => isShare_bad k cap m cS A S R V (hp.below h) hv
    have HD : Hid (errE k R m c = 70) := by show _ = _; rw [HE.out, if_pos hv]
    clear hp hc hv HE
    go_enter Try.func51, Try.ntmps51
    go_wp2_with (go_at_call 15; with_reducible refine Calls.mono (Gives.calls (IS.out _ (by repeat (first | exact Below.refl _ _ | (with_reducible assumption) | apply below_later | apply below_alloc | apply below_drew | apply below_drewN)))) ?_; rintro e w1 ⟨rfl, z, rfl⟩)
    go_ret
    exact ⟨ret_int HD.out.symm, later_of (by repeat (first | exact Below.refl _ _ | (with_reducible assumption) | apply below_later | apply below_alloc | apply below_drew | apply below_drewN))⟩
  · have IS := Lib.hid fun (V : World) (h : Below w.heap.size w V) => isShare_ok k cap m cS _ A S R c V (hp.below h) (tabB_iff.1 hv) (hc.below h)
    rw [hv, if_neg (by simp)] at HE
    clear hp hc hv
    generalize shareB k (R 0).n m c = r at *
    cases r
    all_goals
      go_enter Try.func51, Try.ntmps51
      go_wp2_with (go_at_call 15; with_reducible refine Calls.mono (Gives.calls (IS.out _ (by repeat (first | exact Below.refl _ _ | (with_reducible assumption) | apply below_later | apply below_alloc | apply below_drew | apply below_drewN)))) ?_; rintro e w1 ⟨rfl, z, rfl⟩)
      go_ret
      exact ⟨ret_int (by rw [HE.out]; rfl), later_of (by repeat (first | exact Below.refl _ _ | (with_reducible assumption) | apply below_later | apply below_alloc | apply below_drew | apply below_drewN))⟩
end Go.Proofs.Ytjmjafpjfhgfdaa
