/- wale.Valid and what it calls; changes in memory. -/
import Derived.Test.YtnjloomhhgilcaaOwnI
import Derived.Test.YtnjloomhhgilcaaWaleMath
namespace Go.Proofs.Ytnjloomhhgilcaa
open Go.RowKit

/-- m changes from cell off of block b on. -/
structure Chs (w : World) (b off m : Nat) (F T V : Nat → Int) : Prop where
  lt : b < w.heap.size
  f : ∀ i, i < m → w.cell? ⟨b, off + i * 3, none⟩ = some (.int .i64 (F i))
  t : ∀ i, i < m → w.cell? ⟨b, off + i * 3 + 1, none⟩ = some (.int .i64 (T i))
  v : ∀ i, i < m → w.cell? ⟨b, off + i * 3 + 2, none⟩ = some (.int .i64 (V i))
theorem Chs.later {w : World} {b off m : Nat} {F T V : Nat → Int} (h : Chs w b off m F T V) (x : Later w) : Chs x.val b off m F T V :=
  ⟨Nat.lt_of_lt_of_le h.lt x.size, fun i hi => (x.cell _ _ h.lt).trans (h.f i hi), fun i hi => (x.cell _ _ h.lt).trans (h.t i hi), fun i hi => (x.cell _ _ h.lt).trans (h.v i hi)⟩
/-- A slice of changes. -/
structure IsChs (w : World) (A : Option Addr) (m : Nat) (F T V : Nat → Int) : Prop where
  small : m ≤ 9223372036854775807
  at_ : 0 < m → ∃ b off, A = some ⟨b, off, none⟩ ∧ Chs w b off m F T V
theorem IsChs.later {w : World} {A : Option Addr} {m : Nat} {F T V : Nat → Int} (h : IsChs w A m F T V) (x : Later w) : IsChs x.val A m F T V :=
  ⟨h.small, fun h0 => let ⟨b, off, e, hp⟩ := h.at_ h0; ⟨b, off, e, hp.later x⟩⟩

/-- Is it a state? -/
def inS (n x : Int) : Bool := decide (0 ≤ x ∧ x < n)
/-- Is a change as described? -/
def okC (n F T V : Int) : Bool := (inS n F && inS n T) && (decide (-1000 ≤ V) && decide (V ≤ 1000))
def validR (n : Int) (m : Nat) (F T V : Nat → Int) : Bool := (decide (1 ≤ n) && decide (n ≤ 8)) && (decide (m ≤ 40) && allB m fun i => okC n (F i) (T i) (V i))

theorem isState_any (n x : Int) (w : World) : Gives Try.prog 54 #[.int .i64 n, .int .i64 x] w (.bool (inS n x)) := by
  have HR : Hid (inS n x = (decide (0 ≤ x) && decide (x < n))) := by
    show inS n x = _
    unfold inS
    simp
  generalize inS n x = r at *
  by_cases h1 : 0 ≤ x <;> by_cases h2 : x < n
  all_goals
    go_enter Try.func54, Try.ntmps54
    go_wp2
    go_ret
    exact ⟨ret_bool (by rw [HR.out]; simp [h1, h2]), later_of (by repeat (first | exact Below.refl _ _ | (with_reducible assumption) | apply below_later | apply below_alloc | apply below_drew | apply below_drewN))⟩

theorem cell_of_heap {w : World} {b : Nat} {cs : Array Value} {t : TypeId} {z : Nat × Nat} (h : w.heap[b]? = some (.cells cs t z)) (i : Nat) (v : Value) (hi : cs[i]? = some v) : w.cell? ⟨b, i, none⟩ = some v := by
  simp [World.cell?, h, hi]
set_option maxRecDepth 100000 in
set_option maxHeartbeats 1600000 in
theorem valid1_any (n F T V : Int) (bk : Nat) (w : World) (h : w.cell? ⟨bk, 0, none⟩ = some (.int .i64 n)) :
    Gives Try.prog 61 #[.agg #[.int .i64 F, .int .i64 T, .int .i64 V], .pointer (some ⟨bk, 0, none⟩)] w (.bool (!okC n F T V)) := by
  have lk := World.block_lt_of_cell? _ _ h
  have HR : Hid ((!okC n F T V) = (((!inS n F) || (!inS n T)) || (decide (V < -1000) || decide (1000 < V)))) := by
    show (!okC n F T V) = _
    unfold okC
    rw [Bool.not_and, Bool.not_and, Bool.not_and, ← decide_not, ← decide_not]
    simp
  have T1 : Hid (∀ w, Gives Try.prog 54 #[.int .i64 n, .int .i64 F] w (.bool (inS n F))) := fun w => isState_any n F w
  have T2 : Hid (∀ w, Gives Try.prog 54 #[.int .i64 n, .int .i64 T] w (.bool (inS n T))) := fun w => isState_any n T w
  generalize (!okC n F T V) = r at *
  generalize inS n F = r1 at *
  generalize inS n T = r2 at *
  rcases r1 with _ | _
  · go_enter Try.func61, Try.ntmps61
    go_wp2_with (first | (go_at_call 54; with_reducible refine Calls.mono (Gives.calls (T1.out _)) ?_; rintro e w1 ⟨rfl, y, rfl⟩) | (go_at_call 54; with_reducible refine Calls.mono (Gives.calls (T2.out _)) ?_; rintro e w1 ⟨rfl, y, rfl⟩))
    go_ret
    exact ⟨ret_bool (by rw [HR.out]; simp), later_of (by repeat (first | exact Below.refl _ _ | (with_reducible assumption) | apply below_later | apply below_alloc | apply below_drew | apply below_drewN))⟩
  rcases r2 with _ | _
  · go_enter Try.func61, Try.ntmps61
    go_wp2_with (first | (go_at_call 54; with_reducible refine Calls.mono (Gives.calls (T1.out _)) ?_; rintro e w1 ⟨rfl, y, rfl⟩) | (go_at_call 54; with_reducible refine Calls.mono (Gives.calls (T2.out _)) ?_; rintro e w1 ⟨rfl, y, rfl⟩))
    go_ret
    exact ⟨ret_bool (by rw [HR.out]; simp), later_of (by repeat (first | exact Below.refl _ _ | (with_reducible assumption) | apply below_later | apply below_alloc | apply below_drew | apply below_drewN))⟩
  by_cases h1 : V < -1000
  · go_enter Try.func61, Try.ntmps61
    go_wp2_with (first | (go_at_call 54; with_reducible refine Calls.mono (Gives.calls (T1.out _)) ?_; rintro e w1 ⟨rfl, y, rfl⟩) | (go_at_call 54; with_reducible refine Calls.mono (Gives.calls (T2.out _)) ?_; rintro e w1 ⟨rfl, y, rfl⟩))
    go_ret
    exact ⟨ret_bool (by rw [HR.out]; simp [h1]), later_of (by repeat (first | exact Below.refl _ _ | (with_reducible assumption) | apply below_later | apply below_alloc | apply below_drew | apply below_drewN))⟩
  by_cases h2 : (1000 : Int) < V
  all_goals
    go_enter Try.func61, Try.ntmps61
    go_wp2_with (first | (go_at_call 54; with_reducible refine Calls.mono (Gives.calls (T1.out _)) ?_; rintro e w1 ⟨rfl, y, rfl⟩) | (go_at_call 54; with_reducible refine Calls.mono (Gives.calls (T2.out _)) ?_; rintro e w1 ⟨rfl, y, rfl⟩))
    go_ret
    exact ⟨ret_bool (by rw [HR.out]; simp [h1, h2]), later_of (by repeat (first | exact Below.refl _ _ | (with_reducible assumption) | apply below_later | apply below_alloc | apply below_drew | apply below_drewN))⟩

set_option maxRecDepth 100000 in
set_option maxHeartbeats 1600000 in
theorem vindex_any (n : Int) (A : Option Addr) (m cap bk : Nat) (F T V : Nat → Int) (w : World) (hm : m ≤ 1000) (hp : IsChs w A m F T V) (h : w.cell? ⟨bk, 0, none⟩ = some (.int .i64 n)) :
    Calls Try.prog 56 #[.slice A m cap, .func (.func 61) #[] #[.pointer (some ⟨bk, 0, none⟩)]] w fun e w' => ∃ r : Int, e = .returned (.int .i64 r) ∧ (∃ x : Later w, w' = x.val) ∧ (0 ≤ r ↔ allB m (fun i => okC n (F i) (T i) (V i)) = false) ∧ -1 ≤ r ∧ r ≤ m := by
  have lk := World.block_lt_of_cell? _ _ h
  have HC := Lib.hid h
  have HP := Lib.hid hp
  clear h hp
  go_enter Try.func56, Try.ntmps56
  go_wp2
  go_loopw [8] (fun u wr => ∃ k : Nat, k ≤ m ∧ u = .int .i64 k ∧ (∀ j, j < k → okC n (F j) (T j) (V j) = true) ∧ ∃ x : Later w, wr = x.val) (fun u _ => m - (intOf u).toNat)
  case atStart => exact ⟨0, by omega, rfl, by omega, later_of (by repeat (first | exact Below.refl _ _ | (with_reducible assumption) | apply below_later | apply below_alloc | apply below_drew | apply below_drewN))⟩
  case round =>
    obtain ⟨k, hk, rfl, hall, x, rfl⟩ := hrel
    have HALL := Lib.hid hall
    clear hall
    by_cases hlt : k < m
    · obtain ⟨b, off, hB, p⟩ := (HP.out.later x).at_ (by omega)
      subst hB
      have cf := p.f k hlt
      have ct := p.t k hlt
      have cv := p.v k hlt
      have lb := p.lt
      clear p
      have A1 : Hid (Gives Try.prog 61 #[.agg #[.int .i64 (F k), .int .i64 (T k), .int .i64 (V k)], .pointer (some ⟨bk, 0, none⟩)] x.val (.bool (!okC n (F k) (T k) (V k)))) := valid1_any n _ _ _ bk x.val ((x.cell bk 0 lk).trans HC.out)
      cases hF : okC n (F k) (T k) (V k)
      · have F0 := Lib.hid hF
        rw [hF] at A1
        clear hF
        go_wp2_with (go_at_call 61; (first | (with_reducible show Calls _ _ _ (Later.val _) _; with_reducible refine Calls.mono (Later.call _ (A1.out)) ?_) | (with_reducible refine Calls.mono (Gives.calls (A1.out)) ?_)); rintro e w1 ⟨rfl, z, rfl⟩)
        go_ret
        exact ⟨(k : Int), rfl, later_of (by repeat (first | exact Below.refl _ _ | (with_reducible assumption) | apply below_later | apply below_alloc | apply below_drew | apply below_drewN)), ⟨fun _ => allB_false hlt F0.out, fun _ => by omega⟩, by omega, by omega⟩
      · have F0 := Lib.hid hF
        rw [hF] at A1
        clear hF
        go_wp2_with (go_at_call 61; (first | (with_reducible show Calls _ _ _ (Later.val _) _; with_reducible refine Calls.mono (Later.call _ (A1.out)) ?_) | (with_reducible refine Calls.mono (Gives.calls (A1.out)) ?_)); rintro e w1 ⟨rfl, z, rfl⟩)
        go_roundw
        case rel => exact ⟨k + 1, by omega, by go_num, all_step HALL.out F0.out, later_of (by repeat (first | exact Below.refl _ _ | (with_reducible assumption) | apply below_later | apply below_alloc | apply below_drew | apply below_drewN))⟩
        case measure => simp [intOf]; omega
    · obtain rfl : k = m := by omega
      go_wp2
      go_ret
      exact ⟨(-1 : Int), rfl, later_of (by repeat (first | exact Below.refl _ _ | (with_reducible assumption) | apply below_later | apply below_alloc | apply below_drew | apply below_drewN)), ⟨fun h => by omega, fun h => by rw [allB_true (p := fun i => okC n (F i) (T i) (V i)) HALL.out] at h; cases h⟩, by omega, by omega⟩
theorem vcontains_any (n : Int) (A : Option Addr) (m cap bk : Nat) (F T V : Nat → Int) (w : World) (hm : m ≤ 1000) (hp : IsChs w A m F T V) (h : w.cell? ⟨bk, 0, none⟩ = some (.int .i64 n)) :
    Gives Try.prog 50 #[.slice A m cap, .func (.func 61) #[] #[.pointer (some ⟨bk, 0, none⟩)]] w (.bool (!allB m fun i => okC n (F i) (T i) (V i))) := by
  have HI := Lib.hid (vindex_any n A m cap bk F T V w hm hp h)
  clear h hp
  generalize allB m (fun i => okC n (F i) (T i) (V i)) = r at *
  go_enter Try.func50, Try.ntmps50
  go_wp2_with (go_at_call 56; refine Calls.mono HI.out ?_; rintro e w1 ⟨q, rfl, ⟨x, rfl⟩, hq, hq1, hq2⟩; have HQ := Lib.hid hq)
  go_ret
  refine ⟨ret_bool ?_, later_of (by repeat (first | exact Below.refl _ _ | (with_reducible assumption) | apply below_later | apply below_alloc | apply below_drew | apply below_drewN))⟩
  have := HQ.out
  cases r <;> simp_all
set_option maxRecDepth 100000 in
set_option maxHeartbeats 1600000 in
theorem wvalid_any (n : Int) (A : Option Addr) (m cap : Nat) (F T V : Nat → Int) (w : World) (hm : m ≤ 1000) (hp : IsChs w A m F T V) :
    Gives Try.prog 42 #[.int .i64 n, .slice A m cap] w (.bool (validR n m F T V)) := by
  have hbk : (w.alloc (.cells #[.int .i64 n] 3)).cell? ⟨w.heap.size, 0, none⟩ = some (.int .i64 n) := cell_of_heap (World.alloc_heap_new _ _) 0 _ rfl
  have C0 : ∀ z : Later (w.alloc (.cells #[.int .i64 n] 3)), Gives Try.prog 50 #[.slice A m cap, .func (.func 61) #[] #[.pointer (some ⟨w.heap.size, 0, none⟩)]] z.val (.bool (!allB m fun i => okC n (F i) (T i) (V i))) := fun z =>
    vcontains_any n A m cap w.heap.size F T V z.val hm (hp.later ⟨z.val, below_later (below_alloc (Below.refl _ _))⟩) ((z.cell _ _ (by simp)).trans hbk)
  have HR : Hid (validR n m F T V = ((decide (1 ≤ n) && decide (n ≤ 8)) && (decide (m ≤ 40) && allB m fun i => okC n (F i) (T i) (V i)))) := rfl
  generalize allB m (fun i => okC n (F i) (T i) (V i)) = r0 at *
  generalize validR n m F T V = r at *
  have C1 := Lib.hid C0
  clear C0 hp
  by_cases h1 : 1 ≤ n
  · by_cases h2 : n ≤ 8
    · by_cases h3 : m ≤ 40
      · have D : Hid (r = r0) := by show _ = _; rw [HR.out]; simp [h1, h2, h3]
        go_enter Try.func42, Try.ntmps42
        go_wp2_with (go_at_call 50; first | (refine Calls.mono (Gives.calls (C1.out _)) ?_; rintro e w1 ⟨rfl, y, rfl⟩) | (refine Calls.mono (Gives.calls (C1.out ⟨_, Below.refl _ _⟩)) ?_; rintro e w1 ⟨rfl, y, rfl⟩))
        go_ret
        exact ⟨ret_bool (by rw [D.out]), later_of (by repeat (first | exact Below.refl _ _ | (with_reducible assumption) | apply below_later | apply below_alloc | apply below_drew | apply below_drewN))⟩
      · have D : Hid (r = false) := by show _ = _; rw [HR.out]; simp [h3]
        go_enter Try.func42, Try.ntmps42
        go_wp2
        go_ret
        exact ⟨ret_bool D.out.symm, later_of (by repeat (first | exact Below.refl _ _ | (with_reducible assumption) | apply below_later | apply below_alloc | apply below_drew | apply below_drewN))⟩
    · have D : Hid (r = false) := by show _ = _; rw [HR.out]; simp [h2]
      go_enter Try.func42, Try.ntmps42
      go_wp2
      go_ret
      exact ⟨ret_bool D.out.symm, later_of (by repeat (first | exact Below.refl _ _ | (with_reducible assumption) | apply below_later | apply below_alloc | apply below_drew | apply below_drewN))⟩
  · have D : Hid (r = false) := by show _ = _; rw [HR.out]; simp [h1]
    go_enter Try.func42, Try.ntmps42
    go_wp2
    go_ret
    exact ⟨ret_bool D.out.symm, later_of (by repeat (first | exact Below.refl _ _ | (with_reducible assumption) | apply below_later | apply below_alloc | apply below_drew | apply below_drewN))⟩
end Go.Proofs.Ytnjloomhhgilcaa
