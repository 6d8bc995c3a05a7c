/- Which fens are valid. -/
import Derived.Test.YtelfinjnbncnlaaLevelsOf
namespace Go.Proofs.Ytelfinjnbncnlaa
open Go.RowKit

def sidesB (x y : Int) : Bool := decide (1 ≤ x ∧ 1 ≤ y) && decide (x ≤ 16 ∧ y ≤ 16)
def numB (g x : Int) : Bool := decide (0 ≤ x ∧ x ≤ g)
def sluB (n : Nat) (a s : Int) : Bool := decide (0 ≤ a ∧ a < n) && numB 1000 s
set_option maxHeartbeats 1600000 in
theorem areSides_any (x y : Int) (w : World) : Gives Try.prog 45 #[.int .i64 x, .int .i64 y] w (.bool (sidesB x y)) := by
  have HR : Hid (sidesB x y = (decide (1 ≤ x ∧ 1 ≤ y) && decide (x ≤ 16 ∧ y ≤ 16))) := rfl
  generalize sidesB x y = r at *
  rcases Int.lt_or_le x y with h | h
  · have hd : decide (x < y) = true := by simpa using h
    by_cases h1 : 1 ≤ x <;> by_cases h2 : y ≤ 16
    all_goals
      have E : Hid (r = (decide (1 ≤ x ∧ 1 ≤ y) && decide (x ≤ 16 ∧ y ≤ 16))) := HR
      first
        | rw [show (decide (1 ≤ x ∧ 1 ≤ y) && decide (x ≤ 16 ∧ y ≤ 16)) = true by simp; omega] at E
        | rw [show (decide (1 ≤ x ∧ 1 ≤ y) && decide (x ≤ 16 ∧ y ≤ 16)) = false by rw [Bool.and_eq_false_iff, decide_eq_false_iff_not, decide_eq_false_iff_not]; omega] at E
      clear HR
      go_enter Try.func45, Try.ntmps45
      go_wp2
      all_goals
        go_ret
        exact ⟨ret_bool (by (rw [E.out]) <;> simp <;> omega), later_of (by repeat (first | exact Below.refl _ _ | (with_reducible assumption) | apply below_later | apply below_alloc | apply below_drew | apply below_drewN))⟩
  · have hd : decide (x < y) = false := by simp; omega
    by_cases h1 : 1 ≤ y <;> by_cases h2 : x ≤ 16
    all_goals
      have E : Hid (r = (decide (1 ≤ x ∧ 1 ≤ y) && decide (x ≤ 16 ∧ y ≤ 16))) := HR
      first
        | rw [show (decide (1 ≤ x ∧ 1 ≤ y) && decide (x ≤ 16 ∧ y ≤ 16)) = true by simp; omega] at E
        | rw [show (decide (1 ≤ x ∧ 1 ≤ y) && decide (x ≤ 16 ∧ y ≤ 16)) = false by rw [Bool.and_eq_false_iff, decide_eq_false_iff_not, decide_eq_false_iff_not]; omega] at E
      clear HR
      go_enter Try.func45, Try.ntmps45
      go_wp2
      all_goals
        go_ret
        exact ⟨ret_bool (by (rw [E.out]) <;> simp <;> omega), later_of (by repeat (first | exact Below.refl _ _ | (with_reducible assumption) | apply below_later | apply below_alloc | apply below_drew | apply below_drewN))⟩
set_option maxHeartbeats 1600000 in
theorem areNumbers_any (A : Option Addr) (n cap : Nat) (f : Nat → Int) (c g : Int) (w : World) (hp : IsInts w A n f) : Gives Try.prog 46 #[.slice A n cap, .int .i64 c, .int .i64 g] w (.bool (decide ((n : Int) = c) && allB n fun i => numB g (f i))) := by
  have small := hp.small
  have HP := Lib.hid hp
  clear hp
  by_cases hc : (n : Int) = c
  · have HR : Hid ((decide ((n : Int) = c) && allB n fun i => numB g (f i)) = allB n fun i => numB g (f i)) := by show _ = _; rw [decide_eq_true hc, Bool.true_and]
    rw [HR.out]
    subst hc
    have q0 : ((n : Int) != (n : Int)) = false := by simp
    clear HR
    go_enter Try.func46, Try.ntmps46
    go_wp2
    go_loopw [15] (fun u wr => ∃ k : Nat, k ≤ n ∧ u = .int .i64 k ∧ (∀ j, j < k → numB g (f j) = true) ∧ ∃ x : Later w, wr = x.val) (fun u _ => n - (intOf u).toNat)
    case atStart => exact ⟨0, by omega, rfl, by omega, later_of (by repeat (first | exact Below.refl _ _ | (with_reducible assumption) | apply below_later | apply below_alloc | apply below_drew | apply below_drewN))⟩
    case round =>
      obtain ⟨k, hk, rfl, hall, x, rfl⟩ := hrel
      have HALL := Lib.hid hall
      clear hall
      by_cases hlt : k < n
      · obtain ⟨b, off, hA, p⟩ := (HP.out.later x).at_ (by omega)
        subst hA
        have ck := p.at_ k hlt
        have lb := p.lt
        clear p
        have HK : Hid (numB g (f k) = decide (0 ≤ f k ∧ f k ≤ g)) := rfl
        by_cases h1 : f k < 0
        · have F : Hid (numB g (f k) = false) := by show _ = _; rw [HK.out]; simp; omega
          clear HK
          generalize hfk : f k = y at *
          go_wp2_with fail
          go_ret
          exact ⟨ret_bool (by symm; exact allB_false hlt (by rw [hfk]; exact F.out)), later_of (by repeat (first | exact Below.refl _ _ | (with_reducible assumption) | apply below_later | apply below_alloc | apply below_drew | apply below_drewN))⟩
        · by_cases h2 : g < f k
          · have F : Hid (numB g (f k) = false) := by show _ = _; rw [HK.out]; simp; omega
            clear HK
            generalize hfk : f k = y at *
            go_wp2_with fail
            go_ret
            exact ⟨ret_bool (by symm; exact allB_false hlt (by rw [hfk]; exact F.out)), later_of (by repeat (first | exact Below.refl _ _ | (with_reducible assumption) | apply below_later | apply below_alloc | apply below_drew | apply below_drewN))⟩
          · have F : Hid (numB g (f k) = true) := by show _ = _; rw [HK.out]; simp; omega
            clear HK
            go_wp2_with fail
            go_roundw
            case rel => exact ⟨k + 1, by omega, by go_num, all_step HALL.out F.out, later_of (by repeat (first | exact Below.refl _ _ | (with_reducible assumption) | apply below_later | apply below_alloc | apply below_drew | apply below_drewN))⟩
            case measure => simp [intOf]; omega
      · obtain rfl : k = n := by omega
        go_wp2
        go_ret
        exact ⟨ret_bool (by symm; exact allB_true HALL.out), later_of (by repeat (first | exact Below.refl _ _ | (with_reducible assumption) | apply below_later | apply below_alloc | apply below_drew | apply below_drewN))⟩
  · have HR : Hid ((decide ((n : Int) = c) && allB n fun i => numB g (f i)) = false) := by show _ = _; rw [decide_eq_false hc, Bool.false_and]
    rw [HR.out]
    have q0 : ((n : Int) != c) = true := by simpa using hc
    clear HR
    go_enter Try.func46, Try.ntmps46
    go_wp2
    go_ret
    exact ⟨rfl, later_of (by repeat (first | exact Below.refl _ _ | (with_reducible assumption) | apply below_later | apply below_alloc | apply below_drew | apply below_drewN))⟩
set_option maxHeartbeats 1600000 in
theorem isSquare_any (W H : Int) (A B : Option Addr) (n cap m capS : Nat) (a : Int) (w : World) : Gives Try.prog 24 #[.agg #[.int .i64 W, .int .i64 H, .slice A n cap, .slice B m capS], .int .i64 a] w (.bool (decide (0 ≤ a ∧ a < n))) := by
  have HR : Hid (decide (0 ≤ a ∧ a < n) = (decide (0 ≤ a) && decide (a < n))) := by show _ = _; simp
  generalize decide (0 ≤ a ∧ a < n) = r at *
  by_cases h1 : 0 ≤ a <;> by_cases h2 : a < (n : Int)
  all_goals
    go_enter Try.func24, Try.ntmps24
    go_wp2
    go_ret
    exact ⟨ret_bool (by rw [HR.out]; simp [h1, h2]), later_of (by repeat (first | exact Below.refl _ _ | (with_reducible assumption) | apply below_later | apply below_alloc | apply below_drew | apply below_drewN))⟩
set_option maxHeartbeats 1600000 in
theorem within_any (a n c : Int) (w : World) : Gives Try.prog 31 #[.int .i64 n, .int .i64 a, .int .i64 c] w (.bool (decide (a ≤ n) && decide (n ≤ c))) := by
  by_cases h1 : a ≤ n <;> by_cases h2 : n ≤ c
  all_goals
    generalize hr : (decide (a ≤ n) && decide (n ≤ c)) = r
    have HR := Lib.hid hr
    clear hr
    go_enter Try.func31, Try.ntmps31
    go_wp2
    go_ret
    exact ⟨ret_bool (by rw [← HR.out]; simp [h1, h2]), later_of (by repeat (first | exact Below.refl _ _ | (with_reducible assumption) | apply below_later | apply below_alloc | apply below_drew | apply below_drewN))⟩
/-- n pairs from cell off of block b on. -/
structure Slu (w : World) (b off n : Nat) (a s : Nat → Int) : Prop where
  lt : b < w.heap.size
  x : ∀ i, i < n → w.cell? ⟨b, off + i * 2, none⟩ = some (.int .i64 (a i))
  y : ∀ i, i < n → w.cell? ⟨b, off + i * 2 + 1, none⟩ = some (.int .i64 (s i))
theorem Slu.later {w : World} {b off n : Nat} {a s : Nat → Int} (h : Slu w b off n a s) (x : Later w) : Slu x.val b off n a s :=
  ⟨Nat.lt_of_lt_of_le h.lt x.size, fun i hi => (x.cell _ _ h.lt).trans (h.x i hi), fun i hi => (x.cell _ _ h.lt).trans (h.y i hi)⟩
structure IsSlu (w : World) (A : Option Addr) (n : Nat) (a s : Nat → Int) : Prop where
  small : n ≤ 4611686018427387904
  at_ : 0 < n → ∃ b off, A = some ⟨b, off, none⟩ ∧ Slu w b off n a s
theorem IsSlu.later {w : World} {A : Option Addr} {n : Nat} {a s : Nat → Int} (h : IsSlu w A n a s) (x : Later w) : IsSlu x.val A n a s :=
  ⟨h.small, fun h0 => let ⟨b, off, e, hp⟩ := h.at_ h0; ⟨b, off, e, hp.later x⟩⟩
set_option maxRecDepth 100000 in
set_option maxHeartbeats 3200000 in
theorem areSluices_any (W H : Int) (A B : Option Addr) (n cap m capS : Nat) (a s : Nat → Int) (w : World) (hq : IsSlu w B m a s) :
    Gives Try.prog 47 #[.agg #[.int .i64 W, .int .i64 H, .slice A n cap, .slice B m capS]] w (.bool (decide (1 ≤ m ∧ m ≤ 20) && allB m fun i => sluB n (a i) (s i))) := by
  have small := hq.small
  have HQ := Lib.hid hq
  have SQ : Hid (∀ (x : Int) (w : World), Gives Try.prog 24 #[.agg #[.int .i64 W, .int .i64 H, .slice A n cap, .slice B m capS], .int .i64 x] w (.bool (decide (0 ≤ x ∧ x < n)))) := fun x w => isSquare_any W H A B n cap m capS x w
  clear hq
  by_cases hm : 1 ≤ m ∧ m ≤ 20
  · obtain ⟨m1, m2⟩ := hm
    rw [decide_eq_true (And.intro m1 m2), Bool.true_and]
    have q1 : decide ((m : Int) < 1) = false := by simp; omega
    have q2 : decide ((20 : Int) < (m : Int)) = false := by simp; omega
    go_enter Try.func47, Try.ntmps47
    go_wp2
    have M0 := World.alloc_heap_new w (.cells #[.int .i64 W, .int .i64 H, .slice A n cap, .slice B m capS] 25)
    go_loopw [18] (fun u wr => ∃ k : Nat, k ≤ m ∧ u = .int .i64 k ∧ (∀ j, j < k → sluB n (a j) (s j) = true) ∧ ∃ x : Later (w.alloc (.cells #[.int .i64 W, .int .i64 H, .slice A n cap, .slice B m capS] 25)), wr = x.val) (fun u _ => m - (intOf u).toNat)
    case atStart => exact ⟨0, by omega, rfl, by omega, ⟨_, Below.refl _ _⟩, rfl⟩
    case round =>
      obtain ⟨k, hk, rfl, hall, x, rfl⟩ := hrel
      have HALL := Lib.hid hall
      clear hall
      by_cases hlt : k < m
      · have bx : Below w.heap.size w x.val := by repeat (first | exact Below.refl _ _ | (with_reducible assumption) | apply below_later | apply below_alloc | apply below_drew | apply below_drewN)
        obtain ⟨b, off, hB, p⟩ := (HQ.out.later ⟨x.val, bx⟩).at_ (by omega)
        subst hB
        have cx := p.x k hlt
        have cy := p.y k hlt
        have lb := p.lt
        have M1 := (x.ok.block _ (by simp)).trans M0
        have m0 := cell_of_heap M1 0 _ rfl
        have m1' := cell_of_heap M1 1 _ rfl
        have m2' := cell_of_heap M1 2 _ rfl
        have m3 := cell_of_heap M1 3 _ rfl
        have lM := get_lt M1
        have HK : Hid (sluB n (a k) (s k) = (decide (0 ≤ a k ∧ a k < n) && decide (0 ≤ s k ∧ s k ≤ 1000))) := rfl
        obtain ⟨sk, hsk⟩ : ∃ sk, sluB n (a k) (s k) = sk := ⟨_, rfl⟩
        have HSK := Lib.hid hsk
        have SK : Hid (∀ w, Gives Try.prog 24 #[.agg #[.int .i64 W, .int .i64 H, .slice A n cap, .slice (some ⟨b, off, none⟩) m capS], .int .i64 (a k)] w (.bool (decide (0 ≤ a k ∧ a k < n)))) := fun w => SQ.out (a k) w
        clear p M1 hsk
        generalize hak : a k = ak at *
        generalize hyk : s k = yk at *
        have HAK := Lib.hid hak
        have HYK := Lib.hid hyk
        clear hak hyk
        cases hd : decide (0 ≤ ak ∧ ak < (n : Int))
        · rw [hd] at SK HK
          have E : Hid (sk = false) := by show sk = false; rw [← HSK.out, HK.out]; rfl
          clear hd HK
          go_wp2_with (go_at_call 24; (first | (with_reducible show Calls _ _ _ (Later.val _) _; with_reducible refine Calls.mono (Later.call _ (SK.out _)) ?_) | (with_reducible refine Calls.mono (Gives.calls (SK.out _)) ?_)); rintro e w1 ⟨rfl, z, rfl⟩)
          go_ret
          exact ⟨ret_bool (by symm; exact allB_false hlt (by rw [HAK.out, HYK.out, HSK.out, E.out])), later_of (by repeat (first | exact Below.refl _ _ | (with_reducible assumption) | apply below_later | apply below_alloc | apply below_drew | apply below_drewN))⟩
        · rw [hd] at SK HK
          clear hd
          by_cases h1 : yk < 0
          · have E : Hid (sk = false) := by show sk = false; rw [← HSK.out, HK.out]; simp; omega
            clear HK
            go_wp2_with (go_at_call 24; (first | (with_reducible show Calls _ _ _ (Later.val _) _; with_reducible refine Calls.mono (Later.call _ (SK.out _)) ?_) | (with_reducible refine Calls.mono (Gives.calls (SK.out _)) ?_)); rintro e w1 ⟨rfl, z, rfl⟩)
            go_ret
            exact ⟨ret_bool (by symm; exact allB_false hlt (by rw [HAK.out, HYK.out, HSK.out, E.out])), later_of (by repeat (first | exact Below.refl _ _ | (with_reducible assumption) | apply below_later | apply below_alloc | apply below_drew | apply below_drewN))⟩
          · by_cases h2 : 1000 < yk
            · have E : Hid (sk = false) := by show sk = false; rw [← HSK.out, HK.out]; simp; omega
              clear HK
              go_wp2_with (go_at_call 24; (first | (with_reducible show Calls _ _ _ (Later.val _) _; with_reducible refine Calls.mono (Later.call _ (SK.out _)) ?_) | (with_reducible refine Calls.mono (Gives.calls (SK.out _)) ?_)); rintro e w1 ⟨rfl, z, rfl⟩)
              go_ret
              exact ⟨ret_bool (by symm; exact allB_false hlt (by rw [HAK.out, HYK.out, HSK.out, E.out])), later_of (by repeat (first | exact Below.refl _ _ | (with_reducible assumption) | apply below_later | apply below_alloc | apply below_drew | apply below_drewN))⟩
            · have E : Hid (sk = true) := by show sk = true; rw [← HSK.out, HK.out]; simp; omega
              clear HK
              go_wp2_with (go_at_call 24; (first | (with_reducible show Calls _ _ _ (Later.val _) _; with_reducible refine Calls.mono (Later.call _ (SK.out _)) ?_) | (with_reducible refine Calls.mono (Gives.calls (SK.out _)) ?_)); rintro e w1 ⟨rfl, z, rfl⟩)
              go_roundw
              case rel => exact ⟨k + 1, by omega, by go_num, all_step HALL.out (by rw [HAK.out, HYK.out, HSK.out, E.out]), later_of (by repeat (first | exact Below.refl _ _ | (with_reducible assumption) | apply below_later | apply below_alloc | apply below_drew | apply below_drewN))⟩
              case measure => simp [intOf]; omega
      · obtain rfl : k = m := by omega
        go_wp2
        go_ret
        exact ⟨ret_bool (by symm; exact allB_true HALL.out), later_of (by repeat (first | exact Below.refl _ _ | (with_reducible assumption) | apply below_later | apply below_alloc | apply below_drew | apply below_drewN))⟩
  · have HR : Hid ((decide (1 ≤ m ∧ m ≤ 20) && allB m fun i => sluB n (a i) (s i)) = false) := by show _ = _; rw [decide_eq_false hm, Bool.false_and]
    rw [HR.out]
    clear HR
    by_cases h1 : 1 ≤ m
    · have q1 : decide ((m : Int) < 1) = false := by simp; omega
      have q2 : decide ((20 : Int) < (m : Int)) = true := by simp; omega
      go_enter Try.func47, Try.ntmps47
      go_wp2
      go_ret
      exact ⟨rfl, later_of (by repeat (first | exact Below.refl _ _ | (with_reducible assumption) | apply below_later | apply below_alloc | apply below_drew | apply below_drewN))⟩
    · have q1 : decide ((m : Int) < 1) = true := by simp; omega
      go_enter Try.func47, Try.ntmps47
      go_wp2
      go_ret
      exact ⟨rfl, later_of (by repeat (first | exact Below.refl _ _ | (with_reducible assumption) | apply below_later | apply below_alloc | apply below_drew | apply below_drewN))⟩

/-- Which fens are valid. -/
def validF (W H : Int) (n : Nat) (f : Nat → Int) (m : Nat) (a s : Nat → Int) : Bool :=
  sidesB W H && ((decide ((n : Int) = W * H) && allB n fun i => numB 1000 (f i)) && (decide (1 ≤ m ∧ m ≤ 20) && allB m fun i => sluB n (a i) (s i)))
set_option maxRecDepth 100000 in
set_option maxHeartbeats 1600000 in
theorem Valid_any (W H : Int) (A B : Option Addr) (n cap m capS : Nat) (f a s : Nat → Int) (w : World) (hp : IsInts w A n f) (hq : IsSlu w B m a s) :
    Gives Try.prog 23 #[.agg #[.int .i64 W, .int .i64 H, .slice A n cap, .slice B m capS]] w (.bool (validF W H n f m a s)) := by
  have S1 : Hid (∀ w, Gives Try.prog 45 #[.int .i64 W, .int .i64 H] w (.bool (sidesB W H))) := fun w => areSides_any W H w
  have S2 : Hid (∀ w', IsInts w' A n f → ∀ c, Gives Try.prog 46 #[.slice A n cap, .int .i64 c, .int .i64 1000] w' (.bool (decide ((n : Int) = c) && allB n fun i => numB 1000 (f i)))) := fun w' h c => areNumbers_any A n cap f c 1000 w' h
  have S3 : Hid (∀ w', IsSlu w' B m a s → Gives Try.prog 47 #[.agg #[.int .i64 W, .int .i64 H, .slice A n cap, .slice B m capS]] w' (.bool (decide (1 ≤ m ∧ m ≤ 20) && allB m fun i => sluB n (a i) (s i)))) := fun w' h => areSluices_any W H A B n cap m capS a s w' h
  have HV : Hid (validF W H n f m a s = (sidesB W H && ((decide ((n : Int) = W * H) && allB n fun i => numB 1000 (f i)) && (decide (1 ≤ m ∧ m ≤ 20) && allB m fun i => sluB n (a i) (s i))))) := rfl
  have HP := Lib.hid hp
  have HQ := Lib.hid hq
  have small := hp.small
  have small2 := hq.small
  clear hp hq
  generalize validF W H n f m a s = r at *
  cases h1 : sidesB W H
  · rw [h1] at S1 HV
    clear h1
    go_enter Try.func23, Try.ntmps23
    go_wp2_with (go_at_call 45; (first | (with_reducible show Calls _ _ _ (Later.val _) _; with_reducible refine Calls.mono (Later.call _ (S1.out _)) ?_) | (with_reducible refine Calls.mono (Gives.calls (S1.out _)) ?_)); rintro e w1 ⟨rfl, z, rfl⟩)
    go_ret
    exact ⟨ret_bool (by rw [HV.out]; rfl), later_of (by repeat (first | exact Below.refl _ _ | (with_reducible assumption) | apply below_later | apply below_alloc | apply below_drew | apply below_drewN))⟩
  · have hs := h1
    unfold sidesB at hs
    simp only [Bool.and_eq_true, decide_eq_true_eq] at hs
    obtain ⟨⟨v1, v2⟩, v3, v4⟩ := hs
    obtain ⟨W', hW'⟩ : ∃ x : Nat, W = x := ⟨W.toNat, by omega⟩
    obtain ⟨H', hH'⟩ : ∃ x : Nat, H = x := ⟨H.toNat, by omega⟩
    have hb : 0 ≤ W * H ∧ W * H ≤ 256 := by
      subst hW' hH'
      have := Nat.mul_le_mul (show W' ≤ 16 by omega) (show H' ≤ 16 by omega)
      rw [← Int.natCast_mul]; omega
    obtain ⟨hb1, hb2⟩ := hb
    rw [h1] at S1 HV
    have S2' : Hid (∀ w', IsInts w' A n f → Gives Try.prog 46 #[.slice A n cap, .int .i64 (W * H), .int .i64 1000] w' (.bool (decide ((n : Int) = W * H) && allB n fun i => numB 1000 (f i)))) := fun w' h => S2.out w' h _
    clear h1 hW' hH' S2
    generalize (decide ((n : Int) = W * H) && allB n fun i => numB 1000 (f i)) = r2 at *
    generalize (decide (1 ≤ m ∧ m ≤ 20) && allB m fun i => sluB n (a i) (s i)) = r3 at *
    cases r2
    · go_enter Try.func23, Try.ntmps23
      go_wp2_with (first | (go_at_call 45; (first | (with_reducible show Calls _ _ _ (Later.val _) _; with_reducible refine Calls.mono (Later.call _ (S1.out _)) ?_) | (with_reducible refine Calls.mono (Gives.calls (S1.out _)) ?_)); rintro e w1 ⟨rfl, z, rfl⟩) | (go_at_call 46; (first | (with_reducible show Calls _ _ _ (Later.val _) _; with_reducible refine Calls.mono (Later.call _ (S2'.out _ (HP.out.later ⟨_, by repeat (first | exact Below.refl _ _ | (with_reducible assumption) | apply below_later | apply below_alloc | apply below_drew | apply below_drewN)⟩))) ?_) | (with_reducible refine Calls.mono (Gives.calls (S2'.out _ (HP.out.later ⟨_, by repeat (first | exact Below.refl _ _ | (with_reducible assumption) | apply below_later | apply below_alloc | apply below_drew | apply below_drewN)⟩))) ?_)); rintro e w1 ⟨rfl, z2, rfl⟩))
      go_ret
      exact ⟨ret_bool (by rw [HV.out]; rfl), later_of (by repeat (first | exact Below.refl _ _ | (with_reducible assumption) | apply below_later | apply below_alloc | apply below_drew | apply below_drewN))⟩
    · go_enter Try.func23, Try.ntmps23
      go_wp2_with (first | (go_at_call 45; (first | (with_reducible show Calls _ _ _ (Later.val _) _; with_reducible refine Calls.mono (Later.call _ (S1.out _)) ?_) | (with_reducible refine Calls.mono (Gives.calls (S1.out _)) ?_)); rintro e w1 ⟨rfl, z, rfl⟩) | (go_at_call 46; (first | (with_reducible show Calls _ _ _ (Later.val _) _; with_reducible refine Calls.mono (Later.call _ (S2'.out _ (HP.out.later ⟨_, by repeat (first | exact Below.refl _ _ | (with_reducible assumption) | apply below_later | apply below_alloc | apply below_drew | apply below_drewN)⟩))) ?_) | (with_reducible refine Calls.mono (Gives.calls (S2'.out _ (HP.out.later ⟨_, by repeat (first | exact Below.refl _ _ | (with_reducible assumption) | apply below_later | apply below_alloc | apply below_drew | apply below_drewN)⟩))) ?_)); rintro e w1 ⟨rfl, z2, rfl⟩) | (go_at_call 47; (first | (with_reducible show Calls _ _ _ (Later.val _) _; with_reducible refine Calls.mono (Later.call _ (S3.out _ (HQ.out.later ⟨_, by repeat (first | exact Below.refl _ _ | (with_reducible assumption) | apply below_later | apply below_alloc | apply below_drew | apply below_drewN)⟩))) ?_) | (with_reducible refine Calls.mono (Gives.calls (S3.out _ (HQ.out.later ⟨_, by repeat (first | exact Below.refl _ _ | (with_reducible assumption) | apply below_later | apply below_alloc | apply below_drew | apply below_drewN)⟩))) ?_)); rintro e w1 ⟨rfl, z3, rfl⟩))
      go_ret
      exact ⟨ret_bool (by rw [HV.out]; rfl), later_of (by repeat (first | exact Below.refl _ _ | (with_reducible assumption) | apply below_later | apply below_alloc | apply below_drew | apply below_drewN))⟩
end Go.Proofs.Ytelfinjnbncnlaa
