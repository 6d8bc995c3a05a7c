/- dole's isEnvied and unenvied, the document's free: walked. -/
import Derived.Test.YtjmjafpjfhgfdaaDGiveM
namespace Go.Proofs.Ytjmjafpjfhgfdaa
open Go.RowKit

/-- Does anybody envy b, of the first i? -/
def envN (E : Nat → Nat → Bool) (b i : Nat) : Bool := !allB i fun a => !E a b
theorem envN_succ (E : Nat → Nat → Bool) (b i : Nat) : envN E b (i + 1) = (envN E b i || E i b) := by
  unfold envN
  rw [allB_succ]
  cases E i b <;> simp
theorem envN_no {E : Nat → Nat → Bool} {b i : Nat} (h : ∀ a, a < i → E a b = false) : envN E b i = false := by
  unfold envN
  rw [allB_true fun a ha => by rw [h a ha]; rfl]
  rfl
theorem envN_yes {E : Nat → Nat → Bool} {b i a : Nat} (ha : a < i) (h : E a b = true) : envN E b i = true := by
  unfold envN
  rw [allB_false (p := fun a => !E a b) ha (by rw [h]; rfl)]
  rfl
set_option maxRecDepth 100000 in
set_option maxHeartbeats 1600000 in
theorem isEnvied_any (k cap n m cS b : Nat) (A S : Option Addr) (R : Nat → Row) (s : Nat → Int) (w : World) (hmn : m ≤ n) (W : Vals k n R) (hp : IsTab w A k R) (hs : IsInts w S m s) :
    Gives Try.prog 80 #[.agg #[.slice A k cap, .slice S m cS], .int .i64 (b : Nat)] w (.bool (envN (envT R s m) b k)) := by
  have hk6 := W.k6
  have EV := Lib.hid fun (i : Nat) (V : World) (hi : i < k) (h : Below w.heap.size w V) => envies_any k cap n m cS i b A S R s V hi hmn W (hp.below h) (hs.below h)
  have hb : Below w.heap.size w (w.alloc (.cells #[.slice A k cap, .slice S m cS] 62)) := (Below.refl _ _).alloc (Nat.le_refl _) _
  obtain ⟨c0, c1, l0⟩ := box2 w (.slice A k cap) (.slice S m cS) 62
  have HB := Lib.hid hb
  generalize envT R s m = E at *
  have YES : Hid (∀ a, a < k → E a b = true → envN E b k = true) := fun a ha h => envN_yes ha h
  have NO : Hid ((∀ a, a < k → E a b = false) → envN E b k = false) := fun h => envN_no h
  generalize envN E b k = res at *
  clear hp hs hb W
  go_enter Try.func80, Try.ntmps80
  go_wp2_with fail
  obtain ⟨b8, hb8⟩ : ∃ b8, w.heap.size = b8 := ⟨_, rfl⟩
  rw [hb8] at c0 c1 l0 ⊢
  clear hb8
  generalize w.alloc (.cells #[.slice A k cap, .slice S m cS] 62) = Z at *
  go_loopw [9] (fun u wr => ∃ x : Nat, u = .int .i64 (x : Nat) ∧ x ≤ k ∧ (∀ a, a < x → E a b = false) ∧ ∃ y : Later Z, wr = y.val) (fun u _ => k - (intOf u).toNat)
  case atStart => exact ⟨0, rfl, by omega, by omega, later_of (by repeat (first | exact Below.refl _ _ | (with_reducible assumption) | apply below_later | apply below_alloc | apply below_drew | apply below_drewN))⟩
  case round =>
    obtain ⟨x, rfl, hxk, hall, y, rfl⟩ := hrel
    have HALL := Lib.hid hall
    clear hall
    have f0 := (y.cell _ 0 l0).trans c0
    have f1 := (y.cell _ 1 l0).trans c1
    have f2 := y.lt _ l0
    have HBW : Hid (Below w.heap.size w y.val) := below_more HB.out y.ok
    have XV : Hid (∀ U, Below y.val.heap.size y.val U → ∃ y' : Later Z, U = y'.val) := fun U h => ⟨⟨U, below_more y.ok h⟩, rfl⟩
    by_cases hlt : x < k
    · have EVx := Lib.hid fun U h => EV.out x U hlt h
      have hg : decide ((x : Int) < (k : Int)) = true := by simp; omega
      cases he : E x b
      case true =>
        have HR := Lib.hid (YES.out x hlt he)
        rw [he] at EVx
        clear he
        go_wp2_with (go_at_call 57; with_reducible refine Calls.mono (Gives.calls (EVx.out _ (below_more HBW.out (by repeat (first | exact Below.refl _ _ | (with_reducible assumption) | apply below_later | apply below_alloc | apply below_drew | apply below_drewN))))) ?_; rintro e w1 ⟨rfl, z, rfl⟩)
        go_ret
        exact ⟨ret_bool HR.out.symm, later_of (below_more HBW.out (by repeat (first | exact Below.refl _ _ | (with_reducible assumption) | apply below_later | apply below_alloc | apply below_drew | apply below_drewN)))⟩
      case false =>
        have HN : Hid (∀ a, a < x + 1 → E a b = false) := fun a ha => by
          by_cases e : a = x
          · subst e
            exact he
          · exact HALL.out a (by omega)
        rw [he] at EVx
        clear he
        go_wp2_with (go_at_call 57; with_reducible refine Calls.mono (Gives.calls (EVx.out _ (below_more HBW.out (by repeat (first | exact Below.refl _ _ | (with_reducible assumption) | apply below_later | apply below_alloc | apply below_drew | apply below_drewN))))) ?_; rintro e w1 ⟨rfl, z, rfl⟩)
        first
          | (refine ⟨⟨x + 1, by go_num, by omega, HN.out, XV.out _ (by repeat (first | exact Below.refl _ _ | (with_reducible assumption) | apply below_later | apply below_alloc | apply below_drew | apply below_drewN))⟩, ?_⟩; simp [intOf]; omega)
          | (go_roundw
             case rel => exact ⟨x + 1, by go_num, by omega, HN.out, XV.out _ (by repeat (first | exact Below.refl _ _ | (with_reducible assumption) | apply below_later | apply below_alloc | apply below_drew | apply below_drewN))⟩
             case measure => simp [intOf]; omega)
    · obtain rfl : x = k := by omega
      have HR := Lib.hid (NO.out HALL.out)
      go_wp2_with fail
      go_ret
      exact ⟨ret_bool HR.out.symm, later_of HBW.out⟩
set_option maxRecDepth 100000 in
set_option maxHeartbeats 1600000 in
theorem unenvied_any (k cap n m cS r : Nat) (A S : Option Addr) (R : Nat → Row) (s : Nat → Int) (w : World) (hmn : m ≤ n) (W : Vals k n R) (hp : IsTab w A k R) (hs : IsInts w S m s) (hf : Free (envT R s m) k r) :
    Gives Try.prog 64 #[.agg #[.slice A k cap, .slice S m cS]] w (.int .i64 (r : Nat)) := by
  have hk6 := W.k6
  have EV := Lib.hid fun (b : Nat) (V : World) (h : Below w.heap.size w V) => isEnvied_any k cap n m cS b A S R s V hmn W (hp.below h) (hs.below h)
  have hb : Below w.heap.size w (w.alloc (.cells #[.slice A k cap, .slice S m cS] 62)) := (Below.refl _ _).alloc (Nat.le_refl _) _
  obtain ⟨c0, c1, l0⟩ := box2 w (.slice A k cap) (.slice S m cS) 62
  have HB := Lib.hid hb
  generalize envT R s m = E at *
  have hrk := hf.1
  have NO : Hid (envN E r k = false) := envN_no hf.2.1
  have YES : Hid (∀ b, b < r → envN E b k = true) := fun b hb => by
    obtain ⟨a, ha, h⟩ := hf.2.2 b hb
    exact envN_yes ha h
  clear hp hs hb W hf
  generalize (fun b => envN E b k) = F at *
  go_enter Try.func64, Try.ntmps64
  go_wp2_with fail
  obtain ⟨b8, hb8⟩ : ∃ b8, w.heap.size = b8 := ⟨_, rfl⟩
  rw [hb8] at c0 c1 l0 ⊢
  clear hb8
  generalize w.alloc (.cells #[.slice A k cap, .slice S m cS] 62) = Z at *
  go_loopw [3] (fun u wr => ∃ x : Nat, u = .int .i64 (x : Nat) ∧ x ≤ r ∧ ∃ y : Later Z, wr = y.val) (fun u _ => r - (intOf u).toNat)
  case atStart => exact ⟨0, rfl, by omega, later_of (by repeat (first | exact Below.refl _ _ | (with_reducible assumption) | apply below_later | apply below_alloc | apply below_drew | apply below_drewN))⟩
  case round =>
    obtain ⟨x, rfl, hxk, y, rfl⟩ := hrel
    have f0 := (y.cell _ 0 l0).trans c0
    have f1 := (y.cell _ 1 l0).trans c1
    have f2 := y.lt _ l0
    have HBW : Hid (Below w.heap.size w y.val) := below_more HB.out y.ok
    have XV : Hid (∀ U, Below y.val.heap.size y.val U → ∃ y' : Later Z, U = y'.val) := fun U h => ⟨⟨U, below_more y.ok h⟩, rfl⟩
    have EVx := Lib.hid fun U h => EV.out x U h
    by_cases hlt : x < r
    · rw [YES.out x hlt] at EVx
      go_wp2_with (go_at_call 80; with_reducible refine Calls.mono (Gives.calls (EVx.out _ (below_more HBW.out (by repeat (first | exact Below.refl _ _ | (with_reducible assumption) | apply below_later | apply below_alloc | apply below_drew | apply below_drewN))))) ?_; rintro e w1 ⟨rfl, z, rfl⟩)
      first
        | (refine ⟨⟨x + 1, by go_num, by omega, XV.out _ (by repeat (first | exact Below.refl _ _ | (with_reducible assumption) | apply below_later | apply below_alloc | apply below_drew | apply below_drewN))⟩, ?_⟩; simp [intOf]; omega)
        | (go_roundw
           case rel => exact ⟨x + 1, by go_num, by omega, XV.out _ (by repeat (first | exact Below.refl _ _ | (with_reducible assumption) | apply below_later | apply below_alloc | apply below_drew | apply below_drewN))⟩
           case measure => simp [intOf]; omega)
    · obtain rfl : x = r := by omega
      rw [NO.out] at EVx
      go_wp2_with (go_at_call 80; with_reducible refine Calls.mono (Gives.calls (EVx.out _ (below_more HBW.out (by repeat (first | exact Below.refl _ _ | (with_reducible assumption) | apply below_later | apply below_alloc | apply below_drew | apply below_drewN))))) ?_; rintro e w1 ⟨rfl, z, rfl⟩)
      go_ret
      exact ⟨rfl, later_of (below_more HBW.out (by repeat (first | exact Below.refl _ _ | (with_reducible assumption) | apply below_later | apply below_alloc | apply below_drew | apply below_drewN)))⟩
set_option maxRecDepth 100000 in
set_option maxHeartbeats 3200000 in
theorem rfree_any (k cap n m cS r : Nat) (A S : Option Addr) (R : Nat → Row) (s : Nat → Int) (w : World) (hmn : m ≤ n) (W : Vals k n R) (hp : IsTab w A k R) (hs : IsInts w S m s) (hf : Free (envT R s m) k r) :
    Gives Try.prog 65 #[.slice A k cap, .slice S m cS] w (.int .i64 (r : Nat)) := by
  have hk6 := W.k6
  have EV := Lib.hid fun (i b : Nat) (V : World) (hi : i < k) (h : Below w.heap.size w V) => renvied_any k cap n m cS i b A S R s V hi hmn W (hp.below h) (hs.below h)
  generalize envT R s m = E at *
  have hrk := hf.1
  have NO : Hid (envN E r k = false) := envN_no hf.2.1
  have YES : Hid (∀ b, b < r → envN E b k = true) := fun b hb => by
    obtain ⟨a, ha, h⟩ := hf.2.2 b hb
    exact envN_yes ha h
  have ES := Lib.hid fun b i => envN_succ E b i
  have E0 : Hid (∀ b, envN E b 0 = false) := fun b => rfl
  clear hp hs W hf
  generalize envN E = F at *
  go_enter Try.func65, Try.ntmps65
  go_wp2_with fail
  go_loopw [5] (fun u wr => ∃ x : Nat, u = .int .i64 (x : Nat) ∧ x ≤ r ∧ ∃ y : Later w, wr = y.val) (fun u _ => r - (intOf u).toNat)
  case atStart => exact ⟨0, rfl, by omega, later_of (by repeat (first | exact Below.refl _ _ | (with_reducible assumption) | apply below_later | apply below_alloc | apply below_drew | apply below_drewN))⟩
  case round =>
    obtain ⟨x, rfl, hxk, y, rfl⟩ := hrel
    have HBW : Hid (Below w.heap.size w y.val) := y.ok
    have XV : Hid (∀ U, Below y.val.heap.size y.val U → ∃ y' : Later w, U = y'.val) := fun U h => ⟨⟨U, below_more y.ok h⟩, rfl⟩
    have EVx := Lib.hid fun i U hi h => EV.out i x U hi h
    have ESx := Lib.hid (ES.out x)
    have E0x := Lib.hid (E0.out x)
    have hg : decide ((x : Int) < (k : Int)) = true := by simp; omega
    go_wp2_with fail
    have hgx : decide (x < k) = true := by simp; omega
    try rw [hgx]
    clear hg hgx
    go_loopw [6, 7] (fun v u wr => ∃ i : Nat, u = .int .i64 (i : Nat) ∧ i ≤ k ∧ v = .bool (F x i) ∧ ∃ z : Later y.val, wr = z.val) (fun _ u _ => k - (intOf u).toNat)
    case atStart => exact ⟨0, rfl, by omega, by rw [E0x.out], ⟨y.val, by repeat (first | exact Below.refl _ _ | (with_reducible assumption) | apply below_later | apply below_alloc | apply below_drew | apply below_drewN)⟩, rfl⟩
    case round =>
      obtain ⟨i, rfl, hi, rfl, z, rfl⟩ := hrel
      have ZV : Hid (∀ U, Below z.val.heap.size z.val U → ∃ y' : Later y.val, U = y'.val) := fun U h => ⟨⟨U, below_more z.ok h⟩, rfl⟩
      by_cases hlt : i < k
      · have EVi := Lib.hid fun U h => EVx.out i U hlt h
        have ESi := Lib.hid (ESx.out i)
        have hgi : decide ((i : Int) < (k : Int)) = true := by simp; omega
        cases hF : F x i
        case true =>
          have HN : Hid (F x (i + 1) = true) := by
            show _ = _
            rw [ESi.out, hF]
            rfl
          clear hF
          go_wp2_with (go_at_call 49; with_reducible refine Calls.mono (Gives.calls (EVi.out _ (below_more HBW.out (below_more z.ok (by repeat (first | exact Below.refl _ _ | (with_reducible assumption) | apply below_later | apply below_alloc | apply below_drew | apply below_drewN)))))) ?_; rintro e w1 ⟨rfl, z2, rfl⟩)
          first
            | (refine ⟨⟨i + 1, by go_num, by omega, by rw [HN.out], ZV.out _ (by repeat (first | exact Below.refl _ _ | (with_reducible assumption) | apply below_later | apply below_alloc | apply below_drew | apply below_drewN))⟩, ?_⟩; simp [intOf]; omega)
            | (go_roundw
               case rel => exact ⟨i + 1, by go_num, by omega, by rw [HN.out], ZV.out _ (by repeat (first | exact Below.refl _ _ | (with_reducible assumption) | apply below_later | apply below_alloc | apply below_drew | apply below_drewN))⟩
               case measure => simp [intOf]; omega)
        case false =>
          have HN : Hid (F x (i + 1) = E i x) := by
            show _ = _
            rw [ESi.out, hF]
            rfl
          clear hF
          generalize E i x = ex at *
          go_wp2_with (go_at_call 49; with_reducible refine Calls.mono (Gives.calls (EVi.out _ (below_more HBW.out (below_more z.ok (by repeat (first | exact Below.refl _ _ | (with_reducible assumption) | apply below_later | apply below_alloc | apply below_drew | apply below_drewN)))))) ?_; rintro e w1 ⟨rfl, z2, rfl⟩)
          first
            | (refine ⟨⟨i + 1, by go_num, by omega, by rw [HN.out], ZV.out _ (by repeat (first | exact Below.refl _ _ | (with_reducible assumption) | apply below_later | apply below_alloc | apply below_drew | apply below_drewN))⟩, ?_⟩; simp [intOf]; omega)
            | (go_roundw
               case rel => exact ⟨i + 1, by go_num, by omega, by rw [HN.out], ZV.out _ (by repeat (first | exact Below.refl _ _ | (with_reducible assumption) | apply below_later | apply below_alloc | apply below_drew | apply below_drewN))⟩
               case measure => simp [intOf]; omega)
      · obtain rfl : i = k := by omega
        by_cases hlr : x < r
        · rw [YES.out x hlr]
          go_wp2_with fail
          first
            | (refine ⟨⟨x + 1, by go_num, by omega, XV.out _ (below_more z.ok (by repeat (first | exact Below.refl _ _ | (with_reducible assumption) | apply below_later | apply below_alloc | apply below_drew | apply below_drewN)))⟩, ?_⟩; simp [intOf]; omega)
            | (go_roundw
               case rel => exact ⟨x + 1, by go_num, by omega, XV.out _ (below_more z.ok (by repeat (first | exact Below.refl _ _ | (with_reducible assumption) | apply below_later | apply below_alloc | apply below_drew | apply below_drewN)))⟩
               case measure => simp [intOf]; omega)
        · obtain rfl : x = r := by omega
          rw [NO.out]
          go_wp2_with fail
          go_ret
          exact ⟨rfl, later_of (below_more HBW.out (below_more z.ok (by repeat (first | exact Below.refl _ _ | (with_reducible assumption) | apply below_later | apply below_alloc | apply below_drew | apply below_drewN))))⟩
end Go.Proofs.Ytjmjafpjfhgfdaa
