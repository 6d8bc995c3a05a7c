/- dole's circle, Circle and Turn: walked. -/
import Derived.Test.YtjmjafpjfhgfdaaDFrom
import Derived.Test.YtjmjafpjfhgfdaaDTurned
namespace Go.Proofs.Ytjmjafpjfhgfdaa
open Go.RowKit

theorem env_self (R : Nat → Row) (s : Nat → Int) (m i : Nat) : envT R s m i i = false := by
  unfold envT
  exact decide_eq_false (by omega)
theorem lit_ints1 (U : World) (x : Nat) : IsInts (U.alloc (.cells #[.int .i64 (x : Nat)] 3)) (some ⟨U.heap.size, 0, none⟩) 1 (zl [x]) := by
  have h := World.alloc_heap_new U (.cells #[.int .i64 (x : Nat)] 3)
  refine ⟨by omega, fun _ => ⟨U.heap.size, 0, rfl, get_lt h, fun i hi => ?_⟩⟩
  obtain rfl : i = 0 := by omega
  exact cell_of_heap h _ _ rfl
theorem circA_scan (E : Nat → Nat → Bool) (k : Nat) : circA E k = scanF (fun c => circF E k k [c]) k 0 := rfl
set_option maxRecDepth 100000 in
set_option maxHeartbeats 3200000 in
theorem circle_any (k cap n m cS : Nat) (A S : Option Addr) (R : Nat → Row) (s : Nat → Int) (w : World) (hmn : m ≤ n) (W : Vals k n R) (hp : IsTab w A k R) (hs : IsInts w S m s) :
    Calls Try.prog 60 #[.agg #[.slice A k cap, .slice S m cS]] w (PostC w (circA (envT R s m) k)) := by
  have hk6 := W.k6
  have FR := Lib.hid (from_any k cap n m cS A S R s w hmn W hp hs)
  have hb : Below w.heap.size w (w.alloc (.cells #[.slice A k cap, .slice S m cS] 62)) := (Below.refl _ _).alloc (Nat.le_refl _) _
  obtain ⟨c0, c1, l0⟩ := box2 w (.slice A k cap) (.slice S m cS) 62
  have HB := Lib.hid hb
  generalize envT R s m = E at *
  have SC := Lib.hid (circA_scan E k)
  generalize circA E k = res at *
  have FC : Hid (∀ (x : Nat) (P : Option Addr) (cP : Nat) (V : World), x < k → Below w.heap.size w V → IsInts V P 1 (zl [x]) → 1 ≤ cP → Calls Try.prog 76 #[.agg #[.slice A k cap, .slice S m cS], .slice P 1 cP] V fun e w' => ∃ A c, e = .returned (.slice A (circF E k k [x]).length c) ∧ (∃ y : Later V, w' = y.val) ∧ IsInts w' A (circF E k k [x]).length (zl (circF E k k [x])) ∧ (circF E k k [x]).length ≤ c ∧ (circF E k k [x] = [] → A = none ∧ c = 0) ∧ (circF E k k [x] ≠ [] → A.isNone = false)) := fun x P cP V hx hV hi hc => FR.out k [x] P cP V hV (Path.one hx) (by simp) hi hc
  have hul : Try.prog.underlying 23 = some (.slice 3) := Try.underlying23
  have GD : Hid (∀ x, (fun c => circF E k k [c]) x = circF E k k [x]) := fun _ => rfl
  generalize (fun c => circF E k k [c]) = G at *
  clear hp hs hb W FR
  go_enter Try.func60, Try.ntmps60
  go_wp2_with fail
  obtain ⟨b8, hb8⟩ : ∃ b8, w.heap.size = b8 := ⟨_, rfl⟩
  rw [hb8] at c0 c1 l0 ⊢
  clear hb8
  generalize w.alloc (.cells #[.slice A k cap, .slice S m cS] 62) = Z at *
  go_loopw [8] (fun u wr => ∃ x : Nat, u = .int .i64 (x : Nat) ∧ x ≤ k ∧ scanF G (k - x) x = res ∧ ∃ y : Later Z, wr = y.val) (fun u _ => k - (intOf u).toNat)
  case atStart => exact ⟨0, rfl, by omega, SC.out.symm, later_of (by repeat (first | exact Below.refl _ _ | (with_reducible assumption) | apply below_later | apply below_alloc | apply below_drew | apply below_drewN))⟩
  case round =>
    obtain ⟨x, rfl, hxk, hsc, y, rfl⟩ := hrel
    have HSC := Lib.hid hsc
    clear hsc
    have f0 := (y.cell _ 0 l0).trans c0
    have f1 := (y.cell _ 1 l0).trans c1
    have f2 := y.lt _ l0
    have HBW : Hid (Below w.heap.size w y.val) := below_more HB.out y.ok
    have XV : Hid (∀ U, Below y.val.heap.size y.val U → ∃ y' : Later Z, U = y'.val) := fun U h => ⟨⟨U, below_more y.ok h⟩, rfl⟩
    by_cases hlt : x < k
    · have LI : Hid (∀ U : World, IsInts (U.alloc (.cells #[.int .i64 (x : Nat)] 3)) (some ⟨U.heap.size, 0, none⟩) 1 (zl [x])) := fun U => (lit_ints1 U x)
      have FCx := Lib.hid fun P cP V h hi hc => FC.out x P cP V hlt h hi hc
      have GDx := Lib.hid (GD.out x)
      have hkx : k - x = (k - (x + 1)) + 1 := by omega
      have HKX := Lib.hid hkx
      have hg : decide ((x : Int) < (k : Int)) = true := by simp; omega
      clear hkx
      generalize circF E k k [x] = lq at *
      by_cases hq : lq = []
      · have HN : Hid (scanF G (k - (x + 1)) (x + 1) = res) := by
          show _ = _
          rw [← HSC.out, HKX.out, scan_skip]
          rw [GDx.out, hq]
        subst hq
        go_wp2_with (go_at_call 76; with_reducible refine Calls.mono (FCx.out _ _ _ (below_more HBW.out (by repeat (first | exact Below.refl _ _ | (with_reducible assumption) | apply below_later | apply below_alloc | apply below_drew | apply below_drewN))) (LI.out _) (Nat.le_refl _)) ?_; rintro e w1 ⟨A9, c9, rfl, ⟨z, rfl⟩, hi9, hc9, hn9, hs9⟩; obtain ⟨h1, h2⟩ := hn9 rfl; subst h1; subst h2; clear hi9 hc9 hn9 hs9)
        first
          | (refine ⟨⟨x + 1, by go_num, by omega, HN.out, XV.out _ (by repeat (first | exact Below.refl _ _ | (with_reducible assumption) | apply below_later | apply below_alloc | apply below_drew | apply below_drewN))⟩, ?_⟩; simp [intOf]; omega)
          | (go_roundw
             case rel => exact ⟨x + 1, by go_num, by omega, HN.out, XV.out _ (by repeat (first | exact Below.refl _ _ | (with_reducible assumption) | apply below_later | apply below_alloc | apply below_drew | apply below_drewN))⟩
             case measure => simp [intOf]; omega)
      · have HRR : Hid (res = lq) := by
          show _ = _
          rw [← HSC.out, HKX.out, scan_take (by rw [GDx.out]; exact hq)]
          exact GDx.out
        have HQ := Lib.hid hq
        clear hq
        go_wp2_with (go_at_call 76; with_reducible refine Calls.mono (FCx.out _ _ _ (below_more HBW.out (by repeat (first | exact Below.refl _ _ | (with_reducible assumption) | apply below_later | apply below_alloc | apply below_drew | apply below_drewN))) (LI.out _) (Nat.le_refl _)) ?_; rintro e w1 ⟨A9, c9, rfl, ⟨z, rfl⟩, hi9, hc9, hn9, hs9⟩; obtain ⟨a9, h9⟩ : ∃ a, A9 = some a := (by have := hs9 HQ.out; cases A9 with | none => exact absurd this (by decide) | some a => exact ⟨a, rfl⟩); subst h9; have HI9 := Lib.hid hi9; have HC9 := Lib.hid hc9; clear hi9 hc9 hn9 hs9)
        go_ret
        rw [HRR.out]
        exact ⟨_, c9, rfl, later_of (below_more HBW.out (by repeat (first | exact Below.refl _ _ | (with_reducible assumption) | apply below_later | apply below_alloc | apply below_drew | apply below_drewN))), HI9.out, HC9.out, fun h => absurd h HQ.out, fun _ => rfl⟩
    · obtain rfl : x = k := by omega
      have HR3 : Hid (res = []) := by
        show _ = _
        rw [← HSC.out, Nat.sub_self]
        rfl
      go_wp2_with fail
      go_ret
      rw [HR3.out]
      exact ⟨none, 0, rfl, later_of HBW.out, ⟨by simp, fun h => absurd h (by simp)⟩, by simp, fun _ => ⟨rfl, rfl⟩, fun h => absurd rfl h⟩
set_option maxRecDepth 100000 in
theorem Circle_bad (k cap m cS : Nat) (A S : Option Addr) (R : Nat → Row) (c : Nat → Int) (w : World) (hp : IsTab w A k R) (hc : IsInts w S m c) (h : errE k R m c ≠ 0) :
    Gives Try.prog 35 #[.slice A k cap, .slice S m cS] w (.tuple #[.slice none 0 0, .int .i64 (errE k R m c)]) := by
  have CH := Lib.hid fun (V : World) (hb : Below w.heap.size w V) => check_any k cap m cS A S R c V (hp.below hb) (hc.below hb)
  generalize errE k R m c = E at *
  have e1 : (E != 0) = true := by simpa using h
  clear hp hc h
  go_enter Try.func35, Try.ntmps35
  go_wp2_with (go_at_call 51; with_reducible refine Calls.mono (Gives.calls (CH.out _ (by repeat (first | exact Below.refl _ _ | (with_reducible assumption) | apply below_later | apply below_alloc | apply below_drew | apply below_drewN)))) ?_; rintro e w1 ⟨rfl, z, rfl⟩)
  go_ret2
  exact ⟨rfl, later_of (by repeat (first | exact Below.refl _ _ | (with_reducible assumption) | apply below_later | apply below_alloc | apply below_drew | apply below_drewN))⟩
/-- A call that returns a list of numbers, nil if it is empty, and an error. -/
def PostCE (w : World) (l : List Nat) (E : Int) (e : Ending) (w' : World) : Prop := ∃ A c, e = .returned (.tuple #[.slice A l.length c, .int .i64 E]) ∧ (∃ x : Later w, w' = x.val) ∧ IsInts w' A l.length (zl l) ∧ l.length ≤ c
set_option maxRecDepth 100000 in
theorem Circle_ok (k cap m cS : Nat) (A S : Option Addr) (R : Nat → Row) (c : Nat → Int) (w : World) (hp : IsTab w A k R) (hc : IsInts w S m c) (h : errE k R m c = 0) :
    Calls Try.prog 35 #[.slice A k cap, .slice S m cS] w (PostCE w (circA (envT R c m) k) 0) := by
  obtain ⟨W, hm, _⟩ := errE_ok h
  have CH : Hid (∀ (V : World), Below w.heap.size w V → Gives Try.prog 51 #[.slice A k cap, .slice S m cS] V (.int .i64 0)) := fun V hb => h ▸ check_any k cap m cS A S R c V (hp.below hb) (hc.below hb)
  have CI : Hid (∀ V, Below w.heap.size w V → Calls Try.prog 60 #[.agg #[.slice A k cap, .slice S m cS]] V fun e w' => ∃ A9 c9, e = .returned (.slice A9 (circA (envT R c m) k).length c9) ∧ (∃ x : Later V, w' = x.val) ∧ IsInts w' A9 (circA (envT R c m) k).length (zl (circA (envT R c m) k)) ∧ (circA (envT R c m) k).length ≤ c9 ∧ (circA (envT R c m) k = [] → A9 = none ∧ c9 = 0) ∧ (circA (envT R c m) k ≠ [] → A9.isNone = false)) := fun V hb => circle_any k cap (R 0).n m cS A S R c V (by omega) W (hp.below hb) (hc.below hb)
  generalize circA (envT R c m) k = l at *
  clear hp hc h W hm
  go_enter Try.func35, Try.ntmps35
  go_wp2_with (first
    | (go_at_call 51; with_reducible refine Calls.mono (Gives.calls (CH.out _ (by repeat (first | exact Below.refl _ _ | (with_reducible assumption) | apply below_later | apply below_alloc | apply below_drew | apply below_drewN)))) ?_; rintro e w1 ⟨rfl, z, rfl⟩)
    | (go_at_call 60; with_reducible refine Calls.mono (CI.out _ (by repeat (first | exact Below.refl _ _ | (with_reducible assumption) | apply below_later | apply below_alloc | apply below_drew | apply below_drewN))) ?_; rintro e w1 ⟨A9, c9, rfl, ⟨z2, rfl⟩, hi9, hc9, _, _⟩; have HI9 := Lib.hid hi9; have HC9 := Lib.hid hc9; clear hi9 hc9))
  go_ret2
  exact ⟨A9, c9, rfl, later_of (by repeat (first | exact Below.refl _ _ | (with_reducible assumption) | apply below_later | apply below_alloc | apply below_drew | apply below_drewN)), HI9.out, HC9.out⟩
set_option maxRecDepth 100000 in
theorem Turn_bad (k cap m cS l cL : Nat) (A S L : Option Addr) (R : Nat → Row) (s : Nat → Int) (w : World) (hp : IsTab w A k R) (hs : IsInts w S m s) (h : errE k R m s ≠ 0) :
    Gives Try.prog 36 #[.slice A k cap, .slice S m cS, .slice L l cL] w (.tuple #[.slice none 0 0, .int .i64 (errE k R m s)]) := by
  have CH := Lib.hid fun (V : World) (hb : Below w.heap.size w V) => check_any k cap m cS A S R s V (hp.below hb) (hs.below hb)
  generalize errE k R m s = E at *
  have e1 : (E != 0) = true := by simpa using h
  clear hp hs h
  go_enter Try.func36, Try.ntmps36
  go_wp2_with (go_at_call 51; with_reducible refine Calls.mono (Gives.calls (CH.out _ (by repeat (first | exact Below.refl _ _ | (with_reducible assumption) | apply below_later | apply below_alloc | apply below_drew | apply below_drewN)))) ?_; rintro e w1 ⟨rfl, z, rfl⟩)
  go_ret2
  exact ⟨rfl, later_of (by repeat (first | exact Below.refl _ _ | (with_reducible assumption) | apply below_later | apply below_alloc | apply below_drew | apply below_drewN))⟩
set_option maxRecDepth 100000 in
set_option maxHeartbeats 1600000 in
theorem Turn_arg (k cap m cS l cL : Nat) (A S L : Option Addr) (R : Nat → Row) (s c : Nat → Int) (w : World) (hl : l ≤ 1000) (hcL : l ≤ cL) (hp : IsTab w A k R) (hs : IsInts w S m s) (hc : IsInts w L l c) (h : errE k R m s = 0) (hcir : cirB (envT R s m) k c l = false) :
    Gives Try.prog 36 #[.slice A k cap, .slice S m cS, .slice L l cL] w (.tuple #[.slice none 0 0, .int .i64 2]) := by
  obtain ⟨W, hm, _⟩ := errE_ok h
  have CH : Hid (∀ (V : World), Below w.heap.size w V → Gives Try.prog 51 #[.slice A k cap, .slice S m cS] V (.int .i64 0)) := fun V hb => h ▸ check_any k cap m cS A S R s V (hp.below hb) (hs.below hb)
  have IC : Hid (∀ (V : World), Below w.heap.size w V → Gives Try.prog 61 #[.agg #[.slice A k cap, .slice S m cS], .slice L l cL] V (.bool false)) := fun V hb => hcir ▸ isCircle_any k cap (R 0).n m cS l cL A S L R s c V (by omega) hl hcL W (hp.below hb) (hs.below hb) (hc.below hb)
  clear hp hs hc h hcir W hm
  go_enter Try.func36, Try.ntmps36
  go_wp2_with (first
    | (go_at_call 51; with_reducible refine Calls.mono (Gives.calls (CH.out _ (by repeat (first | exact Below.refl _ _ | (with_reducible assumption) | apply below_later | apply below_alloc | apply below_drew | apply below_drewN)))) ?_; rintro e w1 ⟨rfl, z, rfl⟩)
    | (go_at_call 61; with_reducible refine Calls.mono (Gives.calls (IC.out _ (by repeat (first | exact Below.refl _ _ | (with_reducible assumption) | apply below_later | apply below_alloc | apply below_drew | apply below_drewN)))) ?_; rintro e w1 ⟨rfl, z2, rfl⟩))
  go_ret2
  exact ⟨rfl, later_of (by repeat (first | exact Below.refl _ _ | (with_reducible assumption) | apply below_later | apply below_alloc | apply below_drew | apply below_drewN))⟩
theorem turn_needs {k n m l : Nat} {R : Nat → Row} {s c : Nat → Int} (W : Vals k n R) (hmn : m ≤ n) (h : cirB (envT R s m) k c l = true) : 0 < m ∧ 0 < l := by
  obtain ⟨_, _, he, h1⟩ := cir_dif h
  refine ⟨?_, by omega⟩
  apply Decidable.byContradiction
  intro h0
  obtain rfl : m = 0 := by omega
  have := he 0 (by omega)
  unfold envT wth at this
  simp at this
set_option maxRecDepth 100000 in
set_option maxHeartbeats 1600000 in
theorem Turn_ok (k cap m cS l cL : Nat) (A S L : Option Addr) (R : Nat → Row) (s c : Nat → Int) (w : World) (hl : l ≤ 1000) (hcL : l ≤ cL) (hp : IsTab w A k R) (hs : IsInts w S m s) (hc : IsInts w L l c) (h : errE k R m s = 0) (hcir : cirB (envT R s m) k c l = true) :
    Calls Try.prog 36 #[.slice A k cap, .slice S m cS, .slice L l cL] w (PostIE w (listN (fun j => turnTo c l (s j) l) m) 0) := by
  obtain ⟨W, hm, _⟩ := errE_ok h
  have hn12 := W.n12
  obtain ⟨hm0, hl0⟩ := turn_needs W (by omega) hcir
  have CH : Hid (∀ (V : World), Below w.heap.size w V → Gives Try.prog 51 #[.slice A k cap, .slice S m cS] V (.int .i64 0)) := fun V hb => h ▸ check_any k cap m cS A S R s V (hp.below hb) (hs.below hb)
  have IC : Hid (∀ (V : World), Below w.heap.size w V → Gives Try.prog 61 #[.agg #[.slice A k cap, .slice S m cS], .slice L l cL] V (.bool true)) := fun V hb => hcir ▸ isCircle_any k cap (R 0).n m cS l cL A S L R s c V (by omega) hl hcL W (hp.below hb) (hs.below hb) (hc.below hb)
  have TU := Lib.hid fun (V : World) (hb : Below w.heap.size w V) => turned_any m cS l cL (.slice A k cap) S L s c V hm0 (by omega) hl0 hl (hs.below hb) (hc.below hb)
  generalize listN (fun j => turnTo c l (s j) l) m = res at *
  clear hp hs hc h hcir W hm
  go_enter Try.func36, Try.ntmps36
  go_wp2_with (first
    | (go_at_call 51; with_reducible refine Calls.mono (Gives.calls (CH.out _ (by repeat (first | exact Below.refl _ _ | (with_reducible assumption) | apply below_later | apply below_alloc | apply below_drew | apply below_drewN)))) ?_; rintro e w1 ⟨rfl, z, rfl⟩)
    | (go_at_call 61; with_reducible refine Calls.mono (Gives.calls (IC.out _ (by repeat (first | exact Below.refl _ _ | (with_reducible assumption) | apply below_later | apply below_alloc | apply below_drew | apply below_drewN)))) ?_; rintro e w1 ⟨rfl, z2, rfl⟩)
    | (go_at_call 62; with_reducible refine Calls.mono (GivesI.calls (TU.out _ (by repeat (first | exact Below.refl _ _ | (with_reducible assumption) | apply below_later | apply below_alloc | apply below_drew | apply below_drewN)))) ?_; rintro e w1 ⟨v, rfl, z3, rfl, ho⟩; have HO := Lib.hid ho; clear ho))
  go_ret2
  exact ⟨_, rfl, ⟨_, by repeat (first | exact Below.refl _ _ | (with_reducible assumption) | apply below_later | apply below_alloc | apply below_drew | apply below_drewN)⟩, rfl, HO.out.mono (Nat.le_trans z.size (Nat.le_trans (by simp) z2.size))⟩
end Go.Proofs.Ytjmjafpjfhgfdaa
