/- Courses, Layers, Least and Reed of coats, of the program and of the document: walked. -/
import Derived.Test.YtjokpangacahgaaTLayR
namespace Go.Proofs.Ytjokpangacahgaa
open Go.RowKit

theorem hasN_succ (f : Nat → Nat) (x k : Nat) : hasN f x (k + 1) = (hasN f x k || f k == x) := rfl
set_option maxRecDepth 100000 in
set_option maxHeartbeats 1600000 in
theorem index_any (A : Option Addr) (n cap x : Nat) (f : Nat → Nat) (w : World) (hn : n ≤ 1000) (hp : IsInts w A n fun j => ((f j : Nat) : Int)) :
    Calls Try.prog 74 #[.slice A n cap, .int .i64 x] w fun e w' => ∃ r : Int, e = .returned (.int .i64 r) ∧ (∃ y : Later w, w' = y.val) ∧ decide (r ≥ 0) = hasN f x n ∧ decide (0 ≤ r) = hasN f x n ∧ -1 ≤ r ∧ r ≤ n := by
  have HP := Lib.hid hp
  have HT : Hid (∀ k, k < n → f k = x → hasN f x n = true) := fun k hk e => hasN_iff.2 ⟨k, hk, e⟩
  have HF : Hid ((∀ j, j < n → f j ≠ x) → hasN f x n = false) := fun h => by
    cases hh : hasN f x n
    · rfl
    · obtain ⟨j, h1, h2⟩ := hasN_iff.1 hh
      exact absurd h2 (h j h1)
  generalize hasN f x n = res at *
  clear hp
  go_enter Try.func74, Try.ntmps74
  go_wp2
  go_loopw [8] (fun u wr => ∃ k : Nat, k ≤ n ∧ u = .int .i64 k ∧ (∀ j, j < k → f j ≠ x) ∧ ∃ y : Later w, wr = y.val) (fun u _ => n - (intOf u).toNat)
  case atStart => exact ⟨0, by omega, rfl, by omega, later_of (by repeat (first | exact Below.refl _ _ | (with_reducible assumption) | apply below_later | apply below_alloc | apply below_drew | apply below_drewN))⟩
  case round =>
    obtain ⟨k, hk, rfl, hall, y, rfl⟩ := hrel
    have HALL := Lib.hid hall
    clear hall
    by_cases hlt : k < n
    · obtain ⟨b, off, hB, q⟩ := (HP.out.later y).at_ (by omega)
      subst hB
      have ck := q.at_ k hlt
      have lb := q.lt
      clear q
      by_cases e : f k = x
      · have HR := Lib.hid (HT.out k hlt e)
        have e1 : ((x : Int) == ((f k : Nat) : Int)) = true := by simp [e]
        clear e
        generalize f k = fk at *
        go_wp2_with fail
        go_ret
        exact ⟨(k : Int), rfl, later_of (by repeat (first | exact Below.refl _ _ | (with_reducible assumption) | apply below_later | apply below_alloc | apply below_drew | apply below_drewN)), by rw [HR.out]; simp, by rw [HR.out]; simp, by omega, by omega⟩
      · have e1 : ((x : Int) == ((f k : Nat) : Int)) = false := by simp; omega
        have HN : Hid (∀ j, j < k + 1 → f j ≠ x) := fun j hj => by
          rcases Nat.lt_or_ge j k with h | h
          · exact HALL.out j h
          · obtain rfl : j = k := by omega
            exact e
        clear e
        generalize f k = fk at *
        go_wp2_with fail
        all_goals
          first
            | (refine ⟨⟨k + 1, by omega, by go_num, HN.out, later_of (by repeat (first | exact Below.refl _ _ | (with_reducible assumption) | apply below_later | apply below_alloc | apply below_drew | apply below_drewN))⟩, ?_⟩; simp [intOf]; omega)
            | (go_roundw
               case rel => exact ⟨k + 1, by omega, by go_num, HN.out, later_of (by repeat (first | exact Below.refl _ _ | (with_reducible assumption) | apply below_later | apply below_alloc | apply below_drew | apply below_drewN))⟩
               case measure => simp [intOf]; omega)
    · obtain rfl : k = n := by omega
      have HR := Lib.hid (HF.out HALL.out)
      go_wp2
      go_ret
      exact ⟨(-1 : Int), rfl, later_of (by repeat (first | exact Below.refl _ _ | (with_reducible assumption) | apply below_later | apply below_alloc | apply below_drew | apply below_drewN)), by rw [HR.out]; decide, by rw [HR.out]; decide, by omega, by omega⟩
theorem contains_any (A : Option Addr) (n cap x : Nat) (f : Nat → Nat) (w : World) (hn : n ≤ 1000) (hp : IsInts w A n fun j => ((f j : Nat) : Int)) :
    Gives Try.prog 65 #[.slice A n cap, .int .i64 x] w (.bool (hasN f x n)) := by
  have HI := Lib.hid (index_any A n cap x f w hn hp)
  clear hp
  generalize hasN f x n = r at *
  go_enter Try.func65, Try.ntmps65
  go_wp2_with (go_at_call 74; refine Calls.mono HI.out ?_; rintro e w1 ⟨q, rfl, ⟨y, rfl⟩, hq, hq0, hq1, hq2⟩)
  go_ret
  exact ⟨rfl, later_of (by repeat (first | exact Below.refl _ _ | (with_reducible assumption) | apply below_later | apply below_alloc | apply below_drew | apply below_drewN))⟩
set_option maxRecDepth 100000 in
theorem Courses_bad (s g r : Int) (A : Option Addr) (n cap : Nat) (f : Nat → Int) (w : World) (hp : n ≤ 100 → IsInts w A n f) (hv : okCoat s g r n f = false) :
    Gives Try.prog 29 #[coatV s g r A n cap] w (.tuple #[.int .i64 0, .int .i64 81]) := by
  have VA := Lib.hid fun (V : World) (hb : Below w.heap.size w V) => hv ▸ ValidCoat_any s g r A n cap f V fun h => (hp h).below hb
  unfold coatV at VA ⊢
  clear hp hv
  go_enter Try.func29, Try.ntmps29
  go_wp2_with (go_at_call 33; with_reducible refine Calls.mono (Gives.calls (VA.out _ (by repeat (first | exact Below.refl _ _ | (with_reducible assumption) | apply below_later | apply below_alloc | apply below_drew | apply below_drewN)))) ?_; rintro e w1 ⟨rfl, z, rfl⟩)
  go_ret2
  exact ⟨rfl, later_of (by repeat (first | exact Below.refl _ _ | (with_reducible assumption) | apply below_later | apply below_alloc | apply below_drew | apply below_drewN))⟩
set_option maxRecDepth 100000 in
theorem Courses_ok (S G R n cap : Nat) (A : Option Addr) (f : Nat → Nat) (w : World) (C : Ct S G R n f) (hp : IsInts w A n fun j => ((f j : Nat) : Int)) (hv : okCoat S G R n (fun j => ((f j : Nat) : Int)) = true) :
    Gives Try.prog 29 #[coatV S G R A n cap] w (.tuple #[.int .i64 (upN S G : Nat), .int .i64 0]) := by
  have VA := Lib.hid fun (V : World) (hb : Below w.heap.size w V) => hv ▸ ValidCoat_any S G R A n cap _ V fun _ => hp.below hb
  have hS := C.hs
  have CO := Lib.hid fun V => courses_any S G R A n cap V (by omega) C.hg
  generalize upN S G = res at *
  unfold coatV at VA CO ⊢
  clear hp hv C
  go_enter Try.func29, Try.ntmps29
  go_wp2_with (first
    | ((go_at_call 33; with_reducible refine Calls.mono (Gives.calls (VA.out _ (by repeat (first | exact Below.refl _ _ | (with_reducible assumption) | apply below_later | apply below_alloc | apply below_drew | apply below_drewN)))) ?_; rintro e w1 ⟨rfl, z, rfl⟩); obtain ⟨⟨x0, x1, x2, x3⟩, lx⟩ := coat_at (w := w) (V := z.val) (s := (S : Int)) (g := (G : Int)) (r := (R : Int)) (A := A) (n := n) (c := cap) (by repeat (first | exact Below.refl _ _ | (with_reducible assumption) | apply below_later | apply below_alloc | apply below_drew | apply below_drewN)))
    | (go_at_call 60; with_reducible refine Calls.mono (Gives.calls (CO.out _)) ?_; rintro e w1 ⟨rfl, z2, rfl⟩))
  go_ret2
  exact ⟨rfl, later_of (by repeat (first | exact Below.refl _ _ | (with_reducible assumption) | apply below_later | apply below_alloc | apply below_drew | apply below_drewN))⟩
set_option maxRecDepth 100000 in
theorem Least_bad (s g r : Int) (A : Option Addr) (n cap : Nat) (f : Nat → Int) (w : World) (hp : n ≤ 100 → IsInts w A n f) (hv : okCoat s g r n f = false) :
    Gives Try.prog 35 #[coatV s g r A n cap] w (.tuple #[.int .i64 0, .int .i64 81]) := by
  have VA := Lib.hid fun (V : World) (hb : Below w.heap.size w V) => hv ▸ ValidCoat_any s g r A n cap f V fun h => (hp h).below hb
  unfold coatV at VA ⊢
  clear hp hv
  go_enter Try.func35, Try.ntmps35
  go_wp2_with (go_at_call 33; with_reducible refine Calls.mono (Gives.calls (VA.out _ (by repeat (first | exact Below.refl _ _ | (with_reducible assumption) | apply below_later | apply below_alloc | apply below_drew | apply below_drewN)))) ?_; rintro e w1 ⟨rfl, z, rfl⟩)
  go_ret2
  exact ⟨rfl, later_of (by repeat (first | exact Below.refl _ _ | (with_reducible assumption) | apply below_later | apply below_alloc | apply below_drew | apply below_drewN))⟩
set_option maxRecDepth 100000 in
theorem Reed_bad (s g r : Int) (A : Option Addr) (n cap : Nat) (f : Nat → Int) (w : World) (hp : n ≤ 100 → IsInts w A n f) (hv : okCoat s g r n f = false) :
    Gives Try.prog 37 #[coatV s g r A n cap] w (.tuple #[.int .i64 0, .int .i64 81]) := by
  have VA := Lib.hid fun (V : World) (hb : Below w.heap.size w V) => hv ▸ ValidCoat_any s g r A n cap f V fun h => (hp h).below hb
  unfold coatV at VA ⊢
  clear hp hv
  go_enter Try.func37, Try.ntmps37
  go_wp2_with (go_at_call 33; with_reducible refine Calls.mono (Gives.calls (VA.out _ (by repeat (first | exact Below.refl _ _ | (with_reducible assumption) | apply below_later | apply below_alloc | apply below_drew | apply below_drewN)))) ?_; rintro e w1 ⟨rfl, z, rfl⟩)
  go_ret2
  exact ⟨rfl, later_of (by repeat (first | exact Below.refl _ _ | (with_reducible assumption) | apply below_later | apply below_alloc | apply below_drew | apply below_drewN))⟩
set_option maxRecDepth 100000 in
theorem rCourses_bad (s g r : Int) (A : Option Addr) (n cap : Nat) (f : Nat → Int) (w : World) (hp : n ≤ 100 → IsInts w A n f) (hv : okCoat s g r n f = false) :
    Gives Try.prog 30 #[coatV s g r A n cap] w (.tuple #[.int .i64 0, .int .i64 81]) := by
  have VA := Lib.hid fun (V : World) (hb : Below w.heap.size w V) => hv ▸ rValidCoat_any s g r A n cap f V fun h => (hp h).below hb
  unfold coatV at VA ⊢
  clear hp hv
  go_enter Try.func30, Try.ntmps30
  go_wp2_with (go_at_call 34; with_reducible refine Calls.mono (Gives.calls (VA.out _ (by repeat (first | exact Below.refl _ _ | (with_reducible assumption) | apply below_later | apply below_alloc | apply below_drew | apply below_drewN)))) ?_; rintro e w1 ⟨rfl, z, rfl⟩)
  go_ret2
  exact ⟨rfl, later_of (by repeat (first | exact Below.refl _ _ | (with_reducible assumption) | apply below_later | apply below_alloc | apply below_drew | apply below_drewN))⟩
set_option maxRecDepth 100000 in
theorem rCourses_ok (S G R n cap : Nat) (A : Option Addr) (f : Nat → Nat) (w : World) (C : Ct S G R n f) (hp : IsInts w A n fun j => ((f j : Nat) : Int)) (hv : okCoat S G R n (fun j => ((f j : Nat) : Int)) = true) :
    Gives Try.prog 30 #[coatV S G R A n cap] w (.tuple #[.int .i64 (upN S G : Nat), .int .i64 0]) := by
  have VA := Lib.hid fun (V : World) (hb : Below w.heap.size w V) => hv ▸ rValidCoat_any S G R A n cap _ V fun _ => hp.below hb
  have hS := C.hs
  have CO := Lib.hid fun V => rcourses_any S G R A n cap V (by omega) C.hg
  generalize upN S G = res at *
  unfold coatV at VA CO ⊢
  clear hp hv C
  go_enter Try.func30, Try.ntmps30
  go_wp2_with (first
    | ((go_at_call 34; with_reducible refine Calls.mono (Gives.calls (VA.out _ (by repeat (first | exact Below.refl _ _ | (with_reducible assumption) | apply below_later | apply below_alloc | apply below_drew | apply below_drewN)))) ?_; rintro e w1 ⟨rfl, z, rfl⟩); obtain ⟨⟨x0, x1, x2, x3⟩, lx⟩ := coat_at (w := w) (V := z.val) (s := (S : Int)) (g := (G : Int)) (r := (R : Int)) (A := A) (n := n) (c := cap) (by repeat (first | exact Below.refl _ _ | (with_reducible assumption) | apply below_later | apply below_alloc | apply below_drew | apply below_drewN)))
    | (go_at_call 61; with_reducible refine Calls.mono (Gives.calls (CO.out _)) ?_; rintro e w1 ⟨rfl, z2, rfl⟩))
  go_ret2
  exact ⟨rfl, later_of (by repeat (first | exact Below.refl _ _ | (with_reducible assumption) | apply below_later | apply below_alloc | apply below_drew | apply below_drewN))⟩
set_option maxRecDepth 100000 in
theorem rLeast_bad (s g r : Int) (A : Option Addr) (n cap : Nat) (f : Nat → Int) (w : World) (hp : n ≤ 100 → IsInts w A n f) (hv : okCoat s g r n f = false) :
    Gives Try.prog 36 #[coatV s g r A n cap] w (.tuple #[.int .i64 0, .int .i64 81]) := by
  have VA := Lib.hid fun (V : World) (hb : Below w.heap.size w V) => hv ▸ rValidCoat_any s g r A n cap f V fun h => (hp h).below hb
  unfold coatV at VA ⊢
  clear hp hv
  go_enter Try.func36, Try.ntmps36
  go_wp2_with (go_at_call 34; with_reducible refine Calls.mono (Gives.calls (VA.out _ (by repeat (first | exact Below.refl _ _ | (with_reducible assumption) | apply below_later | apply below_alloc | apply below_drew | apply below_drewN)))) ?_; rintro e w1 ⟨rfl, z, rfl⟩)
  go_ret2
  exact ⟨rfl, later_of (by repeat (first | exact Below.refl _ _ | (with_reducible assumption) | apply below_later | apply below_alloc | apply below_drew | apply below_drewN))⟩
set_option maxRecDepth 100000 in
theorem rReed_bad (s g r : Int) (A : Option Addr) (n cap : Nat) (f : Nat → Int) (w : World) (hp : n ≤ 100 → IsInts w A n f) (hv : okCoat s g r n f = false) :
    Gives Try.prog 38 #[coatV s g r A n cap] w (.tuple #[.int .i64 0, .int .i64 81]) := by
  have VA := Lib.hid fun (V : World) (hb : Below w.heap.size w V) => hv ▸ rValidCoat_any s g r A n cap f V fun h => (hp h).below hb
  unfold coatV at VA ⊢
  clear hp hv
  go_enter Try.func38, Try.ntmps38
  go_wp2_with (go_at_call 34; with_reducible refine Calls.mono (Gives.calls (VA.out _ (by repeat (first | exact Below.refl _ _ | (with_reducible assumption) | apply below_later | apply below_alloc | apply below_drew | apply below_drewN)))) ?_; rintro e w1 ⟨rfl, z, rfl⟩)
  go_ret2
  exact ⟨rfl, later_of (by repeat (first | exact Below.refl _ _ | (with_reducible assumption) | apply below_later | apply below_alloc | apply below_drew | apply below_drewN))⟩
set_option maxRecDepth 100000 in
theorem rLayers_bad (s g r : Int) (A : Option Addr) (n cap : Nat) (f : Nat → Int) (i : Int) (w : World) (hp : n ≤ 100 → IsInts w A n f) (hv : okCoat s g r n f = false) :
    Gives Try.prog 32 #[coatV s g r A n cap, .int .i64 i] w (.tuple #[.int .i64 0, .int .i64 81]) := by
  have VA := Lib.hid fun (V : World) (hb : Below w.heap.size w V) => hv ▸ rValidCoat_any s g r A n cap f V fun h => (hp h).below hb
  unfold coatV at VA ⊢
  clear hp hv
  go_enter Try.func32, Try.ntmps32
  go_wp2_with (go_at_call 34; with_reducible refine Calls.mono (Gives.calls (VA.out _ (by repeat (first | exact Below.refl _ _ | (with_reducible assumption) | apply below_later | apply below_alloc | apply below_drew | apply below_drewN)))) ?_; rintro e w1 ⟨rfl, z, rfl⟩)
  go_ret2
  exact ⟨rfl, later_of (by repeat (first | exact Below.refl _ _ | (with_reducible assumption) | apply below_later | apply below_alloc | apply below_drew | apply below_drewN))⟩
set_option maxRecDepth 100000 in
theorem rLayers_arg (S G R n cap : Nat) (A : Option Addr) (f : Nat → Int) (i : Int) (w : World) (hS : S ≤ 5000) (hp : n ≤ 100 → IsInts w A n f) (hv : okCoat S G R n f = true) (hi : inI 0 i ((S : Int) - 1) = false) :
    Gives Try.prog 32 #[coatV S G R A n cap, .int .i64 i] w (.tuple #[.int .i64 0, .int .i64 2]) := by
  have VA := Lib.hid fun (V : World) (hb : Below w.heap.size w V) => hv ▸ rValidCoat_any S G R A n cap f V fun h => (hp h).below hb
  have BT := Lib.hid fun V => hi ▸ rfrom_any 0 i ((S : Int) - 1) V
  unfold coatV at VA ⊢
  clear hp hv hi
  go_enter Try.func32, Try.ntmps32
  go_wp2_with (first | ((go_at_call 34; with_reducible refine Calls.mono (Gives.calls (VA.out _ (by repeat (first | exact Below.refl _ _ | (with_reducible assumption) | apply below_later | apply below_alloc | apply below_drew | apply below_drewN)))) ?_; rintro e w1 ⟨rfl, z, rfl⟩); obtain ⟨⟨x0, x1, x2, x3⟩, lx⟩ := coat_at (w := w) (V := z.val) (s := (S : Int)) (g := (G : Int)) (r := (R : Int)) (A := A) (n := n) (c := cap) (by repeat (first | exact Below.refl _ _ | (with_reducible assumption) | apply below_later | apply below_alloc | apply below_drew | apply below_drewN))) | (go_at_call 52; with_reducible refine Calls.mono (Gives.calls (BT.out _)) ?_; rintro e w1 ⟨rfl, z2, rfl⟩))
  go_ret2
  exact ⟨rfl, later_of (by repeat (first | exact Below.refl _ _ | (with_reducible assumption) | apply below_later | apply below_alloc | apply below_drew | apply below_drewN))⟩
set_option maxRecDepth 100000 in
set_option maxHeartbeats 1600000 in
theorem rLayers_ok (S G R n cap i : Nat) (A : Option Addr) (f : Nat → Nat) (w : World) (C : Ct S G R n f) (hi : i < S) (hp : IsInts w A n fun j => ((f j : Nat) : Int)) (hv : okCoat S G R n (fun j => ((f j : Nat) : Int)) = true) :
    Gives Try.prog 32 #[coatV S G R A n cap, .int .i64 i] w (.tuple #[.int .i64 (layN G R n f i (upN S G) : Nat), .int .i64 0]) := by
  have hS := C.hs
  have VA := Lib.hid fun (V : World) (hb : Below w.heap.size w V) => hv ▸ rValidCoat_any S G R A n cap _ V fun _ => hp.below hb
  have BT : Hid (∀ V, Gives Try.prog 52 #[.int .i64 0, .int .i64 i, .int .i64 ((S : Int) - 1)] V (.bool true)) := fun V => (show inI 0 (i : Int) ((S : Int) - 1) = true from inI_iff.2 ⟨by omega, by omega⟩) ▸ rfrom_any 0 i ((S : Int) - 1) V
  have LA := Lib.hid fun (V : World) (hb : Below w.heap.size w V) => rlayers_any S G R n cap A f V C (hp.below hb)
  have LG := Lib.hid (layL_get (G := G) (R := R) (j := n) (f := f) (k := upN S G) hi)
  have LL := Lib.hid (layL_length G R n S f (upN S G))
  generalize layN G R n f i (upN S G) = res at *
  generalize layL G R n S f (upN S G) = L at *
  unfold coatV at VA LA ⊢
  clear hp hv C
  go_enter Try.func32, Try.ntmps32
  go_wp2_with (first
    | ((go_at_call 34; with_reducible refine Calls.mono (Gives.calls (VA.out _ (by repeat (first | exact Below.refl _ _ | (with_reducible assumption) | apply below_later | apply below_alloc | apply below_drew | apply below_drewN)))) ?_; rintro e w1 ⟨rfl, z, rfl⟩); obtain ⟨⟨x0, x1, x2, x3⟩, lx⟩ := coat_at (w := w) (V := z.val) (s := (S : Int)) (g := (G : Int)) (r := (R : Int)) (A := A) (n := n) (c := cap) (by repeat (first | exact Below.refl _ _ | (with_reducible assumption) | apply below_later | apply below_alloc | apply below_drew | apply below_drewN)))
    | ((go_at_call 52; with_reducible refine Calls.mono (Gives.calls (BT.out _)) ?_; rintro e w1 ⟨rfl, z2, rfl⟩); obtain ⟨⟨x0, x1, x2, x3⟩, lx⟩ := coat_at (w := w) (V := z2.val) (s := (S : Int)) (g := (G : Int)) (r := (R : Int)) (A := A) (n := n) (c := cap) (by repeat (first | exact Below.refl _ _ | (with_reducible assumption) | apply below_later | apply below_alloc | apply below_drew | apply below_drewN)))
    | (go_at_call 63; with_reducible refine Calls.mono (GivesI.calls (LA.out _ (by repeat (first | exact Below.refl _ _ | (with_reducible assumption) | apply below_later | apply below_alloc | apply below_drew | apply below_drewN)))) ?_; rintro e w1 ⟨v, rfl, z3, rfl, ho⟩; obtain ⟨O, cO, rfl⟩ := ho.shape_n LL.out; obtain ⟨bo, oo, hO, q⟩ := (ho.ints (by rw [LL.out]; omega)).2.at_ (by omega); subst hO; have cv := q.at_ i hi; rw [LG.out] at cv; have lv := q.lt; clear ho q))
  go_ret2
  exact ⟨rfl, later_of (by repeat (first | exact Below.refl _ _ | (with_reducible assumption) | apply below_later | apply below_alloc | apply below_drew | apply below_drewN))⟩
theorem lst_le {g : Nat → Nat} {b : Nat} (h0 : g 0 ≤ b) (k : Nat) : lstN g k ≤ b := by
  induction k with
  | zero => exact h0
  | succ k ih => rw [lstN_succ]; omega
set_option maxRecDepth 100000 in
set_option maxHeartbeats 1600000 in
theorem Least_ok (S G R n cap : Nat) (A : Option Addr) (f : Nat → Nat) (w : World) (C : Ct S G R n f) (hp : IsInts w A n fun j => ((f j : Nat) : Int)) (hv : okCoat S G R n (fun j => ((f j : Nat) : Int)) = true) :
    Gives Try.prog 35 #[coatV S G R A n cap] w (.tuple #[.int .i64 (lstN (fun i => layN G R n f i (upN S G)) S : Nat), .int .i64 0]) := by
  have hS := C.hs
  have VA := Lib.hid fun (V : World) (hb : Below w.heap.size w V) => hv ▸ ValidCoat_any S G R A n cap _ V fun _ => hp.below hb
  have LA := Lib.hid fun (i : Nat) (V : World) (hi : i < S) (hb : Below w.heap.size w V) => layersAt_any S G R n cap i A f V C hi (hp.below hb)
  have LB := Lib.hid fun i => cntN_le (liesB G R n f i) (upN S G)
  have hN : upN S G ≤ 5200 := Nat.le_trans (Nat.div_le_self _ _) (by have := C.hg; omega)
  have LB2 : Hid (∀ i, layN G R n f i (upN S G) ≤ 5200) := fun i => Nat.le_trans (LB.out i) hN
  have MS := Lib.hid fun k => lstN_succ (fun i => layN G R n f i (upN S G)) k
  have MB := Lib.hid fun k => lst_le (g := fun i => layN G R n f i (upN S G)) (LB2.out 0) k
  have M0 : Hid (lstN (fun i => layN G R n f i (upN S G)) 0 = layN G R n f 0 (upN S G)) := rfl
  generalize lstN (fun i => layN G R n f i (upN S G)) = M at *
  have MS2 : Hid (∀ k, M (k + 1) = min (M k) (layN G R n f k (upN S G))) := fun k => MS.out k
  have LAt : Hid (∀ (i : Nat) (V : World), i < S → Below w.heap.size w V → Gives Try.prog 62 #[coatV S G R A n cap, .int .i64 i] V (.int .i64 (layN G R n f i (upN S G) : Nat))) := fun i V h1 h2 => LA.out i V h1 h2
  clear MS LB LA
  have HLL : Hid (∃ lay : Nat → Nat, lay = fun i => layN G R n f i (upN S G)) := ⟨_, rfl⟩
  obtain ⟨lay, hlay⟩ := HLL.out
  have hl2 : ∀ i, layN G R n f i (upN S G) = lay i := fun i => by rw [hlay]
  simp only [hl2] at LB2 M0 MS2 LAt
  clear HLL hlay hl2
  unfold coatV at VA LAt ⊢
  have L00 := Lib.hid fun V h => LAt.out 0 V (by omega) h
  clear hp hv C
  go_enter Try.func35, Try.ntmps35
  go_wp2_with (first
    | ((go_at_call 33; with_reducible refine Calls.mono (Gives.calls (VA.out _ (by repeat (first | exact Below.refl _ _ | (with_reducible assumption) | apply below_later | apply below_alloc | apply below_drew | apply below_drewN)))) ?_; rintro e w1 ⟨rfl, z, rfl⟩); obtain ⟨⟨x0, x1, x2, x3⟩, lx⟩ := coat_at (w := w) (V := z.val) (s := (S : Int)) (g := (G : Int)) (r := (R : Int)) (A := A) (n := n) (c := cap) (by repeat (first | exact Below.refl _ _ | (with_reducible assumption) | apply below_later | apply below_alloc | apply below_drew | apply below_drewN)))
    | ((go_at_call 62; with_reducible refine Calls.mono (Gives.calls (L00.out _ (by repeat (first | exact Below.refl _ _ | (with_reducible assumption) | apply below_later | apply below_alloc | apply below_drew | apply below_drewN)))) ?_; rintro e w1 ⟨rfl, z2, rfl⟩); obtain ⟨⟨x0, x1, x2, x3⟩, lx⟩ := coat_at (w := w) (V := z2.val) (s := (S : Int)) (g := (G : Int)) (r := (R : Int)) (A := A) (n := n) (c := cap) (by repeat (first | exact Below.refl _ _ | (with_reducible assumption) | apply below_later | apply below_alloc | apply below_drew | apply below_drewN))))
  have HBZ : Hid (Below w.heap.size w z2.val) := by show Below _ _ _; repeat (first | exact Below.refl _ _ | (with_reducible assumption) | apply below_later | apply below_alloc | apply below_drew | apply below_drewN)
  obtain ⟨b8, hb8⟩ : ∃ b8, w.heap.size = b8 := ⟨_, rfl⟩
  rw [hb8] at x0 x1 x2 x3 lx ⊢
  clear hb8
  generalize z2.val = Z at *
  go_loopw [4, 13] (fun u v wr => ∃ k : Nat, u = .int .i64 (M k : Nat) ∧ v = .int .i64 (k : Nat) ∧ k ≤ S ∧ ∃ x : Later Z, wr = x.val) (fun _ v _ => S - (intOf v).toNat)
  case atStart => exact ⟨0, by rw [M0.out], rfl, by omega, later_of (by repeat (first | exact Below.refl _ _ | (with_reducible assumption) | apply below_later | apply below_alloc | apply below_drew | apply below_drewN))⟩
  case round =>
    obtain ⟨k, rfl, rfl, hk, x, rfl⟩ := hrel
    have y0 := (x.cell _ _ lx).trans x0
    have y1 := (x.cell _ _ lx).trans x1
    have y2 := (x.cell _ _ lx).trans x2
    have y3 := (x.cell _ _ lx).trans x3
    have ly := x.lt _ lx
    by_cases hlt : k < S
    · have LAk := Lib.hid fun V h => LAt.out k V hlt h
      have HBX : Hid (Below w.heap.size w x.val) := below_more HBZ.out x.ok
      have b1 := LB2.out k
      have b2 := MB.out k
      have HN := Lib.hid (MS2.out k)
      obtain ⟨t2, ht2⟩ : ∃ t2, M (k + 1) = t2 := ⟨_, rfl⟩
      rw [ht2] at HN
      have HT2 := Lib.hid ht2
      clear ht2
      generalize M k = t at *
      generalize lay k = lk at *
      go_wp2_with (go_at_call 62; with_reducible refine Calls.mono (Gives.calls (LAk.out _ (below_more HBX.out (by repeat (first | exact Below.refl _ _ | (with_reducible assumption) | apply below_later | apply below_alloc | apply below_drew | apply below_drewN))))) ?_; rintro e w1 ⟨rfl, z3, rfl⟩)
      all_goals
        first
          | (refine ⟨⟨k + 1, by rw [HT2.out]; congr 1; have := HN.out; omega, by go_num, by omega, later_of (by repeat (first | exact Below.refl _ _ | (with_reducible assumption) | apply below_later | apply below_alloc | apply below_drew | apply below_drewN))⟩, ?_⟩; simp [intOf]; omega)
          | (go_roundw
             case rel => exact ⟨k + 1, by rw [HT2.out]; congr 1; have := HN.out; omega, by go_num, by omega, later_of (by repeat (first | exact Below.refl _ _ | (with_reducible assumption) | apply below_later | apply below_alloc | apply below_drew | apply below_drewN))⟩
             case measure => simp [intOf]; omega)
    · obtain rfl : k = S := by omega
      go_wp2_with fail
      go_ret2
      exact ⟨rfl, later_of (below_more HBZ.out x.ok)⟩
set_option maxRecDepth 100000 in
set_option maxHeartbeats 1600000 in
theorem rLeast_ok (S G R n cap : Nat) (A : Option Addr) (f : Nat → Nat) (w : World) (C : Ct S G R n f) (hp : IsInts w A n fun j => ((f j : Nat) : Int)) (hv : okCoat S G R n (fun j => ((f j : Nat) : Int)) = true) :
    Gives Try.prog 36 #[coatV S G R A n cap] w (.tuple #[.int .i64 (lstN (fun i => layN G R n f i (upN S G)) S : Nat), .int .i64 0]) := by
  have hS := C.hs
  have VA := Lib.hid fun (V : World) (hb : Below w.heap.size w V) => hv ▸ rValidCoat_any S G R A n cap _ V fun _ => hp.below hb
  have LA := Lib.hid fun (V : World) (hb : Below w.heap.size w V) => rlayers_any S G R n cap A f V C (hp.below hb)
  have LB := Lib.hid fun i => cntN_le (liesB G R n f i) (upN S G)
  have hN : upN S G ≤ 5200 := Nat.le_trans (Nat.div_le_self _ _) (by have := C.hg; omega)
  have LB2 : Hid (∀ i, layN G R n f i (upN S G) ≤ 5200) := fun i => Nat.le_trans (LB.out i) hN
  have MB := Lib.hid fun k => lst_le (g := fun i => layN G R n f i (upN S G)) (LB2.out 0) k
  have M0 : Hid (lstN (fun i => layN G R n f i (upN S G)) 0 = layN G R n f 0 (upN S G)) := rfl
  have MS2 : Hid (∀ k, lstN (fun i => layN G R n f i (upN S G)) (k + 1) = min (lstN (fun i => layN G R n f i (upN S G)) k) (layN G R n f k (upN S G))) := fun k => rfl
  have LG : Hid (∀ i, i < S → (layL G R n S f (upN S G)).getD i 0 = ((layN G R n f i (upN S G) : Nat) : Int)) := fun i hi => layL_get hi
  have LL := Lib.hid (layL_length G R n S f (upN S G))
  generalize layL G R n S f (upN S G) = L at *
  generalize lstN (fun i => layN G R n f i (upN S G)) = M at *
  have HLL : Hid (∃ lay : Nat → Nat, lay = fun i => layN G R n f i (upN S G)) := ⟨_, rfl⟩
  obtain ⟨lay, hlay⟩ := HLL.out
  have hl2 : ∀ i, layN G R n f i (upN S G) = lay i := fun i => by rw [hlay]
  simp only [hl2] at LB2 M0 MS2 LG
  clear HLL hlay hl2 LB
  unfold coatV at VA LA ⊢
  clear hp hv C
  go_enter Try.func36, Try.ntmps36
  go_wp2_with (first
    | ((go_at_call 34; with_reducible refine Calls.mono (Gives.calls (VA.out _ (by repeat (first | exact Below.refl _ _ | (with_reducible assumption) | apply below_later | apply below_alloc | apply below_drew | apply below_drewN)))) ?_; rintro e w1 ⟨rfl, z, rfl⟩); obtain ⟨⟨x0, x1, x2, x3⟩, lx⟩ := coat_at (w := w) (V := z.val) (s := (S : Int)) (g := (G : Int)) (r := (R : Int)) (A := A) (n := n) (c := cap) (by repeat (first | exact Below.refl _ _ | (with_reducible assumption) | apply below_later | apply below_alloc | apply below_drew | apply below_drewN)))
    | (go_at_call 63; with_reducible refine Calls.mono (GivesI.calls (LA.out _ (by repeat (first | exact Below.refl _ _ | (with_reducible assumption) | apply below_later | apply below_alloc | apply below_drew | apply below_drewN)))) ?_; rintro e w1 ⟨v, rfl, z3, rfl, ho⟩; obtain ⟨O, cO, rfl⟩ := ho.shape_n LL.out; have IO := Lib.hid (ho.ints (by rw [LL.out]; omega)).2; obtain ⟨bo, oo, hO, q⟩ := IO.out.at_ (by omega); subst hO; have cv := q.at_ 0 (by omega); rw [LG.out 0 (by omega), Nat.add_zero] at cv; have lv := q.lt; clear ho q))
  have HBZ : Hid (Below w.heap.size w z3.val) := by show Below _ _ _; repeat (first | exact Below.refl _ _ | (with_reducible assumption) | apply below_later | apply below_alloc | apply below_drew | apply below_drewN)
  generalize z3.val = Z at *
  go_loopw [5, 6] (fun u v wr => ∃ k : Nat, u = .int .i64 (M k : Nat) ∧ v = .int .i64 (k : Nat) ∧ k ≤ S ∧ ∃ x : Later Z, wr = x.val) (fun _ v _ => S - (intOf v).toNat)
  case atStart => exact ⟨0, by rw [M0.out], rfl, by omega, later_of (by repeat (first | exact Below.refl _ _ | (with_reducible assumption) | apply below_later | apply below_alloc | apply below_drew | apply below_drewN))⟩
  case round =>
    obtain ⟨k, rfl, rfl, hk, x, rfl⟩ := hrel
    by_cases hlt : k < S
    · obtain ⟨b2', o2', hA, q⟩ := (IO.out.below x.ok).at_ (by omega)
      simp only [Option.some.injEq, Addr.mk.injEq, and_true] at hA
      obtain ⟨rfl, rfl⟩ := hA
      have ck := q.at_ k hlt
      have lk' := q.lt
      rw [LG.out k hlt] at ck
      have b1 := LB2.out k
      have b2 := MB.out k
      have HN := Lib.hid (MS2.out k)
      obtain ⟨t2, ht2⟩ : ∃ t2, M (k + 1) = t2 := ⟨_, rfl⟩
      rw [ht2] at HN
      have HT2 := Lib.hid ht2
      clear ht2 q
      generalize M k = t at *
      generalize lay k = lk at *
      go_wp2_with fail
      all_goals
        first
          | (refine ⟨⟨k + 1, by rw [HT2.out]; congr 1; have := HN.out; omega, by go_num, by omega, later_of (by repeat (first | exact Below.refl _ _ | (with_reducible assumption) | apply below_later | apply below_alloc | apply below_drew | apply below_drewN))⟩, ?_⟩; simp [intOf]; omega)
          | (go_roundw
             case rel => exact ⟨k + 1, by rw [HT2.out]; congr 1; have := HN.out; omega, by go_num, by omega, later_of (by repeat (first | exact Below.refl _ _ | (with_reducible assumption) | apply below_later | apply below_alloc | apply below_drew | apply below_drewN))⟩
             case measure => simp [intOf]; omega)
    · obtain rfl : k = S := by omega
      go_wp2_with fail
      go_ret2
      exact ⟨rfl, later_of (below_more HBZ.out x.ok)⟩
set_option maxRecDepth 100000 in
set_option maxHeartbeats 1600000 in
theorem rReed_ok (S G R n cap : Nat) (A : Option Addr) (f : Nat → Nat) (w : World) (C : Ct S G R n f) (hp : IsInts w A n fun j => ((f j : Nat) : Int)) (hv : okCoat S G R n (fun j => ((f j : Nat) : Int)) = true) :
    Gives Try.prog 38 #[coatV S G R A n cap] w (.tuple #[.int .i64 (addN (fun i => layN G R n f i (upN S G)) S : Nat), .int .i64 0]) := by
  have hS := C.hs
  have VA := Lib.hid fun (V : World) (hb : Below w.heap.size w V) => hv ▸ rValidCoat_any S G R A n cap _ V fun _ => hp.below hb
  have LA := Lib.hid fun (V : World) (hb : Below w.heap.size w V) => rlayers_any S G R n cap A f V C (hp.below hb)
  have LB := Lib.hid fun i => cntN_le (liesB G R n f i) (upN S G)
  have hN : upN S G ≤ 5200 := Nat.le_trans (Nat.div_le_self _ _) (by have := C.hg; omega)
  have LB2 : Hid (∀ i, layN G R n f i (upN S G) ≤ 5200) := fun i => Nat.le_trans (LB.out i) hN
  have MB := Lib.hid fun k => addN_le (g := fun i => layN G R n f i (upN S G)) (k := k) (b := 5200) fun i _ => LB2.out i
  have M0 : Hid (addN (fun i => layN G R n f i (upN S G)) 0 = 0) := rfl
  have MS2 : Hid (∀ k, addN (fun i => layN G R n f i (upN S G)) (k + 1) = addN (fun i => layN G R n f i (upN S G)) k + layN G R n f k (upN S G)) := fun k => rfl
  have LG : Hid (∀ i, i < S → (layL G R n S f (upN S G)).getD i 0 = ((layN G R n f i (upN S G) : Nat) : Int)) := fun i hi => layL_get hi
  have LL := Lib.hid (layL_length G R n S f (upN S G))
  generalize layL G R n S f (upN S G) = L at *
  generalize addN (fun i => layN G R n f i (upN S G)) = M at *
  have HLL : Hid (∃ lay : Nat → Nat, lay = fun i => layN G R n f i (upN S G)) := ⟨_, rfl⟩
  obtain ⟨lay, hlay⟩ := HLL.out
  have hl2 : ∀ i, layN G R n f i (upN S G) = lay i := fun i => by rw [hlay]
  simp only [hl2] at LB2 MS2 LG
  clear HLL hlay hl2 LB
  unfold coatV at VA LA ⊢
  clear hp hv C
  go_enter Try.func38, Try.ntmps38
  go_wp2_with (first
    | ((go_at_call 34; with_reducible refine Calls.mono (Gives.calls (VA.out _ (by repeat (first | exact Below.refl _ _ | (with_reducible assumption) | apply below_later | apply below_alloc | apply below_drew | apply below_drewN)))) ?_; rintro e w1 ⟨rfl, z, rfl⟩); obtain ⟨⟨x0, x1, x2, x3⟩, lx⟩ := coat_at (w := w) (V := z.val) (s := (S : Int)) (g := (G : Int)) (r := (R : Int)) (A := A) (n := n) (c := cap) (by repeat (first | exact Below.refl _ _ | (with_reducible assumption) | apply below_later | apply below_alloc | apply below_drew | apply below_drewN)))
    | (go_at_call 63; with_reducible refine Calls.mono (GivesI.calls (LA.out _ (by repeat (first | exact Below.refl _ _ | (with_reducible assumption) | apply below_later | apply below_alloc | apply below_drew | apply below_drewN)))) ?_; rintro e w1 ⟨v, rfl, z3, rfl, ho⟩; obtain ⟨O, cO, rfl⟩ := ho.shape_n LL.out; have IO := Lib.hid (ho.ints (by rw [LL.out]; omega)).2; clear ho))
  have HBZ : Hid (Below w.heap.size w z3.val) := by show Below _ _ _; repeat (first | exact Below.refl _ _ | (with_reducible assumption) | apply below_later | apply below_alloc | apply below_drew | apply below_drewN)
  generalize z3.val = Z at *
  go_loopw [5, 6] (fun u v wr => ∃ k : Nat, u = .int .i64 (M k : Nat) ∧ v = .int .i64 (k : Nat) ∧ k ≤ S ∧ ∃ x : Later Z, wr = x.val) (fun _ v _ => S - (intOf v).toNat)
  case atStart => exact ⟨0, by rw [M0.out]; rfl, rfl, by omega, later_of (by repeat (first | exact Below.refl _ _ | (with_reducible assumption) | apply below_later | apply below_alloc | apply below_drew | apply below_drewN))⟩
  case round =>
    obtain ⟨k, rfl, rfl, hk, x, rfl⟩ := hrel
    by_cases hlt : k < S
    · obtain ⟨b2', o2', hA, q⟩ := (IO.out.below x.ok).at_ (by omega)
      subst hA
      have ck := q.at_ k hlt
      have lk' := q.lt
      rw [LG.out k hlt] at ck
      have b1 := LB2.out k
      have b2 := MB.out k
      have HN := Lib.hid (MS2.out k)
      obtain ⟨t2, ht2⟩ : ∃ t2, M (k + 1) = t2 := ⟨_, rfl⟩
      rw [ht2] at HN
      have HT2 := Lib.hid ht2
      clear ht2 q
      generalize M k = t at *
      generalize lay k = lk at *
      go_wp2_with fail
      all_goals
        first
          | (refine ⟨⟨k + 1, by rw [HT2.out]; congr 1; have := HN.out; omega, by go_num, by omega, later_of (by repeat (first | exact Below.refl _ _ | (with_reducible assumption) | apply below_later | apply below_alloc | apply below_drew | apply below_drewN))⟩, ?_⟩; simp [intOf]; omega)
          | (go_roundw
             case rel => exact ⟨k + 1, by rw [HT2.out]; congr 1; have := HN.out; omega, by go_num, by omega, later_of (by repeat (first | exact Below.refl _ _ | (with_reducible assumption) | apply below_later | apply below_alloc | apply below_drew | apply below_drewN))⟩
             case measure => simp [intOf]; omega)
    · obtain rfl : k = S := by omega
      go_wp2_with fail
      go_ret2
      exact ⟨rfl, later_of (below_more HBZ.out x.ok)⟩
set_option maxRecDepth 100000 in
set_option maxHeartbeats 3200000 in
theorem Reed_ok (S G R n cap : Nat) (A : Option Addr) (f : Nat → Nat) (w : World) (C : Ct S G R n f) (hp : IsInts w A n fun j => ((f j : Nat) : Int)) (hv : okCoat S G R n (fun j => ((f j : Nat) : Int)) = true) :
    Gives Try.prog 37 #[coatV S G R A n cap] w (.tuple #[.int .i64 (addN (fun i => layN G R n f i (upN S G)) S : Nat), .int .i64 0]) := by
  have hS := C.hs
  have hn := C.hn
  have hr := C.hr
  have hg := C.hg
  rw [reed_both C.hg.1 C.hr.1]
  have VA := Lib.hid fun (V : World) (hb : Below w.heap.size w V) => hv ▸ ValidCoat_any S G R A n cap _ V fun _ => hp.below hb
  have CO := Lib.hid fun V => courses_any S G R A n cap V (by omega) C.hg
  have CT := Lib.hid fun (x : Nat) (V : World) (hb : Below w.heap.size w V) => contains_any A n cap x f V (by omega) (hp.below hb)
  have hN : upN S G ≤ 5200 := Nat.le_trans (Nat.div_le_self _ _) (by omega)
  have HLT := Lib.hid fun k (hk : k < upN S G) => (lt_upN_iff (n := S) hg.1).1 hk
  have RB : Hid (∀ m, reedN G R S n f m ≤ 200) := fun m => by unfold reedN; split <;> omega
  have RT : Hid (∀ m, hasN f m n = true → reedN G R S n f m = 0) := fun m h => by unfold reedN; rw [if_pos h]
  have RF : Hid (∀ m, hasN f m n = false → reedN G R S n f m = min R (S - m * G)) := fun m h => by unfold reedN; rw [if_neg (by rw [h]; simp)]
  have MB := Lib.hid fun k => addN_le (g := reedN G R S n f) (k := k) (b := 200) fun i _ => RB.out i
  have M0 : Hid (addN (reedN G R S n f) 0 = 0) := rfl
  have MS2 := Lib.hid fun k => addN_succ (reedN G R S n f) k
  generalize addN (reedN G R S n f) = M at *
  generalize reedN G R S n f = rd at *
  generalize upN S G = N at *
  unfold coatV at VA CO ⊢
  clear hp hv C
  go_enter Try.func37, Try.ntmps37
  go_wp2_with (first
    | ((go_at_call 33; with_reducible refine Calls.mono (Gives.calls (VA.out _ (by repeat (first | exact Below.refl _ _ | (with_reducible assumption) | apply below_later | apply below_alloc | apply below_drew | apply below_drewN)))) ?_; rintro e w1 ⟨rfl, z, rfl⟩); obtain ⟨⟨x0, x1, x2, x3⟩, lx⟩ := coat_at (w := w) (V := z.val) (s := (S : Int)) (g := (G : Int)) (r := (R : Int)) (A := A) (n := n) (c := cap) (by repeat (first | exact Below.refl _ _ | (with_reducible assumption) | apply below_later | apply below_alloc | apply below_drew | apply below_drewN)))
    | ((go_at_call 60; with_reducible refine Calls.mono (Gives.calls (CO.out _)) ?_; rintro e w1 ⟨rfl, z2, rfl⟩); obtain ⟨⟨x0, x1, x2, x3⟩, lx⟩ := coat_at (w := w) (V := z2.val) (s := (S : Int)) (g := (G : Int)) (r := (R : Int)) (A := A) (n := n) (c := cap) (by repeat (first | exact Below.refl _ _ | (with_reducible assumption) | apply below_later | apply below_alloc | apply below_drew | apply below_drewN))))
  have HBZ : Hid (Below w.heap.size w z2.val) := by show Below _ _ _; repeat (first | exact Below.refl _ _ | (with_reducible assumption) | apply below_later | apply below_alloc | apply below_drew | apply below_drewN)
  obtain ⟨b8, hb8⟩ : ∃ b8, w.heap.size = b8 := ⟨_, rfl⟩
  rw [hb8] at x0 x1 x2 x3 lx ⊢
  clear hb8
  generalize z2.val = Z at *
  have HX : Hid (∀ V, Below Z.heap.size Z V → (V.cell? ⟨b8, 0, none⟩ = some (.int .i64 S) ∧ V.cell? ⟨b8, 1, none⟩ = some (.int .i64 G) ∧ V.cell? ⟨b8, 2, none⟩ = some (.int .i64 R) ∧ V.cell? ⟨b8, 3, none⟩ = some (.slice A n cap)) ∧ b8 < V.heap.size) := fun V h =>
    ⟨⟨(h.cell (p := ⟨b8, 0, none⟩) lx).trans x0, (h.cell (p := ⟨b8, 1, none⟩) lx).trans x1, (h.cell (p := ⟨b8, 2, none⟩) lx).trans x2, (h.cell (p := ⟨b8, 3, none⟩) lx).trans x3⟩, Nat.lt_of_lt_of_le lx h.size⟩
  go_loopw [4, 11] (fun u v wr => ∃ k : Nat, u = .int .i64 (M k : Nat) ∧ v = .int .i64 (k : Nat) ∧ k ≤ N ∧ ∃ x : Later Z, wr = x.val) (fun _ v _ => N - (intOf v).toNat)
  case atStart => exact ⟨0, by rw [M0.out]; rfl, rfl, by omega, later_of (by repeat (first | exact Below.refl _ _ | (with_reducible assumption) | apply below_later | apply below_alloc | apply below_drew | apply below_drewN))⟩
  case round =>
    obtain ⟨k, rfl, rfl, hk, x, rfl⟩ := hrel
    by_cases hlt : k < N
    · obtain ⟨⟨y0, y1, y2, y3⟩, ly⟩ := HX.out x.val x.ok
      have hkg := HLT.out k hlt
      have hkgm : k * G ≤ 520000 := mul_le3 (m := 5200) (n := 100) (by omega) hg.2
      have em := wrap_mul_nat hkgm (by omega)
      have CTk := Lib.hid fun V h => CT.out k V h
      have HBX : Hid (Below w.heap.size w x.val) := below_more HBZ.out x.ok
      have b1 := RB.out k
      have b2 := MB.out k
      have HN := Lib.hid (MS2.out k)
      have RTk := Lib.hid (RT.out k)
      have RFk := Lib.hid (RF.out k)
      obtain ⟨t2, ht2⟩ : ∃ t2, M (k + 1) = t2 := ⟨_, rfl⟩
      rw [ht2] at HN
      have HT2 := Lib.hid ht2
      clear ht2
      generalize M k = t at *
      generalize rd k = rk at *
      generalize k * G = kg at *
      generalize hasN f k n = hh at *
      cases hh
      · have HR := Lib.hid (RFk.out rfl)
        go_wp2_with ((go_at_call 65; with_reducible refine Calls.mono (Gives.calls (CTk.out _ (below_more HBX.out (by repeat (first | exact Below.refl _ _ | (with_reducible assumption) | apply below_later | apply below_alloc | apply below_drew | apply below_drewN))))) ?_; rintro e w1 ⟨rfl, z3, rfl⟩); obtain ⟨⟨v0, v1, v2, v3⟩, lv⟩ := HX.out z3.val (by repeat (first | exact Below.refl _ _ | (with_reducible assumption) | apply below_later | apply below_alloc | apply below_drew | apply below_drewN)))
        all_goals
          first
            | (refine ⟨⟨k + 1, by rw [HT2.out]; congr 1; have := HN.out; have := HR.out; omega, by go_num, by omega, later_of (by repeat (first | exact Below.refl _ _ | (with_reducible assumption) | apply below_later | apply below_alloc | apply below_drew | apply below_drewN))⟩, ?_⟩; simp [intOf]; omega)
            | (go_roundw
               case rel => exact ⟨k + 1, by rw [HT2.out]; congr 1; have := HN.out; have := HR.out; omega, by go_num, by omega, later_of (by repeat (first | exact Below.refl _ _ | (with_reducible assumption) | apply below_later | apply below_alloc | apply below_drew | apply below_drewN))⟩
               case measure => simp [intOf]; omega)
      · have HR := Lib.hid (RTk.out rfl)
        go_wp2_with ((go_at_call 65; with_reducible refine Calls.mono (Gives.calls (CTk.out _ (below_more HBX.out (by repeat (first | exact Below.refl _ _ | (with_reducible assumption) | apply below_later | apply below_alloc | apply below_drew | apply below_drewN))))) ?_; rintro e w1 ⟨rfl, z3, rfl⟩))
        all_goals
          first
            | (refine ⟨⟨k + 1, by rw [HT2.out]; congr 1; have := HN.out; have := HR.out; omega, by go_num, by omega, later_of (by repeat (first | exact Below.refl _ _ | (with_reducible assumption) | apply below_later | apply below_alloc | apply below_drew | apply below_drewN))⟩, ?_⟩; simp [intOf]; omega)
            | (go_roundw
               case rel => exact ⟨k + 1, by rw [HT2.out]; congr 1; have := HN.out; have := HR.out; omega, by go_num, by omega, later_of (by repeat (first | exact Below.refl _ _ | (with_reducible assumption) | apply below_later | apply below_alloc | apply below_drew | apply below_drewN))⟩
               case measure => simp [intOf]; omega)
    · obtain rfl : k = N := by omega
      go_wp2_with fail
      go_ret2
      exact ⟨rfl, later_of (below_more HBZ.out x.ok)⟩
end Go.Proofs.Ytjokpangacahgaa
