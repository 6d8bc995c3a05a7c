/- The law of rounds: walked. -/
import Derived.Test.YtbflpidjcflndaaKRoundsW
import Derived.Test.YtbflpidjcflndaaKAreRounds
import Derived.Test.YtbflpidjcflndaaKTab
namespace Go.Proofs.Ytbflpidjcflndaa
open Go.RowKit

set_option maxRecDepth 100000 in
set_option maxHeartbeats 1600000 in
theorem same_lists (A B : Option Addr) (k c1 c2 : Nat) (R1 R2 : Nat → Row) (w : World) (h1 : IsTab w A k R1) (h2 : IsTab w B k R2) (he : ∀ i, i < k → (R1 i).n = (R2 i).n ∧ (R1 i).n ≤ 1000000 ∧ ∀ j, (R1 i).f j = (R2 i).f j) :
    Gives Try.prog 34 #[.slice A k c1, .slice B k c2] w (.bool true) := by
  have hk := h1.small
  have HA := Lib.hid h1
  have HB := Lib.hid h2
  have SI : Hid (∀ i, i < k → ∀ V, Below w.heap.size w V → Gives Try.prog 33 #[(R1 i).val, (R2 i).val] V (.bool true)) := fun i hi V hV => by
    obtain ⟨e1, e2, e3⟩ := he i hi
    unfold Row.val
    rw [← e1]
    exact same_ints (R1 i).a (R2 i).a (R1 i).n (R1 i).c (R2 i).c _ _ V e2 (((h1.below hV).row i hi).1) (e1 ▸ ((h2.below hV).row i hi).1) fun j _ => e3 j
  have q0 : ((k : Int) != (k : Int)) = false := by simp
  clear h1 h2 he
  go_enter Try.func34, Try.ntmps34
  go_wp2
  go_loopw [5] (fun u wr => ∃ i : Nat, i ≤ k ∧ u = .int .i64 i ∧ ∃ x : Later w, wr = x.val) (fun v _ => k - (intOf v).toNat)
  case atStart => exact ⟨0, by omega, rfl, later_of (by repeat (first | exact Below.refl _ _ | (with_reducible assumption) | apply below_later | apply below_alloc | apply below_drew | apply below_drewN))⟩
  case round =>
    obtain ⟨i, hi, rfl, x, rfl⟩ := hrel
    by_cases hlt : i < k
    · obtain ⟨b1, o1, hA1, l1, p1⟩ := (HA.out.later x).at_ (by omega)
      obtain ⟨b2, o2, hB1, l2, p2⟩ := (HB.out.later x).at_ (by omega)
      have HA2 := Lib.hid hA1
      have HB2 := Lib.hid hB1
      have d1 := p1 i hlt
      have d2 := p2 i hlt
      have SI1 := Lib.hid (SI.out i hlt x.val x.ok)
      have SI2 := Lib.hid fun V hV => SI.out i hlt V hV
      unfold Row.val at d1 d2 SI1 SI2
      rw [hA1, hB1]
      clear p1 p2 hA1 hB1 SI
      generalize R1 i = r1 at *
      generalize R2 i = r2 at *
      go_wp2_with fail
      refine wp_region_later (by kernel_rfl) (by kernel_rfl) ?_
      repeat (go_big_quiet_step ((go_at_call 33; (with_reducible refine Later.call _ (SI2.out _ (by repeat (first | exact Below.refl _ _ | (with_reducible assumption) | apply below_later | apply below_alloc | apply below_drew | apply below_drewN)))))))
      refine wpQuiet_nil ?_
      intro y
      go_wp2
      try rw [← HA2.out]
      try rw [← HB2.out]
      first
        | (go_roundw
           case rel => exact ⟨i + 1, by omega, by go_num, later_of (by repeat (first | exact Below.refl _ _ | (with_reducible assumption) | apply below_later | apply below_alloc | apply below_drew | apply below_drewN))⟩
           case measure => simp [intOf]; omega)
        | (refine ⟨⟨i + 1, by omega, by go_num, later_of (by repeat (first | exact Below.refl _ _ | (with_reducible assumption) | apply below_later | apply below_alloc | apply below_drew | apply below_drewN))⟩, ?_⟩; simp [intOf]; omega)
    · obtain rfl : i = k := by omega
      go_wp2
      go_ret
      exact ⟨rfl, later_of (by repeat (first | exact Below.refl _ _ | (with_reducible assumption) | apply below_later | apply below_alloc | apply below_drew | apply below_drewN))⟩
theorem ints_none (w : World) (f : Nat → Int) : IsInts w none 0 f := ⟨by omega, fun h => absurd h (by omega)⟩
theorem tab_none (w : World) (R : Nat → Row) : IsTab w none 0 R := ⟨by omega, fun h => absurd h (by omega), fun _ h => absurd h (by omega)⟩
/-- A call that returns these numbers, and an error. -/
def PInts (V : World) (m : Nat) (f : Nat → Int) (E : Int) (e : Ending) (w' : World) : Prop := ∃ B c, e = .returned (.tuple #[.slice B m c, .int .i64 E]) ∧ (∃ x : Later V, w' = x.val) ∧ IsInts w' B m f
/-- A call that returns these lists, and an error. -/
def PTab (V : World) (k : Nat) (N : Nat → Nat) (F : Nat → Nat → Int) (E : Int) (e : Ending) (w' : World) : Prop := ∃ B c R, e = .returned (.tuple #[.slice B k c, .int .i64 E]) ∧ (∃ x : Later V, w' = x.val) ∧ IsTab w' B k R ∧ ∀ i, i < k → (R i).n = N i ∧ ∀ j, (R i).f j = F i j
theorem ints_post {F : Nat} {args : Array Value} {V : World} {l : List Int} {E : Int} (h : Calls Try.prog F args V (PostIE V l E)) (hl : l.length ≤ 100000) : Calls Try.prog F args V (PInts V l.length (fun i => l.getD i 0) E) := by
  refine Calls.mono h ?_
  rintro e w' ⟨v, rfl, x, rfl, ho⟩
  obtain ⟨B, c, rfl, hi⟩ := own_isInts ho hl
  exact ⟨B, c, rfl, ⟨x, rfl⟩, hi⟩
theorem tab_post {F : Nat} {args : Array Value} {V : World} {l : List (List Int)} {E : Int} (h : Calls Try.prog F args V (PostTE V l E)) (hl : l.length ≤ 100000) (hr : ∀ i, i < l.length → (l.getD i []).length ≤ 100000) : Calls Try.prog F args V (PTab V l.length (fun i => (l.getD i []).length) (fun i j => (l.getD i []).getD j 0) E) := by
  refine Calls.mono h ?_
  rintro e w' ⟨v, rfl, x, rfl, ho⟩
  obtain ⟨B, c, R, rfl, ht, hr⟩ := ho.tab (by omega) fun i hi => by have := hr i hi; omega
  exact ⟨B, c, R, rfl, ⟨x, rfl⟩, ht, hr⟩
theorem nil_ints {F : Nat} {args : Array Value} {V : World} {E : Int} (h : Gives Try.prog F args V (.tuple #[.slice none 0 0, .int .i64 E])) : Calls Try.prog F args V (PInts V 0 (fun _ => 0) E) := by
  refine Calls.mono h.calls ?_
  rintro e w' ⟨rfl, x, rfl⟩
  exact ⟨none, 0, rfl, ⟨x, rfl⟩, ints_none _ _⟩
theorem nil_tab {F : Nat} {args : Array Value} {V : World} {E : Int} (h : Gives Try.prog F args V (.tuple #[.slice none 0 0, .int .i64 E])) : Calls Try.prog F args V (PTab V 0 (fun _ => 0) (fun _ _ => 0) E) := by
  refine Calls.mono h.calls ?_
  rintro e w' ⟨rfl, x, rfl⟩
  exact ⟨none, 0, fun _ => default, rfl, ⟨x, rfl⟩, tab_none _ _, fun i h => absurd h (by omega)⟩
theorem longW_length (n : Nat) (s : Int) (X Y T : Nat → Int) : (longW n s X Y T).length ≤ n := by
  have h1 := longL_length (onL s X Y T) n (hgt (onL s X Y T) n) (grt (hgt (onL s X Y T) n) n) []
  have h2 : grt (hgt (onL s X Y T) n) n ≤ n := maxTo_top fun k => hgt_le _ n k
  simp only [List.length_nil] at h1
  unfold longW longM
  omega
theorem rdsTo_row {n k i : Nat} {H : Nat → Nat} : ((rdsTo n H k).getD i []).length ≤ n := by
  unfold rdsTo
  simp only [List.getD_eq_getElem?_getD, List.getElem?_map]
  by_cases h : i < k
  · rw [List.getElem?_range h]
    simp only [Option.map_some, Option.getD_some]
    rw [natZ_length]
    have := List.length_filter_le (fun j => decide (H j = i + 1)) (List.range n)
    rw [List.length_range] at this
    exact this
  · rw [List.getElem?_eq_none (by simpa using h)]
    simp
set_option maxRecDepth 100000 in
set_option maxHeartbeats 6400000 in
theorem rounds_law (A B : Option Addr) (n cap k c1 : Nat) (s : Int) (X Y T : Nat → Int) (R : Nat → Row) (w : World) (hp : n ≤ 60 → IsChs w A n X Y T) (ht : IsTab w B k R) :
    Gives Try.prog 7 #[.slice A n cap, .int .i64 s, .slice B k c1] w (.bool true) := by
  have AW := Lib.hid awake_law
  have MN := Lib.hid fun (V : World) (h : Below w.heap.size w V) => Many_any A B n cap k c1 R V (ht.below h)
  cases hm : manyB n k R
  case true =>
    rw [hm] at MN
    clear hp ht hm
    go_enter Try.func7, Try.ntmps7
    go_wp2_with (first | (go_at_call 13; with_reducible refine Calls.mono (Gives.calls (MN.out _ (by repeat (first | exact Below.refl _ _ | (with_reducible assumption) | apply below_later | apply below_alloc | apply below_drew | apply below_drewN)))) ?_; rintro e w1 ⟨rfl, z, rfl⟩) | (go_at_call 14; with_reducible refine Calls.mono (Gives.calls (AW.out _)) ?_; rintro e w1 ⟨rfl, z2, rfl⟩))
    go_ret
    exact ⟨rfl, later_of (by repeat (first | exact Below.refl _ _ | (with_reducible assumption) | apply below_later | apply below_alloc | apply below_drew | apply below_drewN))⟩
  case false =>
    rw [hm] at MN
    obtain ⟨hn, hk, hr⟩ := many_facts hm
    have hp' := hp (by omega)
    obtain ⟨b, E, P1, P2⟩ : ∃ (b : Bool) (E : Int), Hid (∀ V, Below w.heap.size w V → Gives Try.prog 35 #[.slice A n cap, .int .i64 s, .slice B k c1] V (.tuple #[.bool b, .int .i64 E])) ∧ Hid (∀ V, Below w.heap.size w V → Gives Try.prog 36 #[.slice A n cap, .int .i64 s, .slice B k c1] V (.tuple #[.bool b, .int .i64 E])) := by
      cases hv : validW n s X Y T
      · exact ⟨_, _, fun V hV => AreRounds_bad A B n cap k c1 s X Y T V hv fun _ => hp'.below hV, fun V hV => RAreRounds_bad A B n cap k c1 s X Y T V hv (by omega) (hp'.below hV)⟩
      · exact ⟨_, _, fun V hV => AreRounds_ok A B n cap k c1 s X Y T R V (watch_iff.1 hv) (by omega) (fun i hi => by have := hr i hi; omega) (hp'.below hV) (ht.below hV), fun V hV => RAreRounds_ok A B n cap k c1 s X Y T R V (watch_iff.1 hv) (by omega) (fun i hi => by have := hr i hi; omega) (hp'.below hV) (ht.below hV)⟩
    obtain ⟨m, f, E1, hm1, L1, L2⟩ : ∃ (m : Nat) (f : Nat → Int) (E1 : Int), m ≤ 1000000 ∧ Hid (∀ V, Below w.heap.size w V → Calls Try.prog 29 #[.slice A n cap, .int .i64 s] V (PInts V m f E1)) ∧ Hid (∀ V, Below w.heap.size w V → Calls Try.prog 30 #[.slice A n cap, .int .i64 s] V (PInts V m f E1)) := by
      cases hv : validW n s X Y T
      · exact ⟨0, fun _ => 0, 60, by omega, fun V hV => nil_ints (Longest_bad s n cap A X Y T V (fun _ => hp'.below hV) hv), fun V hV => nil_ints (RLongest_bad s n cap A X Y T V hv (by omega) (hp'.below hV))⟩
      · have hl : (natZ (longW n s X Y T)).length ≤ 100000 := by rw [natZ_length]; have := longW_length n s X Y T; omega
        exact ⟨(natZ (longW n s X Y T)).length, fun i => (natZ (longW n s X Y T)).getD i 0, 0, by omega, fun V hV => ints_post (Longest_ok s n cap A X Y T V (watch_iff.1 hv) (hp'.below hV)) hl, fun V hV => ints_post (RLongest_ok s n cap A X Y T V (watch_iff.1 hv) (hp'.below hV)) hl⟩
    obtain ⟨g, N, F, E2, hN, T1, T2⟩ : ∃ (g : Nat) (N : Nat → Nat) (F : Nat → Nat → Int) (E2 : Int), (∀ i, i < g → N i ≤ 1000000) ∧ Hid (∀ V, Below w.heap.size w V → Calls Try.prog 31 #[.slice A n cap, .int .i64 s] V (PTab V g N F E2)) ∧ Hid (∀ V, Below w.heap.size w V → Calls Try.prog 32 #[.slice A n cap, .int .i64 s] V (PTab V g N F E2)) := by
      cases hv : validW n s X Y T
      · exact ⟨0, fun _ => 0, fun _ _ => 0, 60, fun i h => absurd h (by omega), fun V hV => nil_tab (Rounds_bad s n cap A X Y T V (fun _ => hp'.below hV) hv), fun V hV => nil_tab (RRounds_bad s n cap A X Y T V hv (by omega) (hp'.below hV))⟩
      · have hG : grt (hgt (onF s X Y T) n) n ≤ n := maxTo_top fun k => hgt_le _ n k
        have hl : (rdsTo n (hgt (onF s X Y T) n) (grt (hgt (onF s X Y T) n) n)).length ≤ 100000 := by rw [rdsTo_length]; omega
        have hr2 : ∀ i, i < (rdsTo n (hgt (onF s X Y T) n) (grt (hgt (onF s X Y T) n) n)).length → ((rdsTo n (hgt (onF s X Y T) n) (grt (hgt (onF s X Y T) n) n)).getD i []).length ≤ 100000 := fun i _ => by
          have := rdsTo_row (n := n) (k := grt (hgt (onF s X Y T) n) n) (i := i) (H := hgt (onF s X Y T) n)
          omega
        exact ⟨(rdsTo n (hgt (onF s X Y T) n) (grt (hgt (onF s X Y T) n) n)).length, fun i => ((rdsTo n (hgt (onF s X Y T) n) (grt (hgt (onF s X Y T) n) n)).getD i []).length, fun i j => ((rdsTo n (hgt (onF s X Y T) n) (grt (hgt (onF s X Y T) n) n)).getD i []).getD j 0, 0, fun i hi => Nat.le_trans (hr2 i hi) (by omega), fun V hV => tab_post (Rounds_ok s n cap A X Y T V (watch_iff.1 hv) (hp'.below hV)) hl hr2, fun V hV => tab_post (RRounds_ok s n cap A X Y T V (watch_iff.1 hv) (hp'.below hV)) hl hr2⟩
    clear hp ht hp' hm hr
    unfold PInts at L1 L2
    unfold PTab at T1 T2
    go_enter Try.func7, Try.ntmps7
    go_wp2_with (first
      | (go_at_call 13; with_reducible refine Calls.mono (Gives.calls (MN.out _ (by repeat (first | exact Below.refl _ _ | (with_reducible assumption) | apply below_later | apply below_alloc | apply below_drew | apply below_drewN)))) ?_; rintro e w1 ⟨rfl, z, rfl⟩)
      | (go_at_call 29; with_reducible refine Calls.mono (L1.out _ (by repeat (first | exact Below.refl _ _ | (with_reducible assumption) | apply below_later | apply below_alloc | apply below_drew | apply below_drewN))) ?_; rintro e w1 ⟨B1, d1, rfl, ⟨z1, rfl⟩, hI⟩; have I1 := Lib.hid hI; clear hI)
      | (go_at_call 30; with_reducible refine Calls.mono (L2.out _ (by repeat (first | exact Below.refl _ _ | (with_reducible assumption) | apply below_later | apply below_alloc | apply below_drew | apply below_drewN))) ?_; rintro e w1 ⟨B2, d2, rfl, ⟨z2, rfl⟩, hI⟩; have I2 := Lib.hid hI; clear hI)
      | (go_at_call 31; with_reducible refine Calls.mono (T1.out _ (by repeat (first | exact Below.refl _ _ | (with_reducible assumption) | apply below_later | apply below_alloc | apply below_drew | apply below_drewN))) ?_; rintro e w1 ⟨B3, d3, R3, rfl, ⟨z3, rfl⟩, hI, hJ⟩; have I3 := Lib.hid hI; have J3 := Lib.hid hJ; clear hI hJ)
      | (go_at_call 32; with_reducible refine Calls.mono (T2.out _ (by repeat (first | exact Below.refl _ _ | (with_reducible assumption) | apply below_later | apply below_alloc | apply below_drew | apply below_drewN))) ?_; rintro e w1 ⟨B4, d4, R4, rfl, ⟨z4, rfl⟩, hI, hJ⟩; have I4 := Lib.hid hI; have J4 := Lib.hid hJ; clear hI hJ)
      | (go_at_call 33; with_reducible refine Calls.mono (Gives.calls ((fun V h1 h2 => same_ints B1 B2 m d1 d2 f f V hm1 (I1.out.below h1) (I2.out.below h2) fun _ _ => rfl) _ (by repeat (first | exact Below.refl _ _ | (with_reducible assumption) | apply below_later | apply below_alloc | apply below_drew | apply below_drewN)) (by repeat (first | exact Below.refl _ _ | (with_reducible assumption) | apply below_later | apply below_alloc | apply below_drew | apply below_drewN)))) ?_; rintro e w1 ⟨rfl, z5, rfl⟩)
      | (go_at_call 34; with_reducible refine Calls.mono (Gives.calls ((fun V h1 h2 => same_lists B3 B4 g d3 d4 R3 R4 V (I3.out.below h1) (I4.out.below h2) fun i hi => ⟨(J3.out i hi).1.trans (J4.out i hi).1.symm, (J3.out i hi).1 ▸ hN i hi, fun j => ((J3.out i hi).2 j).trans ((J4.out i hi).2 j).symm⟩) _ (by repeat (first | exact Below.refl _ _ | (with_reducible assumption) | apply below_later | apply below_alloc | apply below_drew | apply below_drewN)) (by repeat (first | exact Below.refl _ _ | (with_reducible assumption) | apply below_later | apply below_alloc | apply below_drew | apply below_drewN)))) ?_; rintro e w1 ⟨rfl, z6, rfl⟩)
      | (go_at_call 35; with_reducible refine Calls.mono (Gives.calls (P1.out _ (by repeat (first | exact Below.refl _ _ | (with_reducible assumption) | apply below_later | apply below_alloc | apply below_drew | apply below_drewN)))) ?_; rintro e w1 ⟨rfl, z7, rfl⟩)
      | (go_at_call 36; with_reducible refine Calls.mono (Gives.calls (P2.out _ (by repeat (first | exact Below.refl _ _ | (with_reducible assumption) | apply below_later | apply below_alloc | apply below_drew | apply below_drewN)))) ?_; rintro e w1 ⟨rfl, z8, rfl⟩)
      | (go_at_call 14; with_reducible refine Calls.mono (Gives.calls (AW.out _)) ?_; rintro e w1 ⟨rfl, z9, rfl⟩))
    go_ret
    exact ⟨rfl, later_of (by repeat (first | exact Below.refl _ _ | (with_reducible assumption) | apply below_later | apply below_alloc | apply below_drew | apply below_drewN))⟩
end Go.Proofs.Ytbflpidjcflndaa
