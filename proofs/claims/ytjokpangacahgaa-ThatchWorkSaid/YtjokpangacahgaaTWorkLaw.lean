/- The law of work: walked. -/
import Derived.Test.YtjokpangacahgaaTWork
import Derived.Test.YtjokpangacahgaaTWorkP
import Derived.Test.YtjokpangacahgaaTRIsWork
namespace Go.Proofs.Ytjokpangacahgaa
open Go.RowKit

set_option maxRecDepth 100000 in
set_option maxHeartbeats 12800000 in
theorem work_law (A B : Option Addr) (n cap m cw : Nat) (h : Int) (f : Nat → Int) (R : Nat → Row) (w : World) (hn : n ≤ 9223372036854775807) (hp : IsInts w A n f) (hq : IsTab w B m R) :
    Gives Try.prog 6 #[.slice A n cap, .int .i64 h, .slice B m cw] w (.bool true) := by
  have AW := Lib.hid awake_law
  have LG := Lib.hid fun (V : World) (hb : Below w.heap.size w V) => Long_any m cw B R V (hq.below hb)
  by_cases h15 : n > 15
  · have g1 : decide ((n : Int) > 15) = true := by simp; omega
    have g2 : decide ((15 : Int) < (n : Int)) = true := by simp; omega
    have g3 : decide (15 < n) = true := by simp; omega
    clear hp hq
    go_enter Try.func6, Try.ntmps6
    go_wp2_with (first | (go_at_call 41; with_reducible refine Calls.mono (Gives.calls (LG.out _ (by repeat (first | exact Below.refl _ _ | (with_reducible assumption) | apply below_later | apply below_alloc | apply below_drew | apply below_drewN)))) ?_; rintro e w1 ⟨rfl, z2, rfl⟩) | (go_at_call 16; with_reducible refine Calls.mono (Gives.calls (AW.out _)) ?_; rintro e w1 ⟨rfl, z3, rfl⟩))
    go_ret
    exact ⟨rfl, later_of (by repeat (first | exact Below.refl _ _ | (with_reducible assumption) | apply below_later | apply below_alloc | apply below_drew | apply below_drewN))⟩
  have g1 : decide ((n : Int) > 15) = false := by simp; omega
  have g2 : decide ((15 : Int) < (n : Int)) = false := by simp; omega
  have g3 : decide (15 < n) = false := by simp; omega
  cases hl : longB m R
  case true =>
    rw [hl] at LG
    clear hp hq hl
    go_enter Try.func6, Try.ntmps6
    go_wp2_with (first | (go_at_call 41; with_reducible refine Calls.mono (Gives.calls (LG.out _ (by repeat (first | exact Below.refl _ _ | (with_reducible assumption) | apply below_later | apply below_alloc | apply below_drew | apply below_drewN)))) ?_; rintro e w1 ⟨rfl, z2, rfl⟩) | (go_at_call 16; with_reducible refine Calls.mono (Gives.calls (AW.out _)) ?_; rintro e w1 ⟨rfl, z3, rfl⟩))
    go_ret
    exact ⟨rfl, later_of (by repeat (first | exact Below.refl _ _ | (with_reducible assumption) | apply below_later | apply below_alloc | apply below_drew | apply below_drewN))⟩
  rw [hl] at LG
  obtain ⟨hm, hr⟩ := long_facts hl
  by_cases he : jobE n f h = 0
  · obtain ⟨hj, h1, h10⟩ := jobE_ok he
    obtain ⟨hd, rfl⟩ : ∃ hd : Nat, h = hd := ⟨h.toNat, by omega⟩
    obtain ⟨⟨n1, n10⟩, hv⟩ := okJob_iff.1 hj
    obtain ⟨g, hg, hgb⟩ := okJob_nat hj
    have hpg : IsInts w A n fun i => ((g i : Nat) : Int) := hp.congr hg
    have hjg : okJob n (fun i => ((g i : Nat) : Int)) = true := okJob_iff.2 ⟨⟨n1, n10⟩, fun i _ => by have := hgb i; show (0 : Int) ≤ (g i : Int) ∧ (g i : Int) ≤ 100; omega⟩
    have he : jobE n (fun i => ((g i : Nat) : Int)) hd = 0 := by
      unfold jobE
      rw [if_neg (by rw [hjg]; simp), if_neg]
      have : inI 1 (hd : Int) 10 = true := inI_iff.2 ⟨by omega, by omega⟩
      rw [this]; simp
    have hH2 : hoursN g n hd ≤ 1100 := by
      unfold hoursN
      have a1 := topF_le (g := g) (b := 100) (k := n) fun i _ => hgb i
      have a2 := addN_le (g := g) (b := 100) (k := n) fun i _ => hgb i
      have a3 : upN (addN g n) hd ≤ 1100 := (upN_le_iff (by omega)).2 (by have b1 : n * 100 ≤ 1000 := (by omega); have b2 : 1100 * 1 ≤ 1100 * hd := Nat.mul_le_mul_left _ (by omega); omega)
      omega
    have H1 := Lib.hid fun (V : World) (hb : Below w.heap.size w V) => Hours_ok n cap hd A g V (hpg.below hb) he
    have H2 := Lib.hid fun (V : World) (hb : Below w.heap.size w V) => rHours_ok n cap hd A g V (hpg.below hb) he
    have WK := Lib.hid fun (V : World) (hb : Below w.heap.size w V) => Work_ok n cap hd A g V (hpg.below hb) he
    have I1 := Lib.hid fun (V : World) (hb : Below w.heap.size w V) => IsWork_ok n cap hd m cw A B g R V (hpg.below hb) (hq.below hb) (fun i hi => by have := hr i hi; omega) he
    have I2 := Lib.hid fun (V : World) (hb : Below w.heap.size w V) => rIsWork_ok n cap hd m cw A B g R V (hpg.below hb) (hq.below hb) (fun i hi => by have := hr i hi; omega) he
    have RP0 : Hid (∀ (V : World) (rows : List (List Int)) (A5 : Option Addr) (c5 : Nat) (R5 : Nat → Row), rows.length = hoursN g n hd → (∀ r ∈ rows, HourRow n hd r) → (∀ c, c < n → occN rows c = g c) → IsTab V A5 rows.length R5 → (∀ i, i < rows.length → (R5 i).n = (rows.getD i []).length ∧ ∀ j, (R5 i).f j = (rows.getD i []).getD j 0) → Below w.heap.size w V → Gives Try.prog 46 #[.slice A n cap, .int .i64 hd, .slice A5 rows.length c5] V (.tuple #[.bool true, .int .i64 0])) := fun V rows A5 c5 R5 e1 e2 e3 ht e4 hb => by
      have h5 := rIsWork_ok n cap hd rows.length c5 A A5 g R5 V (hpg.below hb) ht (fun i hi => by
        have h6 := e2 _ (show rows.getD i [] ∈ rows by rw [List.getD_eq_getElem?_getD, List.getElem?_eq_getElem hi]; exact List.getElem_mem hi)
        have h7 := h6.2.1
        have h8 := (e4 i hi).1
        omega) he
      rw [isW_plan (by omega) e2 e3 e4] at h5
      exact h5
    have TB0 : Hid (∀ (V : World) (base : Nat) (v : Value) (rows : List (List Int)), OwnL V base v rows → rows.length = hoursN g n hd → (∀ r ∈ rows, HourRow n hd r) → ∃ A5 c5 R5, v = .slice A5 rows.length c5 ∧ IsTab V A5 rows.length R5 ∧ ∀ i, i < rows.length → (R5 i).n = (rows.getD i []).length ∧ ∀ j, (R5 i).f j = (rows.getD i []).getD j 0) := fun V base v rows ho e1 e2 => ho.tab (by omega) fun i hi => by
      have h6 := e2 _ (show rows.getD i [] ∈ rows by rw [List.getD_eq_getElem?_getD, List.getElem?_eq_getElem hi]; exact List.getElem_mem hi)
      have h7 := h6.2.1
      omega
    unfold PostW at WK
    generalize isW g n hd m R = iw at *
    generalize hoursN g n hd = ho at *
    have g9 : (iw != iw) = false := by simp
    have g10 : ((ho : Int) != (ho : Int)) = false := by simp
    have g11 : ((ho : Int) == (ho : Int)) = true := by simp
    clear hp hq hj hl hr hv hg hpg hjg he hgb
    go_enter Try.func6, Try.ntmps6
    go_wp2_with (first
      | (go_at_call 41; with_reducible refine Calls.mono (Gives.calls (LG.out _ (by repeat (first | exact Below.refl _ _ | (with_reducible assumption) | apply below_later | apply below_alloc | apply below_drew | apply below_drewN)))) ?_; rintro e w1 ⟨rfl, z2, rfl⟩)
      | (go_at_call 16; with_reducible refine Calls.mono (Gives.calls (AW.out _)) ?_; rintro e w1 ⟨rfl, z3, rfl⟩)
      | (go_at_call 42; with_reducible refine Calls.mono (Gives.calls (H1.out _ (by repeat (first | exact Below.refl _ _ | (with_reducible assumption) | apply below_later | apply below_alloc | apply below_drew | apply below_drewN)))) ?_; rintro e w1 ⟨rfl, z4, rfl⟩)
      | (go_at_call 43; with_reducible refine Calls.mono (Gives.calls (H2.out _ (by repeat (first | exact Below.refl _ _ | (with_reducible assumption) | apply below_later | apply below_alloc | apply below_drew | apply below_drewN)))) ?_; rintro e w1 ⟨rfl, z5, rfl⟩)
      | (go_at_call 44; with_reducible refine Calls.mono (WK.out _ (by repeat (first | exact Below.refl _ _ | (with_reducible assumption) | apply below_later | apply below_alloc | apply below_drew | apply below_drewN))) ?_; rintro e w1 ⟨v, rows, rfl, ⟨z6, rfl⟩, hown, hlen, heach, hocc⟩; obtain ⟨A5, c5, R5, rfl, ht5, hR5⟩ := TB0.out _ _ _ _ hown hlen heach; have HT5 := Lib.hid ht5; have RP := Lib.hid fun (V : World) (hb : Below w.heap.size w V) (ht : IsTab V A5 rows.length R5) => RP0.out V rows A5 c5 R5 hlen heach hocc ht hR5 hb; clear hown heach hocc hR5 ht5; generalize rows.length = kk at *; subst hlen)
      | (go_at_call 45; with_reducible refine Calls.mono (Gives.calls (I1.out _ (by repeat (first | exact Below.refl _ _ | (with_reducible assumption) | apply below_later | apply below_alloc | apply below_drew | apply below_drewN)))) ?_; rintro e w1 ⟨rfl, z7, rfl⟩)
      | (go_at_call 46; with_reducible refine Calls.mono (Gives.calls (I2.out _ (by repeat (first | exact Below.refl _ _ | (with_reducible assumption) | apply below_later | apply below_alloc | apply below_drew | apply below_drewN)))) ?_; rintro e w1 ⟨rfl, z8, rfl⟩)
      | (go_at_call 46; with_reducible refine Calls.mono (Gives.calls (RP.out _ (by repeat (first | exact Below.refl _ _ | (with_reducible assumption) | apply below_later | apply below_alloc | apply below_drew | apply below_drewN)) (HT5.out.below (by repeat (first | exact Below.refl _ _ | (with_reducible assumption) | apply below_later | apply below_alloc | apply below_drew | apply below_drewN))))) ?_; rintro e w1 ⟨rfl, z9, rfl⟩))
    go_ret
    exact ⟨rfl, later_of (by repeat (first | exact Below.refl _ _ | (with_reducible assumption) | apply below_later | apply below_alloc | apply below_drew | apply below_drewN))⟩
  · have H1 := Lib.hid fun (V : World) (hb : Below w.heap.size w V) => Hours_bad n cap A f h V hn (hp.below hb) he
    have H2 := Lib.hid fun (V : World) (hb : Below w.heap.size w V) => rHours_bad n cap A f h V hn (hp.below hb) he
    have WK := Lib.hid fun (V : World) (hb : Below w.heap.size w V) => Work_bad n cap A f h V hn (hp.below hb) he
    have I1 := Lib.hid fun (V : World) (hb : Below w.heap.size w V) => IsWork_bad n cap m cw A B f h V hn (hp.below hb) he
    have I2 := Lib.hid fun (V : World) (hb : Below w.heap.size w V) => rIsWork_bad n cap m cw A B f h V hn (hp.below hb) he
    generalize jobE n f h = E at *
    have g9 : (E != 0) = true := by simpa using he
    have g10 : (E != E) = false := by simp
    clear hp hq hl hr he
    go_enter Try.func6, Try.ntmps6
    go_wp2_with (first
      | (go_at_call 41; with_reducible refine Calls.mono (Gives.calls (LG.out _ (by repeat (first | exact Below.refl _ _ | (with_reducible assumption) | apply below_later | apply below_alloc | apply below_drew | apply below_drewN)))) ?_; rintro e w1 ⟨rfl, z2, rfl⟩)
      | (go_at_call 16; with_reducible refine Calls.mono (Gives.calls (AW.out _)) ?_; rintro e w1 ⟨rfl, z3, rfl⟩)
      | (go_at_call 42; with_reducible refine Calls.mono (Gives.calls (H1.out _ (by repeat (first | exact Below.refl _ _ | (with_reducible assumption) | apply below_later | apply below_alloc | apply below_drew | apply below_drewN)))) ?_; rintro e w1 ⟨rfl, z4, rfl⟩)
      | (go_at_call 43; with_reducible refine Calls.mono (Gives.calls (H2.out _ (by repeat (first | exact Below.refl _ _ | (with_reducible assumption) | apply below_later | apply below_alloc | apply below_drew | apply below_drewN)))) ?_; rintro e w1 ⟨rfl, z5, rfl⟩)
      | (go_at_call 44; with_reducible refine Calls.mono (Gives.calls (WK.out _ (by repeat (first | exact Below.refl _ _ | (with_reducible assumption) | apply below_later | apply below_alloc | apply below_drew | apply below_drewN)))) ?_; rintro e w1 ⟨rfl, z6, rfl⟩)
      | (go_at_call 45; with_reducible refine Calls.mono (Gives.calls (I1.out _ (by repeat (first | exact Below.refl _ _ | (with_reducible assumption) | apply below_later | apply below_alloc | apply below_drew | apply below_drewN)))) ?_; rintro e w1 ⟨rfl, z7, rfl⟩)
      | (go_at_call 46; with_reducible refine Calls.mono (Gives.calls (I2.out _ (by repeat (first | exact Below.refl _ _ | (with_reducible assumption) | apply below_later | apply below_alloc | apply below_drew | apply below_drewN)))) ?_; rintro e w1 ⟨rfl, z8, rfl⟩))
    go_ret
    exact ⟨rfl, later_of (by repeat (first | exact Below.refl _ _ | (with_reducible assumption) | apply below_later | apply below_alloc | apply below_drew | apply below_drewN))⟩
end Go.Proofs.Ytjokpangacahgaa
