/- The law of birds and rounds: walked, the law. -/
import Derived.Test.YtlljjaafejjeeaaKTopBirds
import Derived.Deep.DeepCutAuto
namespace Go.Proofs.Ytlljjaafejjeeaa
open Go.RowKit

set_option maxRecDepth 100000 in
set_option maxHeartbeats 0 in
theorem top_birds_law (A B1 B2 O : Option Addr) (n cap k1 c1 k2 c2 m c3 : Nat) (s : Int) (X Y T : Nat → Int) (R1 R2 : Nat → Row) (f : Nat → Int) (w : World) (hn : n ≤ 9223372036854775807) (hp : IsChs w A n X Y T) (ht1 : IsTab w B1 k1 R1) (ht2 : IsTab w B2 k2 R2) (hmc : m ≤ c3) (hi : m ≤ 9223372036854775807 → IsInts w O m f) :
    Gives Try.prog 3 #[.slice A n cap, .int .i64 s, .agg #[.slice B1 k1 c1, .slice B2 k2 c2, .slice O m c3]] w (.bool true) := by
  have AW := Lib.hid awake_law
  have hb : Below w.heap.size w (w.alloc (.cells #[.slice B1 k1 c1, .slice B2 k2 c2, .slice O m c3] 26)) := (Below.refl _ _).alloc (Nat.le_refl _) _
  obtain ⟨x0, x1, x2, l0⟩ := box3 w (.slice B1 k1 c1) (.slice B2 k2 c2) (.slice O m c3) 26
  have HB := Lib.hid hb
  have VA := Lib.hid fun (V : World) (h : Below w.heap.size w V) => krvalid_all s A n cap X Y T V hn (hp.below h)
  have MN1 := Lib.hid fun (V : World) (h : Below w.heap.size w V) => Many_any A B1 n cap k1 c1 R1 V (ht1.below h)
  have MN2 := Lib.hid fun (V : World) (h : Below w.heap.size w V) => Many_any A B2 n cap k2 c2 R2 V (ht2.below h)
  cases hv : validW n s X Y T
  case false =>
    rw [hv] at VA
    clear hp ht1 ht2 hi MN1 MN2 x0 x1 x2 l0 hb
    go_enter Try.func3, Try.ntmps3
    go_wp2_with (first | (go_at_call 4; with_reducible refine Calls.mono (Gives.calls (VA.out _ (by repeat (first | exact Below.refl _ _ | (with_reducible assumption) | apply below_later | apply below_alloc | apply below_drew | apply below_drewN)))) ?_; rintro e w1 ⟨rfl, z, rfl⟩) | (go_at_call 6; with_reducible refine Calls.mono (Gives.calls (AW.out _)) ?_; rintro e w1 ⟨rfl, z2, rfl⟩))
    go_ret
    exact ⟨rfl, later_of (by repeat (first | exact Below.refl _ _ | (with_reducible assumption) | apply below_later | apply below_alloc | apply below_drew | apply below_drewN))⟩
  rw [hv] at VA
  have W := watch_iff.1 hv
  cases hm1 : manyB n k1 R1
  case true =>
    rw [hm1] at MN1
    clear hp ht1 ht2 hi MN2 W
    go_enter Try.func3, Try.ntmps3
    go_wp2_with (first | (go_at_call 4; with_reducible refine Calls.mono (Gives.calls (VA.out _ (by repeat (first | exact Below.refl _ _ | (with_reducible assumption) | apply below_later | apply below_alloc | apply below_drew | apply below_drewN)))) ?_; rintro e w1 ⟨rfl, z, rfl⟩) | (go_at_call 5; with_reducible refine Calls.mono (Gives.calls (MN1.out _ (by repeat (first | exact Below.refl _ _ | (with_reducible assumption) | apply below_later | apply below_alloc | apply below_drew | apply below_drewN)))) ?_; rintro e w1 ⟨rfl, z3, rfl⟩) | (go_at_call 6; with_reducible refine Calls.mono (Gives.calls (AW.out _)) ?_; rintro e w1 ⟨rfl, z2, rfl⟩))
    go_ret
    exact ⟨rfl, later_of (by repeat (first | exact Below.refl _ _ | (with_reducible assumption) | apply below_later | apply below_alloc | apply below_drew | apply below_drewN))⟩
  rw [hm1] at MN1
  cases hm2 : manyB n k2 R2
  case true =>
    rw [hm2] at MN2
    clear hp ht1 ht2 hi W
    obtain ⟨b9, hb9⟩ : ∃ b9, w.heap.size = b9 := ⟨_, rfl⟩
    go_enter Try.func3, Try.ntmps3
    go_wp2_with (first | (go_at_call 4; with_reducible refine Calls.mono (Gives.calls (VA.out _ (by repeat (first | exact Below.refl _ _ | (with_reducible assumption) | apply below_later | apply below_alloc | apply below_drew | apply below_drewN)))) ?_; rintro e w1 ⟨rfl, z, rfl⟩) | (go_at_call 5; with_reducible refine Calls.mono (Gives.calls (MN1.out _ (by repeat (first | exact Below.refl _ _ | (with_reducible assumption) | apply below_later | apply below_alloc | apply below_drew | apply below_drewN)))) ?_; rintro e w1 ⟨rfl, z3, rfl⟩) | (go_at_call 5; with_reducible refine Calls.mono (Gives.calls (MN2.out _ (by repeat (first | exact Below.refl _ _ | (with_reducible assumption) | apply below_later | apply below_alloc | apply below_drew | apply below_drewN)))) ?_; rintro e w1 ⟨rfl, z4, rfl⟩) | (go_at_call 6; with_reducible refine Calls.mono (Gives.calls (AW.out _)) ?_; rintro e w1 ⟨rfl, z2, rfl⟩))
    go_ret
    exact ⟨rfl, later_of (by repeat (first | exact Below.refl _ _ | (with_reducible assumption) | apply below_later | apply below_alloc | apply below_drew | apply below_drewN))⟩
  rw [hm2] at MN2
  by_cases hm : 50 < m
  · have hd : (m : Int) > 50 := by omega
    clear hp ht1 ht2 hi W
    obtain ⟨b9, hb9⟩ : ∃ b9, w.heap.size = b9 := ⟨_, rfl⟩
    rw [hb9] at x0 x1 x2 l0
    go_enter Try.func3, Try.ntmps3
    go_wp2_with fail
    generalize w.alloc (.cells #[.slice B1 k1 c1, .slice B2 k2 c2, .slice O m c3] 26) = Z at *
    have HXB : Hid (∀ V, Below Z.heap.size Z V → V.cell? ⟨b9, 0, none⟩ = some (.slice B1 k1 c1) ∧ V.cell? ⟨b9, 1, none⟩ = some (.slice B2 k2 c2) ∧ V.cell? ⟨b9, 2, none⟩ = some (.slice O m c3) ∧ b9 < V.heap.size) := fun V h => ⟨(h.cell (p := ⟨b9, 0, none⟩) l0).trans x0, (h.cell (p := ⟨b9, 1, none⟩) l0).trans x1, (h.cell (p := ⟨b9, 2, none⟩) l0).trans x2, Nat.lt_of_lt_of_le l0 h.size⟩
    clear x0 x1 x2 l0
    go_wp2_with (first
      | ((go_at_call 4; with_reducible refine Calls.mono (Gives.calls (VA.out _ (by repeat (first | exact Below.refl _ _ | (with_reducible assumption) | apply below_later | apply below_alloc | apply below_drew | apply below_drewN)))) ?_; rintro e w1 ⟨rfl, z, rfl⟩); obtain ⟨j0, j1, j2, j3⟩ := HXB.out z.val (by repeat (first | exact Below.refl _ _ | (with_reducible assumption) | apply below_later | apply below_alloc | apply below_drew | apply below_drewN)))
      | ((go_at_call 5; with_reducible refine Calls.mono (Gives.calls (MN1.out _ (by repeat (first | exact Below.refl _ _ | (with_reducible assumption) | apply below_later | apply below_alloc | apply below_drew | apply below_drewN)))) ?_; rintro e w1 ⟨rfl, z3, rfl⟩); obtain ⟨j4, j5, j6, j7⟩ := HXB.out z3.val (by repeat (first | exact Below.refl _ _ | (with_reducible assumption) | apply below_later | apply below_alloc | apply below_drew | apply below_drewN)))
      | ((go_at_call 5; with_reducible refine Calls.mono (Gives.calls (MN2.out _ (by repeat (first | exact Below.refl _ _ | (with_reducible assumption) | apply below_later | apply below_alloc | apply below_drew | apply below_drewN)))) ?_; rintro e w1 ⟨rfl, z4, rfl⟩); obtain ⟨j8, j9, j10, j11⟩ := HXB.out z4.val (by repeat (first | exact Below.refl _ _ | (with_reducible assumption) | apply below_later | apply below_alloc | apply below_drew | apply below_drewN)))
      | (go_at_call 6; with_reducible refine Calls.mono (Gives.calls (AW.out _)) ?_; rintro e w1 ⟨rfl, z2, rfl⟩))
    go_ret
    exact ⟨rfl, later_of (by repeat (first | exact Below.refl _ _ | (with_reducible assumption) | apply below_later | apply below_alloc | apply below_drew | apply below_drewN))⟩
  have hd : ¬ ((m : Int) > 50) := by omega
  have hn30 := W.n30
  obtain ⟨_, hk1, hr1⟩ := many_facts hm1
  obtain ⟨_, hk2, hr2⟩ := many_facts hm2
  have hi' := hi (by omega)
  have F1 := Lib.hid fun V (h : Below w.heap.size w V) => Fewest_ok s n cap A X Y T V W (hp.below h)
  have P1 := Lib.hid fun V (h : Below w.heap.size w V) => birds_post (cap := cap) W (hp.below h)
  have P2 := Lib.hid fun V (h : Below w.heap.size w V) => apart_post (cap := cap) W (hp.below h)
  have P3 := Lib.hid fun V (h : Below w.heap.size w V) => longest_post (cap := cap) W (hp.below h)
  have P4 := Lib.hid fun V (h : Below w.heap.size w V) => rounds_post (cap := cap) W (hp.below h)
  have E1 := Lib.hid fun V (h : Below w.heap.size w V) => Explain_ok A B1 n cap k1 c1 s X Y T R1 V W (by omega) (fun i hi => by have := hr1 i hi; omega) (hp.below h) (ht1.below h)
  have E2 := Lib.hid fun V (h : Below w.heap.size w V) => AreApart_ok A O n cap m c3 s X Y T f V W (by omega) hmc (hp.below h) (hi'.below h)
  have E3 := Lib.hid fun V (h : Below w.heap.size w V) => AreRounds_ok A B2 n cap k2 c2 s X Y T R2 V W (by omega) (fun i hi => by have := hr2 i hi; omega) (hp.below h) (ht2.below h)
  have E4 : Hid (∀ i, i < k1 → ∀ V, Below w.heap.size w V → Gives Try.prog 15 #[.slice A n cap, .int .i64 s, (R1 i).val] V (.bool (birdB (leadsR s X Y T) n (R1 i).f (R1 i).n))) := fun i hi V h =>
    topBird_any A (R1 i).a n cap (R1 i).n (R1 i).c s X Y T (R1 i).f V W (by have := hr1 i hi; omega) (hp.below h) (((ht1.below h).row i hi).1)
  have TF := top_facts W
  generalize (matM (leadsR s X Y T) n n).count (-1) = q at *
  generalize grt (hgt (onF s X Y T) n) n = G at *
  have f1 := TF.a k1 R1
  have f2 : apartB (leadsR s X Y T) n f m = true → m ≤ q := TF.b ⟨O, m, c3, f⟩
  have f3 : expB (leadsR s X Y T) n k1 R1 = true → apartB (leadsR s X Y T) n f m = true → m ≤ k1 := TF.c k1 R1 ⟨O, m, c3, f⟩
  have f4 := TF.d k2 R2
  have f5 := Lib.hid fun i (_ : i < k1) => TF.e (R1 i)
  have f6 := Lib.hid fun i (_ : i < k1) => TF.f k2 R2 (R1 i)
  have HT1 := Lib.hid ht1
  clear TF hp ht1 ht2 hi hi' W hr1 hr2 hm1 hm2 hv
  generalize expB (leadsR s X Y T) n k1 R1 = b1 at *
  generalize apartB (leadsR s X Y T) n f m = b2 at *
  generalize rndsB (leadsR s X Y T) n k2 R2 = b3 at *
  obtain ⟨b4, hb4⟩ : ∃ b4 : Nat → Bool, (fun i => birdB (leadsR s X Y T) n (R1 i).f (R1 i).n) = b4 := ⟨_, rfl⟩
  have hbi : ∀ i, birdB (leadsR s X Y T) n (R1 i).f (R1 i).n = b4 i := fun i => congrFun hb4 i
  simp only [hbi] at E4 f5 f6
  clear hb4 hbi
  obtain ⟨b9, hb9⟩ : ∃ b9, w.heap.size = b9 := ⟨_, rfl⟩
  rw [hb9] at x0 x1 x2 l0
  have q0 : ((q : Int) != (q : Int)) = false := by simp
  have q1 : ((G : Int) != (G : Int)) = false := by simp
  go_enter Try.func3, Try.ntmps3
  go_wp2_with fail
  generalize w.alloc (.cells #[.slice B1 k1 c1, .slice B2 k2 c2, .slice O m c3] 26) = Z at *
  have HXB : Hid (∀ V, Below Z.heap.size Z V → V.cell? ⟨b9, 0, none⟩ = some (.slice B1 k1 c1) ∧ V.cell? ⟨b9, 1, none⟩ = some (.slice B2 k2 c2) ∧ V.cell? ⟨b9, 2, none⟩ = some (.slice O m c3) ∧ b9 < V.heap.size) := fun V h => ⟨(h.cell (p := ⟨b9, 0, none⟩) l0).trans x0, (h.cell (p := ⟨b9, 1, none⟩) l0).trans x1, (h.cell (p := ⟨b9, 2, none⟩) l0).trans x2, Nat.lt_of_lt_of_le l0 h.size⟩
  clear x0 x1 x2 l0
  go_wp2_with (first
    | ((go_at_call 4; with_reducible refine Calls.mono (Gives.calls (VA.out _ (by repeat (first | exact Below.refl _ _ | (with_reducible assumption) | apply below_later | apply below_alloc | apply below_drew | apply below_drewN)))) ?_; rintro e w1 ⟨rfl, z, rfl⟩); obtain ⟨j0, j1, j2, j3⟩ := HXB.out z.val (by repeat (first | exact Below.refl _ _ | (with_reducible assumption) | apply below_later | apply below_alloc | apply below_drew | apply below_drewN)))
    | ((go_at_call 5; with_reducible refine Calls.mono (Gives.calls (MN1.out _ (by repeat (first | exact Below.refl _ _ | (with_reducible assumption) | apply below_later | apply below_alloc | apply below_drew | apply below_drewN)))) ?_; rintro e w1 ⟨rfl, z3, rfl⟩); obtain ⟨j4, j5, j6, j7⟩ := HXB.out z3.val (by repeat (first | exact Below.refl _ _ | (with_reducible assumption) | apply below_later | apply below_alloc | apply below_drew | apply below_drewN)); clear j0 j1 j2 j3)
    | ((go_at_call 5; with_reducible refine Calls.mono (Gives.calls (MN2.out _ (by repeat (first | exact Below.refl _ _ | (with_reducible assumption) | apply below_later | apply below_alloc | apply below_drew | apply below_drewN)))) ?_; rintro e w1 ⟨rfl, z4, rfl⟩); obtain ⟨j8, j9, j10, j11⟩ := HXB.out z4.val (by repeat (first | exact Below.refl _ _ | (with_reducible assumption) | apply below_later | apply below_alloc | apply below_drew | apply below_drewN)); clear j4 j5 j6 j7)
    | (go_at_call 7; with_reducible refine Calls.mono (Gives.calls (F1.out _ (by repeat (first | exact Below.refl _ _ | (with_reducible assumption) | apply below_later | apply below_alloc | apply below_drew | apply below_drewN)))) ?_; rintro e w1 ⟨rfl, z5, rfl⟩)
    | (go_at_call 8; with_reducible refine Calls.mono (P1.out _ (by repeat (first | exact Below.refl _ _ | (with_reducible assumption) | apply below_later | apply below_alloc | apply below_drew | apply below_drewN))) ?_; rintro e w1 ⟨C1, e1, rfl, ⟨z6, rfl⟩, hI⟩; have Q1 := Lib.hid hI; clear hI)
    | (go_at_call 9; with_reducible refine Calls.mono (P2.out _ (by repeat (first | exact Below.refl _ _ | (with_reducible assumption) | apply below_later | apply below_alloc | apply below_drew | apply below_drewN))) ?_; rintro e w1 ⟨C2, e2, rfl, ⟨z7, rfl⟩, hI⟩; have Q2 := Lib.hid hI; clear hI)
    | (go_at_call 10; with_reducible refine Calls.mono (P3.out _ (by repeat (first | exact Below.refl _ _ | (with_reducible assumption) | apply below_later | apply below_alloc | apply below_drew | apply below_drewN))) ?_; rintro e w1 ⟨C3, e3, rfl, ⟨z8, rfl⟩, hI⟩; have Q3 := Lib.hid hI; clear hI)
    | (go_at_call 11; with_reducible refine Calls.mono (P4.out _ (by repeat (first | exact Below.refl _ _ | (with_reducible assumption) | apply below_later | apply below_alloc | apply below_drew | apply below_drewN))) ?_; rintro e w1 ⟨C4, e4, rfl, ⟨z9, rfl⟩, hI⟩; have Q4 := Lib.hid hI; clear hI))
  clear VA MN1 MN2 F1 P1 P2 P3 P4
  have HBZ9 : Hid (Below Z.heap.size Z z9.val) := by show Below _ _ _; repeat (first | exact Below.refl _ _ | (with_reducible assumption) | apply below_later | apply below_alloc | apply below_drew | apply below_drewN)
  go_upto_region 13 with (first
    | (go_at_call 12; with_reducible refine Calls.mono (Gives.calls (Q1.out _ (by repeat (first | exact Below.refl _ _ | (with_reducible assumption) | apply below_later | apply below_alloc | apply below_drew | apply below_drewN)))) ?_; rintro e w1 ⟨rfl, y1, rfl⟩)
    | (go_at_call 13; with_reducible refine Calls.mono (Gives.calls (Q2.out _ (by repeat (first | exact Below.refl _ _ | (with_reducible assumption) | apply below_later | apply below_alloc | apply below_drew | apply below_drewN)))) ?_; rintro e w1 ⟨rfl, y2, rfl⟩)
    | (go_at_call 14; with_reducible refine Calls.mono (Gives.calls (Q4.out _ (by repeat (first | exact Below.refl _ _ | (with_reducible assumption) | apply below_later | apply below_alloc | apply below_drew | apply below_drewN)))) ?_; rintro e w1 ⟨rfl, y3, rfl⟩))
  have HB3 : Hid (Below Z.heap.size Z y3.val) := by show Below _ _ _; repeat (first | exact Below.refl _ _ | (with_reducible assumption) | apply below_later | apply below_alloc | apply below_drew | apply below_drewN)
  have H83 : Hid (Below z8.val.heap.size z8.val y3.val) := by show Below _ _ _; repeat (first | exact Below.refl _ _ | (with_reducible assumption) | apply below_later | apply below_alloc | apply below_drew | apply below_drewN)
  clear Q1 Q2 Q4
  generalize y3.val = Y3 at *
  go_cut [168] (fun s168 wx => s168 = .bool false ∧ Below Y3.heap.size Y3 wx)
  case first =>
    rcases Nat.lt_or_ge 0 n with hn0 | hn0
    all_goals
      as_aux_lemma =>
        go_wp2_with (go_at_call 15; with_reducible refine Calls.mono (Gives.calls (Q3.out _ hn0 (below_more H83.out (by repeat (first | exact Below.refl _ _ | (with_reducible assumption) | apply below_later | apply below_alloc | apply below_drew | apply below_drewN))))) ?_; rintro e w1 ⟨rfl, y4, rfl⟩)
        go_meet
        exact ⟨rfl, by repeat (first | exact Below.refl _ _ | (with_reducible assumption) | apply below_later | apply below_alloc | apply below_drew | apply below_drewN)⟩
  case rest =>
    as_aux_lemma =>
      obtain ⟨rfl, hbx⟩ := hcut
      have HBC : Hid (Below Z.heap.size Z wc) := below_more HB3.out hbx
      have HBW : Hid (Below w.heap.size w wc) := below_more HB.out HBC.out
      clear hbx Q3 HB3 H83
      try clear j0 j1 j2 j3
      obtain ⟨j0, j1, j2, j3⟩ := HXB.out wc HBC.out
      go_upto_region 18 with (first
        | ((go_at_call 12; with_reducible refine Calls.mono (Gives.calls (E1.out _ (below_more HBW.out (by repeat (first | exact Below.refl _ _ | (with_reducible assumption) | apply below_later | apply below_alloc | apply below_drew | apply below_drewN))))) ?_; rintro e w1 ⟨rfl, y5, rfl⟩); clear j0 j1 j2 j3; obtain ⟨j0, j1, j2, j3⟩ := HXB.out y5.val (below_more HBC.out (by repeat (first | exact Below.refl _ _ | (with_reducible assumption) | apply below_later | apply below_alloc | apply below_drew | apply below_drewN))))
        | ((go_at_call 13; with_reducible refine Calls.mono (Gives.calls (E2.out _ (below_more HBW.out (by repeat (first | exact Below.refl _ _ | (with_reducible assumption) | apply below_later | apply below_alloc | apply below_drew | apply below_drewN))))) ?_; rintro e w1 ⟨rfl, y6, rfl⟩); clear j0 j1 j2 j3; obtain ⟨j0, j1, j2, j3⟩ := HXB.out y6.val (below_more HBC.out (by repeat (first | exact Below.refl _ _ | (with_reducible assumption) | apply below_later | apply below_alloc | apply below_drew | apply below_drewN))))
        | ((go_at_call 14; with_reducible refine Calls.mono (Gives.calls (E3.out _ (below_more HBW.out (by repeat (first | exact Below.refl _ _ | (with_reducible assumption) | apply below_later | apply below_alloc | apply below_drew | apply below_drewN))))) ?_; rintro e w1 ⟨rfl, y7, rfl⟩); clear j0 j1 j2 j3; obtain ⟨j0, j1, j2, j3⟩ := HXB.out y7.val (below_more HBC.out (by repeat (first | exact Below.refl _ _ | (with_reducible assumption) | apply below_later | apply below_alloc | apply below_drew | apply below_drewN)))))
      have HB7 : Hid (Below Z.heap.size Z y7.val) := below_more HBC.out (by repeat (first | exact Below.refl _ _ | (with_reducible assumption) | apply below_later | apply below_alloc | apply below_drew | apply below_drewN))
      clear E1 E2 E3 HBC HBW
      generalize y7.val = Y7 at *
      go_cut [248] (fun s248 wx => s248 = .bool false ∧ Below Y7.heap.size Y7 wx)
      case first =>
        cases b1 <;> cases b2 <;> cases b3
        all_goals
          as_aux_lemma =>
            try have g1 := f1 rfl
            try have g2 := f2 rfl
            try have g3 := f3 rfl rfl
            try have g4 := f4 rfl
            clear f1 f2 f3 f4
            go_wp2_with fail
            go_meet
            refine ⟨?_, by repeat (first | exact Below.refl _ _ | (with_reducible assumption) | apply below_later | apply below_alloc | apply below_drew | apply below_drewN)⟩
            first
              | rfl
              | (congr 1; simp only [Bool.or_eq_false_iff, decide_eq_false_iff_not, Nat.not_lt]; omega)
      case rest =>
        as_aux_lemma =>
          obtain ⟨rfl, hbx⟩ := hcut
          have HBY : Hid (Below Z.heap.size Z wc) := below_more HB7.out hbx
          clear hbx HB7 f1 f2 f3 f4
          try clear j0 j1 j2 j3
          go_wp2_with fail
          go_loopw [23] (fun u wr => ∃ i : Nat, u = .int .i64 (i : Nat) ∧ i ≤ k1 ∧ Below Z.heap.size Z wr) (fun u _ => k1 - (intOf u).toNat)
          case atStart => exact ⟨0, rfl, by omega, HBY.out⟩
          case round =>
            obtain ⟨i, rfl, hi, hbl⟩ := hrel
            have HBL := Lib.hid hbl
            clear hbl
            obtain ⟨p0, p1, p2, p3⟩ := HXB.out wr HBL.out
            by_cases hlt : i < k1
            · obtain ⟨bt, off, hB, hbt, hct⟩ := (HT1.out.below (below_more HB.out HBL.out)).at_ (by omega)
              have ci := hct i hlt
              have f7 := f5.out i hlt
              have f8 := f6.out i hlt
              have BI : Hid (∀ V, Below wr.heap.size wr V → Gives Try.prog 15 #[.slice A n cap, .int .i64 s, .slice (R1 i).a (R1 i).n (R1 i).c] V (.bool (b4 i))) := fun V h => E4.out i hlt V (below_more HB.out (below_more HBL.out h))
              have HBO := Lib.hid hB
              rw [hB] at p0
              unfold Row.val at ci
              clear hct hB E4 f5 f6
              generalize b4 i = bi at *
              generalize R1 i = ri at *
              cases bi <;> cases b3
              all_goals
                as_aux_lemma =>
                  try have h5 := f7 rfl
                  try have h6 := f8 rfl rfl
                  try have d5 : decide ((G : Int) < (ri.n : Int)) = false := decide_eq_false (by omega)
                  try have d6 : decide (G < ri.n) = false := decide_eq_false (by omega)
                  try have d7 : decide ((k2 : Int) < (ri.n : Int)) = false := decide_eq_false (by omega)
                  try have d8 : decide (k2 < ri.n) = false := decide_eq_false (by omega)
                  clear f7 f8
                  go_wp2_with fail
                  refine wp_region_later (by kernel_rfl) (by kernel_rfl) ?_
                  repeat (go_big_quiet_step ((go_at_call 15; (with_reducible refine Later.call _ (BI.out _ (by repeat (first | exact Below.refl _ _ | (with_reducible assumption) | apply below_later | apply below_alloc | apply below_drew | apply below_drewN)))))))
                  refine wpQuiet_nil ?_
                  intro y
                  go_wp2
                  first
                    | (go_roundw
                       case rel => exact ⟨i + 1, by go_num, by omega, below_more HBL.out y.ok⟩
                       case measure => simp [intOf]; omega)
                    | (refine ⟨⟨i + 1, by go_num, by omega, below_more HBL.out y.ok⟩, ?_⟩; simp [intOf]; omega)
            · obtain rfl : i = k1 := by omega
              go_wp2_with (go_at_call 6; with_reducible refine Calls.mono (Gives.calls (AW.out _)) ?_; rintro e w1 ⟨rfl, y, rfl⟩)
              go_ret
              exact ⟨rfl, later_of (below_more HB.out (below_more HBL.out y.ok))⟩
end Go.Proofs.Ytlljjaafejjeeaa
