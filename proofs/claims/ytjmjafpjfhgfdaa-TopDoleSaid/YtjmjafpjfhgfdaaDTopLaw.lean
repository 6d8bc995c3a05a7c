/- TopDole: walked. -/
import Derived.Test.YtjmjafpjfhgfdaaDTurnM
import Derived.Test.YtjmjafpjfhgfdaaDGivesLaw
namespace Go.Proofs.Ytjmjafpjfhgfdaa
open Go.RowKit

theorem sum_most {R : Nat → Row} {c : Nat → Int} {k n : Nat} (h : ∀ j, j < n → 0 ≤ c j ∧ c j < k) : sumN (ownW R c n) k ≤ sumN (colT R k) n := by
  have h1 := sum_worths (F := fT R) (c := c) (k := k) (m := n) h
  have h2 := sum_le_most (F := fT R) (c := c) (k := k) (n := n) h
  have h3 : sumN (ownW R c n) k = sumS (fT R) c n := h1
  rw [h3]
  exact h2
theorem err_zero {R : Nat → Row} {c : Nat → Int} {k n m : Nat} (W : Vals k n R) (hm : m = n) (h : ∀ j, j < m → 0 ≤ c j ∧ c j < k) : errE k R m c = 0 := by
  have hn := W.len 0 W.k1
  unfold errE
  rw [valsT W, if_neg (by simp), shareB_iff.2 ⟨by omega, h⟩, if_neg (by simp)]
/-- A share-out that is fair but for one strip. -/
structure Good (k n : Nat) (R : Nat → Row) (c : Nat → Int) : Prop where
  inr : ∀ j, j < n → 0 ≤ c j ∧ c j < k
  ef : EF1 R c n k
/-- What is asked of a share-out in memory. -/
structure Asked (k cap n : Nat) (A : Option Addr) (R : Nat → Row) (c : Nat → Int) (w : World) : Prop where
  share : ∀ (V : World) (S : Option Addr) (cS : Nat), Below w.heap.size w V → IsInts V S n c → Gives Try.prog 33 #[.slice A k cap, .slice S n cS] V (.bool true)
  rfair : ∀ (V : World) (S : Option Addr) (cS : Nat), Below w.heap.size w V → IsInts V S n c → Gives Try.prog 29 #[.slice A k cap, .slice S n cS] V (.bool true)
  fair : ∀ (V : World) (S : Option Addr) (cS : Nat), Below w.heap.size w V → IsInts V S n c → Gives Try.prog 27 #[.slice A k cap, .slice S n cS] V (.tuple #[.bool true, .int .i64 0])
  sum : ∀ (V : World) (S : Option Addr) (cS : Nat), Below w.heap.size w V → IsInts V S n c → Gives Try.prog 17 #[.slice A k cap, .slice S n cS] V (.tuple #[.int .i64 (sumN (ownW R c n) k), .int .i64 0])
theorem asked {k cap n : Nat} {A : Option Addr} {R : Nat → Row} {c : Nat → Int} {w : World} (W : Vals k n R) (hp : IsTab w A k R) (g : Good k n R c) : Asked k cap n A R c w := by
  have hn12 := W.n12
  have he := err_zero W rfl g.inr
  refine ⟨fun V S cS hb hi => ?_, fun V S cS hb hi => ?_, fun V S cS hb hi => ?_, fun V S cS hb hi => ?_⟩
  · have h := risShare_any k cap n cS n A S R c V (by omega) W (hp.below hb) hi
    rw [shareB_iff.2 ⟨rfl, g.inr⟩] at h
    exact h
  · have h := rFair_any k cap n n cS A S R c V (Nat.le_refl _) W (hp.below hb) hi
    rw [fair_ef g.ef] at h
    exact h
  · have h := Fair_ok k cap n cS A S R c V (hp.below hb) hi he
    rw [fair_ef g.ef] at h
    exact h
  · exact Sum_ok k cap n cS A S R c V (hp.below hb) hi he
theorem good_turn {k n : Nat} {R : Nat → Row} (W : Vals k n R) : Good k n R (pk (pickL (fT R) (turnI k) n n)) :=
  ⟨pick_all W.k1 fun a ha j hj => W.val a ha j hj, (turn_ef W).1⟩
theorem good_give {k n : Nat} {R : Nat → Row} (W : Vals k n R) {gl : Nat → List Int} (h0 : gl 0 = []) (h1 : ∀ j, j ≤ n → (gl j).length = j ∧ Inr k (gl j)) (h2 : ∀ j, j < n → Step R k (gl j) (gl (j + 1))) : Good k n R (gt (gl n)) := by
  have hl := (h1 n (Nat.le_refl _)).1
  refine ⟨fun j hj => (h1 n (Nat.le_refl _)).2 j (by omega), ?_⟩
  have h := ef_give W h0 (fun j hj => (h1 j hj).1) h2 n (Nat.le_refl _)
  rw [hl] at h
  exact h
theorem own_pk {w : World} {base n c : Nat} {A : Option Addr} {t : List Int} (h : OwnI w base (.slice A n c) t) (hl : t.length = n) (hn : n ≤ 1000) : IsInts w A n (pk t) := (h.ints (by omega)).2
theorem tab_zero {V : World} {b off k n : Nat} {R : Nat → Row} (hp : IsTab V (some ⟨b, off, none⟩) k R) (W : Vals k n R) : b < V.heap.size ∧ V.cell? ⟨b, off, none⟩ = some (.slice (R 0).a n (R 0).c) ∧ IsInts V (R 0).a n (R 0).f ∧ n ≤ (R 0).c := by
  obtain ⟨b', off', hA, la, p⟩ := hp.at_ W.k1
  simp only [Option.some.injEq, Addr.mk.injEq, and_true] at hA
  obtain ⟨rfl, rfl⟩ := hA
  have h := p 0 W.k1
  have hr := hp.row 0 W.k1
  unfold Row.val at h
  rw [Nat.add_zero, W.len 0 W.k1] at h
  rw [W.len 0 W.k1] at hr
  exact ⟨la, h, hr.1, hr.2⟩
/-- A table of one row twice. -/
def twin (R : Nat → Row) (_ : Nat) : Row := R 0
theorem twin_vals {k n : Nat} {R : Nat → Row} (W : Vals k n R) : Vals 2 n (twin R) :=
  ⟨by decide, by decide, W.n12, fun _ _ => W.len 0 W.k1, fun _ _ j hj => W.val 0 W.k1 j hj⟩
theorem twin_tab {U : World} {k n : Nat} {R : Nat → Row} (W : Vals k n R) (hi : IsInts U (R 0).a n (R 0).f) (hc : n ≤ (R 0).c) : IsTab (U.alloc (.cells #[.slice (R 0).a n (R 0).c, .slice (R 0).a n (R 0).c] 23)) (some ⟨U.heap.size, 0, none⟩) 2 (twin R) := by
  have hn := W.len 0 W.k1
  obtain ⟨c0, c1, l0⟩ := box2 U (.slice (R 0).a n (R 0).c) (.slice (R 0).a n (R 0).c) 23
  refine ⟨by decide, fun _ => ⟨U.heap.size, 0, rfl, l0, fun i hi => ?_⟩, fun i _ => ?_⟩
  · show _ = some (R 0).val
    unfold Row.val
    rw [hn, Nat.zero_add]
    match i, hi with
    | 0, _ => exact c0
    | 1, _ => exact c1
  · show IsInts _ (R 0).a (R 0).n (R 0).f ∧ (R 0).n ≤ (R 0).c
    rw [hn]
    exact ⟨hi.below ((Below.refl _ _).alloc (Nat.le_refl _) _), hc⟩
set_option maxRecDepth 100000 in
theorem worths_two (cap n cS : Nat) (A S : Option Addr) (R : Nat → Row) (c : Nat → Int) (V : World) (W : Vals 2 n R) (hp : IsTab V A 2 R) (hc : IsInts V S n c) :
    Calls Try.prog 24 #[.slice A 2 cap, .slice S n cS] V fun e w' => ∃ g cg, e = .returned (.slice (some ⟨g, 0, none⟩) 2 cg) ∧ (∃ x : Later V, w' = x.val) ∧ g < w'.heap.size ∧ w'.cell? ⟨g, 0, none⟩ = some (.int .i64 (wth (R 0).f c 0 n)) ∧ w'.cell? ⟨g, 1, none⟩ = some (.int .i64 (wth (R 1).f c 1 n)) := by
  refine Calls.mono (GivesI.calls (rworths_any 2 cap n n cS A S R c V (Nat.le_refl _) W hp hc)) ?_
  rintro e w' ⟨v, rfl, x, rfl, ho⟩
  have hl : (listN (ownW R c n) 2).length = 2 := listN_length _ _
  obtain ⟨g, cg, rfl, _, h2, _⟩ := ho.form hl (by decide)
  refine ⟨g, cg, rfl, ⟨x, rfl⟩, h2, ?_, ?_⟩
  · exact (ho.cell hl (i := 0) (by decide)).1
  · exact (ho.cell hl (i := 1) (by decide)).1
set_option maxRecDepth 100000 in
set_option maxHeartbeats 12800000 in
theorem top_law (A : Option Addr) (k cap : Nat) (R : Nat → Row) (w : World) (hp : IsTab w A k R) :
    Gives Try.prog 12 #[.slice A k cap] w (.bool true) := by
  have FL := Lib.hid first_law
  have LG := Lib.hid fun (V : World) (h : Below w.heap.size w V) => Long_any k cap A R V (hp.below h)
  cases hl : longB k R
  case true =>
    rw [hl] at LG
    clear hp hl
    go_enter Try.func12, Try.ntmps12
    go_wp2_with (first | (go_at_call 13; with_reducible refine Calls.mono (Gives.calls (LG.out _ (by repeat (first | exact Below.refl _ _ | (with_reducible assumption) | apply below_later | apply below_alloc | apply below_drew | apply below_drewN)))) ?_; rintro e w1 ⟨rfl, z, rfl⟩) | (go_at_call 14; with_reducible refine Calls.mono (Gives.calls (FL.out _)) ?_; rintro e w1 ⟨rfl, z2, rfl⟩))
    go_ret
    exact ⟨rfl, later_of (by repeat (first | exact Below.refl _ _ | (with_reducible assumption) | apply below_later | apply below_alloc | apply below_drew | apply below_drewN))⟩
  case false =>
    rw [hl] at LG
    obtain ⟨hk, hr⟩ := long_facts hl
    have RV := Lib.hid fun (V : World) (h : Below w.heap.size w V) => rvalid_any k cap A R V (fun i hi => by have := hr i hi; omega) (hp.below h)
    clear hl
    cases hv : tabB k R
    case false =>
      rw [hv] at RV
      clear hp hr hv
      go_enter Try.func12, Try.ntmps12
      go_wp2_with (first
        | (go_at_call 13; with_reducible refine Calls.mono (Gives.calls (LG.out _ (by repeat (first | exact Below.refl _ _ | (with_reducible assumption) | apply below_later | apply below_alloc | apply below_drew | apply below_drewN)))) ?_; rintro e w1 ⟨rfl, z, rfl⟩)
        | (go_at_call 21; with_reducible refine Calls.mono (Gives.calls (RV.out _ (by repeat (first | exact Below.refl _ _ | (with_reducible assumption) | apply below_later | apply below_alloc | apply below_drew | apply below_drewN)))) ?_; rintro e w1 ⟨rfl, z1, rfl⟩)
        | (go_at_call 14; with_reducible refine Calls.mono (Gives.calls (FL.out _)) ?_; rintro e w1 ⟨rfl, z2, rfl⟩))
      go_ret
      exact ⟨rfl, later_of (by repeat (first | exact Below.refl _ _ | (with_reducible assumption) | apply below_later | apply below_alloc | apply below_drew | apply below_drewN))⟩
    case true =>
      rw [hv] at RV
      have W := tabB_iff.1 hv
      obtain ⟨n, hn⟩ : ∃ n, (R 0).n = n := ⟨_, rfl⟩
      rw [hn] at W
      have hn12 := W.n12
      have hk6 := W.k6
      have hk1 := W.k1
      obtain ⟨gl, g0, g1, g2⟩ := give_ex W _ (Nat.le_refl _)
      have IT : Hid (∀ V, Below w.heap.size w V → Calls Try.prog 31 #[.slice A k cap] V fun e w' => ∃ v, e = .returned (.tuple #[v, .int .i64 0]) ∧ ∃ x : Later V, w' = x.val ∧ OwnI w' V.heap.size v (pickL (fT R) (turnI k) n n)) := fun V h => InTurn_ok k cap _ A R V W (hp.below h)
      have GI : Hid (∀ V, Below w.heap.size w V → Calls Try.prog 40 #[.slice A k cap] V fun e w' => ∃ v, e = .returned (.tuple #[v, .int .i64 0]) ∧ ∃ x : Later V, w' = x.val ∧ OwnI w' V.heap.size v (gl n)) := fun V h => Give_ok k cap _ A R gl V W (hp.below h) g0 (fun j hj => (g1 j hj).1) g2
      have AT := Lib.hid (asked (cap := cap) W hp (good_turn W))
      have AG := Lib.hid (asked (cap := cap) W hp (good_give W g0 g1 g2))
      have MO := Lib.hid fun (V : World) (h : Below w.heap.size w V) => Most_ok k cap n A R V (hp.below h) W
      have EN : Hid (∀ (o : Nat) (V : World) (S : Option Addr) (cS : Nat), 0 < o → o < k → Below w.heap.size w V → IsInts V S n (pk (pickL (fT R) (turnI k) n n)) → Gives Try.prog 49 #[.slice A k cap, .slice S n cS, .int .i64 0, .int .i64 (o : Nat)] V (.bool false)) := fun o V S cS h0 h1 hb hi => by
        have h := renvied_any k cap n n cS 0 o A S R (pk (pickL (fT R) (turnI k) n n)) V hk1 (Nat.le_refl _) W (hp.below hb) hi
        rw [(turn_ef W).2 o h0 h1] at h
        exact h
      have SU : Hid (∀ (V : World) (S : Option Addr) (cS : Nat), Below w.heap.size w V → IsInts V S n (gt (gl n)) → Gives Try.prog 17 #[.slice A k cap, .slice S n cS] V (.tuple #[.int .i64 (sumN (ownW R (gt (gl n)) n) k), .int .i64 0])) := AG.out.sum
      have hsm := sum_most (R := R) (good_give W g0 g1 g2).inr
      have LP := Lib.hid (pickL_length (fT R) (turnI k) n n)
      have LGi := Lib.hid (g1 _ (Nat.le_refl _)).1
      have GIN := Lib.hid (good_give W g0 g1 g2).inr
      clear g0 g1 g2
      generalize gl n = G at *
      generalize pickL (fT R) (turnI k) n n = P at *
      generalize sumN (ownW R (gt G) n) k = su at *
      generalize sumN (colT R k) n = mo at *
      have HP := Lib.hid hp
      have HW := Lib.hid W
      clear hp hr hv W
      have q1 : decide (mo < su) = false := by simp; omega
      go_enter Try.func12, Try.ntmps12
      go_wp2_with (first
        | (go_at_call 13; with_reducible refine Calls.mono (Gives.calls (LG.out _ (by repeat (first | exact Below.refl _ _ | (with_reducible assumption) | apply below_later | apply below_alloc | apply below_drew | apply below_drewN)))) ?_; rintro e w1 ⟨rfl, z, rfl⟩)
        | (go_at_call 21; with_reducible refine Calls.mono (Gives.calls (RV.out _ (by repeat (first | exact Below.refl _ _ | (with_reducible assumption) | apply below_later | apply below_alloc | apply below_drew | apply below_drewN)))) ?_; rintro e w1 ⟨rfl, z1, rfl⟩)
        | (go_at_call 31; with_reducible refine Calls.mono (IT.out _ (by repeat (first | exact Below.refl _ _ | (with_reducible assumption) | apply below_later | apply below_alloc | apply below_drew | apply below_drewN))) ?_; rintro e w1 ⟨v, rfl, z2, rfl, ho⟩; obtain ⟨S1, c1, rfl⟩ := ho.shape_n LP.out; have I1 := Lib.hid (own_pk ho LP.out (by omega)); clear ho)
        | (go_at_call 40; with_reducible refine Calls.mono (GI.out _ (by repeat (first | exact Below.refl _ _ | (with_reducible assumption) | apply below_later | apply below_alloc | apply below_drew | apply below_drewN))) ?_; rintro e w1 ⟨v, rfl, z3, rfl, ho⟩; obtain ⟨S2, c2, rfl⟩ := ho.shape_n LGi.out; have I2 := Lib.hid (own_gt ho LGi.out (by omega)); clear ho)
        | (go_at_call 33; with_reducible refine Calls.mono (Gives.calls (AT.out.share _ _ _ (by repeat (first | exact Below.refl _ _ | (with_reducible assumption) | apply below_later | apply below_alloc | apply below_drew | apply below_drewN)) (I1.out.below (by repeat (first | exact Below.refl _ _ | (with_reducible assumption) | apply below_later | apply below_alloc | apply below_drew | apply below_drewN))))) ?_; rintro e w1 ⟨rfl, z4, rfl⟩)
        | (go_at_call 33; with_reducible refine Calls.mono (Gives.calls (AG.out.share _ _ _ (by repeat (first | exact Below.refl _ _ | (with_reducible assumption) | apply below_later | apply below_alloc | apply below_drew | apply below_drewN)) (I2.out.below (by repeat (first | exact Below.refl _ _ | (with_reducible assumption) | apply below_later | apply below_alloc | apply below_drew | apply below_drewN))))) ?_; rintro e w1 ⟨rfl, z5, rfl⟩)
        | (go_at_call 29; with_reducible refine Calls.mono (Gives.calls (AT.out.rfair _ _ _ (by repeat (first | exact Below.refl _ _ | (with_reducible assumption) | apply below_later | apply below_alloc | apply below_drew | apply below_drewN)) (I1.out.below (by repeat (first | exact Below.refl _ _ | (with_reducible assumption) | apply below_later | apply below_alloc | apply below_drew | apply below_drewN))))) ?_; rintro e w1 ⟨rfl, z6, rfl⟩)
        | (go_at_call 29; with_reducible refine Calls.mono (Gives.calls (AG.out.rfair _ _ _ (by repeat (first | exact Below.refl _ _ | (with_reducible assumption) | apply below_later | apply below_alloc | apply below_drew | apply below_drewN)) (I2.out.below (by repeat (first | exact Below.refl _ _ | (with_reducible assumption) | apply below_later | apply below_alloc | apply below_drew | apply below_drewN))))) ?_; rintro e w1 ⟨rfl, z7, rfl⟩)
        | (go_at_call 27; with_reducible refine Calls.mono (Gives.calls (AT.out.fair _ _ _ (by repeat (first | exact Below.refl _ _ | (with_reducible assumption) | apply below_later | apply below_alloc | apply below_drew | apply below_drewN)) (I1.out.below (by repeat (first | exact Below.refl _ _ | (with_reducible assumption) | apply below_later | apply below_alloc | apply below_drew | apply below_drewN))))) ?_; rintro e w1 ⟨rfl, z8, rfl⟩)
        | (go_at_call 27; with_reducible refine Calls.mono (Gives.calls (AG.out.fair _ _ _ (by repeat (first | exact Below.refl _ _ | (with_reducible assumption) | apply below_later | apply below_alloc | apply below_drew | apply below_drewN)) (I2.out.below (by repeat (first | exact Below.refl _ _ | (with_reducible assumption) | apply below_later | apply below_alloc | apply below_drew | apply below_drewN))))) ?_; rintro e w1 ⟨rfl, z9, rfl⟩)
        | (go_at_call 17; with_reducible refine Calls.mono (Gives.calls (SU.out _ _ _ (by repeat (first | exact Below.refl _ _ | (with_reducible assumption) | apply below_later | apply below_alloc | apply below_drew | apply below_drewN)) (I2.out.below (by repeat (first | exact Below.refl _ _ | (with_reducible assumption) | apply below_later | apply below_alloc | apply below_drew | apply below_drewN))))) ?_; rintro e w1 ⟨rfl, z10, rfl⟩)
        | (go_at_call 18; with_reducible refine Calls.mono (Gives.calls (MO.out _ (by repeat (first | exact Below.refl _ _ | (with_reducible assumption) | apply below_later | apply below_alloc | apply below_drew | apply below_drewN)))) ?_; rintro e w1 ⟨rfl, z11, rfl⟩))
      have HBZ : Hid (Below w.heap.size w z11.val) := by show Below _ _ _; repeat (first | exact Below.refl _ _ | (with_reducible assumption) | apply below_later | apply below_alloc | apply below_drew | apply below_drewN)
      have J1 : Hid (IsInts z11.val S1 n (pk P)) := I1.out.below (by repeat (first | exact Below.refl _ _ | (with_reducible assumption) | apply below_later | apply below_alloc | apply below_drew | apply below_drewN))
      have J2 : Hid (IsInts z11.val S2 n (gt G)) := I2.out.below (by repeat (first | exact Below.refl _ _ | (with_reducible assumption) | apply below_later | apply below_alloc | apply below_drew | apply below_drewN))
      clear I1 I2 IT GI AT AG SU MO LG RV LP
      generalize z11.val = Z at *
      go_loopw [13] (fun u wr => ∃ c : Nat, u = .int .i64 (c : Nat) ∧ 1 ≤ c ∧ c ≤ k ∧ ∃ y : Later Z, wr = y.val) (fun u _ => k - (intOf u).toNat)
      case atStart => exact ⟨1, rfl, by omega, by omega, later_of (by repeat (first | exact Below.refl _ _ | (with_reducible assumption) | apply below_later | apply below_alloc | apply below_drew | apply below_drewN))⟩
      case round =>
        obtain ⟨c, rfl, hc1, hck, y, rfl⟩ := hrel
        have HBY : Hid (Below w.heap.size w y.val) := below_more HBZ.out y.ok
        have XV : Hid (∀ U, Below y.val.heap.size y.val U → ∃ y' : Later Z, U = y'.val) := fun U h => ⟨⟨U, below_more y.ok h⟩, rfl⟩
        have K1 := Lib.hid (J1.out.below y.ok)
        have K2 := Lib.hid (J2.out.below y.ok)
        by_cases hlt : c < k
        · have EN1 := Lib.hid fun V S cS h hi => EN.out c V S cS (by omega) hlt h hi
          have hg : decide ((c : Int) < (k : Int)) = true := by simp; omega
          go_wp2_with (go_at_call 49; with_reducible refine Calls.mono (Gives.calls (EN1.out _ _ _ (below_more HBY.out (by repeat (first | exact Below.refl _ _ | (with_reducible assumption) | apply below_later | apply below_alloc | apply below_drew | apply below_drewN))) (K1.out.below (by repeat (first | exact Below.refl _ _ | (with_reducible assumption) | apply below_later | apply below_alloc | apply below_drew | apply below_drewN))))) ?_; rintro e w1 ⟨rfl, z12, rfl⟩)
          first
            | (refine ⟨⟨c + 1, by go_num, by omega, by omega, XV.out _ (by repeat (first | exact Below.refl _ _ | (with_reducible assumption) | apply below_later | apply below_alloc | apply below_drew | apply below_drewN))⟩, ?_⟩; simp [intOf]; omega)
            | (go_roundw
               case rel => exact ⟨c + 1, by go_num, by omega, by omega, XV.out _ (by repeat (first | exact Below.refl _ _ | (with_reducible assumption) | apply below_later | apply below_alloc | apply below_drew | apply below_drewN))⟩
               case measure => simp [intOf]; omega)
        · obtain rfl : c = k := by omega
          clear J1 J2 K1 EN XV
          by_cases hk2 : c = 2
          · subst hk2
            have hp := HP.out
            have W := HW.out
            obtain ⟨b, off, hA⟩ := hp.addr (by decide)
            subst hA
            have ROW : Hid (∀ V, Below w.heap.size w V → b < V.heap.size ∧ V.cell? ⟨b, off, none⟩ = some (.slice (R 0).a n (R 0).c) ∧ IsInts V (R 0).a n (R 0).f ∧ n ≤ (R 0).c) := fun V h => tab_zero (hp.below h) W
            have hf := W.val 0 (by decide)
            have hrow : rowB n (R 0).f = true := rowB_iff.2 ⟨hn12, hf⟩
            have TW : Hid (∀ V, Below w.heap.size w V → Calls Try.prog 45 #[.slice (some ⟨b, off, none⟩) 2 cap] V fun e w' => ∃ v, e = .returned (.tuple #[v, .int .i64 0]) ∧ ∃ x : Later V, w' = x.val ∧ OwnI w' V.heap.size v (twoL n (R 0).f (R 1).f)) := fun V h => Two_ok cap n _ R V (hp.below h) W
            have TW2 : Hid (∀ V g, IsTab V (some ⟨g, 0, none⟩) 2 (twin R) → Calls Try.prog 45 #[.slice (some ⟨g, 0, none⟩) 2 2] V fun e w' => ∃ v, e = .returned (.tuple #[v, .int .i64 0]) ∧ ∃ x : Later V, w' = x.val ∧ OwnI w' V.heap.size v (twoL n (R 0).f (R 0).f)) := fun V g h => Two_ok 2 n _ (twin R) V h (twin_vals W)
            have HA : Hid (∀ V, Below w.heap.size w V → Calls Try.prog 42 #[.slice (R 0).a n (R 0).c] V fun e w' => ∃ v, e = .returned (.tuple #[v, .int .i64 (leastH n (R 0).f), .int .i64 0]) ∧ ∃ y : Later V, w' = y.val ∧ OwnBl w' V.heap.size v (partB n (setH n (R 0).f))) := fun V h => Halves_ok n (R 0).c (R 0).a (R 0).f V (tab_zero (hp.below h) W).2.2.1 hrow
            have T1 := two_ok (g := (R 1).f) (c := pk (twoL n (R 0).f (R 1).f)) hf fun j hj => listN_get hj
            have T2 := two_ok (g := (R 0).f) (c := pk (twoL n (R 0).f (R 0).f)) hf fun j hj => listN_get hj
            have IS : Hid (∀ V S cS, Below w.heap.size w V → IsInts V S n (pk (twoL n (R 0).f (R 1).f)) → Gives Try.prog 33 #[.slice (some ⟨b, off, none⟩) 2 cap, .slice S n cS] V (.bool true)) := fun V S cS h hi => by
              have h1 := risShare_any 2 cap n cS n _ S R _ V (by omega) W (hp.below h) hi
              rw [shareB_iff.2 ⟨rfl, T1.inr⟩] at h1
              exact h1
            have IS2 : Hid (∀ V S cS g, IsTab V (some ⟨g, 0, none⟩) 2 (twin R) → IsInts V S n (pk (twoL n (R 0).f (R 0).f)) → Gives Try.prog 33 #[.slice (some ⟨g, 0, none⟩) 2 2, .slice S n cS] V (.bool true)) := fun V S cS g h hi => by
              have h1 := risShare_any 2 2 n cS n _ S (twin R) _ V (by omega) (twin_vals W) h hi
              rw [shareB_iff.2 ⟨rfl, T2.inr⟩] at h1
              exact h1
            have E1 : Hid (∀ V S cS, Below w.heap.size w V → IsInts V S n (pk (twoL n (R 0).f (R 1).f)) → Gives Try.prog 49 #[.slice (some ⟨b, off, none⟩) 2 cap, .slice S n cS, .int .i64 1, .int .i64 0] V (.bool false)) := fun V S cS h hi => by
              have h1 := renvied_any 2 cap n n cS 1 0 _ S R _ V (by decide) (Nat.le_refl _) W (hp.below h) hi
              have h2 : envT R (pk (twoL n (R 0).f (R 1).f)) n 1 0 = false := by
                unfold envT
                exact decide_eq_false (Int.not_lt.2 T1.env)
              rw [h2] at h1
              exact h1
            have WO : Hid (∀ V S cS, Below w.heap.size w V → IsInts V S n (pk (twoL n (R 0).f (R 1).f)) → Calls Try.prog 24 #[.slice (some ⟨b, off, none⟩) 2 cap, .slice S n cS] V fun e w' => ∃ g cg, e = .returned (.slice (some ⟨g, 0, none⟩) 2 cg) ∧ (∃ x : Later V, w' = x.val) ∧ g < w'.heap.size ∧ w'.cell? ⟨g, 0, none⟩ = some (.int .i64 (wth (R 0).f (pk (twoL n (R 0).f (R 1).f)) 0 n)) ∧ w'.cell? ⟨g, 1, none⟩ = some (.int .i64 (wth (R 1).f (pk (twoL n (R 0).f (R 1).f)) 1 n))) := fun V S cS h hi => worths_two cap n cS _ S R _ V W (hp.below h) hi
            have WO2 : Hid (∀ V S cS g, IsTab V (some ⟨g, 0, none⟩) 2 (twin R) → IsInts V S n (pk (twoL n (R 0).f (R 0).f)) → Calls Try.prog 24 #[.slice (some ⟨g, 0, none⟩) 2 2, .slice S n cS] V fun e w' => ∃ g cg, e = .returned (.slice (some ⟨g, 0, none⟩) 2 cg) ∧ (∃ x : Later V, w' = x.val) ∧ g < w'.heap.size ∧ w'.cell? ⟨g, 0, none⟩ = some (.int .i64 (wth (R 0).f (pk (twoL n (R 0).f (R 0).f)) 0 n)) ∧ w'.cell? ⟨g, 1, none⟩ = some (.int .i64 (wth (R 0).f (pk (twoL n (R 0).f (R 0).f)) 1 n))) := fun V S cS g h hi => worths_two 2 n cS _ S (twin R) _ V (twin_vals W) h hi
            have WO3 : Hid (∀ V S cS g, IsTab V (some ⟨g, 0, none⟩) 2 (twin R) → IsInts V S n (gt G) → Calls Try.prog 24 #[.slice (some ⟨g, 0, none⟩) 2 2, .slice S n cS] V fun e w' => ∃ g cg, e = .returned (.slice (some ⟨g, 0, none⟩) 2 cg) ∧ (∃ x : Later V, w' = x.val) ∧ g < w'.heap.size ∧ w'.cell? ⟨g, 0, none⟩ = some (.int .i64 (wth (R 0).f (gt G) 0 n)) ∧ w'.cell? ⟨g, 1, none⟩ = some (.int .i64 (wth (R 0).f (gt G) 1 n))) := fun V S cS g h hi => worths_two 2 n cS _ S (twin R) _ V (twin_vals W) h hi
            have TT : Hid (∀ U : World, Below w.heap.size w U → IsTab (U.alloc (.cells #[.slice (R 0).a n (R 0).c, .slice (R 0).a n (R 0).c] 23)) (some ⟨U.heap.size, 0, none⟩) 2 (twin R)) := fun U h => twin_tab W (tab_zero (hp.below h) W).2.2.1 (tab_zero (hp.below h) W).2.2.2
            have L1 : Hid ((twoL n (R 0).f (R 1).f).length = n) := listN_length _ _
            have L2 : Hid ((twoL n (R 0).f (R 0).f).length = n) := listN_length _ _
            have m1 := T1.least
            have m2 := T2.same rfl
            have m3 := share_le (f := (R 0).f) GIN.out
            generalize twoL n (R 0).f (R 1).f = TL at *
            generalize twoL n (R 0).f (R 0).f = TM at *
            generalize leastH n (R 0).f = le at *
            generalize wth (R 0).f (pk TL) 0 n = a0 at *
            generalize wth (R 1).f (pk TL) 1 n = a1 at *
            generalize wth (R 0).f (pk TM) 0 n = b0 at *
            generalize wth (R 0).f (pk TM) 1 n = b1 at *
            generalize wth (R 0).f (gt G) 0 n = d0 at *
            generalize wth (R 0).f (gt G) 1 n = d1 at *
            clear hp W hf hrow T1 T2 GIN
            have q2 : decide (a0 < le) = false := by simp; omega
            obtain ⟨lb, lc, _, _⟩ := ROW.out y.val HBY.out
            go_wp2_with (first
              | (go_at_call 45; with_reducible refine Calls.mono (TW.out _ (below_more HBY.out (by repeat (first | exact Below.refl _ _ | (with_reducible assumption) | apply below_later | apply below_alloc | apply below_drew | apply below_drewN)))) ?_; rintro e w1 ⟨v, rfl, z12, rfl, ho⟩; obtain ⟨S3, c3, rfl⟩ := ho.shape_n L1.out; have I3 := Lib.hid (own_pk ho L1.out (by omega)); clear ho; clear lb lc; obtain ⟨lb, lc, _, _⟩ := ROW.out z12.val (below_more HBY.out (by repeat (first | exact Below.refl _ _ | (with_reducible assumption) | apply below_later | apply below_alloc | apply below_drew | apply below_drewN))))
              | (go_at_call 42; with_reducible refine Calls.mono (HA.out _ (below_more HBY.out (by repeat (first | exact Below.refl _ _ | (with_reducible assumption) | apply below_later | apply below_alloc | apply below_drew | apply below_drewN)))) ?_; rintro e w1 ⟨v, rfl, z13, rfl, ho⟩; obtain ⟨S4, c4, rfl⟩ := ho.shape_n (partB_length _ _); clear ho)
              | (go_at_call 33; with_reducible refine Calls.mono (Gives.calls (IS.out _ _ _ (below_more HBY.out (by repeat (first | exact Below.refl _ _ | (with_reducible assumption) | apply below_later | apply below_alloc | apply below_drew | apply below_drewN))) (I3.out.below (by repeat (first | exact Below.refl _ _ | (with_reducible assumption) | apply below_later | apply below_alloc | apply below_drew | apply below_drewN))))) ?_; rintro e w1 ⟨rfl, z14, rfl⟩)
              | (go_at_call 49; with_reducible refine Calls.mono (Gives.calls (E1.out _ _ _ (below_more HBY.out (by repeat (first | exact Below.refl _ _ | (with_reducible assumption) | apply below_later | apply below_alloc | apply below_drew | apply below_drewN))) (I3.out.below (by repeat (first | exact Below.refl _ _ | (with_reducible assumption) | apply below_later | apply below_alloc | apply below_drew | apply below_drewN))))) ?_; rintro e w1 ⟨rfl, z15, rfl⟩)
              | (go_at_call 24; with_reducible refine Calls.mono (WO.out _ _ _ (below_more HBY.out (by repeat (first | exact Below.refl _ _ | (with_reducible assumption) | apply below_later | apply below_alloc | apply below_drew | apply below_drewN))) (I3.out.below (by repeat (first | exact Below.refl _ _ | (with_reducible assumption) | apply below_later | apply below_alloc | apply below_drew | apply below_drewN)))) ?_; rintro e w1 ⟨g4, cg4, rfl, ⟨z16, rfl⟩, k1, k2, k3⟩))
            have HBX : Hid (Below w.heap.size w z16.val) := below_more HBY.out (by repeat (first | exact Below.refl _ _ | (with_reducible assumption) | apply below_later | apply below_alloc | apply below_drew | apply below_drewN))
            have K3 : Hid (IsInts z16.val S2 n (gt G)) := K2.out.below (by repeat (first | exact Below.refl _ _ | (with_reducible assumption) | apply below_later | apply below_alloc | apply below_drew | apply below_drewN))
            clear lb lc k1 k2 k3 I3 K2
            obtain ⟨lb, lc, _, _⟩ := ROW.out z16.val HBX.out
            clear TW HA IS E1 WO
            generalize z16.val = Y at *
            go_cut [17] (fun s17 wx => ∃ g : Nat, s17 = .slice (some ⟨g, 0, none⟩) 2 2 ∧ Below Y.heap.size Y wx ∧ IsTab wx (some ⟨g, 0, none⟩) 2 (twin R))
            case first =>
              go_region
              all_goals
                go_wp2_with fail
                go_meet
                exact ⟨_, rfl, (below_alloc (Below.refl _ _)).drew, (TT.out Y HBX.out).later ⟨_, (Below.refl _ _).drew⟩⟩
            case rest =>
              obtain ⟨g, rfl, hbx, htab⟩ := hcut
              have HBQ := Lib.hid (below_more HBX.out hbx)
              have HTB := Lib.hid htab
              have K4 := Lib.hid (K3.out.below hbx)
              clear hbx htab TT ROW K3 lb lc
              go_wp2_with (first
                | (go_at_call 45; with_reducible refine Calls.mono (TW2.out _ _ HTB.out) ?_; rintro e w1 ⟨v, rfl, z20, rfl, ho⟩; obtain ⟨S5, c5, rfl⟩ := ho.shape_n L2.out; have I5 := Lib.hid (own_pk ho L2.out (by omega)); clear ho)
                | (go_at_call 33; with_reducible refine Calls.mono (Gives.calls (IS2.out _ _ _ _ (HTB.out.below (by repeat (first | exact Below.refl _ _ | (with_reducible assumption) | apply below_later | apply below_alloc | apply below_drew | apply below_drewN))) (I5.out.below (by repeat (first | exact Below.refl _ _ | (with_reducible assumption) | apply below_later | apply below_alloc | apply below_drew | apply below_drewN))))) ?_; rintro e w1 ⟨rfl, z21, rfl⟩)
                | (go_at_call 24; with_reducible refine Calls.mono (WO2.out _ _ _ _ (HTB.out.below (by repeat (first | exact Below.refl _ _ | (with_reducible assumption) | apply below_later | apply below_alloc | apply below_drew | apply below_drewN))) (I5.out.below (by repeat (first | exact Below.refl _ _ | (with_reducible assumption) | apply below_later | apply below_alloc | apply below_drew | apply below_drewN)))) ?_; rintro e w1 ⟨g6, cg6, rfl, ⟨z22, rfl⟩, k1, k2, k3⟩; have N1 := Lib.hid k1; have N2 := Lib.hid k2; have N3 := Lib.hid k3; clear k1 k2 k3)
                | (go_at_call 24; with_reducible refine Calls.mono (WO3.out _ _ _ _ (HTB.out.below (by repeat (first | exact Below.refl _ _ | (with_reducible assumption) | apply below_later | apply below_alloc | apply below_drew | apply below_drewN))) (K4.out.below (by repeat (first | exact Below.refl _ _ | (with_reducible assumption) | apply below_later | apply below_alloc | apply below_drew | apply below_drewN)))) ?_; rintro e w1 ⟨g7, cg7, rfl, ⟨z23, rfl⟩, k4, k5, k6⟩))
              have k1 := z23.lt _ N1.out
              have k2 := (z23.cell _ 0 N1.out).trans N2.out
              have k3 := (z23.cell _ 1 N1.out).trans N3.out
              have q5 : ((if b1 < b0 then b1 else b0) == le) = true := by
                rw [beq_iff_eq]
                split <;> omega
              have q6 : decide ((if d1 < d0 then d1 else d0) ≤ le) = true := by
                apply decide_eq_true
                split <;> omega
              refine wp_region_later (by kernel_rfl) (by kernel_rfl) ?_
              repeat (go_big_quiet_step (((go_at_call 14; (with_reducible refine Later.call _ (FL.out _))))))
              refine wpQuiet_nil ?_
              intro y9
              go_wp2_with fail
              all_goals
                go_ret
                exact ⟨rfl, later_of (below_more HBQ.out (by repeat (first | exact Below.refl _ _ | (with_reducible assumption) | apply below_later | apply below_alloc | apply below_drew | apply below_drewN)))⟩
          · have TW := Lib.hid fun (V : World) (h : Below w.heap.size w V) => Two_arg c cap n A R V (HP.out.below h) HW.out hk2
            have e1 : ((c : Int) != 2) = true := by simp; omega
            go_wp2_with (first
              | (go_at_call 45; with_reducible refine Calls.mono (Gives.calls (TW.out _ (below_more HBY.out (by repeat (first | exact Below.refl _ _ | (with_reducible assumption) | apply below_later | apply below_alloc | apply below_drew | apply below_drewN))))) ?_; rintro e w1 ⟨rfl, z12, rfl⟩)
              | (go_at_call 14; with_reducible refine Calls.mono (Gives.calls (FL.out _)) ?_; rintro e w1 ⟨rfl, z13, rfl⟩))
            go_ret
            exact ⟨rfl, later_of (below_more HBY.out (by repeat (first | exact Below.refl _ _ | (with_reducible assumption) | apply below_later | apply below_alloc | apply below_drew | apply below_drewN)))⟩
end Go.Proofs.Ytjmjafpjfhgfdaa
