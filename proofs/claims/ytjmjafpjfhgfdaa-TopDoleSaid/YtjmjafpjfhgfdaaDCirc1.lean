/- dole's isCircle, slices.Contains, the document's has: walked. -/
import Derived.Test.YtjmjafpjfhgfdaaDEnvy
import Derived.Test.YtjmjafpjfhgfdaaDCircM
namespace Go.Proofs.Ytjmjafpjfhgfdaa
open Go.RowKit

/-- Is a number in a list? -/
def hasI (c : Nat → Int) (m : Nat) (x : Int) : Bool := !allB m fun j => !decide (c j = x)
set_option maxRecDepth 100000 in
set_option maxHeartbeats 1600000 in
theorem index_any (m cap : Nat) (A : Option Addr) (c : Nat → Int) (x : Int) (w : World) (hm : m ≤ 1000) (hp : IsInts w A m c) :
    Calls Try.prog 82 #[.slice A m cap, .int .i64 x] w fun e w' => ∃ r : Int, e = .returned (.int .i64 r) ∧ (∃ y : Later w, w' = y.val) ∧ (0 ≤ r ↔ hasI c m x = true) ∧ -1 ≤ r ∧ r ≤ m := by
  have HP := Lib.hid hp
  have HH : Hid (hasI c m x = !allB m fun j => !decide (c j = x)) := rfl
  generalize hasI c m x = res at *
  clear hp
  go_enter Try.func82, Try.ntmps82
  go_wp2
  go_loopw [8] (fun u wr => ∃ k : Nat, k ≤ m ∧ u = .int .i64 k ∧ (∀ j, j < k → (!decide (c j = x)) = true) ∧ ∃ y : Later w, wr = y.val) (fun u _ => m - (intOf u).toNat)
  case atStart => exact ⟨0, by omega, rfl, by omega, later_of (by repeat (first | exact Below.refl _ _ | (with_reducible assumption) | apply below_later | apply below_alloc | apply below_drew | apply below_drewN))⟩
  case round =>
    obtain ⟨k, hk, rfl, hall, y, rfl⟩ := hrel
    have HALL := Lib.hid hall
    clear hall
    by_cases hlt : k < m
    · obtain ⟨b, off, hB, q⟩ := (HP.out.later y).at_ (by omega)
      subst hB
      have ck := q.at_ k hlt
      have lb := q.lt
      clear q
      have FT : Hid ((!decide (c k = x)) = true → ∀ j, j < k + 1 → (!decide (c j = x)) = true) := fun h => all_step (p := fun j => !decide (c j = x)) HALL.out h
      have FF : Hid ((!decide (c k = x)) = false → res = true) := fun h => by rw [HH.out, allB_false (p := fun j => !decide (c j = x)) hlt h]; rfl
      generalize c k = z at *
      by_cases e : z = x
      · have e1 : (x == z) = true := by rw [e]; simp
        have HT := Lib.hid (FF.out (by simp [e]))
        clear e
        go_wp2
        go_ret
        exact ⟨(k : Int), rfl, later_of (by repeat (first | exact Below.refl _ _ | (with_reducible assumption) | apply below_later | apply below_alloc | apply below_drew | apply below_drewN)), ⟨fun _ => HT.out, fun _ => by omega⟩, by omega, by omega⟩
      · have e1 : (x == z) = false := by simp; exact fun h => e h.symm
        have HN := Lib.hid (FT.out (by simp [e]))
        clear e
        go_wp2
        go_roundw
        case rel => exact ⟨k + 1, by omega, by go_num, HN.out, later_of (by repeat (first | exact Below.refl _ _ | (with_reducible assumption) | apply below_later | apply below_alloc | apply below_drew | apply below_drewN))⟩
        case measure => simp [intOf]; omega
    · obtain rfl : k = m := by omega
      have HT : Hid (res = false) := by show _ = _; rw [HH.out, allB_true (p := fun j => !decide (c j = x)) HALL.out]; rfl
      go_wp2
      go_ret
      exact ⟨(-1 : Int), rfl, later_of (by repeat (first | exact Below.refl _ _ | (with_reducible assumption) | apply below_later | apply below_alloc | apply below_drew | apply below_drewN)), ⟨fun h => by omega, fun h => by rw [HT.out] at h; cases h⟩, by omega, by omega⟩
theorem contains_any (m cap : Nat) (A : Option Addr) (c : Nat → Int) (x : Int) (w : World) (hm : m ≤ 1000) (hp : IsInts w A m c) :
    Gives Try.prog 77 #[.slice A m cap, .int .i64 x] w (.bool (hasI c m x)) := by
  have HI := Lib.hid (index_any m cap A c x w hm hp)
  clear hp
  generalize hasI c m x = r at *
  go_enter Try.func77, Try.ntmps77
  go_wp2_with (go_at_call 82; refine Calls.mono HI.out ?_; rintro e w1 ⟨q, rfl, ⟨y, rfl⟩, hq, hq1, hq2⟩; have HQ := Lib.hid hq)
  go_ret
  refine ⟨ret_bool ?_, later_of (by repeat (first | exact Below.refl _ _ | (with_reducible assumption) | apply below_later | apply below_alloc | apply below_drew | apply below_drewN))⟩
  have := HQ.out
  cases r <;> simp_all
set_option maxRecDepth 100000 in
set_option maxHeartbeats 1600000 in
theorem rhas_any (m cap : Nat) (A : Option Addr) (c : Nat → Int) (x : Int) (w : World) (hm : m ≤ 1000) (hp : IsInts w A m c) :
    Gives Try.prog 79 #[.slice A m cap, .int .i64 x] w (.bool (hasI c m x)) := by
  have HP := Lib.hid hp
  have HH : Hid (hasI c m x = !allB m fun j => !decide (c j = x)) := rfl
  generalize hasI c m x = res at *
  clear hp
  go_enter Try.func79, Try.ntmps79
  go_wp2
  go_loopw [5] (fun u wr => ∃ k : Nat, k ≤ m ∧ u = .int .i64 k ∧ (∀ j, j < k → (!decide (c j = x)) = true) ∧ ∃ y : Later w, wr = y.val) (fun u _ => m - (intOf u).toNat)
  case atStart => exact ⟨0, by omega, rfl, by omega, later_of (by repeat (first | exact Below.refl _ _ | (with_reducible assumption) | apply below_later | apply below_alloc | apply below_drew | apply below_drewN))⟩
  case round =>
    obtain ⟨k, hk, rfl, hall, y, rfl⟩ := hrel
    have HALL := Lib.hid hall
    clear hall
    by_cases hlt : k < m
    · obtain ⟨b, off, hB, q⟩ := (HP.out.later y).at_ (by omega)
      subst hB
      have ck := q.at_ k hlt
      have lb := q.lt
      clear q
      have FT : Hid ((!decide (c k = x)) = true → ∀ j, j < k + 1 → (!decide (c j = x)) = true) := fun h => all_step (p := fun j => !decide (c j = x)) HALL.out h
      have FF : Hid ((!decide (c k = x)) = false → res = true) := fun h => by rw [HH.out, allB_false (p := fun j => !decide (c j = x)) hlt h]; rfl
      generalize c k = z at *
      by_cases e : z = x
      · have e1 : (z == x) = true := by rw [e]; simp
        have HT := Lib.hid (FF.out (by simp [e]))
        clear e
        go_wp2
        go_ret
        exact ⟨ret_bool HT.out.symm, later_of (by repeat (first | exact Below.refl _ _ | (with_reducible assumption) | apply below_later | apply below_alloc | apply below_drew | apply below_drewN))⟩
      · have e1 : (z == x) = false := by simp [e]
        have HN := Lib.hid (FT.out (by simp [e]))
        clear e
        go_wp2
        go_roundw
        case rel => exact ⟨k + 1, by omega, by go_num, HN.out, later_of (by repeat (first | exact Below.refl _ _ | (with_reducible assumption) | apply below_later | apply below_alloc | apply below_drew | apply below_drewN))⟩
        case measure => simp [intOf]; omega
    · obtain rfl : k = m := by omega
      have HT : Hid (res = false) := by show _ = _; rw [HH.out, allB_true (p := fun j => !decide (c j = x)) HALL.out]; rfl
      go_wp2
      go_ret
      exact ⟨ret_bool HT.out.symm, later_of (by repeat (first | exact Below.refl _ _ | (with_reducible assumption) | apply below_later | apply below_alloc | apply below_drew | apply below_drewN))⟩
theorem okC_has (k : Nat) (c : Nat → Int) (i : Nat) : okC k c i = ((inS k (c i) && decide (c 0 ≤ c i)) && !hasI c i (c i)) := by
  unfold okC hasI
  rw [Bool.not_not]
theorem okC_in {k : Nat} {c : Nat → Int} {i : Nat} (h : okC k c i = true) : ∃ q : Nat, c i = q ∧ q < k := by
  unfold okC at h
  simp only [Bool.and_eq_true] at h
  exact inS_true h.1.1
set_option maxRecDepth 100000 in
set_option maxHeartbeats 6400000 in
theorem isCircle_any (k cap n m cS l cL : Nat) (A S L : Option Addr) (R : Nat → Row) (s c : Nat → Int) (w : World) (hmn : m ≤ n) (hl : l ≤ 1000) (hcL : l ≤ cL) (W : Vals k n R) (hp : IsTab w A k R) (hs : IsInts w S m s) (hc : IsInts w L l c) :
    Gives Try.prog 61 #[.agg #[.slice A k cap, .slice S m cS], .slice L l cL] w (.bool (cirB (envT R s m) k c l)) := by
  have hk6 := W.k6
  have hb : Below w.heap.size w (w.alloc (.cells #[.slice A k cap, .slice S m cS] 62)) := (Below.refl _ _).alloc (Nat.le_refl _) _
  obtain ⟨c0, c1, l0⟩ := box2 w (.slice A k cap) (.slice S m cS) 62
  have HB := Lib.hid hb
  have EV := Lib.hid fun (i j : Nat) (V : World) (hi : i < k) (h : Below w.heap.size w V) => envies_any k cap n m cS i j A S R s V hi hmn W (hp.below h) (hs.below h)
  have IC := Lib.hid fun (x : Int) (V : World) => isCommoner_any k cap A x V
  have CO := Lib.hid fun (i : Nat) (V : World) (hi : i ≤ l) (h : IsInts V L i c) => contains_any i cL L c (c i) V (by omega) h
  have HC := Lib.hid (hc.below hb)
  generalize envT R s m = E at *
  have OK := Lib.hid (okC_has k c)
  have OI : Hid (∀ i, okC k c i = true → ∃ q : Nat, c i = q ∧ q < k) := fun i => okC_in
  have CB : Hid (cirB E k c l = ((allB l (okC k c) && allB l fun i => E (c i).toNat (c ((i + 1) % l)).toNat) && decide (1 < l))) := rfl
  generalize cirB E k c l = res at *
  generalize okC k c = O at *
  clear hp hs hc hb W
  go_enter Try.func61, Try.ntmps61
  go_wp2
  obtain ⟨b8, hb8⟩ : ∃ b8, w.heap.size = b8 := ⟨_, rfl⟩
  rw [hb8] at c0 c1 l0 ⊢
  clear hb8
  generalize w.alloc (.cells #[.slice A k cap, .slice S m cS] 62) = Z at *
  go_loopw [11] (fun u wr => ∃ i : Nat, u = .int .i64 (i : Nat) ∧ i ≤ l ∧ (∀ j, j < i → O j = true) ∧ ∃ x : Later Z, wr = x.val) (fun u _ => l - (intOf u).toNat)
  case atStart => exact ⟨0, rfl, by omega, by omega, later_of (by repeat (first | exact Below.refl _ _ | (with_reducible assumption) | apply below_later | apply below_alloc | apply below_drew | apply below_drewN))⟩
  case round =>
    obtain ⟨i, rfl, hi, hall, x, rfl⟩ := hrel
    have HALL := Lib.hid hall
    clear hall
    have d0 := (x.cell _ 0 l0).trans c0
    have d1 := (x.cell _ 1 l0).trans c1
    have d2 := x.lt _ l0
    have HBX : Hid (Below w.heap.size w x.val) := below_more HB.out x.ok
    by_cases hlt : i < l
    · have HCX := Lib.hid (HC.out.later x)
      obtain ⟨b, off, hB, p⟩ := HCX.out.at_ (by omega)
      have HBO := Lib.hid hB
      have ci := p.at_ i hlt
      have ci0 : x.val.cell? ⟨b, off, none⟩ = some (.int .i64 (c 0)) := p.at_ 0 (by omega)
      have lb := p.lt
      have IC1 := Lib.hid fun V => IC.out (c i) V
      have CO1 := Lib.hid fun V h => CO.out i V hi h
      have OKi := Lib.hid (OK.out i)
      have FB : Hid (O i = false → res = false) := fun h => by rw [CB.out, allB_false hlt h]; simp
      have FT : Hid (O i = true → ∀ j, j < i + 1 → O j = true) := fun h => all_step HALL.out h
      have XV : Hid (∀ V, Below x.val.heap.size x.val V → ∃ y : Later Z, V = y.val) := fun V h => ⟨⟨V, below_more x.ok h⟩, rfl⟩
      have HTK : Hid (∀ V, Below x.val.heap.size x.val V → IsInts V (some ⟨b, off, none⟩) i c) := fun V h => hB ▸ (HCX.out.below h).take hi
      have CV : Hid (∀ V, Below x.val.heap.size x.val V → V.cell? ⟨b, off, none⟩ = some (.int .i64 (c 0)) ∧ b < V.heap.size) := fun V h => ⟨(h.cell (p := ⟨b, off, none⟩) lb).trans ci0, Nat.lt_of_lt_of_le lb h.size⟩
      rw [hB] at CO1 ⊢
      clear p hB
      generalize hasI c i (c i) = hh at *
      cases hin : inS k (c i)
      · rw [hin] at IC1 OKi
        have HE := Lib.hid (FB.out (by rw [OKi.out]; rfl))
        clear hin
        generalize c i = ci9 at *
        go_wp2_with (go_at_call 71; with_reducible refine Calls.mono (Gives.calls (IC1.out _)) ?_; rintro e w1 ⟨rfl, y, rfl⟩)
        go_ret
        exact ⟨ret_bool HE.out.symm, later_of (below_more HBX.out (by repeat (first | exact Below.refl _ _ | (with_reducible assumption) | apply below_later | apply below_alloc | apply below_drew | apply below_drewN)))⟩
      · rw [hin] at IC1 OKi
        clear hin
        by_cases h0 : c i < c 0
        · have e1 : decide (c i < c 0) = true := decide_eq_true h0
          have HE := Lib.hid (FB.out (by rw [OKi.out, decide_eq_false (by omega : ¬ c 0 ≤ c i)]; rfl))
          clear h0
          generalize c i = ci9 at *
          generalize c 0 = c09 at *
          go_wp2_with ((go_at_call 71; with_reducible refine Calls.mono (Gives.calls (IC1.out _)) ?_; rintro e w1 ⟨rfl, y, rfl⟩); obtain ⟨k1, k2⟩ := CV.out y.val (by repeat (first | exact Below.refl _ _ | (with_reducible assumption) | apply below_later | apply below_alloc | apply below_drew | apply below_drewN)))
          go_ret
          exact ⟨ret_bool HE.out.symm, later_of (below_more HBX.out (by repeat (first | exact Below.refl _ _ | (with_reducible assumption) | apply below_later | apply below_alloc | apply below_drew | apply below_drewN)))⟩
        · have e1 : decide (c i < c 0) = false := decide_eq_false h0
          have e2 : decide (c 0 ≤ c i) = true := decide_eq_true (by omega)
          rw [e2] at OKi
          clear h0 e2
          generalize c i = ci9 at *
          generalize c 0 = c09 at *
          cases hh
          · have HE := Lib.hid (FT.out (by rw [OKi.out]; rfl))
            go_wp2_with (first
              | ((go_at_call 71; with_reducible refine Calls.mono (Gives.calls (IC1.out _)) ?_; rintro e w1 ⟨rfl, y, rfl⟩); obtain ⟨k1, k2⟩ := CV.out y.val (by repeat (first | exact Below.refl _ _ | (with_reducible assumption) | apply below_later | apply below_alloc | apply below_drew | apply below_drewN)))
              | (go_at_call 77; with_reducible refine Calls.mono (Gives.calls (CO1.out _ (HTK.out _ (by repeat (first | exact Below.refl _ _ | (with_reducible assumption) | apply below_later | apply below_alloc | apply below_drew | apply below_drewN))))) ?_; rintro e w1 ⟨rfl, y2, rfl⟩))
            try rw [← HBO.out]
            first
              | (refine ⟨⟨i + 1, by go_num, by omega, HE.out, XV.out _ (by repeat (first | exact Below.refl _ _ | (with_reducible assumption) | apply below_later | apply below_alloc | apply below_drew | apply below_drewN))⟩, ?_⟩; simp [intOf]; omega)
              | (go_roundw
                 case rel => exact ⟨i + 1, by go_num, by omega, HE.out, XV.out _ (by repeat (first | exact Below.refl _ _ | (with_reducible assumption) | apply below_later | apply below_alloc | apply below_drew | apply below_drewN))⟩
                 case measure => simp [intOf]; omega)
          · have HE := Lib.hid (FB.out (by rw [OKi.out]; rfl))
            go_wp2_with (first
              | ((go_at_call 71; with_reducible refine Calls.mono (Gives.calls (IC1.out _)) ?_; rintro e w1 ⟨rfl, y, rfl⟩); obtain ⟨k1, k2⟩ := CV.out y.val (by repeat (first | exact Below.refl _ _ | (with_reducible assumption) | apply below_later | apply below_alloc | apply below_drew | apply below_drewN)))
              | (go_at_call 77; with_reducible refine Calls.mono (Gives.calls (CO1.out _ (HTK.out _ (by repeat (first | exact Below.refl _ _ | (with_reducible assumption) | apply below_later | apply below_alloc | apply below_drew | apply below_drewN))))) ?_; rintro e w1 ⟨rfl, y2, rfl⟩))
            go_ret
            exact ⟨ret_bool HE.out.symm, later_of (below_more HBX.out (by repeat (first | exact Below.refl _ _ | (with_reducible assumption) | apply below_later | apply below_alloc | apply below_drew | apply below_drewN)))⟩
    · obtain rfl : i = l := by omega
      have CB2 : Hid (res = ((allB i fun j => E (c j).toNat (c ((j + 1) % i)).toNat) && decide (1 < i))) := by show _ = _; rw [CB.out, allB_true HALL.out, Bool.true_and]
      clear CB OK IC CO
      have HCX := Lib.hid (HC.out.later x)
      clear HC c0 c1 l0
      generalize x.val = X at *
      go_wp2
      go_loopw [38] (fun u wr => ∃ j : Nat, u = .int .i64 (j : Nat) ∧ j ≤ i ∧ (∀ q, q < j → E (c q).toNat (c ((q + 1) % i)).toNat = true) ∧ ∃ y : Later X, wr = y.val) (fun u _ => i - (intOf u).toNat)
      case atStart => exact ⟨0, rfl, by omega, by omega, later_of (by repeat (first | exact Below.refl _ _ | (with_reducible assumption) | apply below_later | apply below_alloc | apply below_drew | apply below_drewN))⟩
      case round =>
        obtain ⟨j, rfl, hj, hall2, y, rfl⟩ := hrel
        have HALL2 := Lib.hid hall2
        clear hall2
        have f0 := (y.cell _ 0 d2).trans d0
        have f1 := (y.cell _ 1 d2).trans d1
        have f2 := y.lt _ d2
        have HBY : Hid (Below w.heap.size w y.val) := below_more HBX.out y.ok
        by_cases hlt2 : j < i
        · obtain ⟨q1, hq1, hk1⟩ := OI.out j (HALL.out j hlt2)
          have hr2 : (j + 1) % i < i := Nat.mod_lt _ (by omega)
          obtain ⟨q2, hq2, hk2⟩ := OI.out _ (HALL.out _ hr2)
          obtain ⟨b, off, hB, p⟩ := (HCX.out.later y).at_ (by omega)
          have HBO := Lib.hid hB
          rw [hB]
          have cj := p.at_ j hlt2
          have cr := p.at_ _ hr2
          have lb := p.lt
          have FB : Hid (E (c j).toNat (c ((j + 1) % i)).toNat = false → res = false) := fun h => by rw [CB2.out, allB_false (p := fun j => E (c j).toNat (c ((j + 1) % i)).toNat) hlt2 h]; rfl
          have FT : Hid (E (c j).toNat (c ((j + 1) % i)).toNat = true → ∀ q, q < j + 1 → E (c q).toNat (c ((q + 1) % i)).toNat = true) := fun h => all_step (p := fun j => E (c j).toNat (c ((j + 1) % i)).toNat) HALL2.out h
          have hmod : ((j : Int) + 1) % (i : Int) = (((j + 1) % i : Nat) : Int) := by simp
          have EVj := Lib.hid fun V h => EV.out q1 q2 V hk1 h
          rw [hq1, hq2, Int.toNat_natCast, Int.toNat_natCast] at FB FT
          rw [hq1] at cj
          rw [hq2] at cr
          have YV : Hid (∀ V, Below y.val.heap.size y.val V → ∃ y' : Later X, V = y'.val) := fun V h => ⟨⟨V, below_more y.ok h⟩, rfl⟩
          clear p hB hq1 hq2
          generalize E q1 q2 = ee at *
          generalize (j + 1) % i = r at *
          cases ee
          · have HE := Lib.hid (FB.out rfl)
            go_wp2_with fail
            refine wp_region_later (by kernel_rfl) (by kernel_rfl) ?_
            repeat (go_big_quiet_step ((go_at_call 57; (with_reducible refine Later.call _ (EVj.out _ (below_more HBY.out (by repeat (first | exact Below.refl _ _ | (with_reducible assumption) | apply below_later | apply below_alloc | apply below_drew | apply below_drewN))))))))
            refine wpQuiet_nil ?_
            intro z
            go_wp2_with fail
            go_ret
            exact ⟨ret_bool HE.out.symm, later_of (below_more HBY.out z.ok)⟩
          · have HE := Lib.hid (FT.out rfl)
            go_wp2_with fail
            refine wp_region_later (by kernel_rfl) (by kernel_rfl) ?_
            repeat (go_big_quiet_step ((go_at_call 57; (with_reducible refine Later.call _ (EVj.out _ (below_more HBY.out (by repeat (first | exact Below.refl _ _ | (with_reducible assumption) | apply below_later | apply below_alloc | apply below_drew | apply below_drewN))))))))
            refine wpQuiet_nil ?_
            intro z
            go_wp2_with fail
            try rw [← HBO.out]
            first
              | (refine ⟨⟨j + 1, by go_num, by omega, HE.out, YV.out _ z.ok⟩, ?_⟩; simp [intOf]; omega)
              | (go_roundw
                 case rel => exact ⟨j + 1, by go_num, by omega, HE.out, YV.out _ z.ok⟩
                 case measure => simp [intOf]; omega)
        · obtain rfl : j = i := by omega
          have HT : Hid (res = decide (1 < j)) := by show _ = _; rw [CB2.out, allB_true (p := fun q => E (c q).toNat (c ((q + 1) % j)).toNat) HALL2.out, Bool.true_and]
          by_cases h1 : 1 < j
          all_goals
            go_wp2
            go_ret
            exact ⟨ret_bool (by rw [HT.out]; simp; try omega), later_of (below_more HBY.out (by repeat (first | exact Below.refl _ _ | (with_reducible assumption) | apply below_later | apply below_alloc | apply below_drew | apply below_drewN)))⟩
end Go.Proofs.Ytjmjafpjfhgfdaa
