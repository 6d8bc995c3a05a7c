/- The law's own Levels: walked. -/
import Derived.Test.YtelfinjnbncnlaaRSill
import Derived.Test.YtelfinjnbncnlaaSettle
namespace Go.Proofs.Ytelfinjnbncnlaa
open Go.RowKit

/-- What Levels keeps: the list that sinks. -/
structure KL (V9 V : World) (g n : Nat) (l : List Int) : Prop where
  below : Below V9.heap.size V9 V
  own : OwnI V V9.heap.size (.slice (some ⟨g, 0, none⟩) n n) l
theorem KL.later {V9 V : World} {g n : Nat} {l : List Int} (h : KL V9 V g n l) (x : Later V) : KL V9 x.val g n l := ⟨below_more h.below x.ok, h.own.later x⟩
theorem KL.put {V9 V : World} {g n : Nat} {l : List Int} (h : KL V9 V g n l) (hl : l.length = n) (i : Nat) (x : Int) : KL V9 (V.setCell ⟨g, i, none⟩ (.int .i64 x)) g n (l.set i x) :=
  ⟨h.below.setCell (p := ⟨g, i, none⟩) (own_lt h.own g rfl).1 _, h.own.set hl i x⟩
theorem sum_all (n : Nat) : wsum (fun _ => 1) 0 (List.replicate n 1000) = 1000 * n := by
  have h : ∀ (n k : Nat), wsum (fun _ => 1) k (List.replicate n 1000) = 1000 * n := by
    intro n
    induction n with
    | zero => intro k; rfl
    | succ n ih => intro k; show 1 * 1000 + wsum (fun _ => 1) (k + 1) (List.replicate n 1000) = _; rw [ih]; omega
  exact h n 0
set_option maxRecDepth 100000 in
set_option maxHeartbeats 3200000 in
theorem rlevels_any (W H n cap m capS b off : Nat) (B : Option Addr) (f a s L : Nat → Int) (w : World) (hW : 1 ≤ W) (hW2 : W ≤ 16) (hH1 : 1 ≤ H) (hH : H ≤ 16) (hn : n = W * H) (p : Ints w b off n f) (hq : IsSlu w B m a s)
    (hf : ∀ i, i < n → 0 ≤ f i ∧ f i ≤ 1000) (ha : ∀ j, j < m → 0 ≤ a j) (hs : ∀ j, j < m → 0 ≤ s j) (hL : IsLevel n (near4 W H) f (slOf m a s) L) (hL0 : ∀ i, i < n → 0 ≤ L i) (hL1 : ∀ i, i < n → L i ≤ 1000) :
    GivesI 32 #[.agg #[.int .i64 W, .int .i64 H, .slice (some ⟨b, off, none⟩) n cap, .slice B m capS]] w ((List.range n).map L) := by
  have hn9 : n ≤ 256 := by rw [hn]; exact Nat.mul_le_mul hW2 hH
  have hn1 : 1 ≤ n := by rw [hn]; exact Nat.mul_le_mul hW hH1
  have MK : ∀ w', (Instr.makeSlice 22 (.int .i64 (n : Int)) (.int .i64 (n : Int))).run Try.prog w' = .ok (.slice (some ⟨w'.heap.size, 0, none⟩) n n) (w'.alloc (.cells (madeCells #[Value.int .i64 0] n) 3)) := fun w' => make_ints w' n (by omega)
  have Hp := Lib.hid p
  have HQ := Lib.hid hq
  have HF := Lib.hid hf
  have HN := Lib.hid hn
  have HLV := Lib.hid hL
  have HL0 := Lib.hid hL0
  have HL1 := Lib.hid hL1
  have HA := Lib.hid ha
  have HS := Lib.hid hs
  have NR : Hid (∀ (w' : World) (i : Nat), i < n → GivesI 33 #[.int .i64 W, .int .i64 H, .int .i64 i] w' (natN (near4 W H i))) := fun w' i hi => rnear_any W H i w' hW hW2 hH (hn ▸ hi)
  have LT : Hid (∀ i j, i < n → j ∈ near4 W H i → j < n) := fun i j hi hj => by rw [hn] at hi ⊢; exact near_lt hj hi
  have SI : Hid (∀ (w' : World) (i : Nat), Below w.heap.size w w' → Gives Try.prog 35 #[.agg #[.int .i64 W, .int .i64 H, .slice (some ⟨b, off, none⟩) n cap, .slice B m capS], .int .i64 i] w' (.int .i64 (sillTo a s i m))) := fun w' i h => rsill_any W H _ B n cap m capS a s i w' (hq.later ⟨w', h⟩)
  clear p hq hf hn hL hL0 hL1 ha hs
  go_enter Try.func32, Try.ntmps32
  go_wp2
  have hb9 : Below w.heap.size w (w.alloc (.cells #[.int .i64 W, .int .i64 H, .slice (some ⟨b, off, none⟩) n cap, .slice B m capS] 25)) := by repeat (first | exact Below.refl _ _ | (with_reducible assumption) | apply below_later | apply below_alloc | apply below_drew | apply below_drewN)
  have lw : w.heap.size < (w.alloc (.cells #[.int .i64 W, .int .i64 H, .slice (some ⟨b, off, none⟩) n cap, .slice B m capS] 25)).heap.size := by simp
  have BX : Hid (∀ V, Below (w.alloc (.cells #[.int .i64 W, .int .i64 H, .slice (some ⟨b, off, none⟩) n cap, .slice B m capS] 25)).heap.size (w.alloc (.cells #[.int .i64 W, .int .i64 H, .slice (some ⟨b, off, none⟩) n cap, .slice B m capS] 25)) V → V.heap[w.heap.size]? = some (.cells #[.int .i64 W, .int .i64 H, .slice (some ⟨b, off, none⟩) n cap, .slice B m capS] 25)) := fun V h =>
    (h.block _ (by simp)).trans (World.alloc_heap_new _ _)
  have kl0 : KL (w.alloc (.cells #[.int .i64 W, .int .i64 H, .slice (some ⟨b, off, none⟩) n cap, .slice B m capS] 25)) ((w.alloc (.cells #[.int .i64 W, .int .i64 H, .slice (some ⟨b, off, none⟩) n cap, .slice B m capS] 25)).alloc (.cells (madeCells #[Value.int .i64 0] n) 3)) (w.heap.size + 1) n (List.replicate n 0) := by
    have h := made_own (w.alloc (.cells #[.int .i64 W, .int .i64 H, .slice (some ⟨b, off, none⟩) n cap, .slice B m capS] 25)) n _ (Nat.le_refl _) (by omega)
    refine ⟨(Below.refl _ _).alloc (Nat.le_refl _) _, ?_⟩
    simpa using h
  obtain ⟨g, hg⟩ : ∃ g, w.heap.size + 1 = g := ⟨_, rfl⟩
  rw [hg] at kl0 ⊢
  have KL0 := Lib.hid kl0
  clear kl0 MK
  have ng : w.heap.size ≠ g := by omega
  have ng' : g ≠ w.heap.size := by omega
  clear hg
  have HB9 := Lib.hid hb9
  clear hb9
  generalize hV9 : w.alloc (.cells #[.int .i64 W, .int .i64 H, .slice (some ⟨b, off, none⟩) n cap, .slice B m capS] 25) = V9 at *
  clear hV9
  generalize V9.alloc (.cells (madeCells #[Value.int .i64 0] n) 3) = V0 at *
  go_loopw [4] (fun u wr => ∃ (k : Nat) (l : List Int), u = .int .i64 k ∧ k ≤ n ∧ KL V9 wr g n l ∧ l.length = n ∧ ∀ j, j < k → l.getD j 0 = 1000) (fun u _ => n - (intOf u).toNat)
  case atStart => exact ⟨0, _, rfl, by omega, KL0.out, by simp, by omega⟩
  case round =>
    obtain ⟨k, l, rfl, hk, kl, hlen, hall⟩ := hrel
    by_cases hlt : k < n
    · have KL1 := Lib.hid kl
      have HLEN := Lib.hid hlen
      have HALL := Lib.hid hall
      obtain ⟨ci, fz⟩ := kl.own.cell hlen hlt
      have fk := fz k
      have lg := (own_lt kl.own g rfl).2
      clear kl hlen hall fz KL0
      go_wp2_with fail
      go_roundw
      case rel => exact ⟨k + 1, _, by go_num, by omega, KL1.out.put HLEN.out k 1000, by rw [List.length_set]; exact HLEN.out, fun j hj => by
        rw [getD_put (by rw [HLEN.out]; exact hlt)]
        by_cases c : j = k
        · rw [if_pos c]
        · rw [if_neg c]; exact HALL.out j (by omega)⟩
      case measure => simp [intOf]; omega
    · obtain rfl : k = n := by omega
      have hl : l = List.replicate k 1000 := list_eq hlen (by simp) fun i hi => by rw [hall i hi]; simp [List.getD_eq_getElem?_getD, hi]
      subst hl
      have SK0 : Hid (Sunk k L (List.replicate k 1000)) := ⟨hlen, fun i hi => by rw [hall i hi]; exact HL1.out i hi, fun i hi => by rw [hall i hi]; omega⟩
      have KL1 := Lib.hid kl
      clear kl hlen hall hlt KL0
      go_wp2_with fail
      go_loopg [5] ((wsum (fun _ => 1) 0 (List.replicate k 1000)).toNat + 1) (fun num mv wr => ∃ (c : Bool) (l : List Int), mv = .bool c ∧ num = (wsum (fun _ => 1) 0 l).toNat + (if c = true then 1 else 0) ∧ KL V9 wr g k l ∧ Sunk k L l ∧ (c = false → ∀ j, j < k → ¬ sinkTo W H f m a s l j < l.getD j 0))
      case atStart => exact ⟨true, _, rfl, rfl, KL1.out, SK0.out, fun h => by cases h⟩
      case round =>
        obtain ⟨c, l, rfl, hnum, kl, sk, hst⟩ := hrel
        have KL2 := Lib.hid kl
        have SK2 := Lib.hid sk
        have HNUM := Lib.hid hnum
        have HST := Lib.hid hst
        clear kl sk hnum hst KL1 SK0
        cases c
        · go_wp2_with fail
          go_ret
          have e : l = (List.range k).map L := list_eq SK2.out.len (by simp) fun i hi => by
            rw [SK2.out.level HN.out HA.out HS.out HLV.out (fun j hj => by have := HST.out trivial j hj; omega) i hi]; simp [List.getD_eq_getElem?_getD, hi]
          rw [← e]
          exact ⟨_, rfl, ⟨_, below_more HB9.out KL2.out.below⟩, rfl, KL2.out.own.mono HB9.out.size⟩
        · go_wp2_with fail
          go_loopw [5, 6] (fun mv u wr => ∃ (c : Bool) (i : Nat) (l' : List Int), mv = .bool c ∧ u = .int .i64 i ∧ i ≤ k ∧ KL V9 wr g k l' ∧ Sunk k L l' ∧ (c = false → l' = l ∧ ∀ j, j < i → ¬ sinkTo W H f m a s l j < l.getD j 0) ∧ (c = true → wsum (fun _ => 1) 0 l' + 1 ≤ wsum (fun _ => 1) 0 l)) (fun _ u _ => k - (intOf u).toNat)
          case atStart => exact ⟨false, 0, l, rfl, rfl, by omega, KL2.out, SK2.out, fun _ => ⟨rfl, fun j hj => by omega⟩, fun h => by cases h⟩
          case round =>
            obtain ⟨c, i, l', rfl, rfl, hi, kl, sk, hst, hmv⟩ := hrel
            have KL3 := Lib.hid kl
            have SK3 := Lib.hid sk
            have HS3 := Lib.hid hst
            have HM3 := Lib.hid hmv
            clear kl sk hst hmv
            by_cases hlt : i < k
            · obtain ⟨nl, hnl⟩ : ∃ nl, (near4 W H i).length = nl := ⟨_, rfl⟩
              have HNL : Hid ((natN (near4 W H i)).length = nl) := by show _ = _; rw [← hnl]; simp [natN]
              have nl4 : nl ≤ 4 := hnl ▸ near_len W H i
              have HNL2 := Lib.hid hnl
              clear hnl
              have M0 := BX.out _ KL3.out.below
              have m0 := cell_of_heap M0 0 _ rfl
              have m1 := cell_of_heap M0 1 _ rfl
              have m2 := cell_of_heap M0 2 _ rfl
              have m3 := cell_of_heap M0 3 _ rfl
              have lM := get_lt M0
              clear M0
              obtain ⟨st, hst⟩ : ∃ st, sillTo a s i m = st := ⟨_, rfl⟩
              have HSV := Lib.hid hst
              have SI2 : Hid (∀ (w' : World), Below w.heap.size w w' → Gives Try.prog 35 #[.agg #[.int .i64 W, .int .i64 H, .slice (some ⟨b, off, none⟩) k cap, .slice B m capS], .int .i64 i] w' (.int .i64 st)) := fun w' h => hst ▸ SI.out w' i h
              clear hst
              have hbw : Below w.heap.size w wr := below_more HB9.out KL3.out.below
              by_cases h0 : 0 ≤ st
              all_goals
                go_wp2_with (first
                  | (go_at_call 35; (first | (with_reducible show Calls _ _ _ (Later.val _) _; with_reducible refine Calls.mono (Later.call _ (SI2.out _ (by repeat (first | exact Below.refl _ _ | (with_reducible assumption) | apply below_later | apply below_alloc | apply below_drew | apply below_drewN)))) ?_) | (with_reducible refine Calls.mono (Gives.calls (SI2.out _ (by repeat (first | exact Below.refl _ _ | (with_reducible assumption) | apply below_later | apply below_alloc | apply below_drew | apply below_drewN)))) ?_)); rintro e w1 ⟨rfl, z1, rfl⟩)
                  | (go_at_call 33; with_reducible refine Calls.mono (GivesI.calls (NR.out _ i hlt)) ?_; rintro e w2 ⟨vn, rfl, yn, rfl, hon⟩; obtain ⟨AN, capN, rfl⟩ := hon.shape_n (n := nl) HNL.out; have HON := Lib.hid hon; clear hon))
                have HON2 := Lib.hid (HON.out.ints (by rw [HNL.out]; omega)).2
                have KL4 := Lib.hid (KL3.out.later ⟨yn.val, by repeat (first | exact Below.refl _ _ | (with_reducible assumption) | apply below_later | apply below_alloc | apply below_drew | apply below_drewN)⟩)
                have hbY : Below w.heap.size w yn.val := by repeat (first | exact Below.refl _ _ | (with_reducible assumption) | apply below_later | apply below_alloc | apply below_drew | apply below_drewN)
                have HBY := Lib.hid hbY
                clear HON
                generalize yn.val = VY at *
                go_loopw [7, 10] (fun v u wr => ∃ q : Nat, v = .int .i64 (lowOf l' (if 0 ≤ st then st else 1000) ((near4 W H i).take q)) ∧ u = .int .i64 q ∧ q ≤ nl ∧ ∃ x : Later VY, wr = x.val) (fun _ u _ => nl - (intOf u).toNat)
                case atStart => exact ⟨0, by first | (rw [if_pos h0]; rfl) | (rw [if_neg (by omega)]; rfl), rfl, by omega, ⟨_, Below.refl _ _⟩, rfl⟩
                case round =>
                  obtain ⟨q, rfl, rfl, hq, x, rfl⟩ := hrel
                  by_cases hql : q < nl
                  · obtain ⟨gb, gf, hAN, pN⟩ := (HON2.out.later x).at_ (by omega)
                    subst hAN
                    have cN := pN.at_ q hql
                    have lN := pN.lt
                    obtain ⟨j, hj⟩ : ∃ j, (near4 W H i)[q]? = some j := ⟨_, List.getElem?_eq_getElem (by rw [HNL2.out]; exact hql)⟩
                    have ej : (natN (near4 W H i)).getD q 0 = (j : Int) := by rw [List.getD_eq_getElem?_getD, natN, List.getElem?_map, hj]; rfl
                    rw [ej] at cN
                    have hjn : j < k := LT.out i j hlt (List.mem_of_getElem? hj)
                    have KL5 := Lib.hid (KL4.out.later x)
                    obtain ⟨cj, _⟩ := KL5.out.own.cell SK3.out.len hjn
                    have lg := (own_lt KL5.out.own g rfl).2
                    have E : Hid (lowOf l' (if 0 ≤ st then st else 1000) ((near4 W H i).take (q + 1)) = min (lowOf l' (if 0 ≤ st then st else 1000) ((near4 W H i).take q)) (l'.getD j 0)) := by
                      show _ = _
                      rw [List.take_add_one, hj, Option.toList_some]
                      unfold lowOf
                      rw [List.foldl_append]; rfl
                    generalize lowOf l' (if 0 ≤ st then st else 1000) ((near4 W H i).take q) = z1 at *
                    generalize l'.getD j 0 = z2 at *
                    obtain ⟨z3, hz3⟩ : ∃ z3, lowOf l' (if 0 ≤ st then st else 1000) ((near4 W H i).take (q + 1)) = z3 := ⟨_, rfl⟩
                    rw [hz3] at E
                    have HZ3 := Lib.hid hz3
                    clear hz3 pN ej hj
                    go_wp2_with fail
                    go_roundw
                    case rel => exact ⟨q + 1, by rw [HZ3.out, E.out], by go_num, by omega, later_of (by repeat (first | exact Below.refl _ _ | (with_reducible assumption) | apply below_later | apply below_alloc | apply below_drew | apply below_drewN))⟩
                    case measure => simp [intOf]; omega
                  · obtain rfl : q = nl := by omega
                    have KL5 := Lib.hid (KL4.out.later x)
                    have M0 := BX.out _ KL5.out.below
                    have m2 := cell_of_heap M0 2 _ rfl
                    have lM := get_lt M0
                    have hp5 := Hp.out.later ⟨x.val, below_more HBY.out x.ok⟩
                    have ci := hp5.at_ i hlt
                    have lb := hp5.lt
                    obtain ⟨co, fo⟩ := KL5.out.own.cell SK3.out.len hlt
                    have foi := fo i
                    have lg := (own_lt KL5.out.own g rfl).2
                    have E : Hid (sinkTo W H f m a s l' i = max (f i) (lowOf l' (if 0 ≤ st then st else 1000) ((near4 W H i).take q))) := by
                      show _ = _
                      rw [List.take_of_length_le (by rw [HNL2.out]; exact Nat.le_refl _)]
                      unfold sinkTo
                      rw [HSV.out]
                    generalize lowOf l' (if 0 ≤ st then st else 1000) ((near4 W H i).take q) = z1 at *
                    obtain ⟨z2, hz2⟩ : ∃ z2, l'.getD i 0 = z2 := ⟨_, rfl⟩
                    rw [hz2] at co
                    have HZ2 := Lib.hid hz2
                    clear hz2 hp5 M0 fo
                    by_cases hsk : max (f i) z1 < z2
                    · have SK4 := Lib.hid (SK3.out.step HN.out HA.out HS.out HLV.out HL1.out hlt (by rw [E.out, HZ2.out]; exact hsk))
                      have d1 : decide (max (f i) z1 < z2) = true := decide_eq_true hsk
                      have HSK := Lib.hid hsk
                      clear hsk
                      go_wp2_with fail
                      go_roundw
                      case rel =>
                        refine ⟨true, i + 1, l'.set i (max (f i) z1), rfl, by go_num, by omega, KL5.out.put SK3.out.len i _, by rw [← E.out]; exact SK4.out, fun h => (by cases h), fun _ => ?_⟩
                        rw [wsum_set _ _ _ _ _ (by rw [SK3.out.len]; exact hlt), HZ2.out]
                        have := HSK.out
                        cases c
                        · rw [(HS3.out rfl).1] at *
                          omega
                        · have := HM3.out rfl
                          omega
                      case measure => simp [intOf]; omega
                    · have d1 : decide (max (f i) z1 < z2) = false := decide_eq_false hsk
                      have HSK := Lib.hid hsk
                      clear hsk
                      go_wp2_with fail
                      go_roundw
                      case rel =>
                        refine ⟨c, i + 1, l', rfl, by go_num, by omega, KL5.out, SK3.out, fun h => ?_, HM3.out⟩
                        obtain ⟨e1, e2⟩ := HS3.out h
                        refine ⟨e1, fun j hj => ?_⟩
                        rcases Nat.lt_or_ge j i with h1 | h1
                        · have := e2 j h1; omega
                        · obtain rfl : j = i := by omega
                          rw [← e1, E.out, HZ2.out]; have := HSK.out; omega
                      case measure => simp [intOf]; omega
            · obtain rfl : i = k := by omega
              go_wp2_with fail
              go_roundg ((wsum (fun _ => 1) 0 l').toNat + (if c = true then 1 else 0))
              case measure =>
                have a := HNUM.out
                have ph := wsum_nonneg (p := fun _ => 1) (fun _ => by decide) l' 0 fun j hj => by
                  have := SK3.out.ge j (by rw [← SK3.out.len]; exact hj)
                  have := HL0.out j (by rw [← SK3.out.len]; exact hj)
                  omega
                simp only [if_true] at a
                cases c
                · rw [(HS3.out rfl).1]; simp; omega
                · have := HM3.out rfl
                  simp; omega
              case rel =>
                refine ⟨c, l', rfl, rfl, KL3.out, SK3.out, fun h j hj => ?_⟩
                obtain ⟨e1, e2⟩ := HS3.out h
                rw [e1]; exact e2 j hj
end Go.Proofs.Ytelfinjnbncnlaa
