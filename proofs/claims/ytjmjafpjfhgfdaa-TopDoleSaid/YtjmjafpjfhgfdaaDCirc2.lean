/- The document's IsCircle: walked. -/
import Derived.Test.YtjmjafpjfhgfdaaDCirc1
namespace Go.Proofs.Ytjmjafpjfhgfdaa
open Go.RowKit

theorem cir_len {E : Nat → Nat → Bool} {k m : Nat} {c : Nat → Int} (h : cirB E k c m = true) : m ≤ k := by
  obtain ⟨hd, hr, _, _⟩ := cir_dif h
  have h1 := nodup_len k ((List.range m).map fun i => (c i).toNat) (fun x hx => by
    obtain ⟨i, hi, e⟩ := List.mem_map.1 hx
    have := hr i (List.mem_range.1 hi)
    omega) (by
    rw [List.nodup_iff_pairwise_ne, List.pairwise_iff_getElem]
    intro i j hi hj hij e
    simp at hi hj
    simp at e
    have h2 := hr i hi
    have h3 := hr j hj
    have := hd i j hi hj (by omega)
    omega)
  simpa using h1
theorem okC_alt (k : Nat) (c : Nat → Int) (i : Nat) : okC k c i = ((inS k (c i) && (decide (i = 0) || decide (c 0 < c i))) && !hasI c i (c i)) := by
  rw [okC_has]
  by_cases e : i = 0
  · subst e
    simp
  · rw [decide_eq_false e, Bool.false_or]
    by_cases h : c 0 < c i
    · rw [decide_eq_true h, decide_eq_true (by omega : c 0 ≤ c i)]
    · rw [decide_eq_false h]
      by_cases h2 : c 0 ≤ c i
      · have h3 : hasI c i (c i) = true := by
          unfold hasI
          rw [allB_false (p := fun j => !decide (c j = c i)) (by omega : 0 < i) (by simp; omega)]
          rfl
        rw [h3]
        simp
      · rw [decide_eq_false h2]
set_option maxRecDepth 100000 in
set_option maxHeartbeats 6400000 in
theorem rIsCircle_any (k cap n m cS l cL : Nat) (A S L : Option Addr) (R : Nat → Row) (s c : Nat → Int) (w : World) (hmn : m ≤ n) (hl : l ≤ 1000) (W : Vals k n R) (hp : IsTab w A k R) (hs : IsInts w S m s) (hc : IsInts w L l c) :
    Gives Try.prog 38 #[.slice A k cap, .slice S m cS, .slice L l cL] w (.bool (cirB (envT R s m) k c l)) := by
  have hk6 := W.k6
  have EV := Lib.hid fun (i j : Nat) (V : World) (hi : i < k) (h : Below w.heap.size w V) => renvied_any k cap n m cS i j A S R s V hi hmn W (hp.below h) (hs.below h)
  have HC := Lib.hid hc
  generalize envT R s m = E at *
  have OK := Lib.hid (okC_alt k c)
  have OI : Hid (∀ i, okC k c i = true → ∃ q : Nat, c i = q ∧ q < k) := fun i => okC_in
  have CB : Hid (cirB E k c l = ((allB l (okC k c) && allB l fun i => E (c i).toNat (c ((i + 1) % l)).toNat) && decide (1 < l))) := rfl
  have CL : Hid (cirB E k c l = true → l ≤ k) := cir_len
  have HH : Hid (∀ i, hasI c i (c i) = !allB i fun j => !decide (c j = c i)) := fun _ => rfl
  generalize cirB E k c l = res at *
  generalize okC k c = O at *
  generalize hasI c = HI at *
  clear hp hs hc W
  by_cases h2 : l < 2
  · have e1 : decide ((l : Int) < 2) = true := by simp; omega
    have HE : Hid (res = false) := by show _ = _; rw [CB.out, decide_eq_false (by omega : ¬ 1 < l), Bool.and_false]
    go_enter Try.func38, Try.ntmps38
    go_wp2
    go_ret
    exact ⟨ret_bool HE.out.symm, later_of (by repeat (first | exact Below.refl _ _ | (with_reducible assumption) | apply below_later | apply below_alloc | apply below_drew | apply below_drewN))⟩
  · have e1 : decide ((l : Int) < 2) = false := by simp; omega
    by_cases h3 : k < l
    · have e2 : decide ((k : Int) < (l : Int)) = true := by simp; omega
      have HE : Hid (res = false) := by
        cases hr : res
        · rfl
        · exact absurd (CL.out hr) (by omega)
      go_enter Try.func38, Try.ntmps38
      go_wp2
      go_ret
      exact ⟨ret_bool HE.out.symm, later_of (by repeat (first | exact Below.refl _ _ | (with_reducible assumption) | apply below_later | apply below_alloc | apply below_drew | apply below_drewN))⟩
    · have e2 : decide ((k : Int) < (l : Int)) = false := by simp; omega
      have CB1 : Hid (res = (allB l O && allB l fun i => E (c i).toNat (c ((i + 1) % l)).toNat)) := by show _ = _; rw [CB.out, decide_eq_true (by omega : 1 < l), Bool.and_true]
      clear CB CL
      go_enter Try.func38, Try.ntmps38
      go_wp2
      go_loopw [7] (fun u wr => ∃ i : Nat, u = .int .i64 (i : Nat) ∧ i ≤ l ∧ (∀ j, j < i → O j = true) ∧ ∃ x : Later w, wr = x.val) (fun u _ => l - (intOf u).toNat)
      case atStart => exact ⟨0, rfl, by omega, by omega, later_of (by repeat (first | exact Below.refl _ _ | (with_reducible assumption) | apply below_later | apply below_alloc | apply below_drew | apply below_drewN))⟩
      case round =>
        obtain ⟨i, rfl, hi, hall, x, rfl⟩ := hrel
        have HALL := Lib.hid hall
        clear hall
        by_cases hlt : i < l
        · have HCX := Lib.hid (HC.out.later x)
          obtain ⟨b, off, hB, p⟩ := HCX.out.at_ (by omega)
          have HBO := Lib.hid hB
          rw [hB]
          have ci := p.at_ i hlt
          have ci0 : x.val.cell? ⟨b, off, none⟩ = some (.int .i64 (c 0)) := p.at_ 0 (by omega)
          have lb := p.lt
          have PA : Hid (∀ j, j < l → x.val.cell? ⟨b, off + j, none⟩ = some (.int .i64 (c j))) := p.at_
          have OKi := Lib.hid (OK.out i)
          have HHi := Lib.hid (HH.out i)
          have FB : Hid (O i = false → res = false) := fun h => by rw [CB1.out, allB_false hlt h]; rfl
          have FT : Hid (O i = true → ∀ j, j < i + 1 → O j = true) := fun h => all_step HALL.out h
          have XV : Hid (∀ V, Below x.val.heap.size x.val V → ∃ y : Later w, V = y.val) := fun V h => ⟨⟨V, below_more x.ok h⟩, rfl⟩
          have hg : decide ((i : Int) < (l : Int)) = true := by simp; omega
          have IN9 : Hid (inS k (c i) = decide (0 ≤ c i ∧ c i < (k : Int))) := rfl
          clear p hB
          generalize HI i (c i) = hh at *
          generalize inS k (c i) = iv at *
          have HCI : Hid (∀ j, decide (c j = c i) = decide (c j = c i)) := fun _ => rfl
          by_cases g1 : c i < 0
          · have e3 : decide (c i < 0) = true := decide_eq_true g1
            have HE := Lib.hid (FB.out (by rw [OKi.out, IN9.out, decide_eq_false (by omega)]; rfl))
            clear g1
            generalize c i = z at *
            go_wp2_with fail
            refine wp_region_later (by kernel_rfl) (by kernel_rfl) ?_
            repeat (go_big_quiet_step ((fail)))
            refine wpQuiet_nil ?_
            intro y
            go_wp2_with fail
            go_ret
            exact ⟨ret_bool HE.out.symm, later_of (by repeat (first | exact Below.refl _ _ | (with_reducible assumption) | apply below_later | apply below_alloc | apply below_drew | apply below_drewN))⟩
          · have e3 : decide (c i < 0) = false := decide_eq_false g1
            by_cases g2 : (k : Int) ≤ c i
            · have e4 : decide ((k : Int) ≤ c i) = true := decide_eq_true g2
              have HE := Lib.hid (FB.out (by rw [OKi.out, IN9.out, decide_eq_false (by omega)]; rfl))
              clear g1 g2
              generalize c i = z at *
              go_wp2_with fail
              refine wp_region_later (by kernel_rfl) (by kernel_rfl) ?_
              repeat (go_big_quiet_step ((fail)))
              refine wpQuiet_nil ?_
              intro y
              go_wp2_with fail
              go_ret
              exact ⟨ret_bool HE.out.symm, later_of (by repeat (first | exact Below.refl _ _ | (with_reducible assumption) | apply below_later | apply below_alloc | apply below_drew | apply below_drewN))⟩
            · have e4 : decide ((k : Int) ≤ c i) = false := decide_eq_false g2
              rw [IN9.out, decide_eq_true (by omega : 0 ≤ c i ∧ c i < (k : Int)), Bool.true_and] at OKi
              clear g1 g2 IN9
              by_cases g3 : 0 < i ∧ c i ≤ c 0
              · have e5 : decide ((0 : Int) < (i : Int)) = true := by simp; omega
                have e5b : decide (0 < i) = true := by simp; omega
                have e6 : decide (c i ≤ c 0) = true := decide_eq_true g3.2
                have HE := Lib.hid (FB.out (by rw [OKi.out, decide_eq_false (by omega : ¬ i = 0), decide_eq_false (by omega : ¬ c 0 < c i)]; rfl))
                clear g3
                generalize c i = z at *
                generalize c 0 = z0 at *
                go_wp2_with fail
                refine wp_region_later (by kernel_rfl) (by kernel_rfl) ?_
                repeat (go_big_quiet_step ((fail)))
                refine wpQuiet_nil ?_
                intro y
                go_wp2_with fail
                go_ret
                exact ⟨ret_bool HE.out.symm, later_of (by repeat (first | exact Below.refl _ _ | (with_reducible assumption) | apply below_later | apply below_alloc | apply below_drew | apply below_drewN))⟩
              · have OK2 : Hid (O i = !hh) := by
                  show _ = _
                  rw [OKi.out]
                  by_cases q : i = 0
                  · rw [decide_eq_true q]; rfl
                  · rw [decide_eq_true (by omega : c 0 < c i), Bool.or_true]; rfl
                have HG3 := Lib.hid g3
                clear OKi
                have G : ∃ W2 : World, True := ⟨w, trivial⟩
                clear G
                by_cases q0 : i = 0
                · have e5 : decide ((0 : Int) < (i : Int)) = false := by simp; omega
                  have e5b : decide (0 < i) = false := by simp; omega
                  have HE := Lib.hid (FT.out (by rw [OK2.out, HHi.out]; subst q0; rfl))
                  subst q0
                  clear g3
                  have ci' : x.val.cell? ⟨b, off, none⟩ = some (.int .i64 (c 0)) := ci0
                  generalize c 0 = z0 at *
                  go_wp2_with fail
                  refine wp_region_later (by kernel_rfl) (by kernel_rfl) ?_
                  repeat (go_big_quiet_step ((fail)))
                  refine wpQuiet_nil ?_
                  intro y
                  go_wp2_with fail
                  go_loopw [8] (fun u wr => ∃ j : Nat, u = .int .i64 (j : Nat) ∧ j ≤ 0 ∧ ∃ z : Later y.val, wr = z.val) (fun u _ => 0 - (intOf u).toNat)
                  case atStart => exact ⟨0, rfl, by omega, later_of (by repeat (first | exact Below.refl _ _ | (with_reducible assumption) | apply below_later | apply below_alloc | apply below_drew | apply below_drewN))⟩
                  case round =>
                    obtain ⟨j, rfl, hj, z, rfl⟩ := hrel
                    obtain rfl : j = 0 := by omega
                    go_wp2_with fail
                    try rw [← HBO.out]
                    first
                      | (refine ⟨⟨0 + 1, by go_num, by omega, HE.out, XV.out _ (by repeat (first | exact Below.refl _ _ | (with_reducible assumption) | apply below_later | apply below_alloc | apply below_drew | apply below_drewN))⟩, ?_⟩; simp [intOf]; omega)
                      | (go_roundw
                         case rel => exact ⟨0 + 1, by go_num, by omega, HE.out, XV.out _ (by repeat (first | exact Below.refl _ _ | (with_reducible assumption) | apply below_later | apply below_alloc | apply below_drew | apply below_drewN))⟩
                         case measure => simp [intOf]; omega)
                · have e5 : decide ((0 : Int) < (i : Int)) = true := by simp; omega
                  have e5b : decide (0 < i) = true := by simp; omega
                  have e6 : decide (c i ≤ c 0) = false := decide_eq_false (by omega)
                  have hz : ∃ z, c i = z := ⟨_, rfl⟩
                  obtain ⟨z, hz⟩ := hz
                  rw [hz] at ci e3 e4 e6 HHi
                  clear g3 hz q0
                  go_wp2_with fail
                  refine wp_region_later (by kernel_rfl) (by kernel_rfl) ?_
                  repeat (go_big_quiet_step ((fail)))
                  refine wpQuiet_nil ?_
                  intro y
                  have PY : Hid (∀ V, Below y.val.heap.size y.val V → b < V.heap.size ∧ ∀ j, j < l → V.cell? ⟨b, off + j, none⟩ = some (.int .i64 (c j))) := fun V h => ⟨Nat.lt_of_lt_of_le (Nat.lt_of_lt_of_le lb y.ok.size) h.size, fun j hj => (h.cell (p := ⟨b, off + j, none⟩) (Nat.lt_of_lt_of_le lb y.ok.size)).trans ((y.cell _ _ lb).trans (PA.out j hj))⟩
                  have HZI : Hid (y.val.cell? ⟨b, off + i, none⟩ = some (.int .i64 z)) := (y.cell _ _ lb).trans ci
                  have lb2 := Nat.lt_of_lt_of_le lb y.ok.size
                  have XY : Hid (∀ V, Below y.val.heap.size y.val V → ∃ y' : Later w, V = y'.val) := fun V h => XV.out V (below_more y.ok h)
                  clear ci ci0 lb
                  generalize y.val = Y at *
                  go_wp2_with fail
                  go_loopw [8] (fun u wr => ∃ j : Nat, u = .int .i64 (j : Nat) ∧ j ≤ i ∧ (∀ q, q < j → (!decide (c q = z)) = true) ∧ ∃ y' : Later Y, wr = y'.val) (fun u _ => i - (intOf u).toNat)
                  case atStart => exact ⟨0, rfl, by omega, by omega, later_of (by repeat (first | exact Below.refl _ _ | (with_reducible assumption) | apply below_later | apply below_alloc | apply below_drew | apply below_drewN))⟩
                  case round =>
                    obtain ⟨j, rfl, hj, hno, y', rfl⟩ := hrel
                    have HNO := Lib.hid hno
                    clear hno
                    by_cases hlt2 : j < i
                    · obtain ⟨lv, pv⟩ := PY.out y'.val y'.ok
                      have cj := pv j (by omega)
                      have ci := (y'.cell _ (off + i) lb2).trans HZI.out
                      have hg4 : decide ((j : Int) < (i : Int)) = true := by simp; omega
                      have FF : Hid ((!decide (c j = z)) = false → hh = true) := fun h => by rw [HHi.out, allB_false (p := fun j => !decide (c j = z)) hlt2 h]; rfl
                      have FS : Hid ((!decide (c j = z)) = true → ∀ q, q < j + 1 → (!decide (c q = z)) = true) := fun h => all_step (p := fun q => !decide (c q = z)) HNO.out h
                      clear pv
                      generalize c j = cj9 at *
                      by_cases e : cj9 = z
                      · have e7 : (cj9 == z) = true := by rw [e]; simp
                        have HE := Lib.hid (FB.out (by rw [OK2.out, FF.out (by simp [e])]; rfl))
                        clear e
                        go_wp2_with fail
                        refine wp_region_later (by kernel_rfl) (by kernel_rfl) ?_
                        repeat (go_big_quiet_step ((fail)))
                        refine wpQuiet_nil ?_
                        intro u
                        go_wp2_with fail
                        go_ret
                        refine ⟨ret_bool HE.out.symm, ?_⟩
                        obtain ⟨q, hq⟩ := XY.out _ (below_more y'.ok u.ok)
                        exact ⟨q, hq⟩
                      · have e7 : (cj9 == z) = false := by simp [e]
                        have HN := Lib.hid (FS.out (by simp [e]))
                        clear e
                        go_wp2_with fail
                        refine wp_region_later (by kernel_rfl) (by kernel_rfl) ?_
                        repeat (go_big_quiet_step ((fail)))
                        refine wpQuiet_nil ?_
                        intro u
                        go_wp2_with fail
                        first
                          | (refine ⟨⟨j + 1, by go_num, by omega, HN.out, later_of (by repeat (first | exact Below.refl _ _ | (with_reducible assumption) | apply below_later | apply below_alloc | apply below_drew | apply below_drewN))⟩, ?_⟩; simp [intOf]; omega)
                          | (go_roundw
                             case rel => exact ⟨j + 1, by go_num, by omega, HN.out, later_of (by repeat (first | exact Below.refl _ _ | (with_reducible assumption) | apply below_later | apply below_alloc | apply below_drew | apply below_drewN))⟩
                             case measure => simp [intOf]; omega)
                    · obtain rfl : j = i := by omega
                      have HE := Lib.hid (FT.out (by rw [OK2.out, HHi.out, allB_true (p := fun j => !decide (c j = z)) HNO.out]; rfl))
                      go_wp2_with fail
                      try rw [← HBO.out]
                      first
                        | (refine ⟨⟨j + 1, by go_num, by omega, HE.out, XY.out _ y'.ok⟩, ?_⟩; simp [intOf]; omega)
                        | (go_roundw
                           case rel => exact ⟨j + 1, by go_num, by omega, HE.out, XY.out _ y'.ok⟩
                           case measure => simp [intOf]; omega)
        · obtain rfl : i = l := by omega
          have CB2 : Hid (res = allB i fun j => E (c j).toNat (c ((j + 1) % i)).toNat) := by show _ = _; rw [CB1.out, allB_true HALL.out, Bool.true_and]
          clear CB1 OK HH
          have HCX := Lib.hid (HC.out.later x)
          have HBX : Hid (Below w.heap.size w x.val) := x.ok
          clear HC
          generalize x.val = X at *
          go_wp2
          go_loopw [9] (fun u wr => ∃ j : Nat, u = .int .i64 (j : Nat) ∧ j ≤ i ∧ (∀ q, q < j → E (c q).toNat (c ((q + 1) % i)).toNat = true) ∧ ∃ y : Later X, wr = y.val) (fun u _ => i - (intOf u).toNat)
          case atStart => exact ⟨0, rfl, by omega, by omega, later_of (by repeat (first | exact Below.refl _ _ | (with_reducible assumption) | apply below_later | apply below_alloc | apply below_drew | apply below_drewN))⟩
          case round =>
            obtain ⟨j, rfl, hj, hall2, y, rfl⟩ := hrel
            have HALL2 := Lib.hid hall2
            clear hall2
            have HBY : Hid (Below w.heap.size w y.val) := below_more HBX.out y.ok
            by_cases hlt2 : j < i
            · obtain ⟨q1, hq1, hk1⟩ := OI.out j (HALL.out j hlt2)
              have hr2 : (j + 1) % i < i := Nat.mod_lt _ (by omega)
              obtain ⟨q2, hq2, hk2⟩ := OI.out _ (HALL.out _ hr2)
              obtain ⟨b, off, hB, p⟩ := (HCX.out.later y).at_ (by omega)
              have HBO := Lib.hid hB
              rw [hB]
              have cj := p.at_ j hlt2
              have cr := p.at_ _ hr2
              have lb := p.lt
              have FB : Hid (E (c j).toNat (c ((j + 1) % i)).toNat = false → res = false) := fun h => by rw [CB2.out, allB_false (p := fun j => E (c j).toNat (c ((j + 1) % i)).toNat) hlt2 h]
              have FT : Hid (E (c j).toNat (c ((j + 1) % i)).toNat = true → ∀ q, q < j + 1 → E (c q).toNat (c ((q + 1) % i)).toNat = true) := fun h => all_step (p := fun j => E (c j).toNat (c ((j + 1) % i)).toNat) HALL2.out h
              have hmod : ((j : Int) + 1) % (i : Int) = (((j + 1) % i : Nat) : Int) := by simp
              have EVj := Lib.hid fun V h => EV.out q1 q2 V hk1 h
              rw [hq1, hq2, Int.toNat_natCast, Int.toNat_natCast] at FB FT
              rw [hq1] at cj
              rw [hq2] at cr
              have YV : Hid (∀ V, Below y.val.heap.size y.val V → ∃ y' : Later X, V = y'.val) := fun V h => ⟨⟨V, below_more y.ok h⟩, rfl⟩
              clear p hB hq1 hq2
              generalize E q1 q2 = ee at *
              generalize (j + 1) % i = r at *
              cases ee
              · have HE := Lib.hid (FB.out rfl)
                go_wp2_with fail
                refine wp_region_later (by kernel_rfl) (by kernel_rfl) ?_
                repeat (go_big_quiet_step ((go_at_call 49; (with_reducible refine Later.call _ (EVj.out _ (below_more HBY.out (by repeat (first | exact Below.refl _ _ | (with_reducible assumption) | apply below_later | apply below_alloc | apply below_drew | apply below_drewN))))))))
                refine wpQuiet_nil ?_
                intro z
                go_wp2_with fail
                go_ret
                exact ⟨ret_bool HE.out.symm, later_of (below_more HBY.out z.ok)⟩
              · have HE := Lib.hid (FT.out rfl)
                go_wp2_with fail
                refine wp_region_later (by kernel_rfl) (by kernel_rfl) ?_
                repeat (go_big_quiet_step ((go_at_call 49; (with_reducible refine Later.call _ (EVj.out _ (below_more HBY.out (by repeat (first | exact Below.refl _ _ | (with_reducible assumption) | apply below_later | apply below_alloc | apply below_drew | apply below_drewN))))))))
                refine wpQuiet_nil ?_
                intro z
                go_wp2_with fail
                try rw [← HBO.out]
                first
                  | (refine ⟨⟨j + 1, by go_num, by omega, HE.out, YV.out _ z.ok⟩, ?_⟩; simp [intOf]; omega)
                  | (go_roundw
                     case rel => exact ⟨j + 1, by go_num, by omega, HE.out, YV.out _ z.ok⟩
                     case measure => simp [intOf]; omega)
            · obtain rfl : j = i := by omega
              have HT : Hid (res = true) := by show _ = _; rw [CB2.out, allB_true (p := fun q => E (c q).toNat (c ((q + 1) % j)).toNat) HALL2.out]
              go_wp2
              go_ret
              exact ⟨ret_bool HT.out.symm, later_of (below_more HBY.out (by repeat (first | exact Below.refl _ _ | (with_reducible assumption) | apply below_later | apply below_alloc | apply below_drew | apply below_drewN)))⟩
end Go.Proofs.Ytjmjafpjfhgfdaa
