/- dole's Two and the document's Two: walked. -/
import Derived.Test.YtjmjafpjfhgfdaaDRHalf
namespace Go.Proofs.Ytjmjafpjfhgfdaa
open Go.RowKit

/-- Which part the second one takes. -/
def tookN (n s : Nat) (f : Nat → Int) : Nat := if ptN f (bitN n s) 1 n < ptN f (bitN n s) 0 n then 0 else 1
def twoI (n s t : Nat) (j : Nat) : Int := if bitN n s j = t then 1 else 0
def twoL (n : Nat) (f g : Nat → Int) : List Int := listN (twoI n (setH n f) (tookN n (setH n f) g)) n
set_option maxRecDepth 100000 in
theorem Two_bad (k cap : Nat) (A : Option Addr) (R : Nat → Row) (w : World) (hp : IsTab w A k R) (h : tabB k R = false) :
    Gives Try.prog 45 #[.slice A k cap] w (.tuple #[.slice none 0 0, .int .i64 70]) := by
  have VA := Lib.hid fun (V : World) (hb : Below w.heap.size w V) => h ▸ valid_any k cap A R V (hp.below hb)
  clear hp h
  go_enter Try.func45, Try.ntmps45
  go_wp2_with (go_at_call 20; with_reducible refine Calls.mono (Gives.calls (VA.out _ (by repeat (first | exact Below.refl _ _ | (with_reducible assumption) | apply below_later | apply below_alloc | apply below_drew | apply below_drewN)))) ?_; rintro e w1 ⟨rfl, z, rfl⟩)
  go_ret2
  exact ⟨rfl, later_of (by repeat (first | exact Below.refl _ _ | (with_reducible assumption) | apply below_later | apply below_alloc | apply below_drew | apply below_drewN))⟩
set_option maxRecDepth 100000 in
theorem Two_arg (k cap n : Nat) (A : Option Addr) (R : Nat → Row) (w : World) (hp : IsTab w A k R) (W : Vals k n R) (h : k ≠ 2) :
    Gives Try.prog 45 #[.slice A k cap] w (.tuple #[.slice none 0 0, .int .i64 2]) := by
  have VA := Lib.hid fun (V : World) (hb : Below w.heap.size w V) => valsT W ▸ valid_any k cap A R V (hp.below hb)
  have e1 : ((k : Int) != 2) = true := by simp; omega
  clear hp h W
  go_enter Try.func45, Try.ntmps45
  go_wp2_with (go_at_call 20; with_reducible refine Calls.mono (Gives.calls (VA.out _ (by repeat (first | exact Below.refl _ _ | (with_reducible assumption) | apply below_later | apply below_alloc | apply below_drew | apply below_drewN)))) ?_; rintro e w1 ⟨rfl, z, rfl⟩)
  go_ret2
  exact ⟨rfl, later_of (by repeat (first | exact Below.refl _ _ | (with_reducible assumption) | apply below_later | apply below_alloc | apply below_drew | apply below_drewN))⟩
set_option maxRecDepth 100000 in
set_option maxHeartbeats 3200000 in
theorem Two_ok (cap n : Nat) (A : Option Addr) (R : Nat → Row) (w : World) (hp : IsTab w A 2 R) (W : Vals 2 n R) :
    Calls Try.prog 45 #[.slice A 2 cap] w (PostIE w (twoL n (R 0).f (R 1).f) 0) := by
  have hn12 := W.n12
  have VA := Lib.hid fun (V : World) (hb : Below w.heap.size w V) => valsT W ▸ valid_any 2 cap A R V (hp.below hb)
  obtain ⟨b, off, rfl⟩ := hp.addr (by decide)
  have HD := Lib.hid fun (V : World) (hb : Below w.heap.size w V) => tab_head0 (hp.below hb) W
  have HD1 := Lib.hid fun (V : World) (hb : Below w.heap.size w V) => tab_head (hp.below hb) W (i := 1) (by decide)
  have HA : Hid (∀ V B c, Below w.heap.size w V → IsInts V B n (R 0).f → Gives Try.prog 66 #[.slice B n c] V (.tuple #[.int .i64 (setH n (R 0).f : Nat), .int .i64 (leastH n (R 0).f)])) := fun V B c hb hI => halve_any n c B _ V hn12 (W.val 0 (by decide)) hI
  have SL := Lib.hid (setH_le (f := (R 0).f) hn12)
  have PA := Lib.hid fun (V : World) (B : Option Addr) (c : Nat) (hI : IsInts V B n (R 1).f) => parts_any n c (setH n (R 0).f) B (R 1).f V hn12 SL.out (W.val 1 (by decide)) hI
  have SD := Lib.hid fun (j : Nat) (V : World) (hj : j < n) => side_any (setH n (R 0).f) j n V hn12 hj SL.out
  have BT := Lib.hid fun j => bit_lt n (setH n (R 0).f) j
  have MK : ∀ w', (Instr.makeSlice 23 (.int .i64 (n : Int)) (.int .i64 (n : Int))).run Try.prog w' = .ok (.slice (some ⟨w'.heap.size, 0, none⟩) n n) (w'.alloc (.cells (madeCells #[Value.int .i64 0] n) 3)) := fun w' => make_ints w' n (by omega)
  have TK : Hid (tookN n (setH n (R 0).f) (R 1).f = if ptN (R 1).f (bitN n (setH n (R 0).f)) 1 n < ptN (R 1).f (bitN n (setH n (R 0).f)) 0 n then 0 else 1) := rfl
  have TL : Hid (∀ l : List Int, l.length = n → (∀ j, j < n → l.getD j 0 = if bitN n (setH n (R 0).f) j = tookN n (setH n (R 0).f) (R 1).f then 1 else 0) → l = twoL n (R 0).f (R 1).f) := fun l h1 h2 => list_all h1 h2
  generalize twoL n (R 0).f (R 1).f = res at *
  generalize tookN n (setH n (R 0).f) (R 1).f = tk at *
  generalize ptN (R 1).f (bitN n (setH n (R 0).f)) 1 n = q1 at *
  generalize ptN (R 1).f (bitN n (setH n (R 0).f)) 0 n = q0 at *
  generalize bitN n (setH n (R 0).f) = bt at *
  generalize setH n (R 0).f = s at *
  generalize leastH n (R 0).f = le at *
  clear hp W
  by_cases hq : q1 < q0
  · have HTK : Hid (tk = 0) := by show _ = _; rw [TK.out, if_pos hq]
    go_enter Try.func45, Try.ntmps45
    go_wp2_with (first
      | ((go_at_call 20; with_reducible refine Calls.mono (Gives.calls (VA.out _ (by repeat (first | exact Below.refl _ _ | (with_reducible assumption) | apply below_later | apply below_alloc | apply below_drew | apply below_drewN)))) ?_; rintro e w1 ⟨rfl, z, rfl⟩); obtain ⟨B, la, ca, hI⟩ := HD.out z.val z.ok; have HI := Lib.hid hI; clear hI)
      | ((go_at_call 66; with_reducible refine Calls.mono (Gives.calls (HA.out _ _ _ (by repeat (first | exact Below.refl _ _ | (with_reducible assumption) | apply below_later | apply below_alloc | apply below_drew | apply below_drewN)) HI.out)) ?_; rintro e w1 ⟨rfl, z2, rfl⟩); obtain ⟨B1, la1, ca1, hI1⟩ := HD1.out z2.val (by repeat (first | exact Below.refl _ _ | (with_reducible assumption) | apply below_later | apply below_alloc | apply below_drew | apply below_drewN)); have HI1 := Lib.hid hI1; clear hI1; obtain ⟨B2, la2, ca2, _⟩ := HD.out z2.val (by repeat (first | exact Below.refl _ _ | (with_reducible assumption) | apply below_later | apply below_alloc | apply below_drew | apply below_drewN)))
      | ((go_at_call 68; with_reducible refine Calls.mono (Gives.calls (PA.out _ _ _ HI1.out)) ?_; rintro e w1 ⟨rfl, z3, rfl⟩); obtain ⟨B3, la3, ca3, _⟩ := HD.out z3.val (by repeat (first | exact Below.refl _ _ | (with_reducible assumption) | apply below_later | apply below_alloc | apply below_drew | apply below_drewN))))
    have hbz : Below w.heap.size w (z3.val.alloc (.cells #[.int .i64 q0, .int .i64 q1] 44)) := below_alloc (by repeat (first | exact Below.refl _ _ | (with_reducible assumption) | apply below_later | apply below_alloc | apply below_drew | apply below_drewN))
    have hzz : (z3.val.alloc (.cells #[.int .i64 q0, .int .i64 q1] 44)).heap.size = z3.val.heap.size + 1 := by simp
    generalize z3.val.alloc (.cells #[.int .i64 q0, .int .i64 q1] 44) = Z3 at *
    have hzs := hbz.size
    have HM := Lib.hid (made_own Z3 n w.heap.size hzs (by omega))
    have HB1 : Hid (Below w.heap.size w (Z3.alloc (.cells (madeCells #[Value.int .i64 0] n) 3))) := hbz.alloc hzs _
    obtain ⟨go, hgo⟩ : ∃ go, z3.val.heap.size + 1 = go := ⟨_, rfl⟩
    rw [hgo] at hzz
    have HG : Hid (w.heap.size ≤ go) := by rw [← hzz]; exact hzs
    rw [hzz] at HM
    rw [hgo]
    clear hgo hzz hzs hbz MK la ca la1 ca1 la2 ca2 la3 ca3
    generalize Z3.alloc (.cells (madeCells #[Value.int .i64 0] n) 3) = Z at *
    go_loopw [40] (fun u wr => ∃ (i : Nat) (l : List Int), u = .int .i64 (i : Nat) ∧ i ≤ n ∧ l.length = n ∧ Below w.heap.size w wr ∧ OwnI wr w.heap.size (.slice (some ⟨go, 0, none⟩) n n) l ∧ (∀ j, j < i → l.getD j 0 = if bt j = 0 then 1 else 0) ∧ ∀ j, i ≤ j → j < n → l.getD j 0 = 0) (fun u _ => n - (intOf u).toNat)
    case atStart => exact ⟨0, _, rfl, by omega, by simp, HB1.out, HM.out, by omega, fun j _ hj => getD_rep hj⟩
    case round =>
      obtain ⟨i, l, rfl, hi, hl, hbl, ho, hall, hrest⟩ := hrel
      clear HM HB1
      have HL := Lib.hid hl
      have HBL := Lib.hid hbl
      have HO := Lib.hid ho
      have HALL := Lib.hid hall
      have HREST := Lib.hid hrest
      clear hl hbl ho hall hrest
      by_cases hlt : i < n
      · have o5 := (own_lt HO.out go rfl).2
        have SD1 := Lib.hid fun V => SD.out i V hlt
        have HO2 : Hid (∀ V, Below wr.heap.size wr V → OwnI V w.heap.size (.slice (some ⟨go, 0, none⟩) n n) l ∧ V.cell? ⟨go, i, none⟩ = some (.int .i64 (l.getD i 0)) ∧ V.frozen? ⟨go, i, none⟩ = false ∧ go < V.heap.size) := fun V h => by
          have hv := HO.out.later ⟨V, h⟩
          exact ⟨hv, (hv.cell HL.out hlt).1, (hv.cell HL.out hlt).2 i, (own_lt hv go rfl).2⟩
        have HWV : Hid (∀ V, Below wr.heap.size wr V → Below w.heap.size w V) := fun V h => below_more HBL.out h
        obtain ⟨x, hx⟩ : ∃ x, x = bt i := ⟨_, rfl⟩
        have HX := Lib.hid hx
        rw [← hx] at SD1
        have hbt : x = 0 ∨ x = 1 := by rw [hx]; exact BT.out i
        clear hx
        rcases hbt with e | e
        all_goals
          subst e
          go_wp2_with ((go_at_call 67; with_reducible refine Calls.mono (Gives.calls (SD1.out _)) ?_; rintro e w1 ⟨rfl, z, rfl⟩); obtain ⟨q1, q0, q2, q3⟩ := HO2.out z.val (by repeat (first | exact Below.refl _ _ | (with_reducible assumption) | apply below_later | apply below_alloc | apply below_drew | apply below_drewN)); have Q1 := Lib.hid q1; have Q2 : Hid (Below w.heap.size w z.val) := HWV.out z.val (by repeat (first | exact Below.refl _ _ | (with_reducible assumption) | apply below_later | apply below_alloc | apply below_drew | apply below_drewN)); clear q1)
          first
            | (refine ⟨⟨i + 1, l, by go_num, by omega, HL.out, Q2.out, Q1.out, fun j hj => ?_, fun j h1 h2 => HREST.out j (by omega) h2⟩, ?_⟩
               · by_cases e : j = i
                 · rw [e, HREST.out i (Nat.le_refl _) hlt, ← HX.out]; rfl
                 · exact HALL.out j (by omega)
               · simp [intOf]; omega)
            | (refine ⟨⟨i + 1, l.set i 1, by go_num, by omega, by rw [List.length_set]; exact HL.out, Q2.out.setCell (p := ⟨go, i, none⟩) HG.out _, Q1.out.set HL.out i _, fun j hj => ?_, fun j h1 h2 => ?_⟩, ?_⟩
               · rw [getD_setI (by rw [HL.out]; exact hlt)]
                 split
                 · rename_i e; rw [e, ← HX.out]; rfl
                 · exact HALL.out j (by omega)
               · rw [getD_setI (by rw [HL.out]; exact hlt), if_neg (by omega)]
                 exact HREST.out j (by omega) h2
               · simp [intOf]; omega)
            | (go_roundw
               case rel => exact ⟨i + 1, l, by go_num, by omega, HL.out, Q2.out, Q1.out, fun j hj => by
                 by_cases e : j = i
                 · rw [e, HREST.out i (Nat.le_refl _) hlt, ← HX.out]; rfl
                 · exact HALL.out j (by omega), fun j h1 h2 => HREST.out j (by omega) h2⟩
               case measure => simp [intOf]; omega)
            | (go_roundw
               case rel => exact ⟨i + 1, l.set i 1, by go_num, by omega, by rw [List.length_set]; exact HL.out, Q2.out.setCell (p := ⟨go, i, none⟩) HG.out _, Q1.out.set HL.out i _, fun j hj => by
                 rw [getD_setI (by rw [HL.out]; exact hlt)]
                 split
                 · rename_i e; rw [e, ← HX.out]; rfl
                 · exact HALL.out j (by omega), fun j h1 h2 => by
                 rw [getD_setI (by rw [HL.out]; exact hlt), if_neg (by omega)]
                 exact HREST.out j (by omega) h2⟩
               case measure => simp [intOf]; omega)
      · obtain rfl : i = n := by omega
        have HF := Lib.hid (TL.out l HL.out fun j hj => HTK.out ▸ HALL.out j hj)
        go_wp2
        go_ret2
        exact ⟨_, rfl, ⟨_, HBL.out⟩, rfl, by
          show OwnI _ _ _ _
          rw [← HF.out]
          exact HO.out⟩
  · have HTK : Hid (tk = 1) := by show _ = _; rw [TK.out, if_neg hq]
    go_enter Try.func45, Try.ntmps45
    go_wp2_with (first
      | ((go_at_call 20; with_reducible refine Calls.mono (Gives.calls (VA.out _ (by repeat (first | exact Below.refl _ _ | (with_reducible assumption) | apply below_later | apply below_alloc | apply below_drew | apply below_drewN)))) ?_; rintro e w1 ⟨rfl, z, rfl⟩); obtain ⟨B, la, ca, hI⟩ := HD.out z.val z.ok; have HI := Lib.hid hI; clear hI)
      | ((go_at_call 66; with_reducible refine Calls.mono (Gives.calls (HA.out _ _ _ (by repeat (first | exact Below.refl _ _ | (with_reducible assumption) | apply below_later | apply below_alloc | apply below_drew | apply below_drewN)) HI.out)) ?_; rintro e w1 ⟨rfl, z2, rfl⟩); obtain ⟨B1, la1, ca1, hI1⟩ := HD1.out z2.val (by repeat (first | exact Below.refl _ _ | (with_reducible assumption) | apply below_later | apply below_alloc | apply below_drew | apply below_drewN)); have HI1 := Lib.hid hI1; clear hI1; obtain ⟨B2, la2, ca2, _⟩ := HD.out z2.val (by repeat (first | exact Below.refl _ _ | (with_reducible assumption) | apply below_later | apply below_alloc | apply below_drew | apply below_drewN)))
      | ((go_at_call 68; with_reducible refine Calls.mono (Gives.calls (PA.out _ _ _ HI1.out)) ?_; rintro e w1 ⟨rfl, z3, rfl⟩); obtain ⟨B3, la3, ca3, _⟩ := HD.out z3.val (by repeat (first | exact Below.refl _ _ | (with_reducible assumption) | apply below_later | apply below_alloc | apply below_drew | apply below_drewN))))
    have hbz : Below w.heap.size w (z3.val.alloc (.cells #[.int .i64 q0, .int .i64 q1] 44)) := below_alloc (by repeat (first | exact Below.refl _ _ | (with_reducible assumption) | apply below_later | apply below_alloc | apply below_drew | apply below_drewN))
    have hzz : (z3.val.alloc (.cells #[.int .i64 q0, .int .i64 q1] 44)).heap.size = z3.val.heap.size + 1 := by simp
    generalize z3.val.alloc (.cells #[.int .i64 q0, .int .i64 q1] 44) = Z3 at *
    have hzs := hbz.size
    have HM := Lib.hid (made_own Z3 n w.heap.size hzs (by omega))
    have HB1 : Hid (Below w.heap.size w (Z3.alloc (.cells (madeCells #[Value.int .i64 0] n) 3))) := hbz.alloc hzs _
    obtain ⟨go, hgo⟩ : ∃ go, z3.val.heap.size + 1 = go := ⟨_, rfl⟩
    rw [hgo] at hzz
    have HG : Hid (w.heap.size ≤ go) := by rw [← hzz]; exact hzs
    rw [hzz] at HM
    rw [hgo]
    clear hgo hzz hzs hbz MK la ca la1 ca1 la2 ca2 la3 ca3
    generalize Z3.alloc (.cells (madeCells #[Value.int .i64 0] n) 3) = Z at *
    go_loopw [40] (fun u wr => ∃ (i : Nat) (l : List Int), u = .int .i64 (i : Nat) ∧ i ≤ n ∧ l.length = n ∧ Below w.heap.size w wr ∧ OwnI wr w.heap.size (.slice (some ⟨go, 0, none⟩) n n) l ∧ (∀ j, j < i → l.getD j 0 = if bt j = 1 then 1 else 0) ∧ ∀ j, i ≤ j → j < n → l.getD j 0 = 0) (fun u _ => n - (intOf u).toNat)
    case atStart => exact ⟨0, _, rfl, by omega, by simp, HB1.out, HM.out, by omega, fun j _ hj => getD_rep hj⟩
    case round =>
      obtain ⟨i, l, rfl, hi, hl, hbl, ho, hall, hrest⟩ := hrel
      clear HM HB1
      have HL := Lib.hid hl
      have HBL := Lib.hid hbl
      have HO := Lib.hid ho
      have HALL := Lib.hid hall
      have HREST := Lib.hid hrest
      clear hl hbl ho hall hrest
      by_cases hlt : i < n
      · have o5 := (own_lt HO.out go rfl).2
        have SD1 := Lib.hid fun V => SD.out i V hlt
        have HO2 : Hid (∀ V, Below wr.heap.size wr V → OwnI V w.heap.size (.slice (some ⟨go, 0, none⟩) n n) l ∧ V.cell? ⟨go, i, none⟩ = some (.int .i64 (l.getD i 0)) ∧ V.frozen? ⟨go, i, none⟩ = false ∧ go < V.heap.size) := fun V h => by
          have hv := HO.out.later ⟨V, h⟩
          exact ⟨hv, (hv.cell HL.out hlt).1, (hv.cell HL.out hlt).2 i, (own_lt hv go rfl).2⟩
        have HWV : Hid (∀ V, Below wr.heap.size wr V → Below w.heap.size w V) := fun V h => below_more HBL.out h
        obtain ⟨x, hx⟩ : ∃ x, x = bt i := ⟨_, rfl⟩
        have HX := Lib.hid hx
        rw [← hx] at SD1
        have hbt : x = 0 ∨ x = 1 := by rw [hx]; exact BT.out i
        clear hx
        rcases hbt with e | e
        all_goals
          subst e
          go_wp2_with ((go_at_call 67; with_reducible refine Calls.mono (Gives.calls (SD1.out _)) ?_; rintro e w1 ⟨rfl, z, rfl⟩); obtain ⟨q1, q0, q2, q3⟩ := HO2.out z.val (by repeat (first | exact Below.refl _ _ | (with_reducible assumption) | apply below_later | apply below_alloc | apply below_drew | apply below_drewN)); have Q1 := Lib.hid q1; have Q2 : Hid (Below w.heap.size w z.val) := HWV.out z.val (by repeat (first | exact Below.refl _ _ | (with_reducible assumption) | apply below_later | apply below_alloc | apply below_drew | apply below_drewN)); clear q1)
          first
            | (refine ⟨⟨i + 1, l, by go_num, by omega, HL.out, Q2.out, Q1.out, fun j hj => ?_, fun j h1 h2 => HREST.out j (by omega) h2⟩, ?_⟩
               · by_cases e : j = i
                 · rw [e, HREST.out i (Nat.le_refl _) hlt, ← HX.out]; rfl
                 · exact HALL.out j (by omega)
               · simp [intOf]; omega)
            | (refine ⟨⟨i + 1, l.set i 1, by go_num, by omega, by rw [List.length_set]; exact HL.out, Q2.out.setCell (p := ⟨go, i, none⟩) HG.out _, Q1.out.set HL.out i _, fun j hj => ?_, fun j h1 h2 => ?_⟩, ?_⟩
               · rw [getD_setI (by rw [HL.out]; exact hlt)]
                 split
                 · rename_i e; rw [e, ← HX.out]; rfl
                 · exact HALL.out j (by omega)
               · rw [getD_setI (by rw [HL.out]; exact hlt), if_neg (by omega)]
                 exact HREST.out j (by omega) h2
               · simp [intOf]; omega)
            | (go_roundw
               case rel => exact ⟨i + 1, l, by go_num, by omega, HL.out, Q2.out, Q1.out, fun j hj => by
                 by_cases e : j = i
                 · rw [e, HREST.out i (Nat.le_refl _) hlt, ← HX.out]; rfl
                 · exact HALL.out j (by omega), fun j h1 h2 => HREST.out j (by omega) h2⟩
               case measure => simp [intOf]; omega)
            | (go_roundw
               case rel => exact ⟨i + 1, l.set i 1, by go_num, by omega, by rw [List.length_set]; exact HL.out, Q2.out.setCell (p := ⟨go, i, none⟩) HG.out _, Q1.out.set HL.out i _, fun j hj => by
                 rw [getD_setI (by rw [HL.out]; exact hlt)]
                 split
                 · rename_i e; rw [e, ← HX.out]; rfl
                 · exact HALL.out j (by omega), fun j h1 h2 => by
                 rw [getD_setI (by rw [HL.out]; exact hlt), if_neg (by omega)]
                 exact HREST.out j (by omega) h2⟩
               case measure => simp [intOf]; omega)
      · obtain rfl : i = n := by omega
        have HF := Lib.hid (TL.out l HL.out fun j hj => HTK.out ▸ HALL.out j hj)
        go_wp2
        go_ret2
        exact ⟨_, rfl, ⟨_, HBL.out⟩, rfl, by
          show OwnI _ _ _ _
          rw [← HF.out]
          exact HO.out⟩
/-- Bools in memory. -/
structure IsBls (w : World) (A : Option Addr) (n : Nat) (l : List Bool) : Prop where
  at_ : 0 < n → ∃ g, A = some ⟨g, 0, none⟩ ∧ g < w.heap.size ∧ ∀ i, i < n → w.cell? ⟨g, i, none⟩ = some (.bool (l.getD i true))
theorem IsBls.below {w V : World} {A : Option Addr} {n : Nat} {l : List Bool} (h : IsBls w A n l) (hb : Below w.heap.size w V) : IsBls V A n l :=
  ⟨fun h0 => let ⟨g, e, hg, hp⟩ := h.at_ h0; ⟨g, e, Nat.lt_of_lt_of_le hg hb.size, fun i hi => (hb.cell (p := ⟨g, i, none⟩) hg).trans (hp i hi)⟩⟩
theorem OwnBl.bls {w : World} {base n c : Nat} {A : Option Addr} {l : List Bool} (h : OwnBl w base (.slice A n c) l) (hn : l.length = n) : IsBls w A n l := by
  refine ⟨fun h0 => ?_⟩
  rcases h.2 with ⟨e, h1⟩ | ⟨g, cap, cur, e, hb, hh, _⟩
  · omega
  · simp only [Value.slice.injEq] at e
    obtain ⟨rfl, _, rfl⟩ := e
    exact ⟨g, rfl, get_lt hh, fun i hi => (h.cell hn hi).1⟩
theorem took_le (n s : Nat) (f : Nat → Int) : tookN n s f = 0 ∨ tookN n s f = 1 := by
  unfold tookN
  split <;> simp
set_option maxRecDepth 100000 in
set_option maxHeartbeats 6400000 in
theorem rTwo_any (cap n : Nat) (A : Option Addr) (R : Nat → Row) (w : World) (hp : IsTab w A 2 R) (W : Vals 2 n R) :
    GivesI 46 #[.slice A 2 cap] w (twoL n (R 0).f (R 1).f) := by
  have hn12 := W.n12
  obtain ⟨b, off, rfl⟩ := hp.addr (by decide)
  obtain ⟨B, la, ca, hI⟩ := tab_head0 hp W
  have CE := Lib.hid fun (V : World) (hb : Below w.heap.size w V) (j : Nat) (hj : j < n) => tab_cell (hp.below hb) W (i := 1) (by decide) hj
  have HA : Hid (∀ V c, Below w.heap.size w V → Calls Try.prog 44 #[.slice B n c] V fun e w' => ∃ v, e = .returned (.tuple #[v, .int .i64 (leastH n (R 0).f)]) ∧ ∃ y : Later V, w' = y.val ∧ OwnBl w' V.heap.size v (partB n (setH n (R 0).f))) := fun V c hb => rHalves_any n c B _ V hn12 (W.val 0 (by decide)) (hI.below hb)
  have BT := Lib.hid fun j => bit_lt n (setH n (R 0).f) j
  have LP := Lib.hid (partB_length n (setH n (R 0).f))
  have PG := Lib.hid fun j (hj : j < n) => partB_get (s := setH n (R 0).f) hj
  have MK : ∀ w', (Instr.makeSlice 23 (.int .i64 (n : Int)) (.int .i64 (n : Int))).run Try.prog w' = .ok (.slice (some ⟨w'.heap.size, 0, none⟩) n n) (w'.alloc (.cells (madeCells #[Value.int .i64 0] n) 3)) := fun w' => make_ints w' n (by omega)
  have TK : Hid (tookN n (setH n (R 0).f) (R 1).f = if ptN (R 1).f (bitN n (setH n (R 0).f)) 1 n < ptN (R 1).f (bitN n (setH n (R 0).f)) 0 n then 0 else 1) := rfl
  have TL : Hid (∀ l : List Int, l.length = n → (∀ j, j < n → l.getD j 0 = if bitN n (setH n (R 0).f) j = tookN n (setH n (R 0).f) (R 1).f then 1 else 0) → l = twoL n (R 0).f (R 1).f) := fun l h1 h2 => list_all h1 h2
  have S0 := Lib.hid fun j => ptN_succ (R 1).f (bitN n (setH n (R 0).f)) 0 j
  have S1 := Lib.hid fun j => ptN_succ (R 1).f (bitN n (setH n (R 0).f)) 1 j
  have Z0 : Hid (ptN (R 1).f (bitN n (setH n (R 0).f)) 0 0 = 0 ∧ ptN (R 1).f (bitN n (setH n (R 0).f)) 1 0 = 0) := ⟨rfl, rfl⟩
  have B0 := Lib.hid fun j (h : j ≤ n) => ptN_bd (f := (R 1).f) (b := bitN n (setH n (R 0).f)) (x := 0) (m := j) fun i hi => W.val 1 (by decide) i (by omega)
  have B1 := Lib.hid fun j (h : j ≤ n) => ptN_bd (f := (R 1).f) (b := bitN n (setH n (R 0).f)) (x := 1) (m := j) fun i hi => W.val 1 (by decide) i (by omega)
  have HV := Lib.hid (W.val 1 (by decide))
  generalize twoL n (R 0).f (R 1).f = res at *
  generalize tookN n (setH n (R 0).f) (R 1).f = tk at *
  generalize ptN (R 1).f (bitN n (setH n (R 0).f)) 1 = T1 at *
  generalize ptN (R 1).f (bitN n (setH n (R 0).f)) 0 = T0 at *
  generalize partB n (setH n (R 0).f) = pl at *
  generalize bitN n (setH n (R 0).f) = bt at *
  generalize leastH n (R 0).f = le at *
  generalize (R 1).f = f at *
  generalize (R 1).c = rc at *
  clear hp W hI
  go_enter Try.func46, Try.ntmps46
  go_wp2_with (go_at_call 44; with_reducible refine Calls.mono (HA.out _ _ (by repeat (first | exact Below.refl _ _ | (with_reducible assumption) | apply below_later | apply below_alloc | apply below_drew | apply below_drewN))) ?_; rintro e w1 ⟨v, rfl, z, rfl, ho⟩; obtain ⟨P, cP, rfl⟩ := ho.shape_n LP.out; have IB := Lib.hid (ho.bls LP.out); clear ho)
  have HBZ : Hid (Below w.heap.size w z.val) := z.ok
  clear la ca HA
  generalize z.val = Z at *
  go_loopw [5, 6, 7] (fun u5 u6 v wr => ∃ i : Nat, u5 = .int .i64 (T1 i) ∧ u6 = .int .i64 (T0 i) ∧ v = .int .i64 (i : Nat) ∧ i ≤ n ∧ ∃ x : Later Z, wr = x.val) (fun _ _ v _ => n - (intOf v).toNat)
  case atStart => exact ⟨0, by rw [Z0.out.2], by rw [Z0.out.1], rfl, by omega, later_of (by repeat (first | exact Below.refl _ _ | (with_reducible assumption) | apply below_later | apply below_alloc | apply below_drew | apply below_drewN))⟩
  case round =>
    obtain ⟨i, rfl, rfl, rfl, hi, x, rfl⟩ := hrel
    have HBX : Hid (Below w.heap.size w x.val) := below_more HBZ.out x.ok
    obtain ⟨t0, t1⟩ := B0.out i (by omega)
    obtain ⟨t2, t3⟩ := B1.out i (by omega)
    by_cases hlt : i < n
    · obtain ⟨g, hP, lg, pg⟩ := (IB.out.below x.ok).at_ (by omega)
      have HPO := Lib.hid hP
      rw [hP]
      have cg := pg i hlt
      rw [PG.out i hlt] at cg
      obtain ⟨br, br', la, ca, lr, cr⟩ := CE.out x.val HBX.out i hlt
      obtain ⟨v0, v1⟩ := HV.out i hlt
      have S0j := Lib.hid (S0.out i)
      have S1j := Lib.hid (S1.out i)
      have hbt := BT.out i
      clear pg hP
      generalize f i = y at *
      generalize T0 i = a0 at *
      generalize T1 i = a1 at *
      rcases hbt with e | e
      · have N0 : Hid (T0 (i + 1) = a0 + y) := by show _ = _; rw [S0j.out, if_pos e]
        have N1 : Hid (T1 (i + 1) = a1) := by show _ = _; rw [S1j.out, if_neg (by omega)]
        have cg' : x.val.cell? ⟨g, i, none⟩ = some (.bool false) := by rw [cg, e]; rfl
        clear cg e
        go_wp2_with fail
        try rw [← HPO.out]
        first
          | (refine ⟨⟨i + 1, by rw [N1.out], by rw [N0.out], by go_num, by omega, later_of (by repeat (first | exact Below.refl _ _ | (with_reducible assumption) | apply below_later | apply below_alloc | apply below_drew | apply below_drewN))⟩, ?_⟩; simp [intOf]; omega)
          | (go_roundw
             case rel => exact ⟨i + 1, by rw [N1.out], by rw [N0.out], by go_num, by omega, later_of (by repeat (first | exact Below.refl _ _ | (with_reducible assumption) | apply below_later | apply below_alloc | apply below_drew | apply below_drewN))⟩
             case measure => simp [intOf]; omega)
      · have N0 : Hid (T0 (i + 1) = a0) := by show _ = _; rw [S0j.out, if_neg (by omega)]
        have N1 : Hid (T1 (i + 1) = a1 + y) := by show _ = _; rw [S1j.out, if_pos e]
        have cg' : x.val.cell? ⟨g, i, none⟩ = some (.bool true) := by rw [cg, e]; rfl
        clear cg e
        go_wp2_with fail
        try rw [← HPO.out]
        first
          | (refine ⟨⟨i + 1, by rw [N1.out], by rw [N0.out], by go_num, by omega, later_of (by repeat (first | exact Below.refl _ _ | (with_reducible assumption) | apply below_later | apply below_alloc | apply below_drew | apply below_drewN))⟩, ?_⟩; simp [intOf]; omega)
          | (go_roundw
             case rel => exact ⟨i + 1, by rw [N1.out], by rw [N0.out], by go_num, by omega, later_of (by repeat (first | exact Below.refl _ _ | (with_reducible assumption) | apply below_later | apply below_alloc | apply below_drew | apply below_drewN))⟩
             case measure => simp [intOf]; omega)
    · obtain rfl : i = n := by omega
      have IBX := Lib.hid (IB.out.below x.ok)
      have HXS := HBX.out.size
      clear IB CE
      generalize x.val = X at *
      generalize T0 i = a0 at *
      generalize T1 i = a1 at *
      have HM := Lib.hid (made_own X i w.heap.size HXS (by omega))
      have HB1 : Hid (Below w.heap.size w (X.alloc (.cells (madeCells #[Value.int .i64 0] i) 3))) := HBX.out.alloc HXS _
      have IBY : Hid (IsBls (X.alloc (.cells (madeCells #[Value.int .i64 0] i) 3)) P i pl) := IBX.out.below ((Below.refl _ _).alloc (Nat.le_refl _) _)
      go_wp2
      obtain ⟨go, hgo⟩ : ∃ go, X.heap.size = go := ⟨_, rfl⟩
      have HG : Hid (w.heap.size ≤ go) := by rw [← hgo]; exact HXS
      have HXG : Hid (∀ g, g < X.heap.size → go ≠ g) := fun g h => by omega
      rw [hgo] at HM ⊢
      obtain ⟨Y0, hY0⟩ : ∃ Y0, X = Y0 := ⟨_, rfl⟩
      have HYS : Hid (Y0.heap.size = go) := hY0 ▸ hgo
      rw [hY0] at HM HB1 IBY IBX HXG HBX ⊢
      clear hgo MK HXS hY0
      have HYY : Hid (Below Y0.heap.size Y0 (Y0.alloc (.cells (madeCells #[Value.int .i64 0] i) 3))) := (Below.refl _ _).alloc (Nat.le_refl _) _
      generalize Y0.alloc (.cells (madeCells #[Value.int .i64 0] i) 3) = Y at *
      by_cases hq : a1 < a0
      · have HTK : Hid (tk = 0) := by show _ = _; rw [TK.out, if_pos hq]
        have hge : decide (a0 ≤ a1) = false := by simp; omega
        go_loopw [9] (fun u wr => ∃ (j : Nat) (l : List Int), u = .int .i64 (j : Nat) ∧ j ≤ i ∧ l.length = i ∧ Below Y0.heap.size Y0 wr ∧ OwnI wr w.heap.size (.slice (some ⟨go, 0, none⟩) i i) l ∧ (∀ q, q < j → l.getD q 0 = if bt q = 0 then 1 else 0) ∧ ∀ q, j ≤ q → q < i → l.getD q 0 = 0) (fun u _ => i - (intOf u).toNat)
        case atStart => exact ⟨0, _, rfl, by omega, by simp, HYY.out, HM.out, by omega, fun q _ hq => getD_rep hq⟩
        case round =>
          obtain ⟨j, l, rfl, hj, hl, hbl, ho, hall, hrest⟩ := hrel
          clear HM HB1 HYY
          have HL := Lib.hid hl
          have HBL := Lib.hid hbl
          have HO := Lib.hid ho
          have HALL := Lib.hid hall
          have HREST := Lib.hid hrest
          have HBW : Hid (Below w.heap.size w wr) := below_more HBX.out hbl
          clear hl hbl ho hall hrest
          by_cases hlt2 : j < i
          · obtain ⟨g, hP, lg0, pg⟩ := IBX.out.at_ (by omega)
            have cg := (HBL.out.cell (p := ⟨g, j, none⟩) lg0).trans (pg j hlt2)
            have lg := Nat.lt_of_lt_of_le lg0 HBL.out.size
            have hne := HXG.out g lg0
            have hen := hne.symm
            have HPO := Lib.hid hP
            rw [hP]
            rw [PG.out j hlt2] at cg
            obtain ⟨o1, o2⟩ := HO.out.cell HL.out hlt2
            have o3 := (own_lt HO.out go rfl).2
            have o4 := o2 j
            have HZ : Hid (Y0.heap.size ≤ go) := Nat.le_of_eq HYS.out
            clear pg o2 hP lg0
            rcases BT.out j with e | e
            all_goals
              have HE := Lib.hid e
              rw [e] at cg
              simp only [reduceCtorEq, Nat.reduceEqDiff, decide_true, decide_false] at cg
              clear e
              go_wp2_with fail
              try rw [← HPO.out]
              first
                | (refine ⟨⟨j + 1, l, by go_num, by omega, HL.out, HBL.out, HO.out, fun q hq => ?_, fun q h1 h2 => HREST.out q (by omega) h2⟩, ?_⟩
                   · by_cases e : q = j
                     · rw [e, HREST.out j (Nat.le_refl _) hlt2, HE.out]; rfl
                     · exact HALL.out q (by omega)
                   · simp [intOf]; omega)
                | (refine ⟨⟨j + 1, l.set j 1, by go_num, by omega, by rw [List.length_set]; exact HL.out, HBL.out.setCell (p := ⟨go, j, none⟩) HZ.out _, HO.out.set HL.out j _, fun q hq => ?_, fun q h1 h2 => ?_⟩, ?_⟩
                   · rw [getD_setI (by rw [HL.out]; exact hlt2)]
                     split
                     · rename_i e; rw [e, HE.out]; rfl
                     · exact HALL.out q (by omega)
                   · rw [getD_setI (by rw [HL.out]; exact hlt2), if_neg (by omega)]
                     exact HREST.out q (by omega) h2
                   · simp [intOf]; omega)
                | (go_roundw
                   case rel => exact ⟨j + 1, l, by go_num, by omega, HL.out, HBL.out, HO.out, fun q hq => by
                     by_cases e : q = j
                     · rw [e, HREST.out j (Nat.le_refl _) hlt2, HE.out]; rfl
                     · exact HALL.out q (by omega), fun q h1 h2 => HREST.out q (by omega) h2⟩
                   case measure => simp [intOf]; omega)
                | (go_roundw
                   case rel => exact ⟨j + 1, l.set j 1, by go_num, by omega, by rw [List.length_set]; exact HL.out, HBL.out.setCell (p := ⟨go, j, none⟩) HZ.out _, HO.out.set HL.out j _, fun q hq => by
                     rw [getD_setI (by rw [HL.out]; exact hlt2)]
                     split
                     · rename_i e; rw [e, HE.out]; rfl
                     · exact HALL.out q (by omega), fun q h1 h2 => by
                     rw [getD_setI (by rw [HL.out]; exact hlt2), if_neg (by omega)]
                     exact HREST.out q (by omega) h2⟩
                   case measure => simp [intOf]; omega)
          · obtain rfl : j = i := by omega
            have HF := Lib.hid (TL.out l HL.out fun q hq => HTK.out ▸ HALL.out q hq)
            go_wp2
            go_ret
            exact ⟨_, rfl, ⟨_, HBW.out⟩, rfl, by
              show OwnI _ _ _ _
              rw [← HF.out]
              exact HO.out⟩
      · have HTK : Hid (tk = 1) := by show _ = _; rw [TK.out, if_neg hq]
        have hge : decide (a0 ≤ a1) = true := by simp; omega
        go_loopw [9] (fun u wr => ∃ (j : Nat) (l : List Int), u = .int .i64 (j : Nat) ∧ j ≤ i ∧ l.length = i ∧ Below Y0.heap.size Y0 wr ∧ OwnI wr w.heap.size (.slice (some ⟨go, 0, none⟩) i i) l ∧ (∀ q, q < j → l.getD q 0 = if bt q = 1 then 1 else 0) ∧ ∀ q, j ≤ q → q < i → l.getD q 0 = 0) (fun u _ => i - (intOf u).toNat)
        case atStart => exact ⟨0, _, rfl, by omega, by simp, HYY.out, HM.out, by omega, fun q _ hq => getD_rep hq⟩
        case round =>
          obtain ⟨j, l, rfl, hj, hl, hbl, ho, hall, hrest⟩ := hrel
          clear HM HB1 HYY
          have HL := Lib.hid hl
          have HBL := Lib.hid hbl
          have HO := Lib.hid ho
          have HALL := Lib.hid hall
          have HREST := Lib.hid hrest
          have HBW : Hid (Below w.heap.size w wr) := below_more HBX.out hbl
          clear hl hbl ho hall hrest
          by_cases hlt2 : j < i
          · obtain ⟨g, hP, lg0, pg⟩ := IBX.out.at_ (by omega)
            have cg := (HBL.out.cell (p := ⟨g, j, none⟩) lg0).trans (pg j hlt2)
            have lg := Nat.lt_of_lt_of_le lg0 HBL.out.size
            have hne := HXG.out g lg0
            have hen := hne.symm
            have HPO := Lib.hid hP
            rw [hP]
            rw [PG.out j hlt2] at cg
            obtain ⟨o1, o2⟩ := HO.out.cell HL.out hlt2
            have o3 := (own_lt HO.out go rfl).2
            have o4 := o2 j
            have HZ : Hid (Y0.heap.size ≤ go) := Nat.le_of_eq HYS.out
            clear pg o2 hP lg0
            rcases BT.out j with e | e
            all_goals
              have HE := Lib.hid e
              rw [e] at cg
              simp only [reduceCtorEq, Nat.reduceEqDiff, decide_true, decide_false] at cg
              clear e
              go_wp2_with fail
              try rw [← HPO.out]
              first
                | (refine ⟨⟨j + 1, l, by go_num, by omega, HL.out, HBL.out, HO.out, fun q hq => ?_, fun q h1 h2 => HREST.out q (by omega) h2⟩, ?_⟩
                   · by_cases e : q = j
                     · rw [e, HREST.out j (Nat.le_refl _) hlt2, HE.out]; rfl
                     · exact HALL.out q (by omega)
                   · simp [intOf]; omega)
                | (refine ⟨⟨j + 1, l.set j 1, by go_num, by omega, by rw [List.length_set]; exact HL.out, HBL.out.setCell (p := ⟨go, j, none⟩) HZ.out _, HO.out.set HL.out j _, fun q hq => ?_, fun q h1 h2 => ?_⟩, ?_⟩
                   · rw [getD_setI (by rw [HL.out]; exact hlt2)]
                     split
                     · rename_i e; rw [e, HE.out]; rfl
                     · exact HALL.out q (by omega)
                   · rw [getD_setI (by rw [HL.out]; exact hlt2), if_neg (by omega)]
                     exact HREST.out q (by omega) h2
                   · simp [intOf]; omega)
                | (go_roundw
                   case rel => exact ⟨j + 1, l, by go_num, by omega, HL.out, HBL.out, HO.out, fun q hq => by
                     by_cases e : q = j
                     · rw [e, HREST.out j (Nat.le_refl _) hlt2, HE.out]; rfl
                     · exact HALL.out q (by omega), fun q h1 h2 => HREST.out q (by omega) h2⟩
                   case measure => simp [intOf]; omega)
                | (go_roundw
                   case rel => exact ⟨j + 1, l.set j 1, by go_num, by omega, by rw [List.length_set]; exact HL.out, HBL.out.setCell (p := ⟨go, j, none⟩) HZ.out _, HO.out.set HL.out j _, fun q hq => by
                     rw [getD_setI (by rw [HL.out]; exact hlt2)]
                     split
                     · rename_i e; rw [e, HE.out]; rfl
                     · exact HALL.out q (by omega), fun q h1 h2 => by
                     rw [getD_setI (by rw [HL.out]; exact hlt2), if_neg (by omega)]
                     exact HREST.out q (by omega) h2⟩
                   case measure => simp [intOf]; omega)
          · obtain rfl : j = i := by omega
            have HF := Lib.hid (TL.out l HL.out fun q hq => HTK.out ▸ HALL.out q hq)
            go_wp2
            go_ret
            exact ⟨_, rfl, ⟨_, HBW.out⟩, rfl, by
              show OwnI _ _ _ _
              rw [← HF.out]
              exact HO.out⟩
end Go.Proofs.Ytjmjafpjfhgfdaa
