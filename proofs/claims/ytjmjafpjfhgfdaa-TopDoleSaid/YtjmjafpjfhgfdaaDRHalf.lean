/- The document's Halves: walked. -/
import Derived.Test.YtjmjafpjfhgfdaaDFirst
namespace Go.Proofs.Ytjmjafpjfhgfdaa
open Go.RowKit

/-- The best part, and its worth, of the first sets as the document writes them. -/
def bestH (n : Nat) (f : Nat → Int) (s : Nat) : List Bool := if s = 0 then [] else partB n (halfP (lesserN f n) s).1
def worthH (n : Nat) (f : Nat → Int) (s : Nat) : Int := if s = 0 then -1 else (halfP (lesserN f n) s).2
theorem half_step {n : Nat} {f : Nat → Int} (hv : ∀ j, j < n → 0 ≤ f j ∧ f j ≤ 1000) (s : Nat) :
    (worthH n f s < lesserN f n s → bestH n f (s + 1) = partB n s ∧ worthH n f (s + 1) = lesserN f n s) ∧ (¬ worthH n f s < lesserN f n s → bestH n f (s + 1) = bestH n f s ∧ worthH n f (s + 1) = worthH n f s) := by
  have z := lesser_zero (n := n) hv
  by_cases h0 : s = 0
  · subst h0
    have e : halfP (lesserN f n) 1 = (0, 0) := by
      rw [halfP_succ, z]
      exact if_neg (show ¬ (0 : Int) < 0 by decide)
    have w0 : worthH n f 0 = -1 := rfl
    have b1 : bestH n f 1 = partB n 0 := by unfold bestH; rw [if_neg (by omega), e]
    have w1 : worthH n f 1 = 0 := by unfold worthH; rw [if_neg (by omega), e]
    rw [w0, z]
    exact ⟨fun _ => ⟨b1, w1⟩, fun h => absurd (by decide) h⟩
  · have ws : worthH n f s = (halfP (lesserN f n) s).2 := if_neg h0
    have bs : bestH n f s = partB n (halfP (lesserN f n) s).1 := if_neg h0
    have ws1 : worthH n f (s + 1) = (halfP (lesserN f n) (s + 1)).2 := if_neg (by omega)
    have bs1 : bestH n f (s + 1) = partB n (halfP (lesserN f n) (s + 1)).1 := if_neg (by omega)
    rw [ws, bs, ws1, bs1]
    constructor
    · intro h
      have e : halfP (lesserN f n) (s + 1) = (s, lesserN f n s) := by rw [halfP_succ, if_pos h]
      rw [e]
      exact ⟨rfl, rfl⟩
    · intro h
      have e : halfP (lesserN f n) (s + 1) = halfP (lesserN f n) s := by rw [halfP_succ, if_neg h]
      rw [e]
      exact ⟨rfl, rfl⟩
theorem worthH_bd {n : Nat} {f : Nat → Int} (hn : n ≤ 12) (hv : ∀ j, j < n → 0 ≤ f j ∧ f j ≤ 1000) (s : Nat) : -1 ≤ worthH n f s ∧ worthH n f s ≤ 12000 := by
  have h := halfP_bd (g := lesserN f n) (M := 12000) (by decide) (fun s => by have := lesser_bd (s := s) hv; omega) s
  unfold worthH
  split <;> omega
theorem bestH_le (n : Nat) (f : Nat → Int) (s : Nat) : (bestH n f s).length ≤ n := by
  unfold bestH
  split
  · simp
  · rw [partB_length]; exact Nat.le_refl _
def PostH2 (w : World) (n s : Nat) (x : Int) (e : Ending) (w' : World) : Prop := ∃ v, e = .returned (.tuple #[v, .int .i64 x]) ∧ ∃ y : Later w, w' = y.val ∧ OwnBl w' w.heap.size v (partB n s)
theorem OwnBl.nil (w : World) (base : Nat) : OwnBl w base (.slice none 0 0) [] := World.ownsRow_nil _ _ _ _
set_option maxRecDepth 100000 in
set_option maxHeartbeats 6400000 in
theorem rHalves_any (n cap : Nat) (B : Option Addr) (f : Nat → Int) (w : World) (hn : n ≤ 12) (hv : ∀ j, j < n → 0 ≤ f j ∧ f j ≤ 1000) (hp : IsInts w B n f) :
    Calls Try.prog 44 #[.slice B n cap] w (PostH2 w n (setH n f) (leastH n f)) := by
  have HP := Lib.hid hp
  have HV := Lib.hid hv
  have ST := Lib.hid (half_step hv)
  have WB := Lib.hid (worthH_bd hn hv)
  have H0 : Hid (bestH n f 0 = [] ∧ worthH n f 0 = -1) := ⟨rfl, rfl⟩
  have HE : Hid (bestH n f (2 ^ n) = partB n (setH n f) ∧ worthH n f (2 ^ n) = leastH n f) := by
    have h1 := (pow_le hn).1
    exact ⟨if_neg (by omega), if_neg (by omega)⟩
  have LE : Hid (∀ s, lesserN f n s = min (ptN f (bitN n s) 0 n) (ptN f (bitN n s) 1 n)) := fun _ => rfl
  have PE : Hid (∀ s (l : List Bool), l.length = n → (∀ j, j < n → l.getD j true = decide (bitN n s j = 1)) → l = partB n s) := fun s l h1 h2 => bools_all h1 h2
  have SE := Lib.hid fun s j (hs : s ≤ 4096) => side_eq n s j hs
  have BT := Lib.hid (bit_lt n)
  have S0 := Lib.hid fun s j => ptN_succ f (bitN n s) 0 j
  have S1 := Lib.hid fun s j => ptN_succ f (bitN n s) 1 j
  have Z0 : Hid (∀ s, ptN f (bitN n s) 0 0 = 0 ∧ ptN f (bitN n s) 1 0 = 0) := fun _ => ⟨rfl, rfl⟩
  have B0 := Lib.hid fun s j (h : j ≤ n) => ptN_bd (f := f) (b := bitN n s) (x := 0) (m := j) fun i hi => hv i (by omega)
  have B1 := Lib.hid fun s j (h : j ≤ n) => ptN_bd (f := f) (b := bitN n s) (x := 1) (m := j) fun i hi => hv i (by omega)
  have MK : ∀ w', (Instr.makeSlice 49 (.int .i64 (n : Int)) (.int .i64 (n : Int))).run Try.prog w' = .ok (.slice (some ⟨w'.heap.size, 0, none⟩) n n) (w'.alloc (.cells (madeCells #[Value.bool false] n) 4)) := fun w' => make_bools w' n (by omega)
  have hsh : IntKind.i64.wrap (2 ^ n) = ((2 ^ n : Nat) : Int) := by
    have h := pow_le hn
    have e : ((2 : Int) ^ n) = ((2 ^ n : Nat) : Int) := by rw [Int.natCast_pow]; rfl
    rw [e]
    exact IntWalk.i64_in _ ⟨by omega, by omega⟩
  obtain ⟨hM1, hM⟩ := pow_le hn
  generalize bestH n f = BH at *
  generalize worthH n f = WH at *
  generalize lesserN f n = L at *
  generalize setH n f = rs at *
  generalize leastH n f = rl at *
  clear hp hv
  have hsh2 := hsh
  generalize 2 ^ n = M at *
  go_enter Try.func44, Try.ntmps44
  go_wp2
  go_loopw [4, 5, 6] (fun u4 u5 v wr => ∃ s : Nat, u5 = .int .i64 (WH s) ∧ v = .int .i64 (s : Nat) ∧ s ≤ M ∧ Below w.heap.size w wr ∧ OwnBl wr w.heap.size u4 (BH s)) (fun _ _ v _ => M - (intOf v).toNat)
  case atStart => exact ⟨0, by rw [H0.out.2], rfl, by omega, Below.refl _ _, by rw [H0.out.1]; exact OwnBl.nil _ _⟩
  case round =>
    obtain ⟨s, rfl, rfl, hs, hbl, ho⟩ := hrel
    have HBL := Lib.hid hbl
    have HO := Lib.hid ho
    clear hbl ho
    by_cases hlt : s < M
    · have hg : decide ((s : Int) < (M : Int)) = true := by simp; omega
      have hs4 : s ≤ 4096 := by omega
      obtain ⟨st1, st2⟩ := ST.out s
      have ST1 := Lib.hid st1
      have ST2 := Lib.hid st2
      have LEs := Lib.hid (LE.out s)
      have PEs := Lib.hid (PE.out s)
      have SEs := Lib.hid fun j => SE.out s j hs4
      have BTs := Lib.hid (BT.out s)
      have S0s := Lib.hid (S0.out s)
      have S1s := Lib.hid (S1.out s)
      have Z0s := Lib.hid (Z0.out s)
      have B0s := Lib.hid (B0.out s)
      have B1s := Lib.hid (B1.out s)
      obtain ⟨wb0, wb1⟩ := WB.out s
      clear st1 st2
      generalize ptN f (bitN n s) 0 = T0 at *
      generalize ptN f (bitN n s) 1 = T1 at *
      generalize bitN n s = b at *
      generalize hWs : WH s = ws at *
      have HWS := Lib.hid hWs
      clear hWs
      go_wp2
      have HM := Lib.hid (made_ownBl wr n wr.heap.size (Nat.le_refl _) (by omega))
      have HB1 : Hid (Below wr.heap.size wr (wr.alloc (.cells (madeCells #[Value.bool false] n) 4))) := (Below.refl _ _).alloc (Nat.le_refl _) _
      obtain ⟨go, hgo⟩ : ∃ go, wr.heap.size = go := ⟨_, rfl⟩
      have HGO := Lib.hid hgo
      have hm := HM.out
      rw [hgo] at hm ⊢
      have HM2 : Hid (OwnBl (wr.alloc (.cells (madeCells #[Value.bool false] n) 4)) wr.heap.size (.slice (some ⟨go, 0, none⟩) n n) (List.replicate n false)) := by rw [hgo]; exact hm
      clear HM hm hgo
      obtain ⟨U, hU⟩ : ∃ U, wr = U := ⟨_, rfl⟩
      rw [hU] at HBL HO HB1 HM2 HGO ⊢
      clear hU
      generalize U.alloc (.cells (madeCells #[Value.bool false] n) 4) = Z at *
      go_loopw [8, 9, 10] (fun u8 u9 v wr => ∃ (i : Nat) (l : List Bool), u8 = .int .i64 (T1 i) ∧ u9 = .int .i64 (T0 i) ∧ v = .int .i64 (i : Nat) ∧ i ≤ n ∧ l.length = n ∧ Below U.heap.size U wr ∧ OwnBl wr U.heap.size (.slice (some ⟨go, 0, none⟩) n n) l ∧ ∀ j, j < i → l.getD j true = decide (b j = 1)) (fun _ _ v _ => n - (intOf v).toNat)
      case atStart => exact ⟨0, _, by rw [Z0s.out.2], by rw [Z0s.out.1], rfl, by omega, by simp, HB1.out, HM2.out, by omega⟩
      case round =>
        obtain ⟨i, l, rfl, rfl, rfl, hi, hl, hbl, ho, hall⟩ := hrel
        clear HM2 HB1
        have HL := Lib.hid hl
        have HBL2 := Lib.hid hbl
        have HO2 := Lib.hid ho
        have HALL := Lib.hid hall
        have HBW : Hid (Below w.heap.size w wr) := below_more HBL.out hbl
        clear hl hbl ho hall
        obtain ⟨t0, t1⟩ := B0s.out i (by omega)
        obtain ⟨t2, t3⟩ := B1s.out i (by omega)
        by_cases hlt2 : i < n
        · have w1 : IntKind.i64.wrap ((n : Int) - 1) = ((n - 1 : Nat) : Int) := by
            rw [show ((n : Int) - 1) = ((n - 1 : Nat) : Int) by omega]
            exact IntWalk.i64_in _ ⟨by omega, by omega⟩
          have w2 : IntKind.i64.wrap (((n - 1 : Nat) : Int) - (i : Int)) = ((n - 1 - i : Nat) : Int) := by
            rw [show (((n - 1 : Nat) : Int) - (i : Int)) = ((n - 1 - i : Nat) : Int) by omega]
            exact IntWalk.i64_in _ ⟨by omega, by omega⟩
          have hse := SEs.out i
          obtain ⟨q1, q2, q3⟩ := HO2.out.cell HL.out hlt2
          have q4 := q2 i
          obtain ⟨bb, oo, hB, p⟩ := (HP.out.below HBW.out).at_ (by omega)
          have HBO := Lib.hid hB
          rw [hB]
          have cj := p.at_ i hlt2
          have lq := p.lt
          obtain ⟨v0, v1⟩ := HV.out i hlt2
          have S0j := Lib.hid (S0s.out i)
          have S1j := Lib.hid (S1s.out i)
          have hne : go ≠ bb := fun e => by
            have h1 := (own_lt HO2.out go rfl).1
            have h2 : bb < w.heap.size ∨ True := .inr trivial
            obtain ⟨bb', oo', hB', p'⟩ := (HP.out.below HBL.out).at_ (by omega)
            rw [hB] at hB'
            simp only [Option.some.injEq, Addr.mk.injEq, and_true] at hB'
            have := p'.lt
            omega
          clear p q2 hB
          have hni := hne.symm
          obtain ⟨x, hx⟩ : ∃ x, x = b i := ⟨_, rfl⟩
          have HX := Lib.hid hx
          rw [← hx] at hse
          have hbt : x = 0 ∨ x = 1 := by rw [hx]; exact BTs.out i
          clear hx
          rcases hbt with e | e
          · subst e
            have hse' : bits BinOp.and IntKind.i64 ((s : Int) / 2 ^ (n - 1 - i)) 1 = 0 := hse
            have N0 : Hid (T0 (i + 1) = T0 i + f i) := by show _ = _; rw [S0j.out, if_pos HX.out.symm]
            have N1 : Hid (T1 (i + 1) = T1 i) := by show _ = _; rw [S1j.out, if_neg (by have := HX.out; omega)]
            clear hse
            generalize f i = y at *
            generalize T0 i = a0 at *
            generalize T1 i = a1 at *
            go_wp2
            first
              | (refine ⟨⟨i + 1, _, by rw [N1.out], by rw [N0.out], by go_num, by omega, by rw [List.length_set]; exact HL.out, HBL2.out.setCell (p := ⟨go, i, none⟩) (by rw [HGO.out]; exact Nat.le_refl _) _, HO2.out.set HL.out i _, fun j hj => by
                  rw [getD_setB (by rw [HL.out]; exact hlt2)]
                  split
                  · rename_i e; rw [e, ← HX.out]; rfl
                  · exact HALL.out j (by omega)⟩, ?_⟩
                 simp [intOf]; omega)
          · subst e
            have hse' : bits BinOp.and IntKind.i64 ((s : Int) / 2 ^ (n - 1 - i)) 1 = 1 := hse
            have N0 : Hid (T0 (i + 1) = T0 i) := by show _ = _; rw [S0j.out, if_neg (by have := HX.out; omega)]
            have N1 : Hid (T1 (i + 1) = T1 i + f i) := by show _ = _; rw [S1j.out, if_pos HX.out.symm]
            clear hse
            generalize f i = y at *
            generalize T0 i = a0 at *
            generalize T1 i = a1 at *
            go_wp2
            first
              | (refine ⟨⟨i + 1, _, by rw [N1.out], by rw [N0.out], by go_num, by omega, by rw [List.length_set]; exact HL.out, HBL2.out.setCell (p := ⟨go, i, none⟩) (by rw [HGO.out]; exact Nat.le_refl _) _, HO2.out.set HL.out i _, fun j hj => by
                  rw [getD_setB (by rw [HL.out]; exact hlt2)]
                  split
                  · rename_i e; rw [e, ← HX.out]; rfl
                  · exact HALL.out j (by omega)⟩, ?_⟩
                 simp [intOf]; omega)
        · obtain rfl : i = n := by omega
          have HF := Lib.hid (PEs.out l HL.out HALL.out)
          have HN1 := Lib.hid fun h => (ST1.out h)
          have HN2 := Lib.hid fun h => (ST2.out h)
          have HOW : Hid (OwnBl wr w.heap.size (.slice (some ⟨go, 0, none⟩) i i) (partB i s)) := by
            show OwnBl _ _ _ _
            rw [← HF.out]
            exact HO2.out.mono HBL.out.size
          have HOB : Hid (OwnBl wr w.heap.size _ (BH s)) := HO.out.below HBL2.out
          have LEs2 := Lib.hid LEs.out
          generalize T0 i = a0 at *
          generalize T1 i = a1 at *
          by_cases hd : ws < min a1 a0
          · have hl2 : L s = min a1 a0 := by rw [LEs.out]; omega
            obtain ⟨e1, e2⟩ := HN1.out (by rw [hl2]; exact hd)
            have E1 := Lib.hid e1
            have E2 := Lib.hid (e2.trans hl2)
            clear e1 e2 hl2
            go_wp2
            all_goals
              first
                | (refine ⟨⟨s + 1, by rw [E2.out]; first | rfl | (congr 1; split <;> omega) | (congr 1; omega), by go_num, by omega, HBW.out, by rw [E1.out]; exact HOW.out⟩, ?_⟩; simp [intOf]; omega)
                | (go_roundw
                   case rel => exact ⟨s + 1, by rw [E2.out]; first | rfl | (congr 1; split <;> omega) | (congr 1; omega), by go_num, by omega, HBW.out, by rw [E1.out]; exact HOW.out⟩
                   case measure => simp [intOf]; omega)
          · have hl2 : L s = min a1 a0 := by rw [LEs.out]; omega
            obtain ⟨e1, e2⟩ := HN2.out (by first | (rw [hl2]; exact hd) | (rw [hl2]; omega) | (rw [HWS.out, hl2]; exact hd))
            have E1 := Lib.hid e1
            have E2 : Hid (WH (s + 1) = ws) := by first | exact e2 | exact e2.trans HWS.out
            clear e1 e2 hl2
            go_wp2
            all_goals
              first
                | (refine ⟨⟨s + 1, by rw [E2.out], by go_num, by omega, HBW.out, by rw [E1.out]; exact HOB.out⟩, ?_⟩; simp [intOf]; omega)
                | (go_roundw
                   case rel => exact ⟨s + 1, by rw [E2.out], by go_num, by omega, HBW.out, by rw [E1.out]; exact HOB.out⟩
                   case measure => simp [intOf]; omega)
    · obtain rfl : s = M := by omega
      go_wp2
      go_ret2
      exact ⟨_, by rw [HE.out.2]; rfl, ⟨_, HBL.out⟩, rfl, by
        show OwnBl _ _ _ _
        rw [← HE.out.1]
        exact HO.out⟩
end Go.Proofs.Ytjmjafpjfhgfdaa
