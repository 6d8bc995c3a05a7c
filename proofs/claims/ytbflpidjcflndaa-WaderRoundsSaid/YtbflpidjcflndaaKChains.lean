/- The document's chains: walked, both ways. -/
import Derived.Test.YtbflpidjcflndaaKChainMath
import Derived.Test.YtbflpidjcflndaaKLengths
import Derived.Test.YtbflpidjcflndaaKRLead
namespace Go.Proofs.Ytbflpidjcflndaa
open Go.RowKit

/-- The sum of numbers in memory. -/
def sumW (g n : Nat) (w : World) : Nat := ((List.range n).map fun i => match w.cell? ⟨g, i, none⟩ with | some v => (intOf v).toNat | none => 0).sum
theorem sumW_own {w : World} {base g n : Nat} {l : List Nat} (h : OwnI w base (.slice (some ⟨g, 0, none⟩) n n) (natZ l)) (hl : l.length = n) : sumW g n w = l.sum := by
  unfold sumW
  congr 1
  apply List.ext_getElem
  · simp [hl]
  · intro i h1 h2
    simp only [List.length_map, List.length_range] at h1
    obtain ⟨o3, _⟩ := h.cell ((natZ_length l).trans hl) h1
    simp only [List.getElem_map, List.getElem_range]
    rw [o3, natZ_getD, List.getD_eq_getElem?_getD, List.getElem?_eq_getElem h2]
    simp [intOf]
def flagV : Value → Nat
  | .bool true => 1
  | _ => 0
theorem chain_end {n : Nat} {H : Nat → Nat} {l : List Nat} (hl : l.length = n) (h : ∀ i, i < n → valL l i = H i) : l = lensN H n := by
  apply List.ext_getElem
  · rw [lensN_length, hl]
  · intro i h1 h2
    have e := h i (by omega)
    unfold valL at e
    rw [List.getD_eq_getElem?_getD, List.getElem?_eq_getElem h1] at e
    simp only [Option.getD_some] at e
    rw [e]
    simp [lensN]
set_option maxRecDepth 100000 in
set_option maxHeartbeats 6400000 in
theorem chains_true (s : Int) (n cap : Nat) (A : Option Addr) (X Y T : Nat → Int) (μ : Nat → Nat) (w : World) (W : Watch n s X Y T) (hp : IsChs w A n X Y T) (D : Down (onF s X Y T) n μ) :
    GivesI 68 #[.slice A n cap, .int .i64 s, .bool true] w (natZ (lensN (hgt (onF s X Y T) n) n)) := by
  have hn30 := W.n30
  have LD : Hid (∀ (V : World) (i k : Nat), i < n → k < n → Below w.heap.size w V → Gives Try.prog 50 #[.slice A n cap, .int .i64 s, .int .i64 k, .int .i64 i] V (.bool (onF s X Y T i k))) := fun V i k hi hk hb => rleads_any s n cap k i A X Y T V (by assumption) (by assumption) W (hp.below hb)
  generalize onF s X Y T = R at *
  have CE : Hid (∀ l, CInv R n l → (∀ i, i < n → valL l i = upL R n l i) → natZ (lensN (hgt R n) n) = natZ l) := fun l C hf => by
    rw [chain_end C.len fun i hi => CInv.fix D hf (μ i + 1) i hi (by omega)]
  have CS : Hid (∀ l i, CInv R n l → i < n → CInv R n (l.set i (upL R n l i))) := fun l i C hi => C.step D hi
  have MKI : ∀ w', (Instr.makeSlice 34 (.int .i64 (n : Int)) (.int .i64 (n : Int))).run Try.prog w' = .ok (.slice (some ⟨w'.heap.size, 0, none⟩) n n) (w'.alloc (.cells (madeCells #[Value.int .i64 0] n) 3)) := fun w' => make_ints w' n (by omega)
  have M0 : Hid (OwnI (w.alloc (.cells (madeCells #[Value.int .i64 0] n) 3)) w.heap.size (.slice (some ⟨w.heap.size, 0, none⟩) n n) (natZ (List.replicate n 0))) := by
    have h := made_own w n w.heap.size (Nat.le_refl _) (by omega)
    have e : natZ (List.replicate n 0) = List.replicate n 0 := by simp [natZ]
    rw [e]
    exact h
  have HB0 : Hid (Below w.heap.size w (w.alloc (.cells (madeCells #[Value.int .i64 0] n) 3))) := (Below.refl _ _).alloc (Nat.le_refl _) _
  generalize natZ (lensN (hgt R n) n) = res at *
  clear hp W D
  go_enter Try.func68, Try.ntmps68
  go_wp2
  obtain ⟨go, hgo⟩ : ∃ go, w.heap.size = go := ⟨_, rfl⟩
  have HG := Lib.hid hgo
  generalize w.alloc (.cells (madeCells #[Value.int .i64 0] n) 3) = Z at *
  rw [hgo]
  replace M0 : Hid (OwnI Z w.heap.size (.slice (some ⟨go, 0, none⟩) n n) (natZ (List.replicate n 0))) := by have h := M0.out; rw [hgo] at h ⊢; exact h
  clear hgo MKI
  go_loopw [8] (fun u wr => ∃ (ch : Bool) (l : List Nat), u = .bool ch ∧ CInv R n l ∧ (ch = false → ∀ i, i < n → valL l i = upL R n l i) ∧ Below w.heap.size w wr ∧ OwnI wr w.heap.size (.slice (some ⟨go, 0, none⟩) n n) (natZ l)) (fun u wr => 2 * (n * n - sumW go n wr) + flagV u)
  case atStart => exact ⟨true, _, rfl, CInv.zero R n, fun h => (by cases h), HB0.out, M0.out⟩
  case round =>
    obtain ⟨ch, l, rfl, C, hfx, hbl, ho⟩ := hrel
    clear M0 HB0
    have HC := Lib.hid C
    have HBL := Lib.hid hbl
    have HO := Lib.hid ho
    have HFX := Lib.hid hfx
    have HS : Hid (sumW go n wr = l.sum) := sumW_own ho C.len
    clear C hbl ho hfx
    cases ch
    case true =>
      go_wp2
      go_loopw [8, 9] (fun u v wr => ∃ (c2 : Bool) (i : Nat) (l2 : List Nat), u = .bool c2 ∧ v = .int .i64 (i : Nat) ∧ i ≤ n ∧ CInv R n l2 ∧ Below w.heap.size w wr ∧ OwnI wr w.heap.size (.slice (some ⟨go, 0, none⟩) n n) (natZ l2) ∧ (c2 = true → l.sum < l2.sum) ∧ (c2 = false → l2 = l ∧ ∀ j, j < i → valL l j = upL R n l j)) (fun _ v _ => n - (intOf v).toNat)
      case atStart => exact ⟨false, 0, l, rfl, rfl, by omega, HC.out, HBL.out, HO.out, fun h => (by cases h), fun _ => ⟨rfl, by omega⟩⟩
      case round =>
        obtain ⟨c2, i, l2, rfl, rfl, hi, C2, hbl2, ho2, ht, hf⟩ := hrel
        have HC2 := Lib.hid C2
        have HBL2 := Lib.hid hbl2
        have HO2 := Lib.hid ho2
        have HT2 := Lib.hid ht
        have HF2 := Lib.hid hf
        clear C2 hbl2 ho2 ht hf
        by_cases hlt : i < n
        · have LD1 := Lib.hid fun V k hk hb => LD.out V i k hlt hk hb
          have MS := Lib.hid fun k => maxTo_step (p := R i) (g := valL l2) (k := k)
          have MM : Hid (maxTo (R i) (valL l2) 0 = 0) := rfl
          have MU : Hid (upL R n l2 i = maxTo (R i) (valL l2) n + 1) := rfl
          have VB : Hid (∀ k, k < n → valL l2 k ≤ n) := fun k hk => Nat.le_trans (HC2.out.le k hk) (hgt_le R n k)
          have MB : Hid (∀ k, k ≤ n → maxTo (R i) (valL l2) k ≤ n) := fun k hk => maxTo_le k fun j hj _ => VB.out j (by omega)
          generalize maxTo (R i) (valL l2) = M at *
          generalize hWR : wr = U at *
          clear hWR
          go_wp2
          go_loopw [10, 11] (fun u v wr => ∃ k : Nat, u = .int .i64 ((M k + 1 : Nat) : Int) ∧ v = .int .i64 (k : Nat) ∧ k ≤ n ∧ ∃ x : Later U, wr = x.val) (fun _ v _ => n - (intOf v).toNat)
          case atStart => exact ⟨0, by rw [MM.out]; rfl, rfl, by omega, ⟨⟨U, Below.refl _ _⟩, rfl⟩⟩
          case round =>
            obtain ⟨k, rfl, rfl, hk, x, rfl⟩ := hrel
            by_cases hlk : k < n
            · obtain ⟨o3, _⟩ := (HO2.out.later x).cell ((natZ_length l2).trans HC2.out.len) hlk
              have o5 := (own_lt (HO2.out.later x) go rfl).2
              have HBX : Hid (Below w.heap.size w x.val) := below_more HBL2.out x.ok
              rw [natZ_getD] at o3
              have LD2 := Lib.hid fun V hb => LD1.out V k hlk hb
              have b1 := VB.out k hlk
              have b2 := MB.out k hk
              have MS1 := Lib.hid (MS.out k)
              have XV : Hid (∀ V, Below x.val.heap.size x.val V → ∃ y : Later U, V = y.val) := fun V h => ⟨⟨V, below_more x.ok h⟩, rfl⟩
              have e7 : ((M k + 1 : Nat) : Int) = (M k : Int) + 1 := by simp
              rw [e7]
              change x.val.cell? ⟨go, k, none⟩ = some (.int .i64 (valL l2 k : Nat)) at o3
              generalize valL l2 k = vk at *
              generalize x.val = Q at *
              cases hr : R i k
              case false =>
                rw [hr] at LD2
                have MS2 : Hid (M (k + 1) = M k) := by show _ = _; rw [MS1.out, hr]; rfl
                clear hr
                go_wp2_with (go_at_call 50; with_reducible refine Calls.mono (Gives.calls (LD2.out _ HBX.out)) ?_; rintro e w1 ⟨rfl, y, rfl⟩)
                go_roundw
                case rel => exact ⟨k + 1, by rw [MS2.out]; simp, by go_num, by omega, XV.out _ y.ok⟩
                case measure => simp [intOf]; omega
              case true =>
                rw [hr] at LD2
                have MS2 : Hid (M (k + 1) = max (M k) vk) := by show _ = _; rw [MS1.out, hr]; rfl
                clear hr
                go_wp2_with (go_at_call 50; with_reducible refine Calls.mono (Gives.calls (LD2.out _ HBX.out)) ?_; rintro e w1 ⟨rfl, y, rfl⟩)
                all_goals
                  go_roundw
                  case rel => exact ⟨k + 1, by rw [MS2.out]; congr 1; omega, by go_num, by omega, XV.out _ y.ok⟩
                  case measure => simp [intOf]; omega
            · obtain rfl : k = n := by omega
              obtain ⟨o3, o4⟩ := (HO2.out.later x).cell ((natZ_length l2).trans HC2.out.len) hlt
              have o5 := (own_lt (HO2.out.later x) go rfl).2
              have o6 := o4 i
              have HBX : Hid (Below w.heap.size w x.val) := below_more HBL2.out x.ok
              have HO3 := Lib.hid (HO2.out.later x)
              rw [natZ_getD] at o3
              have b1 := VB.out i hlt
              have b2 := MB.out k hk
              have e7 : ((M k + 1 : Nat) : Int) = (M k : Int) + 1 := by simp
              rw [e7]
              change x.val.cell? ⟨go, i, none⟩ = some (.int .i64 (valL l2 i : Nat)) at o3
              have NE : Hid (∀ h : M k + 1 ≠ valL l2 i, l2.sum < (l2.set i (M k + 1)).sum) := fun h => by
                have h1 := HC2.out.more hlt (by rw [MU.out]; exact h)
                rw [MU.out] at h1
                exact h1
              have CS1 : Hid (CInv R k (l2.set i (M k + 1))) := MU.out ▸ CS.out l2 i HC2.out hlt
              have EQ : Hid (M k + 1 = valL l2 i → l2 = l → valL l i = upL R k l i) := fun h h2 => by rw [← h2, MU.out]; exact h.symm
              have HLE : Hid (c2 = true ∨ l2 = l) := by
                cases c2
                · exact .inr (HF2.out rfl).1
                · exact .inl rfl
              clear o4 LD LD1 CS CE MS MM MU VB MB
              generalize hv : valL l2 i = vi at *
              generalize M k = mk at *
              generalize x.val = Q at *
              by_cases he : mk + 1 = vi
              · have q1 : (((mk : Int) + 1) != (vi : Int)) = false := by simp; omega
                have q2 : (mk : Int) + 1 = (vi : Int) := by omega
                go_wp2
                try rw [← q2]
                first
                  | (refine ⟨⟨c2, i + 1, l2, rfl, by go_num, by omega, HC2.out, HBX.out, HO3.out, HT2.out, fun h => ⟨(HF2.out h).1, fun j hj => ?_⟩⟩, ?_⟩
                     · rcases Nat.lt_or_ge j i with h1 | h1
                       · exact (HF2.out h).2 j h1
                       · obtain rfl : j = i := by omega
                         exact EQ.out he (HF2.out h).1
                     · simp [intOf]; omega)
                  | (go_roundw
                     case rel => exact ⟨c2, i + 1, l2, rfl, by go_num, by omega, HC2.out, HBX.out, HO3.out, HT2.out, fun h => ⟨(HF2.out h).1, fun j hj => by
                       rcases Nat.lt_or_ge j i with h1 | h1
                       · exact (HF2.out h).2 j h1
                       · obtain rfl : j = i := by omega
                         exact EQ.out he (HF2.out h).1⟩⟩
                     case measure => simp [intOf]; omega)
              · have q1 : (((mk : Int) + 1) != (vi : Int)) = true := by simp; omega
                have q2 : ¬ ((mk : Int) + 1 = (vi : Int)) := by omega
                have SL : Hid (l.sum < (l2.set i (mk + 1)).sum) := by
                  have h1 := NE.out he
                  show _ < _
                  rcases HLE.out with h2 | h2
                  · have := HT2.out h2; omega
                  · rw [← h2]; exact h1
                have PUT : Hid (OwnI (Q.setCell ⟨go, i, none⟩ (.int .i64 ((mk : Int) + 1))) w.heap.size (.slice (some ⟨go, 0, none⟩) k k) (natZ (l2.set i (mk + 1)))) := by
                  have h1 := HO3.out.set ((natZ_length l2).trans HC2.out.len) i ((mk : Int) + 1)
                  have e : natZ (l2.set i (mk + 1)) = (natZ l2).set i ((mk : Int) + 1) := by
                    unfold natZ
                    rw [List.map_set]
                    simp
                  show OwnI _ _ _ _
                  rw [e]
                  exact h1
                have HBS : Hid (Below w.heap.size w (Q.setCell ⟨go, i, none⟩ (.int .i64 ((mk : Int) + 1)))) := by
                  show Below _ _ _
                  exact HBX.out.setCell (p := ⟨go, i, none⟩) (own_lt HO3.out go rfl).1 _
                go_wp2
                first
                  | (go_roundw
                     case rel => exact ⟨true, i + 1, l2.set i (mk + 1), rfl, by go_num, by omega, CS1.out, HBS.out, PUT.out, fun _ => SL.out, fun h => (by cases h)⟩
                     case measure => simp [intOf]; omega)
                  | (refine ⟨⟨true, i + 1, l2.set i (mk + 1), rfl, by go_num, by omega, CS1.out, HBS.out, PUT.out, fun _ => SL.out, fun h => (by cases h)⟩, ?_⟩; simp [intOf]; omega)
        · obtain rfl : i = n := by omega
          go_wp2
          refine ⟨⟨c2, l2, rfl, HC2.out, fun h j hj => ?_, HBL2.out, HO2.out⟩, ?_⟩
          · obtain ⟨e, h2⟩ := HF2.out h
            rw [e]
            exact h2 j hj
          · have e1 := sumW_own HO2.out HC2.out.len
            have e2 := HS.out
            have e3 := HC2.out.sum
            rw [e1, e2]
            cases c2
            · obtain ⟨e, _⟩ := HF2.out rfl
              rw [e]
              simp [flagV]
            · have := HT2.out rfl
              simp [flagV]
              omega
    case false =>
      have HE : Hid (res = natZ l) := CE.out l HC.out (HFX.out rfl)
      go_wp2
      go_ret
      exact ⟨_, rfl, ⟨_, HBL.out⟩, rfl, by rw [HE.out]; exact HO.out⟩
set_option maxRecDepth 100000 in
set_option maxHeartbeats 6400000 in
theorem chains_false (s : Int) (n cap : Nat) (A : Option Addr) (X Y T : Nat → Int) (μ : Nat → Nat) (w : World) (W : Watch n s X Y T) (hp : IsChs w A n X Y T) (D : Down (onL s X Y T) n μ) :
    GivesI 68 #[.slice A n cap, .int .i64 s, .bool false] w (natZ (lensN (hgt (onL s X Y T) n) n)) := by
  have hn30 := W.n30
  have LD : Hid (∀ (V : World) (i k : Nat), i < n → k < n → Below w.heap.size w V → Gives Try.prog 50 #[.slice A n cap, .int .i64 s, .int .i64 i, .int .i64 k] V (.bool (onL s X Y T i k))) := fun V i k hi hk hb => rleads_any s n cap i k A X Y T V (by assumption) (by assumption) W (hp.below hb)
  generalize onL s X Y T = R at *
  have CE : Hid (∀ l, CInv R n l → (∀ i, i < n → valL l i = upL R n l i) → natZ (lensN (hgt R n) n) = natZ l) := fun l C hf => by
    rw [chain_end C.len fun i hi => CInv.fix D hf (μ i + 1) i hi (by omega)]
  have CS : Hid (∀ l i, CInv R n l → i < n → CInv R n (l.set i (upL R n l i))) := fun l i C hi => C.step D hi
  have MKI : ∀ w', (Instr.makeSlice 34 (.int .i64 (n : Int)) (.int .i64 (n : Int))).run Try.prog w' = .ok (.slice (some ⟨w'.heap.size, 0, none⟩) n n) (w'.alloc (.cells (madeCells #[Value.int .i64 0] n) 3)) := fun w' => make_ints w' n (by omega)
  have M0 : Hid (OwnI (w.alloc (.cells (madeCells #[Value.int .i64 0] n) 3)) w.heap.size (.slice (some ⟨w.heap.size, 0, none⟩) n n) (natZ (List.replicate n 0))) := by
    have h := made_own w n w.heap.size (Nat.le_refl _) (by omega)
    have e : natZ (List.replicate n 0) = List.replicate n 0 := by simp [natZ]
    rw [e]
    exact h
  have HB0 : Hid (Below w.heap.size w (w.alloc (.cells (madeCells #[Value.int .i64 0] n) 3))) := (Below.refl _ _).alloc (Nat.le_refl _) _
  generalize natZ (lensN (hgt R n) n) = res at *
  clear hp W D
  go_enter Try.func68, Try.ntmps68
  go_wp2
  obtain ⟨go, hgo⟩ : ∃ go, w.heap.size = go := ⟨_, rfl⟩
  have HG := Lib.hid hgo
  generalize w.alloc (.cells (madeCells #[Value.int .i64 0] n) 3) = Z at *
  rw [hgo]
  replace M0 : Hid (OwnI Z w.heap.size (.slice (some ⟨go, 0, none⟩) n n) (natZ (List.replicate n 0))) := by have h := M0.out; rw [hgo] at h ⊢; exact h
  clear hgo MKI
  go_loopw [8] (fun u wr => ∃ (ch : Bool) (l : List Nat), u = .bool ch ∧ CInv R n l ∧ (ch = false → ∀ i, i < n → valL l i = upL R n l i) ∧ Below w.heap.size w wr ∧ OwnI wr w.heap.size (.slice (some ⟨go, 0, none⟩) n n) (natZ l)) (fun u wr => 2 * (n * n - sumW go n wr) + flagV u)
  case atStart => exact ⟨true, _, rfl, CInv.zero R n, fun h => (by cases h), HB0.out, M0.out⟩
  case round =>
    obtain ⟨ch, l, rfl, C, hfx, hbl, ho⟩ := hrel
    clear M0 HB0
    have HC := Lib.hid C
    have HBL := Lib.hid hbl
    have HO := Lib.hid ho
    have HFX := Lib.hid hfx
    have HS : Hid (sumW go n wr = l.sum) := sumW_own ho C.len
    clear C hbl ho hfx
    cases ch
    case true =>
      go_wp2
      go_loopw [8, 9] (fun u v wr => ∃ (c2 : Bool) (i : Nat) (l2 : List Nat), u = .bool c2 ∧ v = .int .i64 (i : Nat) ∧ i ≤ n ∧ CInv R n l2 ∧ Below w.heap.size w wr ∧ OwnI wr w.heap.size (.slice (some ⟨go, 0, none⟩) n n) (natZ l2) ∧ (c2 = true → l.sum < l2.sum) ∧ (c2 = false → l2 = l ∧ ∀ j, j < i → valL l j = upL R n l j)) (fun _ v _ => n - (intOf v).toNat)
      case atStart => exact ⟨false, 0, l, rfl, rfl, by omega, HC.out, HBL.out, HO.out, fun h => (by cases h), fun _ => ⟨rfl, by omega⟩⟩
      case round =>
        obtain ⟨c2, i, l2, rfl, rfl, hi, C2, hbl2, ho2, ht, hf⟩ := hrel
        have HC2 := Lib.hid C2
        have HBL2 := Lib.hid hbl2
        have HO2 := Lib.hid ho2
        have HT2 := Lib.hid ht
        have HF2 := Lib.hid hf
        clear C2 hbl2 ho2 ht hf
        by_cases hlt : i < n
        · have LD1 := Lib.hid fun V k hk hb => LD.out V i k hlt hk hb
          have MS := Lib.hid fun k => maxTo_step (p := R i) (g := valL l2) (k := k)
          have MM : Hid (maxTo (R i) (valL l2) 0 = 0) := rfl
          have MU : Hid (upL R n l2 i = maxTo (R i) (valL l2) n + 1) := rfl
          have VB : Hid (∀ k, k < n → valL l2 k ≤ n) := fun k hk => Nat.le_trans (HC2.out.le k hk) (hgt_le R n k)
          have MB : Hid (∀ k, k ≤ n → maxTo (R i) (valL l2) k ≤ n) := fun k hk => maxTo_le k fun j hj _ => VB.out j (by omega)
          generalize maxTo (R i) (valL l2) = M at *
          generalize hWR : wr = U at *
          clear hWR
          go_wp2
          go_loopw [10, 11] (fun u v wr => ∃ k : Nat, u = .int .i64 ((M k + 1 : Nat) : Int) ∧ v = .int .i64 (k : Nat) ∧ k ≤ n ∧ ∃ x : Later U, wr = x.val) (fun _ v _ => n - (intOf v).toNat)
          case atStart => exact ⟨0, by rw [MM.out]; rfl, rfl, by omega, ⟨⟨U, Below.refl _ _⟩, rfl⟩⟩
          case round =>
            obtain ⟨k, rfl, rfl, hk, x, rfl⟩ := hrel
            by_cases hlk : k < n
            · obtain ⟨o3, _⟩ := (HO2.out.later x).cell ((natZ_length l2).trans HC2.out.len) hlk
              have o5 := (own_lt (HO2.out.later x) go rfl).2
              have HBX : Hid (Below w.heap.size w x.val) := below_more HBL2.out x.ok
              rw [natZ_getD] at o3
              have LD2 := Lib.hid fun V hb => LD1.out V k hlk hb
              have b1 := VB.out k hlk
              have b2 := MB.out k hk
              have MS1 := Lib.hid (MS.out k)
              have XV : Hid (∀ V, Below x.val.heap.size x.val V → ∃ y : Later U, V = y.val) := fun V h => ⟨⟨V, below_more x.ok h⟩, rfl⟩
              have e7 : ((M k + 1 : Nat) : Int) = (M k : Int) + 1 := by simp
              rw [e7]
              change x.val.cell? ⟨go, k, none⟩ = some (.int .i64 (valL l2 k : Nat)) at o3
              generalize valL l2 k = vk at *
              generalize x.val = Q at *
              cases hr : R i k
              case false =>
                rw [hr] at LD2
                have MS2 : Hid (M (k + 1) = M k) := by show _ = _; rw [MS1.out, hr]; rfl
                clear hr
                go_wp2_with (go_at_call 50; with_reducible refine Calls.mono (Gives.calls (LD2.out _ HBX.out)) ?_; rintro e w1 ⟨rfl, y, rfl⟩)
                go_roundw
                case rel => exact ⟨k + 1, by rw [MS2.out]; simp, by go_num, by omega, XV.out _ y.ok⟩
                case measure => simp [intOf]; omega
              case true =>
                rw [hr] at LD2
                have MS2 : Hid (M (k + 1) = max (M k) vk) := by show _ = _; rw [MS1.out, hr]; rfl
                clear hr
                go_wp2_with (go_at_call 50; with_reducible refine Calls.mono (Gives.calls (LD2.out _ HBX.out)) ?_; rintro e w1 ⟨rfl, y, rfl⟩)
                all_goals
                  go_roundw
                  case rel => exact ⟨k + 1, by rw [MS2.out]; congr 1; omega, by go_num, by omega, XV.out _ y.ok⟩
                  case measure => simp [intOf]; omega
            · obtain rfl : k = n := by omega
              obtain ⟨o3, o4⟩ := (HO2.out.later x).cell ((natZ_length l2).trans HC2.out.len) hlt
              have o5 := (own_lt (HO2.out.later x) go rfl).2
              have o6 := o4 i
              have HBX : Hid (Below w.heap.size w x.val) := below_more HBL2.out x.ok
              have HO3 := Lib.hid (HO2.out.later x)
              rw [natZ_getD] at o3
              have b1 := VB.out i hlt
              have b2 := MB.out k hk
              have e7 : ((M k + 1 : Nat) : Int) = (M k : Int) + 1 := by simp
              rw [e7]
              change x.val.cell? ⟨go, i, none⟩ = some (.int .i64 (valL l2 i : Nat)) at o3
              have NE : Hid (∀ h : M k + 1 ≠ valL l2 i, l2.sum < (l2.set i (M k + 1)).sum) := fun h => by
                have h1 := HC2.out.more hlt (by rw [MU.out]; exact h)
                rw [MU.out] at h1
                exact h1
              have CS1 : Hid (CInv R k (l2.set i (M k + 1))) := MU.out ▸ CS.out l2 i HC2.out hlt
              have EQ : Hid (M k + 1 = valL l2 i → l2 = l → valL l i = upL R k l i) := fun h h2 => by rw [← h2, MU.out]; exact h.symm
              have HLE : Hid (c2 = true ∨ l2 = l) := by
                cases c2
                · exact .inr (HF2.out rfl).1
                · exact .inl rfl
              clear o4 LD LD1 CS CE MS MM MU VB MB
              generalize hv : valL l2 i = vi at *
              generalize M k = mk at *
              generalize x.val = Q at *
              by_cases he : mk + 1 = vi
              · have q1 : (((mk : Int) + 1) != (vi : Int)) = false := by simp; omega
                have q2 : (mk : Int) + 1 = (vi : Int) := by omega
                go_wp2
                try rw [← q2]
                first
                  | (refine ⟨⟨c2, i + 1, l2, rfl, by go_num, by omega, HC2.out, HBX.out, HO3.out, HT2.out, fun h => ⟨(HF2.out h).1, fun j hj => ?_⟩⟩, ?_⟩
                     · rcases Nat.lt_or_ge j i with h1 | h1
                       · exact (HF2.out h).2 j h1
                       · obtain rfl : j = i := by omega
                         exact EQ.out he (HF2.out h).1
                     · simp [intOf]; omega)
                  | (go_roundw
                     case rel => exact ⟨c2, i + 1, l2, rfl, by go_num, by omega, HC2.out, HBX.out, HO3.out, HT2.out, fun h => ⟨(HF2.out h).1, fun j hj => by
                       rcases Nat.lt_or_ge j i with h1 | h1
                       · exact (HF2.out h).2 j h1
                       · obtain rfl : j = i := by omega
                         exact EQ.out he (HF2.out h).1⟩⟩
                     case measure => simp [intOf]; omega)
              · have q1 : (((mk : Int) + 1) != (vi : Int)) = true := by simp; omega
                have q2 : ¬ ((mk : Int) + 1 = (vi : Int)) := by omega
                have SL : Hid (l.sum < (l2.set i (mk + 1)).sum) := by
                  have h1 := NE.out he
                  show _ < _
                  rcases HLE.out with h2 | h2
                  · have := HT2.out h2; omega
                  · rw [← h2]; exact h1
                have PUT : Hid (OwnI (Q.setCell ⟨go, i, none⟩ (.int .i64 ((mk : Int) + 1))) w.heap.size (.slice (some ⟨go, 0, none⟩) k k) (natZ (l2.set i (mk + 1)))) := by
                  have h1 := HO3.out.set ((natZ_length l2).trans HC2.out.len) i ((mk : Int) + 1)
                  have e : natZ (l2.set i (mk + 1)) = (natZ l2).set i ((mk : Int) + 1) := by
                    unfold natZ
                    rw [List.map_set]
                    simp
                  show OwnI _ _ _ _
                  rw [e]
                  exact h1
                have HBS : Hid (Below w.heap.size w (Q.setCell ⟨go, i, none⟩ (.int .i64 ((mk : Int) + 1)))) := by
                  show Below _ _ _
                  exact HBX.out.setCell (p := ⟨go, i, none⟩) (own_lt HO3.out go rfl).1 _
                go_wp2
                first
                  | (go_roundw
                     case rel => exact ⟨true, i + 1, l2.set i (mk + 1), rfl, by go_num, by omega, CS1.out, HBS.out, PUT.out, fun _ => SL.out, fun h => (by cases h)⟩
                     case measure => simp [intOf]; omega)
                  | (refine ⟨⟨true, i + 1, l2.set i (mk + 1), rfl, by go_num, by omega, CS1.out, HBS.out, PUT.out, fun _ => SL.out, fun h => (by cases h)⟩, ?_⟩; simp [intOf]; omega)
        · obtain rfl : i = n := by omega
          go_wp2
          refine ⟨⟨c2, l2, rfl, HC2.out, fun h j hj => ?_, HBL2.out, HO2.out⟩, ?_⟩
          · obtain ⟨e, h2⟩ := HF2.out h
            rw [e]
            exact h2 j hj
          · have e1 := sumW_own HO2.out HC2.out.len
            have e2 := HS.out
            have e3 := HC2.out.sum
            rw [e1, e2]
            cases c2
            · obtain ⟨e, _⟩ := HF2.out rfl
              rw [e]
              simp [flagV]
            · have := HT2.out rfl
              simp [flagV]
              omega
    case false =>
      have HE : Hid (res = natZ l) := CE.out l HC.out (HFX.out rfl)
      go_wp2
      go_ret
      exact ⟨_, rfl, ⟨_, HBL.out⟩, rfl, by rw [HE.out]; exact HO.out⟩
end Go.Proofs.Ytbflpidjcflndaa
