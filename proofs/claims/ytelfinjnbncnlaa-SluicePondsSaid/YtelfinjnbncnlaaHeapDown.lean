/- container/heap's down and Pop: walked. -/
import Derived.Test.YtelfinjnbncnlaaHeapUp
namespace Go.Proofs.Ytelfinjnbncnlaa
open Go.RowKit
attribute [local go_sem] via_Len via_Less via_Swap via_Push via_Pop

theorem par_kids {c j : Nat} (h0 : 0 < c) (h : par c = j) : c = 2 * j + 1 ∨ c = 2 * j + 2 := by unfold par at h; omega
def SameFrom (m : Nat) (l' l : List Pt) : Prop := ∀ i, m ≤ i → l'.getD i (0, 0) = l.getD i (0, 0)
theorem same_swap {m j k : Nat} {l' l : List Pt} (h : SameFrom m l' l) (hm : m ≤ l'.length) (hj : j < m) (hk : k < m) : SameFrom m (swapL l' j k) l := fun i hi => by
  rw [swap_get (by omega) (by omega), if_neg (by omega), if_neg (by omega)]
  exact h i hi
/-- What down leaves. -/
def PostD (w : World) (base m n g cap : Nat) (l : List Pt) (e : Ending) (w' : World) : Prop :=
  ∃ b, e = .returned (.bool b) ∧ ∃ l' : List Pt, l'.Perm l ∧ SameFrom m l' l ∧ IsHeap l' m ∧ Only (fun b => b = g) w w' ∧ OwnO w' base (.slice (some ⟨g, 0, none⟩) n cap) l'
set_option maxRecDepth 100000 in
set_option maxHeartbeats 3200000 in
theorem down_any (bo base n m g cap : Nat) (l : List Pt) (w : World) (hn : l.length = n) (hm : m ≤ n) (hn9 : n ≤ 100000) (hb : w.heap[bo]? = some (.cells #[.slice (some ⟨g, 0, none⟩) n cap] 69)) (hne : bo ≠ g) (ho : OwnO w base (.slice (some ⟨g, 0, none⟩) n cap) l) (hu : DownInv l 0 m) :
    Calls Try.prog 61 #[.iface 71 (.pointer (some ⟨bo, 0, none⟩)), .int .i64 0, .int .i64 m] w (PostD w base m n g cap l) := by
  have HO := Lib.hid ho
  have HB := Lib.hid hb
  have HU := Lib.hid hu
  clear ho hb hu
  go_enter Try.func61, Try.ntmps61
  go_wp2
  go_loopw [7] (fun u wr => ∃ (j : Nat) (l' : List Pt), u = .int .i64 j ∧ (j < m ∨ j = 0) ∧ l'.length = n ∧ l'.Perm l ∧ SameFrom m l' l ∧ DownInv l' j m ∧ Only (fun b => b = g) w wr ∧ OwnO wr base (.slice (some ⟨g, 0, none⟩) n cap) l') (fun u _ => m - (intOf u).toNat)
  case atStart => exact ⟨0, l, rfl, .inr rfl, hn, List.Perm.refl _, fun _ _ => rfl, HU.out, Only.refl _ _, HO.out⟩
  case round =>
    obtain ⟨j, l', rfl, hj, hl', hp, hsame, hu, hk, ho⟩ := hrel
    have HO2 := Lib.hid ho
    have HP := Lib.hid hp
    have HSM := Lib.hid hsame
    have HU2 := Lib.hid hu
    have HK := Lib.hid hk
    have hb2 : wr.heap[bo]? = some (.cells #[.slice (some ⟨g, 0, none⟩) n cap] 69) := (hk.block bo (Array.getElem?_eq_some_iff.1 HB.out).1 hne).trans HB.out
    have c0 := cell_of_heap hb2 0 _ rfl
    have lb := (Array.getElem?_eq_some_iff.1 hb2).1
    have e1 : ((2 * j + 1 : Nat) : Int) = 2 * (j : Int) + 1 := by omega
    have e2 : ((2 * j + 2 : Nat) : Int) = 2 * (j : Int) + 1 + 1 := by omega
    have E1 := Lib.hid e1
    have E2 := Lib.hid e2
    clear ho hp hu hk hb2 hsame e1 e2
    by_cases h1 : 2 * j + 1 < m
    · have PK : ∀ c, 0 < c → c < m → par c = j → c = 2 * j + 1 ∨ c = 2 * j + 2 := fun c a _ b => par_kids a b
      by_cases h2 : 2 * j + 2 < m
      · have L21 : Hid (∀ w', OwnO w' base (.slice (some ⟨g, 0, none⟩) n cap) l' → Gives Try.prog 81 #[.slice (some ⟨g, 0, none⟩) n cap, .int .i64 (2 * (j : Int) + 1 + 1), .int .i64 (2 * (j : Int) + 1)] w' (.bool (decide (hy l' (2 * j + 2) < hy l' (2 * j + 1))))) := fun w' h => by
          have := less_any g n cap base (2 * j + 2) (2 * j + 1) l' w' hl' (by omega) (by omega) h
          rwa [E1.out, E2.out] at this
        cases h21 : decide (hy l' (2 * j + 2) < hy l' (2 * j + 1))
        · have LT := of_decide_eq_false h21
          have LEAST : ∀ c, 0 < c → c < m → par c = j → hy l' (2 * j + 1) ≤ hy l' c := fun c c0 c1 cp => by
            rcases PK c c0 c1 cp with rfl | rfl
            · exact Int.le_refl _
            · omega
          rw [h21] at L21
          clear h21 LT
          have LK : Hid (∀ w', OwnO w' base (.slice (some ⟨g, 0, none⟩) n cap) l' → Gives Try.prog 81 #[.slice (some ⟨g, 0, none⟩) n cap, .int .i64 (2 * (j : Int) + 1), .int .i64 j] w' (.bool (decide (hy l' (2 * j + 1) < hy l' j)))) := fun w' h => by
            have := less_any g n cap base (2 * j + 1) j l' w' hl' (by omega) (by omega) h
            rwa [E1.out] at this
          have SW : Hid (∀ w', OwnO w' base (.slice (some ⟨g, 0, none⟩) n cap) l' → Calls Try.prog 82 #[.slice (some ⟨g, 0, none⟩) n cap, .int .i64 j, .int .i64 (2 * (j : Int) + 1)] w' fun e w'' => e = .returned (.tuple #[]) ∧ Only (fun b => b = g) w' w'' ∧ OwnO w'' base (.slice (some ⟨g, 0, none⟩) n cap) (swapL l' j (2 * j + 1))) := fun w' h => by
            have := swap_any g n cap base j (2 * j + 1) l' w' hl' (by omega) (by omega) h
            rwa [E1.out] at this
          cases hb : decide (hy l' (2 * j + 1) < hy l' j)
          · have FIN : Hid (IsHeap l' m) := HU2.out.done fun c c0 c1 cp => by
              have a := LEAST c c0 c1 cp
              have b := of_decide_eq_false hb
              omega
            rw [hb] at LK
            clear hb SW LEAST PK
            go_wp2_with (first | (go_at_call 81; with_reducible refine Calls.mono (Gives.calls (L21.out _ HO2.out)) ?_; rintro e w1 ⟨rfl, z1, rfl⟩) | (go_at_call 81; with_reducible refine Calls.mono (Gives.calls (LK.out _ (HO2.out.later z1))) ?_; rintro e w1 ⟨rfl, z, rfl⟩))
            go_ret
            exact ⟨_, rfl, l', HP.out, HSM.out, FIN.out, HK.out.trans ((Only.later z1).trans (Only.later z)), (HO2.out.later z1).later z⟩
          · have STEP : Hid (DownInv (swapL l' j (2 * j + 1)) (2 * j + 1) m) := HU2.out.step (by omega) (by omega) (by omega) (by unfold par; omega) (of_decide_eq_true hb) LEAST
            rw [hb] at LK
            clear hb LEAST PK
            go_wp2_with (first | (go_at_call 81; with_reducible refine Calls.mono (Gives.calls (L21.out _ HO2.out)) ?_; rintro e w1 ⟨rfl, z1, rfl⟩) | (go_at_call 81; with_reducible refine Calls.mono (Gives.calls (LK.out _ (HO2.out.later z1))) ?_; rintro e w1 ⟨rfl, z, rfl⟩; have cz := (z.cell bo 0 (Nat.lt_of_lt_of_le lb z1.size)).trans ((z1.cell bo 0 lb).trans c0)) | (go_at_call 82; refine Calls.mono (SW.out _ ((HO2.out.later z1).later z)) ?_; rintro e w1 ⟨rfl, o1, o2⟩; have H1 := Lib.hid o1; have H2 := Lib.hid o2; clear o1 o2))
            go_roundw
            case rel => exact ⟨2 * j + 1, swapL l' j (2 * j + 1), by first | rfl | rw [E1.out], by omega, by rw [swapL_length]; exact hl', (swap_perm (by omega) (by omega)).trans HP.out, same_swap HSM.out (by omega) (by omega) (by omega), STEP.out, (HK.out.trans ((Only.later z1).trans (Only.later z))).trans H1.out, H2.out⟩
            case measure => simp [intOf]; omega
        · have LT := of_decide_eq_true h21
          have LEAST : ∀ c, 0 < c → c < m → par c = j → hy l' (2 * j + 2) ≤ hy l' c := fun c c0 c1 cp => by
            rcases PK c c0 c1 cp with rfl | rfl
            · omega
            · exact Int.le_refl _
          rw [h21] at L21
          clear h21 LT
          have LK : Hid (∀ w', OwnO w' base (.slice (some ⟨g, 0, none⟩) n cap) l' → Gives Try.prog 81 #[.slice (some ⟨g, 0, none⟩) n cap, .int .i64 (2 * (j : Int) + 1 + 1), .int .i64 j] w' (.bool (decide (hy l' (2 * j + 2) < hy l' j)))) := fun w' h => by
            have := less_any g n cap base (2 * j + 2) j l' w' hl' (by omega) (by omega) h
            rwa [E2.out] at this
          have SW : Hid (∀ w', OwnO w' base (.slice (some ⟨g, 0, none⟩) n cap) l' → Calls Try.prog 82 #[.slice (some ⟨g, 0, none⟩) n cap, .int .i64 j, .int .i64 (2 * (j : Int) + 1 + 1)] w' fun e w'' => e = .returned (.tuple #[]) ∧ Only (fun b => b = g) w' w'' ∧ OwnO w'' base (.slice (some ⟨g, 0, none⟩) n cap) (swapL l' j (2 * j + 2))) := fun w' h => by
            have := swap_any g n cap base j (2 * j + 2) l' w' hl' (by omega) (by omega) h
            rwa [E2.out] at this
          cases hb : decide (hy l' (2 * j + 2) < hy l' j)
          · have FIN : Hid (IsHeap l' m) := HU2.out.done fun c c0 c1 cp => by
              have a := LEAST c c0 c1 cp
              have b := of_decide_eq_false hb
              omega
            rw [hb] at LK
            clear hb SW LEAST PK
            go_wp2_with (first | (go_at_call 81; with_reducible refine Calls.mono (Gives.calls (L21.out _ HO2.out)) ?_; rintro e w1 ⟨rfl, z1, rfl⟩) | (go_at_call 81; with_reducible refine Calls.mono (Gives.calls (LK.out _ (HO2.out.later z1))) ?_; rintro e w1 ⟨rfl, z, rfl⟩))
            go_ret
            exact ⟨_, rfl, l', HP.out, HSM.out, FIN.out, HK.out.trans ((Only.later z1).trans (Only.later z)), (HO2.out.later z1).later z⟩
          · have STEP : Hid (DownInv (swapL l' j (2 * j + 2)) (2 * j + 2) m) := HU2.out.step (by omega) (by omega) (by omega) (by unfold par; omega) (of_decide_eq_true hb) LEAST
            rw [hb] at LK
            clear hb LEAST PK
            go_wp2_with (first | (go_at_call 81; with_reducible refine Calls.mono (Gives.calls (L21.out _ HO2.out)) ?_; rintro e w1 ⟨rfl, z1, rfl⟩) | (go_at_call 81; with_reducible refine Calls.mono (Gives.calls (LK.out _ (HO2.out.later z1))) ?_; rintro e w1 ⟨rfl, z, rfl⟩; have cz := (z.cell bo 0 (Nat.lt_of_lt_of_le lb z1.size)).trans ((z1.cell bo 0 lb).trans c0)) | (go_at_call 82; refine Calls.mono (SW.out _ ((HO2.out.later z1).later z)) ?_; rintro e w1 ⟨rfl, o1, o2⟩; have H1 := Lib.hid o1; have H2 := Lib.hid o2; clear o1 o2))
            go_roundw
            case rel => exact ⟨2 * j + 2, swapL l' j (2 * j + 2), by first | rfl | rw [E2.out], by omega, by rw [swapL_length]; exact hl', (swap_perm (by omega) (by omega)).trans HP.out, same_swap HSM.out (by omega) (by omega) (by omega), STEP.out, (HK.out.trans ((Only.later z1).trans (Only.later z))).trans H1.out, H2.out⟩
            case measure => simp [intOf]; omega
      · have LEAST : ∀ c, 0 < c → c < m → par c = j → hy l' (2 * j + 1) ≤ hy l' c := fun c c0 c1 cp => by
          rcases PK c c0 c1 cp with rfl | rfl
          · exact Int.le_refl _
          · omega
        have LK : Hid (∀ w', OwnO w' base (.slice (some ⟨g, 0, none⟩) n cap) l' → Gives Try.prog 81 #[.slice (some ⟨g, 0, none⟩) n cap, .int .i64 (2 * (j : Int) + 1), .int .i64 j] w' (.bool (decide (hy l' (2 * j + 1) < hy l' j)))) := fun w' h => by
          have := less_any g n cap base (2 * j + 1) j l' w' hl' (by omega) (by omega) h
          rwa [E1.out] at this
        have SW : Hid (∀ w', OwnO w' base (.slice (some ⟨g, 0, none⟩) n cap) l' → Calls Try.prog 82 #[.slice (some ⟨g, 0, none⟩) n cap, .int .i64 j, .int .i64 (2 * (j : Int) + 1)] w' fun e w'' => e = .returned (.tuple #[]) ∧ Only (fun b => b = g) w' w'' ∧ OwnO w'' base (.slice (some ⟨g, 0, none⟩) n cap) (swapL l' j (2 * j + 1))) := fun w' h => by
          have := swap_any g n cap base j (2 * j + 1) l' w' hl' (by omega) (by omega) h
          rwa [E1.out] at this
        cases hb : decide (hy l' (2 * j + 1) < hy l' j)
        · have FIN : Hid (IsHeap l' m) := HU2.out.done fun c c0 c1 cp => by
            have a := LEAST c c0 c1 cp
            have b := of_decide_eq_false hb
            omega
          rw [hb] at LK
          clear hb SW LEAST PK
          go_wp2_with (first | (go_at_call 81; with_reducible refine Calls.mono (Gives.calls (LK.out _ HO2.out)) ?_; rintro e w1 ⟨rfl, z, rfl⟩))
          go_ret
          exact ⟨_, rfl, l', HP.out, HSM.out, FIN.out, HK.out.trans (Only.later z), HO2.out.later z⟩
        · have STEP : Hid (DownInv (swapL l' j (2 * j + 1)) (2 * j + 1) m) := HU2.out.step (by omega) (by omega) (by omega) (by unfold par; omega) (of_decide_eq_true hb) LEAST
          rw [hb] at LK
          clear hb LEAST PK
          go_wp2_with (first | (go_at_call 81; with_reducible refine Calls.mono (Gives.calls (LK.out _ HO2.out)) ?_; rintro e w1 ⟨rfl, z, rfl⟩; have cz := (z.cell bo 0 lb).trans c0) | (go_at_call 82; refine Calls.mono (SW.out _ (HO2.out.later z)) ?_; rintro e w1 ⟨rfl, o1, o2⟩; have H1 := Lib.hid o1; have H2 := Lib.hid o2; clear o1 o2))
          go_roundw
          case rel => exact ⟨2 * j + 1, swapL l' j (2 * j + 1), by first | rfl | rw [E1.out], by omega, by rw [swapL_length]; exact hl', (swap_perm (by omega) (by omega)).trans HP.out, same_swap HSM.out (by omega) (by omega) (by omega), STEP.out, (HK.out.trans (Only.later z)).trans H1.out, H2.out⟩
          case measure => simp [intOf]; omega
    · have FIN : Hid (IsHeap l' m) := HU2.out.done fun c c0 c1 cp => by
        rcases par_kids c0 cp with rfl | rfl <;> omega
      go_wp2_with fail
      go_ret
      exact ⟨_, rfl, l', HP.out, HSM.out, FIN.out, HK.out, HO2.out⟩
end Go.Proofs.Ytelfinjnbncnlaa
