/- thatch's neediest: walked. -/
import Derived.Test.YtcjahpbbkdkbpaaTSort2
import Derived.Test.YtcjahpbbkdkbpaaTNeedM
namespace Go.Proofs.Ytcjahpbbkdkbpaa
open Go.RowKit

/-- A list of one's own, cut. -/
theorem ownI_take {w : World} {base g n cap j : Nat} {l : List Int} (h : OwnI w base (.slice (some ⟨g, 0, none⟩) n cap) l) (hj : j ≤ l.length) : OwnI w base (.slice (some ⟨g, 0, none⟩) j cap) (l.take j) := by
  rcases h.2 with ⟨e, _⟩ | ⟨g', cap', cur, e, hb, hh, hn, hm, hs, hx⟩
  · simp only [Value.slice.injEq] at e; cases e.1
  · simp only [Value.slice.injEq, Option.some.injEq, Addr.mk.injEq] at e
    obtain ⟨⟨rfl, _⟩, rfl, rfl⟩ := e
    have ll : (l.take j).length = j := by rw [List.length_take]; omega
    unfold OwnI
    rw [ll]
    refine ⟨by rw [cellsI_length, ll, Nat.mul_one], .inr ⟨g, cap, cur, rfl, hb, hh, by omega, hm, hs, ?_⟩⟩
    have : cellsI (l.take j) = (cellsI l).take j := by simp [cellsI, List.map_take]
    rw [this, ← hx, List.take_take]
    congr 1
    omega
theorem posL_next (lf : Nat → Nat) (i : Nat) (h : 0 < lf i) : posL lf (i + 1) = posL lf i ++ [(i : Int)] := by rw [posL, if_pos h]
theorem posL_skip (lf : Nat → Nat) (i : Nat) (h : ¬ 0 < lf i) : posL lf (i + 1) = posL lf i := by rw [posL, if_neg h, List.append_nil]
theorem posL_le (lf : Nat → Nat) (n : Nat) : (posL lf n).length ≤ n := by rw [posL_length]; exact cntN_le _ _
/-- What neediest hands back: an hour. -/
def HourL (lf : Nat → Nat) (n h : Nat) (l : List Int) : Prop :=
  1 ≤ l.length ∧ l.length ≤ h ∧ (∀ x ∈ l, (0 : Int) ≤ x ∧ x < n) ∧ (∀ i, i + 1 < l.length → at_ l i < at_ l (i + 1)) ∧ Hour lf n h (fun c => decide ((c : Int) ∈ l))
theorem hourL_of {lf : Nat → Nat} {n h m : Nat} {l2 l4 : List Int} (hh : 1 ≤ h) (h0 : 1 ≤ l2.length) (hp : l2.Perm (posL lf n)) (hs : Srt (fun x => ((lf x.toNat : Nat) : Int)) l2 l2.length) (hm : m = min h l2.length) (hp4 : l4.Perm (l2.take m)) (hs4 : Srt (fun x => -x) l4 l4.length) : HourL lf n h l4 := by
  obtain ⟨h1, h2, h3, h4⟩ := hour_of hp hs hm hp4 hs4
  exact ⟨by omega, by omega, h2, h3, h4⟩
set_option maxRecDepth 100000 in
set_option maxHeartbeats 3200000 in
theorem neediest_any (n cap hd : Nat) (L : Option Addr) (lf : Nat → Nat) (w : World) (hn : n ≤ 10) (hh : 1 ≤ hd) (hh2 : hd ≤ 10) (hlf : ∀ i, i < n → lf i ≤ 1000) (hpos : 1 ≤ (posL lf n).length) (hp : IsInts w L n fun i => ((lf i : Nat) : Int)) :
    Calls Try.prog 45 #[.slice L n cap, .int .i64 hd] w fun e w' => ∃ v l, e = .returned v ∧ HourL lf n hd l ∧ ∃ x : Later w, w' = x.val ∧ OwnI w' w.heap.size v l := by
  obtain ⟨i0, hi0, hz0, hz1, hz2⟩ := info_int
  have HP := Lib.hid hp
  have HLF := Lib.hid hlf
  have PN := Lib.hid (posL_next lf)
  have PS := Lib.hid (posL_skip lf)
  have PL := Lib.hid (posL_le lf)
  have P0 : Hid (posL lf 0 = []) := rfl
  have HIN : Hid (∀ x ∈ posL lf n, (0 : Int) ≤ x ∧ x < n) := fun x hx => by obtain ⟨c, h1, _, h3⟩ := mem_posL.1 hx; omega
  have HRES := Lib.hid fun (m : Nat) (l2 l4 : List Int) (h0 : 1 ≤ l2.length) (hp : l2.Perm (posL lf n)) (hs : Srt (fun x => ((lf x.toNat : Nat) : Int)) l2 l2.length) (hm : m = min hd l2.length) (hp4 : l4.Perm (l2.take m)) (hs4 : Srt (fun x => -x) l4 l4.length) => hourL_of hh h0 hp hs hm hp4 hs4
  clear hp hlf
  generalize posL lf = pl at *
  go_enter Try.func45, Try.ntmps45
  go_wp2_with fail
  have hz0w : (w.alloc (.cells #[.slice L n cap] 44)).cell? ⟨w.heap.size, 0, none⟩ = some (.slice L n cap) := by simp
  have hzl : w.heap.size < (w.alloc (.cells #[.slice L n cap] 44)).heap.size := by simp
  have hzb : Below w.heap.size w (w.alloc (.cells #[.slice L n cap] 44)) := below_alloc (Below.refl _ _)
  generalize w.alloc (.cells #[.slice L n cap] 44) = Z at *
  generalize hbv : w.heap.size = bv at *
  have HZC := Lib.hid hz0w
  have HZL := Lib.hid hzl
  have HZB := Lib.hid hzb
  have HPZ := Lib.hid (HP.out.below (show Below w.heap.size w Z by rw [hbv]; exact hzb))
  clear hz0w hzl hzb HP
  go_loopw [5, 10] (fun u v wr => ∃ i : Nat, v = .int .i64 (i : Nat) ∧ i ≤ n ∧ Below Z.heap.size Z wr ∧ OwnI wr Z.heap.size u (pl i)) (fun _ v _ => n - (intOf v).toNat)
  case atStart => exact ⟨0, rfl, by omega, Below.refl _ _, by rw [P0.out]; exact OwnI.nil _ _⟩
  case round =>
    obtain ⟨i, rfl, hi, hbl, ho⟩ := hrel
    generalize wr = W1 at *
    have HBL := Lib.hid hbl
    have HO := Lib.hid ho
    clear hbl ho
    by_cases hlt : i < n
    · obtain ⟨bl, ol, hA, q⟩ := (HPZ.out.below HBL.out).at_ (by omega)
      subst hA
      have ci := q.at_ i hlt
      have li := q.lt
      clear q
      by_cases hc : 0 < lf i
      · have hg1 : decide (((lf i : Nat) : Int) > 0) = true := by simp; omega
        have hg2 : decide ((0 : Int) < ((lf i : Nat) : Int)) = true := by simp; omega
        have hg3 : decide (0 < lf i) = true := by simp; omega
        have PN1 := Lib.hid (PN.out i hc)
        have PL1 := PL.out i
        go_wp2_with (at_builtin; refine wpList_append_own_at _ rfl _ _ 44 rfl Z.heap.size 3 i0 (.int .i64 0) 1 8 Try.underlying44 hi0 hz0 hz1 hz2 rfl (by decide) _ _ _ rfl ((own_row HO.out rfl).alloc _) ⟨_, 0, none⟩ 1 1 [.int .i64 (i : Nat)] rfl rfl lit_news one_int ?g1 ?g2 ?g3 ?_)
        case g1 => unfold maxLen; omega
        case g2 => omega
        case g3 => have := HBL.out.size; simp only [World.size_alloc]; omega
        intro v6 w6 hown2 hgrow _ hat
        have hb6 : Below Z.heap.size Z w6 := below_own (w1 := W1.alloc (.cells #[.int .i64 (i : Nat)] 3)) (below_alloc HBL.out) ((own_row HO.out rfl).alloc _) (Nat.le_refl _) hgrow
        have HO6 : Hid (OwnI w6 Z.heap.size v6 (pl (i + 1))) := by
          show OwnI _ _ _ _
          rw [PN1.out]
          exact push_own (P := Try.prog) (w := w6) (v := v6) hown2
        have HB6 := Lib.hid hb6
        clear hown2 hgrow hat hb6
        go_wp2_with fail
        all_goals
          first
            | (refine ⟨⟨i + 1, by go_num, by omega, HB6.out, HO6.out⟩, ?_⟩; simp [intOf]; omega)
            | (go_roundw
               case rel => exact ⟨i + 1, by go_num, by omega, HB6.out, HO6.out⟩
               case measure => simp [intOf]; omega)
      · have hg1 : decide (((lf i : Nat) : Int) > 0) = false := by simp; omega
        have hg2 : decide ((0 : Int) < ((lf i : Nat) : Int)) = false := by simp; omega
        have hg3 : decide (0 < lf i) = false := by simp; omega
        have PS1 := Lib.hid (PS.out i hc)
        go_wp2_with fail
        all_goals
          first
            | (refine ⟨⟨i + 1, by go_num, by omega, HBL.out, by rw [PS1.out]; exact HO.out⟩, ?_⟩; simp [intOf]; omega)
            | (go_roundw
               case rel => exact ⟨i + 1, by go_num, by omega, HBL.out, by rw [PS1.out]; exact HO.out⟩
               case measure => simp [intOf]; omega)
    · obtain rfl : i = n := by omega
      obtain ⟨go, c5, eO, hgo, _, hcap⟩ := HO.out.form rfl (by omega)
      subst eO
      have hl10 := PL.out i
      have ST := Lib.hid (sortStable_any Z W1 (pl i).length c5 go i cap bv L lf (pl i) rfl hpos (by omega) HIN.out HLF.out HZC.out HZL.out HPZ.out hgo HBL.out HO.out)
      generalize hk : (pl i).length = k at *
      have SO := Lib.hid fun (V : World) (m : Nat) (l2 : List Int) (hm : m = min hd k) (hp2 : l2.Perm (pl i)) (hb : Below Z.heap.size Z V) (ho : OwnI V Z.heap.size (.slice (some ⟨go, 0, none⟩) k c5) l2) => sort_any Z V m c5 go i (l2.take m) (by rw [List.length_take, hp2.length_eq, hk]; omega) (by omega) (by omega) (fun x hx => HIN.out x (hp2.mem_iff.1 (List.mem_of_mem_take hx))) (by omega) hgo hb (ownI_take ho (by rw [hp2.length_eq, hk]; omega))
      unfold Sorted at ST SO
      go_wp2_with (first
        | (go_at_call 50; with_reducible refine Calls.mono ST.out ?_; rintro e w2 ⟨rfl, l2, hp2, hs2, hb2, ho2⟩; have HP2 := Lib.hid hp2; have HS2 := Lib.hid hs2; have HB2 := Lib.hid hb2; have HO2 := Lib.hid ho2; clear hp2 hs2 hb2 ho2)
        | (go_at_call 52; with_reducible refine Calls.mono (SO.out _ _ l2 (by omega) HP2.out HB2.out HO2.out) ?_; rintro e w3 ⟨rfl, l4, hp4, hs4, hb4, ho4⟩; have HP4 := Lib.hid hp4; have HS4 := Lib.hid hs4; have HB4 := Lib.hid hb4; have HO4 := Lib.hid ho4; clear hp4 hs4 hb4 ho4))
      all_goals
        go_ret
        have HO5 := HO4.out
        first | rw [if_pos h, Int.toNat_natCast] at HO5 | rw [if_neg h, Int.toNat_natCast] at HO5
        have hl2 : l2.length = k := by rw [HP2.out.length_eq, hk]
        refine ⟨_, rfl, l4, HRES.out _ l2 l4 (by omega) HP2.out (by rw [hl2, ← hk]; exact HS2.out) ?_ HP4.out (by rw [HP4.out.length_eq]; exact HS4.out), ⟨⟨w3, below_more (show Below w.heap.size w Z by rw [hbv]; exact HZB.out) HB4.out⟩, rfl⟩, HO5.mono (show bv ≤ Z.heap.size by have := HZL.out; omega)⟩
        omega
end Go.Proofs.Ytcjahpbbkdkbpaa
