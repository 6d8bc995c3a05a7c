/- wader's greatest, longest and Longest: walked. -/
import Derived.Test.YtlljjaafejjeeaaKLengths
namespace Go.Proofs.Ytlljjaafejjeeaa
open Go.RowKit

theorem IsInts.congr {w : World} {A : Option Addr} {n : Nat} {f g : Nat → Int} (h : IsInts w A n f) (e : ∀ i, i < n → f i = g i) : IsInts w A n g :=
  ⟨h.small, fun h0 => let ⟨b, off, ea, hp⟩ := h.at_ h0; ⟨b, off, ea, hp.lt, fun i hi => by rw [← e i hi]; exact hp.at_ i hi⟩⟩
theorem lens_facts {V : World} {base n : Nat} {v : Value} {H : Nat → Nat} (ho : OwnI V base v (natZ (lensN H n))) (hn : n ≤ 30) : ∃ B c, v = .slice B n c ∧ IsInts V B n fun k => (H k : Nat) := by
  obtain ⟨B, c, rfl⟩ := ho.shape_n (n := n) ((natZ_length _).trans (lensN_length H n))
  exact ⟨B, c, rfl, (ho.ints (by rw [natZ_length, lensN_length]; omega)).2.congr fun i hi => lensZ_get hi⟩
set_option maxRecDepth 100000 in
theorem greatest_any (n cap : Nat) (A : Option Addr) (H : Nat → Nat) (w : World) (hn : n ≤ 1000) (hH : ∀ k, H k ≤ n) (hp : IsInts w A n fun k => (H k : Nat)) :
    Gives Try.prog 28 #[.slice A n cap] w (.int .i64 (grt H n : Nat)) := by
  have HP := Lib.hid hp
  have HH := Lib.hid hH
  have MS := Lib.hid fun k => maxTo_step (p := fun _ => true) (g := H) (k := k)
  have M0 : Hid (maxTo (fun _ => true) H 0 = 0) := rfl
  have MG : Hid (maxTo (fun _ => true) H n = grt H n) := rfl
  have ML : Hid (∀ k, maxTo (fun _ => true) H k ≤ n) := fun k => maxTo_le k fun j _ _ => hH j
  generalize maxTo (fun _ => true) H = M at *
  clear hp hH
  go_enter Try.func28, Try.ntmps28
  go_wp2
  go_loopw [3, 8] (fun u v wr => ∃ k : Nat, u = .int .i64 (M k : Nat) ∧ v = .int .i64 (k : Nat) ∧ k ≤ n ∧ ∃ y : Later w, wr = y.val) (fun _ v _ => n - (intOf v).toNat)
  case atStart => exact ⟨0, by rw [M0.out]; rfl, rfl, by omega, later_of (by repeat (first | exact Below.refl _ _ | (with_reducible assumption) | apply below_later | apply below_alloc | apply below_drew | apply below_drewN))⟩
  case round =>
    obtain ⟨k, rfl, rfl, hk, y, rfl⟩ := hrel
    by_cases hlt : k < n
    · obtain ⟨b, off, hB, p⟩ := (HP.out.later y).at_ (by omega)
      subst hB
      have ck := p.at_ k hlt
      have lb := p.lt
      have MS1 : Hid (M (k + 1) = max (M k) (H k)) := MS.out k
      have b1 := ML.out k
      have b2 := HH.out k
      clear p
      generalize M k = mk at *
      generalize H k = hk1 at *
      go_wp2
      all_goals
        go_roundw
        case rel => exact ⟨k + 1, by rw [MS1.out]; congr 1; omega, by go_num, by omega, later_of (by repeat (first | exact Below.refl _ _ | (with_reducible assumption) | apply below_later | apply below_alloc | apply below_drew | apply below_drewN))⟩
        case measure => simp [intOf]; omega
    · obtain rfl : k = n := by omega
      go_wp2
      go_ret
      exact ⟨ret_int (by rw [MG.out]), later_of (by repeat (first | exact Below.refl _ _ | (with_reducible assumption) | apply below_later | apply below_alloc | apply below_drew | apply below_drewN))⟩
theorem longL_some {L : Nat → Nat → Bool} {n : Nat} {H : Nat → Nat} {d i : Nat} {l : List Nat} (hi : i < n) (h1 : H i = d + 1) (h2 : behind L l i = true) (hf : ∀ j, j < i → H j = d + 1 → behind L l j = false) : longL L n H (d + 1) l = longL L n H d (l ++ [i]) := by
  have h : fstN (fun i => decide (H i = d + 1) && behind L l i) n = some i := fstN_some hi (by simp [h1, h2]) fun j hj => by
    by_cases e : H j = d + 1
    · rw [hf j hj e]; simp
    · simp [e]
  rw [longL, h]
theorem longL_none {L : Nat → Nat → Bool} {n : Nat} {H : Nat → Nat} {d : Nat} {l : List Nat} (hf : ∀ j, j < n → H j = d + 1 → behind L l j = false) : longL L n H (d + 1) l = longL L n H d l := by
  have h : fstN (fun i => decide (H i = d + 1) && behind L l i) n = none := fstN_none fun j hj => by
    by_cases e : H j = d + 1
    · rw [hf j hj e]; simp
    · simp [e]
  rw [longL, h]
theorem behind_nil (L : Nat → Nat → Bool) (i : Nat) : behind L [] i = true := rfl
theorem behind_last (L : Nat → Nat → Bool) (l : List Nat) (j i : Nat) : behind L (l ++ [j]) i = L j i := by simp [behind]
theorem maxTo_top {p : Nat → Bool} {g : Nat → Nat} {k c : Nat} (h : ∀ j, g j ≤ c) : maxTo p g k ≤ c := maxTo_le k fun j _ _ => h j
set_option maxRecDepth 100000 in
set_option maxHeartbeats 6400000 in
theorem longest_any (n cap : Nat) (A : Option Addr) (s : Int) (X Y T : Nat → Int) (μ : Nat → Nat) (w : World) (W : Watch n s X Y T) (hp : IsChs w A n X Y T) (D : Down (onL s X Y T) n μ) :
    GivesI 25 #[.agg #[.slice A n cap, .int .i64 s]] w (natZ (longM (onL s X Y T) n (hgt (onL s X Y T) n))) := by
  have hn30 := W.n30
  have hb : Below w.heap.size w (w.alloc (.cells #[.slice A n cap, .int .i64 s] 53)) := (Below.refl _ _).alloc (Nat.le_refl _) _
  obtain ⟨c0, c1, l0⟩ := box2 w (.slice A n cap) (.int .i64 s) 53
  have HP := Lib.hid (hp.below hb)
  have HB := Lib.hid hb
  have LE := Lib.hid fun (V : World) (h : IsChs V A n X Y T) => lengths_leads n cap A s X Y T μ V W h D
  have HH := Lib.hid fun k => hgt_le (onL s X Y T) n k
  have LD : Hid (∀ (i k : Nat) (V : World), i < n → k < n → IsChs V A n X Y T → Gives Try.prog 43 #[.agg #[.slice A n cap, .int .i64 s], .int .i64 i, .int .i64 k] V (.bool (onL s X Y T i k))) := fun i k V hi hk h => leads_any s n cap i k A X Y T V hi hk W h
  have GR := Lib.hid fun (V : World) (B : Option Addr) (c : Nat) (h : IsInts V B n fun k => (hgt (onL s X Y T) n k : Nat)) => greatest_any n c B (hgt (onL s X Y T) n) V (by omega) (fun k => hgt_le _ n k) h
  generalize hgt (onL s X Y T) n = H at *
  generalize onL s X Y T = L at *
  have HG : Hid (grt H n ≤ n) := maxTo_top HH.out
  have HM : Hid (longM L n H = longL L n H (grt H n) []) := rfl
  generalize longM L n H = res at *
  generalize grt H n = g0 at *
  clear hp hb W D
  obtain ⟨i0, hi0, hz0, hz1, hz2⟩ := info_int
  go_enter Try.func25, Try.ntmps25
  go_wp2_with (first
    | (go_at_call 26; with_reducible refine Calls.mono (GivesI.calls (LE.out _ HP.out)) ?_; rintro e w1 ⟨v, rfl, z, rfl, ho⟩; obtain ⟨B1, cB, rfl, io⟩ := lens_facts ho hn30; have IO2 := Lib.hid io; clear ho io)
    | (go_at_call 28; with_reducible refine Calls.mono (Gives.calls (GR.out _ _ _ IO2.out)) ?_; rintro e w1 ⟨rfl, z2, rfl⟩))
  have HBZ : Hid (Below (w.alloc (.cells #[.slice A n cap, .int .i64 s] 53)).heap.size (w.alloc (.cells #[.slice A n cap, .int .i64 s] 53)) z2.val) := by show Below _ _ _; repeat (first | exact Below.refl _ _ | (with_reducible assumption) | apply below_later | apply below_alloc | apply below_drew | apply below_drewN)
  have IO3 : Hid (IsInts z2.val B1 n fun k => (H k : Nat)) := IO2.out.below (by repeat (first | exact Below.refl _ _ | (with_reducible assumption) | apply below_later | apply below_alloc | apply below_drew | apply below_drewN))
  obtain ⟨b9, hb9⟩ : ∃ b9, w.heap.size = b9 := ⟨_, rfl⟩
  have HB9 := Lib.hid hb9
  rw [hb9] at c0 c1 l0 ⊢
  clear hb9 IO2
  generalize w.alloc (.cells #[.slice A n cap, .int .i64 s] 53) = B at *
  have a0 := (HBZ.out.cell (p := ⟨b9, 0, none⟩) l0).trans c0
  have a1 := (HBZ.out.cell (p := ⟨b9, 1, none⟩) l0).trans c1
  have a2 := Nat.lt_of_lt_of_le l0 HBZ.out.size
  have HPZ := Lib.hid (HP.out.below HBZ.out)
  clear c0 c1 l0 HP
  generalize z2.val = Z at *
  go_loopw [4, 5] (fun u v wr => ∃ (d : Nat) (l : List Nat), v = .int .i64 (d : Nat) ∧ d ≤ n ∧ l.length + d ≤ n ∧ (∀ x, x ∈ l → x < n) ∧ Below Z.heap.size Z wr ∧ OwnI wr Z.heap.size u (natZ l) ∧ longL L n H d l = res) (fun _ v _ => (intOf v).toNat)
  case atStart => exact ⟨g0, [], rfl, HG.out, by simpa using HG.out, by simp, Below.refl _ _, OwnI.nil _ _, HM.out.symm⟩
  case round =>
    obtain ⟨d, l, rfl, hd, hld, hlx, hbl, ho, hres⟩ := hrel
    have HBL := Lib.hid hbl
    have HO := Lib.hid ho
    have HLX := Lib.hid hlx
    have HRES := Lib.hid hres
    obtain ⟨O, cO, eO⟩ := ho.shape_n (natZ_length l)
    subst eO
    have q0 := (hbl.cell (p := ⟨b9, 0, none⟩) a2).trans a0
    have q1 := (hbl.cell (p := ⟨b9, 1, none⟩) a2).trans a1
    have q2 := Nat.lt_of_lt_of_le a2 hbl.size
    clear hbl ho hlx hres
    rcases Nat.eq_zero_or_pos d with hd0 | hd0
    · subst hd0
      have HF : Hid (l = res) := HRES.out
      go_wp2_with fail
      go_ret
      exact ⟨_, rfl, ⟨_, below_more HB.out (below_more HBZ.out HBL.out)⟩, rfl, by rw [← HF.out]; exact HO.out.mono (by have := HBZ.out.size; have := HB.out.size; omega)⟩
    · obtain ⟨d', hd'⟩ : ∃ d', d = d' + 1 := ⟨d - 1, by omega⟩
      have HD := Lib.hid hd'
      have HR2 : Hid (longL L n H (d' + 1) l = res) := hd' ▸ HRES.out
      clear hd' HRES
      have IO4 := Lib.hid (IO3.out.below HBL.out)
      have HP4 := Lib.hid (HPZ.out.below HBL.out)
      generalize wr = U at *
      have hlen : l.length ≤ n := by omega
      go_wp2_with fail
      go_loopw [4, 20] (fun u v wr => ∃ k : Nat, u = .slice O l.length cO ∧ v = .int .i64 (k : Nat) ∧ k ≤ n ∧ (∀ j, j < k → H j = d → behind L l j = false) ∧ ∃ y : Later U, wr = y.val) (fun _ v _ => n - (intOf v).toNat)
      case atStart => exact ⟨0, rfl, rfl, by omega, fun j hj => by omega, ⟨⟨U, Below.refl _ _⟩, rfl⟩⟩
      case round =>
        obtain ⟨k, rfl, rfl, hk, hno, y, rfl⟩ := hrel
        have HNO := Lib.hid hno
        clear hno
        have r0 := (y.cell _ 0 q2).trans q0
        have r1 := (y.cell _ 1 q2).trans q1
        have r2 := y.lt _ q2
        by_cases hlt : k < n
        · obtain ⟨bb, ob, hBB, p⟩ := (IO4.out.later y).at_ (by omega)
          have ck := p.at_ k hlt
          have lb := p.lt
          rw [hBB]
          clear p
          have HOY := Lib.hid (HO.out.later y)
          by_cases hH : H k = d
          · have e1 : ((H k : Int) == (d : Int)) = true := by rw [hH]; simp
            rcases List.eq_nil_or_concat l with hl | ⟨l', j, hl⟩
            · subst hl
              have HN : Hid (longL L n H d' [k] = res) := by
                show _ = _
                rw [← HR2.out, longL_some hlt (hH.trans HD.out) rfl fun q hq hh => HNO.out q hq (hh.trans HD.out.symm)]
                rfl
              have e2 : (((List.length ([] : List Nat) : Nat) : Int) == 0) = true := rfl
              clear hH
              go_wp2_with fail
              refine wp_region_later (by kernel_rfl) (by kernel_rfl) ?_
              repeat (go_big_quiet_step ((fail)))
              refine wpQuiet_nil ?_
              intro y2
              have HOY2 := Lib.hid (HOY.out.later y2)
              have HUY : Hid (Below Z.heap.size Z y2.val) := below_more HBL.out (below_more y.ok y2.ok)
              go_wp2_with (at_builtin; refine wpList_append_own_at _ rfl _ _ 24 rfl Z.heap.size 3 i0 (.int .i64 0) 1 8 Try.underlying24 hi0 hz0 hz1 hz2 rfl (by decide) _ _ _ rfl ((own_row HOY2.out (natZ_length [])).alloc _) ⟨_, 0, none⟩ 1 1 [.int .i64 (k : Nat)] rfl rfl lit_news one_int ?g1 ?g2 ?g3 ?_)
              case g1 => unfold maxLen; omega
              case g2 => omega
              case g3 => have := HUY.out.size; simp only [World.size_alloc]; omega
              intro v6 w6 hown2 hgrow _ hat
              have hb6 : Below Z.heap.size Z w6 := below_own (w1 := y2.val.alloc (.cells #[.int .i64 (k : Nat)] 3)) (below_alloc HUY.out) ((own_row HOY2.out (natZ_length [])).alloc _) (Nat.le_refl _) hgrow
              have HO6 : Hid (OwnI w6 Z.heap.size v6 (natZ ([] ++ [k]))) := by
                show OwnI _ _ _ _
                unfold OwnI
                rw [natZ_length, List.length_append, cellsI_nat]
                exact hown2
              have HB6 := Lib.hid hb6
              clear hown2 hgrow hat hb6
              go_wp2_with fail
              have hd9 := HD.out
              rw [← hBB]
              go_roundw
              case rel => exact ⟨d', [] ++ [k], by rw [hd9]; go_num, by omega, by simp only [List.length_append, List.length_cons, List.length_nil]; omega, fun x hx => by
                rcases List.mem_append.1 hx with hx | hx
                · exact HLX.out x hx
                · simp at hx; omega, HB6.out, HO6.out, HN.out⟩
              case measure => simp [intOf]; omega
            · have e2 : ((l.length : Int) == 0) = false := by rw [hl]; simp; omega
              have hjn : j < n := HLX.out j (by rw [hl]; simp)
              have hl0 : 0 < l.length := by rw [hl]; simp
              obtain ⟨og, oc, eO2, _, og2, _⟩ := HOY.out.form (natZ_length l) hl0
              have oc1 := (HOY.out.ints (by rw [natZ_length]; omega)).2
              obtain ⟨ob, oo, eOB, op⟩ := oc1.at_ hl0
              have e3 : IntKind.i64.wrap ((l.length : Int) - 1) = ((l.length - 1 : Nat) : Int) := by
                rw [show ((l.length : Int) - 1) = ((l.length - 1 : Nat) : Int) by omega]
                exact IntWalk.i64_in _ ⟨by omega, by omega⟩
              have oj := op.at_ (l.length - 1) (by omega)
              have ol := op.lt
              have ej : (natZ l).getD (l.length - 1) 0 = (j : Nat) := by rw [natZ_getD, hl]; simp
              rw [ej] at oj
              have hbe : behind L l k = L j k := by rw [hl, List.concat_eq_append]; exact behind_last L l' j k
              have LD1 := Lib.hid fun V h => LD.out j k V hjn hlt h
              have HPY := Lib.hid (HP4.out.later y)
              have HOB := Lib.hid eOB
              rw [eOB]
              clear op ej eO2 og2 oc1
              cases hL : L j k
              case false =>
                rw [hL] at LD1
                have HN : Hid (∀ q, q < k + 1 → H q = d → behind L l q = false) := fun q hq hh => by
                  by_cases e : q = k
                  · subst e; rw [hbe, hL]
                  · exact HNO.out q (by omega) hh
                clear hL hH hbe hl eOB
                go_wp2_with fail
                refine wp_region_later (by kernel_rfl) (by kernel_rfl) ?_
                repeat (go_big_quiet_step ((go_at_call 43; (with_reducible refine Later.call _ (LD1.out _ (HPY.out.below (by repeat (first | exact Below.refl _ _ | (with_reducible assumption) | apply below_later | apply below_alloc | apply below_drew | apply below_drewN))))))))
                refine wpQuiet_nil ?_
                intro y2
                go_wp2_with fail
                rw [← HOB.out]
                refine ⟨⟨k + 1, rfl, by go_num, by omega, HN.out, later_of (by repeat (first | exact Below.refl _ _ | (with_reducible assumption) | apply below_later | apply below_alloc | apply below_drew | apply below_drewN))⟩, ?_⟩
                simp [intOf]; omega
              case true =>
                rw [hL] at LD1
                have HN : Hid (longL L n H d' (l ++ [k]) = res) := by
                  show _ = _
                  rw [← HR2.out, longL_some hlt (hH.trans HD.out) (hbe.trans hL) fun q hq hh => HNO.out q hq (hh.trans HD.out.symm)]
                clear hL hH hbe hl
                go_wp2_with fail
                refine wp_region_later (by kernel_rfl) (by kernel_rfl) ?_
                repeat (go_big_quiet_step ((go_at_call 43; (with_reducible refine Later.call _ (LD1.out _ (HPY.out.below (by repeat (first | exact Below.refl _ _ | (with_reducible assumption) | apply below_later | apply below_alloc | apply below_drew | apply below_drewN))))))))
                refine wpQuiet_nil ?_
                intro y2
                rw [eOB] at HOY
                have HOY2 := Lib.hid (HOY.out.later y2)
                have HUY : Hid (Below Z.heap.size Z y2.val) := below_more HBL.out (below_more y.ok y2.ok)
                go_wp2_with (at_builtin; refine wpList_append_own_at _ rfl _ _ 24 rfl Z.heap.size 3 i0 (.int .i64 0) 1 8 Try.underlying24 hi0 hz0 hz1 hz2 rfl (by decide) _ _ _ rfl ((own_row HOY2.out (natZ_length l)).alloc _) ⟨_, 0, none⟩ 1 1 [.int .i64 (k : Nat)] rfl rfl lit_news one_int ?g1 ?g2 ?g3 ?_)
                case g1 => unfold maxLen; omega
                case g2 => omega
                case g3 => have := HUY.out.size; simp only [World.size_alloc]; omega
                intro v6 w6 hown2 hgrow _ hat
                have hb6 : Below Z.heap.size Z w6 := below_own (w1 := y2.val.alloc (.cells #[.int .i64 (k : Nat)] 3)) (below_alloc HUY.out) ((own_row HOY2.out (natZ_length l)).alloc _) (Nat.le_refl _) hgrow
                have HO6 : Hid (OwnI w6 Z.heap.size v6 (natZ (l ++ [k]))) := by
                  show OwnI _ _ _ _
                  unfold OwnI
                  rw [natZ_length, List.length_append, cellsI_nat]
                  exact hown2
                have HB6 := Lib.hid hb6
                clear hown2 hgrow hat hb6
                go_wp2_with fail
                have hd9 := HD.out
                rw [← hBB]
                try rw [← eOB]
                go_roundw
                case rel => exact ⟨d', l ++ [k], by rw [hd9]; go_num, by omega, by simp only [List.length_append, List.length_cons, List.length_nil]; omega, fun x hx => by
                  rcases List.mem_append.1 hx with hx | hx
                  · exact HLX.out x hx
                  · simp at hx; omega, HB6.out, HO6.out, HN.out⟩
                case measure => simp [intOf]; omega
          · have e1 : ((H k : Int) == (d : Int)) = false := by simp; omega
            have HN : Hid (∀ j, j < k + 1 → H j = d → behind L l j = false) := fun j hj hh => by
              by_cases e : j = k
              · subst e; exact absurd hh hH
              · exact HNO.out j (by omega) hh
            clear hH
            go_wp2_with fail
            refine wp_region_later (by kernel_rfl) (by kernel_rfl) ?_
            repeat (go_big_quiet_step ((fail)))
            refine wpQuiet_nil ?_
            intro y2
            go_wp2_with fail
            refine ⟨⟨k + 1, rfl, by go_num, by omega, HN.out, later_of (by repeat (first | exact Below.refl _ _ | (with_reducible assumption) | apply below_later | apply below_alloc | apply below_drew | apply below_drewN))⟩, ?_⟩
            simp [intOf]; omega
        · obtain rfl : k = n := by omega
          have HN : Hid (longL L k H d' l = res) := by show _ = _; rw [← HR2.out, longL_none fun q hq hh => HNO.out q hq (hh.trans HD.out.symm)]
          go_wp2_with fail
          have hd9 := HD.out
          refine ⟨⟨d', l, by rw [hd9]; go_num, by omega, by omega, HLX.out, below_more HBL.out y.ok, HO.out.later y, HN.out⟩, ?_⟩
          simp [intOf]; omega
end Go.Proofs.Ytlljjaafejjeeaa
