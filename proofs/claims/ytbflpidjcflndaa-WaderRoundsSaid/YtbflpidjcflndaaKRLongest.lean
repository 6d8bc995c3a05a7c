/- The document's Longest: walked. -/
import Derived.Test.YtbflpidjcflndaaKChains
import Derived.Test.YtbflpidjcflndaaKAwake
import Derived.Test.YtbflpidjcflndaaKRMarked
namespace Go.Proofs.Ytbflpidjcflndaa
open Go.RowKit

set_option maxRecDepth 100000 in
theorem RLongest_bad (s : Int) (n cap : Nat) (A : Option Addr) (X Y T : Nat → Int) (V : World) (hv : validW n s X Y T = false) (hn : n ≤ 1000) (hp : IsChs V A n X Y T) :
    Gives Try.prog 30 #[.slice A n cap, .int .i64 s] V (.tuple #[.slice none 0 0, .int .i64 60]) := by
  have VA : Hid (∀ U, Below V.heap.size V U → Gives Try.prog 18 #[.slice A n cap, .int .i64 s] U (.bool false)) := fun U h => hv ▸ krvalid_any s A n cap X Y T U hn (hp.below h)
  clear hp hv
  go_enter Try.func30, Try.ntmps30
  go_wp2_with (go_at_call 18; with_reducible refine Calls.mono (Gives.calls (VA.out _ (by repeat (first | exact Below.refl _ _ | (with_reducible assumption) | apply below_later | apply below_alloc | apply below_drew | apply below_drewN)))) ?_; rintro e w1 ⟨rfl, z, rfl⟩)
  go_ret2
  exact ⟨rfl, later_of (by repeat (first | exact Below.refl _ _ | (with_reducible assumption) | apply below_later | apply below_alloc | apply below_drew | apply below_drewN))⟩
set_option maxRecDepth 100000 in
set_option maxHeartbeats 6400000 in
theorem RLongest_ok (s : Int) (n cap : Nat) (A : Option Addr) (X Y T : Nat → Int) (w : World) (W : Watch n s X Y T) (hp : IsChs w A n X Y T) :
    Calls Try.prog 30 #[.slice A n cap, .int .i64 s] w (PostIE w (natZ (longW n s X Y T)) 0) := by
  have hn30 := W.n30
  have VA := Lib.hid fun (V : World) (h : Below w.heap.size w V) => watch_iff.2 W ▸ krvalid_any s A n cap X Y T V (by omega) (hp.below h)
  have CH := Lib.hid fun (V : World) (h : Below w.heap.size w V) => chains_false s n cap A X Y T _ V W (hp.below h) (down_L W)
  have HP := Lib.hid hp
  have HH := Lib.hid fun k => hgt_le (onL s X Y T) n k
  have LD : Hid (∀ (i k : Nat) (V : World), i < n → k < n → IsChs V A n X Y T → Gives Try.prog 50 #[.slice A n cap, .int .i64 s, .int .i64 i, .int .i64 k] V (.bool (onL s X Y T i k))) := fun i k V hi hk h => rleads_any s n cap i k A X Y T V hi hk W h
  unfold longW
  generalize hgt (onL s X Y T) n = H at *
  generalize onL s X Y T = L at *
  have HG : Hid (grt H n ≤ n) := maxTo_top HH.out
  have HM : Hid (longM L n H = longL L n H (grt H n) []) := rfl
  have MS := Lib.hid fun k => maxTo_step (p := fun _ => true) (g := H) (k := k)
  have M0 : Hid (maxTo (fun _ => true) H 0 = 0) := rfl
  have MG : Hid (maxTo (fun _ => true) H n = grt H n) := rfl
  have ML : Hid (∀ k, maxTo (fun _ => true) H k ≤ n) := fun k => maxTo_le k fun j _ _ => HH.out j
  generalize maxTo (fun _ => true) H = M at *
  generalize longM L n H = res at *
  generalize grt H n = g0 at *
  clear hp W
  obtain ⟨i0, hi0, hz0, hz1, hz2⟩ := info_int
  go_enter Try.func30, Try.ntmps30
  go_wp2_with (first
    | (go_at_call 18; with_reducible refine Calls.mono (Gives.calls (VA.out _ (by repeat (first | exact Below.refl _ _ | (with_reducible assumption) | apply below_later | apply below_alloc | apply below_drew | apply below_drewN)))) ?_; rintro e w1 ⟨rfl, z0, rfl⟩)
    | (go_at_call 68; with_reducible refine Calls.mono (GivesI.calls (CH.out _ z0.ok)) ?_; rintro e w1 ⟨v, rfl, z, rfl, ho⟩; obtain ⟨B1, cB, rfl, io⟩ := lens_facts ho hn30; have IO2 := Lib.hid io; clear ho io))
  have HBZ : Hid (Below w.heap.size w z.val) := below_more z0.ok z.ok
  have IO3 := IO2
  have HPZ := Lib.hid (HP.out.below HBZ.out)
  clear HP IO2 CH VA
  generalize z.val = Z at *
  go_loopw [7, 8] (fun u v wr => ∃ k : Nat, u = .int .i64 (M k : Nat) ∧ v = .int .i64 (k : Nat) ∧ k ≤ n ∧ ∃ y : Later Z, wr = y.val) (fun _ v _ => n - (intOf v).toNat)
  case atStart => exact ⟨0, by rw [M0.out]; rfl, rfl, by omega, ⟨⟨Z, Below.refl _ _⟩, rfl⟩⟩
  case round =>
   obtain ⟨k, rfl, rfl, hk, y, rfl⟩ := hrel
   by_cases hlt : k < n
   · obtain ⟨b, off, hB, p⟩ := (IO3.out.later y).at_ (by omega)
     have HBO := Lib.hid hB
     rw [hB]
     have ck := p.at_ k hlt
     have lb := p.lt
     have MS1 : Hid (M (k + 1) = max (M k) (H k)) := MS.out k
     have b1 := ML.out k
     have b2 := HH.out k
     clear p hB
     generalize M k = mk at *
     generalize H k = hk1 at *
     have YV : Hid (∀ V, Below y.val.heap.size y.val V → ∃ y2 : Later Z, V = y2.val) := fun V h => ⟨⟨V, below_more y.ok h⟩, rfl⟩
     generalize y.val = Q at *
     go_wp2
     all_goals
       try rw [← HBO.out]
       go_roundw
       case rel => exact ⟨k + 1, by rw [MS1.out]; congr 1; omega, by go_num, by omega, YV.out _ (Below.refl _ _)⟩
       case measure => simp [intOf]; omega
   · obtain rfl : n = k := by omega
     have IO5 := Lib.hid (IO3.out.later y)
     have HPZ5 := Lib.hid (HPZ.out.later y)
     have HBZ5 : Hid (Below w.heap.size w y.val) := below_more HBZ.out y.ok
     rw [MG.out]
     clear IO3 HPZ HBZ MS M0 ML MG
     generalize y.val = Z at *
     go_wp2
     go_loopw [9, 7] (fun u v wr => ∃ (d : Nat) (l : List Nat), v = .int .i64 (d : Nat) ∧ d ≤ n ∧ l.length + d ≤ n ∧ (∀ x, x ∈ l → x < n) ∧ Below Z.heap.size Z wr ∧ OwnI wr Z.heap.size u (natZ l) ∧ longL L n H d l = res) (fun _ v _ => (intOf v).toNat)
     case atStart => exact ⟨g0, [], rfl, HG.out, by simpa using HG.out, by simp, Below.refl _ _, OwnI.nil _ _, HM.out.symm⟩
     case round =>
       obtain ⟨d, l, rfl, hd, hld, hlx, hbl, ho, hres⟩ := hrel
       have HBL := Lib.hid hbl
       have HO := Lib.hid ho
       have HLX := Lib.hid hlx
       have HRES := Lib.hid hres
       obtain ⟨O, cO, eO⟩ := ho.shape_n (natZ_length l)
       subst eO
       clear hbl ho hlx hres
       rcases Nat.eq_zero_or_pos d with hd0 | hd0
       · subst hd0
         have HF : Hid (l = res) := HRES.out
         go_wp2_with fail
         go_ret2
         exact ⟨_, rfl, ⟨_, below_more HBZ5.out HBL.out⟩, rfl, by rw [← HF.out]; exact HO.out.mono HBZ5.out.size⟩
       · obtain ⟨d', hd'⟩ : ∃ d', d = d' + 1 := ⟨d - 1, by omega⟩
         have HD := Lib.hid hd'
         have HR2 : Hid (longL L n H (d' + 1) l = res) := hd' ▸ HRES.out
         clear hd' HRES
         have IO4 := Lib.hid (IO5.out.below HBL.out)
         have HP4 := Lib.hid (HPZ5.out.below HBL.out)
         generalize wr = U at *
         have hlen : l.length ≤ n := by omega
         go_wp2_with fail
         go_loopw [9, 10] (fun u v wr => ∃ k : Nat, u = .slice O l.length cO ∧ v = .int .i64 (k : Nat) ∧ k ≤ n ∧ (∀ j, j < k → H j = d → behind L l j = false) ∧ ∃ y : Later U, wr = y.val) (fun _ v _ => n - (intOf v).toNat)
         case atStart => exact ⟨0, rfl, rfl, by omega, fun j hj => by omega, ⟨⟨U, Below.refl _ _⟩, rfl⟩⟩
         case round =>
           obtain ⟨k, rfl, rfl, hk, hno, y, rfl⟩ := hrel
           have HNO := Lib.hid hno
           clear hno
           by_cases hlt : k < n
           · obtain ⟨bb, ob, hBB, p⟩ := (IO4.out.later y).at_ (by omega)
             have ck := p.at_ k hlt
             have lb := p.lt
             rw [hBB]
             clear p
             have HOY := Lib.hid (HO.out.later y)
             by_cases hH : H k = d
             · have e1 : ((H k : Int) == (d : Int)) = true := by rw [hH]; simp
               rcases List.eq_nil_or_concat l with hl | ⟨l', j, hl⟩
               · subst hl
                 have HN : Hid (longL L n H d' [k] = res) := by
                   show _ = _
                   rw [← HR2.out, longL_some hlt (hH.trans HD.out) rfl fun q hq hh => HNO.out q hq (hh.trans HD.out.symm)]
                   rfl
                 have e2 : (((List.length ([] : List Nat) : Nat) : Int) == 0) = true := rfl
                 clear hH
                 have HOY2 := HOY
                 have HUY : Hid (Below Z.heap.size Z y.val) := below_more HBL.out y.ok
                 go_wp2_with (at_builtin; refine wpList_append_own_at _ rfl _ _ 34 rfl Z.heap.size 3 i0 (.int .i64 0) 1 8 Try.underlying34 hi0 hz0 hz1 hz2 rfl (by decide) _ _ _ rfl ((own_row HOY2.out (natZ_length [])).alloc _) ⟨_, 0, none⟩ 1 1 [.int .i64 (k : Nat)] rfl rfl lit_news one_int ?g1 ?g2 ?g3 ?_)
                 case g1 => unfold maxLen; omega
                 case g2 => omega
                 case g3 => have := HUY.out.size; simp only [World.size_alloc]; omega
                 intro v6 w6 hown2 hgrow _ hat
                 have hb6 : Below Z.heap.size Z w6 := below_own (w1 := y.val.alloc (.cells #[.int .i64 (k : Nat)] 3)) (below_alloc HUY.out) ((own_row HOY2.out (natZ_length [])).alloc _) (Nat.le_refl _) hgrow
                 have HO6 : Hid (OwnI w6 Z.heap.size v6 (natZ ([] ++ [k]))) := by
                   show OwnI _ _ _ _
                   unfold OwnI
                   rw [natZ_length, List.length_append, cellsI_nat]
                   exact hown2
                 have HB6 := Lib.hid hb6
                 clear hown2 hgrow hat hb6
                 go_wp2_with fail
                 have hd9 := HD.out
                 rw [← hBB]
                 go_roundw
                 case rel => exact ⟨d', [] ++ [k], by rw [hd9]; go_num, by omega, by simp only [List.length_append, List.length_cons, List.length_nil]; omega, fun x hx => by
                   rcases List.mem_append.1 hx with hx | hx
                   · exact HLX.out x hx
                   · simp at hx; omega, HB6.out, HO6.out, HN.out⟩
                 case measure => simp [intOf]; omega
               · have e2 : ((l.length : Int) == 0) = false := by rw [hl]; simp; omega
                 have hjn : j < n := HLX.out j (by rw [hl]; simp)
                 have hl0 : 0 < l.length := by rw [hl]; simp
                 obtain ⟨og, oc, eO2, _, og2, _⟩ := HOY.out.form (natZ_length l) hl0
                 have oc1 := (HOY.out.ints (by rw [natZ_length]; omega)).2
                 obtain ⟨ob, oo, eOB, op⟩ := oc1.at_ hl0
                 have e3 : IntKind.i64.wrap ((l.length : Int) - 1) = ((l.length - 1 : Nat) : Int) := by
                   rw [show ((l.length : Int) - 1) = ((l.length - 1 : Nat) : Int) by omega]
                   exact IntWalk.i64_in _ ⟨by omega, by omega⟩
                 have oj := op.at_ (l.length - 1) (by omega)
                 have ol := op.lt
                 have ej : (natZ l).getD (l.length - 1) 0 = (j : Nat) := by rw [natZ_getD, hl]; simp
                 rw [ej] at oj
                 have hbe : behind L l k = L j k := by rw [hl, List.concat_eq_append]; exact behind_last L l' j k
                 have LD1 := Lib.hid fun V h => LD.out j k V hjn hlt h
                 have HPY := Lib.hid (HP4.out.later y)
                 have HOB := Lib.hid eOB
                 rw [eOB]
                 clear op ej eO2 og2 oc1
                 cases hL : L j k
                 case false =>
                   rw [hL] at LD1
                   have HN : Hid (∀ q, q < k + 1 → H q = d → behind L l q = false) := fun q hq hh => by
                     by_cases e : q = k
                     · subst e; rw [hbe, hL]
                     · exact HNO.out q (by omega) hh
                   clear hL hH hbe hl eOB
                   go_wp2_with (go_at_call 50; with_reducible refine Calls.mono (Gives.calls (LD1.out _ (HPY.out.below (by repeat (first | exact Below.refl _ _ | (with_reducible assumption) | apply below_later | apply below_alloc | apply below_drew | apply below_drewN))))) ?_; rintro e w1 ⟨rfl, y2, rfl⟩)
                   try rw [← HOB.out]
                   try rw [← hBB]
                   first
                     | (refine ⟨⟨k + 1, rfl, by go_num, by omega, HN.out, later_of (by repeat (first | exact Below.refl _ _ | (with_reducible assumption) | apply below_later | apply below_alloc | apply below_drew | apply below_drewN))⟩, ?_⟩; simp [intOf]; omega)
                     | (go_roundw
                        case rel => exact ⟨k + 1, rfl, by go_num, by omega, HN.out, later_of (by repeat (first | exact Below.refl _ _ | (with_reducible assumption) | apply below_later | apply below_alloc | apply below_drew | apply below_drewN))⟩
                        case measure => simp [intOf]; omega)
                 case true =>
                   rw [hL] at LD1
                   have HN : Hid (longL L n H d' (l ++ [k]) = res) := by
                     show _ = _
                     rw [← HR2.out, longL_some hlt (hH.trans HD.out) (hbe.trans hL) fun q hq hh => HNO.out q hq (hh.trans HD.out.symm)]
                   clear hL hH hbe hl
                   rw [eOB] at HOY
                   have HOL : Hid (∀ y2 : Later y.val, OwnI y2.val Z.heap.size (.slice (some ⟨ob, oo, none⟩) l.length cO) (natZ l)) := fun y2 => HOY.out.later y2
                   have HUYL : Hid (∀ y2 : Later y.val, Below Z.heap.size Z y2.val) := fun y2 => below_more HBL.out (below_more y.ok y2.ok)
                   go_wp2_with (first
                     | (go_at_call 50; with_reducible refine Calls.mono (Gives.calls (LD1.out _ (HPY.out.below (by repeat (first | exact Below.refl _ _ | (with_reducible assumption) | apply below_later | apply below_alloc | apply below_drew | apply below_drewN))))) ?_; rintro e w1 ⟨rfl, y2, rfl⟩)
                     | (at_builtin; refine wpList_append_own_at _ rfl _ _ 34 rfl Z.heap.size 3 i0 (.int .i64 0) 1 8 Try.underlying34 hi0 hz0 hz1 hz2 rfl (by decide) _ _ _ rfl ((own_row (HOL.out y2) (natZ_length l)).alloc _) ⟨_, 0, none⟩ 1 1 [.int .i64 (k : Nat)] rfl rfl lit_news one_int ?g1 ?g2 ?g3 ?_))
                   case g1 => unfold maxLen; omega
                   case g2 => omega
                   case g3 => have := (HUYL.out y2).size; simp only [World.size_alloc]; omega
                   intro v6 w6 hown2 hgrow _ hat
                   have hb6 : Below Z.heap.size Z w6 := below_own (w1 := y2.val.alloc (.cells #[.int .i64 (k : Nat)] 3)) (below_alloc (HUYL.out y2)) ((own_row (HOL.out y2) (natZ_length l)).alloc _) (Nat.le_refl _) hgrow
                   have HO6 : Hid (OwnI w6 Z.heap.size v6 (natZ (l ++ [k]))) := by
                     show OwnI _ _ _ _
                     unfold OwnI
                     rw [natZ_length, List.length_append, cellsI_nat]
                     exact hown2
                   have HB6 := Lib.hid hb6
                   clear hown2 hgrow hat hb6
                   go_wp2_with fail
                   have hd9 := HD.out
                   rw [← hBB]
                   try rw [← eOB]
                   go_roundw
                   case rel => exact ⟨d', l ++ [k], by rw [hd9]; go_num, by omega, by simp only [List.length_append, List.length_cons, List.length_nil]; omega, fun x hx => by
                     rcases List.mem_append.1 hx with hx | hx
                     · exact HLX.out x hx
                     · simp at hx; omega, HB6.out, HO6.out, HN.out⟩
                   case measure => simp [intOf]; omega
             · have e1 : ((H k : Int) == (d : Int)) = false := by simp; omega
               have HN : Hid (∀ j, j < k + 1 → H j = d → behind L l j = false) := fun j hj hh => by
                 by_cases e : j = k
                 · subst e; exact absurd hh hH
                 · exact HNO.out j (by omega) hh
               clear hH
               go_wp2_with fail
               try rw [← hBB]
               first
                 | (refine ⟨⟨k + 1, rfl, by go_num, by omega, HN.out, later_of (by repeat (first | exact Below.refl _ _ | (with_reducible assumption) | apply below_later | apply below_alloc | apply below_drew | apply below_drewN))⟩, ?_⟩; simp [intOf]; omega)
                 | (go_roundw
                    case rel => exact ⟨k + 1, rfl, by go_num, by omega, HN.out, later_of (by repeat (first | exact Below.refl _ _ | (with_reducible assumption) | apply below_later | apply below_alloc | apply below_drew | apply below_drewN))⟩
                    case measure => simp [intOf]; omega)
           · obtain rfl : k = n := by omega
             have HN : Hid (longL L k H d' l = res) := by show _ = _; rw [← HR2.out, longL_none fun q hq hh => HNO.out q hq (hh.trans HD.out.symm)]
             go_wp2_with fail
             have hd9 := HD.out
             refine ⟨⟨d', l, by rw [hd9]; go_num, by omega, by omega, HLX.out, below_more HBL.out y.ok, HO.out.later y, HN.out⟩, ?_⟩
             simp [intOf]; omega
end Go.Proofs.Ytbflpidjcflndaa
