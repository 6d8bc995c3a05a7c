/- wader's Rounds: walked. -/
import Derived.Test.YtlljjaafejjeeaaKRounds
namespace Go.Proofs.Ytlljjaafejjeeaa
open Go.RowKit

set_option maxRecDepth 100000 in
theorem Rounds_bad (s : Int) (n cap : Nat) (A : Option Addr) (X Y T : Nat → Int) (w : World) (hp : n ≤ 30 → IsChs w A n X Y T) (hv : validW n s X Y T = false) :
    Gives Try.prog 11 #[.slice A n cap, .int .i64 s] w (.tuple #[.slice none 0 0, .int .i64 60]) := by
  have VA := Lib.hid fun (V : World) (h : n ≤ 30 → IsChs V A n X Y T) => hv ▸ kvalid_any s A n cap X Y T V h
  have HP := Lib.hid hp
  clear hp hv
  go_enter Try.func11, Try.ntmps11
  go_wp2_with (go_at_call 21; (first | (with_reducible show Calls _ _ _ (Later.val _) _; with_reducible refine Calls.mono (Later.call _ (VA.out _ (fun h => (HP.out h).below (by repeat (first | exact Below.refl _ _ | (with_reducible assumption) | apply below_later | apply below_alloc | apply below_drew | apply below_drewN))))) ?_) | (with_reducible refine Calls.mono (Gives.calls (VA.out _ (fun h => (HP.out h).below (by repeat (first | exact Below.refl _ _ | (with_reducible assumption) | apply below_later | apply below_alloc | apply below_drew | apply below_drewN))))) ?_)); rintro e w1 ⟨rfl, z, rfl⟩)
  go_ret2
  exact ⟨rfl, later_of (by repeat (first | exact Below.refl _ _ | (with_reducible assumption) | apply below_later | apply below_alloc | apply below_drew | apply below_drewN))⟩
theorem rds_of {n G : Nat} {H : Nat → Nat} {rows : List (List Int)} (hl : rows.length = G) (h : ∀ d, d < G → rows.getD d [] = natZ (rowD n H d)) : rows = rdsTo n H G := by
  apply List.ext_getElem
  · rw [rdsTo_length, hl]
  · intro i h1 h2
    have := h i (by omega)
    rw [List.getD_eq_getElem?_getD, List.getElem?_eq_getElem h1] at this
    simp only [Option.getD_some] at this
    rw [this]
    simp [rdsTo]
set_option maxRecDepth 100000 in
set_option maxHeartbeats 6400000 in
theorem Rounds_ok (s : Int) (n cap : Nat) (A : Option Addr) (X Y T : Nat → Int) (w : World) (W : Watch n s X Y T) (hp : IsChs w A n X Y T) :
    Calls Try.prog 11 #[.slice A n cap, .int .i64 s] w (PostTE w (rdsTo n (hgt (onF s X Y T) n) (grt (hgt (onF s X Y T) n) n)) 0) := by
  have hn30 := W.n30
  have VA := Lib.hid fun (V : World) (h : Below w.heap.size w V) => watch_iff.2 W ▸ kvalid_any s A n cap X Y T V fun _ => hp.below h
  have LE := Lib.hid fun (V : World) (h : Below w.heap.size w V) => lengths_follows n cap A s X Y T _ V W (hp.below h) (down_F W)
  have HH := Lib.hid fun k => hgt_le (onF s X Y T) n k
  have H1 := Lib.hid fun k (hk : k < n) => hgt_pos (down_F W) hk
  have GR := Lib.hid fun (V : World) (B : Option Addr) (c : Nat) (h : IsInts V B n fun k => (hgt (onF s X Y T) n k : Nat)) => greatest_any n c B (hgt (onF s X Y T) n) V (by omega) (fun k => hgt_le _ n k) h
  have HGE := Lib.hid fun k (hk : k < n) => maxTo_ge (p := fun _ => true) (g := hgt (onF s X Y T) n) n k hk rfl
  generalize hgt (onF s X Y T) n = H at *
  have HG : Hid (grt H n ≤ n) := maxTo_top HH.out
  have HGE2 : Hid (∀ k, k < n → H k ≤ grt H n) := HGE.out
  have RD := Lib.hid fun rows (hl : List.length rows = grt H n) h => rds_of (n := n) (H := H) hl h
  obtain ⟨fl, hfl⟩ : ∃ fl : Nat → Nat → List Nat, (fun d k => (List.range k).filter fun i => decide (H i = d + 1)) = fl := ⟨_, rfl⟩
  have FD : Hid (∀ d, rowD n H d = fl d n) := fun d => by rw [← hfl]; rfl
  have F0 : Hid (∀ d, fl d 0 = []) := fun d => by rw [← hfl]; rfl
  have FS : Hid (∀ d k, fl d (k + 1) = fl d k ++ if H k = d + 1 then [k] else []) := fun d k => by
    rw [← hfl]
    dsimp only
    rw [List.range_succ, List.filter_append]
    congr 1
    by_cases e : H k = d + 1
    · rw [if_pos e, List.filter_cons_of_pos (by simpa using e)]; rfl
    · rw [if_neg e, List.filter_cons_of_neg (by simpa using e)]; rfl
  have FL : Hid (∀ d k, (fl d k).length ≤ k) := fun d k => by
    rw [← hfl]
    have := List.length_filter_le (fun i => decide (H i = d + 1)) (List.range k)
    rw [List.length_range] at this
    exact this
  simp only [FD.out] at RD
  clear hfl FD HGE
  generalize rdsTo n H = rds at *
  generalize grt H n = G at *
  have hG30 : G ≤ 1000 := by have := HG.out; omega
  have MK : ∀ w', (Instr.makeSlice 23 (.int .i64 (G : Int)) (.int .i64 (G : Int))).run Try.prog w' = .ok (.slice (some ⟨w'.heap.size, 0, none⟩) G G) (w'.alloc (.cells (madeCells #[Value.slice none 0 0] G) 24)) := fun w' => make_lists w' G (by omega)
  clear hp W
  obtain ⟨i0, hi0, hz0, hz1, hz2⟩ := info_int
  go_enter Try.func11, Try.ntmps11
  go_wp2_with (first
    | (go_at_call 21; with_reducible refine Calls.mono (Gives.calls (VA.out _ (by repeat (first | exact Below.refl _ _ | (with_reducible assumption) | apply below_later | apply below_alloc | apply below_drew | apply below_drewN)))) ?_; rintro e w1 ⟨rfl, z0, rfl⟩)
    | (go_at_call 26; with_reducible refine Calls.mono (GivesI.calls (LE.out _ (by repeat (first | exact Below.refl _ _ | (with_reducible assumption) | apply below_later | apply below_alloc | apply below_drew | apply below_drewN)))) ?_; rintro e w1 ⟨v, rfl, z, rfl, ho⟩; obtain ⟨B1, cB, rfl, io⟩ := lens_facts ho hn30; have IO2 := Lib.hid io; clear ho io)
    | (go_at_call 28; with_reducible refine Calls.mono (Gives.calls (GR.out _ _ _ IO2.out)) ?_; rintro e w1 ⟨rfl, z2, rfl⟩))
  have HBZ : Hid (Below w.heap.size w z2.val) := by show Below _ _ _; repeat (first | exact Below.refl _ _ | (with_reducible assumption) | apply below_later | apply below_alloc | apply below_drew | apply below_drewN)
  have IO3 : Hid (IsInts z2.val B1 n fun k => (H k : Nat)) := IO2.out.below (by repeat (first | exact Below.refl _ _ | (with_reducible assumption) | apply below_later | apply below_alloc | apply below_drew | apply below_drewN))
  clear VA LE GR IO2
  generalize z2.val = Z at *
  have HBZ2 : Hid (Below w.heap.size w (Z.alloc (.cells (madeCells #[Value.slice none 0 0] G) 24))) := below_alloc HBZ.out
  have IO4 : Hid (IsInts (Z.alloc (.cells (madeCells #[Value.slice none 0 0] G) 24)) B1 n fun k => (H k : Nat)) := IO3.out.below (below_alloc (Below.refl _ _))
  have R0 := Lib.hid (RdS.made Z G Z.heap.size (Nat.le_refl _) (by omega))
  have HB0 : Hid (Below Z.heap.size Z (Z.alloc (.cells (madeCells #[Value.slice none 0 0] G) 24))) := below_alloc (Below.refl _ _)
  obtain ⟨go, hgo⟩ : ∃ go, Z.heap.size = go := ⟨_, rfl⟩
  rw [hgo] at R0 HB0 ⊢
  have HGO := Lib.hid hgo
  clear hgo MK
  generalize hV : Z.alloc (.cells (madeCells #[Value.slice none 0 0] G) 24) = V0 at *
  clear hV
  go_loopw [27] (fun u wr => ∃ (k : Nat) (vs : List Value) (rows : List (List Int)), u = .int .i64 (k : Nat) ∧ k ≤ n ∧ Below go Z wr ∧ RdS go wr go G vs rows ∧ ∀ d, d < G → rows.getD d [] = natZ (fl d k)) (fun u _ => n - (intOf u).toNat)
  case atStart => exact ⟨0, _, _, rfl, by omega, HB0.out, R0.out, fun d hd => by rw [getD_repA hd, F0.out]; rfl⟩
  case round =>
    obtain ⟨k, vs, rows, rfl, hk, hbl, hrd, hrows⟩ := hrel
    clear R0 HB0
    have HBL : Hid (Below Z.heap.size Z wr) := by rw [HGO.out]; exact hbl
    have HRD := Lib.hid hrd
    have HROWS := Lib.hid hrows
    clear hbl hrd hrows
    by_cases hlt : k < n
    · obtain ⟨b, off, hB, p⟩ := (IO3.out.below HBL.out).at_ (by omega)
      have HBO := Lib.hid hB
      have ck := p.at_ k hlt
      have lb := p.lt
      have h1 := H1.out k hlt
      have h2 := HGE2.out k hlt
      obtain ⟨d, hd⟩ : ∃ d, H k = d + 1 := ⟨H k - 1, by omega⟩
      have hdG : d < G := by omega
      have hw : IntKind.i64.wrap (((d + 1 : Nat) : Int) - 1) = (d : Int) := by
        rw [show (((d + 1 : Nat) : Int) - 1) = (d : Int) by omega]
        exact IntWalk.i64_in _ ⟨by omega, by omega⟩
      have hw2 : IntKind.i64.wrap (((d : Int) + 1) - 1) = (d : Int) := by
        rw [show (((d : Int) + 1) - 1) = (d : Int) by omega]
        exact IntWalk.i64_in _ ⟨by omega, by omega⟩
      rw [hd] at ck
      have HD := Lib.hid hd
      obtain ⟨g0, g1⟩ := HRD.out.cell hdG
      have g2 := HRD.out.lt.2
      have hrw := HRD.out.row d hdG
      rw [HROWS.out d hdG] at hrw
      have HRW := Lib.hid hrw
      obtain ⟨A3, c3, e3⟩ := hrw.shape_n (natZ_length _)
      have E3 := Lib.hid e3
      rw [e3] at g0
      have HKL := Lib.hid (FL.out d k)
      rw [hB]
      clear p hB hrw e3 h1 h2
      generalize wr = U at *
      have HRW2 : Hid (OwnI U go (.slice A3 (fl d k).length c3) (natZ (fl d k))) := by
        show OwnI _ _ _ _
        rw [← E3.out]; exact HRW.out
      have STEP := Lib.hid fun (o : Obj) (w5 : World) (v5 : Value) (r : List Int) hg ho hat => HRD.out.step hdG o (w5 := w5) (v5 := v5) (r := r) hg ho hat
      have MID := Lib.hid fun (o : Obj) (w5 : World) hg => HRD.out.mid hdG o (w5 := w5) hg
      rw [E3.out] at STEP MID
      go_wp2_with (at_builtin; refine wpList_append_own_at _ rfl _ _ 24 rfl go 3 i0 (.int .i64 0) 1 8 Try.underlying24 hi0 hz0 hz1 hz2 rfl (by decide) _ _ _ rfl ((own_row HRW2.out (natZ_length _)).alloc _) ⟨_, 0, none⟩ 1 1 [.int .i64 (k : Nat)] rfl rfl lit_news one_int ?g1 ?g2 ?g3 ?_)
      case g1 => have := HKL.out; unfold maxLen; omega
      case g2 => have := HKL.out; omega
      case g3 => have := HBL.out.size; have := HGO.out; first | omega | (simp only [World.size_alloc]; omega)
      intro v6 w6 hown2 hgrow _ hat
      have hb6 : Below Z.heap.size Z w6 := below_own (w1 := U.alloc (.cells #[.int .i64 (k : Nat)] 3)) (below_alloc HBL.out) ((own_row HRW2.out (natZ_length _)).alloc _) (by have := HGO.out; omega) hgrow
      have HO6 : Hid (OwnI w6 go v6 (natZ (fl d k ++ [k]))) := by
        show OwnI _ _ _ _
        unfold OwnI
        rw [natZ_length, List.length_append, cellsI_nat]
        exact hown2
      have ST := Lib.hid (STEP.out _ w6 v6 _ hgrow HO6.out (by rw [World.size_alloc]; exact hat))
      obtain ⟨g4, g5, g6⟩ := MID.out _ w6 hgrow
      have HB6 : Hid (Below go Z (w6.setCell ⟨go, d, none⟩ v6)) := by
        have h := hb6
        rw [HGO.out] at h
        exact h.setCell (p := ⟨go, d, none⟩) (Nat.le_refl _) _
      have RW : Hid (∀ d', d' < G → (rows.set d (natZ (fl d k ++ [k]))).getD d' [] = natZ (fl d' (k + 1))) := fun d' hd' => by
        rw [getD_setA (by rw [HRD.out.rl]; exact hdG), FS.out]
        by_cases e : d' = d
        · rw [if_pos e, if_pos (by rw [HD.out, e]), e]
        · rw [if_neg e, if_neg (by rw [HD.out]; omega), HROWS.out d' hd', List.append_nil]
      clear hown2 hgrow hat hb6 g0 g1 g2 HRW HRW2 E3 STEP MID
      obtain ⟨A6, c6, rfl⟩ := HO6.out.shape
      go_wp2_with fail
      try rw [← HBO.out]
      first
        | (go_roundw
           case rel => exact ⟨k + 1, _, _, by go_num, by omega, HB6.out, ST.out, RW.out⟩
           case measure => simp [intOf]; omega)
        | (refine ⟨⟨k + 1, _, _, by go_num, by omega, HB6.out, ST.out, RW.out⟩, ?_⟩; simp [intOf]; omega)
    · obtain rfl : n = k := by omega
      have HE : Hid (rows = rds G) := RD.out rows HRD.out.rl HROWS.out
      have HT : Hid (OwnT wr go (.slice (some ⟨go, 0, none⟩) G G) (rds G)) := by
        show OwnT _ _ _ _
        rw [← HE.out]; exact HRD.out.own
      have hsz := HBZ.out.size
      go_wp2
      go_ret2
      exact ⟨_, rfl, ⟨_, below_more HBZ.out HBL.out⟩, rfl, HT.out.mono (by rw [← HGO.out]; exact hsz)⟩
end Go.Proofs.Ytlljjaafejjeeaa
