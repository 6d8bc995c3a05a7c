/- The document's Rounds: walked. -/
import Derived.Test.YtbflpidjcflndaaKRLongest
namespace Go.Proofs.Ytbflpidjcflndaa
open Go.RowKit

/-- The sightings of a round. -/
def rowD (n : Nat) (H : Nat → Nat) (d : Nat) : List Nat := (List.range n).filter fun i => decide (H i = d + 1)
/-- The first rounds. -/
def rdsTo (n : Nat) (H : Nat → Nat) (k : Nat) : List (List Int) := (List.range k).map fun d => natZ (rowD n H d)
theorem rdsTo_succ (n : Nat) (H : Nat → Nat) (k : Nat) : rdsTo n H (k + 1) = rdsTo n H k ++ [natZ (rowD n H k)] := by simp [rdsTo, List.range_succ]
theorem rdsTo_length (n : Nat) (H : Nat → Nat) (k : Nat) : (rdsTo n H k).length = k := by simp [rdsTo]
theorem level_some {R : Nat → Nat → Bool} {n : Nat} {μ : Nat → Nat} (D : Down R n μ) : ∀ t, t < grt (hgt R n) n → ∃ i, i < n ∧ hgt R n i = grt (hgt R n) n - t := by
  intro t
  induction t with
  | zero =>
    intro h
    rcases maxTo_at (p := fun _ => true) (g := hgt R n) n with h2 | ⟨j, a, _, c⟩
    · unfold grt at h; omega
    · exact ⟨j, a, c⟩
  | succ t ih =>
    intro h
    obtain ⟨i, hi, e⟩ := ih (by omega)
    obtain ⟨k, hk, _, e2⟩ := hgt_next D hi (by omega)
    exact ⟨k, hk, by omega⟩
theorem rowD_some {R : Nat → Nat → Bool} {n : Nat} {μ : Nat → Nat} (D : Down R n μ) {d : Nat} (h : d < grt (hgt R n) n) : 0 < (rowD n (hgt R n) d).length := by
  obtain ⟨i, hi, e⟩ := level_some D (grt (hgt R n) n - (d + 1)) (by omega)
  have hm : i ∈ rowD n (hgt R n) d := by
    unfold rowD
    simp only [List.mem_filter, List.mem_range, decide_eq_true_eq]
    exact ⟨hi, by omega⟩
  exact List.length_pos_of_mem hm
theorem rowD_none {n : Nat} {H : Nat → Nat} {d : Nat} (h : grt H n ≤ d) : (rowD n H d).length = 0 := by
  have e : rowD n H d = [] := by
    unfold rowD
    rw [List.filter_eq_nil_iff]
    intro i hi
    have h2 := maxTo_ge (p := fun _ => true) (g := H) n i (by simpa using hi) rfl
    unfold grt at h
    simp
    omega
  rw [e]
  rfl
set_option maxRecDepth 100000 in
theorem RRounds_bad (s : Int) (n cap : Nat) (A : Option Addr) (X Y T : Nat → Int) (V : World) (hv : validW n s X Y T = false) (hn : n ≤ 1000) (hp : IsChs V A n X Y T) :
    Gives Try.prog 32 #[.slice A n cap, .int .i64 s] V (.tuple #[.slice none 0 0, .int .i64 60]) := by
  have VA : Hid (∀ U, Below V.heap.size V U → Gives Try.prog 18 #[.slice A n cap, .int .i64 s] U (.bool false)) := fun U h => hv ▸ krvalid_any s A n cap X Y T U hn (hp.below h)
  clear hp hv
  go_enter Try.func32, Try.ntmps32
  go_wp2_with (go_at_call 18; with_reducible refine Calls.mono (Gives.calls (VA.out _ (by repeat (first | exact Below.refl _ _ | (with_reducible assumption) | apply below_later | apply below_alloc | apply below_drew | apply below_drewN)))) ?_; rintro e w1 ⟨rfl, z, rfl⟩)
  go_ret2
  exact ⟨rfl, later_of (by repeat (first | exact Below.refl _ _ | (with_reducible assumption) | apply below_later | apply below_alloc | apply below_drew | apply below_drewN))⟩
set_option maxRecDepth 100000 in
set_option maxHeartbeats 6400000 in
theorem RRounds_ok (s : Int) (n cap : Nat) (A : Option Addr) (X Y T : Nat → Int) (w : World) (W : Watch n s X Y T) (hp : IsChs w A n X Y T) :
    Calls Try.prog 32 #[.slice A n cap, .int .i64 s] w (PostTE w (rdsTo n (hgt (onF s X Y T) n) (grt (hgt (onF s X Y T) n) n)) 0) := by
  have hn30 := W.n30
  have VA := Lib.hid fun (V : World) (h : Below w.heap.size w V) => watch_iff.2 W ▸ krvalid_any s A n cap X Y T V (by omega) (hp.below h)
  have CH := Lib.hid fun (V : World) (h : Below w.heap.size w V) => chains_true s n cap A X Y T _ V W (hp.below h) (down_F W)
  have HH := Lib.hid fun k => hgt_le (onF s X Y T) n k
  have RS := Lib.hid fun d (h : d < grt (hgt (onF s X Y T) n) n) => rowD_some (down_F W) h
  generalize hgt (onF s X Y T) n = H at *
  have RN := Lib.hid fun d (h : grt H n ≤ d) => rowD_none h
  have HG : Hid (grt H n ≤ n) := maxTo_top HH.out
  have RT := Lib.hid (rdsTo_succ n H)
  have RL := Lib.hid (rdsTo_length n H)
  have R0 : Hid (rdsTo n H 0 = []) := rfl
  obtain ⟨fl, hfl⟩ : ∃ fl : Nat → Nat → List Nat, (fun d k => (List.range k).filter fun i => decide (H i = d + 1)) = fl := ⟨_, rfl⟩
  have FD : Hid (∀ d, rowD n H d = fl d n) := fun d => by rw [← hfl]; rfl
  have F0 : Hid (∀ d, fl d 0 = []) := fun d => by rw [← hfl]; rfl
  have FS : Hid (∀ d k, fl d (k + 1) = fl d k ++ if H k = d + 1 then [k] else []) := fun d k => by
    rw [← hfl]
    dsimp only
    rw [List.range_succ, List.filter_append]
    congr 1
    by_cases e : H k = d + 1
    · rw [if_pos e, List.filter_cons_of_pos (by simpa using e)]; rfl
    · rw [if_neg e, List.filter_cons_of_neg (by simpa using e)]; rfl
  have FL : Hid (∀ d k, (fl d k).length ≤ k) := fun d k => by
    rw [← hfl]
    have := List.length_filter_le (fun i => decide (H i = d + 1)) (List.range k)
    rw [List.length_range] at this
    exact this
  simp only [FD.out] at RS RN RT
  clear hfl FD
  generalize rdsTo n H = rds at *
  generalize grt H n = G at *
  clear hp W
  obtain ⟨i0, hi0, hz0, hz1, hz2⟩ := info_int
  obtain ⟨j0, hj0, jz0, jz1, jz2⟩ := info_list
  go_enter Try.func32, Try.ntmps32
  go_wp2_with (first
    | (go_at_call 18; with_reducible refine Calls.mono (Gives.calls (VA.out _ (by repeat (first | exact Below.refl _ _ | (with_reducible assumption) | apply below_later | apply below_alloc | apply below_drew | apply below_drewN)))) ?_; rintro e w1 ⟨rfl, z0, rfl⟩)
    | (go_at_call 68; with_reducible refine Calls.mono (GivesI.calls (CH.out _ z0.ok)) ?_; rintro e w1 ⟨v, rfl, z, rfl, ho⟩; obtain ⟨B1, cB, rfl, io⟩ := lens_facts ho hn30; have IO2 := Lib.hid io; clear ho io))
  have HBZ : Hid (Below w.heap.size w z.val) := below_more z0.ok z.ok
  have IO3 := IO2
  clear IO2 CH VA
  generalize z.val = Z at *
  go_loopw [7, 8] (fun u v wr => ∃ d : Nat, v = .int .i64 ((d + 1 : Nat) : Int) ∧ d ≤ n ∧ Below Z.heap.size Z wr ∧ OwnT wr Z.heap.size u (rds (min d G))) (fun _ v _ => n + 1 - (intOf v).toNat)
  case atStart => exact ⟨0, rfl, by omega, Below.refl _ _, by rw [Nat.zero_min, R0.out]; exact OwnT.nil _ _⟩
  case round =>
    obtain ⟨d, rfl, hd, hbl, ho⟩ := hrel
    have HBL := Lib.hid hbl
    have HT := Lib.hid ho
    obtain ⟨O, cO, eO⟩ := ho.shape
    rw [RL.out] at eO
    subst eO
    clear hbl ho
    by_cases hlt : d < n
    · have IO4 := Lib.hid (IO3.out.below HBL.out)
      have FS1 := Lib.hid (FS.out d)
      have F01 := Lib.hid (F0.out d)
      have FL1 := Lib.hid (FL.out d)
      have RS1 := Lib.hid (RS.out d)
      have RN1 := Lib.hid (RN.out d)
      have RT1 := Lib.hid (RT.out d)
      have RL1 := Lib.hid (RL.out (min d G))
      generalize fl d = f at *
      generalize wr = U at *
      have ed : ((d + 1 : Nat) : Int) = (d : Int) + 1 := by simp
      rw [ed]
      have dle : decide ((d : Int) + 1 ≤ (n : Int)) = true := by simp; omega
      go_wp2
      go_loopw [9, 10] (fun u v wr => ∃ k : Nat, v = .int .i64 (k : Nat) ∧ k ≤ n ∧ Below U.heap.size U wr ∧ OwnI wr U.heap.size u (natZ (f k))) (fun _ v _ => n - (intOf v).toNat)
      case atStart => exact ⟨0, rfl, by omega, Below.refl _ _, by rw [F01.out]; exact OwnI.nil _ _⟩
      case round =>
        obtain ⟨k, rfl, hk, hbl3, ho3⟩ := hrel
        have HBL3 := Lib.hid hbl3
        have HO3 := Lib.hid ho3
        clear hbl3 ho3
        by_cases hlk : k < n
        · obtain ⟨b, off, hB, p⟩ := (IO4.out.below HBL3.out).at_ (by omega)
          have HBO := Lib.hid hB
          rw [hB]
          have ck := p.at_ k hlk
          have lb := p.lt
          have HKL := Lib.hid (FL1.out k)
          have FS2 := Lib.hid (FS1.out k)
          clear p hB
          generalize wr = Q at *
          by_cases hH : H k = d + 1
          · have e1 : ((H k : Int) == (d : Int) + 1) = true := by rw [hH]; simp
            have FS3 : Hid (f (k + 1) = f k ++ [k]) := by show _ = _; rw [FS2.out, if_pos hH]
            generalize f k = l at *
            clear hH
            go_wp2_with (at_builtin; refine wpList_append_own_at _ rfl _ _ 34 rfl U.heap.size 3 i0 (.int .i64 0) 1 8 Try.underlying34 hi0 hz0 hz1 hz2 rfl (by decide) _ _ _ rfl ((own_row HO3.out (natZ_length l)).alloc _) ⟨_, 0, none⟩ 1 1 [.int .i64 (k : Nat)] rfl rfl lit_news one_int ?g1 ?g2 ?g3 ?_)
            case g1 => have := HKL.out; unfold maxLen; omega
            case g2 => have := HKL.out; omega
            case g3 => have := HBL3.out.size; first | omega | (simp only [World.size_alloc]; omega)
            intro v6 w6 hown2 hgrow _ hat
            have hb6 : Below U.heap.size U w6 := below_own (w1 := Q.alloc (.cells #[.int .i64 (k : Nat)] 3)) (below_alloc HBL3.out) ((own_row HO3.out (natZ_length l)).alloc _) (Nat.le_refl _) hgrow
            have HO6 : Hid (OwnI w6 U.heap.size v6 (natZ (l ++ [k]))) := by
              show OwnI _ _ _ _
              unfold OwnI
              rw [natZ_length, List.length_append, cellsI_nat]
              exact hown2
            have HB6 := Lib.hid hb6
            clear hown2 hgrow hat hb6
            go_wp2_with fail
            try rw [← HBO.out]
            first
              | (go_roundw
                 case rel => exact ⟨k + 1, by go_num, by omega, HB6.out, by rw [FS3.out]; exact HO6.out⟩
                 case measure => simp [intOf]; omega)
              | (refine ⟨⟨k + 1, by go_num, by omega, HB6.out, by rw [FS3.out]; exact HO6.out⟩, ?_⟩; simp [intOf]; omega)
          · have e1 : ((H k : Int) == (d : Int) + 1) = false := by simp; omega
            have FS3 : Hid (f (k + 1) = f k) := by show _ = _; rw [FS2.out, if_neg hH]; simp
            clear hH
            go_wp2_with fail
            try rw [← HBO.out]
            first
              | (go_roundw
                 case rel => exact ⟨k + 1, by go_num, by omega, HBL3.out, by rw [FS3.out]; exact HO3.out⟩
                 case measure => simp [intOf]; omega)
              | (refine ⟨⟨k + 1, by go_num, by omega, HBL3.out, by rw [FS3.out]; exact HO3.out⟩, ?_⟩; simp [intOf]; omega)
        · obtain rfl : n = k := by omega
          have HFL := Lib.hid (FL1.out n)
          have HBW : Hid (Below Z.heap.size Z wr) := below_more HBL.out HBL3.out
          have HUS := HBL.out.size
          obtain ⟨A3, c3, e3⟩ := HO3.out.shape
          rw [natZ_length] at e3
          by_cases hdG : d < G
          · have h0 := RS1.out hdG
            have em : min d G = d := by omega
            have em2 : min (d + 1) G = d + 1 := by omega
            rw [em] at HT RL1 ⊢
            have e4 : decide ((0 : Int) < ((f n).length : Int)) = true := by simp; omega
            have e5 : decide (0 < (f n).length) = true := decide_eq_true h0
            have RT2 : Hid (rds (d + 1) = rds d ++ [natZ (f n)]) := RT1.out
            subst e3
            have HO4 : Hid (OwnI wr U.heap.size (.slice A3 (natZ (f n)).length c3) (natZ (f n))) := by
              show OwnI _ _ _ _
              rw [natZ_length]
              exact HO3.out
            obtain ⟨vs, H1, H2, H3⟩ := HT.out.ready ⟨wr, HBL3.out⟩ HO4.out HUS
            rw [natZ_length] at H1 H2 H3
            have H1r := H1
            have H2r := H2
            rw [RL1.out] at H1 H2
            dsimp only at H1 H2 H3 H1r H2r
            generalize natZ (f n) = r3 at *
            generalize (f n).length = m3 at *
            have hdn : d ≤ 30 := by omega
            go_wp2_with (at_builtin; (refine wpList_append_own_at _ rfl _ _ 31 rfl Z.heap.size 34 j0 (.slice none 0 0) 1 24 Try.underlying31 hj0 jz0 jz1 jz2 rfl (by decide) _ _ _ rfl H1.out ⟨_, 0, none⟩ 1 1 [.slice A3 m3 c3] rfl rfl lit_news one_sl ?g1 ?g2 ?g3 ?_))
            case g1 => unfold maxLen; omega
            case g2 => omega
            case g3 => have := HBW.out.size; first | omega | (simp only [World.size_alloc]; omega)
            intro v5 w5 hown2 hgrow _ hat
            have hp5 : Hid (OwnT w5 Z.heap.size v5 (rds (d + 1))) := by
              rw [show rds (d + 1) = _ from RT2.out]
              exact OwnT.push (rows := rds d) H1r.out H2r.out H3.out hgrow (by rw [RL1.out]; exact hown2)
            have hb5 : Hid (Below Z.heap.size Z w5) := below_own (below_alloc HBW.out) H1.out (Nat.le_refl _) hgrow
            clear hgrow hown2 hat H1 H2 H3 H1r H2r
            go_wp2_with fail
            first
              | (go_roundw
                 case rel => exact ⟨d + 1, by go_num, by omega, hb5.out, by rw [em2]; exact hp5.out⟩
                 case measure => simp [intOf]; omega)
              | (refine ⟨⟨d + 1, by go_num, by omega, hb5.out, by rw [em2]; exact hp5.out⟩, ?_⟩; simp [intOf]; omega)
          · have h0 := RN1.out (by omega)
            have em : min d G = G := by omega
            have em2 : min (d + 1) G = G := by omega
            rw [em] at HT ⊢
            subst e3
            have HT2 := Lib.hid (HT.out.later ⟨wr, HBL3.out⟩)
            rw [h0]
            go_wp2
            first
              | (go_roundw
                 case rel => exact ⟨d + 1, by go_num, by omega, HBW.out, by rw [em2]; exact HT2.out⟩
                 case measure => simp [intOf]; omega)
              | (refine ⟨⟨d + 1, by go_num, by omega, HBW.out, by rw [em2]; exact HT2.out⟩, ?_⟩; simp [intOf]; omega)
    · obtain rfl : d = n := by omega
      have em : min d G = G := by have := HG.out; omega
      rw [em] at HT ⊢
      have ed : ((d + 1 : Nat) : Int) = (d : Int) + 1 := by simp
      rw [ed]
      go_wp2
      go_ret2
      exact ⟨_, rfl, ⟨_, below_more HBZ.out HBL.out⟩, rfl, HT.out.mono HBZ.out.size⟩
end Go.Proofs.Ytbflpidjcflndaa
