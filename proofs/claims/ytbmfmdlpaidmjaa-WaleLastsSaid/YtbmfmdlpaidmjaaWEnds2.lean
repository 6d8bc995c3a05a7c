/- wale.Ends, whole. -/
import Derived.Test.YtbmfmdlpaidmjaaWEnds
namespace Go.Proofs.Ytbmfmdlpaidmjaa
open Go.RowKit

set_option maxRecDepth 100000 in
theorem Ends_bad (n : Int) (m cap : Nat) (A : Option Addr) (F T V : Nat → Int) (w : World) (hm : m ≤ 1000) (hp : IsChs w A m F T V) (h : validR n m F T V = false) :
    Gives Try.prog 27 #[.int .i64 n, .slice A m cap] w (.tuple #[.slice none 0 0, .int .i64 50]) := by
  have VA : Hid (∀ w', IsChs w' A m F T V → Gives Try.prog 15 #[.int .i64 n, .slice A m cap] w' (.bool false)) := fun w' h2 => h ▸ wvalid_any n A m cap F T V w' hm h2
  have HP := Lib.hid hp
  clear hp h
  go_enter Try.func27, Try.ntmps27
  go_wp2_with (go_at_call 15; (first | (with_reducible show Calls _ _ _ (Later.val _) _; with_reducible refine Calls.mono (Later.call _ (VA.out _ (HP.out.below (by repeat (first | exact Below.refl _ _ | (with_reducible assumption) | apply below_later | apply below_alloc | apply below_drew | apply below_drewN))))) ?_) | (with_reducible refine Calls.mono (Gives.calls (VA.out _ (HP.out.below (by repeat (first | exact Below.refl _ _ | (with_reducible assumption) | apply below_later | apply below_alloc | apply below_drew | apply below_drewN))))) ?_)); rintro e w1 ⟨rfl, z, rfl⟩)
  go_ret2
  exact ⟨rfl, later_of (by repeat (first | exact Below.refl _ _ | (with_reducible assumption) | apply below_later | apply below_alloc | apply below_drew | apply below_drewN))⟩
set_option maxRecDepth 100000 in
set_option maxHeartbeats 6400000 in
theorem Ends_ok (n m cap : Nat) (A : Option Addr) (f t : Nat → Nat) (V : Nat → Int) (w : World) (R : Rot n m f t V) (hp : IsChs w A m (fun i => (f i : Int)) (fun i => (t i : Int)) V) :
    Calls Try.prog 27 #[.int .i64 n, .slice A m cap] w fun e w' => ∃ v, e = .returned (.tuple #[v, .int .i64 0]) ∧ ∃ x : Later w, w' = x.val ∧ OwnI w' w.heap.size v (natZ ((List.range n).filter (endS n m f t V))) := by
  have hn8 := R.n8
  have HP := Lib.hid hp
  have VA := Lib.hid fun (w' : World) (h : IsChs w' A m (fun i => (f i : Int)) (fun i => (t i : Int)) V) => valid_true (cap := cap) R w' h
  have WO := Lib.hid fun (w' : World) (h : IsChs w' A m (fun i => (f i : Int)) (fun i => (t i : Int)) V) => worths_any n m cap n A f t V w' (by omega) R h
  have HE : Hid (∀ s, endS n m f t V s = decide ((wrow n m f t V n).getD s 0 = nope)) := fun s => rfl
  obtain ⟨i0, hi0, hz0, hz1, hz2⟩ := info_int
  clear hp R
  generalize endS n m f t V = E at *
  go_enter Try.func27, Try.ntmps27
  go_wp2_with (first
    | (go_at_call 15; (first | (with_reducible show Calls _ _ _ (Later.val _) _; with_reducible refine Calls.mono (Later.call _ (VA.out _ (HP.out.below (by repeat (first | exact Below.refl _ _ | (with_reducible assumption) | apply below_later | apply below_alloc | apply below_drew | apply below_drewN))))) ?_) | (with_reducible refine Calls.mono (Gives.calls (VA.out _ (HP.out.below (by repeat (first | exact Below.refl _ _ | (with_reducible assumption) | apply below_later | apply below_alloc | apply below_drew | apply below_drewN))))) ?_)); rintro e w1 ⟨rfl, z0, rfl⟩)
    | (go_at_call 51; refine Calls.mono (WO.out _ (HP.out.below (by repeat (first | exact Below.refl _ _ | (with_reducible assumption) | apply below_later | apply below_alloc | apply below_drew | apply below_drewN)))) ?_; rintro e w1 ⟨v, rfl, z, rfl, ht⟩; obtain ⟨go, co, rfl, hg1, hg2, hrows⟩ := ht.form (by omega); obtain ⟨gr, cgr, lgr, ogr, hlr⟩ := hrows n (by omega); have OGR := Lib.hid ogr; have HLR := Lib.hid hlr; clear ht hrows ogr hlr))
  have HBz : Hid (Below w.heap.size w z.val) := by show Below _ _ _; repeat (first | exact Below.refl _ _ | (with_reducible assumption) | apply below_later | apply below_alloc | apply below_drew | apply below_drewN)
  obtain ⟨bz, hbz⟩ : ∃ b, z0.val.heap.size = b := ⟨_, rfl⟩
  rw [hbz] at OGR
  clear cgr hg1 hg2 hbz
  generalize z.val = U at *
  generalize wrow n m f t V n = row at *
  go_loopw [6, 22] (fun u v wr => ∃ s : Nat, v = .int .i64 (s : Nat) ∧ s ≤ n ∧ Below U.heap.size U wr ∧ OwnI wr U.heap.size u (natZ ((List.range s).filter E))) (fun _ v _ => n - (intOf v).toNat)
  case atStart => exact ⟨0, rfl, by omega, Below.refl _ _, OwnI.nil _ _⟩
  case round =>
    obtain ⟨s, rfl, hsn, hb2, ho2⟩ := hrel
    have HB2 := Lib.hid hb2
    have HO2 := Lib.hid ho2
    clear hb2 ho2
    generalize wr = X at *
    by_cases hlt : s < n
    · have q0 := (HB2.out.cell (p := ⟨gr, s, none⟩) lgr).trans (OGR.out.cell HLR.out hlt).1
      have q2 := Nat.lt_of_lt_of_le lgr HB2.out.size
      have HF : Hid ((List.range (s + 1)).filter E = (List.range s).filter E ++ if E s = true then [s] else []) := by
        show _ = _
        rw [List.range_succ, List.filter_append]
        congr 1
        cases h : E s <;> simp [List.filter, h]
      have HLF : Hid (((List.range s).filter E).length ≤ s) := by
        show _ ≤ _
        have := List.length_filter_le E (List.range s)
        simpa using this
      have hes := HE.out s
      obtain ⟨x, hx⟩ : ∃ x, row.getD s 0 = x := ⟨_, rfl⟩
      rw [hx] at q0 hes
      clear hx
      cases hE : E s
      case false =>
        have d0 : (x == -9223372036854775808) = false := by
          rw [hE] at hes
          have := of_decide_eq_false hes.symm
          simpa [nope] using this
        have HF2 : Hid ((List.range (s + 1)).filter E = (List.range s).filter E) := by show _ = _; rw [HF.out, hE]; simp
        clear hE hes
        go_wp2_with fail
        go_roundw
        case rel => exact ⟨s + 1, by go_num, by omega, HB2.out, by rw [HF2.out]; exact HO2.out⟩
        case measure => simp [intOf]; omega
      case true =>
        have d0 : (x == -9223372036854775808) = true := by
          rw [hE] at hes
          have := of_decide_eq_true hes.symm
          simpa [nope] using this
        have HF2 : Hid ((List.range (s + 1)).filter E = (List.range s).filter E ++ [s]) := by show _ = _; rw [HF.out, hE]; simp
        clear hE hes
        obtain ⟨l, hl⟩ : ∃ l, (List.range s).filter E = l := ⟨_, rfl⟩
        rw [hl] at HF2 HO2 HLF
        clear hl HF
        go_wp2_with (at_builtin; refine wpList_append_own_at _ rfl _ _ 25 rfl U.heap.size 3 i0 (.int .i64 0) 1 8 Try.underlying25 hi0 hz0 hz1 hz2 rfl (by decide) _ _ _ rfl ((own_row HO2.out (natZ_length l)).alloc _) ⟨_, 0, none⟩ 1 1 [.int .i64 (s : Nat)] rfl rfl lit_news one_int ?g1 ?g2 ?g3 ?_)
        case g1 => have := HLF.out; unfold maxLen; omega
        case g2 => have := HLF.out; omega
        case g3 => have := HB2.out.size; simp only [World.size_alloc]; omega
        intro v6 w6 hown2 hgrow _ hat
        have hb6 : Below U.heap.size U w6 := below_own (w1 := X.alloc (.cells #[.int .i64 (s : Nat)] 3)) (below_alloc HB2.out) ((own_row HO2.out (natZ_length l)).alloc _) (Nat.le_refl _) hgrow
        have HO6 : Hid (OwnI w6 U.heap.size v6 (natZ (l ++ [s]))) := by
          show OwnI _ _ _ _
          unfold OwnI
          rw [natZ_length, List.length_append, cellsI_nat]
          exact hown2
        have HB6 := Lib.hid hb6
        clear hown2 hgrow hat hb6
        go_wp2_with fail
        go_roundw
        case rel => exact ⟨s + 1, by go_num, by omega, HB6.out, by rw [HF2.out]; exact HO6.out⟩
        case measure => simp [intOf]; omega
    · obtain rfl : s = n := by omega
      go_wp2
      go_ret2
      exact ⟨_, rfl, ⟨_, below_more HBz.out HB2.out⟩, rfl, HO2.out.mono HBz.out.size⟩
end Go.Proofs.Ytbmfmdlpaidmjaa
