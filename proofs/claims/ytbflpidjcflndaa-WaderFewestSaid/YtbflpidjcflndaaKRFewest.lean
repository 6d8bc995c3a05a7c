/- The document's Fewest: walked. -/
import Derived.Test.YtbflpidjcflndaaKFollow
import Derived.Test.YtbflpidjcflndaaKBirds
import Derived.Test.YtbflpidjcflndaaKRMarked
namespace Go.Proofs.Ytbflpidjcflndaa
open Go.RowKit

theorem all_none {l : List Int} {n : Nat} (hl : l.length = n) (h : ∀ k, k < n → l.getD k 0 = -1) : l = List.replicate n (-1) := by
  apply List.ext_getElem
  · simp [hl]
  · intro i h1 h2
    have := h i (by omega)
    simp only [List.getD_eq_getElem?_getD, List.getElem?_eq_getElem h1, Option.getD_some] at this
    simp [this]
set_option maxRecDepth 100000 in
set_option maxHeartbeats 6400000 in
theorem RFewest_ok (s : Int) (n cap : Nat) (A : Option Addr) (X Y T : Nat → Int) (w : World) (W : Watch n s X Y T) (hp : IsChs w A n X Y T) :
    Gives Try.prog 24 #[.slice A n cap, .int .i64 s] w (.tuple #[.int .i64 ((matM (leadsR s X Y T) n n).count (-1) : Nat), .int .i64 0]) := by
  have hn30 := W.n30
  have VA := Lib.hid fun (V : World) (h : IsChs V A n X Y T) => watch_iff.2 W ▸ krvalid_any s A n cap X Y T V (by omega) h
  have FW := Lib.hid fun (i go gt : Nat) (V : World) (hi : i < n) (g : GS w V go gt n (matM (leadsR s X Y T) n i) (List.replicate n false)) =>
    follow_any w go gt n cap A s X Y T W hp (n + 1) i (matM (leadsR s X Y T) n i) (List.replicate n false) V hi (by simp) (mat_inv _ n i (by omega)).len (mat_inv _ n i (by omega)).okm (by simp [List.count_replicate]) g
  have ML := Lib.hid fun i (h : i ≤ n) => (mat_inv (leadsR s X Y T) n i h).len
  have M0 : Hid (matM (leadsR s X Y T) n 0 = List.replicate n (-1)) := rfl
  have MS : Hid (∀ i, matM (leadsR s X Y T) n (i + 1) = (aug (leadsR s X Y T) n (n + 1) i (List.replicate n false) (matM (leadsR s X Y T) n i)).2.2) := fun _ => rfl
  have WS : Hid (∀ i, winM (leadsR s X Y T) n (i + 1) = winM (leadsR s X Y T) n i + if (aug (leadsR s X Y T) n (n + 1) i (List.replicate n false) (matM (leadsR s X Y T) n i)).1 = true then 1 else 0) := fun _ => rfl
  have W0 : Hid (winM (leadsR s X Y T) n 0 = 0) := rfl
  have WC := Lib.hid (win_count (leadsR s X Y T) n)
  have HP := Lib.hid hp
  have MKI : ∀ w', (Instr.makeSlice 34 (.int .i64 (n : Int)) (.int .i64 (n : Int))).run Try.prog w' = .ok (.slice (some ⟨w'.heap.size, 0, none⟩) n n) (w'.alloc (.cells (madeCells #[Value.int .i64 0] n) 3)) := fun w' => make_ints w' n (by omega)
  have MKB : ∀ w', (Instr.makeSlice 84 (.int .i64 (n : Int)) (.int .i64 (n : Int))).run Try.prog w' = .ok (.slice (some ⟨w'.heap.size, 0, none⟩) n n) (w'.alloc (.cells (madeCells #[Value.bool false] n) 4)) := fun w' => make_bools w' n (by omega)
  generalize leadsR s X Y T = L at *
  clear hp W
  go_enter Try.func24, Try.ntmps24
  go_wp2_with (go_at_call 18; with_reducible refine Calls.mono (Gives.calls (VA.out _ HP.out)) ?_; rintro e w1 ⟨rfl, z, rfl⟩)
  have HB0 : Hid (Below w.heap.size w z.val) := z.ok
  have hzs := z.ok.size
  have HM0 := Lib.hid (made_own z.val n w.heap.size hzs (by omega))
  have HB1 : Hid (Below w.heap.size w (z.val.alloc (.cells (madeCells #[Value.int .i64 0] n) 3))) := HB0.out.alloc hzs _
  obtain ⟨go, hgo⟩ : ∃ go, z.val.heap.size = go := ⟨_, rfl⟩
  have HG : Hid (w.heap.size ≤ go) := by rw [← hgo]; exact hzs
  rw [hgo] at HM0 ⊢
  have HGL : Hid (go < (z.val.alloc (.cells (madeCells #[Value.int .i64 0] n) 3)).heap.size) := by show _ < _; rw [World.size_alloc]; omega
  clear hgo hzs
  generalize z.val.alloc (.cells (madeCells #[Value.int .i64 0] n) 3) = Z at *
  go_loopw [7] (fun u wr => ∃ (k : Nat) (l : List Int), u = .int .i64 (k : Nat) ∧ k ≤ n ∧ l.length = n ∧ Below w.heap.size w wr ∧ OwnI wr w.heap.size (.slice (some ⟨go, 0, none⟩) n n) l ∧ ∀ j, j < k → l.getD j 0 = -1) (fun u _ => n - (intOf u).toNat)
  case atStart => exact ⟨0, _, rfl, by omega, by simp, HB1.out, HM0.out, by omega⟩
  case round =>
    obtain ⟨k, l, rfl, hk, hl, hbl, ho, hall⟩ := hrel
    clear HM0 HB1 HGL
    have HL := Lib.hid hl
    have HBL := Lib.hid hbl
    have HO := Lib.hid ho
    have HALL := Lib.hid hall
    clear hl hbl ho hall
    by_cases hlt : k < n
    · obtain ⟨o3, o4⟩ := HO.out.cell HL.out hlt
      have o5 := (own_lt HO.out go rfl).2
      have o6 := o4 k
      clear o4 MKI MKB
      go_wp2
      go_roundw
      case rel => exact ⟨k + 1, l.set k (-1), by go_num, by omega, by rw [List.length_set]; exact HL.out, HBL.out.setCell (p := ⟨go, k, none⟩) (own_lt HO.out go rfl).1 _, HO.out.set HL.out k (-1), fun j hj => by
        rw [getD_setI (by rw [HL.out]; exact hlt)]
        split
        · rfl
        · exact HALL.out j (by omega)⟩
      case measure => simp [intOf]; omega
    · obtain rfl : k = n := by omega
      have HO1 : Hid (OwnI wr w.heap.size (.slice (some ⟨go, 0, none⟩) k k) (matM L k 0)) := by
        have e := all_none HL.out HALL.out
        show OwnI _ _ _ _
        rw [M0.out, ← e]
        exact HO.out
      clear HO HALL
      go_wp2
      clear MKI
      go_loopw [8, 9] (fun u v wr => ∃ i : Nat, v = .int .i64 (i : Nat) ∧ u = .int .i64 ((k : Int) - (winM L k i : Nat)) ∧ i ≤ k ∧ winM L k i ≤ k ∧ Below w.heap.size w wr ∧ OwnI wr w.heap.size (.slice (some ⟨go, 0, none⟩) k k) (matM L k i)) (fun _ v _ => k - (intOf v).toNat)
      case atStart => exact ⟨0, rfl, by rw [W0.out]; simp, by omega, by rw [W0.out]; omega, HBL.out, HO1.out⟩
      case round =>
        obtain ⟨i, rfl, rfl, hi, hw, hbl2, ho2⟩ := hrel
        clear HO1 HBL
        have HBL2 := Lib.hid hbl2
        have HO2 := Lib.hid ho2
        have hwi := WC.out i hi
        clear hbl2 ho2
        by_cases hlt : i < k
        · have hwn := WC.out (i + 1) (by omega)
          have gsl := (own_lt HO2.out go rfl).2
          have hbs := HBL2.out.size
          have FS : Hid (GS w (wr.alloc (.cells (madeCells #[Value.bool false] k) 4)) go wr.heap.size k (matM L k i) (List.replicate k false)) :=
            ⟨HBL2.out.alloc hbs _, HO2.out.alloc _, made_ownBl wr k w.heap.size hbs (by omega), by omega⟩
          have F1 := Lib.hid (FW.out i go wr.heap.size _ hlt FS.out)
          have MSi := Lib.hid (MS.out i)
          have WSi := Lib.hid (WS.out i)
          unfold PostFol at F1
          generalize aug L k (k + 1) i (List.replicate k false) (matM L k i) = r at *
          obtain ⟨rb, rt, ro⟩ := r
          cases rb
          case true =>
            have e1 : winM L k (i + 1) = winM L k i + 1 := WSi.out
            have hw1 : IntKind.i64.wrap (((k : Int) - (winM L k i : Nat)) - 1) = (k : Int) - (winM L k (i + 1) : Nat) := by
              rw [show ((k : Int) - (winM L k i : Nat)) - 1 = (k : Int) - (winM L k (i + 1) : Nat) by omega]
              exact IntWalk.i64_in _ ⟨by omega, by omega⟩
            go_wp2_with (go_at_call 61; with_reducible refine Calls.mono F1.out ?_; rintro e w' ⟨rfl, has3⟩; have AS3 := Lib.hid has3; clear has3)
            first
              | (go_roundw
                 case rel => exact ⟨i + 1, by go_num, by simp [e1], by omega, by omega, AS3.out.below, by rw [MSi.out]; exact AS3.out.oo⟩
                 case measure => simp [intOf]; omega)
              | (refine ⟨⟨i + 1, by go_num, by simp [e1], by omega, by omega, AS3.out.below, by rw [MSi.out]; exact AS3.out.oo⟩, ?_⟩; simp [intOf]; omega)
          case false =>
            have e1 : winM L k (i + 1) = winM L k i := WSi.out
            go_wp2_with (go_at_call 61; with_reducible refine Calls.mono F1.out ?_; rintro e w' ⟨rfl, has3⟩; have AS3 := Lib.hid has3; clear has3)
            first
              | (go_roundw
                 case rel => exact ⟨i + 1, by go_num, by rw [e1], by omega, by omega, AS3.out.below, by rw [MSi.out]; exact AS3.out.oo⟩
                 case measure => simp [intOf]; omega)
              | (refine ⟨⟨i + 1, by go_num, by rw [e1], by omega, by omega, AS3.out.below, by rw [MSi.out]; exact AS3.out.oo⟩, ?_⟩; simp [intOf]; omega)
        · obtain rfl : i = k := by omega
          have HE : Hid ((i : Int) - (winM L i i : Nat) = ((matM L i i).count (-1) : Nat)) := by show _ = _; omega
          go_wp2
          go_ret2
          exact ⟨by rw [← HE.out]; rfl, later_of HBL2.out⟩
set_option maxRecDepth 100000 in
theorem RFewest_bad (s : Int) (n cap : Nat) (A : Option Addr) (X Y T : Nat → Int) (V : World) (hv : validW n s X Y T = false) (hn : n ≤ 1000) (hp : IsChs V A n X Y T) :
    Gives Try.prog 24 #[.slice A n cap, .int .i64 s] V (.tuple #[.int .i64 0, .int .i64 60]) := by
  have VA : Hid (∀ U, Below V.heap.size V U → Gives Try.prog 18 #[.slice A n cap, .int .i64 s] U (.bool false)) := fun U h => hv ▸ krvalid_any s A n cap X Y T U hn (hp.below h)
  clear hp hv
  go_enter Try.func24, Try.ntmps24
  go_wp2_with (go_at_call 18; with_reducible refine Calls.mono (Gives.calls (VA.out _ (by repeat (first | exact Below.refl _ _ | (with_reducible assumption) | apply below_later | apply below_alloc | apply below_drew | apply below_drewN)))) ?_; rintro e w1 ⟨rfl, z, rfl⟩)
  go_ret2
  exact ⟨rfl, later_of (by repeat (first | exact Below.refl _ _ | (with_reducible assumption) | apply below_later | apply below_alloc | apply below_drew | apply below_drewN))⟩
end Go.Proofs.Ytbflpidjcflndaa
