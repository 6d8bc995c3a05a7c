/- The law TopWindows' helpers: what small windows tell, and what becomes of a map by a change. -/
import Derived.Test.YtajfepogecakbaaDoorChangeMath
import Derived.Test.YtajfepogecakbaaDoorSizes
import Derived.Test.YtajfepogecakbaaDoorMapText
import Derived.Test.YtajfepogecakbaaDoorSame
import Derived.Test.YtajfepogecakbaaDoorAwake
import Derived.Test.YtajfepogecakbaaDoorTurn
namespace Go.Proofs.YtajfepogecakbaaDoor
open Go.RowKit

theorem second_box (w : World) (o p : Obj) : ((w.alloc o).alloc p).heap[w.heap.size + 1]? = some p := by
  have := World.alloc_heap_new (w.alloc o) p
  rwa [World.size_alloc] at this

set_option maxRecDepth 100000 in
set_option maxHeartbeats 3200000 in
theorem told_any (W H n cap : Nat) (A : Option Addr) (f : Nat → Int) (w : World) (hp : IsInts w A n f) (hv : validM W H n f = true) :
    Gives Tryd.prog 55 #[.agg #[.int .i64 W, .int .i64 H, .slice A n cap]] w (.bool true) := by
  obtain ⟨⟨v1, v2⟩, ⟨v3, v4⟩, hn, hk4⟩ := validM_iff.1 hv
  have hn1 : n = W * H := by rw [← Int.natCast_mul] at hn; omega
  have hn' : n = H * W := by rw [Nat.mul_comm]; exact hn1
  have hn9 : n ≤ 900 := by rw [hn1]; exact Nat.mul_le_mul (show W ≤ 30 by omega) (show H ≤ 30 by omega)
  obtain ⟨tot, htot⟩ : ∃ tot, bedsN W H f = tot := ⟨_, rfl⟩
  obtain ⟨pn, hpn⟩ : ∃ pn, poolsN W H f = pn := ⟨_, rfl⟩
  have htl : tot ≤ n := by rw [← htot, hn1]; exact num_le_n _ _
  have hpl : pn ≤ n := by rw [← hpn, hn1]; exact num_le_n _ _
  have WN : Hid (∀ w', IsInts w' A n f → Gives Tryd.prog 35 #[.agg #[.int .i64 W, .int .i64 H, .slice A n cap]] w' (.tuple #[.int .i64 ((tot : Int) - (pn : Int)), .int .i64 0])) := fun w' h => by
    have := windows_ok W H n cap A f w' hv h
    have e : winTo W (rdB W H f) n = (tot : Int) - (pn : Int) := by rw [hn1, windows_tell (by omega) (by omega), htot, hpn]
    rwa [e] at this
  have SZ : Hid (∀ w', IsInts w' A n f → GivesIE 29 #[.agg #[.int .i64 W, .int .i64 H, .slice A n cap]] w' (sizesL W H f) 0) := fun w' h => Sizes_ok W H n cap A f w' h hv
  have LL : Hid ((sizesL W H f).length = tot) := by show _ = _; rw [← htot]; exact parts_length _ _ _ _
  have PL : Hid (∀ w', IsInts w' A n f → Gives Tryd.prog 33 #[.agg #[.int .i64 W, .int .i64 H, .slice A n cap]] w' (.tuple #[.int .i64 (pn : Int), .int .i64 0])) := fun w' h => hpn ▸ pools_ok W H n cap A f w' hv h
  have F1 : Hid (∀ w', IsInts w' A n f → Gives Tryd.prog 17 #[.agg #[.int .i64 W, .int .i64 H, .slice A n cap]] w' (.tuple #[.string ⟨(fmtTo W f n).toArray⟩, .int .i64 0])) := fun w' h => format_ok W H n cap A f w' h hv
  have tr := text_read f (W := W) (H := H) (by omega) (by omega) (by omega) (by omega) (fun i hi => hk4 i (by omega))
  rw [← hn'] at tr
  have PS : Hid (∀ w', GivesME 21 #[.string ⟨(fmtTo W f n).toArray⟩] w' W H ((List.range n).map f) 0) := fun w' =>
    bparse_any (fmtTo W f n) w' (by have := fmtTo_length W f n; omega) W H _ 0 (fun W' H' sq e => by rw [tr] at e; simp only [Option.some.injEq, Prod.mk.injEq] at e; obtain ⟨rfl, rfl, rfl⟩ := e; exact ⟨rfl, rfl, rfl, rfl⟩) (fun e => by rw [tr] at e; cases e)
  have SM : Hid (∀ (w' : World) (B : Option Addr) (c2 : Nat), IsInts w' B n (fun i => ((List.range n).map f).getD i 0) → IsInts w' A n f → Gives Tryd.prog 22 #[.agg #[.int .i64 W, .int .i64 H, .slice B n c2], .agg #[.int .i64 W, .int .i64 H, .slice A n cap]] w' (.bool true)) := fun w' B c2 h1 h2 =>
    same_maps W H B A n c2 cap _ f w' (by omega) h1 h2 fun i hi => by
      rw [List.getD_eq_getElem?_getD, List.getElem?_map, List.getElem?_range hi]; rfl
  have HP := Lib.hid hp
  generalize (⟨(fmtTo W f n).toArray⟩ : ByteArray) = T at *
  generalize sizesL W H f = sz at *
  clear tr hv hn hn' hn1 hp hk4 htot hpn
  go_enter Tryd.func55, Tryd.ntmps55
  go_wp2_with (first
    | (go_at_call 35; (first | (with_reducible show Calls _ _ _ (Later.val _) _; with_reducible refine Calls.mono (Later.call _ (WN.out _ (HP.out.later ⟨_, by repeat (first | exact Below.refl _ _ | (with_reducible assumption) | apply below_later | apply below_alloc | apply below_drew | apply below_drewN)⟩))) ?_) | (with_reducible refine Calls.mono (Gives.calls (WN.out _ (HP.out.later ⟨_, by repeat (first | exact Below.refl _ _ | (with_reducible assumption) | apply below_later | apply below_alloc | apply below_drew | apply below_drewN)⟩))) ?_)); rintro e w1 ⟨rfl, y1, rfl⟩)
    | (go_at_call 29; refine Calls.mono (GivesIE.calls (SZ.out _ (HP.out.later ⟨_, by repeat (first | exact Below.refl _ _ | (with_reducible assumption) | apply below_later | apply below_alloc | apply below_drew | apply below_drewN)⟩))) ?_; rintro e w1 ⟨v, rfl, y2, rfl, ho⟩; obtain ⟨A2, cap2, rfl⟩ := ho.shape_n (n := tot) LL.out; clear ho)
    | (go_at_call 33; (first | (with_reducible show Calls _ _ _ (Later.val _) _; with_reducible refine Calls.mono (Later.call _ (PL.out _ (HP.out.later ⟨_, by repeat (first | exact Below.refl _ _ | (with_reducible assumption) | apply below_later | apply below_alloc | apply below_drew | apply below_drewN)⟩))) ?_) | (with_reducible refine Calls.mono (Gives.calls (PL.out _ (HP.out.later ⟨_, by repeat (first | exact Below.refl _ _ | (with_reducible assumption) | apply below_later | apply below_alloc | apply below_drew | apply below_drewN)⟩))) ?_)); rintro e w1 ⟨rfl, y3, rfl⟩)
    | (go_at_call 17; (first | (with_reducible show Calls _ _ _ (Later.val _) _; with_reducible refine Calls.mono (Later.call _ (F1.out _ (HP.out.later ⟨_, by repeat (first | exact Below.refl _ _ | (with_reducible assumption) | apply below_later | apply below_alloc | apply below_drew | apply below_drewN)⟩))) ?_) | (with_reducible refine Calls.mono (Gives.calls (F1.out _ (HP.out.later ⟨_, by repeat (first | exact Below.refl _ _ | (with_reducible assumption) | apply below_later | apply below_alloc | apply below_drew | apply below_drewN)⟩))) ?_)); rintro e w1 ⟨rfl, y4, rfl⟩)
    | (go_at_call 21; refine Calls.mono (GivesME.calls (PS.out _)) ?_; rintro e w1 ⟨v, rfl, y6, rfl, ho6⟩; obtain ⟨A6, cap6, rfl⟩ := ho6.shape_n (n := n) (by simp); have M0 : y1.val.heap[w.heap.size]? = some (.cells #[.int .i64 W, .int .i64 H, .slice A n cap] 24) := ((y1.ok.block _ (by simp)).trans (World.alloc_heap_new _ _)); have M4 := (y4.ok.block _ (lt_of_get M0)).trans M0; have M6 := (y6.ok.block _ (lt_of_get M4)).trans M4; obtain ⟨⟨m0, m1, m2⟩, _⟩ := cells3 M6; have l6 := lt_of_get M6; clear M0 M4 M6; have hi6 := Lib.hid (ho6.ints (by simp; omega)).2; clear ho6)
    | (go_at_call 22; (first | (with_reducible show Calls _ _ _ (Later.val _) _; with_reducible refine Calls.mono (Later.call _ (SM.out _ _ _ (hi6.out.later ⟨_, by repeat (first | exact Below.refl _ _ | (with_reducible assumption) | apply below_later | apply below_alloc | apply below_drew | apply below_drewN)⟩) (HP.out.later ⟨_, by repeat (first | exact Below.refl _ _ | (with_reducible assumption) | apply below_later | apply below_alloc | apply below_drew | apply below_drewN)⟩))) ?_) | (with_reducible refine Calls.mono (Gives.calls (SM.out _ _ _ (hi6.out.later ⟨_, by repeat (first | exact Below.refl _ _ | (with_reducible assumption) | apply below_later | apply below_alloc | apply below_drew | apply below_drewN)⟩) (HP.out.later ⟨_, by repeat (first | exact Below.refl _ _ | (with_reducible assumption) | apply below_later | apply below_alloc | apply below_drew | apply below_drewN)⟩))) ?_)); rintro e w1 ⟨rfl, y7, rfl⟩))
  go_ret
  exact ⟨rfl, later_of (by repeat (first | exact Below.refl _ _ | (with_reducible assumption) | apply below_later | apply below_alloc | apply below_drew | apply below_drewN))⟩

set_option maxRecDepth 100000 in
set_option maxHeartbeats 3200000 in
theorem changed_any (W H n cap : Nat) (A : Option Addr) (f : Nat → Int) (k : Int) (k4 : Nat) (w : World) (hp : IsInts w A n f) (hv : validM W H n f = true) (hk : k % 4 = (k4 : Int)) (hk0 : 0 ≤ k ∧ k ≤ 255) :
    GivesME 56 #[.agg #[.int .i64 W, .int .i64 H, .slice A n cap], .int .u8 k] w (chW k4 W H : Nat) (chH k4 W H : Nat) ((List.range n).map (chF k4 W H f)) 0 := by
  obtain ⟨⟨v1, v2⟩, ⟨v3, v4⟩, hn, _⟩ := validM_iff.1 hv
  have hn' : n = W * H := by rw [← Int.natCast_mul] at hn; omega
  have HP := Lib.hid hp
  have hk9 : k4 < 4 := by omega
  rcases kind_four hk9 with rfl | rfl | rfl | rfl
  · have C : Hid (∀ w', IsInts w' A n f → GivesME 37 #[.agg #[.int .i64 W, .int .i64 H, .slice A n cap]] w' (chW 0 W H : Nat) (chH 0 W H : Nat) ((List.range n).map (chF 0 W H f)) 0) := fun w' h => by
      have := Spread_ok W H n cap A f w' h hv
      rw [← hn'] at this
      exact this
    generalize ((chW 0 W H : Nat) : Int) = W1 at *
    generalize ((chH 0 W H : Nat) : Int) = H1 at *
    have LL : Hid (((List.range n).map (chF 0 W H f)).length = n) := by show _ = _; simp
    generalize (List.range n).map (chF 0 W H f) = L at *
    clear hp hv hn hn' hk9
    go_enter Tryd.func56, Tryd.ntmps56
    go_wp2_with (go_at_call 37; refine Calls.mono (GivesME.calls (C.out _ (HP.out.later ⟨_, by repeat (first | exact Below.refl _ _ | (with_reducible assumption) | apply below_later | apply below_alloc | apply below_drew | apply below_drewN)⟩))) ?_; rintro e w1 ⟨v, rfl, y, rfl, ho⟩; obtain ⟨A', cap', rfl⟩ := ho.shape_n (n := n) LL.out; have G := (y.ok.block (w.heap.size + 1) (by simp)).trans (second_box w (.cells #[.int .i64 W, .int .i64 H, .slice A n cap] 24) (.cells #[.int .i64 0, .int .i64 0, .slice none 0 0] 24)); obtain ⟨⟨c0, c1, c2⟩, f0, f1, f2⟩ := cells3 G; have GG := Lib.hid G; have HO := Lib.hid ho; clear G ho)
    have k3 := put3 (v0 := .int .i64 W1) (v1 := .int .i64 H1) (v2 := .slice A' n cap') GG.out
    obtain ⟨⟨r0, r1, r2⟩, _⟩ := cells3 k3
    refine bodyPost_ret (v := .tuple #[.agg #[.int .i64 W1, .int .i64 H1, .slice A' n cap'], .int .i64 0]) (by simp [results, Tryd.results56, go_sem, r0, r1, r2]) rfl ?_
    refine ⟨_, rfl, ⟨_, below_put3 (by repeat (first | exact Below.refl _ _ | (with_reducible assumption) | apply below_later | apply below_alloc | apply below_drew | apply below_drewN)) (by simp)⟩, rfl, own_put3 (HO.out.mono (by simp; omega)) ?_⟩
    intro g hg e
    have := (own_lt HO.out g hg).1
    simp at this
    omega
  · have C : Hid (∀ w', IsInts w' A n f → GivesME 39 #[.agg #[.int .i64 W, .int .i64 H, .slice A n cap]] w' (chW 1 W H : Nat) (chH 1 W H : Nat) ((List.range n).map (chF 1 W H f)) 0) := fun w' h => by
      have := Mow_ok W H n cap A f w' h hv
      rw [← hn'] at this
      exact this
    generalize ((chW 1 W H : Nat) : Int) = W1 at *
    generalize ((chH 1 W H : Nat) : Int) = H1 at *
    have LL : Hid (((List.range n).map (chF 1 W H f)).length = n) := by show _ = _; simp
    generalize (List.range n).map (chF 1 W H f) = L at *
    clear hp hv hn hn' hk9
    go_enter Tryd.func56, Tryd.ntmps56
    go_wp2_with (go_at_call 39; refine Calls.mono (GivesME.calls (C.out _ (HP.out.later ⟨_, by repeat (first | exact Below.refl _ _ | (with_reducible assumption) | apply below_later | apply below_alloc | apply below_drew | apply below_drewN)⟩))) ?_; rintro e w1 ⟨v, rfl, y, rfl, ho⟩; obtain ⟨A', cap', rfl⟩ := ho.shape_n (n := n) LL.out; have G := (y.ok.block (w.heap.size + 1) (by simp)).trans (second_box w (.cells #[.int .i64 W, .int .i64 H, .slice A n cap] 24) (.cells #[.int .i64 0, .int .i64 0, .slice none 0 0] 24)); obtain ⟨⟨c0, c1, c2⟩, f0, f1, f2⟩ := cells3 G; have GG := Lib.hid G; have HO := Lib.hid ho; clear G ho)
    have k3 := put3 (v0 := .int .i64 W1) (v1 := .int .i64 H1) (v2 := .slice A' n cap') GG.out
    obtain ⟨⟨r0, r1, r2⟩, _⟩ := cells3 k3
    refine bodyPost_ret (v := .tuple #[.agg #[.int .i64 W1, .int .i64 H1, .slice A' n cap'], .int .i64 0]) (by simp [results, Tryd.results56, go_sem, r0, r1, r2]) rfl ?_
    refine ⟨_, rfl, ⟨_, below_put3 (by repeat (first | exact Below.refl _ _ | (with_reducible assumption) | apply below_later | apply below_alloc | apply below_drew | apply below_drewN)) (by simp)⟩, rfl, own_put3 (HO.out.mono (by simp; omega)) ?_⟩
    intro g hg e
    have := (own_lt HO.out g hg).1
    simp at this
    omega
  · have C : Hid (∀ w', IsInts w' A n f → GivesME 41 #[.agg #[.int .i64 W, .int .i64 H, .slice A n cap]] w' (chW 2 W H : Nat) (chH 2 W H : Nat) ((List.range n).map (chF 2 W H f)) 0) := fun w' h => by
      have := Flip_ok W H n cap A f w' h hv
      rw [← hn'] at this
      exact this
    generalize ((chW 2 W H : Nat) : Int) = W1 at *
    generalize ((chH 2 W H : Nat) : Int) = H1 at *
    have LL : Hid (((List.range n).map (chF 2 W H f)).length = n) := by show _ = _; simp
    generalize (List.range n).map (chF 2 W H f) = L at *
    clear hp hv hn hn' hk9
    go_enter Tryd.func56, Tryd.ntmps56
    go_wp2_with (go_at_call 41; refine Calls.mono (GivesME.calls (C.out _ (HP.out.later ⟨_, by repeat (first | exact Below.refl _ _ | (with_reducible assumption) | apply below_later | apply below_alloc | apply below_drew | apply below_drewN)⟩))) ?_; rintro e w1 ⟨v, rfl, y, rfl, ho⟩; obtain ⟨A', cap', rfl⟩ := ho.shape_n (n := n) LL.out; have G := (y.ok.block (w.heap.size + 1) (by simp)).trans (second_box w (.cells #[.int .i64 W, .int .i64 H, .slice A n cap] 24) (.cells #[.int .i64 0, .int .i64 0, .slice none 0 0] 24)); obtain ⟨⟨c0, c1, c2⟩, f0, f1, f2⟩ := cells3 G; have GG := Lib.hid G; have HO := Lib.hid ho; clear G ho)
    have k3 := put3 (v0 := .int .i64 W1) (v1 := .int .i64 H1) (v2 := .slice A' n cap') GG.out
    obtain ⟨⟨r0, r1, r2⟩, _⟩ := cells3 k3
    refine bodyPost_ret (v := .tuple #[.agg #[.int .i64 W1, .int .i64 H1, .slice A' n cap'], .int .i64 0]) (by simp [results, Tryd.results56, go_sem, r0, r1, r2]) rfl ?_
    refine ⟨_, rfl, ⟨_, below_put3 (by repeat (first | exact Below.refl _ _ | (with_reducible assumption) | apply below_later | apply below_alloc | apply below_drew | apply below_drewN)) (by simp)⟩, rfl, own_put3 (HO.out.mono (by simp; omega)) ?_⟩
    intro g hg e
    have := (own_lt HO.out g hg).1
    simp at this
    omega
  · have C : Hid (∀ w', IsInts w' A n f → GivesME 43 #[.agg #[.int .i64 W, .int .i64 H, .slice A n cap]] w' (chW 3 W H : Nat) (chH 3 W H : Nat) ((List.range n).map (chF 3 W H f)) 0) := fun w' h => by
      have := Turn_ok W H n cap A f w' h hv
      rw [Nat.mul_comm H W, ← hn'] at this
      exact this
    generalize ((chW 3 W H : Nat) : Int) = W1 at *
    generalize ((chH 3 W H : Nat) : Int) = H1 at *
    have LL : Hid (((List.range n).map (chF 3 W H f)).length = n) := by show _ = _; simp
    generalize (List.range n).map (chF 3 W H f) = L at *
    clear hp hv hn hn' hk9
    go_enter Tryd.func56, Tryd.ntmps56
    go_wp2_with (go_at_call 43; refine Calls.mono (GivesME.calls (C.out _ (HP.out.later ⟨_, by repeat (first | exact Below.refl _ _ | (with_reducible assumption) | apply below_later | apply below_alloc | apply below_drew | apply below_drewN)⟩))) ?_; rintro e w1 ⟨v, rfl, y, rfl, ho⟩; obtain ⟨A', cap', rfl⟩ := ho.shape_n (n := n) LL.out; have G := (y.ok.block (w.heap.size + 1) (by simp)).trans (second_box w (.cells #[.int .i64 W, .int .i64 H, .slice A n cap] 24) (.cells #[.int .i64 0, .int .i64 0, .slice none 0 0] 24)); obtain ⟨⟨c0, c1, c2⟩, f0, f1, f2⟩ := cells3 G; have GG := Lib.hid G; have HO := Lib.hid ho; clear G ho)
    have k3 := put3 (v0 := .int .i64 W1) (v1 := .int .i64 H1) (v2 := .slice A' n cap') GG.out
    obtain ⟨⟨r0, r1, r2⟩, _⟩ := cells3 k3
    refine bodyPost_ret (v := .tuple #[.agg #[.int .i64 W1, .int .i64 H1, .slice A' n cap'], .int .i64 0]) (by simp [results, Tryd.results56, go_sem, r0, r1, r2]) rfl ?_
    refine ⟨_, rfl, ⟨_, below_put3 (by repeat (first | exact Below.refl _ _ | (with_reducible assumption) | apply below_later | apply below_alloc | apply below_drew | apply below_drewN)) (by simp)⟩, rfl, own_put3 (HO.out.mono (by simp; omega)) ?_⟩
    intro g hg e
    have := (own_lt HO.out g hg).1
    simp at this
    omega
end Go.Proofs.YtajfepogecakbaaDoor
