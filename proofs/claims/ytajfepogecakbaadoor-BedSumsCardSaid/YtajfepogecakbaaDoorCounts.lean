/- Count, of the program and of the document. -/
import Derived.Test.YtajfepogecakbaaDoorBedRef
import Derived.Test.YtajfepogecakbaaDoorAroundC
namespace Go.Proofs.YtajfepogecakbaaDoor
open Go.RowKit

theorem cell_second (w : World) (o : Obj) (v : Value) (t : TypeId) : ((w.alloc o).alloc (.cells #[v] t)).cell? ⟨w.heap.size + 1, 0, none⟩ = some v :=
  cell_of_heap (by have := World.alloc_heap_new (w.alloc o) (.cells #[v] t); rwa [World.size_alloc] at this) 0 _ rfl
theorem count1_any (k kind : Int) (bk : Nat) (w : World) (h : w.cell? ⟨bk, 0, none⟩ = some (.int .i64 kind)) : Gives Tryd.prog 65 #[.int .i64 k, .pointer (some ⟨bk, 0, none⟩)] w (.bool (decide (k = kind))) := by
  have lk := World.block_lt_of_cell? _ _ h
  by_cases e : k = kind
  · have HD : Hid (decide (k = kind) = true) := by show _ = _; simpa using e
    generalize decide (k = kind) = d at HD ⊢
    subst e
    go_enter Tryd.func65, Tryd.ntmps65
    go_wp2
    go_ret
    exact ⟨ret_bool (by rw [HD.out]), later_of (by repeat (first | exact Below.refl _ _ | (with_reducible assumption) | apply below_later | apply below_alloc | apply below_drew | apply below_drewN))⟩
  · have HD : Hid (decide (k = kind) = false) := by show _ = _; simpa using e
    generalize decide (k = kind) = d at HD ⊢
    have q : (k == kind) = false := by simpa using e
    clear e
    go_enter Tryd.func65, Tryd.ntmps65
    go_wp2
    go_ret
    exact ⟨ret_bool (by rw [HD.out]), later_of (by repeat (first | exact Below.refl _ _ | (with_reducible assumption) | apply below_later | apply below_alloc | apply below_drew | apply below_drewN))⟩

/-- How many squares are of a kind. -/
def kindN (n : Nat) (f : Nat → Int) (kind : Int) : Nat := cntB n fun i => decide (f i = kind)
set_option maxRecDepth 100000 in
set_option maxHeartbeats 1600000 in
theorem count_eq (W H n cap bk : Nat) (A : Option Addr) (f : Nat → Int) (kind : Int) (w : World) (hW : W ≤ 30) (hH : H ≤ 30) (hn : n = W * H) (h0 : 0 < n) (hp : IsInts w A n f) (hc : w.cell? ⟨bk, 0, none⟩ = some (.int .i64 kind)) :
    Gives Tryd.prog 60 #[.agg #[.int .i64 W, .int .i64 H, .slice A n cap], .func (.func 65) #[] #[.pointer (some ⟨bk, 0, none⟩)]] w (.int .i64 (kindN n f kind)) := by
  have hn9 : n ≤ 900 := by rw [hn]; exact Nat.mul_le_mul hW hH
  have hmul : (W : Int) * (H : Int) = (n : Int) := by rw [hn]; exact (Int.natCast_mul _ _).symm
  obtain ⟨b, off, rfl, p⟩ := hp.at_ h0
  have P := Lib.hid p
  have lb := p.lt
  have lk := World.block_lt_of_cell? _ _ hc
  have HM := Lib.hid hmul
  have HN := Lib.hid hn
  have HCK := Lib.hid hc
  have hmb : (W : Int) * (H : Int) ≤ 900 := by rw [hmul]; omega
  have hm0 : 0 ≤ (W : Int) * (H : Int) := by rw [hmul]; omega
  clear p hp hmul hn hc
  go_enter Tryd.func60, Tryd.ntmps60
  go_wp2
  go_loopw [5, 12] (fun u v wr => ∃ k : Nat, k ≤ n ∧ u = .int .i64 (kindN k f kind) ∧ v = .int .i64 k ∧ ∃ x : Later (w.alloc (.cells #[.int .i64 W, .int .i64 H, .slice (some ⟨b, off, none⟩) n cap] 24)), wr = x.val) (fun _ v _ => n - (intOf v).toNat)
  case atStart => exact ⟨0, by omega, rfl, rfl, later_of (by repeat (first | exact Below.refl _ _ | (with_reducible assumption) | apply below_later | apply below_alloc | apply below_drew | apply below_drewN))⟩
  case round =>
    obtain ⟨k, hk, rfl, rfl, x, rfl⟩ := hrel
    have hc := cntB_le k fun i => decide (f i = kind)
    have HC : Hid (kindN (k + 1) f kind = kindN k f kind + if decide (f k = kind) then 1 else 0) := cntB_succ _ _
    have hc : kindN k f kind ≤ k := hc
    generalize hcc : kindN k f kind = c at *
    have HCC := Lib.hid hcc
    clear hcc
    by_cases hlt : k < n
    · have hlt' : (k : Int) < (W : Int) * (H : Int) := by rw [HM.out]; omega
      have c1 : x.val.cell? ⟨b, off + k, none⟩ = some (.int .i64 (f k)) := (x.cell b (off + k) (by simp; omega)).trans ((World.cell?_alloc_lt _ _ _ (by simpa using lb)).trans (P.out.at_ k hlt))
      have c2 : x.val.cell? ⟨bk, 0, none⟩ = some (.int .i64 kind) := (x.cell bk 0 (by simp; omega)).trans ((World.cell?_alloc_lt _ _ _ (by simpa using lk)).trans HCK.out)
      have C2 := Lib.hid c2
      clear c2
      cases hkb : decide (f k = kind)
      · rw [hkb] at HC
        have K1 : Hid (Gives Tryd.prog 65 #[.int .i64 (f k), .pointer (some ⟨bk, 0, none⟩)] x.val (.bool false)) := hkb ▸ count1_any (f k) kind bk x.val C2.out
        clear hkb
        go_wp2_with (go_at_call 65; (first | (with_reducible show Calls _ _ _ (Later.val _) _; with_reducible refine Calls.mono (Later.call _ (K1.out)) ?_) | (with_reducible refine Calls.mono (Gives.calls (K1.out)) ?_)); rintro e w1 ⟨rfl, z, rfl⟩)
        go_roundw
        case rel => exact ⟨k + 1, by omega, by rw [HC.out]; rfl, by go_num, later_of (by repeat (first | exact Below.refl _ _ | (with_reducible assumption) | apply below_later | apply below_alloc | apply below_drew | apply below_drewN))⟩
        case measure => simp [intOf]; omega
      · rw [hkb] at HC
        have K1 : Hid (Gives Tryd.prog 65 #[.int .i64 (f k), .pointer (some ⟨bk, 0, none⟩)] x.val (.bool true)) := hkb ▸ count1_any (f k) kind bk x.val C2.out
        clear hkb
        go_wp2_with (go_at_call 65; (first | (with_reducible show Calls _ _ _ (Later.val _) _; with_reducible refine Calls.mono (Later.call _ (K1.out)) ?_) | (with_reducible refine Calls.mono (Gives.calls (K1.out)) ?_)); rintro e w1 ⟨rfl, z, rfl⟩)
        go_roundw
        case rel => exact ⟨k + 1, by omega, by rw [HC.out]; go_num, by go_num, later_of (by repeat (first | exact Below.refl _ _ | (with_reducible assumption) | apply below_later | apply below_alloc | apply below_drew | apply below_drewN))⟩
        case measure => simp [intOf]; omega
    · obtain rfl : k = n := by omega
      have hlt' : ¬ (k : Int) < (W : Int) * (H : Int) := by rw [HM.out]; omega
      go_wp2
      go_ret
      exact ⟨ret_int (by rw [HCC.out]), later_of (by repeat (first | exact Below.refl _ _ | (with_reducible assumption) | apply below_later | apply below_alloc | apply below_drew | apply below_drewN))⟩

set_option maxRecDepth 100000 in
set_option maxHeartbeats 1600000 in
theorem rcount_eq (W H : Int) (n cap : Nat) (A : Option Addr) (f : Nat → Int) (kind : Int) (w : World) (hn9 : n ≤ 1000) (hp : IsInts w A n f) :
    Gives Tryd.prog 66 #[.agg #[.int .i64 W, .int .i64 H, .slice A n cap], .int .i64 kind] w (.int .i64 (kindN n f kind)) := by
  have HP := Lib.hid hp
  clear hp
  go_enter Tryd.func66, Tryd.ntmps66
  go_wp2
  go_loopw [5, 6] (fun u v wr => ∃ k : Nat, k ≤ n ∧ u = .int .i64 (kindN k f kind) ∧ v = .int .i64 k ∧ ∃ x : Later (w.alloc (.cells #[.int .i64 W, .int .i64 H, .slice A n cap] 24)), wr = x.val) (fun _ v _ => n - (intOf v).toNat)
  case atStart => exact ⟨0, by omega, rfl, rfl, later_of (by repeat (first | exact Below.refl _ _ | (with_reducible assumption) | apply below_later | apply below_alloc | apply below_drew | apply below_drewN))⟩
  case round =>
    obtain ⟨k, hk, rfl, rfl, x, rfl⟩ := hrel
    have HC : Hid (kindN (k + 1) f kind = kindN k f kind + if decide (f k = kind) then 1 else 0) := cntB_succ _ _
    have hc : kindN k f kind ≤ k := cntB_le k fun i => decide (f i = kind)
    generalize hcc : kindN k f kind = c at *
    have HCC := Lib.hid hcc
    clear hcc
    by_cases hlt : k < n
    · obtain ⟨b, off, hA, p⟩ := HP.out.at_ (by omega)
      subst hA
      have lb := p.lt
      have c1 : x.val.cell? ⟨b, off + k, none⟩ = some (.int .i64 (f k)) := (x.cell b (off + k) (by simp; omega)).trans ((World.cell?_alloc_lt _ _ _ (by simpa using lb)).trans (p.at_ k hlt))
      clear p
      by_cases hkb : f k = kind
      · have HC2 : Hid (kindN (k + 1) f kind = c + 1) := by have := HC.out; simp [hkb] at this; exact this
        rw [hkb] at c1
        clear hkb HC
        go_wp2
        go_roundw
        case rel => exact ⟨k + 1, by omega, by rw [HC2.out]; go_num, by go_num, later_of (by repeat (first | exact Below.refl _ _ | (with_reducible assumption) | apply below_later | apply below_alloc | apply below_drew | apply below_drewN))⟩
        case measure => simp [intOf]; omega
      · have HC2 : Hid (kindN (k + 1) f kind = c) := by have := HC.out; simp [hkb] at this; exact this
        have q : (f k == kind) = false := by simpa using hkb
        clear hkb HC
        go_wp2
        go_roundw
        case rel => exact ⟨k + 1, by omega, by rw [HC2.out], by go_num, later_of (by repeat (first | exact Below.refl _ _ | (with_reducible assumption) | apply below_later | apply below_alloc | apply below_drew | apply below_drewN))⟩
        case measure => simp [intOf]; omega
    · obtain rfl : k = n := by omega
      go_wp2
      go_ret
      exact ⟨ret_int (by rw [HCC.out]), later_of (by repeat (first | exact Below.refl _ _ | (with_reducible assumption) | apply below_later | apply below_alloc | apply below_drew | apply below_drewN))⟩

/-- What Count answers. -/
def countV (W H : Int) (n : Nat) (f : Nat → Int) (kind : Int) : Int := if validM W H n f = true ∧ kindB kind = true then (kindN n f kind : Nat) else 0
def countE (W H : Int) (n : Nat) (f : Nat → Int) (kind : Int) : Int := if validM W H n f = true then if kindB kind = true then 0 else 2 else 20
set_option maxRecDepth 100000 in
set_option maxHeartbeats 1600000 in
theorem Count_any (W H : Int) (n cap : Nat) (A : Option Addr) (f : Nat → Int) (kind : Int) (w : World) (hp : IsInts w A n f) :
    Gives Tryd.prog 24 #[.agg #[.int .i64 W, .int .i64 H, .slice A n cap], .int .i64 kind] w (.tuple #[.int .i64 (countV W H n f kind), .int .i64 (countE W H n f kind)]) := by
  have HP := Lib.hid hp
  clear hp
  cases hv : validM W H n f
  · have V : Hid (∀ w', IsInts w' A n f → Gives Tryd.prog 19 #[.agg #[.int .i64 W, .int .i64 H, .slice A n cap]] w' (.bool false)) := fun w' h => hv ▸ bvalid_any W H A n cap f w' h
    have e1 : countV W H n f kind = 0 := by unfold countV; rw [hv, if_neg (by simp)]
    have e2 : countE W H n f kind = 20 := by unfold countE; rw [hv, if_neg (by simp)]
    rw [e1, e2]
    clear e1 e2 hv
    go_enter Tryd.func24, Tryd.ntmps24
    go_wp2_with (go_at_call 19; (first | (with_reducible show Calls _ _ _ (Later.val _) _; with_reducible refine Calls.mono (Later.call _ (V.out _ (HP.out.later ⟨_, by repeat (first | exact Below.refl _ _ | (with_reducible assumption) | apply below_later | apply below_alloc | apply below_drew | apply below_drewN)⟩))) ?_) | (with_reducible refine Calls.mono (Gives.calls (V.out _ (HP.out.later ⟨_, by repeat (first | exact Below.refl _ _ | (with_reducible assumption) | apply below_later | apply below_alloc | apply below_drew | apply below_drewN)⟩))) ?_)); rintro e w1 ⟨rfl, z, rfl⟩)
    go_ret2
    exact ⟨rfl, later_of (by repeat (first | exact Below.refl _ _ | (with_reducible assumption) | apply below_later | apply below_alloc | apply below_drew | apply below_drewN))⟩
  · have V : Hid (∀ w', IsInts w' A n f → Gives Tryd.prog 19 #[.agg #[.int .i64 W, .int .i64 H, .slice A n cap]] w' (.bool true)) := fun w' h => hv ▸ bvalid_any W H A n cap f w' h
    obtain ⟨⟨v1, v2⟩, ⟨v3, v4⟩, hn, _⟩ := validM_iff.1 hv
    obtain ⟨x, rfl⟩ : ∃ x : Nat, W = x := ⟨W.toNat, by omega⟩
    obtain ⟨y, rfl⟩ : ∃ y : Nat, H = y := ⟨H.toNat, by omega⟩
    have hn' : n = x * y := by rw [← Int.natCast_mul] at hn; omega
    have h0 : 0 < n := by
      have := Nat.mul_le_mul (show 1 ≤ x by omega) (show 1 ≤ y by omega)
      omega
    cases hk : kindB kind
    · have e1 : countV x y n f kind = 0 := by unfold countV; rw [hk, if_neg (by simp)]
      have e2 : countE x y n f kind = 2 := by unfold countE; rw [hv, hk, if_pos rfl, if_neg (by simp)]
      rw [e1, e2]
      have K1 : Hid (∀ w, Gives Tryd.prog 61 #[.int .i64 kind] w (.bool false)) := fun w => hk ▸ isKind_any _ w
      clear e1 e2 hv hk hn hn'
      go_enter Tryd.func24, Tryd.ntmps24
      go_wp2_with (first | (go_at_call 19; (first | (with_reducible show Calls _ _ _ (Later.val _) _; with_reducible refine Calls.mono (Later.call _ (V.out _ (HP.out.later ⟨_, by repeat (first | exact Below.refl _ _ | (with_reducible assumption) | apply below_later | apply below_alloc | apply below_drew | apply below_drewN)⟩))) ?_) | (with_reducible refine Calls.mono (Gives.calls (V.out _ (HP.out.later ⟨_, by repeat (first | exact Below.refl _ _ | (with_reducible assumption) | apply below_later | apply below_alloc | apply below_drew | apply below_drewN)⟩))) ?_)); rintro e w1 ⟨rfl, z, rfl⟩) | (go_at_call 61; (first | (with_reducible show Calls _ _ _ (Later.val _) _; with_reducible refine Calls.mono (Later.call _ (K1.out _)) ?_) | (with_reducible refine Calls.mono (Gives.calls (K1.out _)) ?_)); rintro e w1 ⟨rfl, z2, rfl⟩))
      go_ret2
      exact ⟨rfl, later_of (by repeat (first | exact Below.refl _ _ | (with_reducible assumption) | apply below_later | apply below_alloc | apply below_drew | apply below_drewN))⟩
    · have e1 : countV x y n f kind = (kindN n f kind : Nat) := by unfold countV; rw [if_pos ⟨hv, hk⟩]
      have e2 : countE x y n f kind = 0 := by unfold countE; rw [hv, hk, if_pos rfl, if_pos rfl]
      rw [e1, e2]
      have K1 : Hid (∀ w, Gives Tryd.prog 61 #[.int .i64 kind] w (.bool true)) := fun w => hk ▸ isKind_any _ w
      have C1 : Hid (∀ (w : World) (bk : Nat), IsInts w A n f → w.cell? ⟨bk, 0, none⟩ = some (.int .i64 kind) → Gives Tryd.prog 60 #[.agg #[.int .i64 x, .int .i64 y, .slice A n cap], .func (.func 65) #[] #[.pointer (some ⟨bk, 0, none⟩)]] w (.int .i64 (kindN n f kind))) := fun w bk h1 h2 =>
        count_eq x y n cap bk A f kind w (by omega) (by omega) hn' h0 h1 h2
      clear e1 e2 hv hk hn hn'
      go_enter Tryd.func24, Tryd.ntmps24
      go_wp2_with (first | (go_at_call 19; (first | (with_reducible show Calls _ _ _ (Later.val _) _; with_reducible refine Calls.mono (Later.call _ (V.out _ (HP.out.later ⟨_, by repeat (first | exact Below.refl _ _ | (with_reducible assumption) | apply below_later | apply below_alloc | apply below_drew | apply below_drewN)⟩))) ?_) | (with_reducible refine Calls.mono (Gives.calls (V.out _ (HP.out.later ⟨_, by repeat (first | exact Below.refl _ _ | (with_reducible assumption) | apply below_later | apply below_alloc | apply below_drew | apply below_drewN)⟩))) ?_)); rintro e w1 ⟨rfl, z, rfl⟩) | (go_at_call 61; (first | (with_reducible show Calls _ _ _ (Later.val _) _; with_reducible refine Calls.mono (Later.call _ (K1.out _)) ?_) | (with_reducible refine Calls.mono (Gives.calls (K1.out _)) ?_)); rintro e w1 ⟨rfl, z2, rfl⟩) | (go_at_call 60; (first | (with_reducible show Calls _ _ _ (Later.val _) _; with_reducible refine Calls.mono (Later.call _ (C1.out _ _ (HP.out.later ⟨_, by repeat (first | exact Below.refl _ _ | (with_reducible assumption) | apply below_later | apply below_alloc | apply below_drew | apply below_drewN)⟩) (by rw [Later.cell _ _ _ (by simp)]; exact cell_second _ _ _ _))) ?_) | (with_reducible refine Calls.mono (Gives.calls (C1.out _ _ (HP.out.later ⟨_, by repeat (first | exact Below.refl _ _ | (with_reducible assumption) | apply below_later | apply below_alloc | apply below_drew | apply below_drewN)⟩) (by rw [Later.cell _ _ _ (by simp)]; exact cell_second _ _ _ _))) ?_)); rintro e w1 ⟨rfl, z3, rfl⟩))
      go_ret2
      exact ⟨rfl, later_of (by repeat (first | exact Below.refl _ _ | (with_reducible assumption) | apply below_later | apply below_alloc | apply below_drew | apply below_drewN))⟩

set_option maxRecDepth 100000 in
set_option maxHeartbeats 1600000 in
theorem rCount_any (W H : Int) (n cap : Nat) (A : Option Addr) (f : Nat → Int) (kind : Int) (w : World) (hn9 : n ≤ 1000) (hp : IsInts w A n f) :
    Gives Tryd.prog 25 #[.agg #[.int .i64 W, .int .i64 H, .slice A n cap], .int .i64 kind] w (.tuple #[.int .i64 (countV W H n f kind), .int .i64 (countE W H n f kind)]) := by
  have HP := Lib.hid hp
  clear hp
  cases hv : validM W H n f
  · have V : Hid (∀ w', IsInts w' A n f → Gives Tryd.prog 20 #[.agg #[.int .i64 W, .int .i64 H, .slice A n cap]] w' (.bool false)) := fun w' h => hv ▸ rmvalid_any W H A n cap f w' h
    have e1 : countV W H n f kind = 0 := by unfold countV; rw [hv, if_neg (by simp)]
    have e2 : countE W H n f kind = 20 := by unfold countE; rw [hv, if_neg (by simp)]
    rw [e1, e2]
    clear e1 e2 hv
    go_enter Tryd.func25, Tryd.ntmps25
    go_wp2_with (go_at_call 20; (first | (with_reducible show Calls _ _ _ (Later.val _) _; with_reducible refine Calls.mono (Later.call _ (V.out _ (HP.out.later ⟨_, by repeat (first | exact Below.refl _ _ | (with_reducible assumption) | apply below_later | apply below_alloc | apply below_drew | apply below_drewN)⟩))) ?_) | (with_reducible refine Calls.mono (Gives.calls (V.out _ (HP.out.later ⟨_, by repeat (first | exact Below.refl _ _ | (with_reducible assumption) | apply below_later | apply below_alloc | apply below_drew | apply below_drewN)⟩))) ?_)); rintro e w1 ⟨rfl, z, rfl⟩)
    go_ret2
    exact ⟨rfl, later_of (by repeat (first | exact Below.refl _ _ | (with_reducible assumption) | apply below_later | apply below_alloc | apply below_drew | apply below_drewN))⟩
  · have V : Hid (∀ w', IsInts w' A n f → Gives Tryd.prog 20 #[.agg #[.int .i64 W, .int .i64 H, .slice A n cap]] w' (.bool true)) := fun w' h => hv ▸ rmvalid_any W H A n cap f w' h
    cases hk : kindB kind
    · have e1 : countV W H n f kind = 0 := by unfold countV; rw [hk, if_neg (by simp)]
      have e2 : countE W H n f kind = 2 := by unfold countE; rw [hv, hk, if_pos rfl, if_neg (by simp)]
      rw [e1, e2]
      have K1 : Hid (∀ w, Gives Tryd.prog 62 #[.int .i64 1, .int .i64 kind, .int .i64 4] w (.bool false)) := fun w => hk ▸ fromKind _ w
      clear e1 e2 hv hk
      go_enter Tryd.func25, Tryd.ntmps25
      go_wp2_with (first | (go_at_call 20; (first | (with_reducible show Calls _ _ _ (Later.val _) _; with_reducible refine Calls.mono (Later.call _ (V.out _ (HP.out.later ⟨_, by repeat (first | exact Below.refl _ _ | (with_reducible assumption) | apply below_later | apply below_alloc | apply below_drew | apply below_drewN)⟩))) ?_) | (with_reducible refine Calls.mono (Gives.calls (V.out _ (HP.out.later ⟨_, by repeat (first | exact Below.refl _ _ | (with_reducible assumption) | apply below_later | apply below_alloc | apply below_drew | apply below_drewN)⟩))) ?_)); rintro e w1 ⟨rfl, z, rfl⟩) | (go_at_call 62; (first | (with_reducible show Calls _ _ _ (Later.val _) _; with_reducible refine Calls.mono (Later.call _ (K1.out _)) ?_) | (with_reducible refine Calls.mono (Gives.calls (K1.out _)) ?_)); rintro e w1 ⟨rfl, z2, rfl⟩))
      go_ret2
      exact ⟨rfl, later_of (by repeat (first | exact Below.refl _ _ | (with_reducible assumption) | apply below_later | apply below_alloc | apply below_drew | apply below_drewN))⟩
    · have e1 : countV W H n f kind = (kindN n f kind : Nat) := by unfold countV; rw [if_pos ⟨hv, hk⟩]
      have e2 : countE W H n f kind = 0 := by unfold countE; rw [hv, hk, if_pos rfl, if_pos rfl]
      rw [e1, e2]
      have K1 : Hid (∀ w, Gives Tryd.prog 62 #[.int .i64 1, .int .i64 kind, .int .i64 4] w (.bool true)) := fun w => hk ▸ fromKind _ w
      have C1 : Hid (∀ (w : World), IsInts w A n f → Gives Tryd.prog 66 #[.agg #[.int .i64 W, .int .i64 H, .slice A n cap], .int .i64 kind] w (.int .i64 (kindN n f kind))) := fun w h1 => rcount_eq W H n cap A f kind w hn9 h1
      clear e1 e2 hv hk
      go_enter Tryd.func25, Tryd.ntmps25
      go_wp2_with (first | (go_at_call 20; (first | (with_reducible show Calls _ _ _ (Later.val _) _; with_reducible refine Calls.mono (Later.call _ (V.out _ (HP.out.later ⟨_, by repeat (first | exact Below.refl _ _ | (with_reducible assumption) | apply below_later | apply below_alloc | apply below_drew | apply below_drewN)⟩))) ?_) | (with_reducible refine Calls.mono (Gives.calls (V.out _ (HP.out.later ⟨_, by repeat (first | exact Below.refl _ _ | (with_reducible assumption) | apply below_later | apply below_alloc | apply below_drew | apply below_drewN)⟩))) ?_)); rintro e w1 ⟨rfl, z, rfl⟩) | (go_at_call 62; (first | (with_reducible show Calls _ _ _ (Later.val _) _; with_reducible refine Calls.mono (Later.call _ (K1.out _)) ?_) | (with_reducible refine Calls.mono (Gives.calls (K1.out _)) ?_)); rintro e w1 ⟨rfl, z2, rfl⟩) | (go_at_call 66; (first | (with_reducible show Calls _ _ _ (Later.val _) _; with_reducible refine Calls.mono (Later.call _ (C1.out _ (HP.out.later ⟨_, by repeat (first | exact Below.refl _ _ | (with_reducible assumption) | apply below_later | apply below_alloc | apply below_drew | apply below_drewN)⟩))) ?_) | (with_reducible refine Calls.mono (Gives.calls (C1.out _ (HP.out.later ⟨_, by repeat (first | exact Below.refl _ _ | (with_reducible assumption) | apply below_later | apply below_alloc | apply below_drew | apply below_drewN)⟩))) ?_)); rintro e w1 ⟨rfl, z3, rfl⟩))
      go_ret2
      exact ⟨rfl, later_of (by repeat (first | exact Below.refl _ _ | (with_reducible assumption) | apply below_later | apply below_alloc | apply below_drew | apply below_drewN))⟩
end Go.Proofs.YtajfepogecakbaaDoor
