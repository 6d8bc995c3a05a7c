/- The law TopWindows: walked. -/
import Derived.Test.YtajfepogecakbaaDoorTold
import Derived.Test.YtajfepogecakbaaDoorU8s
import Derived.Deep.DeepCutAuto
import Derived.Deep.RegionWith
import Derived.Test.YtajfepogecakbaaDoorTail
namespace Go.Proofs.YtajfepogecakbaaDoor
open Go.RowKit

theorem Count_ok (W H : Int) (n cap : Nat) (A : Option Addr) (f : Nat → Int) (kind : Int) (w : World) (hp : IsInts w A n f) (hv : validM W H n f = true) (hk : kindB kind = true) :
    Gives Tryd.prog 24 #[.agg #[.int .i64 W, .int .i64 H, .slice A n cap], .int .i64 kind] w (.tuple #[.int .i64 ((kindN n f kind : Nat) : Int), .int .i64 0]) := by
  have := Count_any W H n cap A f kind w hp
  unfold countV countE at this
  rw [hv] at this
  simp only [hk, and_self, if_true] at this
  exact this
/-- The map that stands in the law's box. -/
structure Cur (water : Int) (w V : World) (W H : Nat) (A : Option Addr) (n cap : Nat) (f : Nat → Int) : Prop where
  below : Below w.heap.size w V
  box : V.heap[w.heap.size]? = some (.cells #[.int .i64 W, .int .i64 H, .slice A n cap] 24)
  ints : IsInts V A n f
  apart : ∀ b off s, A = some ⟨b, off, s⟩ → b ≠ w.heap.size
  valid : validM W H n f = true
  wet : ((kindN n f 2 : Nat) : Int) = water
section
variable {water : Int} {w V : World} {W H W1 H1 n cap cap1 : Nat} {A A1 : Option Addr} {f f1 : Nat → Int}
theorem Cur.later (h : Cur water w V W H A n cap f) (x : Later V) : Cur water w x.val W H A n cap f :=
  ⟨below_more h.below x.ok, (x.ok.block _ (lt_of_get h.box)).trans h.box, h.ints.later x, h.apart, h.valid, h.wet⟩
theorem far_cell {b k off : Nat} {v0 v1 v2 : Value} (hk : k ≠ b) : (((V.setCell ⟨b, 0, none⟩ v0).setCell ⟨b, 1, none⟩ v1).setCell ⟨b, 2, none⟩ v2).cell? ⟨k, off, none⟩ = V.cell? ⟨k, off, none⟩ := by
  have e : (((V.setCell ⟨b, 0, none⟩ v0).setCell ⟨b, 1, none⟩ v1).setCell ⟨b, 2, none⟩ v2).heap[k]? = V.heap[k]? := by
    rw [Below.heap_setCell _ _ _ _ hk, Below.heap_setCell _ _ _ _ hk, Below.heap_setCell _ _ _ _ hk]
  unfold World.cell?
  simp only [e]
theorem Cur.put (h : Cur water w V W H A n cap f) (i1 : IsInts V A1 n f1) (a1 : ∀ b off s, A1 = some ⟨b, off, s⟩ → b ≠ w.heap.size) (v1 : validM W1 H1 n f1 = true) (e1 : ((kindN n f1 2 : Nat) : Int) = water) :
    Cur water w (((V.setCell ⟨w.heap.size, 0, none⟩ (.int .i64 W1)).setCell ⟨w.heap.size, 1, none⟩ (.int .i64 H1)).setCell ⟨w.heap.size, 2, none⟩ (.slice A1 n cap1)) W1 H1 A1 n cap1 f1 :=
  ⟨below_put3 h.below (Nat.le_refl _), put3 h.box, ⟨i1.small, fun h0 => by
    obtain ⟨b, off, e, p⟩ := i1.at_ h0
    have hb := a1 b off none e
    exact ⟨b, off, e, by have := p.lt; simp; omega, fun i hi => (far_cell hb).trans (p.at_ i hi)⟩⟩, a1, v1, e1⟩
end

/-- What the law has behind a change: the map in its box, and the next one in a new box. -/
structure Nxt (water : Int) (w wr wx : World) (W1 H1 : Nat) (A1 : Option Addr) (n c1 : Nat) (f1 : Nat → Int) (W2 H2 : Nat) (L2 : List Int) (nb : Nat) (A2 : Option Addr) (c2 : Nat) : Prop where
  cur : Cur water w wx W1 H1 A1 n c1 f1
  box : wx.heap[nb]? = some (.cells #[.int .i64 W2, .int .i64 H2, .slice A2 n c2] 24)
  ints : IsInts wx A2 n (fun i => L2.getD i 0)
  apart : ∀ b off s, A2 = some ⟨b, off, s⟩ → b ≠ w.heap.size
  below : Below wr.heap.size wr wx
section
variable {water : Int} {w wr V : World} {W1 H1 n c1 W2 H2 c2 : Nat} {A1 A2 : Option Addr} {f1 : Nat → Int} {L2 : List Int}
theorem Nxt.later {wx : World} {nb : Nat} (h : Nxt water w wr wx W1 H1 A1 n c1 f1 W2 H2 L2 nb A2 c2) (x : Later wx) : Nxt water w wr x.val W1 H1 A1 n c1 f1 W2 H2 L2 nb A2 c2 :=
  ⟨h.cur.later x, (x.ok.block _ (lt_of_get h.box)).trans h.box, h.ints.later x, h.apart, below_more h.below x.ok⟩
theorem own_apart {V' : World} {base : Nat} (ho : OwnI V' base (.slice A2 n c2) L2) (hb : w.heap.size < base) : ∀ b off s, A2 = some ⟨b, off, s⟩ → b ≠ w.heap.size := by
  rintro b off s rfl
  have := (own_lt ho b rfl).1
  omega
theorem nxt_late (hc : Cur water w V W1 H1 A1 n c1 f1) (hb : Below wr.heap.size wr V) (y : Later V.drew) (hl : L2.length = n) (hn : n ≤ 400) (ho : OwnI y.val V.drew.heap.size (.slice A2 n c2) L2) :
    Nxt water w wr (y.val.alloc (.cells #[.int .i64 W2, .int .i64 H2, .slice A2 n c2] 24)) W1 H1 A1 n c1 f1 W2 H2 L2 y.val.heap.size A2 c2 := by
  have h1 : Below V.heap.size V (y.val.alloc (.cells #[.int .i64 W2, .int .i64 H2, .slice A2 n c2] 24)) := below_alloc (below_more (below_drew (Below.refl _ _)) y.ok)
  exact ⟨hc.later ⟨_, h1⟩, World.alloc_heap_new _ _, ((ho.alloc _).ints (by omega)).2, own_apart ho (lt_of_get hc.box), below_more hb h1⟩
theorem nxt_early {o0 o1 o2 : Value} (hc : Cur water w V W1 H1 A1 n c1 f1) (hb : Below wr.heap.size wr V) (y : Later (V.alloc (.cells #[o0, o1, o2] 24)).drew) (hl : L2.length = n) (hn : n ≤ 400) (ho : OwnI y.val (V.alloc (.cells #[o0, o1, o2] 24)).drew.heap.size (.slice A2 n c2) L2) :
    Nxt water w wr (((y.val.setCell ⟨V.heap.size, 0, none⟩ (.int .i64 W2)).setCell ⟨V.heap.size, 1, none⟩ (.int .i64 H2)).setCell ⟨V.heap.size, 2, none⟩ (.slice A2 n c2)) W1 H1 A1 n c1 f1 W2 H2 L2 V.heap.size A2 c2 := by
  have h0 : Below V.heap.size V y.val := below_more (below_drew (below_alloc (Below.refl _ _))) y.ok
  have h1 : Below V.heap.size V (((y.val.setCell ⟨V.heap.size, 0, none⟩ (.int .i64 W2)).setCell ⟨V.heap.size, 1, none⟩ (.int .i64 H2)).setCell ⟨V.heap.size, 2, none⟩ (.slice A2 n c2)) := below_put3 h0 (Nat.le_refl _)
  have e : (V.alloc (.cells #[o0, o1, o2] 24)).drew.heap.size = V.heap.size + 1 := World.size_alloc _ _
  have G : y.val.heap[V.heap.size]? = some (.cells #[o0, o1, o2] 24) := (y.ok.block _ (by rw [e]; omega)).trans (World.alloc_heap_new _ _)
  have l0 := lt_of_get hc.box
  refine ⟨hc.later ⟨_, h1⟩, put3 G, ((own_put3 ho fun g hg => ?_).ints (by omega)).2, own_apart ho (by rw [e]; omega), below_more hb h1⟩
  have := (own_lt ho g hg).1
  rw [e] at this
  omega
end

set_option maxRecDepth 100000 in
set_option maxHeartbeats 3200000 in
theorem windows_law (W H : Int) (A : Option Addr) (n cap : Nat) (f : Nat → Int) (B : Option Addr) (m capb : Nat) (g : Nat → Int) (w : World) (hp : IsInts w A n f) (hq : IsU8s w B m g) (hg : ∀ i, i < m → 0 ≤ g i ∧ g i ≤ 255) (hm : m ≤ maxLen) :
    Gives Tryd.prog 14 #[.agg #[.int .i64 W, .int .i64 H, .slice A n cap], .slice B m capb] w (.bool true) := by
  have hm9 : m < 9223372036854775808 := by unfold maxLen at hm; omega
  have AW : Hid (∀ w, Gives Tryd.prog 16 #[] w (.bool true)) := awake_any
  have HP := Lib.hid hp
  have HQ := Lib.hid hq
  have hm1 := hp.small
  clear hp hq hm
  cases hv : validM W H n f
  · have V : Hid (∀ w', IsInts w' A n f → Gives Tryd.prog 20 #[.agg #[.int .i64 W, .int .i64 H, .slice A n cap]] w' (.bool false)) := fun w' h => hv ▸ rmvalid_any W H A n cap f w' h
    clear hv hg
    go_enter Tryd.func14, Tryd.ntmps14
    go_wp2_with (first | (go_at_call 20; (first | (with_reducible show Calls _ _ _ (Later.val _) _; with_reducible refine Calls.mono (Later.call _ (V.out _ (HP.out.later ⟨_, by repeat (first | exact Below.refl _ _ | (with_reducible assumption) | apply below_later | apply below_alloc | apply below_drew | apply below_drewN)⟩))) ?_) | (with_reducible refine Calls.mono (Gives.calls (V.out _ (HP.out.later ⟨_, by repeat (first | exact Below.refl _ _ | (with_reducible assumption) | apply below_later | apply below_alloc | apply below_drew | apply below_drewN)⟩))) ?_)); rintro e w1 ⟨rfl, z, rfl⟩) | (go_at_call 16; (first | (with_reducible show Calls _ _ _ (Later.val _) _; with_reducible refine Calls.mono (Later.call _ (AW.out _)) ?_) | (with_reducible refine Calls.mono (Gives.calls (AW.out _)) ?_)); rintro e w1 ⟨rfl, y2, rfl⟩))
    go_ret
    exact ⟨rfl, later_of (by repeat (first | exact Below.refl _ _ | (with_reducible assumption) | apply below_later | apply below_alloc | apply below_drew | apply below_drewN))⟩
  · have V : Hid (∀ w', IsInts w' A n f → Gives Tryd.prog 20 #[.agg #[.int .i64 W, .int .i64 H, .slice A n cap]] w' (.bool true)) := fun w' h => hv ▸ rmvalid_any W H A n cap f w' h
    obtain ⟨⟨v1, v2⟩, ⟨v3, v4⟩, hn, _⟩ := validM_iff.1 hv
    obtain ⟨W, rfl⟩ : ∃ x : Nat, W = x := ⟨W.toNat, by omega⟩
    obtain ⟨H, rfl⟩ : ∃ y : Nat, H = y := ⟨H.toNat, by omega⟩
    clear hn
    by_cases h1 : 400 < n ∨ 8 < m
    · clear hv hg
      by_cases h4 : 400 < n
      · have q4 : decide ((400 : Int) < (n : Int)) = true := by simp; omega
        go_enter Tryd.func14, Tryd.ntmps14
        go_wp2_with (first | (go_at_call 20; (first | (with_reducible show Calls _ _ _ (Later.val _) _; with_reducible refine Calls.mono (Later.call _ (V.out _ (HP.out.later ⟨_, by repeat (first | exact Below.refl _ _ | (with_reducible assumption) | apply below_later | apply below_alloc | apply below_drew | apply below_drewN)⟩))) ?_) | (with_reducible refine Calls.mono (Gives.calls (V.out _ (HP.out.later ⟨_, by repeat (first | exact Below.refl _ _ | (with_reducible assumption) | apply below_later | apply below_alloc | apply below_drew | apply below_drewN)⟩))) ?_)); rintro e w1 ⟨rfl, z, rfl⟩) | (go_at_call 16; (first | (with_reducible show Calls _ _ _ (Later.val _) _; with_reducible refine Calls.mono (Later.call _ (AW.out _)) ?_) | (with_reducible refine Calls.mono (Gives.calls (AW.out _)) ?_)); rintro e w1 ⟨rfl, y2, rfl⟩))
        go_ret
        exact ⟨rfl, later_of (by repeat (first | exact Below.refl _ _ | (with_reducible assumption) | apply below_later | apply below_alloc | apply below_drew | apply below_drewN))⟩
      · have q4 : decide ((400 : Int) < (n : Int)) = false := by simp; omega
        have q8 : decide ((8 : Int) < (m : Int)) = true := by simp; omega
        go_enter Tryd.func14, Tryd.ntmps14
        go_wp2_with (first | (go_at_call 20; (first | (with_reducible show Calls _ _ _ (Later.val _) _; with_reducible refine Calls.mono (Later.call _ (V.out _ (HP.out.later ⟨_, by repeat (first | exact Below.refl _ _ | (with_reducible assumption) | apply below_later | apply below_alloc | apply below_drew | apply below_drewN)⟩))) ?_) | (with_reducible refine Calls.mono (Gives.calls (V.out _ (HP.out.later ⟨_, by repeat (first | exact Below.refl _ _ | (with_reducible assumption) | apply below_later | apply below_alloc | apply below_drew | apply below_drewN)⟩))) ?_)); rintro e w1 ⟨rfl, z, rfl⟩) | (go_at_call 16; (first | (with_reducible show Calls _ _ _ (Later.val _) _; with_reducible refine Calls.mono (Later.call _ (AW.out _)) ?_) | (with_reducible refine Calls.mono (Gives.calls (AW.out _)) ?_)); rintro e w1 ⟨rfl, y2, rfl⟩))
        go_ret
        exact ⟨rfl, later_of (by repeat (first | exact Below.refl _ _ | (with_reducible assumption) | apply below_later | apply below_alloc | apply below_drew | apply below_drewN))⟩
    · have q4 : decide ((400 : Int) < (n : Int)) = false := by simp; omega
      have q8 : decide ((8 : Int) < (m : Int)) = false := by simp; omega
      have hn4 : n ≤ 400 := by omega
      have hm8 : m ≤ 8 := by omega
      obtain ⟨wat, hwat⟩ : ∃ wat, kindN n f 2 = wat := ⟨_, rfl⟩
      have C0 : Hid (∀ w', IsInts w' A n f → Gives Tryd.prog 24 #[.agg #[.int .i64 W, .int .i64 H, .slice A n cap], .int .i64 2] w' (.tuple #[.int .i64 (wat : Int), .int .i64 0])) := fun w' h => hwat ▸ Count_ok W H n cap A f 2 w' h hv (by decide)
      have T0 : Hid (∀ w', IsInts w' A n f → Gives Tryd.prog 55 #[.agg #[.int .i64 W, .int .i64 H, .slice A n cap]] w' (.bool true)) := fun w' h => told_any W H n cap A f w' h hv
      have HV := Lib.hid hv
      have HG := Lib.hid hg
      have HWAT := Lib.hid (congrArg (fun x : Nat => (x : Int)) hwat)
      have hAp : ∀ b off s, A = some ⟨b, off, s⟩ → 0 < n → b ≠ w.heap.size := fun b off s e h0 => by
        obtain ⟨b', off', e', p⟩ := HP.out.at_ h0
        rw [e'] at e
        have := p.lt
        simp only [Option.some.injEq, Addr.mk.injEq] at e
        omega
      have HAP := Lib.hid hAp
      clear hv hg hwat hAp
      go_enter Tryd.func14, Tryd.ntmps14
      go_wp2_with (first | (go_at_call 20; (first | (with_reducible show Calls _ _ _ (Later.val _) _; with_reducible refine Calls.mono (Later.call _ (V.out _ (HP.out.later ⟨_, by repeat (first | exact Below.refl _ _ | (with_reducible assumption) | apply below_later | apply below_alloc | apply below_drew | apply below_drewN)⟩))) ?_) | (with_reducible refine Calls.mono (Gives.calls (V.out _ (HP.out.later ⟨_, by repeat (first | exact Below.refl _ _ | (with_reducible assumption) | apply below_later | apply below_alloc | apply below_drew | apply below_drewN)⟩))) ?_)); rintro e w1 ⟨rfl, z, rfl⟩) | (go_at_call 24; (first | (with_reducible show Calls _ _ _ (Later.val _) _; with_reducible refine Calls.mono (Later.call _ (C0.out _ (HP.out.later ⟨_, by repeat (first | exact Below.refl _ _ | (with_reducible assumption) | apply below_later | apply below_alloc | apply below_drew | apply below_drewN)⟩))) ?_) | (with_reducible refine Calls.mono (Gives.calls (C0.out _ (HP.out.later ⟨_, by repeat (first | exact Below.refl _ _ | (with_reducible assumption) | apply below_later | apply below_alloc | apply below_drew | apply below_drewN)⟩))) ?_)); rintro e w1 ⟨rfl, z2, rfl⟩) | (go_at_call 55; (first | (with_reducible show Calls _ _ _ (Later.val _) _; with_reducible refine Calls.mono (Later.call _ (T0.out _ (HP.out.later ⟨_, by repeat (first | exact Below.refl _ _ | (with_reducible assumption) | apply below_later | apply below_alloc | apply below_drew | apply below_drewN)⟩))) ?_) | (with_reducible refine Calls.mono (Gives.calls (T0.out _ (HP.out.later ⟨_, by repeat (first | exact Below.refl _ _ | (with_reducible assumption) | apply below_later | apply below_alloc | apply below_drew | apply below_drewN)⟩))) ?_)); rintro e w1 ⟨rfl, z3, rfl⟩))
      have M0 : z3.val.heap[w.heap.size]? = some (.cells #[.int .i64 W, .int .i64 H, .slice A n cap] 24) := (Below.block (w := w.alloc (.cells #[.int .i64 W, .int .i64 H, .slice A n cap] 24)) (show Below _ _ _ by repeat (first | exact Below.refl _ _ | (with_reducible assumption) | apply below_later | apply below_alloc | apply below_drew | apply below_drewN)) _ (by simp)).trans (World.alloc_heap_new _ _)
      have hb3 : Below w.heap.size w z3.val := by repeat (first | exact Below.refl _ _ | (with_reducible assumption) | apply below_later | apply below_alloc | apply below_drew | apply below_drewN)
      have CUR : Hid (Cur wat w z3.val W H A n cap f) := ⟨hb3, M0, HP.out.later ⟨z3.val, hb3⟩, fun b off s e => by
        rcases Nat.eq_zero_or_pos n with h | h
        · have := (validM_iff.1 HV.out).2.2.1
          have q := Int.mul_pos (show (0 : Int) < W by omega) (show (0 : Int) < H by omega)
          omega
        · exact HAP.out b off s e h, HV.out, HWAT.out⟩
      clear M0 hb3 C0 T0 V HAP HWAT HV q4 q8
      generalize z3.val = V3 at *
      go_loopw [7] (fun u wr => ∃ k : Nat, k ≤ m ∧ u = .int .i64 k ∧ ∃ (W1 H1 : Nat) (A1 : Option Addr) (c1 : Nat) (f1 : Nat → Int), Cur wat w wr W1 H1 A1 n c1 f1) (fun u _ => m - (intOf u).toNat)
      case atStart => exact ⟨0, by omega, rfl, W, H, A, cap, f, CUR.out⟩
      case round =>
        obtain ⟨k, hk, rfl, W1, H1, A1, c1, f1, hc⟩ := hrel
        have HC := Lib.hid hc
        clear hc CUR
        by_cases hlt : k < m
        · obtain ⟨bb, ob, hB, pb⟩ := (HQ.out.later ⟨wr, HC.out.below⟩).at_ (by omega)
          subst hB
          have cb := pb.at_ k hlt
          have lb := pb.lt
          obtain ⟨⟨m0, m1, m2⟩, _⟩ := cells3 HC.out.box
          have lM := lt_of_get HC.out.box
          obtain ⟨g0, g9⟩ := HG.out k hlt
          generalize g k = gk at *
          obtain ⟨kk, hkk⟩ : ∃ kk : Nat, gk % 4 = (kk : Int) := ⟨(gk % 4).toNat, by omega⟩
          have hk4 : kk < 4 := by omega
          have CR : Hid (∀ w', IsInts w' A1 n f1 → Gives Tryd.prog 24 #[.agg #[.int .i64 W1, .int .i64 H1, .slice A1 n c1], .int .i64 1] w' (.tuple #[.int .i64 ((kindN n f1 1 : Nat) : Int), .int .i64 0])) := fun w' h => Count_ok W1 H1 n c1 A1 f1 1 w' h HC.out.valid (by decide)
          have CH : Hid (∀ w', IsInts w' A1 n f1 → GivesME 56 #[.agg #[.int .i64 W1, .int .i64 H1, .slice A1 n c1], .int .u8 gk] w' (chW kk W1 H1 : Nat) (chH kk W1 H1 : Nat) ((List.range n).map (chF kk W1 H1 f1)) 0) := fun w' h => changed_any W1 H1 n c1 A1 f1 gk kk w' h HC.out.valid hkk ⟨g0, g9⟩
          have V2 := ch_valid (k := kk) HC.out.valid
          have rd := ch_reed (k := kk) HC.out.valid
          have wt := ch_water (k := kk) HC.out.valid
          rw [← kind_got n (chF kk W1 H1 f1) 1] at rd
          rw [← kind_got n (chF kk W1 H1 f1) 2] at wt
          have LL : Hid (((List.range n).map (chF kk W1 H1 f1)).length = n) := by show _ = _; simp
          generalize (List.range n).map (chF kk W1 H1 f1) = L2 at *
          generalize chW kk W1 H1 = W2 at *
          generalize chH kk W1 H1 = H2 at *
          have N1 : Hid (∀ (w' : World) (B : Option Addr) (c : Nat), IsInts w' B n (fun i => L2.getD i 0) → Gives Tryd.prog 24 #[.agg #[.int .i64 W2, .int .i64 H2, .slice B n c], .int .i64 1] w' (.tuple #[.int .i64 ((kindN n (fun i => L2.getD i 0) 1 : Nat) : Int), .int .i64 0])) := fun w' B c h => Count_ok W2 H2 n c B _ 1 w' h V2 (by decide)
          have wt2 : ((kindN n (fun i => L2.getD i 0) 2 : Nat) : Int) = (wat : Int) := by rw [wt]; exact HC.out.wet
          have N2 : Hid (∀ (w' : World) (B : Option Addr) (c : Nat), IsInts w' B n (fun i => L2.getD i 0) → Gives Tryd.prog 24 #[.agg #[.int .i64 W2, .int .i64 H2, .slice B n c], .int .i64 2] w' (.tuple #[.int .i64 (wat : Int), .int .i64 0])) := fun w' B c h => by
            have := Count_ok W2 H2 n c B _ 2 w' h V2 (by decide)
            rwa [wt2] at this
          have T2 : Hid (∀ (w' : World) (B : Option Addr) (c : Nat), IsInts w' B n (fun i => L2.getD i 0) → Gives Tryd.prog 55 #[.agg #[.int .i64 W2, .int .i64 H2, .slice B n c]] w' (.bool true)) := fun w' B c h => told_any W2 H2 n c B _ w' h V2
          have WT := Lib.hid wt2
          have HV2 := Lib.hid V2
          generalize kindN n (fun i => L2.getD i 0) 1 = r1 at *
          generalize kindN n f1 1 = r0 at *
          clear wt wt2 V2 pb
          go_wp2_with (go_at_call 24; refine Calls.mono (Gives.calls (CR.out _ (HC.out.later ⟨_, by repeat (first | exact Below.refl _ _ | (with_reducible assumption) | apply below_later | apply below_alloc | apply below_drew | apply below_drewN)⟩).ints)) ?_; rintro e w1 ⟨rfl, z4, rfl⟩; have HC4 := Lib.hid (HC.out.later z4); obtain ⟨⟨m0, m1, m2⟩, _⟩ := cells3 HC4.out.box; have lM4 := lt_of_get HC4.out.box; have cb4 := (z4.cell _ _ lb).trans cb; have lb4 := Nat.lt_of_lt_of_le lb z4.size)
          have hb4 : Below wr.heap.size wr z4.val := z4.ok
          have HB4 := Lib.hid hb4
          clear hb4
          go_cut [10, 11] (fun s10 s11 wx => ∃ (nb : Nat) (A2 : Option Addr) (c2 : Nat), s10 = .pointer (some ⟨nb, 0, none⟩) ∧ s11 = .int .i64 0 ∧ Nxt wat w wr wx W1 H1 A1 n c1 f1 W2 H2 L2 nb A2 c2)
          case first =>
            go_region_with (go_at_call 56; refine Calls.mono (GivesME.calls (CH.out _ (HC4.out.later ⟨_, by repeat (first | exact Below.refl _ _ | (with_reducible assumption) | apply below_later | apply below_alloc | apply below_drew | apply below_drewN)⟩).ints)) ?_; rintro e w1 ⟨v, rfl, y5, rfl, ho⟩; obtain ⟨A2, c2, rfl⟩ := ho.shape_n (n := n) LL.out; try (have G := (y5.ok.block (z4.val.heap.size) (by simp)).trans (World.alloc_heap_new _ _); obtain ⟨⟨e0, e1, e2⟩, f0, f1, f2⟩ := cells3 G))
            all_goals
              go_wp2_with fail
              go_meet
              first
                | exact ⟨_, _, _, rfl, rfl, nxt_late HC4.out HB4.out y5 LL.out hn4 ho⟩
                | exact ⟨_, _, _, rfl, rfl, nxt_early HC4.out HB4.out y5 LL.out hn4 ho⟩
          case rest =>
            obtain ⟨nb, A2, c2, rfl, rfl, hx⟩ := hcut
            have HX := Lib.hid hx
            have NB := Lib.hid hx.box
            obtain ⟨⟨e0, e1, e2⟩, _⟩ := cells3 hx.box
            have lnb := lt_of_get hx.box
            clear hx m0 m1 m2 lM4 cb4 lb4 CR CH HC4 HB4
            generalize z4.val = V4 at *
            rcases kind_four hk4 with rfl | rfl | rfl | rfl
            · obtain ⟨rd, _, _⟩ := rd
              have rd' := rd rfl
              have d2 : ¬ (r1 : Int) < (r0 : Int) := by omega
              have d1 : decide ((r1 : Int) < (r0 : Int)) = false := by simpa using d2
              clear rd
              go_wp2_with (first
                | (go_at_call 24; with_reducible refine Calls.mono (Gives.calls (N1.out _ _ _ HX.out.ints)) ?_; rintro e w1 ⟨rfl, z6, rfl⟩; have X6 := Lib.hid (HX.out.later z6); obtain ⟨⟨e0, e1, e2⟩, _⟩ := cells3 X6.out.box)
                | (go_at_call 24; with_reducible refine Calls.mono (Gives.calls (N2.out _ _ _ X6.out.ints)) ?_; rintro e w1 ⟨rfl, z7, rfl⟩; have X7 := Lib.hid (X6.out.later z7); obtain ⟨⟨e0, e1, e2⟩, _⟩ := cells3 X7.out.box)
                | (go_at_call 55; with_reducible refine Calls.mono (Gives.calls (T2.out _ _ _ X7.out.ints)) ?_; rintro e w1 ⟨rfl, z8, rfl⟩; have X8 := Lib.hid (X7.out.later z8); obtain ⟨⟨e0, e1, e2⟩, _⟩ := cells3 X8.out.box; obtain ⟨⟨m0, m1, m2⟩, f0, f1', f2⟩ := cells3 X8.out.cur.box; have cb8 := (X8.out.below.cell (p := ⟨bb, ob + k, none⟩) lb).trans cb; have lb8 := Nat.lt_of_lt_of_le lb X8.out.below.size; have lM8 := lt_of_get X8.out.cur.box; have lN8 := lt_of_get X8.out.box))
              go_roundw
              case rel => exact ⟨k + 1, by omega, by go_num, W2, H2, A2, c2, _, X8.out.cur.put X8.out.ints X8.out.apart HV2.out WT.out⟩
              case measure => simp [intOf]; omega
            · obtain ⟨_, rd, _⟩ := rd
              have rd' := rd rfl
              have d2 : ¬ (r0 : Int) < (r1 : Int) := by omega
              have d1 : decide ((r0 : Int) < (r1 : Int)) = false := by simpa using d2
              clear rd
              go_wp2_with (first
                | (go_at_call 24; with_reducible refine Calls.mono (Gives.calls (N1.out _ _ _ HX.out.ints)) ?_; rintro e w1 ⟨rfl, z6, rfl⟩; have X6 := Lib.hid (HX.out.later z6); obtain ⟨⟨e0, e1, e2⟩, _⟩ := cells3 X6.out.box)
                | (go_at_call 24; with_reducible refine Calls.mono (Gives.calls (N2.out _ _ _ X6.out.ints)) ?_; rintro e w1 ⟨rfl, z7, rfl⟩; have X7 := Lib.hid (X6.out.later z7); obtain ⟨⟨e0, e1, e2⟩, _⟩ := cells3 X7.out.box)
                | (go_at_call 55; with_reducible refine Calls.mono (Gives.calls (T2.out _ _ _ X7.out.ints)) ?_; rintro e w1 ⟨rfl, z8, rfl⟩; have X8 := Lib.hid (X7.out.later z8); obtain ⟨⟨e0, e1, e2⟩, _⟩ := cells3 X8.out.box; obtain ⟨⟨m0, m1, m2⟩, f0, f1', f2⟩ := cells3 X8.out.cur.box; have cb8 := (X8.out.below.cell (p := ⟨bb, ob + k, none⟩) lb).trans cb; have lb8 := Nat.lt_of_lt_of_le lb X8.out.below.size; have lM8 := lt_of_get X8.out.cur.box; have lN8 := lt_of_get X8.out.box))
              go_roundw
              case rel => exact ⟨k + 1, by omega, by go_num, W2, H2, A2, c2, _, X8.out.cur.put X8.out.ints X8.out.apart HV2.out WT.out⟩
              case measure => simp [intOf]; omega
            · obtain ⟨_, _, rd⟩ := rd
              have rd' := rd (by omega) (by omega)
              subst rd'
              have d1 : ((r1 : Int) != (r1 : Int)) = false := by simp
              clear rd
              go_wp2_with (first
                | (go_at_call 24; with_reducible refine Calls.mono (Gives.calls (N1.out _ _ _ HX.out.ints)) ?_; rintro e w1 ⟨rfl, z6, rfl⟩; have X6 := Lib.hid (HX.out.later z6); obtain ⟨⟨e0, e1, e2⟩, _⟩ := cells3 X6.out.box)
                | (go_at_call 24; with_reducible refine Calls.mono (Gives.calls (N2.out _ _ _ X6.out.ints)) ?_; rintro e w1 ⟨rfl, z7, rfl⟩; have X7 := Lib.hid (X6.out.later z7); obtain ⟨⟨e0, e1, e2⟩, _⟩ := cells3 X7.out.box)
                | (go_at_call 55; with_reducible refine Calls.mono (Gives.calls (T2.out _ _ _ X7.out.ints)) ?_; rintro e w1 ⟨rfl, z8, rfl⟩; have X8 := Lib.hid (X7.out.later z8); obtain ⟨⟨e0, e1, e2⟩, _⟩ := cells3 X8.out.box; obtain ⟨⟨m0, m1, m2⟩, f0, f1', f2⟩ := cells3 X8.out.cur.box; have cb8 := (X8.out.below.cell (p := ⟨bb, ob + k, none⟩) lb).trans cb; have lb8 := Nat.lt_of_lt_of_le lb X8.out.below.size; have lM8 := lt_of_get X8.out.cur.box; have lN8 := lt_of_get X8.out.box))
              go_roundw
              case rel => exact ⟨k + 1, by omega, by go_num, W2, H2, A2, c2, _, X8.out.cur.put X8.out.ints X8.out.apart HV2.out WT.out⟩
              case measure => simp [intOf]; omega
            · obtain ⟨_, _, rd⟩ := rd
              have rd' := rd (by omega) (by omega)
              subst rd'
              have d1 : ((r1 : Int) != (r1 : Int)) = false := by simp
              clear rd
              go_wp2_with (first
                | (go_at_call 24; with_reducible refine Calls.mono (Gives.calls (N1.out _ _ _ HX.out.ints)) ?_; rintro e w1 ⟨rfl, z6, rfl⟩; have X6 := Lib.hid (HX.out.later z6); obtain ⟨⟨e0, e1, e2⟩, _⟩ := cells3 X6.out.box)
                | (go_at_call 24; with_reducible refine Calls.mono (Gives.calls (N2.out _ _ _ X6.out.ints)) ?_; rintro e w1 ⟨rfl, z7, rfl⟩; have X7 := Lib.hid (X6.out.later z7); obtain ⟨⟨e0, e1, e2⟩, _⟩ := cells3 X7.out.box)
                | (go_at_call 55; with_reducible refine Calls.mono (Gives.calls (T2.out _ _ _ X7.out.ints)) ?_; rintro e w1 ⟨rfl, z8, rfl⟩; have X8 := Lib.hid (X7.out.later z8); obtain ⟨⟨e0, e1, e2⟩, _⟩ := cells3 X8.out.box; obtain ⟨⟨m0, m1, m2⟩, f0, f1', f2⟩ := cells3 X8.out.cur.box; have cb8 := (X8.out.below.cell (p := ⟨bb, ob + k, none⟩) lb).trans cb; have lb8 := Nat.lt_of_lt_of_le lb X8.out.below.size; have lM8 := lt_of_get X8.out.cur.box; have lN8 := lt_of_get X8.out.box))
              go_roundw
              case rel => exact ⟨k + 1, by omega, by go_num, W2, H2, A2, c2, _, X8.out.cur.put X8.out.ints X8.out.apart HV2.out WT.out⟩
              case measure => simp [intOf]; omega
        · obtain rfl : k = m := by omega
          go_wp2_with (go_at_call 16; (first | (with_reducible show Calls _ _ _ (Later.val _) _; with_reducible refine Calls.mono (Later.call _ (AW.out _)) ?_) | (with_reducible refine Calls.mono (Gives.calls (AW.out _)) ?_)); rintro e w1 ⟨rfl, y9, rfl⟩)
          go_ret
          exact ⟨rfl, later_of (below_more HC.out.below y9.ok)⟩
end Go.Proofs.YtajfepogecakbaaDoor
