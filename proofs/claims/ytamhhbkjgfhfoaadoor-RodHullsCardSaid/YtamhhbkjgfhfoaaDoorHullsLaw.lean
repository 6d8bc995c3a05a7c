/- The law RodHulls: walked. -/
import Derived.Test.YtamhhbkjgfhfoaaDoorRefHull
import Derived.Test.YtamhhbkjgfhfoaaDoorFirst
namespace Go.Proofs.YtamhhbkjgfhfoaaDoor
open Go.RowKit

set_option maxHeartbeats 800000 in
theorem r_hull_none (A : Option Addr) (cap : Nat) (w : World) : GivesP 7 #[.slice A 0 cap] w [] 5 := by
  go_enter Tryd.func7, Tryd.ntmps7
  go_wp2
  go_loop [4] (fun i => i = .int .i64 0) (fun _ => 0)
  case atStart => rfl
  case round =>
    subst hrel
    go_wp2
    go_loop [5, 6] (fun f i => i = .int .i64 0 ∧ f = .bool true) (fun _ _ => 0)
    case atStart => exact ⟨rfl, rfl⟩
    case round =>
      obtain ⟨rfl, rfl⟩ := hrel
      go_wp2
      go_ret2
      exact ⟨_, rfl, ⟨_, (by repeat (first | exact Below.refl _ _ | (with_reducible assumption) | apply below_later | apply below_alloc | apply below_drew | apply below_drewN))⟩, rfl, OwnP.nil _ _⟩
set_option maxRecDepth 100000 in
set_option maxHeartbeats 1600000 in
theorem r_hull_bad (b off n cap : Nat) (px py : Nat → Int) (w : World) (hn : n ≤ 1000) (hp : Posts w b off n px py) (h0 : 0 < n) (hv : 40 < n ∨ rangedB n px py = false) :
    GivesP 7 #[.slice (some ⟨b, off, none⟩) n cap] w [] 2 := by
  by_cases h40 : 40 < n
  · go_enter Tryd.func7, Tryd.ntmps7
    go_wp2
    go_ret2
    exact ⟨_, rfl, ⟨_, (by repeat (first | exact Below.refl _ _ | (with_reducible assumption) | apply below_later | apply below_alloc | apply below_drew | apply below_drewN))⟩, rfl, OwnP.nil _ _⟩
  · have hr : rangedB n px py = false := hv.resolve_left h40
    have HR := Lib.hid hr
    have Hp := Lib.hid hp
    have hl := hp.lt
    clear hr hv hp
    go_enter Tryd.func7, Tryd.ntmps7
    go_wp2
    go_loopw [4] (fun v wr => ∃ i : Nat, i ≤ n ∧ v = .int .i64 i ∧ (∀ j, j < i → (inR (px j) && inR (py j)) = true) ∧ ∃ x : Later w, wr = x.val) (fun v _ => n - (intOf v).toNat)
    case atStart => exact ⟨0, by omega, rfl, by omega, later_of (by repeat (first | exact Below.refl _ _ | (with_reducible assumption) | apply below_later | apply below_alloc | apply below_drew | apply below_drewN))⟩
    case round =>
      obtain ⟨i, hi, rfl, hj, x, rfl⟩ := hrel
      have HJ := Lib.hid hj
      clear hj
      by_cases hlt : i < n
      · have c1 := Hp.out.x i hlt
        have c2 := Hp.out.y i hlt
        have hs := x.size
        have hs2 : b < x.val.heap.size := by omega
        cases hg : (inR (px i) && inR (py i))
        · have G := Lib.hid hg
          clear hg
          go_wp2_with (first | (go_at_call 23; (first | (with_reducible show Calls _ _ _ (Later.val _) _; with_reducible refine Calls.mono (Later.call _ ((G.out ▸ r_ranged_any (px i) (py i) _))) ?_) | (with_reducible refine Calls.mono (Gives.calls ((G.out ▸ r_ranged_any (px i) (py i) _))) ?_)); rintro e w1 ⟨rfl, y, rfl⟩))
          go_ret2
          exact ⟨_, rfl, ⟨_, (by repeat (first | exact Below.refl _ _ | (with_reducible assumption) | apply below_later | apply below_alloc | apply below_drew | apply below_drewN))⟩, rfl, OwnP.nil _ _⟩
        · have G := Lib.hid hg
          clear hg
          go_wp2_with (first | (go_at_call 23; (first | (with_reducible show Calls _ _ _ (Later.val _) _; with_reducible refine Calls.mono (Later.call _ ((G.out ▸ r_ranged_any (px i) (py i) _))) ?_) | (with_reducible refine Calls.mono (Gives.calls ((G.out ▸ r_ranged_any (px i) (py i) _))) ?_)); rintro e w1 ⟨rfl, y, rfl⟩))
          go_roundw
          case rel =>
            refine ⟨i + 1, by omega, by go_num, fun j hj => ?_, later_of (by repeat (first | exact Below.refl _ _ | (with_reducible assumption) | apply below_later | apply below_alloc | apply below_drew | apply below_drewN))⟩
            rcases Nat.lt_or_ge j i with h | h
            · exact HJ.out j h
            · obtain rfl : j = i := by omega
              exact G.out
          case measure => simp [intOf]; omega
      · obtain rfl : n = i := by omega
        have : rangedB n px py = true := allB_true HJ.out
        rw [HR.out] at this
        cases this

def BothP (A : Option Addr) (n cap : Nat) (w : World) (e : Ending) (w' : World) : Prop := ∃ L E, L.length ≤ 1000 ∧ (∀ w2, Below w.heap.size w w2 → GivesP 7 #[.slice A n cap] w2 L E) ∧ PostP w L E e w'
theorem hull_both (A : Option Addr) (n cap : Nat) (px py : Nat → Int) (w : World) (hn : n ≤ 60) (hp : IsPosts w A n px py) : Calls Tryd.prog 6 #[.slice A n cap] w (BothP A n cap w) := by
  rcases Nat.eq_zero_or_pos n with rfl | h0
  · refine Calls.mono (hull_none A cap w) fun e w' ⟨L, E, hr, hq⟩ => ?_
    rcases hr with ⟨rfl, rfl, _⟩ | ⟨rfl, hh⟩
    · exact ⟨[], 5, by simp, fun w2 _ => r_hull_none A cap w2, hq⟩
    · have := hh.three
      cases L with
      | nil => simp at this
      | cons a r => exact absurd (hh.sub a (by simp)) (by simp)
  · by_cases hb : 40 < n ∨ rangedB n px py = false
    · refine Calls.mono (hull_bad A n cap px py w (by omega) hp h0 hb) fun e w' hq => ?_
      obtain ⟨b, off, rfl, hq'⟩ := hp.at_ h0
      exact ⟨[], 2, by simp, fun w2 hb2 => r_hull_bad b off n cap px py w2 (by omega) (hq'.later ⟨w2, hb2⟩) h0 hb, hq⟩
    · have h40 : n ≤ 40 := by omega
      have hv : rangedB n px py = true := by
        cases h : rangedB n px py
        · exact absurd (.inr h) hb
        · rfl
      refine Calls.mono (hull_any A n cap px py w h40 hp h0 hv) fun e w' ⟨L, E, hr, hq⟩ => ?_
      obtain ⟨b, off, rfl, hq'⟩ := hp.at_ h0
      refine ⟨L, E, ?_, fun w2 hb2 => r_hull_any b off n cap px py w2 h40 h0 (hq'.later ⟨w2, hb2⟩) hv L E hr, hq⟩
      rcases hr with ⟨_, rfl, _⟩ | ⟨_, hh⟩
      · simp
      · have := nodup_le L _ hh.nodup hh.sub
        rw [ptsOf_length] at this
        omega
theorem BothP.calls {A : Option Addr} {n cap : Nat} {w : World} (h : Calls Tryd.prog 6 #[.slice A n cap] w (BothP A n cap w)) :
    Calls Tryd.prog 6 #[.slice A n cap] w fun e w' => ∃ L E, L.length ≤ 1000 ∧ (∀ w2, Below w.heap.size w w2 → GivesP 7 #[.slice A n cap] w2 L E) ∧ ∃ v, e = .returned (.tuple #[v, .int .i64 E]) ∧ ∃ x : Later w, w' = x.val ∧ OwnP w' w.heap.size v L := h

set_option maxRecDepth 100000 in
set_option maxHeartbeats 3200000 in
theorem rodHulls_any (A : Option Addr) (n cap : Nat) (px py : Nat → Int) (w : World) (hu : Units w) (hn : n ≤ maxLen) (hp : n ≤ 60 → IsPosts w A n px py) :
    Gives Tryd.prog 3 #[.slice A n cap] w (.bool true) := by
  have hn' : n ≤ 9223372036854775807 := hn
  have Hu := Lib.hid hu
  have Hp := Lib.hid hp
  clear hu hp hn
  have F : Hid (∀ w', Below w.heap.size w w' → Gives Tryd.prog 5 #[] w' (.bool true)) := fun w' hb => first_any _ (Hu.out.below hb)
  by_cases h60 : 60 < n
  · go_enter Tryd.func3, Tryd.ntmps3
    go_wp2_with (go_at_call 5; refine Calls.mono (F.out _ (by repeat (first | exact Below.refl _ _ | (with_reducible assumption) | apply below_later | apply below_alloc | apply below_drew | apply below_drewN))).calls ?_; rintro e w1 ⟨rfl, y8, rfl⟩)
    go_ret
    exact ⟨rfl, later_of (by repeat (first | exact Below.refl _ _ | (with_reducible assumption) | apply below_later | apply below_alloc | apply below_drew | apply below_drewN))⟩
  · have HB := Lib.hid (hull_both A n cap px py w (by omega) (Hp.out (by omega)))
    go_enter Tryd.func3, Tryd.ntmps3
    go_wp2_with (go_at_call 6; refine Calls.mono (BothP.calls HB.out) ?_; rintro e w1 ⟨L, E, hL, hR, v, rfl, y1, rfl, ho1⟩; obtain ⟨B, cap1, rfl⟩ := ho1.shape)
    have HR := Lib.hid hR
    have HS : Hid (sameL L L = true) := decide_eq_true rfl
    clear hR
    go_wp2_with (first | (go_at_call 7; with_reducible refine Calls.mono (GivesP.calls (HR.out _ (by repeat (first | exact Below.refl _ _ | (with_reducible assumption) | apply below_later | apply below_alloc | apply below_drew | apply below_drewN)))) ?_; rintro e w1 ⟨v2, rfl, y2, rfl, ho2⟩; obtain ⟨B2, cap2, rfl⟩ := ho2.shape) | (go_at_call 8; with_reducible refine Calls.mono (Gives.calls (HS.out ▸ same_lists _ _ _ _ _ _ _ (ho1.later y2) ho2 hL hL)) ?_; rintro e w1 ⟨rfl, y3, rfl⟩) | (go_at_call 5; refine Calls.mono (F.out _ (by repeat (first | exact Below.refl _ _ | (with_reducible assumption) | apply below_later | apply below_alloc | apply below_drew | apply below_drewN))).calls ?_; rintro e w1 ⟨rfl, y8, rfl⟩))
    go_ret
    exact ⟨rfl, later_of (by repeat (first | exact Below.refl _ _ | (with_reducible assumption) | apply below_later | apply below_alloc | apply below_drew | apply below_drewN))⟩
end Go.Proofs.YtamhhbkjgfhfoaaDoor
