/- The document's own Spread and Mow. -/
import Derived.Test.YtmielpcidhphaaaDoorOutMap
import Derived.Test.YtmielpcidhphaaaDoorGrow
namespace Go.Proofs.YtmielpcidhphaaaDoor
open Go.RowKit

theorem push_I {w' : World} {base n : Nat} {v' : Value} {l : List Int} {x : Int} (hl : l.length = n) (h : w'.ownsRow base 3 1 v' (n + 1) (cellsI l ++ [.int .i64 x])) : OwnI w' base v' (l ++ [x]) := by
  subst hl
  unfold OwnI
  rw [List.length_append, cellsI_append]
  exact h
theorem map_snoc (F : Nat → Int) (k : Nat) : (List.range (k + 1)).map F = (List.range k).map F ++ [F k] := by rw [List.range_succ, List.map_append]; rfl

set_option maxRecDepth 100000 in
set_option maxHeartbeats 1600000 in
theorem rSpread_bad (W H : Int) (n cap : Nat) (A : Option Addr) (f : Nat → Int) (w : World) (hp : IsInts w A n f) (hv : validM W H n f = false) :
    GivesME 38 #[.agg #[.int .i64 W, .int .i64 H, .slice A n cap]] w 0 0 [] 20 := by
  have V : Hid (∀ w', IsInts w' A n f → Gives Tryd.prog 20 #[.agg #[.int .i64 W, .int .i64 H, .slice A n cap]] w' (.bool false)) := fun w' h => hv ▸ rmvalid_any W H A n cap f w' h
  have HP := Lib.hid hp
  clear hp hv
  go_enter Tryd.func38, Tryd.ntmps38
  go_wp2_with (go_at_call 20; (first | (with_reducible show Calls _ _ _ (Later.val _) _; with_reducible refine Calls.mono (Later.call _ (V.out _ (HP.out.later ⟨_, by repeat (first | exact Below.refl _ _ | (with_reducible assumption) | apply below_later | apply below_alloc | apply below_drew | apply below_drewN)⟩))) ?_) | (with_reducible refine Calls.mono (Gives.calls (V.out _ (HP.out.later ⟨_, by repeat (first | exact Below.refl _ _ | (with_reducible assumption) | apply below_later | apply below_alloc | apply below_drew | apply below_drewN)⟩))) ?_)); rintro e w1 ⟨rfl, z, rfl⟩)
  have g : z.val.heap[w.heap.size + 1]? = some (.cells #[.int .i64 0, .int .i64 0, .slice none 0 0] 24) := by
    rw [z.ok.block _ (by simp)]
    have := World.alloc_heap_new (w.alloc (.cells #[.int .i64 W, .int .i64 H, .slice A n cap] 24)) (.cells #[.int .i64 0, .int .i64 0, .slice none 0 0] 24)
    rwa [World.size_alloc] at this
  obtain ⟨⟨c0, c1, c2⟩, f0, f1, f2⟩ := cells3 g
  go_wp2
  have k3 := put3 (v0 := .int .i64 0) (v1 := .int .i64 0) (v2 := .slice none 0 0) g
  obtain ⟨⟨r0, r1, r2⟩, _⟩ := cells3 k3
  refine bodyPost_ret (v := .tuple #[.agg #[.int .i64 0, .int .i64 0, .slice none 0 0], .int .i64 20]) (by simp [results, Tryd.results38, go_sem, r0, r1, r2]) rfl ?_
  exact ⟨_, rfl, ⟨_, below_put3 (by repeat (first | exact Below.refl _ _ | (with_reducible assumption) | apply below_later | apply below_alloc | apply below_drew | apply below_drewN)) (by simp)⟩, rfl, OwnI.nil _ _⟩
set_option maxRecDepth 100000 in
set_option maxHeartbeats 1600000 in
theorem rMow_bad (W H : Int) (n cap : Nat) (A : Option Addr) (f : Nat → Int) (w : World) (hp : IsInts w A n f) (hv : validM W H n f = false) :
    GivesME 40 #[.agg #[.int .i64 W, .int .i64 H, .slice A n cap]] w 0 0 [] 20 := by
  have V : Hid (∀ w', IsInts w' A n f → Gives Tryd.prog 20 #[.agg #[.int .i64 W, .int .i64 H, .slice A n cap]] w' (.bool false)) := fun w' h => hv ▸ rmvalid_any W H A n cap f w' h
  have HP := Lib.hid hp
  clear hp hv
  go_enter Tryd.func40, Tryd.ntmps40
  go_wp2_with (go_at_call 20; (first | (with_reducible show Calls _ _ _ (Later.val _) _; with_reducible refine Calls.mono (Later.call _ (V.out _ (HP.out.later ⟨_, by repeat (first | exact Below.refl _ _ | (with_reducible assumption) | apply below_later | apply below_alloc | apply below_drew | apply below_drewN)⟩))) ?_) | (with_reducible refine Calls.mono (Gives.calls (V.out _ (HP.out.later ⟨_, by repeat (first | exact Below.refl _ _ | (with_reducible assumption) | apply below_later | apply below_alloc | apply below_drew | apply below_drewN)⟩))) ?_)); rintro e w1 ⟨rfl, z, rfl⟩)
  have g : z.val.heap[w.heap.size + 1]? = some (.cells #[.int .i64 0, .int .i64 0, .slice none 0 0] 24) := by
    rw [z.ok.block _ (by simp)]
    have := World.alloc_heap_new (w.alloc (.cells #[.int .i64 W, .int .i64 H, .slice A n cap] 24)) (.cells #[.int .i64 0, .int .i64 0, .slice none 0 0] 24)
    rwa [World.size_alloc] at this
  obtain ⟨⟨c0, c1, c2⟩, f0, f1, f2⟩ := cells3 g
  go_wp2
  have k3 := put3 (v0 := .int .i64 0) (v1 := .int .i64 0) (v2 := .slice none 0 0) g
  obtain ⟨⟨r0, r1, r2⟩, _⟩ := cells3 k3
  refine bodyPost_ret (v := .tuple #[.agg #[.int .i64 0, .int .i64 0, .slice none 0 0], .int .i64 20]) (by simp [results, Tryd.results40, go_sem, r0, r1, r2]) rfl ?_
  exact ⟨_, rfl, ⟨_, below_put3 (by repeat (first | exact Below.refl _ _ | (with_reducible assumption) | apply below_later | apply below_alloc | apply below_drew | apply below_drewN)) (by simp)⟩, rfl, OwnI.nil _ _⟩
set_option maxRecDepth 100000 in
set_option maxHeartbeats 1600000 in
theorem rFlip_bad (W H : Int) (n cap : Nat) (A : Option Addr) (f : Nat → Int) (w : World) (hp : IsInts w A n f) (hv : validM W H n f = false) :
    GivesME 42 #[.agg #[.int .i64 W, .int .i64 H, .slice A n cap]] w 0 0 [] 20 := by
  have V : Hid (∀ w', IsInts w' A n f → Gives Tryd.prog 20 #[.agg #[.int .i64 W, .int .i64 H, .slice A n cap]] w' (.bool false)) := fun w' h => hv ▸ rmvalid_any W H A n cap f w' h
  have HP := Lib.hid hp
  clear hp hv
  go_enter Tryd.func42, Tryd.ntmps42
  go_wp2_with (go_at_call 20; (first | (with_reducible show Calls _ _ _ (Later.val _) _; with_reducible refine Calls.mono (Later.call _ (V.out _ (HP.out.later ⟨_, by repeat (first | exact Below.refl _ _ | (with_reducible assumption) | apply below_later | apply below_alloc | apply below_drew | apply below_drewN)⟩))) ?_) | (with_reducible refine Calls.mono (Gives.calls (V.out _ (HP.out.later ⟨_, by repeat (first | exact Below.refl _ _ | (with_reducible assumption) | apply below_later | apply below_alloc | apply below_drew | apply below_drewN)⟩))) ?_)); rintro e w1 ⟨rfl, z, rfl⟩)
  have g : z.val.heap[w.heap.size + 1]? = some (.cells #[.int .i64 0, .int .i64 0, .slice none 0 0] 24) := by
    rw [z.ok.block _ (by simp)]
    have := World.alloc_heap_new (w.alloc (.cells #[.int .i64 W, .int .i64 H, .slice A n cap] 24)) (.cells #[.int .i64 0, .int .i64 0, .slice none 0 0] 24)
    rwa [World.size_alloc] at this
  obtain ⟨⟨c0, c1, c2⟩, f0, f1, f2⟩ := cells3 g
  go_wp2
  have k3 := put3 (v0 := .int .i64 0) (v1 := .int .i64 0) (v2 := .slice none 0 0) g
  obtain ⟨⟨r0, r1, r2⟩, _⟩ := cells3 k3
  refine bodyPost_ret (v := .tuple #[.agg #[.int .i64 0, .int .i64 0, .slice none 0 0], .int .i64 20]) (by simp [results, Tryd.results42, go_sem, r0, r1, r2]) rfl ?_
  exact ⟨_, rfl, ⟨_, below_put3 (by repeat (first | exact Below.refl _ _ | (with_reducible assumption) | apply below_later | apply below_alloc | apply below_drew | apply below_drewN)) (by simp)⟩, rfl, OwnI.nil _ _⟩
set_option maxRecDepth 100000 in
set_option maxHeartbeats 1600000 in
theorem rTurn_bad (W H : Int) (n cap : Nat) (A : Option Addr) (f : Nat → Int) (w : World) (hp : IsInts w A n f) (hv : validM W H n f = false) :
    GivesME 44 #[.agg #[.int .i64 W, .int .i64 H, .slice A n cap]] w 0 0 [] 20 := by
  have V : Hid (∀ w', IsInts w' A n f → Gives Tryd.prog 20 #[.agg #[.int .i64 W, .int .i64 H, .slice A n cap]] w' (.bool false)) := fun w' h => hv ▸ rmvalid_any W H A n cap f w' h
  have HP := Lib.hid hp
  clear hp hv
  go_enter Tryd.func44, Tryd.ntmps44
  go_wp2_with (go_at_call 20; (first | (with_reducible show Calls _ _ _ (Later.val _) _; with_reducible refine Calls.mono (Later.call _ (V.out _ (HP.out.later ⟨_, by repeat (first | exact Below.refl _ _ | (with_reducible assumption) | apply below_later | apply below_alloc | apply below_drew | apply below_drewN)⟩))) ?_) | (with_reducible refine Calls.mono (Gives.calls (V.out _ (HP.out.later ⟨_, by repeat (first | exact Below.refl _ _ | (with_reducible assumption) | apply below_later | apply below_alloc | apply below_drew | apply below_drewN)⟩))) ?_)); rintro e w1 ⟨rfl, z, rfl⟩)
  have g : z.val.heap[w.heap.size + 1]? = some (.cells #[.int .i64 0, .int .i64 0, .slice none 0 0] 24) := by
    rw [z.ok.block _ (by simp)]
    have := World.alloc_heap_new (w.alloc (.cells #[.int .i64 W, .int .i64 H, .slice A n cap] 24)) (.cells #[.int .i64 0, .int .i64 0, .slice none 0 0] 24)
    rwa [World.size_alloc] at this
  obtain ⟨⟨c0, c1, c2⟩, f0, f1, f2⟩ := cells3 g
  go_wp2
  have k3 := put3 (v0 := .int .i64 0) (v1 := .int .i64 0) (v2 := .slice none 0 0) g
  obtain ⟨⟨r0, r1, r2⟩, _⟩ := cells3 k3
  refine bodyPost_ret (v := .tuple #[.agg #[.int .i64 0, .int .i64 0, .slice none 0 0], .int .i64 20]) (by simp [results, Tryd.results44, go_sem, r0, r1, r2]) rfl ?_
  exact ⟨_, rfl, ⟨_, below_put3 (by repeat (first | exact Below.refl _ _ | (with_reducible assumption) | apply below_later | apply below_alloc | apply below_drew | apply below_drewN)) (by simp)⟩, rfl, OwnI.nil _ _⟩

set_option maxRecDepth 100000 in
set_option maxHeartbeats 3200000 in
theorem rSpread_ok (W H n cap : Nat) (A : Option Addr) (f : Nat → Int) (w : World) (hp : IsInts w A n f) (hv : validM W H n f = true) :
    GivesME 38 #[.agg #[.int .i64 W, .int .i64 H, .slice A n cap]] w W H ((List.range n).map (spreadF W H f)) 0 := by
  have V : Hid (∀ w', IsInts w' A n f → Gives Tryd.prog 20 #[.agg #[.int .i64 W, .int .i64 H, .slice A n cap]] w' (.bool true)) := fun w' h => hv ▸ rmvalid_any W H A n cap f w' h
  obtain ⟨⟨v1, v2⟩, ⟨v3, v4⟩, hn, _⟩ := validM_iff.1 hv
  have hn' : n = W * H := by rw [← Int.natCast_mul] at hn; omega
  have h0 : 0 < n := by
    have := Nat.mul_le_mul (show 1 ≤ W by omega) (show 1 ≤ H by omega)
    omega
  have hn9 : n ≤ 900 := by rw [hn']; exact Nat.mul_le_mul (show W ≤ 30 by omega) (show H ≤ 30 by omega)
  obtain ⟨b, off, rfl, p⟩ := hp.at_ h0
  have RD : Hid (∀ (i : Nat) (w' : World), i < n → IsInts w' (some ⟨b, off, none⟩) n f → Gives Tryd.prog 85 #[.agg #[.int .i64 W, .int .i64 H, .slice (some ⟨b, off, none⟩) n cap], .int .i64 i] w' (.int .i64 (reedsN W H f i))) := fun i w' hi h =>
    rreeds_any W H i n cap _ f w' (by omega) (by omega) (by omega) hn' (by rw [← hn']; exact hi) h
  have RL := Lib.hid (reedsN_le W H f)
  have HP := Lib.hid hp
  have P := Lib.hid p
  have lb := p.lt
  obtain ⟨i0, hi0, hz0, hz1, hz2⟩ := info_int
  clear hp hv hn hn' p
  go_enter Tryd.func38, Tryd.ntmps38
  go_wp2_with (go_at_call 20; (first | (with_reducible show Calls _ _ _ (Later.val _) _; with_reducible refine Calls.mono (Later.call _ (V.out _ (HP.out.later ⟨_, by repeat (first | exact Below.refl _ _ | (with_reducible assumption) | apply below_later | apply below_alloc | apply below_drew | apply below_drewN)⟩))) ?_) | (with_reducible refine Calls.mono (Gives.calls (V.out _ (HP.out.later ⟨_, by repeat (first | exact Below.refl _ _ | (with_reducible assumption) | apply below_later | apply below_alloc | apply below_drew | apply below_drewN)⟩))) ?_)); rintro e w1 ⟨rfl, z, rfl⟩)
  have zM : z.val.heap[w.heap.size]? = some (.cells #[.int .i64 W, .int .i64 H, .slice (some ⟨b, off, none⟩) n cap] 24) := by
    rw [z.ok.block _ (by simp only [World.size_alloc]; omega), Below.heap_alloc _ _ _ (by simp)]; exact World.alloc_heap_new w _
  have zR : z.val.heap[w.heap.size + 1]? = some (.cells #[.int .i64 0, .int .i64 0, .slice none 0 0] 24) := by
    rw [z.ok.block _ (by simp)]
    have := World.alloc_heap_new (w.alloc (.cells #[.int .i64 W, .int .i64 H, .slice (some ⟨b, off, none⟩) n cap] 24)) (.cells #[.int .i64 0, .int .i64 0, .slice none 0 0] 24)
    rwa [World.size_alloc] at this
  have lz := lt_of_get zR
  have lz0 := lt_of_get zM
  have e0 := cell_of_heap zM 0 _ rfl
  have e1 := cell_of_heap zM 1 _ rfl
  have ZM := Lib.hid zM
  have ZR := Lib.hid zR
  clear zM zR
  go_wp2
  obtain ⟨V1, hV1⟩ : ∃ V1, z.val.alloc (.cells #[.int .i64 W, .int .i64 H, .slice none 0 0] 24) = V1 := ⟨_, rfl⟩
  have sk0 : SK (.cells #[.int .i64 W, .int .i64 H, .slice (some ⟨b, off, none⟩) n cap] 24) (.cells #[.int .i64 0, .int .i64 0, .slice none 0 0] 24) W H z.val.heap.size (.slice none 0 0) ((List.range 0).map (spreadF W H f)) w V1 := by
    rw [← hV1]
    exact ⟨by repeat (first | exact Below.refl _ _ | (with_reducible assumption) | apply below_later | apply below_alloc | apply below_drew | apply below_drewN), (Below.heap_alloc _ _ _ lz0).trans ZM.out, (Below.heap_alloc _ _ _ lz).trans ZR.out, by omega, World.alloc_heap_new _ _, OwnI.nil _ _⟩
  rw [hV1]
  have SK0 := Lib.hid sk0
  clear hV1 sk0 e0 e1 lz0
  generalize z.val.heap.size = bo at *
  go_loopw [5] (fun u wr => ∃ (k : Nat) (v : Value), k ≤ n ∧ u = .int .i64 k ∧ SK (.cells #[.int .i64 W, .int .i64 H, .slice (some ⟨b, off, none⟩) n cap] 24) (.cells #[.int .i64 0, .int .i64 0, .slice none 0 0] 24) W H bo v ((List.range k).map (spreadF W H f)) w wr) (fun v _ => n - (intOf v).toNat)
  case atStart => exact ⟨0, _, by omega, rfl, SK0.out⟩
  case round =>
    obtain ⟨k, va, hk, rfl, sk⟩ := hrel
    have c0 := cell_of_heap sk.boxM 2 _ rfl
    have c00 := cell_of_heap sk.boxM 0 _ rfl
    have c01 := cell_of_heap sk.boxM 1 _ rfl
    have lM := lt_of_get sk.boxM
    have cO := cell_of_heap sk.boxO 2 _ rfl
    have lO := lt_of_get sk.boxO
    have hlen : ((List.range k).map (spreadF W H f)).length = k := by simp
    obtain ⟨Aa, capa, hva⟩ := sk.own.shape_n hlen
    subst hva
    by_cases hlt : k < n
    · have ck : wr.cell? ⟨b, off + k, none⟩ = some (.int .i64 (f k)) := (sk.below.cell (p := ⟨b, off + k, none⟩) lb).trans (P.out.at_ k hlt)
      have lb2 : b < wr.heap.size := Nat.lt_of_lt_of_le lb sk.below.size
      have rl := RL.out k
      have RD2 := Lib.hid (fun w' => RD.out k w' hlt)
      obtain ⟨rd, hrd⟩ : ∃ rd, reedsN W H f k = rd := ⟨_, rfl⟩
      obtain ⟨v, hv⟩ : ∃ v, f k = v := ⟨_, rfl⟩
      rw [hrd] at RD2 rl
      rw [hv] at ck
      by_cases h3 : v = 3
      · subst h3
        by_cases hk1 : rd ≤ 1
        · have q2 : decide ((2 : Int) ≤ (rd : Int)) = false := by simp; omega
          have q3 : decide ((rd : Int) ≤ 1) = true := by simp; omega
          have q1 : ¬ 2 ≤ rd := by omega
          have HF : Hid (spreadF W H f k = 3) := by show _ = _; unfold spreadF; simp [hv, hrd, q1]
          clear hv hrd
          go_wp2_with (first | (go_at_call 85; refine Calls.mono (Gives.calls (RD2.out _ (HP.out.later ⟨_, sk.below⟩))) ?_; rintro e w1 ⟨rfl, x2, rfl⟩; have sk := sk.later x2; have c0 := cell_of_heap sk.boxM 2 _ rfl; have lM := lt_of_get sk.boxM; have cO := cell_of_heap sk.boxO 2 _ rfl; have lO := lt_of_get sk.boxO) | (at_builtin; refine wpList_append_own _ rfl _ _ 22 rfl (w.heap.size + 2) 3 i0 (.int .i64 0) 1 8 Tryd.underlying22 hi0 hz0 hz1 hz2 rfl (by decide) _ _ _ rfl ((own_row sk.own hlen).alloc _) ⟨_, 0, none⟩ 1 1 [.int .i64 (3)] rfl rfl lit_news one_int (by unfold maxLen; omega) (by omega) (by have := sk.lo; simp; omega) ?_; intro v5 w5 hown2 hgrow _; have ho6 : OwnI w5 (w.heap.size + 2) v5 ((List.range (k + 1)).map (spreadF W H f)) := (by rw [map_snoc, HF.out]; exact push_I hlen hown2); obtain ⟨A6, cap6, hvv⟩ := ho6.shape_n (n := k + 1) (by simp); subst hvv; obtain ⟨r1, r2, r3, r4⟩ := sk.grown hgrow; have sk6 := sk.push hgrow ho6; have SK6 := Lib.hid sk6; have cO2 := cell_of_heap r3 2 _ rfl; have fO2 := thaw_get r3 2; have lO2 := lt_of_get r3; clear hown2 hgrow ho6 sk6 r1 r2 r3 r4))
          go_roundw
          case rel => exact ⟨k + 1, _, by omega, by go_num, SK6.out⟩
          case measure => simp [intOf]; omega
        · have q2 : decide ((2 : Int) ≤ (rd : Int)) = true := by simp; omega
          have q3 : decide ((rd : Int) ≤ 1) = false := by simp; omega
          have q1 : 2 ≤ rd := by omega
          have HF : Hid (spreadF W H f k = 1) := by show _ = _; unfold spreadF; simp [hv, hrd, q1]
          clear hv hrd
          go_wp2_with (first | (go_at_call 85; refine Calls.mono (Gives.calls (RD2.out _ (HP.out.later ⟨_, sk.below⟩))) ?_; rintro e w1 ⟨rfl, x2, rfl⟩; have sk := sk.later x2; have c0 := cell_of_heap sk.boxM 2 _ rfl; have lM := lt_of_get sk.boxM; have cO := cell_of_heap sk.boxO 2 _ rfl; have lO := lt_of_get sk.boxO) | (at_builtin; refine wpList_append_own _ rfl _ _ 22 rfl (w.heap.size + 2) 3 i0 (.int .i64 0) 1 8 Tryd.underlying22 hi0 hz0 hz1 hz2 rfl (by decide) _ _ _ rfl ((own_row sk.own hlen).alloc _) ⟨_, 0, none⟩ 1 1 [.int .i64 (1)] rfl rfl lit_news one_int (by unfold maxLen; omega) (by omega) (by have := sk.lo; simp; omega) ?_; intro v5 w5 hown2 hgrow _; have ho6 : OwnI w5 (w.heap.size + 2) v5 ((List.range (k + 1)).map (spreadF W H f)) := (by rw [map_snoc, HF.out]; exact push_I hlen hown2); obtain ⟨A6, cap6, hvv⟩ := ho6.shape_n (n := k + 1) (by simp); subst hvv; obtain ⟨r1, r2, r3, r4⟩ := sk.grown hgrow; have sk6 := sk.push hgrow ho6; have SK6 := Lib.hid sk6; have cO2 := cell_of_heap r3 2 _ rfl; have fO2 := thaw_get r3 2; have lO2 := lt_of_get r3; clear hown2 hgrow ho6 sk6 r1 r2 r3 r4))
          go_roundw
          case rel => exact ⟨k + 1, _, by omega, by go_num, SK6.out⟩
          case measure => simp [intOf]; omega
      · by_cases h4 : v = 4
        · subst h4
          by_cases hk1 : rd ≤ 1
          · have q2 : decide ((2 : Int) ≤ (rd : Int)) = false := by simp; omega
            have q3 : decide ((rd : Int) ≤ 1) = true := by simp; omega
            have q1 : ¬ 2 ≤ rd := by omega
            have HF : Hid (spreadF W H f k = 4) := by show _ = _; unfold spreadF; simp [hv, hrd, q1]
            clear hv hrd
            go_wp2_with (first | (go_at_call 85; refine Calls.mono (Gives.calls (RD2.out _ (HP.out.later ⟨_, sk.below⟩))) ?_; rintro e w1 ⟨rfl, x2, rfl⟩; have sk := sk.later x2; have c0 := cell_of_heap sk.boxM 2 _ rfl; have lM := lt_of_get sk.boxM; have cO := cell_of_heap sk.boxO 2 _ rfl; have lO := lt_of_get sk.boxO) | (at_builtin; refine wpList_append_own _ rfl _ _ 22 rfl (w.heap.size + 2) 3 i0 (.int .i64 0) 1 8 Tryd.underlying22 hi0 hz0 hz1 hz2 rfl (by decide) _ _ _ rfl ((own_row sk.own hlen).alloc _) ⟨_, 0, none⟩ 1 1 [.int .i64 (4)] rfl rfl lit_news one_int (by unfold maxLen; omega) (by omega) (by have := sk.lo; simp; omega) ?_; intro v5 w5 hown2 hgrow _; have ho6 : OwnI w5 (w.heap.size + 2) v5 ((List.range (k + 1)).map (spreadF W H f)) := (by rw [map_snoc, HF.out]; exact push_I hlen hown2); obtain ⟨A6, cap6, hvv⟩ := ho6.shape_n (n := k + 1) (by simp); subst hvv; obtain ⟨r1, r2, r3, r4⟩ := sk.grown hgrow; have sk6 := sk.push hgrow ho6; have SK6 := Lib.hid sk6; have cO2 := cell_of_heap r3 2 _ rfl; have fO2 := thaw_get r3 2; have lO2 := lt_of_get r3; clear hown2 hgrow ho6 sk6 r1 r2 r3 r4))
            go_roundw
            case rel => exact ⟨k + 1, _, by omega, by go_num, SK6.out⟩
            case measure => simp [intOf]; omega
          · have q2 : decide ((2 : Int) ≤ (rd : Int)) = true := by simp; omega
            have q3 : decide ((rd : Int) ≤ 1) = false := by simp; omega
            have q1 : 2 ≤ rd := by omega
            have HF : Hid (spreadF W H f k = 1) := by show _ = _; unfold spreadF; simp [hv, hrd, q1]
            clear hv hrd
            go_wp2_with (first | (go_at_call 85; refine Calls.mono (Gives.calls (RD2.out _ (HP.out.later ⟨_, sk.below⟩))) ?_; rintro e w1 ⟨rfl, x2, rfl⟩; have sk := sk.later x2; have c0 := cell_of_heap sk.boxM 2 _ rfl; have lM := lt_of_get sk.boxM; have cO := cell_of_heap sk.boxO 2 _ rfl; have lO := lt_of_get sk.boxO) | (at_builtin; refine wpList_append_own _ rfl _ _ 22 rfl (w.heap.size + 2) 3 i0 (.int .i64 0) 1 8 Tryd.underlying22 hi0 hz0 hz1 hz2 rfl (by decide) _ _ _ rfl ((own_row sk.own hlen).alloc _) ⟨_, 0, none⟩ 1 1 [.int .i64 (1)] rfl rfl lit_news one_int (by unfold maxLen; omega) (by omega) (by have := sk.lo; simp; omega) ?_; intro v5 w5 hown2 hgrow _; have ho6 : OwnI w5 (w.heap.size + 2) v5 ((List.range (k + 1)).map (spreadF W H f)) := (by rw [map_snoc, HF.out]; exact push_I hlen hown2); obtain ⟨A6, cap6, hvv⟩ := ho6.shape_n (n := k + 1) (by simp); subst hvv; obtain ⟨r1, r2, r3, r4⟩ := sk.grown hgrow; have sk6 := sk.push hgrow ho6; have SK6 := Lib.hid sk6; have cO2 := cell_of_heap r3 2 _ rfl; have fO2 := thaw_get r3 2; have lO2 := lt_of_get r3; clear hown2 hgrow ho6 sk6 r1 r2 r3 r4))
            go_roundw
            case rel => exact ⟨k + 1, _, by omega, by go_num, SK6.out⟩
            case measure => simp [intOf]; omega
        · by_cases h1 : v = 1
          · subst h1
            by_cases hk1 : rd ≤ 1
            · have q2 : decide ((2 : Int) ≤ (rd : Int)) = false := by simp; omega
              have q3 : decide ((rd : Int) ≤ 1) = true := by simp; omega
              have HF : Hid (spreadF W H f k = 1) := by show _ = _; unfold spreadF; simp [hv, hrd, hk1]
              clear hv hrd
              go_wp2_with (first | (go_at_call 85; refine Calls.mono (Gives.calls (RD2.out _ (HP.out.later ⟨_, sk.below⟩))) ?_; rintro e w1 ⟨rfl, x2, rfl⟩; have sk := sk.later x2; have c0 := cell_of_heap sk.boxM 2 _ rfl; have lM := lt_of_get sk.boxM; have cO := cell_of_heap sk.boxO 2 _ rfl; have lO := lt_of_get sk.boxO) | (at_builtin; refine wpList_append_own _ rfl _ _ 22 rfl (w.heap.size + 2) 3 i0 (.int .i64 0) 1 8 Tryd.underlying22 hi0 hz0 hz1 hz2 rfl (by decide) _ _ _ rfl ((own_row sk.own hlen).alloc _) ⟨_, 0, none⟩ 1 1 [.int .i64 (1)] rfl rfl lit_news one_int (by unfold maxLen; omega) (by omega) (by have := sk.lo; simp; omega) ?_; intro v5 w5 hown2 hgrow _; have ho6 : OwnI w5 (w.heap.size + 2) v5 ((List.range (k + 1)).map (spreadF W H f)) := (by rw [map_snoc, HF.out]; exact push_I hlen hown2); obtain ⟨A6, cap6, hvv⟩ := ho6.shape_n (n := k + 1) (by simp); subst hvv; obtain ⟨r1, r2, r3, r4⟩ := sk.grown hgrow; have sk6 := sk.push hgrow ho6; have SK6 := Lib.hid sk6; have cO2 := cell_of_heap r3 2 _ rfl; have fO2 := thaw_get r3 2; have lO2 := lt_of_get r3; clear hown2 hgrow ho6 sk6 r1 r2 r3 r4))
              go_roundw
              case rel => exact ⟨k + 1, _, by omega, by go_num, SK6.out⟩
              case measure => simp [intOf]; omega
            · have q2 : decide ((2 : Int) ≤ (rd : Int)) = true := by simp; omega
              have q3 : decide ((rd : Int) ≤ 1) = false := by simp; omega
              have HF : Hid (spreadF W H f k = 1) := by show _ = _; unfold spreadF; simp [hv, hrd, hk1]
              clear hv hrd
              go_wp2_with (first | (go_at_call 85; refine Calls.mono (Gives.calls (RD2.out _ (HP.out.later ⟨_, sk.below⟩))) ?_; rintro e w1 ⟨rfl, x2, rfl⟩; have sk := sk.later x2; have c0 := cell_of_heap sk.boxM 2 _ rfl; have lM := lt_of_get sk.boxM; have cO := cell_of_heap sk.boxO 2 _ rfl; have lO := lt_of_get sk.boxO) | (at_builtin; refine wpList_append_own _ rfl _ _ 22 rfl (w.heap.size + 2) 3 i0 (.int .i64 0) 1 8 Tryd.underlying22 hi0 hz0 hz1 hz2 rfl (by decide) _ _ _ rfl ((own_row sk.own hlen).alloc _) ⟨_, 0, none⟩ 1 1 [.int .i64 (1)] rfl rfl lit_news one_int (by unfold maxLen; omega) (by omega) (by have := sk.lo; simp; omega) ?_; intro v5 w5 hown2 hgrow _; have ho6 : OwnI w5 (w.heap.size + 2) v5 ((List.range (k + 1)).map (spreadF W H f)) := (by rw [map_snoc, HF.out]; exact push_I hlen hown2); obtain ⟨A6, cap6, hvv⟩ := ho6.shape_n (n := k + 1) (by simp); subst hvv; obtain ⟨r1, r2, r3, r4⟩ := sk.grown hgrow; have sk6 := sk.push hgrow ho6; have SK6 := Lib.hid sk6; have cO2 := cell_of_heap r3 2 _ rfl; have fO2 := thaw_get r3 2; have lO2 := lt_of_get r3; clear hown2 hgrow ho6 sk6 r1 r2 r3 r4))
              go_roundw
              case rel => exact ⟨k + 1, _, by omega, by go_num, SK6.out⟩
              case measure => simp [intOf]; omega
          · have q3 : (v == 3) = false := by simpa using h3
            have q4 : (v == 4) = false := by simpa using h4
            have q1 : (v == 1) = false := by simpa using h1
            have HF : Hid (spreadF W H f k = v) := by show _ = _; unfold spreadF; simp [hv, h1, h3, h4]
            clear hv hrd
            go_wp2_with (first | (go_at_call 85; refine Calls.mono (Gives.calls (RD2.out _ (HP.out.later ⟨_, sk.below⟩))) ?_; rintro e w1 ⟨rfl, x2, rfl⟩; have sk := sk.later x2; have c0 := cell_of_heap sk.boxM 2 _ rfl; have lM := lt_of_get sk.boxM; have cO := cell_of_heap sk.boxO 2 _ rfl; have lO := lt_of_get sk.boxO) | (at_builtin; refine wpList_append_own _ rfl _ _ 22 rfl (w.heap.size + 2) 3 i0 (.int .i64 0) 1 8 Tryd.underlying22 hi0 hz0 hz1 hz2 rfl (by decide) _ _ _ rfl ((own_row sk.own hlen).alloc _) ⟨_, 0, none⟩ 1 1 [.int .i64 (v)] rfl rfl lit_news one_int (by unfold maxLen; omega) (by omega) (by have := sk.lo; simp; omega) ?_; intro v5 w5 hown2 hgrow _; have ho6 : OwnI w5 (w.heap.size + 2) v5 ((List.range (k + 1)).map (spreadF W H f)) := (by rw [map_snoc, HF.out]; exact push_I hlen hown2); obtain ⟨A6, cap6, hvv⟩ := ho6.shape_n (n := k + 1) (by simp); subst hvv; obtain ⟨r1, r2, r3, r4⟩ := sk.grown hgrow; have sk6 := sk.push hgrow ho6; have SK6 := Lib.hid sk6; have cO2 := cell_of_heap r3 2 _ rfl; have fO2 := thaw_get r3 2; have lO2 := lt_of_get r3; clear hown2 hgrow ho6 sk6 r1 r2 r3 r4))
            go_roundw
            case rel => exact ⟨k + 1, _, by omega, by go_num, SK6.out⟩
            case measure => simp [intOf]; omega
    · obtain rfl : k = n := by omega
      have cO0 := cell_of_heap sk.boxO 0 _ rfl
      have cO1 := cell_of_heap sk.boxO 1 _ rfl
      obtain ⟨⟨d0, d1, d2⟩, g0, g1, g2⟩ := cells3 sk.boxR
      have lR := lt_of_get sk.boxR
      have SK1 := Lib.hid sk
      clear sk
      go_wp2
      have k3 := put3 (v0 := .int .i64 W) (v1 := .int .i64 H) (v2 := .slice Aa k capa) SK1.out.boxR
      obtain ⟨⟨r0, r1, r2⟩, _⟩ := cells3 k3
      refine bodyPost_ret (v := .tuple #[.agg #[.int .i64 W, .int .i64 H, .slice Aa k capa], .int .i64 0]) (by simp [results, Tryd.results38, go_sem, r0, r1, r2]) rfl ?_
      refine ⟨_, rfl, ⟨_, below_put3 SK1.out.below (by omega)⟩, rfl, own_put3 (SK1.out.own.mono (by omega)) ?_⟩
      intro g hg e
      have := (own_lt SK1.out.own g hg).1
      omega
set_option maxRecDepth 100000 in
set_option maxHeartbeats 3200000 in
theorem rMow_ok (W H n cap : Nat) (A : Option Addr) (f : Nat → Int) (w : World) (hp : IsInts w A n f) (hv : validM W H n f = true) :
    GivesME 40 #[.agg #[.int .i64 W, .int .i64 H, .slice A n cap]] w W H ((List.range n).map (mowF W H f)) 0 := by
  have V : Hid (∀ w', IsInts w' A n f → Gives Tryd.prog 20 #[.agg #[.int .i64 W, .int .i64 H, .slice A n cap]] w' (.bool true)) := fun w' h => hv ▸ rmvalid_any W H A n cap f w' h
  obtain ⟨⟨v1, v2⟩, ⟨v3, v4⟩, hn, _⟩ := validM_iff.1 hv
  have hn' : n = W * H := by rw [← Int.natCast_mul] at hn; omega
  have h0 : 0 < n := by
    have := Nat.mul_le_mul (show 1 ≤ W by omega) (show 1 ≤ H by omega)
    omega
  have hn9 : n ≤ 900 := by rw [hn']; exact Nat.mul_le_mul (show W ≤ 30 by omega) (show H ≤ 30 by omega)
  obtain ⟨b, off, rfl, p⟩ := hp.at_ h0
  have RD : Hid (∀ (i : Nat) (w' : World), i < n → IsInts w' (some ⟨b, off, none⟩) n f → Gives Tryd.prog 85 #[.agg #[.int .i64 W, .int .i64 H, .slice (some ⟨b, off, none⟩) n cap], .int .i64 i] w' (.int .i64 (reedsN W H f i))) := fun i w' hi h =>
    rreeds_any W H i n cap _ f w' (by omega) (by omega) (by omega) hn' (by rw [← hn']; exact hi) h
  have RL := Lib.hid (reedsN_le W H f)
  have HP := Lib.hid hp
  have P := Lib.hid p
  have lb := p.lt
  obtain ⟨i0, hi0, hz0, hz1, hz2⟩ := info_int
  clear hp hv hn hn' p
  go_enter Tryd.func40, Tryd.ntmps40
  go_wp2_with (go_at_call 20; (first | (with_reducible show Calls _ _ _ (Later.val _) _; with_reducible refine Calls.mono (Later.call _ (V.out _ (HP.out.later ⟨_, by repeat (first | exact Below.refl _ _ | (with_reducible assumption) | apply below_later | apply below_alloc | apply below_drew | apply below_drewN)⟩))) ?_) | (with_reducible refine Calls.mono (Gives.calls (V.out _ (HP.out.later ⟨_, by repeat (first | exact Below.refl _ _ | (with_reducible assumption) | apply below_later | apply below_alloc | apply below_drew | apply below_drewN)⟩))) ?_)); rintro e w1 ⟨rfl, z, rfl⟩)
  have zM : z.val.heap[w.heap.size]? = some (.cells #[.int .i64 W, .int .i64 H, .slice (some ⟨b, off, none⟩) n cap] 24) := by
    rw [z.ok.block _ (by simp only [World.size_alloc]; omega), Below.heap_alloc _ _ _ (by simp)]; exact World.alloc_heap_new w _
  have zR : z.val.heap[w.heap.size + 1]? = some (.cells #[.int .i64 0, .int .i64 0, .slice none 0 0] 24) := by
    rw [z.ok.block _ (by simp)]
    have := World.alloc_heap_new (w.alloc (.cells #[.int .i64 W, .int .i64 H, .slice (some ⟨b, off, none⟩) n cap] 24)) (.cells #[.int .i64 0, .int .i64 0, .slice none 0 0] 24)
    rwa [World.size_alloc] at this
  have lz := lt_of_get zR
  have lz0 := lt_of_get zM
  have e0 := cell_of_heap zM 0 _ rfl
  have e1 := cell_of_heap zM 1 _ rfl
  have ZM := Lib.hid zM
  have ZR := Lib.hid zR
  clear zM zR
  go_wp2
  obtain ⟨V1, hV1⟩ : ∃ V1, z.val.alloc (.cells #[.int .i64 W, .int .i64 H, .slice none 0 0] 24) = V1 := ⟨_, rfl⟩
  have sk0 : SK (.cells #[.int .i64 W, .int .i64 H, .slice (some ⟨b, off, none⟩) n cap] 24) (.cells #[.int .i64 0, .int .i64 0, .slice none 0 0] 24) W H z.val.heap.size (.slice none 0 0) ((List.range 0).map (mowF W H f)) w V1 := by
    rw [← hV1]
    exact ⟨by repeat (first | exact Below.refl _ _ | (with_reducible assumption) | apply below_later | apply below_alloc | apply below_drew | apply below_drewN), (Below.heap_alloc _ _ _ lz0).trans ZM.out, (Below.heap_alloc _ _ _ lz).trans ZR.out, by omega, World.alloc_heap_new _ _, OwnI.nil _ _⟩
  rw [hV1]
  have SK0 := Lib.hid sk0
  clear hV1 sk0 e0 e1 lz0
  generalize z.val.heap.size = bo at *
  go_loopw [5] (fun u wr => ∃ (k : Nat) (v : Value), k ≤ n ∧ u = .int .i64 k ∧ SK (.cells #[.int .i64 W, .int .i64 H, .slice (some ⟨b, off, none⟩) n cap] 24) (.cells #[.int .i64 0, .int .i64 0, .slice none 0 0] 24) W H bo v ((List.range k).map (mowF W H f)) w wr) (fun v _ => n - (intOf v).toNat)
  case atStart => exact ⟨0, _, by omega, rfl, SK0.out⟩
  case round =>
    obtain ⟨k, va, hk, rfl, sk⟩ := hrel
    have c0 := cell_of_heap sk.boxM 2 _ rfl
    have c00 := cell_of_heap sk.boxM 0 _ rfl
    have c01 := cell_of_heap sk.boxM 1 _ rfl
    have lM := lt_of_get sk.boxM
    have cO := cell_of_heap sk.boxO 2 _ rfl
    have lO := lt_of_get sk.boxO
    have hlen : ((List.range k).map (mowF W H f)).length = k := by simp
    obtain ⟨Aa, capa, hva⟩ := sk.own.shape_n hlen
    subst hva
    by_cases hlt : k < n
    · have ck : wr.cell? ⟨b, off + k, none⟩ = some (.int .i64 (f k)) := (sk.below.cell (p := ⟨b, off + k, none⟩) lb).trans (P.out.at_ k hlt)
      have lb2 : b < wr.heap.size := Nat.lt_of_lt_of_le lb sk.below.size
      have rl := RL.out k
      have RD2 := Lib.hid (fun w' => RD.out k w' hlt)
      obtain ⟨rd, hrd⟩ : ∃ rd, reedsN W H f k = rd := ⟨_, rfl⟩
      obtain ⟨v, hv⟩ : ∃ v, f k = v := ⟨_, rfl⟩
      rw [hrd] at RD2 rl
      rw [hv] at ck
      by_cases h3 : v = 3
      · subst h3
        by_cases hk1 : rd ≤ 1
        · have q2 : decide ((2 : Int) ≤ (rd : Int)) = false := by simp; omega
          have q3 : decide ((rd : Int) ≤ 1) = true := by simp; omega
          have q1 : ¬ 2 ≤ rd := by omega
          have HF : Hid (mowF W H f k = 3) := by show _ = _; unfold mowF; simp [hv, hrd, q1]
          clear hv hrd
          go_wp2_with (first | (go_at_call 85; refine Calls.mono (Gives.calls (RD2.out _ (HP.out.later ⟨_, sk.below⟩))) ?_; rintro e w1 ⟨rfl, x2, rfl⟩; have sk := sk.later x2; have c0 := cell_of_heap sk.boxM 2 _ rfl; have lM := lt_of_get sk.boxM; have cO := cell_of_heap sk.boxO 2 _ rfl; have lO := lt_of_get sk.boxO) | (at_builtin; refine wpList_append_own _ rfl _ _ 22 rfl (w.heap.size + 2) 3 i0 (.int .i64 0) 1 8 Tryd.underlying22 hi0 hz0 hz1 hz2 rfl (by decide) _ _ _ rfl ((own_row sk.own hlen).alloc _) ⟨_, 0, none⟩ 1 1 [.int .i64 (3)] rfl rfl lit_news one_int (by unfold maxLen; omega) (by omega) (by have := sk.lo; simp; omega) ?_; intro v5 w5 hown2 hgrow _; have ho6 : OwnI w5 (w.heap.size + 2) v5 ((List.range (k + 1)).map (mowF W H f)) := (by rw [map_snoc, HF.out]; exact push_I hlen hown2); obtain ⟨A6, cap6, hvv⟩ := ho6.shape_n (n := k + 1) (by simp); subst hvv; obtain ⟨r1, r2, r3, r4⟩ := sk.grown hgrow; have sk6 := sk.push hgrow ho6; have SK6 := Lib.hid sk6; have cO2 := cell_of_heap r3 2 _ rfl; have fO2 := thaw_get r3 2; have lO2 := lt_of_get r3; clear hown2 hgrow ho6 sk6 r1 r2 r3 r4))
          go_roundw
          case rel => exact ⟨k + 1, _, by omega, by go_num, SK6.out⟩
          case measure => simp [intOf]; omega
        · have q2 : decide ((2 : Int) ≤ (rd : Int)) = true := by simp; omega
          have q3 : decide ((rd : Int) ≤ 1) = false := by simp; omega
          have q1 : 2 ≤ rd := by omega
          have HF : Hid (mowF W H f k = 3) := by show _ = _; unfold mowF; simp [hv, hrd, q1]
          clear hv hrd
          go_wp2_with (first | (go_at_call 85; refine Calls.mono (Gives.calls (RD2.out _ (HP.out.later ⟨_, sk.below⟩))) ?_; rintro e w1 ⟨rfl, x2, rfl⟩; have sk := sk.later x2; have c0 := cell_of_heap sk.boxM 2 _ rfl; have lM := lt_of_get sk.boxM; have cO := cell_of_heap sk.boxO 2 _ rfl; have lO := lt_of_get sk.boxO) | (at_builtin; refine wpList_append_own _ rfl _ _ 22 rfl (w.heap.size + 2) 3 i0 (.int .i64 0) 1 8 Tryd.underlying22 hi0 hz0 hz1 hz2 rfl (by decide) _ _ _ rfl ((own_row sk.own hlen).alloc _) ⟨_, 0, none⟩ 1 1 [.int .i64 (3)] rfl rfl lit_news one_int (by unfold maxLen; omega) (by omega) (by have := sk.lo; simp; omega) ?_; intro v5 w5 hown2 hgrow _; have ho6 : OwnI w5 (w.heap.size + 2) v5 ((List.range (k + 1)).map (mowF W H f)) := (by rw [map_snoc, HF.out]; exact push_I hlen hown2); obtain ⟨A6, cap6, hvv⟩ := ho6.shape_n (n := k + 1) (by simp); subst hvv; obtain ⟨r1, r2, r3, r4⟩ := sk.grown hgrow; have sk6 := sk.push hgrow ho6; have SK6 := Lib.hid sk6; have cO2 := cell_of_heap r3 2 _ rfl; have fO2 := thaw_get r3 2; have lO2 := lt_of_get r3; clear hown2 hgrow ho6 sk6 r1 r2 r3 r4))
          go_roundw
          case rel => exact ⟨k + 1, _, by omega, by go_num, SK6.out⟩
          case measure => simp [intOf]; omega
      · by_cases h4 : v = 4
        · subst h4
          by_cases hk1 : rd ≤ 1
          · have q2 : decide ((2 : Int) ≤ (rd : Int)) = false := by simp; omega
            have q3 : decide ((rd : Int) ≤ 1) = true := by simp; omega
            have q1 : ¬ 2 ≤ rd := by omega
            have HF : Hid (mowF W H f k = 4) := by show _ = _; unfold mowF; simp [hv, hrd, q1]
            clear hv hrd
            go_wp2_with (first | (go_at_call 85; refine Calls.mono (Gives.calls (RD2.out _ (HP.out.later ⟨_, sk.below⟩))) ?_; rintro e w1 ⟨rfl, x2, rfl⟩; have sk := sk.later x2; have c0 := cell_of_heap sk.boxM 2 _ rfl; have lM := lt_of_get sk.boxM; have cO := cell_of_heap sk.boxO 2 _ rfl; have lO := lt_of_get sk.boxO) | (at_builtin; refine wpList_append_own _ rfl _ _ 22 rfl (w.heap.size + 2) 3 i0 (.int .i64 0) 1 8 Tryd.underlying22 hi0 hz0 hz1 hz2 rfl (by decide) _ _ _ rfl ((own_row sk.own hlen).alloc _) ⟨_, 0, none⟩ 1 1 [.int .i64 (4)] rfl rfl lit_news one_int (by unfold maxLen; omega) (by omega) (by have := sk.lo; simp; omega) ?_; intro v5 w5 hown2 hgrow _; have ho6 : OwnI w5 (w.heap.size + 2) v5 ((List.range (k + 1)).map (mowF W H f)) := (by rw [map_snoc, HF.out]; exact push_I hlen hown2); obtain ⟨A6, cap6, hvv⟩ := ho6.shape_n (n := k + 1) (by simp); subst hvv; obtain ⟨r1, r2, r3, r4⟩ := sk.grown hgrow; have sk6 := sk.push hgrow ho6; have SK6 := Lib.hid sk6; have cO2 := cell_of_heap r3 2 _ rfl; have fO2 := thaw_get r3 2; have lO2 := lt_of_get r3; clear hown2 hgrow ho6 sk6 r1 r2 r3 r4))
            go_roundw
            case rel => exact ⟨k + 1, _, by omega, by go_num, SK6.out⟩
            case measure => simp [intOf]; omega
          · have q2 : decide ((2 : Int) ≤ (rd : Int)) = true := by simp; omega
            have q3 : decide ((rd : Int) ≤ 1) = false := by simp; omega
            have q1 : 2 ≤ rd := by omega
            have HF : Hid (mowF W H f k = 4) := by show _ = _; unfold mowF; simp [hv, hrd, q1]
            clear hv hrd
            go_wp2_with (first | (go_at_call 85; refine Calls.mono (Gives.calls (RD2.out _ (HP.out.later ⟨_, sk.below⟩))) ?_; rintro e w1 ⟨rfl, x2, rfl⟩; have sk := sk.later x2; have c0 := cell_of_heap sk.boxM 2 _ rfl; have lM := lt_of_get sk.boxM; have cO := cell_of_heap sk.boxO 2 _ rfl; have lO := lt_of_get sk.boxO) | (at_builtin; refine wpList_append_own _ rfl _ _ 22 rfl (w.heap.size + 2) 3 i0 (.int .i64 0) 1 8 Tryd.underlying22 hi0 hz0 hz1 hz2 rfl (by decide) _ _ _ rfl ((own_row sk.own hlen).alloc _) ⟨_, 0, none⟩ 1 1 [.int .i64 (4)] rfl rfl lit_news one_int (by unfold maxLen; omega) (by omega) (by have := sk.lo; simp; omega) ?_; intro v5 w5 hown2 hgrow _; have ho6 : OwnI w5 (w.heap.size + 2) v5 ((List.range (k + 1)).map (mowF W H f)) := (by rw [map_snoc, HF.out]; exact push_I hlen hown2); obtain ⟨A6, cap6, hvv⟩ := ho6.shape_n (n := k + 1) (by simp); subst hvv; obtain ⟨r1, r2, r3, r4⟩ := sk.grown hgrow; have sk6 := sk.push hgrow ho6; have SK6 := Lib.hid sk6; have cO2 := cell_of_heap r3 2 _ rfl; have fO2 := thaw_get r3 2; have lO2 := lt_of_get r3; clear hown2 hgrow ho6 sk6 r1 r2 r3 r4))
            go_roundw
            case rel => exact ⟨k + 1, _, by omega, by go_num, SK6.out⟩
            case measure => simp [intOf]; omega
        · by_cases h1 : v = 1
          · subst h1
            by_cases hk1 : rd ≤ 1
            · have q2 : decide ((2 : Int) ≤ (rd : Int)) = false := by simp; omega
              have q3 : decide ((rd : Int) ≤ 1) = true := by simp; omega
              have HF : Hid (mowF W H f k = 4) := by show _ = _; unfold mowF; simp [hv, hrd, hk1]
              clear hv hrd
              go_wp2_with (first | (go_at_call 85; refine Calls.mono (Gives.calls (RD2.out _ (HP.out.later ⟨_, sk.below⟩))) ?_; rintro e w1 ⟨rfl, x2, rfl⟩; have sk := sk.later x2; have c0 := cell_of_heap sk.boxM 2 _ rfl; have lM := lt_of_get sk.boxM; have cO := cell_of_heap sk.boxO 2 _ rfl; have lO := lt_of_get sk.boxO) | (at_builtin; refine wpList_append_own _ rfl _ _ 22 rfl (w.heap.size + 2) 3 i0 (.int .i64 0) 1 8 Tryd.underlying22 hi0 hz0 hz1 hz2 rfl (by decide) _ _ _ rfl ((own_row sk.own hlen).alloc _) ⟨_, 0, none⟩ 1 1 [.int .i64 (4)] rfl rfl lit_news one_int (by unfold maxLen; omega) (by omega) (by have := sk.lo; simp; omega) ?_; intro v5 w5 hown2 hgrow _; have ho6 : OwnI w5 (w.heap.size + 2) v5 ((List.range (k + 1)).map (mowF W H f)) := (by rw [map_snoc, HF.out]; exact push_I hlen hown2); obtain ⟨A6, cap6, hvv⟩ := ho6.shape_n (n := k + 1) (by simp); subst hvv; obtain ⟨r1, r2, r3, r4⟩ := sk.grown hgrow; have sk6 := sk.push hgrow ho6; have SK6 := Lib.hid sk6; have cO2 := cell_of_heap r3 2 _ rfl; have fO2 := thaw_get r3 2; have lO2 := lt_of_get r3; clear hown2 hgrow ho6 sk6 r1 r2 r3 r4))
              go_roundw
              case rel => exact ⟨k + 1, _, by omega, by go_num, SK6.out⟩
              case measure => simp [intOf]; omega
            · have q2 : decide ((2 : Int) ≤ (rd : Int)) = true := by simp; omega
              have q3 : decide ((rd : Int) ≤ 1) = false := by simp; omega
              have HF : Hid (mowF W H f k = 1) := by show _ = _; unfold mowF; simp [hv, hrd, hk1]
              clear hv hrd
              go_wp2_with (first | (go_at_call 85; refine Calls.mono (Gives.calls (RD2.out _ (HP.out.later ⟨_, sk.below⟩))) ?_; rintro e w1 ⟨rfl, x2, rfl⟩; have sk := sk.later x2; have c0 := cell_of_heap sk.boxM 2 _ rfl; have lM := lt_of_get sk.boxM; have cO := cell_of_heap sk.boxO 2 _ rfl; have lO := lt_of_get sk.boxO) | (at_builtin; refine wpList_append_own _ rfl _ _ 22 rfl (w.heap.size + 2) 3 i0 (.int .i64 0) 1 8 Tryd.underlying22 hi0 hz0 hz1 hz2 rfl (by decide) _ _ _ rfl ((own_row sk.own hlen).alloc _) ⟨_, 0, none⟩ 1 1 [.int .i64 (1)] rfl rfl lit_news one_int (by unfold maxLen; omega) (by omega) (by have := sk.lo; simp; omega) ?_; intro v5 w5 hown2 hgrow _; have ho6 : OwnI w5 (w.heap.size + 2) v5 ((List.range (k + 1)).map (mowF W H f)) := (by rw [map_snoc, HF.out]; exact push_I hlen hown2); obtain ⟨A6, cap6, hvv⟩ := ho6.shape_n (n := k + 1) (by simp); subst hvv; obtain ⟨r1, r2, r3, r4⟩ := sk.grown hgrow; have sk6 := sk.push hgrow ho6; have SK6 := Lib.hid sk6; have cO2 := cell_of_heap r3 2 _ rfl; have fO2 := thaw_get r3 2; have lO2 := lt_of_get r3; clear hown2 hgrow ho6 sk6 r1 r2 r3 r4))
              go_roundw
              case rel => exact ⟨k + 1, _, by omega, by go_num, SK6.out⟩
              case measure => simp [intOf]; omega
          · have q3 : (v == 3) = false := by simpa using h3
            have q4 : (v == 4) = false := by simpa using h4
            have q1 : (v == 1) = false := by simpa using h1
            have HF : Hid (mowF W H f k = v) := by show _ = _; unfold mowF; simp [hv, h1, h3, h4]
            clear hv hrd
            go_wp2_with (first | (go_at_call 85; refine Calls.mono (Gives.calls (RD2.out _ (HP.out.later ⟨_, sk.below⟩))) ?_; rintro e w1 ⟨rfl, x2, rfl⟩; have sk := sk.later x2; have c0 := cell_of_heap sk.boxM 2 _ rfl; have lM := lt_of_get sk.boxM; have cO := cell_of_heap sk.boxO 2 _ rfl; have lO := lt_of_get sk.boxO) | (at_builtin; refine wpList_append_own _ rfl _ _ 22 rfl (w.heap.size + 2) 3 i0 (.int .i64 0) 1 8 Tryd.underlying22 hi0 hz0 hz1 hz2 rfl (by decide) _ _ _ rfl ((own_row sk.own hlen).alloc _) ⟨_, 0, none⟩ 1 1 [.int .i64 (v)] rfl rfl lit_news one_int (by unfold maxLen; omega) (by omega) (by have := sk.lo; simp; omega) ?_; intro v5 w5 hown2 hgrow _; have ho6 : OwnI w5 (w.heap.size + 2) v5 ((List.range (k + 1)).map (mowF W H f)) := (by rw [map_snoc, HF.out]; exact push_I hlen hown2); obtain ⟨A6, cap6, hvv⟩ := ho6.shape_n (n := k + 1) (by simp); subst hvv; obtain ⟨r1, r2, r3, r4⟩ := sk.grown hgrow; have sk6 := sk.push hgrow ho6; have SK6 := Lib.hid sk6; have cO2 := cell_of_heap r3 2 _ rfl; have fO2 := thaw_get r3 2; have lO2 := lt_of_get r3; clear hown2 hgrow ho6 sk6 r1 r2 r3 r4))
            go_roundw
            case rel => exact ⟨k + 1, _, by omega, by go_num, SK6.out⟩
            case measure => simp [intOf]; omega
    · obtain rfl : k = n := by omega
      have cO0 := cell_of_heap sk.boxO 0 _ rfl
      have cO1 := cell_of_heap sk.boxO 1 _ rfl
      obtain ⟨⟨d0, d1, d2⟩, g0, g1, g2⟩ := cells3 sk.boxR
      have lR := lt_of_get sk.boxR
      have SK1 := Lib.hid sk
      clear sk
      go_wp2
      have k3 := put3 (v0 := .int .i64 W) (v1 := .int .i64 H) (v2 := .slice Aa k capa) SK1.out.boxR
      obtain ⟨⟨r0, r1, r2⟩, _⟩ := cells3 k3
      refine bodyPost_ret (v := .tuple #[.agg #[.int .i64 W, .int .i64 H, .slice Aa k capa], .int .i64 0]) (by simp [results, Tryd.results40, go_sem, r0, r1, r2]) rfl ?_
      refine ⟨_, rfl, ⟨_, below_put3 SK1.out.below (by omega)⟩, rfl, own_put3 (SK1.out.own.mono (by omega)) ?_⟩
      intro g hg e
      have := (own_lt SK1.out.own g hg).1
      omega
end Go.Proofs.YtmielpcidhphaaaDoor
