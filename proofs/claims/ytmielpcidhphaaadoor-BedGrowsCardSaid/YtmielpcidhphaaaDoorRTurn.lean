/- The document's own Flip and Turn. -/
import Derived.Test.YtmielpcidhphaaaDoorRAt
import Derived.Test.YtmielpcidhphaaaDoorUpto
namespace Go.Proofs.YtmielpcidhphaaaDoor
open Go.RowKit

/-- The squares come in the order of the lines from which they are taken. -/
theorem flip_from {W H o c : Nat} (hc : c < W) (ho : o < H) : flipAt W (o * W + c) = o * W + (W - 1 - c) := by
  unfold flipAt
  rw [cell_x hc, cell_y hc]
theorem turn_from {W H o c : Nat} (hc : c < H) (ho : o < W) : turnAt W H (o * H + c) = (H - 1 - c) * W + o := by
  unfold turnAt
  rw [cell_x hc, cell_y hc]
theorem atV_in {W H : Nat} {f : Nat → Int} {x y : Nat} (hx : x < W) (hy : y < H) : atV W H f (x : Int) (y : Int) = f (y * W + x) := by
  have h : insB W H (x : Int) (y : Int) = true := by unfold insB; simp; omega
  unfold atV
  rw [if_pos h, ← Int.natCast_mul]
  congr 1

set_option maxRecDepth 100000 in
set_option maxHeartbeats 3200000 in
theorem rFlip_ok (W H n cap : Nat) (A : Option Addr) (f : Nat → Int) (w : World) (hp : IsInts w A n f) (hv : validM W H n f = true) :
    GivesME 42 #[.agg #[.int .i64 W, .int .i64 H, .slice A n cap]] w W H ((List.range n).map fun i => f (flipAt W i)) 0 := by
  have V : Hid (∀ w', IsInts w' A n f → Gives Tryd.prog 20 #[.agg #[.int .i64 W, .int .i64 H, .slice A n cap]] w' (.bool true)) := fun w' h => hv ▸ rmvalid_any W H A n cap f w' h
  obtain ⟨⟨v1, v2⟩, ⟨v3, v4⟩, hn, _⟩ := validM_iff.1 hv
  have hn' : n = W * H := by rw [← Int.natCast_mul] at hn; omega
  have h0 : 0 < n := by
    have := Nat.mul_le_mul (show 1 ≤ W by omega) (show 1 ≤ H by omega)
    omega
  have hn9 : n ≤ 900 := by rw [hn']; exact Nat.mul_le_mul (show W ≤ 30 by omega) (show H ≤ 30 by omega)
  obtain ⟨b, off, rfl, p⟩ := hp.at_ h0
  have AT : Hid (∀ (x y : Nat) (w' : World), x < W → y < H → IsInts w' (some ⟨b, off, none⟩) n f → Gives Tryd.prog 82 #[.agg #[.int .i64 W, .int .i64 H, .slice (some ⟨b, off, none⟩) n cap], .int .i64 x, .int .i64 y] w' (.int .i64 (f (y * W + x)))) := fun x y w' hx hy h => by
    have := rat_any W H n cap (some ⟨b, off, none⟩) f x y w' (by omega) (by omega) (by omega) (by omega) hn' h
    rwa [atV_in hx hy] at this
  have HNN : Hid (n = H * W) := by show n = _; first | exact hn' | (rw [Nat.mul_comm]; exact hn')
  have HP := Lib.hid hp
  have P := Lib.hid p
  have lb := p.lt
  obtain ⟨i0, hi0, hz0, hz1, hz2⟩ := info_int
  clear hp hv hn hn' p
  go_enter Tryd.func42, Tryd.ntmps42
  go_wp2_with (go_at_call 20; (first | (with_reducible show Calls _ _ _ (Later.val _) _; with_reducible refine Calls.mono (Later.call _ (V.out _ (HP.out.later ⟨_, by repeat (first | exact Below.refl _ _ | (with_reducible assumption) | apply below_later | apply below_alloc | apply below_drew | apply below_drewN)⟩))) ?_) | (with_reducible refine Calls.mono (Gives.calls (V.out _ (HP.out.later ⟨_, by repeat (first | exact Below.refl _ _ | (with_reducible assumption) | apply below_later | apply below_alloc | apply below_drew | apply below_drewN)⟩))) ?_)); rintro e w1 ⟨rfl, z, rfl⟩)
  have zM : z.val.heap[w.heap.size]? = some (.cells #[.int .i64 W, .int .i64 H, .slice (some ⟨b, off, none⟩) n cap] 24) := by
    rw [z.ok.block _ (by simp only [World.size_alloc]; omega), Below.heap_alloc _ _ _ (by simp)]; exact World.alloc_heap_new w _
  have zR : z.val.heap[w.heap.size + 1]? = some (.cells #[.int .i64 0, .int .i64 0, .slice none 0 0] 24) := by
    rw [z.ok.block _ (by simp)]
    have := World.alloc_heap_new (w.alloc (.cells #[.int .i64 W, .int .i64 H, .slice (some ⟨b, off, none⟩) n cap] 24)) (.cells #[.int .i64 0, .int .i64 0, .slice none 0 0] 24)
    rwa [World.size_alloc] at this
  have lz := lt_of_get zR
  have lz0 := lt_of_get zM
  have e0 := cell_of_heap zM 0 _ rfl
  have e1 := cell_of_heap zM 1 _ rfl
  have ZM := Lib.hid zM
  have ZR := Lib.hid zR
  clear zM zR
  go_wp2
  obtain ⟨V1, hV1⟩ : ∃ V1, z.val.alloc (.cells #[.int .i64 W, .int .i64 H, .slice none 0 0] 24) = V1 := ⟨_, rfl⟩
  have sk0 : SK (.cells #[.int .i64 W, .int .i64 H, .slice (some ⟨b, off, none⟩) n cap] 24) (.cells #[.int .i64 0, .int .i64 0, .slice none 0 0] 24) W H z.val.heap.size (.slice none 0 0) ((List.range 0).map (fun i => f (flipAt W i))) w V1 := by
    rw [← hV1]
    exact ⟨by repeat (first | exact Below.refl _ _ | (with_reducible assumption) | apply below_later | apply below_alloc | apply below_drew | apply below_drewN), (Below.heap_alloc _ _ _ lz0).trans ZM.out, (Below.heap_alloc _ _ _ lz).trans ZR.out, by omega, World.alloc_heap_new _ _, OwnI.nil _ _⟩
  rw [hV1]
  have SK0 := Lib.hid sk0
  clear hV1 sk0 e0 e1 lz0
  generalize z.val.heap.size = bo at *
  go_loopw [5] (fun u wr => ∃ (o : Nat) (v : Value), o ≤ H ∧ u = .int .i64 o ∧ SK (.cells #[.int .i64 W, .int .i64 H, .slice (some ⟨b, off, none⟩) n cap] 24) (.cells #[.int .i64 0, .int .i64 0, .slice none 0 0] 24) W H bo v ((List.range (o * W)).map fun i => f (flipAt W i)) w wr) (fun v _ => H - (intOf v).toNat)
  case atStart => exact ⟨0, _, by omega, rfl, by rw [Nat.zero_mul]; exact SK0.out⟩
  case round =>
    obtain ⟨o, va, ho, rfl, sk⟩ := hrel
    have c00 := cell_of_heap sk.boxM 0 _ rfl
    have c01 := cell_of_heap sk.boxM 1 _ rfl
    have lM := lt_of_get sk.boxM
    by_cases hlt : o < H
    · have hle : o * W + W ≤ n := by
        have := Nat.mul_le_mul_right W (show o + 1 ≤ H by omega)
        rw [Nat.add_mul, Nat.one_mul] at this
        rw [HNN.out]; exact this
      have hw1 : (1 : Int) ≤ (W : Int) := by omega
      have SK1 := Lib.hid sk
      clear sk
      go_wp2
      go_loopw [6] (fun u wr => ∃ (c : Nat) (v : Value), c ≤ W ∧ u = .int .i64 ((W : Int) - 1 - (c : Int)) ∧ SK (.cells #[.int .i64 W, .int .i64 H, .slice (some ⟨b, off, none⟩) n cap] 24) (.cells #[.int .i64 0, .int .i64 0, .slice none 0 0] 24) W H bo v ((List.range (o * W + c)).map fun i => f (flipAt W i)) w wr) (fun v _ => ((intOf v) + 1).toNat)
      case atStart => exact ⟨0, _, by omega, by simp, SK1.out⟩
      case round =>
        obtain ⟨c, vb, hc, rfl, sk⟩ := hrel
        have hlen : ((List.range (o * W + c)).map fun i => f (flipAt W i)).length = o * W + c := by simp
        obtain ⟨Aa, capa, hva⟩ := sk.own.shape_n hlen
        subst hva
        by_cases hlc : c < W
        · have hge : (0 : Int) ≤ (W : Int) - 1 - (c : Int) := by omega
          have c0 := cell_of_heap sk.boxM 2 _ rfl
          have c10 := cell_of_heap sk.boxM 0 _ rfl
          have c11 := cell_of_heap sk.boxM 1 _ rfl
          have lM1 := lt_of_get sk.boxM
          have cO := cell_of_heap sk.boxO 2 _ rfl
          have lO := lt_of_get sk.boxO
          have hbw := sk.below
          have A1 : Hid (∀ w', IsInts w' (some ⟨b, off, none⟩) n f → Gives Tryd.prog 82 #[.agg #[.int .i64 W, .int .i64 H, .slice (some ⟨b, off, none⟩) n cap], .int .i64 ((W : Int) - 1 - (c : Int)), .int .i64 o] w' (.int .i64 (f (o * W + (W - 1 - c))))) := fun w' h => by
            have := AT.out (W - 1 - c) o w' (by omega) (by omega) h
            rw [show (((W - 1 - c) : Nat) : Int) = ((W : Int) - 1 - (c : Int)) by omega] at this; exact this
          have HF : Hid (f (o * W + (W - 1 - c)) = f (flipAt W (o * W + c))) := by show _ = _; rw [flip_from hlc hlt]
          obtain ⟨kv, hkv⟩ : ∃ kv, f (o * W + (W - 1 - c)) = kv := ⟨_, rfl⟩
          rw [hkv] at A1 HF
          clear hkv
          have SK2 := Lib.hid sk
          clear sk
          go_wp2_with fail
          have FM : Hid (∀ y : Later wr.drew, ∃ c0 c1 c2 : Bool, True) := fun _ => ⟨true, true, true, trivial⟩
          have sk2 := SK2.out.later ⟨wr.drew, by repeat (first | exact Below.refl _ _ | (with_reducible assumption) | apply below_later | apply below_alloc | apply below_drew | apply below_drewN)⟩
          have SKD := Lib.hid sk2
          clear sk2
          have g0 : ∀ w', (∃ x : Later wr.drew, w' = x.val) → w'.cell? ⟨bo, 2, none⟩ = some (.slice Aa (o * W + c) capa) := (by rintro w' ⟨x, rfl⟩; exact cell_of_heap (SKD.out.later x).boxO 2 _ rfl)
          have g1 : ∀ w', (∃ x : Later wr.drew, w' = x.val) → w'.cell? ⟨w.heap.size, 0, none⟩ = some (.int .i64 W) := (by rintro w' ⟨x, rfl⟩; exact cell_of_heap (SKD.out.later x).boxM 0 _ rfl)
          have g2 : ∀ w', (∃ x : Later wr.drew, w' = x.val) → w'.cell? ⟨w.heap.size, 1, none⟩ = some (.int .i64 H) := (by rintro w' ⟨x, rfl⟩; exact cell_of_heap (SKD.out.later x).boxM 1 _ rfl)
          have g3 : ∀ w', (∃ x : Later wr.drew, w' = x.val) → w'.cell? ⟨w.heap.size, 2, none⟩ = some (.slice (some ⟨b, off, none⟩) n cap) := (by rintro w' ⟨x, rfl⟩; exact cell_of_heap (SKD.out.later x).boxM 2 _ rfl)
          refine wp_region_upto 5 7 (fun w' => ∃ x : Later wr.drew, w' = x.val) (by kernel_rfl) (by kernel_rfl) ⟨⟨wr.drew, Below.refl _ _⟩, rfl⟩ ?_
          simp only [List.take_succ_cons, List.take_zero, List.drop_succ_cons, List.drop_zero]
          iterate 5
            refine ⟨?_, Or.inl ⟨by rfl, ?_⟩, ?_⟩
            rotate_left
            · intro w' hS
              have q0 := g0 w' hS
              have q1 := g1 w' hS
              have q2 := g2 w' hS
              have q3 := g3 w' hS
              go_simp
              with_reducible rfl
            simp only [Act.put, List.setIfInBounds_toArray, List.set_cons_zero, List.set_cons_succ]
          refine takeList_nil ?_
          refine midList_cons fun K1 hK1 => ?_
          go_simp
          go_at_call 82
          refine Calls.mono (Gives.calls (A1.out _ (HP.out.later ⟨wr.drew, by repeat (first | exact Below.refl _ _ | (with_reducible assumption) | apply below_later | apply below_alloc | apply below_drew | apply below_drewN)⟩))) ?_
          rintro e w1 ⟨rfl, x2, rfl⟩
          refine hK1.out _ _ ⟨x2, rfl⟩ ?_
          clear hK1 K1
          refine midList_cons fun K2 hK2 => ?_
          go_simp
          refine hK2.out _ _ ⟨⟨_, by repeat (first | exact Below.refl _ _ | (with_reducible assumption) | apply below_later | apply below_alloc | apply below_drew | apply below_drewN)⟩, rfl⟩ ?_
          clear hK2 K2 g0 g1 g2 g3
          refine midList_nil ?_
          have sk3 := SKD.out.later x2
          have lO3 := lt_of_get sk3.boxO
          go_wp2_with (at_builtin; refine wpList_append_own _ rfl _ _ 22 rfl (w.heap.size + 2) 3 i0 (.int .i64 0) 1 8 Tryd.underlying22 hi0 hz0 hz1 hz2 rfl (by decide) _ _ _ rfl ((own_row sk3.own hlen).alloc _) ⟨_, 0, none⟩ 1 1 [.int .i64 kv] rfl rfl lit_news one_int (by unfold maxLen; omega) (by omega) (by have := sk3.lo; simp; omega) ?_; intro v5 w5 hown2 hgrow _; have ho6 : OwnI w5 (w.heap.size + 2) v5 ((List.range (o * W + c + 1)).map (fun i => f (flipAt W i))) := (by rw [map_snoc, ← HF.out]; exact push_I hlen hown2); obtain ⟨A6, cap6, hvv⟩ := ho6.shape_n (n := o * W + c + 1) (by simp); subst hvv; obtain ⟨r1, r2, r3, r4⟩ := sk3.grown hgrow; have sk6 := sk3.push hgrow ho6; have SK6 := Lib.hid sk6; have cO2 := cell_of_heap r3 2 _ rfl; have fO2 := thaw_get r3 2; have lO2 := lt_of_get r3; clear hown2 hgrow ho6 sk6 r1 r2 r3 r4)
          refine calm_normal ?_
          go_wp2
          go_roundw
          case rel => exact ⟨c + 1, _, by omega, by go_num, SK6.out⟩
          case measure => simp [intOf]; omega
        · obtain rfl : W = c := by omega
          have hge : ¬ (0 : Int) ≤ (W : Int) - 1 - (W : Int) := by omega
          have SK2 := Lib.hid sk
          clear sk
          go_wp2
          go_roundw
          case rel => exact ⟨o + 1, _, by omega, by go_num, by rw [Nat.add_mul, Nat.one_mul]; exact SK2.out⟩
          case measure => simp [intOf]; omega
    · obtain rfl : H = o := by omega
      have hlen : ((List.range (H * W)).map fun i => f (flipAt W i)).length = n := by simp [HNN.out]
      obtain ⟨Aa, capa, hva⟩ := sk.own.shape_n hlen
      subst hva
      have cO0 := cell_of_heap sk.boxO 0 _ rfl
      have cO1 := cell_of_heap sk.boxO 1 _ rfl
      have cO2 := cell_of_heap sk.boxO 2 _ rfl
      obtain ⟨⟨d0, d1, d2⟩, g0, g1, g2⟩ := cells3 sk.boxR
      have lR := lt_of_get sk.boxR
      have own := sk.own
      rw [show H * W = n from HNN.out.symm] at own
      have OWN := Lib.hid own
      have SK1 := Lib.hid sk
      clear sk own
      go_wp2
      have k3 := put3 (v0 := .int .i64 W) (v1 := .int .i64 H) (v2 := .slice Aa n capa) SK1.out.boxR
      obtain ⟨⟨r0, r1, r2⟩, _⟩ := cells3 k3
      refine bodyPost_ret (v := .tuple #[.agg #[.int .i64 W, .int .i64 H, .slice Aa n capa], .int .i64 0]) (by simp [results, Tryd.results42, go_sem, r0, r1, r2]) rfl ?_
      refine ⟨_, rfl, ⟨_, below_put3 SK1.out.below (by omega)⟩, rfl, own_put3 (OWN.out.mono (by omega)) ?_⟩
      intro g hg e
      have := (own_lt OWN.out g hg).1
      omega
set_option maxRecDepth 100000 in
set_option maxHeartbeats 3200000 in
theorem rTurn_ok (W H n cap : Nat) (A : Option Addr) (f : Nat → Int) (w : World) (hp : IsInts w A n f) (hv : validM W H n f = true) :
    GivesME 44 #[.agg #[.int .i64 W, .int .i64 H, .slice A n cap]] w H W ((List.range n).map fun i => f (turnAt W H i)) 0 := by
  have V : Hid (∀ w', IsInts w' A n f → Gives Tryd.prog 20 #[.agg #[.int .i64 W, .int .i64 H, .slice A n cap]] w' (.bool true)) := fun w' h => hv ▸ rmvalid_any W H A n cap f w' h
  obtain ⟨⟨v1, v2⟩, ⟨v3, v4⟩, hn, _⟩ := validM_iff.1 hv
  have hn' : n = W * H := by rw [← Int.natCast_mul] at hn; omega
  have h0 : 0 < n := by
    have := Nat.mul_le_mul (show 1 ≤ W by omega) (show 1 ≤ H by omega)
    omega
  have hn9 : n ≤ 900 := by rw [hn']; exact Nat.mul_le_mul (show W ≤ 30 by omega) (show H ≤ 30 by omega)
  obtain ⟨b, off, rfl, p⟩ := hp.at_ h0
  have AT : Hid (∀ (x y : Nat) (w' : World), x < W → y < H → IsInts w' (some ⟨b, off, none⟩) n f → Gives Tryd.prog 82 #[.agg #[.int .i64 W, .int .i64 H, .slice (some ⟨b, off, none⟩) n cap], .int .i64 x, .int .i64 y] w' (.int .i64 (f (y * W + x)))) := fun x y w' hx hy h => by
    have := rat_any W H n cap (some ⟨b, off, none⟩) f x y w' (by omega) (by omega) (by omega) (by omega) hn' h
    rwa [atV_in hx hy] at this
  have HNN : Hid (n = W * H) := by show n = _; first | exact hn' | (rw [Nat.mul_comm]; exact hn')
  have HP := Lib.hid hp
  have P := Lib.hid p
  have lb := p.lt
  obtain ⟨i0, hi0, hz0, hz1, hz2⟩ := info_int
  clear hp hv hn hn' p
  go_enter Tryd.func44, Tryd.ntmps44
  go_wp2_with (go_at_call 20; (first | (with_reducible show Calls _ _ _ (Later.val _) _; with_reducible refine Calls.mono (Later.call _ (V.out _ (HP.out.later ⟨_, by repeat (first | exact Below.refl _ _ | (with_reducible assumption) | apply below_later | apply below_alloc | apply below_drew | apply below_drewN)⟩))) ?_) | (with_reducible refine Calls.mono (Gives.calls (V.out _ (HP.out.later ⟨_, by repeat (first | exact Below.refl _ _ | (with_reducible assumption) | apply below_later | apply below_alloc | apply below_drew | apply below_drewN)⟩))) ?_)); rintro e w1 ⟨rfl, z, rfl⟩)
  have zM : z.val.heap[w.heap.size]? = some (.cells #[.int .i64 W, .int .i64 H, .slice (some ⟨b, off, none⟩) n cap] 24) := by
    rw [z.ok.block _ (by simp only [World.size_alloc]; omega), Below.heap_alloc _ _ _ (by simp)]; exact World.alloc_heap_new w _
  have zR : z.val.heap[w.heap.size + 1]? = some (.cells #[.int .i64 0, .int .i64 0, .slice none 0 0] 24) := by
    rw [z.ok.block _ (by simp)]
    have := World.alloc_heap_new (w.alloc (.cells #[.int .i64 W, .int .i64 H, .slice (some ⟨b, off, none⟩) n cap] 24)) (.cells #[.int .i64 0, .int .i64 0, .slice none 0 0] 24)
    rwa [World.size_alloc] at this
  have lz := lt_of_get zR
  have lz0 := lt_of_get zM
  have e0 := cell_of_heap zM 0 _ rfl
  have e1 := cell_of_heap zM 1 _ rfl
  have ZM := Lib.hid zM
  have ZR := Lib.hid zR
  clear zM zR
  go_wp2
  obtain ⟨V1, hV1⟩ : ∃ V1, z.val.alloc (.cells #[.int .i64 H, .int .i64 W, .slice none 0 0] 24) = V1 := ⟨_, rfl⟩
  have sk0 : SK (.cells #[.int .i64 W, .int .i64 H, .slice (some ⟨b, off, none⟩) n cap] 24) (.cells #[.int .i64 0, .int .i64 0, .slice none 0 0] 24) H W z.val.heap.size (.slice none 0 0) ((List.range 0).map (fun i => f (turnAt W H i))) w V1 := by
    rw [← hV1]
    exact ⟨by repeat (first | exact Below.refl _ _ | (with_reducible assumption) | apply below_later | apply below_alloc | apply below_drew | apply below_drewN), (Below.heap_alloc _ _ _ lz0).trans ZM.out, (Below.heap_alloc _ _ _ lz).trans ZR.out, by omega, World.alloc_heap_new _ _, OwnI.nil _ _⟩
  rw [hV1]
  have SK0 := Lib.hid sk0
  clear hV1 sk0 e0 e1 lz0
  generalize z.val.heap.size = bo at *
  go_loopw [5] (fun u wr => ∃ (o : Nat) (v : Value), o ≤ W ∧ u = .int .i64 o ∧ SK (.cells #[.int .i64 W, .int .i64 H, .slice (some ⟨b, off, none⟩) n cap] 24) (.cells #[.int .i64 0, .int .i64 0, .slice none 0 0] 24) H W bo v ((List.range (o * H)).map fun i => f (turnAt W H i)) w wr) (fun v _ => W - (intOf v).toNat)
  case atStart => exact ⟨0, _, by omega, rfl, by rw [Nat.zero_mul]; exact SK0.out⟩
  case round =>
    obtain ⟨o, va, ho, rfl, sk⟩ := hrel
    have c00 := cell_of_heap sk.boxM 0 _ rfl
    have c01 := cell_of_heap sk.boxM 1 _ rfl
    have lM := lt_of_get sk.boxM
    by_cases hlt : o < W
    · have hle : o * H + H ≤ n := by
        have := Nat.mul_le_mul_right H (show o + 1 ≤ W by omega)
        rw [Nat.add_mul, Nat.one_mul] at this
        rw [HNN.out]; exact this
      have hw1 : (1 : Int) ≤ (H : Int) := by omega
      have SK1 := Lib.hid sk
      clear sk
      go_wp2
      go_loopw [6] (fun u wr => ∃ (c : Nat) (v : Value), c ≤ H ∧ u = .int .i64 ((H : Int) - 1 - (c : Int)) ∧ SK (.cells #[.int .i64 W, .int .i64 H, .slice (some ⟨b, off, none⟩) n cap] 24) (.cells #[.int .i64 0, .int .i64 0, .slice none 0 0] 24) H W bo v ((List.range (o * H + c)).map fun i => f (turnAt W H i)) w wr) (fun v _ => ((intOf v) + 1).toNat)
      case atStart => exact ⟨0, _, by omega, by simp, SK1.out⟩
      case round =>
        obtain ⟨c, vb, hc, rfl, sk⟩ := hrel
        have hlen : ((List.range (o * H + c)).map fun i => f (turnAt W H i)).length = o * H + c := by simp
        obtain ⟨Aa, capa, hva⟩ := sk.own.shape_n hlen
        subst hva
        by_cases hlc : c < H
        · have hge : (0 : Int) ≤ (H : Int) - 1 - (c : Int) := by omega
          have c0 := cell_of_heap sk.boxM 2 _ rfl
          have c10 := cell_of_heap sk.boxM 0 _ rfl
          have c11 := cell_of_heap sk.boxM 1 _ rfl
          have lM1 := lt_of_get sk.boxM
          have cO := cell_of_heap sk.boxO 2 _ rfl
          have lO := lt_of_get sk.boxO
          have hbw := sk.below
          have A1 : Hid (∀ w', IsInts w' (some ⟨b, off, none⟩) n f → Gives Tryd.prog 82 #[.agg #[.int .i64 W, .int .i64 H, .slice (some ⟨b, off, none⟩) n cap], .int .i64 o, .int .i64 ((H : Int) - 1 - (c : Int))] w' (.int .i64 (f ((H - 1 - c) * W + o)))) := fun w' h => by
            have := AT.out o (H - 1 - c) w' (by omega) (by omega) h
            rw [show (((H - 1 - c) : Nat) : Int) = ((H : Int) - 1 - (c : Int)) by omega] at this; exact this
          have HF : Hid (f ((H - 1 - c) * W + o) = f (turnAt W H (o * H + c))) := by show _ = _; rw [turn_from hlc hlt]
          obtain ⟨kv, hkv⟩ : ∃ kv, f ((H - 1 - c) * W + o) = kv := ⟨_, rfl⟩
          rw [hkv] at A1 HF
          clear hkv
          have SK2 := Lib.hid sk
          clear sk
          go_wp2_with fail
          have FM : Hid (∀ y : Later wr.drew, ∃ c0 c1 c2 : Bool, True) := fun _ => ⟨true, true, true, trivial⟩
          have sk2 := SK2.out.later ⟨wr.drew, by repeat (first | exact Below.refl _ _ | (with_reducible assumption) | apply below_later | apply below_alloc | apply below_drew | apply below_drewN)⟩
          have SKD := Lib.hid sk2
          clear sk2
          have g0 : ∀ w', (∃ x : Later wr.drew, w' = x.val) → w'.cell? ⟨bo, 2, none⟩ = some (.slice Aa (o * H + c) capa) := (by rintro w' ⟨x, rfl⟩; exact cell_of_heap (SKD.out.later x).boxO 2 _ rfl)
          have g1 : ∀ w', (∃ x : Later wr.drew, w' = x.val) → w'.cell? ⟨w.heap.size, 0, none⟩ = some (.int .i64 W) := (by rintro w' ⟨x, rfl⟩; exact cell_of_heap (SKD.out.later x).boxM 0 _ rfl)
          have g2 : ∀ w', (∃ x : Later wr.drew, w' = x.val) → w'.cell? ⟨w.heap.size, 1, none⟩ = some (.int .i64 H) := (by rintro w' ⟨x, rfl⟩; exact cell_of_heap (SKD.out.later x).boxM 1 _ rfl)
          have g3 : ∀ w', (∃ x : Later wr.drew, w' = x.val) → w'.cell? ⟨w.heap.size, 2, none⟩ = some (.slice (some ⟨b, off, none⟩) n cap) := (by rintro w' ⟨x, rfl⟩; exact cell_of_heap (SKD.out.later x).boxM 2 _ rfl)
          refine wp_region_upto 5 7 (fun w' => ∃ x : Later wr.drew, w' = x.val) (by kernel_rfl) (by kernel_rfl) ⟨⟨wr.drew, Below.refl _ _⟩, rfl⟩ ?_
          simp only [List.take_succ_cons, List.take_zero, List.drop_succ_cons, List.drop_zero]
          iterate 5
            refine ⟨?_, Or.inl ⟨by rfl, ?_⟩, ?_⟩
            rotate_left
            · intro w' hS
              have q0 := g0 w' hS
              have q1 := g1 w' hS
              have q2 := g2 w' hS
              have q3 := g3 w' hS
              go_simp
              with_reducible rfl
            simp only [Act.put, List.setIfInBounds_toArray, List.set_cons_zero, List.set_cons_succ]
          refine takeList_nil ?_
          refine midList_cons fun K1 hK1 => ?_
          go_simp
          go_at_call 82
          refine Calls.mono (Gives.calls (A1.out _ (HP.out.later ⟨wr.drew, by repeat (first | exact Below.refl _ _ | (with_reducible assumption) | apply below_later | apply below_alloc | apply below_drew | apply below_drewN)⟩))) ?_
          rintro e w1 ⟨rfl, x2, rfl⟩
          refine hK1.out _ _ ⟨x2, rfl⟩ ?_
          clear hK1 K1
          refine midList_cons fun K2 hK2 => ?_
          go_simp
          refine hK2.out _ _ ⟨⟨_, by repeat (first | exact Below.refl _ _ | (with_reducible assumption) | apply below_later | apply below_alloc | apply below_drew | apply below_drewN)⟩, rfl⟩ ?_
          clear hK2 K2 g0 g1 g2 g3
          refine midList_nil ?_
          have sk3 := SKD.out.later x2
          have lO3 := lt_of_get sk3.boxO
          go_wp2_with (at_builtin; refine wpList_append_own _ rfl _ _ 22 rfl (w.heap.size + 2) 3 i0 (.int .i64 0) 1 8 Tryd.underlying22 hi0 hz0 hz1 hz2 rfl (by decide) _ _ _ rfl ((own_row sk3.own hlen).alloc _) ⟨_, 0, none⟩ 1 1 [.int .i64 kv] rfl rfl lit_news one_int (by unfold maxLen; omega) (by omega) (by have := sk3.lo; simp; omega) ?_; intro v5 w5 hown2 hgrow _; have ho6 : OwnI w5 (w.heap.size + 2) v5 ((List.range (o * H + c + 1)).map (fun i => f (turnAt W H i))) := (by rw [map_snoc, ← HF.out]; exact push_I hlen hown2); obtain ⟨A6, cap6, hvv⟩ := ho6.shape_n (n := o * H + c + 1) (by simp); subst hvv; obtain ⟨r1, r2, r3, r4⟩ := sk3.grown hgrow; have sk6 := sk3.push hgrow ho6; have SK6 := Lib.hid sk6; have cO2 := cell_of_heap r3 2 _ rfl; have fO2 := thaw_get r3 2; have lO2 := lt_of_get r3; clear hown2 hgrow ho6 sk6 r1 r2 r3 r4)
          refine calm_normal ?_
          go_wp2
          go_roundw
          case rel => exact ⟨c + 1, _, by omega, by go_num, SK6.out⟩
          case measure => simp [intOf]; omega
        · obtain rfl : H = c := by omega
          have hge : ¬ (0 : Int) ≤ (H : Int) - 1 - (H : Int) := by omega
          have SK2 := Lib.hid sk
          clear sk
          go_wp2
          go_roundw
          case rel => exact ⟨o + 1, _, by omega, by go_num, by rw [Nat.add_mul, Nat.one_mul]; exact SK2.out⟩
          case measure => simp [intOf]; omega
    · obtain rfl : W = o := by omega
      have hlen : ((List.range (W * H)).map fun i => f (turnAt W H i)).length = n := by simp [HNN.out]
      obtain ⟨Aa, capa, hva⟩ := sk.own.shape_n hlen
      subst hva
      have cO0 := cell_of_heap sk.boxO 0 _ rfl
      have cO1 := cell_of_heap sk.boxO 1 _ rfl
      have cO2 := cell_of_heap sk.boxO 2 _ rfl
      obtain ⟨⟨d0, d1, d2⟩, g0, g1, g2⟩ := cells3 sk.boxR
      have lR := lt_of_get sk.boxR
      have own := sk.own
      rw [show W * H = n from HNN.out.symm] at own
      have OWN := Lib.hid own
      have SK1 := Lib.hid sk
      clear sk own
      go_wp2
      have k3 := put3 (v0 := .int .i64 H) (v1 := .int .i64 W) (v2 := .slice Aa n capa) SK1.out.boxR
      obtain ⟨⟨r0, r1, r2⟩, _⟩ := cells3 k3
      refine bodyPost_ret (v := .tuple #[.agg #[.int .i64 H, .int .i64 W, .slice Aa n capa], .int .i64 0]) (by simp [results, Tryd.results44, go_sem, r0, r1, r2]) rfl ?_
      refine ⟨_, rfl, ⟨_, below_put3 SK1.out.below (by omega)⟩, rfl, own_put3 (OWN.out.mono (by omega)) ?_⟩
      intro g hg e
      have := (own_lt OWN.out g hg).1
      omega
end Go.Proofs.YtmielpcidhphaaaDoor
