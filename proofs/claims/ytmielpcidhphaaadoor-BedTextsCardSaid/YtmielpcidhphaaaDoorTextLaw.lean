/- The law BedTexts: walked. -/
import Derived.Test.YtmielpcidhphaaaDoorRFormat
import Derived.Test.YtmielpcidhphaaaDoorMapText
import Derived.Test.YtmielpcidhphaaaDoorSame
import Derived.Test.YtmielpcidhphaaaDoorAwake
namespace Go.Proofs.YtmielpcidhphaaaDoor
open Go.RowKit

set_option maxRecDepth 100000 in
set_option maxHeartbeats 3200000 in
theorem texts_law (W H : Int) (A : Option Addr) (n cap : Nat) (f : Nat → Int) (w : World) (hn : n ≤ maxLen) (hp : n ≤ 1000 → IsInts w A n f) :
    Gives Tryd.prog 3 #[.agg #[.int .i64 W, .int .i64 H, .slice A n cap]] w (.bool true) := by
  have hm : n < 9223372036854775808 := by unfold maxLen at hn; omega
  clear hn
  have AW : Hid (∀ w, Gives Tryd.prog 16 #[] w (.bool true)) := awake_any
  by_cases h : 1000 < n
  · have LG : Hid (∀ w, Gives Tryd.prog 15 #[.agg #[.int .i64 W, .int .i64 H, .slice A n cap]] w (.bool true)) := fun w => (show decide (1000 < n) = true by simpa using h) ▸ large_any W H A n cap w
    clear hp
    go_enter Tryd.func3, Tryd.ntmps3
    go_wp2_with (first | (go_at_call 15; (first | (with_reducible show Calls _ _ _ (Later.val _) _; with_reducible refine Calls.mono (Later.call _ (LG.out _)) ?_) | (with_reducible refine Calls.mono (Gives.calls (LG.out _)) ?_)); rintro e w1 ⟨rfl, y1, rfl⟩) | (go_at_call 16; (first | (with_reducible show Calls _ _ _ (Later.val _) _; with_reducible refine Calls.mono (Later.call _ (AW.out _)) ?_) | (with_reducible refine Calls.mono (Gives.calls (AW.out _)) ?_)); rintro e w1 ⟨rfl, y2, rfl⟩))
    go_ret
    exact ⟨rfl, later_of (by repeat (first | exact Below.refl _ _ | (with_reducible assumption) | apply below_later | apply below_alloc | apply below_drew | apply below_drewN))⟩
  · have LG : Hid (∀ w, Gives Tryd.prog 15 #[.agg #[.int .i64 W, .int .i64 H, .slice A n cap]] w (.bool false)) := fun w => (show decide (1000 < n) = false by simpa using h) ▸ large_any W H A n cap w
    have HP := Lib.hid (hp (by omega))
    have hn9 : n ≤ 1000 := by omega
    clear hp h
    cases hv : validM W H n f
    · have V1 : Hid (∀ w', IsInts w' A n f → Gives Tryd.prog 19 #[.agg #[.int .i64 W, .int .i64 H, .slice A n cap]] w' (.bool false)) := fun w' h => hv ▸ bvalid_any W H A n cap f w' h
      have V2 : Hid (∀ w', IsInts w' A n f → Gives Tryd.prog 20 #[.agg #[.int .i64 W, .int .i64 H, .slice A n cap]] w' (.bool false)) := fun w' h => hv ▸ rmvalid_any W H A n cap f w' h
      have F1 : Hid (∀ w', IsInts w' A n f → Gives Tryd.prog 17 #[.agg #[.int .i64 W, .int .i64 H, .slice A n cap]] w' (.tuple #[.string ⟨#[]⟩, .int .i64 20])) := fun w' h => format_bad W H n cap A f w' h hv
      have F2 : Hid (∀ w', IsInts w' A n f → Gives Tryd.prog 18 #[.agg #[.int .i64 W, .int .i64 H, .slice A n cap]] w' (.tuple #[.string ⟨#[]⟩, .int .i64 20])) := fun w' h => rformat_bad W H n cap A f w' h hv
      clear hv
      go_enter Tryd.func3, Tryd.ntmps3
      go_wp2_with (first | (go_at_call 15; (first | (with_reducible show Calls _ _ _ (Later.val _) _; with_reducible refine Calls.mono (Later.call _ (LG.out _)) ?_) | (with_reducible refine Calls.mono (Gives.calls (LG.out _)) ?_)); rintro e w1 ⟨rfl, y1, rfl⟩) | (go_at_call 17; (first | (with_reducible show Calls _ _ _ (Later.val _) _; with_reducible refine Calls.mono (Later.call _ (F1.out _ (HP.out.later ⟨_, by repeat (first | exact Below.refl _ _ | (with_reducible assumption) | apply below_later | apply below_alloc | apply below_drew | apply below_drewN)⟩))) ?_) | (with_reducible refine Calls.mono (Gives.calls (F1.out _ (HP.out.later ⟨_, by repeat (first | exact Below.refl _ _ | (with_reducible assumption) | apply below_later | apply below_alloc | apply below_drew | apply below_drewN)⟩))) ?_)); rintro e w1 ⟨rfl, y3, rfl⟩) | (go_at_call 18; (first | (with_reducible show Calls _ _ _ (Later.val _) _; with_reducible refine Calls.mono (Later.call _ (F2.out _ (HP.out.later ⟨_, by repeat (first | exact Below.refl _ _ | (with_reducible assumption) | apply below_later | apply below_alloc | apply below_drew | apply below_drewN)⟩))) ?_) | (with_reducible refine Calls.mono (Gives.calls (F2.out _ (HP.out.later ⟨_, by repeat (first | exact Below.refl _ _ | (with_reducible assumption) | apply below_later | apply below_alloc | apply below_drew | apply below_drewN)⟩))) ?_)); rintro e w1 ⟨rfl, y4, rfl⟩))
      first | (with_reducible show Code.wp _ _ _ _ (Later.val _); refine wp_region_later_at _ (by kernel_rfl) (by kernel_rfl) ?_) | refine wp_region_later (by kernel_rfl) (by kernel_rfl) ?_
      repeat (go_big_quiet_step ((first | (go_at_call 19; (with_reducible refine Later.call _ (V1.out _ (HP.out.later ⟨_, by repeat (first | exact Below.refl _ _ | (with_reducible assumption) | apply below_later | apply below_alloc | apply below_drew | apply below_drewN)⟩)))) | (go_at_call 20; (with_reducible refine Later.call _ (V2.out _ (HP.out.later ⟨_, by repeat (first | exact Below.refl _ _ | (with_reducible assumption) | apply below_later | apply below_alloc | apply below_drew | apply below_drewN)⟩)))))))
      refine wpQuiet_nil ?_
      intro y5
      go_wp2_with (first | (go_at_call 16; (first | (with_reducible show Calls _ _ _ (Later.val _) _; with_reducible refine Calls.mono (Later.call _ (AW.out _)) ?_) | (with_reducible refine Calls.mono (Gives.calls (AW.out _)) ?_)); rintro e w1 ⟨rfl, y2, rfl⟩))
      go_ret
      exact ⟨rfl, later_of (by repeat (first | exact Below.refl _ _ | (with_reducible assumption) | apply below_later | apply below_alloc | apply below_drew | apply below_drewN))⟩
    · have V1 : Hid (∀ w', IsInts w' A n f → Gives Tryd.prog 19 #[.agg #[.int .i64 W, .int .i64 H, .slice A n cap]] w' (.bool true)) := fun w' h => hv ▸ bvalid_any W H A n cap f w' h
      have V2 : Hid (∀ w', IsInts w' A n f → Gives Tryd.prog 20 #[.agg #[.int .i64 W, .int .i64 H, .slice A n cap]] w' (.bool true)) := fun w' h => hv ▸ rmvalid_any W H A n cap f w' h
      obtain ⟨⟨v1, v2⟩, ⟨v3, v4⟩, hn, hk4⟩ := validM_iff.1 hv
      obtain ⟨W, rfl⟩ : ∃ x : Nat, W = x := ⟨W.toNat, by omega⟩
      obtain ⟨H, rfl⟩ : ∃ y : Nat, H = y := ⟨H.toNat, by omega⟩
      have hn' : n = H * W := by rw [Nat.mul_comm]; rw [← Int.natCast_mul] at hn; omega
      have F1 : Hid (∀ w', IsInts w' A n f → Gives Tryd.prog 17 #[.agg #[.int .i64 W, .int .i64 H, .slice A n cap]] w' (.tuple #[.string ⟨(fmtTo W f n).toArray⟩, .int .i64 0])) := fun w' h => format_ok W H n cap A f w' h hv
      have F2 : Hid (∀ w', IsInts w' A n f → Gives Tryd.prog 18 #[.agg #[.int .i64 W, .int .i64 H, .slice A n cap]] w' (.tuple #[.string ⟨(fmtTo W f n).toArray⟩, .int .i64 0])) := fun w' h => rformat_ok W H n cap A f w' h hv
      have tr := text_read f (W := W) (H := H) (by omega) (by omega) (by omega) (by omega) (fun i hi => hk4 i (by omega))
      rw [← hn'] at tr
      have PS : Hid (∀ w', GivesME 21 #[.string ⟨(fmtTo W f n).toArray⟩] w' W H ((List.range n).map f) 0) := fun w' =>
        bparse_any (fmtTo W f n) w' (by have := fmtTo_length W f n; omega) W H _ 0 (fun W' H' sq e => by rw [tr] at e; simp only [Option.some.injEq, Prod.mk.injEq] at e; obtain ⟨rfl, rfl, rfl⟩ := e; exact ⟨rfl, rfl, rfl, rfl⟩) (fun e => by rw [tr] at e; cases e)
      have SM : Hid (∀ (w' : World) (B : Option Addr) (c2 : Nat), IsInts w' B n (fun i => ((List.range n).map f).getD i 0) → IsInts w' A n f → Gives Tryd.prog 22 #[.agg #[.int .i64 W, .int .i64 H, .slice B n c2], .agg #[.int .i64 W, .int .i64 H, .slice A n cap]] w' (.bool true)) := fun w' B c2 h1 h2 =>
        same_maps W H B A n c2 cap _ f w' (by omega) h1 h2 fun i hi => by
          rw [List.getD_eq_getElem?_getD, List.getElem?_map, List.getElem?_range hi]; rfl
      generalize (⟨(fmtTo W f n).toArray⟩ : ByteArray) = T at *
      clear tr hv hn hn' hk4
      go_enter Tryd.func3, Tryd.ntmps3
      go_wp2_with (first | (go_at_call 15; (first | (with_reducible show Calls _ _ _ (Later.val _) _; with_reducible refine Calls.mono (Later.call _ (LG.out _)) ?_) | (with_reducible refine Calls.mono (Gives.calls (LG.out _)) ?_)); rintro e w1 ⟨rfl, y1, rfl⟩) | (go_at_call 17; (first | (with_reducible show Calls _ _ _ (Later.val _) _; with_reducible refine Calls.mono (Later.call _ (F1.out _ (HP.out.later ⟨_, by repeat (first | exact Below.refl _ _ | (with_reducible assumption) | apply below_later | apply below_alloc | apply below_drew | apply below_drewN)⟩))) ?_) | (with_reducible refine Calls.mono (Gives.calls (F1.out _ (HP.out.later ⟨_, by repeat (first | exact Below.refl _ _ | (with_reducible assumption) | apply below_later | apply below_alloc | apply below_drew | apply below_drewN)⟩))) ?_)); rintro e w1 ⟨rfl, y3, rfl⟩) | (go_at_call 18; (first | (with_reducible show Calls _ _ _ (Later.val _) _; with_reducible refine Calls.mono (Later.call _ (F2.out _ (HP.out.later ⟨_, by repeat (first | exact Below.refl _ _ | (with_reducible assumption) | apply below_later | apply below_alloc | apply below_drew | apply below_drewN)⟩))) ?_) | (with_reducible refine Calls.mono (Gives.calls (F2.out _ (HP.out.later ⟨_, by repeat (first | exact Below.refl _ _ | (with_reducible assumption) | apply below_later | apply below_alloc | apply below_drew | apply below_drewN)⟩))) ?_)); rintro e w1 ⟨rfl, y4, rfl⟩))
      first | (with_reducible show Code.wp _ _ _ _ (Later.val _); refine wp_region_later_at _ (by kernel_rfl) (by kernel_rfl) ?_) | refine wp_region_later (by kernel_rfl) (by kernel_rfl) ?_
      repeat (go_big_quiet_step ((first | (go_at_call 19; (with_reducible refine Later.call _ (V1.out _ (HP.out.later ⟨_, by repeat (first | exact Below.refl _ _ | (with_reducible assumption) | apply below_later | apply below_alloc | apply below_drew | apply below_drewN)⟩)))) | (go_at_call 20; (with_reducible refine Later.call _ (V2.out _ (HP.out.later ⟨_, by repeat (first | exact Below.refl _ _ | (with_reducible assumption) | apply below_later | apply below_alloc | apply below_drew | apply below_drewN)⟩)))))))
      refine wpQuiet_nil ?_
      intro y5
      go_wp2_with (first
        | (go_at_call 21; refine Calls.mono (GivesME.at_ _ (PS.out _)) ?_; rintro e w1 ⟨v, rfl, y6, rfl, ho6⟩; obtain ⟨A6, cap6, rfl⟩ := ho6.shape_n (n := n) (by simp); have l6 : w.heap.size < y6.val.heap.size := (by have := y6.size; simp at this; omega); have hi6 := Lib.hid (ho6.ints (by simp; omega)).2; clear ho6)
        | (go_at_call 22; (first | (with_reducible show Calls _ _ _ (Later.val _) _; with_reducible refine Calls.mono (Later.call _ (SM.out _ _ _ (hi6.out.later ⟨_, by repeat (first | exact Below.refl _ _ | (with_reducible assumption) | apply below_later | apply below_alloc | apply below_drew | apply below_drewN)⟩) (HP.out.later ⟨_, by repeat (first | exact Below.refl _ _ | (with_reducible assumption) | apply below_later | apply below_alloc | apply below_drew | apply below_drewN)⟩))) ?_) | (with_reducible refine Calls.mono (Gives.calls (SM.out _ _ _ (hi6.out.later ⟨_, by repeat (first | exact Below.refl _ _ | (with_reducible assumption) | apply below_later | apply below_alloc | apply below_drew | apply below_drewN)⟩) (HP.out.later ⟨_, by repeat (first | exact Below.refl _ _ | (with_reducible assumption) | apply below_later | apply below_alloc | apply below_drew | apply below_drewN)⟩))) ?_)); rintro e w1 ⟨rfl, y7, rfl⟩)
        | (go_at_call 16; (first | (with_reducible show Calls _ _ _ (Later.val _) _; with_reducible refine Calls.mono (Later.call _ (AW.out _)) ?_) | (with_reducible refine Calls.mono (Gives.calls (AW.out _)) ?_)); rintro e w1 ⟨rfl, y2, rfl⟩))
      go_ret
      exact ⟨rfl, later_of (by repeat (first | exact Below.refl _ _ | (with_reducible assumption) | apply below_later | apply below_alloc | apply below_drew | apply below_drewN))⟩
end Go.Proofs.YtmielpcidhphaaaDoor
