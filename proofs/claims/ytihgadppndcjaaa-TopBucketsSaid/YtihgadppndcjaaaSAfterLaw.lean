/- SluiceAfter: the walk. -/
import Derived.Test.YtihgadppndcjaaaSFirst
import Derived.Test.YtihgadppndcjaaaSAfter
namespace Go.Proofs.Ytihgadppndcjaaa
open Go.RowKit

theorem few_any (W H : Int) (A : Option Addr) (n cap : Nat) (w : World) : Gives Try.prog 41 #[.agg #[.int .i64 W, .int .i64 H, .slice A n cap]] w (.bool (decide (n ≤ 36))) := by
  have HR : Hid (decide (n ≤ 36) = decide ((n : Int) ≤ 36)) := by show _ = _; rw [decide_eq_decide]; omega
  generalize decide (n ≤ 36) = r at *
  go_enter Try.func41, Try.ntmps41
  go_wp2
  go_ret
  exact ⟨ret_bool (by rw [HR.out]), later_of (by repeat (first | exact Below.refl _ _ | (with_reducible assumption) | apply below_later | apply below_alloc | apply below_drew | apply below_drewN))⟩
theorem aft_len {W H : Nat} {b : List Int} {a : Nat → Nat} : ∀ {k : Nat} {c : List Int}, aft W H b a k = some c → c.length = b.length
  | 0, c, h => by obtain rfl := Option.some.inj (show some b = some c from h); rfl
  | k + 1, c, h => by
    cases h0 : aft W H b a k with
    | none => rw [aft_none h0 (k + 1) (by omega)] at h; cases h
    | some q =>
      rw [aft_step h0] at h
      split at h
      · cases h
      · obtain rfl := Option.some.inj h
        rw [runL_length, aft_len h0]
set_option maxRecDepth 100000 in
set_option maxHeartbeats 3200000 in
theorem after_law (W H : Int) (A : Option Addr) (n cap : Nat) (f : Nat → Int) (B : Option Addr) (m capB : Nat) (g : Nat → Int) (w : World) (hp : n ≤ 9223372036854775807 → IsInts w A n f) (hq : m ≤ 9223372036854775807 → IsInts w B m g) (hn1 : n ≤ maxLen) (hm1 : m ≤ maxLen) :
    Gives Try.prog 9 #[.agg #[.int .i64 W, .int .i64 H, .slice A n cap], .slice B m capB] w (.bool true) := by
  have F1 : Hid (∀ w, Gives Try.prog 16 #[] w (.bool true)) := first_any
  have hnb : n ≤ 9223372036854775807 := by unfold maxLen at hn1; omega
  have hmb : m ≤ 9223372036854775807 := by unfold maxLen at hm1; omega
  have hp' := hp hnb
  have hq' := hq hmb
  clear hp hq hn1 hm1
  by_cases h36 : n ≤ 36
  · have FW : Hid (∀ w, Gives Try.prog 41 #[.agg #[.int .i64 W, .int .i64 H, .slice A n cap]] w (.bool true)) := fun w => by
      have h := few_any W H A n cap w
      rwa [decide_eq_true h36] at h
    by_cases h300 : m ≤ 300
    · have q1 : decide ((300 : Int) < (m : Int)) = false := by simp; omega
      cases hv : bucketsB W H n f
      · have C1 : Hid (∀ w', IsInts w' A n f → Gives Try.prog 47 #[.int .i64 W, .int .i64 H, .slice A n cap, .slice B m capB] w' (.tuple #[.slice none 0 0, .int .i64 31])) := fun w' h => after_bad W H n cap m capB A B f w' h hv
        have C2 : Hid (∀ w', IsInts w' A n f → Gives Try.prog 44 #[.int .i64 W, .int .i64 H, .slice A n cap] w' (.bool false)) := fun w' h => hv ▸ rbuckets_any W H A n cap f w' h
        have HP := Lib.hid hp'
        clear hv hp' hq'
        go_enter Try.func9, Try.ntmps9
        go_wp2_with (first
          | (go_at_call 41; (first | (with_reducible show Calls _ _ _ (Later.val _) _; with_reducible refine Calls.mono (Later.call _ (FW.out _)) ?_) | (with_reducible refine Calls.mono (Gives.calls (FW.out _)) ?_)); rintro e w1 ⟨rfl, z1, rfl⟩)
          | (go_at_call 47; (first | (with_reducible show Calls _ _ _ (Later.val _) _; with_reducible refine Calls.mono (Later.call _ (C1.out _ (HP.out.later ⟨_, by repeat (first | exact Below.refl _ _ | (with_reducible assumption) | apply below_later | apply below_alloc | apply below_drew | apply below_drewN)⟩))) ?_) | (with_reducible refine Calls.mono (Gives.calls (C1.out _ (HP.out.later ⟨_, by repeat (first | exact Below.refl _ _ | (with_reducible assumption) | apply below_later | apply below_alloc | apply below_drew | apply below_drewN)⟩))) ?_)); rintro e w1 ⟨rfl, z2, rfl⟩)
          | (go_at_call 44; (first | (with_reducible show Calls _ _ _ (Later.val _) _; with_reducible refine Calls.mono (Later.call _ (C2.out _ (HP.out.later ⟨_, by repeat (first | exact Below.refl _ _ | (with_reducible assumption) | apply below_later | apply below_alloc | apply below_drew | apply below_drewN)⟩))) ?_) | (with_reducible refine Calls.mono (Gives.calls (C2.out _ (HP.out.later ⟨_, by repeat (first | exact Below.refl _ _ | (with_reducible assumption) | apply below_later | apply below_alloc | apply below_drew | apply below_drewN)⟩))) ?_)); rintro e w1 ⟨rfl, z3, rfl⟩)
          | (go_at_call 16; (first | (with_reducible show Calls _ _ _ (Later.val _) _; with_reducible refine Calls.mono (Later.call _ (F1.out _)) ?_) | (with_reducible refine Calls.mono (Gives.calls (F1.out _)) ?_)); rintro e w1 ⟨rfl, z4, rfl⟩))
        go_ret
        exact ⟨rfl, later_of (by repeat (first | exact Below.refl _ _ | (with_reducible assumption) | apply below_later | apply below_alloc | apply below_drew | apply below_drewN))⟩
      · have C2 : Hid (∀ w', IsInts w' A n f → Gives Try.prog 44 #[.int .i64 W, .int .i64 H, .slice A n cap] w' (.bool true)) := fun w' h => hv ▸ rbuckets_any W H A n cap f w' h
        have HP := Lib.hid hp'
        have HQ := Lib.hid hq'
        cases hg : allB m fun i => inB n (g i)
        · have C1 : Hid (∀ w', IsInts w' A n f → IsInts w' B m g → Gives Try.prog 47 #[.int .i64 W, .int .i64 H, .slice A n cap, .slice B m capB] w' (.tuple #[.slice none 0 0, .int .i64 2])) := fun w' h1 h2 => after_arg W H n cap m capB A B f g w' (by omega) h1 h2 hv hg
          have HG : Hid (¬ ∀ i, i < m → inB n (g i) = true) := fun h => by rw [allB_true h] at hg; cases hg
          clear hv hp' hq' hg
          go_enter Try.func9, Try.ntmps9
          go_wp2_with (first
            | (go_at_call 41; (first | (with_reducible show Calls _ _ _ (Later.val _) _; with_reducible refine Calls.mono (Later.call _ (FW.out _)) ?_) | (with_reducible refine Calls.mono (Gives.calls (FW.out _)) ?_)); rintro e w1 ⟨rfl, z1, rfl⟩)
            | (go_at_call 47; (first | (with_reducible show Calls _ _ _ (Later.val _) _; with_reducible refine Calls.mono (Later.call _ (C1.out _ (HP.out.later ⟨_, by repeat (first | exact Below.refl _ _ | (with_reducible assumption) | apply below_later | apply below_alloc | apply below_drew | apply below_drewN)⟩) (HQ.out.later ⟨_, by repeat (first | exact Below.refl _ _ | (with_reducible assumption) | apply below_later | apply below_alloc | apply below_drew | apply below_drewN)⟩))) ?_) | (with_reducible refine Calls.mono (Gives.calls (C1.out _ (HP.out.later ⟨_, by repeat (first | exact Below.refl _ _ | (with_reducible assumption) | apply below_later | apply below_alloc | apply below_drew | apply below_drewN)⟩) (HQ.out.later ⟨_, by repeat (first | exact Below.refl _ _ | (with_reducible assumption) | apply below_later | apply below_alloc | apply below_drew | apply below_drewN)⟩))) ?_)); rintro e w1 ⟨rfl, z2, rfl⟩)
            | (go_at_call 44; (first | (with_reducible show Calls _ _ _ (Later.val _) _; with_reducible refine Calls.mono (Later.call _ (C2.out _ (HP.out.later ⟨_, by repeat (first | exact Below.refl _ _ | (with_reducible assumption) | apply below_later | apply below_alloc | apply below_drew | apply below_drewN)⟩))) ?_) | (with_reducible refine Calls.mono (Gives.calls (C2.out _ (HP.out.later ⟨_, by repeat (first | exact Below.refl _ _ | (with_reducible assumption) | apply below_later | apply below_alloc | apply below_drew | apply below_drewN)⟩))) ?_)); rintro e w1 ⟨rfl, z3, rfl⟩))
          obtain ⟨V9, hV9⟩ : ∃ V, (w.alloc (.cells #[.int .i64 W, .int .i64 H, .slice A n cap] 54)) = V := ⟨_, rfl⟩
          have HQ9 : Hid (IsInts V9 B m g) := by show IsInts _ _ _ _; rw [← hV9]; exact HQ.out.later ⟨_, by repeat (first | exact Below.refl _ _ | (with_reducible assumption) | apply below_later | apply below_alloc | apply below_drew | apply below_drewN)⟩
          have m2 : V9.cell? ⟨w.heap.size, 2, none⟩ = some (.slice A n cap) := by rw [← hV9]; exact cell_of_heap (World.alloc_heap_new _ _) 2 _ rfl
          have lw : w.heap.size < V9.heap.size := by rw [← hV9]; simp
          have hb9 : Below w.heap.size w V9 := by rw [← hV9]; repeat (first | exact Below.refl _ _ | (with_reducible assumption) | apply below_later | apply below_alloc | apply below_drew | apply below_drewN)
          have hz : Below V9.heap.size V9 z3.val := by rw [← hV9]; repeat (first | exact Below.refl _ _ | (with_reducible assumption) | apply below_later | apply below_alloc | apply below_drew | apply below_drewN)
          clear hV9
          go_loopw [7] (fun u wr => ∃ k : Nat, k ≤ m ∧ u = .int .i64 k ∧ (∀ j, j < k → inB n (g j) = true) ∧ ∃ x : Later V9, wr = x.val) (fun u _ => m - (intOf u).toNat)
          case atStart => exact ⟨0, by omega, rfl, by omega, ⟨_, hz⟩, rfl⟩
          case round =>
            obtain ⟨k, hk, rfl, hall, x, rfl⟩ := hrel
            have HALL := Lib.hid hall
            clear hall
            by_cases hlt : k < m
            · obtain ⟨gb, gf, hB, pB⟩ := HQ9.out.at_ (by omega)
              subst hB
              have ck := pB.at_ k hlt
              have lB := pB.lt
              clear pB
              by_cases h1 : g k < 0
              · generalize g k = y at *
                go_wp2_with fail
                first | (with_reducible show Code.wp _ _ _ _ (Later.val _); refine wp_region_later_at _ (by kernel_rfl) (by kernel_rfl) ?_) | refine wp_region_later (by kernel_rfl) (by kernel_rfl) ?_
                repeat (go_big_quiet_step ((fail)))
                refine wpQuiet_nil ?_
                intro zr
                go_wp2_with (go_at_call 16; (first | (with_reducible show Calls _ _ _ (Later.val _) _; with_reducible refine Calls.mono (Later.call _ (F1.out _)) ?_) | (with_reducible refine Calls.mono (Gives.calls (F1.out _)) ?_)); rintro e w1 ⟨rfl, z4, rfl⟩)
                go_ret
                exact ⟨rfl, later_of (by repeat (first | exact Below.refl _ _ | (with_reducible assumption) | apply below_later | apply below_alloc | apply below_drew | apply below_drewN))⟩
              · by_cases h2 : (n : Int) ≤ g k
                · have d1 : decide (g k < 0) = false := decide_eq_false h1
                  have d2 : decide ((n : Int) ≤ g k) = true := decide_eq_true h2
                  generalize g k = y at *
                  go_wp2_with fail
                  first | (with_reducible show Code.wp _ _ _ _ (Later.val _); refine wp_region_later_at _ (by kernel_rfl) (by kernel_rfl) ?_) | refine wp_region_later (by kernel_rfl) (by kernel_rfl) ?_
                  repeat (go_big_quiet_step ((fail)))
                  refine wpQuiet_nil ?_
                  intro zr
                  go_wp2_with (go_at_call 16; (first | (with_reducible show Calls _ _ _ (Later.val _) _; with_reducible refine Calls.mono (Later.call _ (F1.out _)) ?_) | (with_reducible refine Calls.mono (Gives.calls (F1.out _)) ?_)); rintro e w1 ⟨rfl, z4, rfl⟩)
                  go_ret
                  exact ⟨rfl, later_of (by repeat (first | exact Below.refl _ _ | (with_reducible assumption) | apply below_later | apply below_alloc | apply below_drew | apply below_drewN))⟩
                · have F : Hid (inB n (g k) = true) := decide_eq_true ⟨by omega, by omega⟩
                  have d1 : decide (g k < 0) = false := decide_eq_false h1
                  have d2 : decide ((n : Int) ≤ g k) = false := decide_eq_false h2
                  generalize hy : g k = y at *
                  go_wp2_with fail
                  first | (with_reducible show Code.wp _ _ _ _ (Later.val _); refine wp_region_later_at _ (by kernel_rfl) (by kernel_rfl) ?_) | refine wp_region_later (by kernel_rfl) (by kernel_rfl) ?_
                  repeat (go_big_quiet_step ((fail)))
                  refine wpQuiet_nil ?_
                  intro zr
                  go_wp2
                  go_roundw
                  case rel => exact ⟨k + 1, by omega, by go_num, all_step HALL.out (by rw [hy]; exact F.out), later_of (by repeat (first | exact Below.refl _ _ | (with_reducible assumption) | apply below_later | apply below_alloc | apply below_drew | apply below_drewN))⟩
                  case measure => simp [intOf]; omega
            · obtain rfl : k = m := by omega
              exact absurd HALL.out HG.out
        · have hin : ∀ i, i < m → 0 ≤ g i ∧ g i < n := fun i hi => by
            have h := allB_iff.1 hg i hi
            unfold inB at h
            exact of_decide_eq_true h
          obtain ⟨a, ha⟩ : ∃ a : Nat → Nat, a = fun i => (g i).toNat := ⟨_, rfl⟩
          have ea : ∀ i, i < m → g i = (a i : Int) := fun i hi => by rw [ha]; have := hin i hi; show g i = ((g i).toNat : Int); omega
          have hq2 : IsInts w B m fun i => (a i : Int) := ⟨hq'.small, fun h0 => by
            obtain ⟨b, off, e, p⟩ := hq'.at_ h0
            exact ⟨b, off, e, p.lt, fun i hi => by rw [p.at_ i hi, ea i hi]⟩⟩
          have han : ∀ i, i < m → a i < n := fun i hi => by have h1 := hin i hi; have h2 := ea i hi; omega
          obtain ⟨⟨⟨a1, a2⟩, a3, a4⟩, a5, hf⟩ := buckets_facts hv
          obtain ⟨W', rfl⟩ : ∃ x : Nat, W = x := ⟨W.toNat, by omega⟩
          obtain ⟨H', rfl⟩ : ∃ x : Nat, H = x := ⟨H.toNat, by omega⟩
          have hn : n = W' * H' := by rw [← Int.natCast_mul] at a5; omega
          have hn1 : 1 ≤ n := by rw [hn]; exact Nat.mul_le_mul (show 1 ≤ W' by omega) (show 1 ≤ H' by omega)
          obtain ⟨b, off, rfl, p⟩ := hp'.at_ hn1
          have hcl : Hid (∀ c, aft W' H' ((List.range n).map f) a m = some c → c.length = n) := fun c h => by rw [aft_len h, List.length_map, List.length_range]
          have CA : Hid (∀ w', Below w.heap.size w w' → Calls Try.prog 47 #[.int .i64 W', .int .i64 H', .slice (some ⟨b, off, none⟩) n cap, .slice B m capB] w' fun e w'' =>
              (aft W' H' ((List.range n).map f) a m = none → e = .returned (.tuple #[.slice none 0 0, .int .i64 5]) ∧ ∃ x : Later w', w'' = x.val) ∧ ∀ c, aft W' H' ((List.range n).map f) a m = some c → PostLE w' c (.int .i64 0) e w'') := fun w' h => after_any W' H' n cap b off m capB B f a w' (by omega) (p.later ⟨w', h⟩) hv (hq2.later ⟨w', h⟩) han
          have CR : Hid (∀ w', Below w.heap.size w w' → Calls Try.prog 48 #[.int .i64 W', .int .i64 H', .slice (some ⟨b, off, none⟩) n cap, .slice B m capB] w' fun e w'' =>
              (aft W' H' ((List.range n).map f) a m = none → e = .returned (.tuple #[.slice none 0 0, .bool false]) ∧ ∃ x : Later w', w'' = x.val) ∧ ∀ c, aft W' H' ((List.range n).map f) a m = some c → PostLE w' c (.bool true) e w'') := fun w' h => rafter_any W' H' n cap b off m capB B f a w' (by omega) (by omega) (by omega) (by omega) hn (by omega) (p.later ⟨w', h⟩) hf (hq2.later ⟨w', h⟩) han
          have HQ2 := Lib.hid hq2
          have HAN := Lib.hid han
          clear hv hp' hq' hg hin ea ha HQ hq2 hf a5 hn p han
          generalize aft W' H' ((List.range n).map f) a m = r at *
          cases r with
          | none =>
            have CA2 : Hid (∀ w', Below w.heap.size w w' → Gives Try.prog 47 #[.int .i64 W', .int .i64 H', .slice (some ⟨b, off, none⟩) n cap, .slice B m capB] w' (.tuple #[.slice none 0 0, .int .i64 5])) := fun w' h => Calls.mono (CA.out w' h) fun e w'' h => h.1 rfl
            have CR2 : Hid (∀ w', Below w.heap.size w w' → Gives Try.prog 48 #[.int .i64 W', .int .i64 H', .slice (some ⟨b, off, none⟩) n cap, .slice B m capB] w' (.tuple #[.slice none 0 0, .bool false])) := fun w' h => Calls.mono (CR.out w' h) fun e w'' h => h.1 rfl
            clear CA CR hcl
            go_enter Try.func9, Try.ntmps9
            go_wp2_with (first
              | (go_at_call 41; (first | (with_reducible show Calls _ _ _ (Later.val _) _; with_reducible refine Calls.mono (Later.call _ (FW.out _)) ?_) | (with_reducible refine Calls.mono (Gives.calls (FW.out _)) ?_)); rintro e w1 ⟨rfl, z1, rfl⟩)
              | (go_at_call 47; (first | (with_reducible show Calls _ _ _ (Later.val _) _; with_reducible refine Calls.mono (Later.call _ (CA2.out _ (by repeat (first | exact Below.refl _ _ | (with_reducible assumption) | apply below_later | apply below_alloc | apply below_drew | apply below_drewN)))) ?_) | (with_reducible refine Calls.mono (Gives.calls (CA2.out _ (by repeat (first | exact Below.refl _ _ | (with_reducible assumption) | apply below_later | apply below_alloc | apply below_drew | apply below_drewN)))) ?_)); rintro e w1 ⟨rfl, z2, rfl⟩)
              | (go_at_call 44; (first | (with_reducible show Calls _ _ _ (Later.val _) _; with_reducible refine Calls.mono (Later.call _ (C2.out _ (HP.out.later ⟨_, by repeat (first | exact Below.refl _ _ | (with_reducible assumption) | apply below_later | apply below_alloc | apply below_drew | apply below_drewN)⟩))) ?_) | (with_reducible refine Calls.mono (Gives.calls (C2.out _ (HP.out.later ⟨_, by repeat (first | exact Below.refl _ _ | (with_reducible assumption) | apply below_later | apply below_alloc | apply below_drew | apply below_drewN)⟩))) ?_)); rintro e w1 ⟨rfl, z3, rfl⟩))
            have HQ9 : Hid (IsInts z3.val B m fun i => (a i : Int)) := HQ2.out.later ⟨_, by repeat (first | exact Below.refl _ _ | (with_reducible assumption) | apply below_later | apply below_alloc | apply below_drew | apply below_drewN)⟩
            have hbx : Below (w.alloc (.cells #[.int .i64 W', .int .i64 H', .slice (some ⟨b, off, none⟩) n cap] 54)).heap.size (w.alloc (.cells #[.int .i64 W', .int .i64 H', .slice (some ⟨b, off, none⟩) n cap] 54)) z3.val := by repeat (first | exact Below.refl _ _ | (with_reducible assumption) | apply below_later | apply below_alloc | apply below_drew | apply below_drewN)
            have m0 : z3.val.cell? ⟨w.heap.size, 0, none⟩ = some (.int .i64 W') := (Later.cell ⟨z3.val, hbx⟩ _ _ (by simp)).trans (cell_of_heap (World.alloc_heap_new _ _) 0 _ rfl)
            have m1 : z3.val.cell? ⟨w.heap.size, 1, none⟩ = some (.int .i64 H') := (Later.cell ⟨z3.val, hbx⟩ _ _ (by simp)).trans (cell_of_heap (World.alloc_heap_new _ _) 1 _ rfl)
            have m2 : z3.val.cell? ⟨w.heap.size, 2, none⟩ = some (.slice (some ⟨b, off, none⟩) n cap) := (Later.cell ⟨z3.val, hbx⟩ _ _ (by simp)).trans (cell_of_heap (World.alloc_heap_new _ _) 2 _ rfl)
            have lw : w.heap.size < z3.val.heap.size := World.block_lt_of_cell? _ _ m2
            have hb9 : Below w.heap.size w z3.val := by repeat (first | exact Below.refl _ _ | (with_reducible assumption) | apply below_later | apply below_alloc | apply below_drew | apply below_drewN)
            clear hbx
            generalize z3.val = V9 at *
            go_loopw [7] (fun u wr => ∃ k : Nat, k ≤ m ∧ u = .int .i64 k ∧ ∃ x : Later V9, wr = x.val) (fun u _ => m - (intOf u).toNat)
            case atStart => exact ⟨0, by omega, rfl, ⟨_, Below.refl _ _⟩, rfl⟩
            case round =>
              obtain ⟨k, hk, rfl, x, rfl⟩ := hrel
              by_cases hlt : k < m
              · obtain ⟨gb, gf, hB, pB⟩ := HQ9.out.at_ (by omega)
                subst hB
                have ck := pB.at_ k hlt
                have lB := pB.lt
                have hak := HAN.out k hlt
                clear pB
                have d1 : decide ((a k : Int) < 0) = false := decide_eq_false (by omega)
                have d2 : decide ((n : Int) ≤ (a k : Int)) = false := decide_eq_false (by omega)
                generalize a k = y at *
                go_wp2_with fail
                first | (with_reducible show Code.wp _ _ _ _ (Later.val _); refine wp_region_later_at _ (by kernel_rfl) (by kernel_rfl) ?_) | refine wp_region_later (by kernel_rfl) (by kernel_rfl) ?_
                repeat (go_big_quiet_step ((fail)))
                refine wpQuiet_nil ?_
                intro zr
                go_wp2
                go_roundw
                case rel => exact ⟨k + 1, by omega, by go_num, later_of (by repeat (first | exact Below.refl _ _ | (with_reducible assumption) | apply below_later | apply below_alloc | apply below_drew | apply below_drewN))⟩
                case measure => simp [intOf]; omega
              · obtain rfl : k = m := by omega
                have c0 := (x.cell _ _ lw).trans m0
                have c1 := (x.cell _ _ lw).trans m1
                have c2 := (x.cell _ _ lw).trans m2
                go_wp2_with (first
                  | (go_at_call 48; (first | (with_reducible show Calls _ _ _ (Later.val _) _; with_reducible refine Calls.mono (Later.call _ (CR2.out _ (by repeat (first | exact Below.refl _ _ | (with_reducible assumption) | apply below_later | apply below_alloc | apply below_drew | apply below_drewN)))) ?_) | (with_reducible refine Calls.mono (Gives.calls (CR2.out _ (by repeat (first | exact Below.refl _ _ | (with_reducible assumption) | apply below_later | apply below_alloc | apply below_drew | apply below_drewN)))) ?_)); rintro e w1 ⟨rfl, z5, rfl⟩)
                  | (go_at_call 16; (first | (with_reducible show Calls _ _ _ (Later.val _) _; with_reducible refine Calls.mono (Later.call _ (F1.out _)) ?_) | (with_reducible refine Calls.mono (Gives.calls (F1.out _)) ?_)); rintro e w1 ⟨rfl, z4, rfl⟩))
                go_ret
                exact ⟨rfl, later_of (by repeat (first | exact Below.refl _ _ | (with_reducible assumption) | apply below_later | apply below_alloc | apply below_drew | apply below_drewN))⟩
          | some c =>
            have hc := hcl.out c rfl
            have CA2 : Hid (∀ w', Below w.heap.size w w' → Calls Try.prog 47 #[.int .i64 W', .int .i64 H', .slice (some ⟨b, off, none⟩) n cap, .slice B m capB] w' fun e w'' => ∃ v, e = .returned (.tuple #[v, .int .i64 0]) ∧ ∃ x : Later w', w'' = x.val ∧ OwnI w'' w'.heap.size v c) := fun w' h => Calls.mono (CA.out w' h) fun e w'' h => h.2 c rfl
            have CR2 : Hid (∀ w', Below w.heap.size w w' → Calls Try.prog 48 #[.int .i64 W', .int .i64 H', .slice (some ⟨b, off, none⟩) n cap, .slice B m capB] w' fun e w'' => ∃ v, e = .returned (.tuple #[v, .bool true]) ∧ ∃ x : Later w', w'' = x.val ∧ OwnI w'' w'.heap.size v c) := fun w' h => Calls.mono (CR.out w' h) fun e w'' h => h.2 c rfl
            have SI : Hid (∀ (w' : World) (A B : Option Addr) (c1 c2 : Nat), IsInts w' A n (fun i => c.getD i 0) → IsInts w' B n (fun i => c.getD i 0) → Gives Try.prog 22 #[.slice A n c1, .slice B n c2] w' (.bool true)) := fun w' A B c1 c2 h1 h2 => same_ints A B n c1 c2 _ _ w' (by omega) h1 h2 fun _ _ => rfl
            have HC := Lib.hid hc
            clear CA CR hcl hc
            go_enter Try.func9, Try.ntmps9
            go_wp2_with (first
              | (go_at_call 41; (first | (with_reducible show Calls _ _ _ (Later.val _) _; with_reducible refine Calls.mono (Later.call _ (FW.out _)) ?_) | (with_reducible refine Calls.mono (Gives.calls (FW.out _)) ?_)); rintro e w1 ⟨rfl, z1, rfl⟩)
              | (go_at_call 47; with_reducible refine Calls.mono (CA2.out _ (by repeat (first | exact Below.refl _ _ | (with_reducible assumption) | apply below_later | apply below_alloc | apply below_drew | apply below_drewN))) ?_; rintro e w2 ⟨v1, rfl, z2, rfl, ho⟩; obtain ⟨A1, cap1, rfl⟩ := ho.shape_n (n := n) HC.out; have hi1 := (ho.ints (by rw [HC.out]; omega)).2;  have HI1 := Lib.hid hi1; clear ho hi1)
              | (go_at_call 44; with_reducible refine Calls.mono (Gives.calls (C2.out _ (HP.out.later ⟨_, by repeat (first | exact Below.refl _ _ | (with_reducible assumption) | apply below_later | apply below_alloc | apply below_drew | apply below_drewN)⟩))) ?_; rintro e w1 ⟨rfl, z3, rfl⟩))
            have HI9 : Hid (IsInts z3.val A1 n (fun i => c.getD i 0)) := HI1.out.later ⟨_, by repeat (first | exact Below.refl _ _ | (with_reducible assumption) | apply below_later | apply below_alloc | apply below_drew | apply below_drewN)⟩
            clear HI1
            have HQ9 : Hid (IsInts z3.val B m fun i => (a i : Int)) := HQ2.out.later ⟨_, by repeat (first | exact Below.refl _ _ | (with_reducible assumption) | apply below_later | apply below_alloc | apply below_drew | apply below_drewN)⟩
            have hbx : Below (w.alloc (.cells #[.int .i64 W', .int .i64 H', .slice (some ⟨b, off, none⟩) n cap] 54)).heap.size (w.alloc (.cells #[.int .i64 W', .int .i64 H', .slice (some ⟨b, off, none⟩) n cap] 54)) z3.val := by repeat (first | exact Below.refl _ _ | (with_reducible assumption) | apply below_later | apply below_alloc | apply below_drew | apply below_drewN)
            have m0 : z3.val.cell? ⟨w.heap.size, 0, none⟩ = some (.int .i64 W') := (Later.cell ⟨z3.val, hbx⟩ _ _ (by simp)).trans (cell_of_heap (World.alloc_heap_new _ _) 0 _ rfl)
            have m1 : z3.val.cell? ⟨w.heap.size, 1, none⟩ = some (.int .i64 H') := (Later.cell ⟨z3.val, hbx⟩ _ _ (by simp)).trans (cell_of_heap (World.alloc_heap_new _ _) 1 _ rfl)
            have m2 : z3.val.cell? ⟨w.heap.size, 2, none⟩ = some (.slice (some ⟨b, off, none⟩) n cap) := (Later.cell ⟨z3.val, hbx⟩ _ _ (by simp)).trans (cell_of_heap (World.alloc_heap_new _ _) 2 _ rfl)
            have lw : w.heap.size < z3.val.heap.size := World.block_lt_of_cell? _ _ m2
            have hb9 : Below w.heap.size w z3.val := by repeat (first | exact Below.refl _ _ | (with_reducible assumption) | apply below_later | apply below_alloc | apply below_drew | apply below_drewN)
            clear hbx
            generalize z3.val = V9 at *
            go_loopw [7] (fun u wr => ∃ k : Nat, k ≤ m ∧ u = .int .i64 k ∧ ∃ x : Later V9, wr = x.val) (fun u _ => m - (intOf u).toNat)
            case atStart => exact ⟨0, by omega, rfl, ⟨_, Below.refl _ _⟩, rfl⟩
            case round =>
              obtain ⟨k, hk, rfl, x, rfl⟩ := hrel
              by_cases hlt : k < m
              · obtain ⟨gb, gf, hB, pB⟩ := HQ9.out.at_ (by omega)
                subst hB
                have ck := pB.at_ k hlt
                have lB := pB.lt
                have hak := HAN.out k hlt
                clear pB
                have d1 : decide ((a k : Int) < 0) = false := decide_eq_false (by omega)
                have d2 : decide ((n : Int) ≤ (a k : Int)) = false := decide_eq_false (by omega)
                generalize a k = y at *
                go_wp2_with fail
                first | (with_reducible show Code.wp _ _ _ _ (Later.val _); refine wp_region_later_at _ (by kernel_rfl) (by kernel_rfl) ?_) | refine wp_region_later (by kernel_rfl) (by kernel_rfl) ?_
                repeat (go_big_quiet_step ((fail)))
                refine wpQuiet_nil ?_
                intro zr
                go_wp2
                go_roundw
                case rel => exact ⟨k + 1, by omega, by go_num, later_of (by repeat (first | exact Below.refl _ _ | (with_reducible assumption) | apply below_later | apply below_alloc | apply below_drew | apply below_drewN))⟩
                case measure => simp [intOf]; omega
              · obtain rfl : k = m := by omega
                have c0 := (x.cell _ _ lw).trans m0
                have c1 := (x.cell _ _ lw).trans m1
                have c2 := (x.cell _ _ lw).trans m2
                go_wp2_with (first
                  | (go_at_call 48; with_reducible refine Calls.mono (CR2.out _ (by repeat (first | exact Below.refl _ _ | (with_reducible assumption) | apply below_later | apply below_alloc | apply below_drew | apply below_drewN))) ?_; rintro e w2 ⟨v2, rfl, z5, rfl, ho⟩; obtain ⟨A2, cap2, rfl⟩ := ho.shape_n (n := n) HC.out; have hi2 := (ho.ints (by rw [HC.out]; omega)).2; have HI2 := Lib.hid hi2; clear ho hi2)
                  | (go_at_call 22; with_reducible refine Calls.mono (Gives.calls (SI.out _ _ _ _ _ (HI9.out.later ⟨_, by repeat (first | exact Below.refl _ _ | (with_reducible assumption) | apply below_later | apply below_alloc | apply below_drew | apply below_drewN)⟩) HI2.out)) ?_; rintro e w3 ⟨rfl, z6, rfl⟩)
                  | (go_at_call 16; (first | (with_reducible show Calls _ _ _ (Later.val _) _; with_reducible refine Calls.mono (Later.call _ (F1.out _)) ?_) | (with_reducible refine Calls.mono (Gives.calls (F1.out _)) ?_)); rintro e w1 ⟨rfl, z4, rfl⟩))
                go_ret
                exact ⟨rfl, later_of (by repeat (first | exact Below.refl _ _ | (with_reducible assumption) | apply below_later | apply below_alloc | apply below_drew | apply below_drewN))⟩
    · have q1 : decide ((300 : Int) < (m : Int)) = true := by simp; omega
      clear hp' hq'
      go_enter Try.func9, Try.ntmps9
      go_wp2_with (first
        | (go_at_call 41; (first | (with_reducible show Calls _ _ _ (Later.val _) _; with_reducible refine Calls.mono (Later.call _ (FW.out _)) ?_) | (with_reducible refine Calls.mono (Gives.calls (FW.out _)) ?_)); rintro e w1 ⟨rfl, z1, rfl⟩)
        | (go_at_call 16; (first | (with_reducible show Calls _ _ _ (Later.val _) _; with_reducible refine Calls.mono (Later.call _ (F1.out _)) ?_) | (with_reducible refine Calls.mono (Gives.calls (F1.out _)) ?_)); rintro e w1 ⟨rfl, z4, rfl⟩))
      go_ret
      exact ⟨rfl, later_of (by repeat (first | exact Below.refl _ _ | (with_reducible assumption) | apply below_later | apply below_alloc | apply below_drew | apply below_drewN))⟩
  · have FW : Hid (∀ w, Gives Try.prog 41 #[.agg #[.int .i64 W, .int .i64 H, .slice A n cap]] w (.bool false)) := fun w => by
      have h := few_any W H A n cap w
      rwa [decide_eq_false h36] at h
    clear hp' hq'
    go_enter Try.func9, Try.ntmps9
    go_wp2_with (first
      | (go_at_call 41; (first | (with_reducible show Calls _ _ _ (Later.val _) _; with_reducible refine Calls.mono (Later.call _ (FW.out _)) ?_) | (with_reducible refine Calls.mono (Gives.calls (FW.out _)) ?_)); rintro e w1 ⟨rfl, z1, rfl⟩)
      | (go_at_call 16; (first | (with_reducible show Calls _ _ _ (Later.val _) _; with_reducible refine Calls.mono (Later.call _ (F1.out _)) ?_) | (with_reducible refine Calls.mono (Gives.calls (F1.out _)) ?_)); rintro e w1 ⟨rfl, z4, rfl⟩))
    go_ret
    exact ⟨rfl, later_of (by repeat (first | exact Below.refl _ _ | (with_reducible assumption) | apply below_later | apply below_alloc | apply below_drew | apply below_drewN))⟩
end Go.Proofs.Ytihgadppndcjaaa
