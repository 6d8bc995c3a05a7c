/- The law's own sum and pairs. -/
import Derived.Test.YtajfepogecakbaaDoorSumsMath
import Derived.Test.YtajfepogecakbaaDoorRefNbrs
namespace Go.Proofs.YtajfepogecakbaaDoor
open Go.RowKit

theorem sumTo_bd {h : Nat → Int} {c : Int} (hc : 0 ≤ c) : ∀ {n : Nat}, (∀ i, i < n → -c ≤ h i ∧ h i ≤ c) → -(c * n) ≤ sumTo h n ∧ sumTo h n ≤ c * n
  | 0, _ => by simp [sumTo]
  | n + 1, e => by
    obtain ⟨a, b⟩ := sumTo_bd hc (n := n) fun i hi => e i (by omega)
    obtain ⟨x, y⟩ := e n (by omega)
    have : c * ((n + 1 : Nat) : Int) = c * n + c := by rw [Int.natCast_add, Int.mul_add]; simp
    rw [this]
    show _ ≤ sumTo h n + h n ∧ sumTo h n + h n ≤ _
    omega

set_option maxRecDepth 100000 in
set_option maxHeartbeats 1600000 in
theorem sum_any (A : Option Addr) (n cap : Nat) (g : Nat → Int) (w : World) (hn : n ≤ 1000) (hp : IsInts w A n g) (gb : ∀ i, i < n → -1000000 ≤ g i ∧ g i ≤ 1000000) :
    Gives Tryd.prog 51 #[.slice A n cap] w (.int .i64 (sumTo g n)) := by
  have HP := Lib.hid hp
  have GB := Lib.hid gb
  have SB : Hid (∀ k, k ≤ n → -(1000000 * (k : Int)) ≤ sumTo g k ∧ sumTo g k ≤ 1000000 * k) := fun k hk => sumTo_bd (by omega) fun i hi => gb i (by omega)
  clear hp gb
  go_enter Tryd.func51, Tryd.ntmps51
  go_wp2
  go_loopw [3, 4] (fun u v wr => ∃ k : Nat, k ≤ n ∧ u = .int .i64 (sumTo g k) ∧ v = .int .i64 k ∧ ∃ x : Later w, wr = x.val) (fun _ v _ => n - (intOf v).toNat)
  case atStart => exact ⟨0, by omega, rfl, rfl, ⟨w, Below.refl _ _⟩, rfl⟩
  case round =>
    obtain ⟨k, hk, rfl, rfl, x, rfl⟩ := hrel
    obtain ⟨s0, s1⟩ := SB.out k hk
    by_cases hlt : k < n
    · obtain ⟨b, off, hA, p⟩ := HP.out.at_ (by omega)
      subst hA
      have c := p.at_ k hlt
      have lb := p.lt
      obtain ⟨g0, g1⟩ := GB.out k hlt
      have HS : Hid (sumTo g (k + 1) = sumTo g k + g k) := rfl
      generalize g k = q at *
      generalize sumTo g k = s at *
      clear p
      go_wp2
      go_roundw
      case rel => exact ⟨k + 1, by omega, by rw [HS.out], by go_num, later_of (by repeat (first | exact Below.refl _ _ | (with_reducible assumption) | apply below_later | apply below_alloc | apply below_drew | apply below_drewN))⟩
      case measure => simp [intOf]; omega
    · obtain rfl : k = n := by omega
      go_wp2
      go_ret
      exact ⟨rfl, later_of (by repeat (first | exact Below.refl _ _ | (with_reducible assumption) | apply below_later | apply below_alloc | apply below_drew | apply below_drewN))⟩

theorem left_or (W : Nat) (f : Nat → Int) (k : Nat) (hf : f k = 1) : (k % W = 0 ∧ leftP W f k = 0) ∨ ∃ j, j + 1 = k ∧ 0 < k % W ∧ ((f j = 1 ∧ leftP W f k = 1) ∨ (f j ≠ 1 ∧ leftP W f k = 0)) := by
  unfold leftP
  by_cases h : 0 < k % W
  · have h1 : 0 < k := Nat.lt_of_lt_of_le h (Nat.mod_le _ _)
    refine .inr ⟨k - 1, by omega, h, ?_⟩
    by_cases h2 : f (k - 1) = 1
    · exact .inl ⟨h2, if_pos ⟨hf, h, h2⟩⟩
    · exact .inr ⟨h2, if_neg fun e => h2 e.2.2⟩
  · exact .inl ⟨by omega, if_neg fun e => h e.2.1⟩
theorem up_or {W : Nat} (hW : 1 ≤ W) (f : Nat → Int) (k : Nat) (hf : f k = 1) : (k < W ∧ upP W f k = 0) ∨ ∃ j, j + W = k ∧ ((f j = 1 ∧ upP W f k = 1) ∨ (f j ≠ 1 ∧ upP W f k = 0)) := by
  unfold upP
  by_cases h : k < W
  · exact .inl ⟨h, if_neg fun e => by have := e.2.1; rw [Nat.div_eq_of_lt h] at this; omega⟩
  · have h1 : 0 < k / W := Nat.div_pos (by omega) (by omega)
    refine .inr ⟨k - W, by omega, ?_⟩
    by_cases h2 : f (k - W) = 1
    · exact .inl ⟨h2, if_pos ⟨hf, h1, h2⟩⟩
    · exact .inr ⟨h2, if_neg fun e => h2 e.2.2⟩
theorem pair_skip {W : Nat} {f : Nat → Int} {k : Nat} (hf : f k ≠ 1) : pairC W f (k + 1) = pairC W f k := by
  show pairC W f k + (leftP W f k + upP W f k) = pairC W f k
  unfold leftP upP
  rw [if_neg fun e => hf e.1, if_neg fun e => hf e.1]
  omega

set_option maxRecDepth 100000 in
set_option maxHeartbeats 3200000 in
theorem pairs_any (W n cap : Nat) (H : Int) (A : Option Addr) (f : Nat → Int) (w : World) (hW : 1 ≤ W) (hW2 : W ≤ 30) (hn : n ≤ 1000) (hp : IsInts w A n f) :
    Gives Tryd.prog 52 #[.agg #[.int .i64 W, .int .i64 H, .slice A n cap]] w (.int .i64 (pairC W f n)) := by
  have HP := Lib.hid hp
  have SB : Hid (∀ k : Nat, -(2 * (k : Int)) ≤ pairC W f k ∧ pairC W f k ≤ 2 * k) := fun k => sumTo_bd (by omega) fun i hi => by
    unfold leftP upP
    split <;> split <;> omega
  clear hp
  go_enter Tryd.func52, Tryd.ntmps52
  go_wp2
  have hg : (w.alloc (.cells #[.int .i64 W, .int .i64 H, .slice A n cap] 24)).heap[w.heap.size]? = some (.cells #[.int .i64 W, .int .i64 H, .slice A n cap] 24) := World.alloc_heap_new _ _
  obtain ⟨V, hV⟩ : ∃ V, w.alloc (.cells #[.int .i64 W, .int .i64 H, .slice A n cap] 24) = V := ⟨_, rfl⟩
  have hb : Below w.heap.size w V := by rw [← hV]; repeat (first | exact Below.refl _ _ | (with_reducible assumption) | apply below_later | apply below_alloc | apply below_drew | apply below_drewN)
  rw [hV] at hg ⊢
  have c0 := cell_of_heap hg 0 _ rfl
  have c2 := cell_of_heap hg 2 _ rfl
  have lV := lt_of_get hg
  have HB := Lib.hid hb
  clear hV hb hg
  go_loopw [3, 4] (fun u v wr => ∃ k : Nat, k ≤ n ∧ u = .int .i64 (pairC W f k) ∧ v = .int .i64 k ∧ ∃ x : Later V, wr = x.val) (fun _ v _ => n - (intOf v).toNat)
  case atStart => exact ⟨0, by omega, rfl, rfl, ⟨V, Below.refl _ _⟩, rfl⟩
  case round =>
    obtain ⟨k, hk, rfl, rfl, x, rfl⟩ := hrel
    obtain ⟨s0, s1⟩ := SB.out k
    by_cases hlt : k < n
    · obtain ⟨b, off, hA, p⟩ := (HP.out.later ⟨V, HB.out⟩).at_ (by omega)
      subst hA
      have PP := Lib.hid p
      have c := p.at_ k hlt
      have lb := p.lt
      clear p
      by_cases hf : f k = 1
      · have HS : Hid (pairC W f (k + 1) = pairC W f k + (leftP W f k + upP W f k)) := rfl
        have LO := left_or W f k hf
        have UO := up_or hW f k hf
        rw [hf] at c
        clear hf
        generalize leftP W f k = lp at *
        generalize upP W f k = up at *
        have hx : (k : Int) % (W : Int) = ((k % W : Nat) : Int) := (Int.natCast_emod _ _).symm
        obtain ⟨cc, hcc⟩ : ∃ cc, k % W = cc := ⟨_, rfl⟩
        rw [hcc] at hx LO
        clear hcc
        obtain ⟨sm, hsm⟩ : ∃ sm, pairC W f k = sm := ⟨_, rfl⟩
        rw [hsm] at HS s0 s1 ⊢
        clear hsm
        rcases LO with ⟨hl, hv⟩ | ⟨l, hl, hcp, ⟨fl, hv⟩ | ⟨fl, hv⟩⟩
        · subst hv
          subst hl
          rcases UO with ⟨hu, hv⟩ | ⟨m, hm, ⟨fm, hv⟩ | ⟨fm, hv⟩⟩
          · subst hv
            have hge : ¬ (W : Int) ≤ (k : Int) := by omega
            clear HP
            go_wp2
            go_roundw
            case rel => exact ⟨k + 1, by omega, by rw [HS.out]; first | rfl | (congr 1; omega), by go_num, later_of (by repeat (first | exact Below.refl _ _ | (with_reducible assumption) | apply below_later | apply below_alloc | apply below_drew | apply below_drewN))⟩
            case measure => simp [intOf]; omega
          · subst hv
            have hge : (W : Int) ≤ (k : Int) := by omega
            have hgd : decide ((W : Int) ≤ (k : Int)) = true := by simpa using hge
            have cm := PP.out.at_ m (by omega)
            have wm : IntKind.i64.wrap ((k : Int) - (W : Int)) = (m : Int) := by rw [IntWalk.i64_in _ (by omega)]; omega
            have hml : m < n := by omega
            rw [fm] at cm
            clear HP
            go_wp2
            go_roundw
            case rel => exact ⟨k + 1, by omega, by rw [HS.out]; first | rfl | (congr 1; omega), by go_num, later_of (by repeat (first | exact Below.refl _ _ | (with_reducible assumption) | apply below_later | apply below_alloc | apply below_drew | apply below_drewN))⟩
            case measure => simp [intOf]; omega
          · subst hv
            have hge : (W : Int) ≤ (k : Int) := by omega
            have hgd : decide ((W : Int) ≤ (k : Int)) = true := by simpa using hge
            have cm := PP.out.at_ m (by omega)
            have wm : IntKind.i64.wrap ((k : Int) - (W : Int)) = (m : Int) := by rw [IntWalk.i64_in _ (by omega)]; omega
            have hml : m < n := by omega
            generalize f m = fmv at *
            have q1 : (fmv == 1) = false := by simpa using fm
            clear HP
            go_wp2
            go_roundw
            case rel => exact ⟨k + 1, by omega, by rw [HS.out]; first | rfl | (congr 1; omega), by go_num, later_of (by repeat (first | exact Below.refl _ _ | (with_reducible assumption) | apply below_later | apply below_alloc | apply below_drew | apply below_drewN))⟩
            case measure => simp [intOf]; omega
        · subst hv
          have hcd : decide ((0 : Int) < (cc : Int)) = true := by simp; omega
          have hcp' : (0 : Int) < (cc : Int) := by omega
          have cl := PP.out.at_ l (by omega)
          have wl : IntKind.i64.wrap ((k : Int) - 1) = (l : Int) := by rw [IntWalk.i64_in _ (by omega)]; omega
          have hll : l < n := by omega
          rw [fl] at cl
          rcases UO with ⟨hu, hv⟩ | ⟨m, hm, ⟨fm, hv⟩ | ⟨fm, hv⟩⟩
          · subst hv
            have hge : ¬ (W : Int) ≤ (k : Int) := by omega
            clear HP
            go_wp2
            go_roundw
            case rel => exact ⟨k + 1, by omega, by rw [HS.out]; first | rfl | (congr 1; omega), by go_num, later_of (by repeat (first | exact Below.refl _ _ | (with_reducible assumption) | apply below_later | apply below_alloc | apply below_drew | apply below_drewN))⟩
            case measure => simp [intOf]; omega
          · subst hv
            have hge : (W : Int) ≤ (k : Int) := by omega
            have hgd : decide ((W : Int) ≤ (k : Int)) = true := by simpa using hge
            have cm := PP.out.at_ m (by omega)
            have wm : IntKind.i64.wrap ((k : Int) - (W : Int)) = (m : Int) := by rw [IntWalk.i64_in _ (by omega)]; omega
            have hml : m < n := by omega
            rw [fm] at cm
            clear HP
            go_wp2
            go_roundw
            case rel => exact ⟨k + 1, by omega, by rw [HS.out]; first | rfl | (congr 1; omega), by go_num, later_of (by repeat (first | exact Below.refl _ _ | (with_reducible assumption) | apply below_later | apply below_alloc | apply below_drew | apply below_drewN))⟩
            case measure => simp [intOf]; omega
          · subst hv
            have hge : (W : Int) ≤ (k : Int) := by omega
            have hgd : decide ((W : Int) ≤ (k : Int)) = true := by simpa using hge
            have cm := PP.out.at_ m (by omega)
            have wm : IntKind.i64.wrap ((k : Int) - (W : Int)) = (m : Int) := by rw [IntWalk.i64_in _ (by omega)]; omega
            have hml : m < n := by omega
            generalize f m = fmv at *
            have q1 : (fmv == 1) = false := by simpa using fm
            clear HP
            go_wp2
            go_roundw
            case rel => exact ⟨k + 1, by omega, by rw [HS.out]; first | rfl | (congr 1; omega), by go_num, later_of (by repeat (first | exact Below.refl _ _ | (with_reducible assumption) | apply below_later | apply below_alloc | apply below_drew | apply below_drewN))⟩
            case measure => simp [intOf]; omega
        · subst hv
          have hcd : decide ((0 : Int) < (cc : Int)) = true := by simp; omega
          have hcp' : (0 : Int) < (cc : Int) := by omega
          have cl := PP.out.at_ l (by omega)
          have wl : IntKind.i64.wrap ((k : Int) - 1) = (l : Int) := by rw [IntWalk.i64_in _ (by omega)]; omega
          have hll : l < n := by omega
          generalize hflv : f l = flv at *
          have q0 : (flv == 1) = false := by simpa using fl
          rcases UO with ⟨hu, hv⟩ | ⟨m, hm, ⟨fm, hv⟩ | ⟨fm, hv⟩⟩
          · subst hv
            have hge : ¬ (W : Int) ≤ (k : Int) := by omega
            clear HP
            go_wp2
            go_roundw
            case rel => exact ⟨k + 1, by omega, by rw [HS.out]; first | rfl | (congr 1; omega), by go_num, later_of (by repeat (first | exact Below.refl _ _ | (with_reducible assumption) | apply below_later | apply below_alloc | apply below_drew | apply below_drewN))⟩
            case measure => simp [intOf]; omega
          · subst hv
            have hge : (W : Int) ≤ (k : Int) := by omega
            have hgd : decide ((W : Int) ≤ (k : Int)) = true := by simpa using hge
            have cm := PP.out.at_ m (by omega)
            have wm : IntKind.i64.wrap ((k : Int) - (W : Int)) = (m : Int) := by rw [IntWalk.i64_in _ (by omega)]; omega
            have hml : m < n := by omega
            rw [fm] at cm
            clear HP
            go_wp2
            go_roundw
            case rel => exact ⟨k + 1, by omega, by rw [HS.out]; first | rfl | (congr 1; omega), by go_num, later_of (by repeat (first | exact Below.refl _ _ | (with_reducible assumption) | apply below_later | apply below_alloc | apply below_drew | apply below_drewN))⟩
            case measure => simp [intOf]; omega
          · subst hv
            have hge : (W : Int) ≤ (k : Int) := by omega
            have hgd : decide ((W : Int) ≤ (k : Int)) = true := by simpa using hge
            have cm := PP.out.at_ m (by omega)
            have wm : IntKind.i64.wrap ((k : Int) - (W : Int)) = (m : Int) := by rw [IntWalk.i64_in _ (by omega)]; omega
            have hml : m < n := by omega
            generalize f m = fmv at *
            have q1 : (fmv == 1) = false := by simpa using fm
            clear HP
            go_wp2
            go_roundw
            case rel => exact ⟨k + 1, by omega, by rw [HS.out]; first | rfl | (congr 1; omega), by go_num, later_of (by repeat (first | exact Below.refl _ _ | (with_reducible assumption) | apply below_later | apply below_alloc | apply below_drew | apply below_drewN))⟩
            case measure => simp [intOf]; omega
      · have HS := Lib.hid (pair_skip (W := W) hf)
        generalize f k = v at *
        have q1 : (v == 1) = false := by simpa using hf
        have q2 : (v != 1) = true := by simpa using hf
        clear hf
        go_wp2
        go_roundw
        case rel => exact ⟨k + 1, by omega, by rw [HS.out], by go_num, later_of (by repeat (first | exact Below.refl _ _ | (with_reducible assumption) | apply below_later | apply below_alloc | apply below_drew | apply below_drewN))⟩
        case measure => simp [intOf]; omega
    · obtain rfl : k = n := by omega
      go_wp2
      go_ret
      exact ⟨rfl, later_of (below_more HB.out x.ok)⟩
end Go.Proofs.YtajfepogecakbaaDoor
