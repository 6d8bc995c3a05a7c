/- isBird of the program and bird of the document: walked. -/
import Derived.Test.YtlljjaafejjeeaaKRApart
namespace Go.Proofs.Ytlljjaafejjeeaa
open Go.RowKit

def okB (L : Nat → Nat → Bool) (n : Nat) (c : Nat → Int) (i : Nat) : Bool := inS n (c i) && (decide (i = 0) || L (c (i - 1)).toNat (c i).toNat)
def birdB (L : Nat → Nat → Bool) (n : Nat) (c : Nat → Int) (m : Nat) : Bool := allB m (okB L n c) && decide (0 < m)
theorem okB_in {L : Nat → Nat → Bool} {n : Nat} {c : Nat → Int} {i : Nat} (h : okB L n c i = true) : ∃ j : Nat, c i = j ∧ j < n := by
  unfold okB at h
  simp only [Bool.and_eq_true] at h
  exact inS_true h.1
set_option maxRecDepth 100000 in
set_option maxHeartbeats 6400000 in
theorem isBird_any (n cap m c1 : Nat) (s : Int) (A O : Option Addr) (X Y T : Nat → Int) (c : Nat → Int) (w : World) (hm : m ≤ 1000) (W : Watch n s X Y T) (hp : IsChs w A n X Y T) (hc : IsInts w O m c) :
    Gives Try.prog 30 #[.agg #[.slice A n cap, .int .i64 s], .slice O m c1] w (.bool (birdB (leadsR s X Y T) n c m)) := by
  have hn30 := W.n30
  have LD := Lib.hid fun (i k : Nat) (V : World) (hi : i < n) (hk : k < n) (h : IsChs V A n X Y T) => leads_any s n cap i k A X Y T V hi hk W h
  have OK : Hid (∀ i, okB (leadsR s X Y T) n c i = (inS n (c i) && (decide (i = 0) || leadsR s X Y T (c (i - 1)).toNat (c i).toNat))) := fun _ => rfl
  have AB : Hid (birdB (leadsR s X Y T) n c m = (allB m (okB (leadsR s X Y T) n c) && decide (0 < m))) := rfl
  generalize leadsR s X Y T = L at *
  generalize birdB L n c m = res at *
  have hb : Below w.heap.size w (w.alloc (.cells #[.slice A n cap, .int .i64 s] 53)) := (Below.refl _ _).alloc (Nat.le_refl _) _
  obtain ⟨n0, n1, l0⟩ := box2 w (.slice A n cap) (.int .i64 s) 53
  have HC := Lib.hid (hc.below hb)
  have HP := Lib.hid (hp.below hb)
  have HB := Lib.hid hb
  clear hp hc W hb
  go_enter Try.func30, Try.ntmps30
  go_wp2
  obtain ⟨b9, hb9⟩ : ∃ b9, w.heap.size = b9 := ⟨_, rfl⟩
  rw [hb9] at n0 n1 l0 ⊢
  clear hb9
  generalize w.alloc (.cells #[.slice A n cap, .int .i64 s] 53) = Z at *
  go_loopw [9] (fun u wr => ∃ k : Nat, u = .int .i64 (k : Nat) ∧ k ≤ m ∧ (∀ j, j < k → okB L n c j = true) ∧ ∃ x : Later Z, wr = x.val) (fun u _ => m - (intOf u).toNat)
  case atStart => exact ⟨0, rfl, by omega, by omega, later_of (by repeat (first | exact Below.refl _ _ | (with_reducible assumption) | apply below_later | apply below_alloc | apply below_drew | apply below_drewN))⟩
  case round =>
    obtain ⟨k, rfl, hk, hall, x, rfl⟩ := hrel
    have HALL := Lib.hid hall
    clear hall
    by_cases hlt : k < m
    · obtain ⟨b, off, hB, p⟩ := (HC.out.later x).at_ (by omega)
      have HBX : Hid (Below w.heap.size w x.val) := below_more HB.out x.ok
      have HXV : Hid (∀ V, Below x.val.heap.size x.val V → ∃ y : Later Z, V = y.val) := fun V h => ⟨⟨V, below_more x.ok h⟩, rfl⟩
      have HPX := Lib.hid (HP.out.later x)
      have ck := p.at_ k hlt
      have lb := p.lt
      have CA : Hid (∀ j, j < m → x.val.cell? ⟨b, off + j, none⟩ = some (.int .i64 (c j))) := p.at_
      have H1 := Lib.hid fun V => has_any n cap s (c k) A V
      have FB : Hid (okB L n c k = false → res = false) := fun h => by rw [AB.out, allB_false hlt h]; rfl
      have FT : Hid (okB L n c k = true → ∀ j, j < k + 1 → okB L n c j = true) := fun h => all_step HALL.out h
      have OK1 := Lib.hid (OK.out k)
      have HBO := Lib.hid hB
      have e0 := (x.cell _ 0 l0).trans n0
      have e1 := (x.cell _ 1 l0).trans n1
      have e2 := x.lt _ l0
      rw [hB]
      clear p hB
      generalize x.val = Q at *
      cases hin : inS n (c k)
      case false =>
        rw [hin] at H1 OK1
        have HE : Hid (res = false) := FB.out (by rw [OK1.out]; rfl)
        clear hin
        go_wp2_with fail
        refine wp_region_later (by kernel_rfl) (by kernel_rfl) ?_
        repeat (go_big_quiet_step ((go_at_call 46; (with_reducible refine Later.call _ (H1.out _)))))
        refine wpQuiet_nil ?_
        intro y
        go_wp2
        go_ret
        exact ⟨ret_bool HE.out.symm, later_of (below_more HBX.out y.ok)⟩
      obtain ⟨i', hi, hi'⟩ := inS_true hin
      rw [hin] at H1 OK1
      rw [hi] at H1 OK1 ck
      have e9 : ((i' : Nat) : Int).toNat = i' := by simp
      rw [e9] at OK1
      clear hin
      by_cases hk0 : k = 0
      · subst hk0
        have ck0 : Q.cell? ⟨b, off, none⟩ = some (.int .i64 (i' : Nat)) := ck
        have HE := Lib.hid (FT.out (by rw [OK1.out]; rfl))
        go_wp2_with fail
        refine wp_region_later (by kernel_rfl) (by kernel_rfl) ?_
        repeat (go_big_quiet_step ((go_at_call 46; (with_reducible refine Later.call _ (H1.out _)))))
        refine wpQuiet_nil ?_
        intro y
        go_wp2
        try rw [← HBO.out]
        go_roundw
        case rel => exact ⟨0 + 1, by go_num, by omega, HE.out, HXV.out _ y.ok⟩
        case measure => simp [intOf]; omega
      · have hg : decide ((0 : Int) < (k : Int)) = true := by simp; omega
        have hg2 : decide (0 < k) = true := by simp; omega
        have hw1 : IntKind.i64.wrap ((k : Int) - 1) = ((k - 1 : Nat) : Int) := by
          rw [show ((k : Int) - 1) = ((k - 1 : Nat) : Int) by omega]
          exact IntWalk.i64_in _ ⟨by omega, by omega⟩
        have cp := CA.out (k - 1) (by omega)
        have hk1 : decide (k = 0) = false := decide_eq_false hk0
        obtain ⟨q, hq, hqn⟩ := okB_in (HALL.out (k - 1) (by omega))
        rw [hk1, Bool.false_or, hq] at OK1
        rw [hq] at cp
        have e8 : ((q : Nat) : Int).toNat = q := by simp
        rw [e8] at OK1
        have LD1 := Lib.hid fun V h => LD.out q i' V hqn hi' h
        generalize L q i' = rr at *
        cases rr
        case false =>
          have HE : Hid (res = false) := FB.out (by rw [OK1.out]; rfl)
          go_wp2_with fail
          refine wp_region_later (by kernel_rfl) (by kernel_rfl) ?_
          repeat (go_big_quiet_step ((first | (go_at_call 46; (with_reducible refine Later.call _ (H1.out _))) | (go_at_call 43; (with_reducible refine Later.call _ (LD1.out _ (HPX.out.below (by repeat (first | exact Below.refl _ _ | (with_reducible assumption) | apply below_later | apply below_alloc | apply below_drew | apply below_drewN)))))))))
          refine wpQuiet_nil ?_
          intro y
          go_wp2
          go_ret
          exact ⟨ret_bool HE.out.symm, later_of (below_more HBX.out y.ok)⟩
        case true =>
          have HE := Lib.hid (FT.out (by rw [OK1.out]; rfl))
          go_wp2_with fail
          refine wp_region_later (by kernel_rfl) (by kernel_rfl) ?_
          repeat (go_big_quiet_step ((first | (go_at_call 46; (with_reducible refine Later.call _ (H1.out _))) | (go_at_call 43; (with_reducible refine Later.call _ (LD1.out _ (HPX.out.below (by repeat (first | exact Below.refl _ _ | (with_reducible assumption) | apply below_later | apply below_alloc | apply below_drew | apply below_drewN)))))))))
          refine wpQuiet_nil ?_
          intro y
          go_wp2
          try rw [← HBO.out]
          go_roundw
          case rel => exact ⟨k + 1, by go_num, by omega, HE.out, HXV.out _ y.ok⟩
          case measure => simp [intOf]; omega
    · obtain rfl : k = m := by omega
      have HT : Hid (res = decide (0 < k)) := by show _ = _; rw [AB.out, allB_true HALL.out, Bool.true_and]
      go_wp2
      go_ret
      exact ⟨ret_bool (by rw [HT.out]), later_of (below_more HB.out x.ok)⟩
end Go.Proofs.Ytlljjaafejjeeaa
