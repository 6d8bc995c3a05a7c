/- The document's areApart, AreApart of both: walked. -/
import Derived.Test.YtbflpidjcflndaaKApart
namespace Go.Proofs.Ytbflpidjcflndaa
open Go.RowKit

set_option maxRecDepth 100000 in
set_option maxHeartbeats 6400000 in
theorem rareApart_any (n cap m c1 : Nat) (s : Int) (A O : Option Addr) (X Y T : Nat → Int) (c : Nat → Int) (w : World) (hm : m ≤ 1000) (W : Watch n s X Y T) (hp : IsChs w A n X Y T) (hc : IsInts w O m c) :
    Gives Try.prog 65 #[.slice A n cap, .int .i64 s, .slice O m c1] w (.bool (apartB (leadsR s X Y T) n c m)) := by
  have hn30 := W.n30
  have HC := Lib.hid hc
  have HP := Lib.hid hp
  have LD := Lib.hid fun (i k : Nat) (V : World) (hi : i < n) (hk : k < n) (h : IsChs V A n X Y T) => rleads_any s n cap i k A X Y T V hi hk W h
  have OK : Hid (∀ i, okA (leadsR s X Y T) n c i = (inS n (c i) && ((decide (i = 0) || decide (c (i - 1) < c i)) && allB i fun k => !(leadsR s X Y T (c i).toNat (c k).toNat || leadsR s X Y T (c k).toNat (c i).toNat)))) := fun _ => rfl
  have AB : Hid (apartB (leadsR s X Y T) n c m = allB m (okA (leadsR s X Y T) n c)) := rfl
  generalize leadsR s X Y T = L at *
  generalize apartB L n c m = res at *
  have hw0 : IntKind.i64.wrap ((n : Int) - 1) = (n : Int) - 1 := IntWalk.i64_in _ ⟨by omega, by omega⟩
  clear hp hc W
  go_enter Try.func65, Try.ntmps65
  go_wp2
  go_loopw [7] (fun u wr => ∃ k : Nat, u = .int .i64 (k : Nat) ∧ k ≤ m ∧ (∀ j, j < k → okA L n c j = true) ∧ ∃ x : Later w, wr = x.val) (fun u _ => m - (intOf u).toNat)
  case atStart => exact ⟨0, rfl, by omega, by omega, later_of (by repeat (first | exact Below.refl _ _ | (with_reducible assumption) | apply below_later | apply below_alloc | apply below_drew | apply below_drewN))⟩
  case round =>
    obtain ⟨k, rfl, hk, hall, x, rfl⟩ := hrel
    have HALL := Lib.hid hall
    clear hall
    by_cases hlt : k < m
    · obtain ⟨b, off, hB, p⟩ := (HC.out.later x).at_ (by omega)
      have HBX : Hid (Below w.heap.size w x.val) := x.ok
      have ck := p.at_ k hlt
      have lb := p.lt
      have CA : Hid (∀ j, j < m → x.val.cell? ⟨b, off + j, none⟩ = some (.int .i64 (c j))) := p.at_
      have H1 := Lib.hid fun V => rhas_any n (c k) V
      have FB : Hid (okA L n c k = false → res = false) := fun h => by rw [AB.out, allB_false hlt h]
      have FT : Hid (okA L n c k = true → ∀ j, j < k + 1 → okA L n c j = true) := fun h => all_step HALL.out h
      have OK1 := Lib.hid (OK.out k)
      have HBO := Lib.hid hB
      rw [hB]
      clear p hB
      generalize x.val = Q at *
      cases hin : inS n (c k)
      case false =>
        rw [hin] at H1 OK1
        have HE : Hid (res = false) := FB.out (by rw [OK1.out]; rfl)
        clear hin
        go_wp2_with fail
        refine wp_region_later (by kernel_rfl) (by kernel_rfl) ?_
        repeat (go_big_quiet_step ((go_at_call 49; (with_reducible refine Later.call _ (H1.out _)))))
        refine wpQuiet_nil ?_
        intro y
        go_wp2
        go_ret
        exact ⟨ret_bool HE.out.symm, later_of (below_more HBX.out y.ok)⟩
      obtain ⟨i', hi, hi'⟩ := inS_true hin
      rw [hin] at H1 OK1
      rw [hi] at H1 OK1 ck
      have e9 : ((i' : Nat) : Int).toNat = i' := by simp
      rw [e9] at OK1
      clear hin
      by_cases hk0 : k = 0
      · subst hk0
        have ck0 : Q.cell? ⟨b, off, none⟩ = some (.int .i64 (i' : Nat)) := ck
        have HE := Lib.hid (FT.out (by rw [OK1.out]; rfl))
        go_wp2_with fail
        refine wp_region_later (by kernel_rfl) (by kernel_rfl) ?_
        repeat (go_big_quiet_step ((go_at_call 49; (with_reducible refine Later.call _ (H1.out _)))))
        refine wpQuiet_nil ?_
        intro y
        go_wp2
        go_loopw [8] (fun u wr => u = .int .i64 0 ∧ ∃ x : Later Q, wr = x.val) (fun _ _ => 0)
        case atStart => exact ⟨rfl, ⟨y, rfl⟩⟩
        case round =>
          obtain ⟨rfl, z, rfl⟩ := hrel
          go_wp2
          try rw [← HBO.out]
          first
            | (refine ⟨⟨0 + 1, by go_num, by omega, HE.out, later_of (below_more HBX.out z.ok)⟩, ?_⟩; simp [intOf]; omega)
            | (go_roundw
               case rel => exact ⟨0 + 1, by go_num, by omega, HE.out, later_of (below_more HBX.out z.ok)⟩
               case measure => simp [intOf]; omega)
      · have hg : decide ((0 : Int) < (k : Int)) = true := by simp; omega
        have hg2 : decide (0 < k) = true := by simp; omega
        have hw1 : IntKind.i64.wrap ((k : Int) - 1) = ((k - 1 : Nat) : Int) := by
          rw [show ((k : Int) - 1) = ((k - 1 : Nat) : Int) by omega]
          exact IntWalk.i64_in _ ⟨by omega, by omega⟩
        have cp := CA.out (k - 1) (by omega)
        have hk1 : decide (k = 0) = false := decide_eq_false hk0
        rw [hk1, Bool.false_or] at OK1
        obtain ⟨q, hq⟩ : ∃ q, c (k - 1) = q := ⟨_, rfl⟩
        rw [hq] at cp OK1
        by_cases hlq : (i' : Int) ≤ q
        · have hd : decide ((i' : Int) ≤ q) = true := decide_eq_true hlq
          have HE : Hid (res = false) := FB.out (by rw [OK1.out, decide_eq_false (by omega : ¬ q < (i' : Int))]; rfl)
          go_wp2_with fail
          refine wp_region_later (by kernel_rfl) (by kernel_rfl) ?_
          repeat (go_big_quiet_step ((go_at_call 49; (with_reducible refine Later.call _ (H1.out _)))))
          refine wpQuiet_nil ?_
          intro y
          go_wp2
          go_ret
          exact ⟨ret_bool HE.out.symm, later_of (below_more HBX.out y.ok)⟩
        · have hd : decide ((i' : Int) ≤ q) = false := decide_eq_false hlq
          rw [decide_eq_true (by omega : q < (i' : Int)), Bool.true_and, Bool.true_and] at OK1
          go_wp2_with fail
          refine wp_region_later (by kernel_rfl) (by kernel_rfl) ?_
          repeat (go_big_quiet_step ((go_at_call 49; (with_reducible refine Later.call _ (H1.out _)))))
          refine wpQuiet_nil ?_
          intro y
          go_wp2
          go_loopw [8] (fun u wr => ∃ j : Nat, u = .int .i64 (j : Nat) ∧ j ≤ k ∧ (∀ j', j' < j → (!(L i' (c j').toNat || L (c j').toNat i')) = true) ∧ ∃ x : Later Q, wr = x.val) (fun u _ => k - (intOf u).toNat)
          case atStart => exact ⟨0, rfl, by omega, by omega, ⟨y, rfl⟩⟩
          case round =>
            obtain ⟨j, rfl, hj, hin2, z, rfl⟩ := hrel
            have HI2 := Lib.hid hin2
            clear hin2
            by_cases hjk : j < k
            · obtain ⟨q', hq', hqn⟩ := okA_in (HALL.out j hjk)
              have cj := (z.cell _ _ lb).trans (CA.out j (by omega))
              have ci := (z.cell _ _ lb).trans ck
              have lz := z.lt _ lb
              have HPV := Lib.hid (HP.out.below (below_more HBX.out z.ok))
              have LD1 := Lib.hid fun V h => LD.out i' q' V hi' hqn h
              have LD2 := Lib.hid fun V h => LD.out q' i' V hqn hi' h
              have FB2 : Hid ((!(L i' (c j).toNat || L (c j).toNat i')) = false → res = false) := fun h => FB.out (by rw [OK1.out]; exact allB_false (p := fun k => !(L i' (c k).toNat || L (c k).toNat i')) hjk h)
              have FT2 : Hid ((!(L i' (c j).toNat || L (c j).toNat i')) = true → ∀ j', j' < j + 1 → (!(L i' (c j').toNat || L (c j').toNat i')) = true) := fun h => all_step HI2.out h
              have e8 : (c j).toNat = q' := by rw [hq']; simp
              rw [e8] at FB2 FT2
              rw [hq'] at cj
              generalize L i' q' = r1 at *
              generalize L q' i' = r2 at *
              clear hq' e8 cp
              rcases r1 with _ | _
              · rcases r2 with _ | _
                · have HE := Lib.hid (FT2.out rfl)
                  go_wp2_with fail
                  refine wp_region_later (by kernel_rfl) (by kernel_rfl) ?_
                  repeat (go_big_quiet_step ((first | (go_at_call 50; (with_reducible refine Later.call _ (LD1.out _ (HPV.out.below (by repeat (first | exact Below.refl _ _ | (with_reducible assumption) | apply below_later | apply below_alloc | apply below_drew | apply below_drewN)))))) | (go_at_call 50; (with_reducible refine Later.call _ (LD2.out _ (HPV.out.below (by repeat (first | exact Below.refl _ _ | (with_reducible assumption) | apply below_later | apply below_alloc | apply below_drew | apply below_drewN)))))))))
                  refine wpQuiet_nil ?_
                  intro y2
                  go_wp2
                  go_roundw
                  case rel => exact ⟨j + 1, by go_num, by omega, HE.out, later_of (by repeat (first | exact Below.refl _ _ | (with_reducible assumption) | apply below_later | apply below_alloc | apply below_drew | apply below_drewN))⟩
                  case measure => simp [intOf]; omega
                · have HE := Lib.hid (FB2.out rfl)
                  go_wp2_with fail
                  refine wp_region_later (by kernel_rfl) (by kernel_rfl) ?_
                  repeat (go_big_quiet_step ((first | (go_at_call 50; (with_reducible refine Later.call _ (LD1.out _ (HPV.out.below (by repeat (first | exact Below.refl _ _ | (with_reducible assumption) | apply below_later | apply below_alloc | apply below_drew | apply below_drewN)))))) | (go_at_call 50; (with_reducible refine Later.call _ (LD2.out _ (HPV.out.below (by repeat (first | exact Below.refl _ _ | (with_reducible assumption) | apply below_later | apply below_alloc | apply below_drew | apply below_drewN)))))))))
                  refine wpQuiet_nil ?_
                  intro y2
                  go_wp2
                  go_ret
                  exact ⟨ret_bool HE.out.symm, later_of (below_more HBX.out (by repeat (first | exact Below.refl _ _ | (with_reducible assumption) | apply below_later | apply below_alloc | apply below_drew | apply below_drewN)))⟩
              · have HE := Lib.hid (FB2.out rfl)
                go_wp2_with fail
                refine wp_region_later (by kernel_rfl) (by kernel_rfl) ?_
                repeat (go_big_quiet_step ((first | (go_at_call 50; (with_reducible refine Later.call _ (LD1.out _ (HPV.out.below (by repeat (first | exact Below.refl _ _ | (with_reducible assumption) | apply below_later | apply below_alloc | apply below_drew | apply below_drewN)))))) | (go_at_call 50; (with_reducible refine Later.call _ (LD2.out _ (HPV.out.below (by repeat (first | exact Below.refl _ _ | (with_reducible assumption) | apply below_later | apply below_alloc | apply below_drew | apply below_drewN)))))))))
                refine wpQuiet_nil ?_
                intro y2
                go_wp2
                go_ret
                exact ⟨ret_bool HE.out.symm, later_of (below_more HBX.out (by repeat (first | exact Below.refl _ _ | (with_reducible assumption) | apply below_later | apply below_alloc | apply below_drew | apply below_drewN)))⟩
            · obtain rfl : j = k := by omega
              have HE := Lib.hid (FT.out (by rw [OK1.out]; exact allB_true HI2.out))
              go_wp2
              try rw [← HBO.out]
              first
                | (refine ⟨⟨j + 1, by go_num, by omega, HE.out, later_of (below_more HBX.out z.ok)⟩, ?_⟩; simp [intOf]; omega)
                | (go_roundw
                   case rel => exact ⟨j + 1, by go_num, by omega, HE.out, later_of (below_more HBX.out z.ok)⟩
                   case measure => simp [intOf]; omega)
    · obtain rfl : k = m := by omega
      have HT : Hid (res = true) := by show _ = _; rw [AB.out]; exact allB_true HALL.out
      go_wp2
      go_ret
      exact ⟨ret_bool HT.out.symm, later_of (by repeat (first | exact Below.refl _ _ | (with_reducible assumption) | apply below_later | apply below_alloc | apply below_drew | apply below_drewN))⟩
end Go.Proofs.Ytbflpidjcflndaa
