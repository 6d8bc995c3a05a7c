/- The document's own Parse. -/
import Derived.Test.YtmielpcidhphaaaDoorParseEq
import Derived.Test.YtmielpcidhphaaaDoorRFormat
import Derived.Test.YtmielpcidhphaaaDoorOutMap
import Derived.Test.YtmielpcidhphaaaDoorRGrow
namespace Go.Proofs.YtmielpcidhphaaaDoor
open Go.RowKit

theorem sqOf_step {x : List UInt8} {k : Nat} {c : UInt8} (h : x[k]? = some c) : sqOf (x.take (k + 1)) = sqOf (x.take k) ++ (kind5 c).toList := by
  unfold sqOf
  rw [List.take_add_one, h, Option.toList_some, List.filterMap_append]
  cases hk : kind5 c <;> simp [hk]
theorem hOf_step {x : List UInt8} {k : Nat} {c : UInt8} (h : x[k]? = some c) : hOf (x.take (k + 1)) = hOf (x.take k) + if c = 47 then 1 else 0 := by
  unfold hOf
  rw [List.take_add_one, h, Option.toList_some, List.filter_append, List.length_append]
  by_cases hk : c = 47
  · rw [if_pos hk]; simp [hk]
  · rw [if_neg hk]; simp [hk]
theorem sqOf_le (x : List UInt8) : (sqOf x).length ≤ x.length := List.length_filterMap_le _ _
theorem hOf_le (x : List UInt8) : hOf x ≤ x.length + 1 := by unfold hOf; have := List.length_filter_le (fun c => decide (c = (47 : UInt8))) x; omega
theorem take_len_le (x : List UInt8) (k : Nat) : (sqOf (x.take k)).length ≤ x.length ∧ hOf (x.take k) ≤ x.length + 1 := by
  have h1 := sqOf_le (x.take k)
  have h2 := hOf_le (x.take k)
  rw [List.length_take] at h1 h2
  omega

/-- What the reading keeps: the result, the map that grows, its squares. -/
structure QK (Wd Hd : Int) (v : Value) (l : List Int) (w V : World) : Prop where
  below : Below w.heap.size w V
  boxR : V.heap[w.heap.size]? = some (.cells #[.int .i64 0, .int .i64 0, .slice none 0 0] 24)
  boxO : V.heap[w.heap.size + 1]? = some (.cells #[.int .i64 Wd, .int .i64 Hd, v] 24)
  own : OwnI V (w.heap.size + 2) v l
section
variable {Wd Hd : Int} {v v5 : Value} {l l5 : List Int} {w V w5 : World}
theorem QK.later (h : QK Wd Hd v l w V) (x : Later V) : QK Wd Hd v l w x.val :=
  ⟨below_more h.below x.ok, (x.ok.block _ (lt_of_get h.boxR)).trans h.boxR, (x.ok.block _ (lt_of_get h.boxO)).trans h.boxO, h.own.later x⟩
theorem QK.grown (h : QK Wd Hd v l w V) {o : Obj} (hg : (V.alloc o).grownBy w5 v.ownBlock) :
    w5.heap[w.heap.size]? = some (.cells #[.int .i64 0, .int .i64 0, .slice none 0 0] 24) ∧ w5.heap[w.heap.size + 1]? = some (.cells #[.int .i64 Wd, .int .i64 Hd, v] 24) ∧ Below w.heap.size w w5 := by
  have l2 := lt_of_get h.boxR
  have l3 := lt_of_get h.boxO
  have a : ∀ b, b < V.heap.size → b < w.heap.size + 2 → w5.heap[b]? = V.heap[b]? := fun b hb hn => by
    rw [hg.block b (by simp; omega) (fun e => by have := (own_lt h.own b e.symm).1; omega), Below.heap_alloc _ _ _ hb]
  refine ⟨(a _ l2 (by omega)).trans h.boxR, (a _ l3 (by omega)).trans h.boxO, ?_⟩
  exact (h.below.alloc h.below.size o).grown hg (by have := h.below.size; simp; omega) fun k hk => by have := (own_lt h.own k hk).1; omega
theorem QK.push (h : QK Wd Hd v l w V) {o : Obj} (hg : (V.alloc o).grownBy w5 v.ownBlock) (ho : OwnI w5 (w.heap.size + 2) v5 l5) : QK Wd Hd v5 l5 w (w5.setCell ⟨w.heap.size + 1, 2, none⟩ v5) := by
  obtain ⟨r1, r2, r3⟩ := h.grown hg
  exact ⟨r3.setCell (p := ⟨w.heap.size + 1, 2, none⟩) (by simp) _, (Below.heap_setCell _ _ _ _ (by simp)).trans r1, (set_one r2).trans (by rfl), ho.far (fun g hg => by have := (own_lt ho g hg).1; simp; omega)⟩
theorem QK.setH (h : QK Wd Hd v l w V) (k : Int) : QK Wd k v l w (V.setCell ⟨w.heap.size + 1, 1, none⟩ (.int .i64 k)) :=
  ⟨h.below.setCell (p := ⟨w.heap.size + 1, 1, none⟩) (by simp) _, (Below.heap_setCell _ _ _ _ (by simp)).trans h.boxR, (set_one h.boxO).trans (by rfl), h.own.far (fun g hg => by have := (own_lt h.own g hg).1; simp; omega)⟩
theorem QK.setW (h : QK Wd Hd v l w V) (k : Int) : QK k Hd v l w (V.setCell ⟨w.heap.size + 1, 0, none⟩ (.int .i64 k)) :=
  ⟨h.below.setCell (p := ⟨w.heap.size + 1, 0, none⟩) (by simp) _, (Below.heap_setCell _ _ _ _ (by simp)).trans h.boxR, (set_one h.boxO).trans (by rfl), h.own.far (fun g hg => by have := (own_lt h.own g hg).1; simp; omega)⟩
end
theorem u8_ne {c : UInt8} {k : Nat} (hk : k < 256) (h : c ≠ UInt8.ofNat k) : ((c.toNat : Int) == (k : Int)) = false := by
  simp only [beq_eq_false_iff_ne]
  intro e
  apply h
  have : c.toNat = k := by omega
  rw [← this]; simp

set_option maxRecDepth 100000 in
set_option maxHeartbeats 3200000 in
theorem rparse_any (x : List UInt8) (w : World) (hx : x.length ≤ 1000000) (W0 H0 : Nat) (L0 : List Int) (E0 : Int) (good : okR x → W0 = (sqOf x).length / hOf x ∧ H0 = hOf x ∧ L0 = sqOf x ∧ E0 = 0) (bad : ¬ okR x → W0 = 0 ∧ H0 = 0 ∧ L0 = [] ∧ E0 = 3) :
    GivesME 23 #[.string ⟨x.toArray⟩] w W0 H0 L0 E0 := by
  by_cases hlong : 930 < x.length
  · have hno : ¬ okR x := fun h => by have := h.1; omega
    obtain ⟨rfl, rfl, rfl, rfl⟩ := bad hno
    have hl : (930 : Int) < (x.length : Int) := by omega
    clear good bad hno
    go_enter Tryd.func23, Tryd.ntmps23
    go_wp2
    have g : (w.alloc (.cells #[.int .i64 0, .int .i64 0, .slice none 0 0] 24)).heap[w.heap.size]? = some (.cells #[.int .i64 0, .int .i64 0, .slice none 0 0] 24) := World.alloc_heap_new _ _
    have r0 := cell_of_heap g 0 _ rfl
    have r1 := cell_of_heap g 1 _ rfl
    have r2 := cell_of_heap g 2 _ rfl
    refine bodyPost_ret (v := .tuple #[.agg #[.int .i64 0, .int .i64 0, .slice none 0 0], .int .i64 3]) (by simp [results, Tryd.results23, go_sem, r0, r1, r2]) rfl ?_
    exact ⟨_, rfl, ⟨_, by repeat (first | exact Below.refl _ _ | (with_reducible assumption) | apply below_later | apply below_alloc | apply below_drew | apply below_drewN)⟩, rfl, OwnI.nil _ _⟩
  · have hl : ¬ (930 : Int) < (x.length : Int) := by omega
    obtain ⟨i0, hi0, hz0, hz1, hz2⟩ := info_int
    have HG := Lib.hid good
    have HBD := Lib.hid bad
    clear good bad
    go_enter Tryd.func23, Tryd.ntmps23
    go_wp2
    obtain ⟨V1, hV1⟩ : ∃ V1, (w.alloc (.cells #[.int .i64 0, .int .i64 0, .slice none 0 0] 24)).alloc (.cells #[.int .i64 0, .int .i64 1, .slice none 0 0] 24) = V1 := ⟨_, rfl⟩
    have qk0 : QK 0 (hOf (x.take 0) : Nat) (.slice none 0 0) (sqOf (x.take 0)) w V1 := by
      rw [← hV1]
      refine ⟨by repeat (first | exact Below.refl _ _ | (with_reducible assumption) | apply below_later | apply below_alloc | apply below_drew | apply below_drewN), (Below.heap_alloc _ _ _ (by simp)).trans (World.alloc_heap_new _ _), ?_, OwnI.nil _ _⟩
      have := World.alloc_heap_new (w.alloc (.cells #[.int .i64 0, .int .i64 0, .slice none 0 0] 24)) (.cells #[.int .i64 0, .int .i64 1, .slice none 0 0] 24)
      rw [World.size_alloc] at this
      exact this
    rw [hV1]
    have QK0 := Lib.hid qk0
    clear hV1 qk0
    go_loopw [5] (fun u wr => ∃ (k : Nat) (v : Value), k ≤ x.length ∧ u = .int .i64 k ∧ QK 0 (hOf (x.take k) : Nat) v (sqOf (x.take k)) w wr) (fun v _ => x.length - (intOf v).toNat)
    case atStart => exact ⟨0, _, by omega, rfl, QK0.out⟩
    case round =>
      obtain ⟨k, va, hk, rfl, qk⟩ := hrel
      obtain ⟨tl1, tl2⟩ := take_len_le x k
      obtain ⟨m, hmm⟩ : ∃ m, (sqOf (x.take k)).length = m := ⟨_, rfl⟩
      rw [hmm] at tl1
      obtain ⟨Aa, capa, hva⟩ := qk.own.shape_n hmm
      subst hva
      have hlen := hmm
      have cO := cell_of_heap qk.boxO 2 _ rfl
      have cO1 := cell_of_heap qk.boxO 1 _ rfl
      have fO1 := thaw_get qk.boxO 1
      have lO := lt_of_get qk.boxO
      have QKH := Lib.hid qk
      have hsz := qk.below.size
      have hsz2 : w.heap.size + 1 < wr.heap.size := lO
      clear qk hmm
      by_cases hlt : k < x.length
      · obtain ⟨c, hc⟩ : ∃ c, x[k]? = some c := ⟨_, List.getElem?_eq_getElem hlt⟩
        have cr := char_run hc
        have HC := Lib.hid hc
        clear hc
        by_cases h114 : c = 114
        · subst h114
          have HSQ : Hid (sqOf (x.take (k + 1)) = sqOf (x.take k) ++ [1]) := sqOf_step HC.out
          have HHO : Hid (hOf (x.take (k + 1)) = hOf (x.take k)) := hOf_step HC.out
          have crl : ∀ W, (Instr.index 9 (.string ⟨x.toArray⟩) (.int .i64 k)).run Tryd.prog W = .ok (.int .u8 114) W := cr
          clear cr
          go_wp2_with (at_builtin; refine wpList_append_own _ rfl _ _ 22 rfl (w.heap.size + 2) 3 i0 (.int .i64 0) 1 8 Tryd.underlying22 hi0 hz0 hz1 hz2 rfl (by decide) _ _ _ rfl ((own_row QKH.out.own hlen).alloc _) ⟨_, 0, none⟩ 1 1 [.int .i64 1] rfl rfl lit_news one_int (by unfold maxLen; omega) (by omega) (by simp; omega) ?_; intro v5 w5 hown2 hgrow _; have ho6 : OwnI w5 (w.heap.size + 2) v5 (sqOf (x.take (k + 1))) := (by rw [HSQ.out]; exact push_I hlen hown2); obtain ⟨A6, cap6, hvv⟩ := ho6.shape_n (n := m + 1) (by rw [HSQ.out, List.length_append, hlen]; rfl); subst hvv; obtain ⟨r1, r2, r3⟩ := QKH.out.grown hgrow; have qk6 := QKH.out.push hgrow ho6; have QK6 := Lib.hid qk6; have cO2 := cell_of_heap r2 2 _ rfl; have fO2 := thaw_get r2 2; have lO2 := lt_of_get r2; clear hown2 hgrow ho6 qk6 r1 r2 r3)
          go_roundw
          case rel => exact ⟨k + 1, _, by omega, by go_num, by rw [HHO.out]; exact QK6.out⟩
          case measure => simp [intOf]; omega
        · have n114 : ((c.toNat : Int) == 114) = false := u8_ne (k := 114) (by omega) h114
          by_cases h119 : c = 119
          · subst h119
            have HSQ : Hid (sqOf (x.take (k + 1)) = sqOf (x.take k) ++ [2]) := sqOf_step HC.out
            have HHO : Hid (hOf (x.take (k + 1)) = hOf (x.take k)) := hOf_step HC.out
            have crl : ∀ W, (Instr.index 9 (.string ⟨x.toArray⟩) (.int .i64 k)).run Tryd.prog W = .ok (.int .u8 119) W := cr
            clear cr
            go_wp2_with (at_builtin; refine wpList_append_own _ rfl _ _ 22 rfl (w.heap.size + 2) 3 i0 (.int .i64 0) 1 8 Tryd.underlying22 hi0 hz0 hz1 hz2 rfl (by decide) _ _ _ rfl ((own_row QKH.out.own hlen).alloc _) ⟨_, 0, none⟩ 1 1 [.int .i64 2] rfl rfl lit_news one_int (by unfold maxLen; omega) (by omega) (by simp; omega) ?_; intro v5 w5 hown2 hgrow _; have ho6 : OwnI w5 (w.heap.size + 2) v5 (sqOf (x.take (k + 1))) := (by rw [HSQ.out]; exact push_I hlen hown2); obtain ⟨A6, cap6, hvv⟩ := ho6.shape_n (n := m + 1) (by rw [HSQ.out, List.length_append, hlen]; rfl); subst hvv; obtain ⟨r1, r2, r3⟩ := QKH.out.grown hgrow; have qk6 := QKH.out.push hgrow ho6; have QK6 := Lib.hid qk6; have cO2 := cell_of_heap r2 2 _ rfl; have fO2 := thaw_get r2 2; have lO2 := lt_of_get r2; clear hown2 hgrow ho6 qk6 r1 r2 r3)
            go_roundw
            case rel => exact ⟨k + 1, _, by omega, by go_num, by rw [HHO.out]; exact QK6.out⟩
            case measure => simp [intOf]; omega
          · have n119 : ((c.toNat : Int) == 119) = false := u8_ne (k := 119) (by omega) h119
            by_cases h115 : c = 115
            · subst h115
              have HSQ : Hid (sqOf (x.take (k + 1)) = sqOf (x.take k) ++ [3]) := sqOf_step HC.out
              have HHO : Hid (hOf (x.take (k + 1)) = hOf (x.take k)) := hOf_step HC.out
              have crl : ∀ W, (Instr.index 9 (.string ⟨x.toArray⟩) (.int .i64 k)).run Tryd.prog W = .ok (.int .u8 115) W := cr
              clear cr
              go_wp2_with (at_builtin; refine wpList_append_own _ rfl _ _ 22 rfl (w.heap.size + 2) 3 i0 (.int .i64 0) 1 8 Tryd.underlying22 hi0 hz0 hz1 hz2 rfl (by decide) _ _ _ rfl ((own_row QKH.out.own hlen).alloc _) ⟨_, 0, none⟩ 1 1 [.int .i64 3] rfl rfl lit_news one_int (by unfold maxLen; omega) (by omega) (by simp; omega) ?_; intro v5 w5 hown2 hgrow _; have ho6 : OwnI w5 (w.heap.size + 2) v5 (sqOf (x.take (k + 1))) := (by rw [HSQ.out]; exact push_I hlen hown2); obtain ⟨A6, cap6, hvv⟩ := ho6.shape_n (n := m + 1) (by rw [HSQ.out, List.length_append, hlen]; rfl); subst hvv; obtain ⟨r1, r2, r3⟩ := QKH.out.grown hgrow; have qk6 := QKH.out.push hgrow ho6; have QK6 := Lib.hid qk6; have cO2 := cell_of_heap r2 2 _ rfl; have fO2 := thaw_get r2 2; have lO2 := lt_of_get r2; clear hown2 hgrow ho6 qk6 r1 r2 r3)
              go_roundw
              case rel => exact ⟨k + 1, _, by omega, by go_num, by rw [HHO.out]; exact QK6.out⟩
              case measure => simp [intOf]; omega
            · have n115 : ((c.toNat : Int) == 115) = false := u8_ne (k := 115) (by omega) h115
              by_cases h112 : c = 112
              · subst h112
                have HSQ : Hid (sqOf (x.take (k + 1)) = sqOf (x.take k) ++ [4]) := sqOf_step HC.out
                have HHO : Hid (hOf (x.take (k + 1)) = hOf (x.take k)) := hOf_step HC.out
                have crl : ∀ W, (Instr.index 9 (.string ⟨x.toArray⟩) (.int .i64 k)).run Tryd.prog W = .ok (.int .u8 112) W := cr
                clear cr
                go_wp2_with (at_builtin; refine wpList_append_own _ rfl _ _ 22 rfl (w.heap.size + 2) 3 i0 (.int .i64 0) 1 8 Tryd.underlying22 hi0 hz0 hz1 hz2 rfl (by decide) _ _ _ rfl ((own_row QKH.out.own hlen).alloc _) ⟨_, 0, none⟩ 1 1 [.int .i64 4] rfl rfl lit_news one_int (by unfold maxLen; omega) (by omega) (by simp; omega) ?_; intro v5 w5 hown2 hgrow _; have ho6 : OwnI w5 (w.heap.size + 2) v5 (sqOf (x.take (k + 1))) := (by rw [HSQ.out]; exact push_I hlen hown2); obtain ⟨A6, cap6, hvv⟩ := ho6.shape_n (n := m + 1) (by rw [HSQ.out, List.length_append, hlen]; rfl); subst hvv; obtain ⟨r1, r2, r3⟩ := QKH.out.grown hgrow; have qk6 := QKH.out.push hgrow ho6; have QK6 := Lib.hid qk6; have cO2 := cell_of_heap r2 2 _ rfl; have fO2 := thaw_get r2 2; have lO2 := lt_of_get r2; clear hown2 hgrow ho6 qk6 r1 r2 r3)
                go_roundw
                case rel => exact ⟨k + 1, _, by omega, by go_num, by rw [HHO.out]; exact QK6.out⟩
                case measure => simp [intOf]; omega
              · have n112 : ((c.toNat : Int) == 112) = false := u8_ne (k := 112) (by omega) h112
                by_cases h47 : c = 47
                · subst h47
                  have HSQ : Hid (sqOf (x.take (k + 1)) = sqOf (x.take k)) := (sqOf_step HC.out).trans (List.append_nil _)
                  have HHO : Hid (hOf (x.take (k + 1)) = hOf (x.take k) + 1) := hOf_step HC.out
                  have crl : ∀ W, (Instr.index 9 (.string ⟨x.toArray⟩) (.int .i64 k)).run Tryd.prog W = .ok (.int .u8 47) W := cr
                  have hk6 := QKH.out.setH ((hOf (x.take k) : Int) + 1)
                  have QK6 := Lib.hid hk6
                  clear cr hk6 n114 n119 n115 n112
                  generalize hOf (x.take k) = hh at *
                  go_wp2
                  go_roundw
                  case rel => exact ⟨k + 1, _, by omega, by go_num, by rw [HHO.out, HSQ.out]; exact QK6.out⟩
                  case measure => simp [intOf]; omega
                · have n47 : ((c.toNat : Int) == 47) = false := u8_ne (k := 47) (by omega) h47
                  have HSQ : Hid (sqOf (x.take (k + 1)) = sqOf (x.take k)) := by
                    show _ = _
                    rw [sqOf_step HC.out]
                    unfold kind5
                    rw [if_neg h114, if_neg h119, if_neg h115, if_neg h112]
                    exact List.append_nil _
                  have HHO : Hid (hOf (x.take (k + 1)) = hOf (x.take k)) := by
                    show _ = _
                    rw [hOf_step HC.out, if_neg h47, Nat.add_zero]
                  clear h114 h119 h115 h112 h47
                  go_wp2
                  go_roundw
                  case rel => exact ⟨k + 1, _, by omega, by go_num, by rw [HHO.out, HSQ.out]; exact QKH.out⟩
                  case measure => simp [intOf]; omega
      · obtain rfl : x.length = k := by omega
        have qk := QKH.out
        rw [List.take_length] at qk hlen
        have hh1 : 1 ≤ hOf x := by unfold hOf; omega
        have hhl := hOf_le x
        have HOKR : Hid (okR x ↔ (validM ((m / hOf x : Nat) : Int) (hOf x : Nat) m (fun i => (sqOf x).getD i 0) = true ∧ fmtTo (m / hOf x) (fun i => (sqOf x).getD i 0) m = x)) := by
          show _ ↔ _
          unfold okR
          rw [hlen]
          exact ⟨fun h => h.2, fun h => ⟨by omega, h⟩⟩
        have HG2 : Hid (okR x → W0 = m / hOf x ∧ H0 = hOf x ∧ L0 = sqOf x ∧ E0 = 0) := by rw [← hlen]; exact HG.out
        have hq : (m : Int) / ((hOf x : Nat) : Int) = ((m / hOf x : Nat) : Int) := (Int.natCast_ediv _ _).symm
        have qk2 := qk.setW ((m : Int) / ((hOf x : Nat) : Int))
        have cOO := cell_of_heap qk.boxO 2 _ rfl
        have cOO1 := cell_of_heap qk.boxO 1 _ rfl
        have cOO0 := cell_of_heap qk.boxO 0 _ rfl
        have fOO := thaw_get qk.boxO 0
        have lOO := lt_of_get qk.boxO
        have QK2 := Lib.hid qk2
        have HLEN := Lib.hid hlen
        have FMT : Hid (∀ w', IsInts w' Aa m (fun i => (sqOf x).getD i 0) → ∀ r, (if validM ((m / hOf x : Nat) : Int) (hOf x : Nat) m (fun i => (sqOf x).getD i 0) = true then r = Value.tuple #[.string ⟨(fmtTo (m / hOf x) (fun i => (sqOf x).getD i 0) m).toArray⟩, .int .i64 0] else r = .tuple #[.string ⟨#[]⟩, .int .i64 20]) →
            Gives Tryd.prog 18 #[.agg #[.int .i64 ((m : Int) / ((hOf x : Nat) : Int)), .int .i64 (hOf x : Nat), .slice Aa m capa]] w' r) := fun w' h r hr => by
          rw [hq]
          by_cases hv : validM ((m / hOf x : Nat) : Int) (hOf x : Nat) m (fun i => (sqOf x).getD i 0) = true
          · rw [if_pos hv] at hr; subst hr
            exact rformat_ok _ _ m capa Aa _ w' h hv
          · rw [if_neg hv] at hr; subst hr
            exact rformat_bad _ _ m capa Aa _ w' h (by simpa using hv)
        have b0 : 0 ≤ (m : Int) / ((hOf x : Nat) : Int) := Int.ediv_nonneg (by omega) (by omega)
        have b1 : (m : Int) / ((hOf x : Nat) : Int) ≤ 930 := Int.le_trans (Int.ediv_le_self _ (by omega)) (by omega)
        have OI : Hid (∀ z : Later (wr.setCell ⟨w.heap.size + 1, 0, none⟩ (.int .i64 ((m : Int) / ((hOf x : Nat) : Int)))), IsInts z.val Aa m (fun i => (sqOf x).getD i 0)) := fun z => ((QK2.out.later z).own.ints (by omega)).2
        have HQ := Lib.hid hq
        clear qk qk2 hlen hq QKH HG
        generalize fmtTo (m / hOf x) (fun i => (sqOf x).getD i 0) m = tx at *
        generalize m / hOf x = q at *
        obtain ⟨d, hd⟩ : ∃ d : Int, (m : Int) / ((hOf x : Nat) : Int) = d := ⟨_, rfl⟩
        have hdq : d = (q : Int) := hd.symm.trans HQ.out
        rw [hd] at b0 b1 FMT
        have hdw : IntKind.i64.wrap ((m : Int) / ((hOf x : Nat) : Int)) = d := (by rw [hd]; exact IntWalk.i64_in _ (by omega))
        have qk2 := QK2.out
        rw [hd] at qk2 OI
        have b20 := cell_of_heap qk2.boxO 0 _ rfl
        have b21 := cell_of_heap qk2.boxO 1 _ rfl
        have b22 := cell_of_heap qk2.boxO 2 _ rfl
        have QKd := Lib.hid qk2
        clear qk2 QK2
        cases hv : validM (q : Int) (hOf x : Nat) m (fun i => (sqOf x).getD i 0)
        · have hno : ¬ okR x := fun h => by have := (HOKR.out.1 h).1; rw [hv] at this; cases this
          obtain ⟨rfl, rfl, rfl, rfl⟩ := HBD.out hno
          have F1d : Hid (∀ w', IsInts w' Aa m (fun i => (sqOf x).getD i 0) → Gives Tryd.prog 18 #[.agg #[.int .i64 d, .int .i64 (hOf x : Nat), .slice Aa m capa]] w' (.tuple #[.string ⟨#[]⟩, .int .i64 20])) := fun w' h => FMT.out w' h _ (by rw [hv, if_neg (by simp)])
          clear hv hno FMT HOKR HG2 HBD HQ hdq
          go_wp2_with (go_at_call 18; refine Calls.mono (Gives.calls (F1d.out _ (OI.out ⟨_, by repeat (first | exact Below.refl _ _ | (with_reducible assumption) | apply below_later | apply below_alloc | apply below_drew | apply below_drewN)⟩))) ?_; rintro e w1 ⟨rfl, z1, rfl⟩; obtain ⟨⟨d0, d1, d2⟩, g0, g1, g2⟩ := cells3 (QKd.out.later z1).boxR; have lR := lt_of_get (QKd.out.later z1).boxR; have m0 := cell_of_heap (QKd.out.later z1).boxO 0 _ rfl; have m1 := cell_of_heap (QKd.out.later z1).boxO 1 _ rfl; have m2 := cell_of_heap (QKd.out.later z1).boxO 2 _ rfl)
          have k3 := put3 (v0 := .int .i64 0) (v1 := .int .i64 0) (v2 := .slice none 0 0) (QKd.out.later z1).boxR
          obtain ⟨⟨r0, r1, r2⟩, _⟩ := cells3 k3
          refine bodyPost_ret (v := .tuple #[.agg #[.int .i64 0, .int .i64 0, .slice none 0 0], .int .i64 3]) (by simp [results, Tryd.results23, go_sem, r0, r1, r2]) rfl ?_
          exact ⟨_, rfl, ⟨_, below_put3 (QKd.out.later z1).below (Nat.le_refl _)⟩, rfl, OwnI.nil _ _⟩
        · have F1d : Hid (∀ w', IsInts w' Aa m (fun i => (sqOf x).getD i 0) → Gives Tryd.prog 18 #[.agg #[.int .i64 d, .int .i64 (hOf x : Nat), .slice Aa m capa]] w' (.tuple #[.string ⟨tx.toArray⟩, .int .i64 0])) := fun w' h => FMT.out w' h _ (by rw [if_pos hv])
          by_cases ht : tx = x
          · obtain ⟨rfl, rfl, rfl, rfl⟩ := HG2.out (HOKR.out.2 ⟨hv, ht⟩)
            subst hdq
            clear hv FMT HOKR HG2 HBD HQ
            subst ht
            go_wp2_with (go_at_call 18; refine Calls.mono (Gives.calls (F1d.out _ (OI.out ⟨_, by repeat (first | exact Below.refl _ _ | (with_reducible assumption) | apply below_later | apply below_alloc | apply below_drew | apply below_drewN)⟩))) ?_; rintro e w1 ⟨rfl, z1, rfl⟩; obtain ⟨⟨d0, d1, d2⟩, g0, g1, g2⟩ := cells3 (QKd.out.later z1).boxR; have lR := lt_of_get (QKd.out.later z1).boxR; have m0 := cell_of_heap (QKd.out.later z1).boxO 0 _ rfl; have m1 := cell_of_heap (QKd.out.later z1).boxO 1 _ rfl; have m2 := cell_of_heap (QKd.out.later z1).boxO 2 _ rfl)
            have k3 := put3 (v0 := .int .i64 (W0 : Nat)) (v1 := .int .i64 (hOf tx : Nat)) (v2 := .slice Aa m capa) (QKd.out.later z1).boxR
            obtain ⟨⟨r0, r1, r2⟩, _⟩ := cells3 k3
            refine bodyPost_ret (v := .tuple #[.agg #[.int .i64 (W0 : Nat), .int .i64 (hOf tx : Nat), .slice Aa m capa], .int .i64 0]) (by simp [results, Tryd.results23, go_sem, r0, r1, r2]) rfl ?_
            refine ⟨_, rfl, ⟨_, below_put3 (QKd.out.later z1).below (Nat.le_refl _)⟩, rfl, own_put3 ((QKd.out.later z1).own.mono (by omega)) ?_⟩
            intro g hg e
            have := (own_lt (QKd.out.later z1).own g hg).1
            omega
          · have hno : ¬ okR x := fun h => ht (HOKR.out.1 h).2
            obtain ⟨rfl, rfl, rfl, rfl⟩ := HBD.out hno
            have hne : (tx == x) = false := (by simpa using ht)
            have hne2 : (tx != x) = true := (by simpa using ht)
            clear hv hno FMT HOKR HG2 HBD HQ hdq ht
            go_wp2_with (go_at_call 18; refine Calls.mono (Gives.calls (F1d.out _ (OI.out ⟨_, by repeat (first | exact Below.refl _ _ | (with_reducible assumption) | apply below_later | apply below_alloc | apply below_drew | apply below_drewN)⟩))) ?_; rintro e w1 ⟨rfl, z1, rfl⟩; obtain ⟨⟨d0, d1, d2⟩, g0, g1, g2⟩ := cells3 (QKd.out.later z1).boxR; have lR := lt_of_get (QKd.out.later z1).boxR; have m0 := cell_of_heap (QKd.out.later z1).boxO 0 _ rfl; have m1 := cell_of_heap (QKd.out.later z1).boxO 1 _ rfl; have m2 := cell_of_heap (QKd.out.later z1).boxO 2 _ rfl)
            have k3 := put3 (v0 := .int .i64 0) (v1 := .int .i64 0) (v2 := .slice none 0 0) (QKd.out.later z1).boxR
            obtain ⟨⟨r0, r1, r2⟩, _⟩ := cells3 k3
            refine bodyPost_ret (v := .tuple #[.agg #[.int .i64 0, .int .i64 0, .slice none 0 0], .int .i64 3]) (by simp [results, Tryd.results23, go_sem, r0, r1, r2]) rfl ?_
            exact ⟨_, rfl, ⟨_, below_put3 (QKd.out.later z1).below (Nat.le_refl _)⟩, rfl, OwnI.nil _ _⟩
end Go.Proofs.YtmielpcidhphaaaDoor
