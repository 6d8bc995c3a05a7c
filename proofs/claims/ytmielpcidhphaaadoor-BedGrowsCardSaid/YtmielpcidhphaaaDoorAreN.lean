/- bed.areNeighbours: is one square next to another? -/
import Derived.Test.YtmielpcidhphaaaDoorReedNear
import Derived.Test.YtmielpcidhphaaaDoorMarks
import Derived.Test.YtmielpcidhphaaaDoorGroupsKeep
namespace Go.Proofs.YtmielpcidhphaaaDoor
open Go.RowKit
attribute [local go_sem] Oper.semAt_some

def hasN (l : List Nat) (b : Nat) : Bool := l.any fun x => decide (x = b)
theorem hasN_iff {l : List Nat} {b : Nat} : hasN l b = true ↔ b ∈ l := by
  unfold hasN
  rw [List.any_eq_true]
  exact ⟨fun ⟨x, h1, h2⟩ => by rw [decide_eq_true_eq] at h2; exact h2 ▸ h1, fun h => ⟨b, h, by simp⟩⟩

set_option maxRecDepth 100000 in
set_option maxHeartbeats 3200000 in
theorem areN_any (W H at_ n cap b : Nat) (A : Option Addr) (w : World) (hW : 1 ≤ W) (hW2 : W ≤ 30) (hH : H ≤ 30) (hat : at_ < W * H) :
    Gives Tryd.prog 94 #[.agg #[.int .i64 W, .int .i64 H, .slice A n cap], .int .i64 at_, .int .i64 b] w (.bool (hasN (nbrs W H at_) b)) := by
  obtain ⟨r, hr⟩ : ∃ r, hasN (nbrs W H at_) b = r := ⟨_, rfl⟩
  have HRR := Lib.hid hr
  rw [hr]
  clear hr
  refine (callsIn_wide (n := 0)).1 ?_
  refine callsIn_of_wp_marks Tryd.func94 rfl trivial ?_ rfl
  simp only [Tryd.ntmps94, List.size_toArray, List.length_cons, List.length_nil, Nat.reduceAdd, Nat.reduceSub, Array.replicate_succ, Array.replicate_zero, List.push_toArray, List.append_toArray, List.nil_append, List.cons_append]
  gi_wp2_with (gi_at_call 101; refine (callsIn_wide.2 (neighbours_any W H at_ _ n cap _)).mono ?_; rintro e w' ⟨rfl, rfl⟩)
  obtain ⟨W1, hW1⟩ : ∃ W1, ((((w.alloc (.cells #[.int .i64 W, .int .i64 H, .slice A n cap] 24)).alloc (.cells #[.int .i64 b] 3)).alloc (.cells #[.bool false] 4)).alloc (.cells #[.int .i64 W, .int .i64 H, .slice A n cap] 24)).alloc (.cells #[.int .i64 at_] 3) = W1 := ⟨_, rfl⟩
  rw [hW1]
  have sz : W1.heap.size = w.heap.size + 5 := by rw [← hW1]; simp
  have hb : Below w.heap.size w W1 := by rw [← hW1]; repeat (first | exact Below.refl _ _ | (with_reducible assumption) | apply below_later | apply below_alloc | apply below_drew | apply below_drewN)
  have q1 : W1.heap[w.heap.size + 1]? = some (.cells #[.int .i64 b] 3) := by rw [← hW1]; repeat (first | (rw [get_alloc, if_neg (by simp only [World.size_alloc]; omega)]) | (rw [get_alloc, if_pos (by simp only [World.size_alloc])]))
  have q2 : W1.heap[w.heap.size + 1 + 1]? = some (.cells #[.bool false] 4) := by rw [← hW1]; repeat (first | (rw [get_alloc, if_neg (by simp only [World.size_alloc]; omega)]) | (rw [get_alloc, if_pos (by simp only [World.size_alloc])]))
  have q3 : W1.heap[w.heap.size + 1 + 1 + 1]? = some (.cells #[.int .i64 W, .int .i64 H, .slice A n cap] 24) := by rw [← hW1]; repeat (first | (rw [get_alloc, if_neg (by simp only [World.size_alloc]; omega)]) | (rw [get_alloc, if_pos (by simp only [World.size_alloc])]))
  have q4 : W1.heap[w.heap.size + 1 + 1 + 1 + 1]? = some (.cells #[.int .i64 at_] 3) := by rw [← hW1]; repeat (first | (rw [get_alloc, if_neg (by simp only [World.size_alloc]; omega)]) | (rw [get_alloc, if_pos (by simp only [World.size_alloc])]))
  have it := neighbours1_iter W H at_ hW hW2 hH hat A n cap W1 (w.heap.size + 1 + 1 + 1) (w.heap.size + 1 + 1 + 1 + 1) q4 q3
  have BX : Boxes [(w.heap.size + 1 + 1, .cells #[.bool false] 4), (w.heap.size + 1, .cells #[.int .i64 b] 3)] (fun x => x = w.heap.size + 1 + 1 + 1 + 1 ∨ x = w.heap.size + 1 + 1 + 1) w W1 :=
    ⟨fun p hp => by
      simp only [List.mem_cons, List.not_mem_nil, or_false] at hp
      rcases hp with rfl | rfl
      · exact ⟨q2, by simp⟩
      · exact ⟨q1, by simp⟩, hb, fun x hx => by omega⟩
  have IT := Lib.hid it
  have HB := Lib.hid BX
  clear it BX q1 q2 q3 q4 hW1 hb
  obtain ⟨l, hl⟩ : ∃ l, nbrs W H at_ = l := ⟨_, rfl⟩
  have HL := Lib.hid hl
  have hl9 : l.length ≤ 9 := by rw [← hl]; exact nbrs_len W H at_
  rw [hl] at IT HRR
  clear hl
  refine' range_law (gf := 109) (lb := #[.pointer (some ⟨w.heap.size + 1 + 1 + 1, 0, none⟩), .pointer (some ⟨w.heap.size + 1 + 1 + 1 + 1, 0, none⟩)]) rfl (enters_of Tryd.func109 (by kernel_rfl) rfl)
    IT.out (fun x hx => by omega) (fun k hk => valsOf_size hk)
    (fun S k V => Boxes [(w.heap.size + 1 + 1, .cells #[.bool false] 4), (w.heap.size + 1, .cells #[.int .i64 b] 3)] S w V ∧ b ∉ l.take k)
    (fun S k c V => c = Code.ret ∧ Boxes [(w.heap.size + 1 + 1, .cells #[.bool true] 4), (w.heap.size + 1, .cells #[.int .i64 b] 3)] S w V ∧ b ∈ l)
    (fun S T k V V' h ht ho => ⟨h.1.stab ht ho, h.2⟩) (fun c S T k V V' h ht ho => ⟨h.1, h.2.1.stab ht ho, h.2.2⟩) ⟨HB.out, by simp⟩ _ ?assign ?body ?done ?stop
  case assign =>
    intro l2 k V K hk hK
    rw [valsOf_length] at hk
    rw [valsOf_at hk]
    gi_wp2
    exact hK
  case body =>
    rintro l2 T k V hk ⟨hbx, hno⟩
    rw [valsOf_length] at hk
    have hx := nthL_at hk
    have HX := Lib.hid hx
    generalize hgx : nthL l k = x at *
    clear hgx hx
    have c0 := cell_of_heap (hbx.get (List.mem_cons_self ..)) 0 _ rfl
    have c1 := cell_of_heap (hbx.get (List.mem_cons_of_mem _ (List.mem_cons_self ..))) 0 _ rfl
    have lv := lt_of_get (hbx.get (List.mem_cons_of_mem _ (List.mem_cons_self ..)))
    have lc := lt_of_get (hbx.get (List.mem_cons_self ..))
    have fc := thaw_get (hbx.get (List.mem_cons_self ..)) 0
    have HBX := Lib.hid hbx
    have HNO := Lib.hid hno
    clear hbx hno
    by_cases hr : x = b
    · subst hr
      gi_wp2
      exact ⟨Kept.setCell _ (HBX.out.no (List.mem_cons_self ..)), rfl, HBX.out.set1 (by omega) (fun p hp => by simp at hp; rw [hp]; simp), List.mem_of_getElem? HX.out⟩
    · have hr2 : ((x : Int) == (b : Int)) = false := by simp; omega
      gi_wp2
      refine ⟨Kept.refl _ _, HBX.out, fun hm => ?_⟩
      rw [List.take_add_one, HX.out, Option.toList_some] at hm
      rcases List.mem_append.1 hm with h | h
      · exact HNO.out h
      · exact hr (List.mem_singleton.1 h).symm
  case done =>
    rintro D T V hD hTD hT0 ⟨hbx, hno⟩ hK
    rw [valsOf_length, List.take_length] at hno
    have c0 := cell_of_heap (hbx.get (List.mem_cons_self ..)) 0 _ rfl
    have lc := lt_of_get (hbx.get (List.mem_cons_self ..))
    have fc := thaw_get (hbx.get (List.mem_cons_self ..)) 0
    have HBX := Lib.hid hbx
    have HR : Hid (r = false) := by show _ = _; rw [← HRR.out, Bool.eq_false_iff]; exact fun h => hno (hasN_iff.1 h)
    have HK := Lib.hid hK
    clear hbx hno hK
    gi_wp2
    have bx2 := HBX.out.set1 (v := .bool false) (by omega) (fun p hp => by simp at hp; rw [hp]; simp)
    have hD2 : (V.setCell ⟨w.heap.size + 1 + 1, 0, none⟩ (.bool false)).heap[D]? = some (.deferred (some [])) := (Below.heap_setCell V ⟨w.heap.size + 1 + 1, 0, none⟩ _ D (fun e => HBX.out.no (List.mem_cons_self ..) (show T (w.heap.size + 1 + 1) from (show D = w.heap.size + 1 + 1 from e) ▸ hTD))).trans HK.out
    refine ⟨by simp, .inl ⟨_, _, rfl, run_takeDeferred hD2, ?_⟩⟩
    have bx3 := bx2.put hTD (.deferred none)
    have r0 := cell_of_heap (bx3.get (List.mem_cons_self ..)) 0 _ rfl
    exact ⟨.bool false, by simp [results, Tryd.results94, go_sem, r0], by rw [HR.out], later_of bx3.below⟩
  case stop =>
    rintro D c T k V hk hD hTD hT0 ⟨rfl, hbx, hm⟩ hK
    have HBX := Lib.hid hbx
    have HR : Hid (r = true) := HRR.out.symm.trans (hasN_iff.2 hm)
    have HK := Lib.hid hK
    clear hbx hm hK
    gi_wp2
    refine ⟨by simp, .inl ⟨_, _, rfl, run_takeDeferred HK.out, ?_⟩⟩
    have bx3 := HBX.out.put hTD (.deferred none)
    have r0 := cell_of_heap (bx3.get (List.mem_cons_self ..)) 0 _ rfl
    exact ⟨.bool true, by simp [results, Tryd.results94, go_sem, r0], by rw [HR.out], later_of bx3.below⟩
end Go.Proofs.YtmielpcidhphaaaDoor
