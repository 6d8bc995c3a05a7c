/- bed.reedNear: how many neighbours are reed. -/
import Derived.Test.YtajfepogecakbaaDoorBoxes
namespace Go.Proofs.YtajfepogecakbaaDoor
open Go.RowKit
attribute [local go_sem] Oper.semAt_some

def isReed (f : Nat → Int) (i : Nat) : Bool := decide (f i = 1)
/-- How many neighbours are reed. -/
def reedsN (W H : Nat) (f : Nat → Int) (i : Nat) : Nat := ((nbrs W H i).filter (isReed f)).length
def cntR (l : List Nat) (f : Nat → Int) (k : Nat) : Nat := ((l.take k).filter (isReed f)).length
theorem cntR_step {l : List Nat} {f : Nat → Int} {k x : Nat} (h : l[k]? = some x) : cntR l f (k + 1) = cntR l f k + if isReed f x then 1 else 0 := by
  unfold cntR
  rw [List.take_add_one, h, Option.toList_some, List.filter_append, List.length_append]
  cases hb : isReed f x <;> simp [hb]
theorem cntR_le (l : List Nat) (f : Nat → Int) (k : Nat) : cntR l f k ≤ k := by
  unfold cntR
  have := List.length_filter_le (isReed f) (l.take k)
  rw [List.length_take] at this
  omega
theorem nbrs_len (W H i : Nat) : (nbrs W H i).length ≤ 9 := by
  have h1 := List.length_filter_le (beside W i) (aroundL W H i)
  have h2 := List.length_filterMap_le (pickP W H i) (List.range 9)
  rw [List.length_range] at h2
  unfold nbrs; unfold aroundL at *; omega
theorem nbrs_lt {W H i x : Nat} (h : x ∈ nbrs W H i) : x < W * H := by
  have h := (List.mem_filter.1 h).1
  obtain ⟨p, _, hp⟩ := List.mem_filterMap.1 h
  unfold pickP at hp
  split at hp
  · rename_i hk
    obtain rfl := Option.some.inj hp
    unfold okP insB at hk
    simp only [Bool.and_eq_true, decide_eq_true_eq] at hk
    obtain ⟨_, h1, h2, h3, h4⟩ := hk
    have m := Int.mul_le_mul (show plY W i p ≤ (H : Int) - 1 by omega) (Int.le_refl (W : Int)) (by omega) (by omega)
    have e : ((H : Int) - 1) * W = ((W * H : Nat) : Int) - W := by rw [Int.sub_mul, Int.one_mul, Int.mul_comm, Int.natCast_mul]
    have m2 := Int.mul_nonneg h3 (show (0 : Int) ≤ W by omega)
    unfold idP
    omega
  · cases hp

set_option maxRecDepth 100000 in
set_option maxHeartbeats 3200000 in
theorem reedNear_any (W H at_ n cap b off : Nat) (f : Nat → Int) (w : World) (hW : 1 ≤ W) (hW2 : W ≤ 30) (hH : H ≤ 30) (hn : n = W * H) (hat : at_ < W * H) (p : Ints w b off n f) :
    Gives Tryd.prog 72 #[.agg #[.int .i64 W, .int .i64 H, .slice (some ⟨b, off, none⟩) n cap], .int .i64 at_] w (.int .i64 (reedsN W H f at_)) := by
  have P := Lib.hid p
  have HN := Lib.hid hn
  clear p hn
  refine (callsIn_wide (n := 0)).1 ?_
  refine callsIn_of_wp_marks Tryd.func72 rfl trivial ?_ rfl
  simp only [Tryd.ntmps72, List.size_toArray, List.length_cons, List.length_nil, Nat.reduceAdd, Nat.reduceSub, Array.replicate_succ, Array.replicate_zero, List.push_toArray, List.append_toArray, List.nil_append, List.cons_append]
  gi_wp2_with (gi_at_call 101; refine (callsIn_wide.2 (neighbours_any W H at_ _ n cap _)).mono ?_; rintro e w' ⟨rfl, rfl⟩)
  obtain ⟨W1, hW1⟩ : ∃ W1, (((w.alloc (.cells #[.int .i64 W, .int .i64 H, .slice (some ⟨b, off, none⟩) n cap] 24)).alloc (.cells #[.int .i64 0] 3)).alloc (.cells #[.int .i64 W, .int .i64 H, .slice (some ⟨b, off, none⟩) n cap] 24)).alloc (.cells #[.int .i64 at_] 3) = W1 := ⟨_, rfl⟩
  rw [hW1]
  have sz : W1.heap.size = w.heap.size + 4 := by rw [← hW1]; simp
  have hb : Below w.heap.size w W1 := by rw [← hW1]; repeat (first | exact Below.refl _ _ | (with_reducible assumption) | apply below_later | apply below_alloc | apply below_drew | apply below_drewN)
  have q1 : W1.heap[w.heap.size]? = some (.cells #[.int .i64 W, .int .i64 H, .slice (some ⟨b, off, none⟩) n cap] 24) := by rw [← hW1]; repeat (first | (rw [get_alloc, if_neg (by simp only [World.size_alloc]; omega)]) | (rw [get_alloc, if_pos (by simp only [World.size_alloc])]))
  have q2 : W1.heap[w.heap.size + 1]? = some (.cells #[.int .i64 0] 3) := by rw [← hW1]; repeat (first | (rw [get_alloc, if_neg (by simp only [World.size_alloc]; omega)]) | (rw [get_alloc, if_pos (by simp only [World.size_alloc])]))
  have q3 : W1.heap[w.heap.size + 1 + 1]? = some (.cells #[.int .i64 W, .int .i64 H, .slice (some ⟨b, off, none⟩) n cap] 24) := by rw [← hW1]; repeat (first | (rw [get_alloc, if_neg (by simp only [World.size_alloc]; omega)]) | (rw [get_alloc, if_pos (by simp only [World.size_alloc])]))
  have q4 : W1.heap[w.heap.size + 1 + 1 + 1]? = some (.cells #[.int .i64 at_] 3) := by rw [← hW1]; repeat (first | (rw [get_alloc, if_neg (by simp only [World.size_alloc]; omega)]) | (rw [get_alloc, if_pos (by simp only [World.size_alloc])]))
  have it := neighbours1_iter W H at_ hW hW2 hH hat (some ⟨b, off, none⟩) n cap W1 (w.heap.size + 1 + 1) (w.heap.size + 1 + 1 + 1) q4 q3
  have BX : Boxes [(w.heap.size + 1, .cells #[.int .i64 ((0 : Nat) : Int)] 3), (w.heap.size, .cells #[.int .i64 W, .int .i64 H, .slice (some ⟨b, off, none⟩) n cap] 24)] (fun x => x = w.heap.size + 1 + 1 + 1 ∨ x = w.heap.size + 1 + 1) w W1 :=
    ⟨fun p hp => by
      simp only [List.mem_cons, List.not_mem_nil, or_false] at hp
      rcases hp with rfl | rfl
      · exact ⟨q2, by simp⟩
      · exact ⟨q1, by simp; omega⟩, hb, fun x hx => by omega⟩
  have IT := Lib.hid it
  have HB := Lib.hid BX
  clear it BX q1 q2 q3 q4 hW1 hb
  obtain ⟨l, hl⟩ : ∃ l, nbrs W H at_ = l := ⟨_, rfl⟩
  have HL : Hid (reedsN W H f at_ = cntR l f l.length) := by
    show _ = _
    rw [← hl]; unfold reedsN cntR; rw [List.take_length]
  have HM : Hid (∀ x ∈ l, x < n) := fun x hx => by rw [HN.out]; rw [← hl] at hx; exact nbrs_lt hx
  have hl9 : l.length ≤ 9 := by rw [← hl]; exact nbrs_len W H at_
  have hn9 : n ≤ 900 := by rw [HN.out]; exact Nat.mul_le_mul hW2 hH
  rw [hl] at IT
  clear hl
  refine' range_law (gf := 109) (lb := #[.pointer (some ⟨w.heap.size + 1 + 1, 0, none⟩), .pointer (some ⟨w.heap.size + 1 + 1 + 1, 0, none⟩)]) rfl (enters_of Tryd.func109 (by kernel_rfl) rfl)
    IT.out (fun x hx => by omega) (fun k hk => valsOf_size hk)
    (fun S k V => Boxes [(w.heap.size + 1, .cells #[.int .i64 ((cntR l f k : Nat) : Int)] 3), (w.heap.size, .cells #[.int .i64 W, .int .i64 H, .slice (some ⟨b, off, none⟩) n cap] 24)] S w V)
    (fun _ _ _ _ => False)
    (fun S T k V V' h ht ho => h.stab ht ho) (fun _ _ _ _ _ _ h _ _ => h.elim) HB.out _ ?assign ?body ?done ?stop
  case assign =>
    intro l2 k V K hk hK
    rw [valsOf_length] at hk
    rw [valsOf_at hk]
    gi_wp2
    exact hK
  case body =>
    rintro l2 T k V hk hbx
    rw [valsOf_length] at hk
    have hx := nthL_at hk
    have hxn := HM.out _ (List.mem_of_getElem? hx)
    have HS := Lib.hid (cntR_step (f := f) hx)
    have hc := cntR_le l f k
    generalize hgx : nthL l k = x at *
    clear hgx hx
    have c0 := cell_of_heap (hbx.get (List.mem_cons_self ..)) 0 _ rfl
    have c2 := cell_of_heap (hbx.get (List.mem_cons_of_mem _ (List.mem_cons_self ..))) 2 _ rfl
    have lv := lt_of_get (hbx.get (List.mem_cons_of_mem _ (List.mem_cons_self ..)))
    have lc := lt_of_get (hbx.get (List.mem_cons_self ..))
    have fc : V.frozen? ⟨w.heap.size + 1, 0, none⟩ = false := by simp [World.frozen?, hbx.get (List.mem_cons_self ..)]
    have cx := (hbx.below.cell (p := ⟨b, off + x, none⟩) P.out.lt).trans (P.out.at_ x hxn)
    have HBX := Lib.hid hbx
    clear hbx
    generalize hgc : cntR l f k = c at *
    clear hgc
    by_cases hr : f x = 1
    · have HS2 : Hid (cntR l f (k + 1) = c + 1) := by have := HS.out; simp [isReed, hr] at this; exact this
      rw [hr] at cx
      clear hr HS
      gi_wp2
      refine ⟨Kept.setCell _ (HBX.out.no (List.mem_cons_self ..)), ?_⟩
      have := HBX.out.set1 (v := .int .i64 ((c : Int) + 1)) (Nat.le_succ _) (fun p hp => by simp at hp; rw [hp]; simp)
      show Boxes ((w.heap.size + 1, Obj.cells #[Value.int .i64 ((cntR l f (k + 1) : Nat) : Int)] 3 (0, 0)) :: _) T w _
      rw [HS2.out]
      exact this
    · have HS2 : Hid (cntR l f (k + 1) = c) := by have := HS.out; simp [isReed, hr] at this; exact this
      have hr2 : (f x == 1) = false := by simpa using hr
      clear hr HS
      gi_wp2
      refine ⟨Kept.refl _ _, ?_⟩
      show Boxes ((w.heap.size + 1, Obj.cells #[Value.int .i64 ((cntR l f (k + 1) : Nat) : Int)] 3 (0, 0)) :: _) T w _
      rw [HS2.out]
      exact HBX.out
  case done =>
    rintro D T V hD hTD hT0 hbx hK
    rw [valsOf_length, ← HL.out] at hbx
    have c0 := cell_of_heap (hbx.get (List.mem_cons_self ..)) 0 _ rfl
    have lc := lt_of_get (hbx.get (List.mem_cons_self ..))
    have HBX := Lib.hid hbx
    clear hbx
    gi_wp2
    refine ⟨by simp, .inl ⟨_, _, rfl, run_takeDeferred hK, ?_⟩⟩
    refine ⟨_, results_tmp rfl _ _ _, rfl, later_of ?_⟩
    exact (HBX.out.put hTD (.deferred none)).below
  case stop => rintro _ _ _ _ _ _ _ _ _ h; exact h.elim
end Go.Proofs.YtajfepogecakbaaDoor
