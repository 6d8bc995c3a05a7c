/- A map whose squares are appended one by one; the document's own count of reed around. -/
import Derived.Test.YtmielpcidhphaaaDoorRIsWay
import Derived.Test.YtmielpcidhphaaaDoorDraw
namespace Go.Proofs.YtmielpcidhphaaaDoor
open Go.RowKit

/-- What a loop that appends to a new map keeps: the call's map, the result, the new map, its squares. -/
structure SK (M R : Obj) (W H : Int) (bo : Nat) (v : Value) (l : List Int) (w V : World) : Prop where
  below : Below w.heap.size w V
  boxM : V.heap[w.heap.size]? = some M
  boxR : V.heap[w.heap.size + 1]? = some R
  lo : w.heap.size + 2 ≤ bo
  boxO : V.heap[bo]? = some (.cells #[.int .i64 W, .int .i64 H, v] 24)
  own : OwnI V (w.heap.size + 2) v l
section
variable {M R : Obj} {W H : Int} {bo : Nat} {v v5 : Value} {l l5 : List Int} {w V w5 : World}
theorem SK.later (h : SK M R W H bo v l w V) (x : Later V) : SK M R W H bo v l w x.val :=
  ⟨below_more h.below x.ok, (x.ok.block _ (lt_of_get h.boxM)).trans h.boxM, (x.ok.block _ (lt_of_get h.boxR)).trans h.boxR, h.lo, (x.ok.block _ (lt_of_get h.boxO)).trans h.boxO, h.own.later x⟩
theorem SK.ne (h : SK M R W H bo v l w V) : ∀ g, v.ownBlock = some g → bo ≠ g := own_kind h.own h.boxO (by decide)
/-- The squares have grown. -/
theorem SK.grown (h : SK M R W H bo v l w V) {o : Obj} (hg : (V.alloc o).grownBy w5 v.ownBlock) :
    w5.heap[w.heap.size]? = some M ∧ w5.heap[w.heap.size + 1]? = some R ∧ w5.heap[bo]? = some (.cells #[.int .i64 W, .int .i64 H, v] 24) ∧ Below w.heap.size w w5 := by
  have l1 := lt_of_get h.boxM
  have l2 := lt_of_get h.boxR
  have l3 := lt_of_get h.boxO
  have a : ∀ b, b < V.heap.size → (∀ g, v.ownBlock = some g → b ≠ g) → w5.heap[b]? = V.heap[b]? := fun b hb hn => by
    rw [hg.block b (by simp; omega) (fun e => hn b e.symm rfl), Below.heap_alloc _ _ _ hb]
  refine ⟨(a _ l1 fun g hg' e => by have := (own_lt h.own g hg').1; omega).trans h.boxM, (a _ l2 fun g hg' e => by have := (own_lt h.own g hg').1; omega).trans h.boxR, (a _ l3 h.ne).trans h.boxO, ?_⟩
  exact (h.below.alloc h.below.size o).grown hg (by have := h.below.size; simp; omega) fun k hk => by have := (own_lt h.own k hk).1; omega
theorem SK.push (h : SK M R W H bo v l w V) {o : Obj} (hg : (V.alloc o).grownBy w5 v.ownBlock) (ho : OwnI w5 (w.heap.size + 2) v5 l5) : SK M R W H bo v5 l5 w (w5.setCell ⟨bo, 2, none⟩ v5) := by
  obtain ⟨r1, r2, r3, r4⟩ := h.grown hg
  have hlo := h.lo
  have hne : ∀ g, v5.ownBlock = some g → bo ≠ g := own_kind ho r3 (by decide)
  exact ⟨r4.setCell (p := ⟨bo, 2, none⟩) (by show _ ≤ bo; omega) _, (Below.heap_setCell _ _ _ _ (by show _ ≠ bo; omega)).trans r1, (Below.heap_setCell _ _ _ _ (by show _ ≠ bo; omega)).trans r2, hlo, (set_one r3).trans (by rfl), ho.far hne⟩
end

/-- How many of the first k squares of a list are reed. -/
theorem nbr4_lt {W H i x : Nat} (hW : 1 ≤ W) (hi : i < W * H) (h : x ∈ nbr4 W H i) : x < W * H := by
  rw [← nbrs_eq hW hi] at h; exact nbrs_lt h
set_option maxRecDepth 100000 in
set_option maxHeartbeats 1600000 in
theorem rreeds_any (W H at_ n cap : Nat) (A : Option Addr) (f : Nat → Int) (w : World) (hW : 1 ≤ W) (hW2 : W ≤ 30) (hH : H ≤ 30) (hn : n = W * H) (hat : at_ < W * H) (hp : IsInts w A n f) :
    Gives Tryd.prog 85 #[.agg #[.int .i64 W, .int .i64 H, .slice A n cap], .int .i64 at_] w (.int .i64 (reedsN W H f at_)) := by
  have hn9 : n ≤ 900 := by rw [hn]; exact Nat.mul_le_mul hW2 hH
  have N1 : Hid (∀ w, GivesI 73 #[.agg #[.int .i64 W, .int .i64 H, .slice A n cap], .int .i64 at_] w (natL (nbr4 W H at_))) := fun w => rnbr_any W H at_ n cap A w hW hW2 hH hat
  have HL : Hid (∀ x ∈ nbr4 W H at_, x < n) := fun x hx => by rw [hn]; exact nbr4_lt hW hat hx
  have HR : Hid (reedsN W H f at_ = cntR (nbr4 W H at_) f (nbr4 W H at_).length) := by
    show _ = _
    unfold reedsN cntR; rw [List.take_length, nbrs_eq hW hat]
  have l4 := nbr4_len W H at_
  obtain ⟨b, off, hA, p⟩ := hp.at_ (by omega)
  subst hA
  have P := Lib.hid p
  have lb := p.lt
  generalize nbr4 W H at_ = L at *
  generalize reedsN W H f at_ = r at HR ⊢
  clear hp p hn hat
  go_enter Tryd.func85, Tryd.ntmps85
  go_wp2_with (go_at_call 73; refine Calls.mono (GivesI.calls (N1.out _)) ?_; rintro e w1 ⟨v, rfl, z2, rfl, ho⟩; obtain ⟨A3, cap3, rfl⟩ := ho.shape_n (n := L.length) (natL_length _))
  have ZI := Lib.hid (ho.ints (by rw [natL_length]; omega)).2
  have lz : b < z2.val.heap.size := Nat.lt_of_lt_of_le (by simp; omega) z2.size
  have lz0 : w.heap.size < z2.val.heap.size := Nat.lt_of_lt_of_le (by simp) z2.size
  have cz0 : z2.val.cell? ⟨w.heap.size, 2, none⟩ = some (.slice (some ⟨b, off, none⟩) n cap) := cell_of_heap ((z2.ok.block _ (by simp)).trans (World.alloc_heap_new _ _)) 2 _ rfl
  have PZ : Hid (∀ j, j < n → z2.val.cell? ⟨b, off + j, none⟩ = some (.int .i64 (f j))) := fun j hj => (z2.cell b (off + j) (by simp; omega)).trans ((World.cell?_alloc_lt _ _ _ lb).trans (P.out.at_ j hj))
  have HBZ : Hid (Below w.heap.size w z2.val) := by have h : Below w.heap.size w z2.val := (by repeat (first | exact Below.refl _ _ | (with_reducible assumption) | apply below_later | apply below_alloc | apply below_drew | apply below_drewN)); exact h
  clear ho
  go_loopw [5, 7] (fun u v wr => ∃ j : Nat, j ≤ L.length ∧ u = .int .i64 (cntR L f j) ∧ v = .int .i64 j ∧ ∃ y : Later z2.val, wr = y.val) (fun _ v _ => L.length - (intOf v).toNat)
  case atStart => exact ⟨0, by omega, rfl, rfl, ⟨z2.val, Below.refl _ _⟩, rfl⟩
  case round =>
    obtain ⟨j, hj, rfl, rfl, y, rfl⟩ := hrel
    by_cases hlj : j < L.length
    · have HS := Lib.hid (cntR_step (f := f) (nthL_at hlj))
      have hc := cntR_le L f j
      obtain ⟨g3, o3, hA3, q3⟩ := ZI.out.at_ (by omega)
      subst hA3
      have l3 := q3.lt
      have c3 := q3.at_ j hlj
      rw [natL_nth hlj] at c3
      have hxn := HL.out _ (List.mem_of_getElem? (nthL_at hlj))
      generalize nthL L j = x at *
      have cx := PZ.out x hxn
      clear q3
      generalize hgc : cntR L f j = c at *
      clear hgc
      by_cases hr : f x = 1
      · have HS2 : Hid (cntR L f (j + 1) = c + 1) := by have := HS.out; simp [isReed, hr] at this; exact this
        rw [hr] at cx
        clear hr HS
        go_wp2_with fail
        first | (with_reducible show Code.wp _ _ _ _ (Later.val _); refine wp_region_later_at _ (by kernel_rfl) (by kernel_rfl) ?_) | refine wp_region_later (by kernel_rfl) (by kernel_rfl) ?_
        repeat (go_big_quiet_step ((fail)))
        refine wpQuiet_nil ?_
        intro y3
        go_wp2
        go_roundw
        case rel => exact ⟨j + 1, by omega, by rw [HS2.out]; go_num, by go_num, later_of (by repeat (first | exact Below.refl _ _ | (with_reducible assumption) | apply below_later | apply below_alloc | apply below_drew | apply below_drewN))⟩
        case measure => simp [intOf]; omega
      · have HS2 : Hid (cntR L f (j + 1) = c) := by have := HS.out; simp [isReed, hr] at this; exact this
        have hr2 : (f x == 1) = false := by simpa using hr
        clear hr HS
        go_wp2_with fail
        first | (with_reducible show Code.wp _ _ _ _ (Later.val _); refine wp_region_later_at _ (by kernel_rfl) (by kernel_rfl) ?_) | refine wp_region_later (by kernel_rfl) (by kernel_rfl) ?_
        repeat (go_big_quiet_step ((fail)))
        refine wpQuiet_nil ?_
        intro y3
        go_wp2
        go_roundw
        case rel => exact ⟨j + 1, by omega, by rw [HS2.out], by go_num, later_of (by repeat (first | exact Below.refl _ _ | (with_reducible assumption) | apply below_later | apply below_alloc | apply below_drew | apply below_drewN))⟩
        case measure => simp [intOf]; omega
    · obtain rfl : j = L.length := by omega
      go_wp2
      go_ret
      exact ⟨ret_int (by rw [HR.out]), later_of (below_more HBZ.out y.ok)⟩
end Go.Proofs.YtmielpcidhphaaaDoor
