/- sluice.levelsOf: walked. -/
import Derived.Test.YtelfinjnbncnlaaExtend
import Derived.Test.YtelfinjnbncnlaaSNear
import Derived.Test.YtelfinjnbncnlaaRepeat
import Derived.Deep.LoopGhost
namespace Go.Proofs.Ytelfinjnbncnlaa
open Go.RowKit
attribute [local go_sem] as_out

/-- n pairs from cell off of block b on: a square, a number. -/
structure Prs (w : World) (b off n : Nat) (a : Nat → Nat) (s : Nat → Int) : Prop where
  lt : b < w.heap.size
  x : ∀ i, i < n → w.cell? ⟨b, off + i * 2, none⟩ = some (.int .i64 (a i : Nat))
  y : ∀ i, i < n → w.cell? ⟨b, off + i * 2 + 1, none⟩ = some (.int .i64 (s i))
theorem Prs.later {w : World} {b off n : Nat} {a : Nat → Nat} {s : Nat → Int} (h : Prs w b off n a s) (x : Later w) : Prs x.val b off n a s :=
  ⟨Nat.lt_of_lt_of_le h.lt x.size, fun i hi => (x.cell _ _ h.lt).trans (h.x i hi), fun i hi => (x.cell _ _ h.lt).trans (h.y i hi)⟩
theorem box_two (w : World) (o p : Obj) : ((w.alloc o).alloc p).heap[w.heap.size + 1]? = some p := by
  have := World.alloc_heap_new (w.alloc o) p
  rwa [World.size_alloc] at this
theorem get_lt {w : World} {b : Nat} {o : Obj} (h : w.heap[b]? = some o) : b < w.heap.size := (Array.getElem?_eq_some_iff.1 h).1
theorem HeapAt.later {w : World} {bo base : Nat} {v : Value} {l : List Pt} (h : HeapAt w bo base v l) (x : Later w) : HeapAt x.val bo base v l :=
  ⟨(x.ok.block _ (get_lt h.box)).trans h.box, h.own.later x, h.heap⟩
/-- What levelsOf keeps: the fen's box, the levels, the heap. -/
structure LK (M : Obj) (bo go n : Nat) (L : List Int) (v : Value) (q : List Pt) (w V : World) : Prop where
  below : Below w.heap.size w V
  box : V.heap[w.heap.size]? = some M
  out : OwnI V (w.heap.size + 1) (.slice (some ⟨go, 0, none⟩) n n) L
  len : L.length = n
  heap : HeapAt V bo (bo + 1) v q
  lo : w.heap.size < go ∧ go < bo
section
variable {M : Obj} {bo go n : Nat} {L : List Int} {v v' : Value} {q q' : List Pt} {w V V' : World}
theorem LK.later (h : LK M bo go n L v q w V) (x : Later V) : LK M bo go n L v q w x.val :=
  ⟨below_more h.below x.ok, (x.ok.block _ (get_lt h.box)).trans h.box, h.out.later x, h.len, h.heap.later x, h.lo⟩
theorem LK.set (h : LK M bo go n L v q w V) (ho : Only (HeapSet bo v) V V') (hh : HeapAt V' bo (bo + 1) v' q') : LK M bo go n L v' q' w V' := by
  have l1 := h.lo
  have hS : ∀ b, HeapSet bo v b → bo ≤ b := fun b hb => by
    rcases hb with rfl | hb
    · exact Nat.le_refl _
    · exact Nat.le_trans (Nat.le_succ _) (own_lt h.heap.own b hb).1
  refine ⟨ho.below h.below (fun b hb => by have := hS b hb; omega) h.below.size, (ho.block _ (get_lt h.box) fun k => by have := hS _ k; omega).trans h.box, h.out.moved fun g hg => ?_, h.len, hh, l1⟩
  obtain rfl : go = g := by simpa [Value.ownBlock] using hg
  exact ho.block _ (own_lt h.out go rfl).2 fun k => by have := hS _ k; omega
/-- A level is written. -/
theorem LK.put (h : LK M bo go n L v q w V) {i : Nat} (x : Int) : LK M bo go n (L.set i x) v q w (V.setCell ⟨go, i, none⟩ (.int .i64 x)) := by
  have l1 := h.lo
  refine ⟨h.below.setCell (p := ⟨go, i, none⟩) (by show w.heap.size ≤ go; omega) _, (Below.heap_setCell _ _ _ _ (by show w.heap.size ≠ go; omega)).trans h.box, h.out.set h.len i x, by rw [List.length_set]; exact h.len, ⟨(Below.heap_setCell _ _ _ _ (by show bo ≠ go; omega)).trans h.heap.box, h.heap.own.far fun g hg => ?_, h.heap.heap⟩, l1⟩
  have := (own_lt h.heap.own g hg).1
  show go ≠ g
  omega
end

def unsetN (o : Nat → Int) : Nat → Nat
  | 0 => 0
  | n + 1 => unsetN o n + if o n = -1 then 1 else 0
theorem unset_far {o : Nat → Int} {a : Nat} {x : Int} : ∀ n, n ≤ a → unsetN (fun i => if i = a then x else o i) n = unsetN o n
  | 0, _ => rfl
  | n + 1, h => by
    show unsetN (fun i => if i = a then x else o i) n + (if (if n = a then x else o n) = -1 then 1 else 0) = unsetN o n + if o n = -1 then 1 else 0
    rw [unset_far n (by omega), if_neg (show ¬ n = a by omega)]
theorem unset_put {o : Nat → Int} {a : Nat} {x : Int} (ho : o a = -1) (hx : x ≠ -1) : ∀ n, a < n → unsetN (fun i => if i = a then x else o i) n + 1 = unsetN o n
  | 0, h => by omega
  | n + 1, h => by
    show unsetN (fun i => if i = a then x else o i) n + (if (if n = a then x else o n) = -1 then 1 else 0) + 1 = unsetN o n + if o n = -1 then 1 else 0
    by_cases e : n = a
    · subst e
      rw [unset_far n (Nat.le_refl _), if_pos rfl, if_neg hx, if_pos ho]
    · have := unset_put ho hx n (by omega)
      rw [if_neg e]
      omega
theorem unset_le (o : Nat → Int) : ∀ n, unsetN o n ≤ n
  | 0 => Nat.le_refl _
  | n + 1 => by
    have := unset_le o n
    show unsetN o n + (if o n = -1 then 1 else 0) ≤ n + 1
    split <;> omega
theorem put_fun {L : List Int} {a : Nat} {x : Int} (h : a < L.length) : (fun i => (L.set a x).getD i 0) = fun i => if i = a then x else L.getD i 0 := by
  funext i
  simp only [List.getD_eq_getElem?_getD, List.getElem?_set]
  by_cases e : a = i
  · subst e; simp [h]
  · have : ¬ i = a := fun k => e k.symm
    simp [e, this]
theorem Dij.congr {n k : Nat} {nx : Nat → List Nat} {h : Nat → Int} {sl : List (Nat × Int)} {o o' : Nat → Int} {q : List Pt} {P : Nat → Nat → Prop} (hsl : ∀ i s, (i, s) ∈ sl → i < n) (hnx : ∀ j i, j < n → i ∈ nx j → i < n) (he : ∀ i, i < n → o i = o' i) (d : Dij n nx h sl o q k P) : Dij n nx h sl o' q k P where
  q_ok := d.q_ok
  o_ok i hi ho := by rw [← he i hi] at ho ⊢; exact d.o_ok i hi ho
  order i hi ho p hm := by rw [← he i hi] at ho ⊢; exact d.order i hi ho p hm
  gates i s hm := by rw [← he i (hsl i s (List.mem_of_mem_take hm))]; exact d.gates i s hm
  steps j hj ho i hi hP := by
    rw [← he j hj] at ho ⊢
    rw [← he i (hnx j i hj hi)]
    exact d.steps j hj ho i hi hP
theorem first_mem {q : List Pt} (h : 0 < q.length) : (hx q 0, hy q 0) ∈ q := by
  have e : (hx q 0, hy q 0) = q[0] := by
    unfold hx hy
    rw [List.getD_eq_getElem?_getD, List.getElem?_eq_getElem h]; rfl
  rw [e]; exact List.getElem_mem _
theorem heap_min {l : List Pt} (h : IsHeap l l.length) {p : Pt} (hp : p ∈ l) : hy l 0 ≤ p.2 := by
  obtain ⟨i, hi, e⟩ := List.mem_iff_getElem.1 hp
  have := heap_least h i hi
  have e2 : hy l i = p.2 := by unfold hy; rw [List.getD_eq_getElem?_getD, List.getElem?_eq_getElem hi, e]; rfl
  omega
theorem near_len (W H i : Nat) : (near4 W H i).length ≤ 4 := by
  unfold near4
  simp only [List.length_append]
  have a1 : (if 0 < i / W then [i - W] else []).length ≤ 1 := by split <;> simp
  have a2 : (if 0 < i % W then [i - 1] else []).length ≤ 1 := by split <;> simp
  have a3 : (if i % W + 1 < W then [i + 1] else []).length ≤ 1 := by split <;> simp
  have a4 : (if i / W + 1 < H then [i + W] else []).length ≤ 1 := by split <;> simp
  omega

set_option maxRecDepth 100000 in
set_option maxHeartbeats 6400000 in
theorem levelsOf_any (W H n m capH capS b off sb so : Nat) (h : Nat → Int) (sa : Nat → Nat) (ss : Nat → Int) (w : World) (hW : 1 ≤ W) (hW2 : W ≤ 16) (hH1 : 1 ≤ H) (hH : H ≤ 16) (hn : n = W * H) (hm1 : 1 ≤ m) (hm : m ≤ 20)
    (p : Ints w b off n h) (pq : Prs w sb so m sa ss) (hsa : ∀ i, i < m → sa i < n ∧ 0 ≤ ss i) (hlt : ∀ i j, j ∈ near4 W H i → i < n → j < n)
    (hall : ∀ i, i < n → ∃ x, Leaves n (near4 W H) h ((List.range m).map fun i => (sa i, ss i)) x i) :
    Calls Try.prog 25 #[.agg #[.int .i64 W, .int .i64 H, .slice (some ⟨b, off, none⟩) n capH, .slice (some ⟨sb, so, none⟩) m capS]] w fun e w' => ∃ v L, e = .returned v ∧ ∃ x : Later w, w' = x.val ∧ OwnI w' w.heap.size v L ∧ L.length = n ∧ IsLevel n (near4 W H) h ((List.range m).map fun i => (sa i, ss i)) (fun i => L.getD i 0) ∧ ∀ i, i < n → 0 ≤ L.getD i 0 := by
  have hn9 : n ≤ 256 := by rw [hn]; exact Nat.mul_le_mul hW2 hH
  have hn1 : 1 ≤ n := by rw [hn]; exact Nat.mul_le_mul hW hH1
  have hmul : (W : Int) * (H : Int) = (n : Int) := by rw [hn, Int.natCast_mul]
  have hmb : (W : Int) * (H : Int) ≤ 256 := by omega
  have hm0 : 0 ≤ (W : Int) * (H : Int) := by omega
  have RP : Hid (∀ (w : World) (g0 : Nat), w.cell? ⟨g0, 0, none⟩ = some (.int .i64 (-1)) → Calls Try.prog 36 #[.slice (some ⟨g0, 0, none⟩) 1 1, .int .i64 ((W : Int) * (H : Int))] w fun e w' => ∃ g, e = .returned (.slice (some ⟨g, 0, none⟩) n n) ∧ g = w.heap.size ∧ ∃ y : Later w, w' = y.val ∧ OwnI w' w.heap.size (.slice (some ⟨g, 0, none⟩) n n) (List.replicate n (-1))) := fun w g0 h => by
    rw [hmul]; exact repeat_any g0 0 1 n (-1) w hn1 (by omega) h
  have HP := Lib.hid p
  have HQ := Lib.hid pq
  have HSA := Lib.hid hsa
  have HLT := Lib.hid hlt
  have HALL := Lib.hid hall
  have HN := Lib.hid hn
  have HM := Lib.hid hmul
  obtain ⟨SL, hsl⟩ : ∃ SL, ((List.range m).map fun i => (sa i, ss i)) = SL := ⟨_, rfl⟩
  rw [hsl] at HALL ⊢
  have HSL : Hid (∀ k, k < m → SL[k]? = some (sa k, ss k)) := fun k hk => by rw [← hsl]; simp [hk]
  have HSN : Hid (SL.length = m) := by show _ = _; rw [← hsl]; simp
  clear p pq hsa hlt hall hn hmul hsl
  go_enter Try.func25, Try.ntmps25
  go_wp2_with (go_at_call 36; refine Calls.mono (RP.out _ _ (cell_of_heap (box_two w _ _) 0 _ rfl)) ?_; rintro e w1 ⟨g, rfl, hg, y, rfl, ho⟩; have M0 : y.val.heap[w.heap.size]? = some (.cells #[.int .i64 W, .int .i64 H, .slice (some ⟨b, off, none⟩) n capH, .slice (some ⟨sb, so, none⟩) m capS] 25) := (y.ok.block _ (by simp only [World.size_alloc]; omega)).trans ((Below.heap_alloc _ _ _ (by simp)).trans (World.alloc_heap_new _ _)); have lM := get_lt M0; have m0 := cell_of_heap M0 0 _ rfl; have m1 := cell_of_heap M0 1 _ rfl; have m2 := cell_of_heap M0 2 _ rfl; have m3 := cell_of_heap M0 3 _ rfl)
  obtain ⟨bo, hbo⟩ : ∃ bo, y.val.heap.size = bo := ⟨_, rfl⟩
  have hys := y.size
  simp only [World.size_alloc] at hys hg
  subst hg
  have lk0 : LK (.cells #[.int .i64 W, .int .i64 H, .slice (some ⟨b, off, none⟩) n capH, .slice (some ⟨sb, so, none⟩) m capS] 25) bo (w.heap.size + 1 + 1) n (List.replicate n (-1)) (.slice none 0 0) [] w (y.val.alloc (.cells #[.slice none 0 0] 69)) := by
    refine ⟨by repeat (first | exact Below.refl _ _ | (with_reducible assumption) | apply below_later | apply below_alloc | apply below_drew | apply below_drewN), ?_, (ho.alloc _).mono (by simp), by simp, ⟨by rw [← hbo]; exact World.alloc_heap_new _ _, OwnO.nil _ _, fun i _ k => by simp at k⟩, ⟨by omega, by have t : w.heap.size + 1 + 1 < y.val.heap.size := (own_lt ho _ rfl).2; omega⟩⟩
    rw [Below.heap_alloc _ _ _ (by omega), y.ok.block _ (by simp only [World.size_alloc]; omega), Below.heap_alloc _ _ _ (by simp)]
    exact World.alloc_heap_new _ _
  have LK0 := Lib.hid lk0
  rw [hbo]
  clear lk0 ho hbo hys M0 lM m0 m1 m2 m3
  generalize y.val.alloc (.cells #[.slice none 0 0] 69) = V0 at *
  obtain ⟨go, hgo⟩ : ∃ go, w.heap.size + 1 + 1 = go := ⟨_, rfl⟩
  rw [hgo] at LK0 ⊢
  clear hgo
  go_loopw [22] (fun u wr => ∃ (k : Nat) (v : Value) (q : List Pt), u = .int .i64 k ∧ k ≤ m ∧ q.length = k ∧ LK (.cells #[.int .i64 W, .int .i64 H, .slice (some ⟨b, off, none⟩) n capH, .slice (some ⟨sb, so, none⟩) m capS] 25) bo go n (List.replicate n (-1)) v q w wr ∧ Dij n (near4 W H) h SL (fun _ => -1) q k (fun _ _ => False)) (fun u _ => m - (intOf u).toNat)
  case atStart => exact ⟨0, _, [], rfl, by omega, rfl, LK0.out, dij_start⟩
  case round =>
    obtain ⟨k, v, q, rfl, hk, hq, lk, dj⟩ := hrel
    have LKH := Lib.hid lk
    have DJ := Lib.hid dj
    clear lk dj LK0
    by_cases hlt : k < m
    · obtain ⟨sa1, sa2⟩ := HSA.out k hlt
      have cx := (HQ.out.later ⟨wr, LKH.out.below⟩).x k hlt
      have cy := (HQ.out.later ⟨wr, LKH.out.below⟩).y k hlt
      have lsb := (HQ.out.later ⟨wr, LKH.out.below⟩).lt
      have hsk := HSL.out k hlt
      generalize sa k = a at *
      generalize ss k = s at *
      have HSK := Lib.hid hsk
      clear hsk
      go_wp2_with (go_at_call 48; refine Calls.mono (extend_any bo (bo + 1) w.heap.size b off n capH a s h v q _ sa1 (by omega) (by have := get_lt LKH.out.heap.box; simp only [World.size_alloc]; omega) (cell_of_heap (LKH.out.later ⟨_, by repeat (first | exact Below.refl _ _ | (with_reducible assumption) | apply below_later | apply below_alloc | apply below_drew | apply below_drewN)⟩).box 2 _ rfl) (HP.out.later ⟨_, below_more LKH.out.below (by repeat (first | exact Below.refl _ _ | (with_reducible assumption) | apply below_later | apply below_alloc | apply below_drew | apply below_drewN))⟩) hn9 (LKH.out.heap.later ⟨_, by repeat (first | exact Below.refl _ _ | (with_reducible assumption) | apply below_later | apply below_alloc | apply below_drew | apply below_drewN)⟩)) ?_; rintro e w1 ⟨rfl, v1, q1, p1, o1, h1, g1⟩; have LK1 := Lib.hid ((LKH.out.later ⟨_, by repeat (first | exact Below.refl _ _ | (with_reducible assumption) | apply below_later | apply below_alloc | apply below_drew | apply below_drewN)⟩).set o1 h1); have P1 := Lib.hid p1; clear p1 o1 h1 g1)
      go_roundw
      case rel => exact ⟨k + 1, v1, q1, by go_num, by omega, by rw [P1.out.length_eq]; simp; omega, LK1.out, (DJ.out.gate HSK.out sa1 sa2).perm P1.out⟩
      case measure => simp [intOf]; omega
    · obtain rfl : k = m := by omega
      clear hlt
      go_wp2_with fail
      go_loopg [] (k + 5 * unsetN (fun i => (List.replicate n (-1 : Int)).getD i 0) n) (fun num wr => ∃ (v : Value) (q : List Pt) (L : List Int), num = q.length + 5 * unsetN (fun i => L.getD i 0) n ∧ q.length + 4 * unsetN (fun i => L.getD i 0) n ≤ k + 4 * n ∧ LK (.cells #[.int .i64 W, .int .i64 H, .slice (some ⟨b, off, none⟩) n capH, .slice (some ⟨sb, so, none⟩) k capS] 25) bo go n L v q w wr ∧ Dij n (near4 W H) h SL (fun i => L.getD i 0) q k (fun _ _ => False))
      case atStart =>
        have e : ∀ i, i < n → (-1 : Int) = (List.replicate n (-1 : Int)).getD i 0 := fun i hi => by rw [List.getD_eq_getElem?_getD, List.getElem?_replicate, if_pos hi]; rfl
        have u := unset_le (fun i => (List.replicate n (-1 : Int)).getD i 0) n
        refine ⟨v, q, List.replicate n (-1), by rw [hq], by omega, LKH.out, DJ.out.congr (fun i s hm => ?_) (fun j i hj hi => HLT.out j i hi hj) e⟩
        obtain ⟨t, ht, et⟩ := List.mem_iff_getElem.1 hm
        rw [HSN.out] at ht
        have e1 := HSL.out t ht
        rw [List.getElem?_eq_getElem (by rw [HSN.out]; exact ht), et] at e1
        simp only [Option.some.injEq, Prod.mk.injEq] at e1
        rw [e1.1]
        exact (HSA.out t ht).1
      case round =>
        obtain ⟨v, q, L, hnum, hbd, lk, dj⟩ := hrel
        obtain ⟨A, cap, rfl⟩ := lk.heap.own.shape
        have ch := cell_of_heap lk.heap.box 0 _ rfl
        have lbo := get_lt lk.heap.box
        have lg := (own_lt lk.out go rfl).2
        have LK2 := Lib.hid lk
        have DJ2 := Lib.hid dj
        obtain ⟨len, hlen⟩ : ∃ len, q.length = len := ⟨_, rfl⟩
        rw [hlen] at ch hnum hbd
        rw [hlen] at LK2
        clear lk dj
        rcases Nat.eq_zero_or_pos len with h0 | h0
        · subst h0
          have hq : q = [] := List.length_eq_zero_iff.1 hlen
          subst hq
          go_wp2_with fail
          go_ret
          obtain ⟨lv, l0⟩ := DJ2.out.level (by rw [HSN.out]; exact Nat.le_refl _) HALL.out
          exact ⟨_, L, rfl, ⟨_, LK2.out.below⟩, rfl, LK2.out.out.mono (by omega), LK2.out.len, lv, l0⟩
        · obtain ⟨k1, rfl⟩ : ∃ k1, len = k1 + 1 := ⟨len - 1, by omega⟩
          obtain ⟨a, ea, x0, la⟩ := DJ2.out.q_ok _ (first_mem (by omega))
          have an := la.lt
          have PO : Hid (∀ W, HeapAt W bo (bo + 1) (.slice A (k1 + 1) cap) q → Calls Try.prog 50 #[.iface 71 (.pointer (some ⟨bo, 0, none⟩))] W fun e w' =>
              e = .returned (.iface 73 (.agg #[.int .i64 a, .int .i64 (hy q 0)])) ∧ ∃ v' l', (l' ++ [((a : Int), hy q 0)]).Perm q ∧ Only (HeapSet bo (.slice A (k1 + 1) cap)) W w' ∧ HeapAt w' bo (bo + 1) v' l' ∧ v'.ownBlock = (Value.slice A (k1 + 1) cap).ownBlock) := fun W hh => by
            have := pop_any bo (bo + 1) k1 (.slice A (k1 + 1) cap) q W hlen (by omega) hh
            have ea' : hx q 0 = (a : Int) := ea
            rwa [ea'] at this
          have MIN : Hid (∀ p, p ∈ q → hy q 0 ≤ p.2) := fun p hp => heap_min LK2.out.heap.heap hp
          have x0' : 0 ≤ hy q 0 := x0
          clear ea x0 la
          generalize hy q 0 = x at *
          have HLEN := Lib.hid hlen
          obtain ⟨oa, hoa⟩ : ∃ oa, L.getD a 0 = oa := ⟨_, rfl⟩
          have HOA := Lib.hid hoa
          clear hlen hoa
          by_cases hs : oa = -1
          · subst hs
            obtain ⟨ng1, ng2⟩ := LK2.out.lo
            have ng3 : w.heap.size ≠ go := by omega
            have ng4 : go ≠ w.heap.size := by omega
            obtain ⟨nl, hnl⟩ : ∃ nl, (near4 W H a).length = nl := ⟨_, rfl⟩
            have HNL : Hid ((natN (near4 W H a)).length = nl) := by show _ = _; rw [← hnl]; simp [natN]
            have nl4 : nl ≤ 4 := hnl ▸ near_len W H a
            have HNL2 := Lib.hid hnl
            clear hnl
            go_wp2_with (first
              | (go_at_call 50; refine Calls.mono (PO.out _ LK2.out.heap) ?_; rintro e w1 ⟨rfl, v1, q1, p1, o1, h1, g1⟩; have LK3 := Lib.hid (LK2.out.set o1 h1); have P1 := Lib.hid p1; have G1 := Lib.hid g1; obtain ⟨ca, fa⟩ := LK3.out.out.cell LK3.out.len an; rw [HOA.out] at ca; have fa1 := fa a; have lg1 := (own_lt LK3.out.out go rfl).2; have lbo1 := get_lt LK3.out.heap.box; have lM := get_lt LK3.out.box; have m0 := cell_of_heap LK3.out.box 0 _ rfl; have m1 := cell_of_heap LK3.out.box 1 _ rfl; clear p1 o1 h1 g1 fa)
              | (go_at_call 51; refine Calls.mono (GivesI.calls (near_any W H a _ hW hW2 hH (HN.out ▸ an))) ?_; rintro e w2 ⟨vn, rfl, yn, rfl, hon⟩; obtain ⟨AN, capN, rfl⟩ := hon.shape_n (n := nl) HNL.out; have HON := Lib.hid hon; clear hon))
            have l1 : q1.length = k1 := by have := P1.out.length_eq; rw [HLEN.out] at this; simpa using this
            have ORD : Hid (∀ j, j < n → L.getD j 0 ≠ -1 → L.getD j 0 ≤ x) := fun j hj ho => (DJ2.out.perm P1.out).order j hj ho _ (List.mem_append_right _ (List.mem_singleton.2 rfl))
            have DJ3 := Lib.hid ((DJ2.out.perm P1.out).found an HOA.out fun p hp => MIN.out p (P1.out.mem_iff.1 (List.mem_append_left _ hp))).begin_
            have UN : Hid (unsetN (fun i => (L.set a x).getD i 0) n + 1 = unsetN (fun i => L.getD i 0) n) := by show _ = _; rw [put_fun (by rw [LK3.out.len]; exact an)]; exact unset_put HOA.out (by omega) n an
            have LK4 := Lib.hid (((LK3.out.put (i := a) x).later ⟨_, by repeat (first | exact Below.refl _ _ | (with_reducible assumption) | apply below_later | apply below_alloc | apply below_drew | apply below_drewN)⟩).later yn)
            have b8box : Hid (yn.val.heap[w1.heap.size]? = some (.cells #[.int .i64 a, .int .i64 x] 73)) := by
              show _ = _
              rw [yn.ok.block _ (by simp)]
              have := World.alloc_heap_new (w1.setCell ⟨go, a, none⟩ (.int .i64 x)) (.cells #[.int .i64 a, .int .i64 x] 73)
              simpa using this
            have V1 : Hid (∀ g', v1.ownBlock = some g' → g' < w1.heap.size) := fun g' hg => (own_lt LK3.out.heap.own g' hg).2
            have HON2 := Lib.hid (HON.out.mono (base' := w1.heap.size + 1) (by simp))
            have lo8 : bo < w1.heap.size := get_lt LK3.out.heap.box
            have OPUT : Hid ((fun i => (L.set a x).getD i 0) = fun i => if i = a then x else L.getD i 0) := put_fun (by rw [LK3.out.len]; exact an)
            have HX0 := Lib.hid x0'
            obtain ⟨b8, hb8⟩ : ∃ b8, w1.heap.size = b8 := ⟨_, rfl⟩
            rw [hb8] at b8box V1 HON2 lo8 ⊢
            have SZ8 : Hid (b8 < yn.val.heap.size) := hb8 ▸ get_lt (hb8 ▸ b8box.out)
            clear ca fa1 lg1 lbo1 lM m0 m1 hb8 HON
            generalize yn.val = V3 at *
            go_loopw [59] (fun u wr => ∃ (j : Nat) (v : Value) (q : List Pt), u = .int .i64 j ∧ j ≤ nl ∧ q.length = k1 + j ∧ LK (.cells #[.int .i64 W, .int .i64 H, .slice (some ⟨b, off, none⟩) n capH, .slice (some ⟨sb, so, none⟩) k capS] 25) bo go n (L.set a x) v q w wr ∧ wr.heap[b8]? = some (.cells #[.int .i64 a, .int .i64 x] 73) ∧ OwnI wr (b8 + 1) (.slice AN nl capN) (natN (near4 W H a)) ∧ (∀ g', v.ownBlock = some g' → g' ≠ b8 ∧ (Value.slice AN nl capN).ownBlock ≠ some g') ∧ Dij n (near4 W H) h SL (fun i => if i = a then x else L.getD i 0) q k (fun j' b => j' = a ∧ b ∈ (near4 W H a).drop j)) (fun u _ => nl - (intOf u).toNat)
            case atStart =>
              refine ⟨0, v1, q1, rfl, by omega, by rw [l1]; rfl, LK4.out, b8box.out, HON2.out, fun g' hg => ⟨by have := V1.out g' hg; omega, fun e => ?_⟩, DJ3.out⟩
              have := (own_lt HON2.out g' e).1
              have := V1.out g' hg
              omega
            case round =>
              obtain ⟨j, v5, q5, rfl, hj, hq5, lk5, hb5, on5, ne5, dj5⟩ := hrel
              have LK5 := Lib.hid lk5
              have ON5 := Lib.hid on5
              have NE5 := Lib.hid ne5
              have DJ5 := Lib.hid dj5
              have B5 := Lib.hid hb5
              have m0 := cell_of_heap lk5.box 0 _ rfl
              have e8 := cell_of_heap hb5 1 _ rfl
              have l8 := get_lt hb5
              clear lk5 on5 ne5 dj5 hb5
              by_cases hlt : j < nl
              · obtain ⟨gb, gf, hAN, pN⟩ := (ON5.out.ints (by rw [HNL.out]; omega)).2.at_ (by omega)
                subst hAN
                have cN := pN.at_ j hlt
                have lN := pN.lt
                obtain ⟨i, hi⟩ : ∃ i, (near4 W H a)[j]? = some i := ⟨_, List.getElem?_eq_getElem (by rw [HNL2.out]; exact hlt)⟩
                have ei : (natN (near4 W H a)).getD j 0 = (i : Int) := by rw [List.getD_eq_getElem?_getD, natN, List.getElem?_map, hi]; rfl
                rw [ei] at cN
                have hin : i < n := HLT.out a i (List.mem_of_getElem? hi) an
                have HI := Lib.hid hi
                clear pN ei hi
                go_wp2_with (go_at_call 48; refine Calls.mono (extend_any bo (bo + 1) w.heap.size b off n capH i x h v5 q5 _ hin (by omega) (get_lt LK5.out.heap.box) (cell_of_heap LK5.out.box 2 _ rfl) (HP.out.later ⟨_, LK5.out.below⟩) hn9 LK5.out.heap) ?_; rintro e w6 ⟨rfl, v6, q6, p6, o6, h6, g6⟩; have LK6 := Lib.hid (LK5.out.set o6 h6); have P6 := Lib.hid p6; have O6 := Lib.hid o6; have G6 := Lib.hid g6; clear p6 o6 h6 g6)
                have nb : ∀ t, t < wr.heap.size → b8 ≤ t → (v5.ownBlock ≠ some t) → w6.heap[t]? = wr.heap[t]? := fun t t1 t2 t3 => O6.out.block t t1 fun e => by
                  rcases e with e | e
                  · omega
                  · exact t3 e
                have DN := DJ5.out.near an (by show (if a = a then x else _) ≠ -1; rw [if_pos rfl]; have := HX0.out; omega) HI.out hin (fun j' hj' ho' => by
                  show (if j' = a then x else L.getD j' 0) ≤ (if a = a then x else _)
                  rw [if_pos rfl]
                  by_cases e : j' = a
                  · rw [if_pos e]; exact Int.le_refl _
                  · rw [if_neg e]
                    have h9 : (if j' = a then x else L.getD j' 0) ≠ -1 := ho'
                    rw [if_neg e] at h9
                    exact ORD.out j' hj' h9)
                have ex : (if a = a then x else L.getD a 0) = x := if_pos rfl
                have DN2 := DN.perm (q' := q6) (by have t := P6.out; show List.Perm q6 (q5 ++ [((i : Int), max (if a = a then x else L.getD a 0) (h i))]); rw [ex]; exact t)
                have DNH := Lib.hid DN2
                clear DN DN2
                go_roundw
                case rel =>
                  refine ⟨j + 1, v6, q6, by go_num, by omega, by rw [P6.out.length_eq]; simp; omega, LK6.out, (nb b8 l8 (Nat.le_refl _) fun e => (NE5.out b8 e).1 rfl).trans B5.out, ON5.out.moved fun g' hg => nb g' (own_lt ON5.out g' hg).2 (by have := (own_lt ON5.out g' hg).1; omega) fun e => (NE5.out g' e).2 hg, fun g' hg => ?_, DNH.out⟩
                  rcases G6.out g' hg with e | e
                  · exact NE5.out g' e
                  · exact ⟨by omega, fun e2 => by have := (own_lt ON5.out g' e2).2; omega⟩
                case measure => simp [intOf]; omega
              · obtain rfl : j = nl := by omega
                have U := UN.out
                go_wp2_with fail
                go_roundg (k1 + j + 5 * unsetN (fun i => (L.set a x).getD i 0) n)
                case measure => omega
                case rel => exact ⟨v5, q5, L.set a x, by rw [hq5], by omega, LK5.out, by rw [OPUT.out]; exact DJ5.out.end_ (by rw [HNL2.out]; exact Nat.le_refl _)⟩
          · have hs2 : (oa != -1) = true := by simpa using hs
            go_wp2_with (go_at_call 50; refine Calls.mono (PO.out _ LK2.out.heap) ?_; rintro e w1 ⟨rfl, v1, q1, p1, o1, h1, g1⟩; have LK3 := Lib.hid (LK2.out.set o1 h1); have P1 := Lib.hid p1; obtain ⟨ca, fa⟩ := LK3.out.out.cell LK3.out.len an; rw [HOA.out] at ca; have lg1 := (own_lt LK3.out.out go rfl).2; clear p1 o1 h1 g1 fa)
            have l1 : q1.length = k1 := by have := P1.out.length_eq; rw [HLEN.out] at this; simpa using this
            go_roundg (k1 + 5 * unsetN (fun i => L.getD i 0) n)
            case measure => omega
            case rel => exact ⟨v1, q1, L, by rw [l1], by omega, LK3.out.later ⟨_, by repeat (first | exact Below.refl _ _ | (with_reducible assumption) | apply below_later | apply below_alloc | apply below_drew | apply below_drewN)⟩, (DJ2.out.perm P1.out).skip an (by rw [HOA.out]; exact hs)⟩
end Go.Proofs.Ytelfinjnbncnlaa
