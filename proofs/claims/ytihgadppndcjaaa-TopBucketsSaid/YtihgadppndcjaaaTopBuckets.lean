/- TopBuckets: what its loop keeps. -/
import Derived.Test.YtihgadppndcjaaaSMore
import Derived.Test.YtihgadppndcjaaaSAfter
namespace Go.Proofs.Ytihgadppndcjaaa
open Go.RowKit

theorem settle_bound (W H n cap : Nat) (A : Option Addr) (f : Nat → Int) (w : World) (hp : IsInts w A n f) (hv : bucketsB W H n f = true) :
    Calls Try.prog 42 #[.int .i64 W, .int .i64 H, .slice A n cap] w fun e w' => ∃ v1 v2 b o, e = .returned (.tuple #[v1, v2, .int .i64 0]) ∧ ∃ x : Later w, w' = x.val ∧ OwnI w' w.heap.size v1 b ∧ OwnI w' w.heap.size v2 o ∧ Rests W H n f b o ∧ ∀ q, q < n → 0 ≤ o.getD q 0 ∧ o.getD q 0 ≤ 3276800 := by
  have hf := buckets_facts hv
  have hn : n = W * H := by
    have := hf.2.1
    rw [← Int.natCast_mul] at this; omega
  refine Calls.mono (Settle_ok W H n cap A f w hp hv) ?_
  rintro e w' ⟨v1, v2, b, o, k, rfl, x, rfl, h1, h2, r1, r2, r3⟩
  refine ⟨v1, v2, b, o, rfl, x, rfl, h1, h2, rests_of hn r1 r2 r3, fun q hq => ?_⟩
  have a := entry_le o 0 q r3.no (by rw [r3.lo]; exact hq)
  have c := wsum_nonneg (p := phi W) (phi_nonneg (by omega)) b 0 r3.nb
  have d := r3.pot
  have := r3.no q (by rw [r3.lo]; exact hq)
  omega
theorem aft_congr {W H : Nat} {b : List Int} {a a' : Nat → Nat} : ∀ {k : Nat}, (∀ j, j < k → a j = a' j) → aft W H b a k = aft W H b a' k
  | 0, _ => rfl
  | k + 1, h => by
    show (aft W H b a k).bind _ = (aft W H b a' k).bind _
    rw [aft_congr fun j hj => h j (Nat.lt_succ_of_lt hj), h k (Nat.lt_succ_self k)]
theorem IsInts.below {w w' : World} {A : Option Addr} {n : Nat} {f : Nat → Int} (h : IsInts w A n f) (hb : Below w.heap.size w w') : IsInts w' A n f := h.later ⟨w', hb⟩
/-- A lawful list, so far: what stands, how often each square ran over, and the list. -/
structure Pile (W H n : Nat) (f : Nat → Int) (b o : List Int) (l : List Nat) : Prop where
  law : Lawf W H n f b o
  bv : BV n b
  run : aft W H ((List.range n).map f) (fun j => l.getD j 0) l.length = some b
  lt : ∀ j, j < l.length → l.getD j 0 < n
theorem pile_start {W H n : Nat} {f : Nat → Int} (hW : 1 ≤ W) (hW2 : W ≤ 16) (hn9 : n ≤ 256) (hf : ∀ i, i < n → 0 ≤ f i ∧ f i ≤ 100) : Pile W H n f ((List.range n).map f) (List.replicate n 0) [] where
  law := law_start fun i hi => (hf i hi).1
  bv := bv_start (H := H) hW hW2 hn9 hf
  run := rfl
  lt j hj := by simp at hj
theorem Pile.step {W H n : Nat} {f : Nat → Int} {b o : List Int} {l : List Nat} (h : Pile W H n f b o l) (hn : n = W * H) {k : Nat} (hk : k < n) (h4 : 4 ≤ b.getD k 0) : Pile W H n f (runL W H b k 1) (o.set k (o.getD k 0 + 1)) (l ++ [k]) where
  law := h.law.step hn hk h4 (h.bv.step hn hk h4).nb
  bv := h.bv.step hn hk h4
  run := by
    have e : (l ++ [k]).length = l.length + 1 := by simp
    rw [e]
    have e2 : aft W H ((List.range n).map f) (fun j => (l ++ [k]).getD j 0) l.length = some b := by
      rw [← h.run]
      exact aft_congr fun j hj => by simp [List.getD_eq_getElem?_getD, List.getElem?_append_left hj]
    rw [aft_step e2]
    have e3 : (l ++ [k]).getD l.length 0 = k := by simp [List.getD_eq_getElem?_getD]
    rw [e3, if_neg (by omega)]
  lt j hj := by
    rw [List.length_append, List.length_singleton] at hj
    rcases Nat.lt_or_ge j l.length with q | q
    · have := h.lt j q
      simpa [List.getD_eq_getElem?_getD, List.getElem?_append_left q] using this
    · obtain rfl : j = l.length := by omega
      simpa [List.getD_eq_getElem?_getD] using hk
theorem Pile.small {W H n : Nat} {f : Nat → Int} {b o : List Int} {l : List Nat} (h : Pile W H n f b o l) {k : Nat} (hk : k < n) : 0 ≤ b.getD k 0 ∧ b.getD k 0 ≤ 25600 :=
  ⟨h.bv.nb k (by rw [h.bv.lb]; exact hk), by have := entry_le b 0 k h.bv.nb (by rw [h.bv.lb]; exact hk); have := h.bv.few; omega⟩
/-- Behind it: never ahead of what settles .. -/
theorem Pile.le {W H n : Nat} {f : Nat → Int} {b o r s : List Int} {l : List Nat} (h : Pile W H n f b o l) (k : Rests W H n f r s) : ∀ i, i < n → o.getD i 0 ≤ s.getD i 0 :=
  h.law.least s (k.lin.stills fun j hj => (k.nb j hj).2) k.no
/-- .. and carried on, it comes to the same rest. -/
theorem Pile.rest {W H n : Nat} {f : Nat → Int} {b o r s r' c : List Int} {l : List Nat} (h : Pile W H n f b o l) (hn : n = W * H) (k : Rests W H n f r s) (k' : Rests W H n (fun i => b.getD i 0) r' c) : r' = r ∧ ∀ i, i < n → o.getD i 0 + c.getD i 0 = s.getD i 0 := by
  have q := h.law.rest hn k' (tab_len n fun i => o.getD i 0 + c.getD i 0) fun i hi => tab_get hi
  obtain ⟨e1, e2⟩ := q.unique k
  exact ⟨e1, fun i hi => by rw [← e2, tab_get hi]⟩
/-- The squares that may run over, among the first so many. -/
def may4 (b : List Int) : Nat → List Nat
  | 0 => []
  | k + 1 => if 4 ≤ b.getD k 0 then may4 b k ++ [k] else may4 b k
theorem may_mem {b : List Int} : ∀ {k j : Nat}, j ∈ may4 b k → j < k ∧ 4 ≤ b.getD j 0
  | 0, j, h => by cases h
  | k + 1, j, h => by
    unfold may4 at h
    split at h
    · rename_i h4
      rcases List.mem_append.1 h with h | h
      · have := may_mem h; exact ⟨by omega, this.2⟩
      · obtain rfl : j = k := by simpa using h
        exact ⟨by omega, h4⟩
    · have := may_mem h; exact ⟨by omega, this.2⟩
theorem may_len (b : List Int) : ∀ k, (may4 b k).length ≤ k
  | 0 => by simp [may4]
  | k + 1 => by
    have := may_len b k
    unfold may4
    split
    · simp; omega
    · omega
theorem as_list {b : List Int} {n : Nat} (hl : b.length = n) : (List.range n).map (fun i => b.getD i 0) = b :=
  list_eq (n := n) (by simp) hl fun i hi => by rw [List.getD_eq_getElem?_getD]; simp [hi]
theorem one_after (W H n c8 : Nat) (A8 : Option Addr) (b : List Int) (x : Nat) (V : World) (hW : 1 ≤ W) (hW2 : W ≤ 16) (hH1 : 1 ≤ H) (hH : H ≤ 16) (hn : n = W * H) (h : IsInts V A8 n fun i => b.getD i 0) (bv : BV n b) (hx : x < n) (h4 : 4 ≤ b.getD x 0) (sz : Nat) (hs : V.heap.size = sz) :
    Calls Try.prog 48 #[.int .i64 W, .int .i64 H, .slice A8 n c8, .slice (some ⟨sz, 0, none⟩) 1 1] (V.alloc (.cells #[.int .i64 x] 3)) fun e w'' => ∃ v, e = .returned (.tuple #[v, .bool true]) ∧ ∃ y : Later (V.alloc (.cells #[.int .i64 x] 3)), w'' = y.val ∧ OwnI w'' (V.alloc (.cells #[.int .i64 x] 3)).heap.size v (runL W H b x 1) := by
  subst hs
  obtain ⟨b1, o1, rfl, p1⟩ := h.at_ (by omega)
  have e := as_list bv.lb
  have hl : IsInts (V.alloc (.cells #[.int .i64 x] 3)) (some ⟨V.heap.size, 0, none⟩) 1 fun _ => (x : Int) :=
    ⟨by omega, fun _ => ⟨V.heap.size, 0, rfl, by simp, fun i hi => by
      obtain rfl : i = 0 := by omega
      exact cell_of_heap (World.alloc_heap_new V _) 0 _ rfl⟩⟩
  refine Calls.mono (rafter_bv W H n c8 b1 o1 1 1 _ (fun i => b.getD i 0) (fun _ => x) _ hW hW2 hH1 hH hn (by omega) (p1.later ⟨_, (Below.refl _ _).alloc (Nat.le_refl _) _⟩) (by rw [e]; exact bv) hl (fun i hi => hx)) fun e' w'' k => k.2 _ ?_
  rw [e, aft_step (c := b) rfl, if_neg (by omega)]
/-- What the loop keeps in memory: what stands, the counts, the list. -/
structure PK (w V : World) (gc n : Nat) (v8 v10 : Value) (b o : List Int) (l : List Nat) : Prop where
  below : Below w.heap.size w V
  now : OwnI V w.heap.size v8 b
  cnt : OwnI V w.heap.size (.slice (some ⟨gc, 0, none⟩) n n) o
  lst : OwnI V w.heap.size v10 (natN l)
  d1 : ∀ g, v8.ownBlock = some g → g ≠ gc
  d2 : ∀ g, v10.ownBlock = some g → g ≠ gc ∧ ∀ k, v8.ownBlock = some k → k ≠ g
section
variable {w V : World} {gc n : Nat} {v8 v10 : Value} {b o : List Int} {l : List Nat}
theorem PK.later (h : PK w V gc n v8 v10 b o l) (x : Later V) : PK w x.val gc n v8 v10 b o l :=
  ⟨below_more h.below x.ok, h.now.later x, h.cnt.later x, h.lst.later x, h.d1, h.d2⟩
theorem PK.to (h : PK w V gc n v8 v10 b o l) {V' : World} (hb : Below V.heap.size V V') : PK w V' gc n v8 v10 b o l := h.later ⟨V', hb⟩
theorem PK.push (h : PK w V gc n v8 v10 b o l) {w5 : World} {v5 : Value} {ob : Obj} {k : Nat} (hg : (V.alloc ob).grownBy w5 v10.ownBlock) (ho : w5.ownsRow w.heap.size 3 1 v5 (l.length + 1) (cellsI (natN l) ++ [.int .i64 k])) (hat : v5.ownBlock = v10.ownBlock ∨ v5.ownBlock = some (V.heap.size + 1)) : PK w w5 gc n v8 v5 b o (l ++ [k]) where
  below := (h.below.alloc h.below.size ob).grown hg (by have := h.below.size; simp; omega) fun k hk => (own_lt h.lst k hk).1
  now := World.ownsRow.kept (h.now.alloc ob) hg (by
    cases e : v8.ownBlock with
    | none => exact .inl rfl
    | some k => exact .inr fun e2 => (h.d2 k e2.symm).2 k e rfl)
  cnt := World.ownsRow.kept (h.cnt.alloc ob) hg (.inr fun e2 => (h.d2 gc (by rw [← e2]; rfl)).1 rfl)
  lst := by
    have e : natN (l ++ [k]) = natN l ++ [(k : Int)] := by simp [natN]
    rw [e]
    refine push_own (P := Try.prog) (w := V) (v := v10) ?_
    rw [show (natN l).length = l.length by simp [natN]]
    exact ho
  d1 := h.d1
  d2 g hg2 := by
    rcases hat with e | e
    · exact h.d2 g (by rw [← e]; exact hg2)
    · rw [e] at hg2
      have e3 : V.heap.size + 1 = g := by simpa using hg2
      refine ⟨fun e4 => ?_, fun k hk e4 => ?_⟩
      · have := (own_lt h.cnt gc rfl).2; omega
      · have := (own_lt h.now k hk).2; omega
theorem PK.count (h : PK w V gc n v8 v10 b o l) (hl : o.length = n) (i : Nat) (x : Int) : PK w (V.setCell ⟨gc, i, none⟩ (.int .i64 x)) gc n v8 v10 b (o.set i x) l where
  below := h.below.setCell (p := ⟨gc, i, none⟩) (own_lt h.cnt gc rfl).1 _
  now := h.now.far fun g hg e => h.d1 g hg e.symm
  cnt := h.cnt.set hl i x
  lst := h.lst.far fun g hg e => (h.d2 g hg).1 e.symm
  d1 := h.d1
  d2 := h.d2
theorem PK.run (h : PK w V gc n v8 v10 b o l) (x : Later V) {v : Value} {c : List Int} (ho : OwnI x.val V.heap.size v c) : PK w x.val gc n v v10 c o l where
  below := below_more h.below x.ok
  now := ho.mono h.below.size
  cnt := h.cnt.later x
  lst := h.lst.later x
  d1 g hg e := by have := (own_lt ho g hg).1; have := (own_lt h.cnt gc rfl).2; omega
  d2 g hg := ⟨(h.d2 g hg).1, fun k hk e => by have := (own_lt ho k hk).1; have := (own_lt h.lst g hg).2; omega⟩
end
end Go.Proofs.Ytihgadppndcjaaa
