/- What bed.groups keeps: the numbers, how many there are, the squares ahead. -/
import Derived.Test.YtajfepogecakbaaDoorBoxes
import Derived.Test.YtajfepogecakbaaDoorMarks
import Derived.Test.YtajfepogecakbaaDoorGroupMath
import Derived.Test.YtajfepogecakbaaDoorRepeat
import Derived.Test.YtajfepogecakbaaDoorDraw
import Derived.Maps.OwnIn
namespace Go.Proofs.YtajfepogecakbaaDoor
open Go.RowKit

theorem own_kind {V : World} {base : Nat} {v : Value} {l : List Int} {b : Nat} {cs : Array Value} {t : TypeId} (h : OwnI V base v l) (hb : V.heap[b]? = some (.cells cs t (0, 0))) (ht : t ≠ 3) : ∀ g, v.ownBlock = some g → b ≠ g := by
  rintro g hg rfl
  exact Lib.ownBlock_ne h hb ht hg
theorem thaw_get {w : World} {b : Nat} {cs : Array Value} {t : TypeId} (h : w.heap[b]? = some (.cells cs t (0, 0))) (j : Nat) : w.frozen? ⟨b, j, none⟩ = false := by simp [World.frozen?, h]
theorem set_one {w : World} {b j : Nat} {cs : Array Value} {t : TypeId} {v : Value} (h : w.heap[b]? = some (.cells cs t (0, 0))) : (w.setCell ⟨b, j, none⟩ v).heap[b]? = some (.cells (cs.setIfInBounds j v) t (0, 0)) := by
  simp [World.setCell, Array.getElem?_modify, h]
/-- The last is dropped from a list of one's own. -/
theorem OwnI.cut {w : World} {base g n cap j : Nat} {l : List Int} (h : OwnI w base (.slice (some ⟨g, 0, none⟩) n cap) l) (hj : j ≤ l.length) : OwnI w base (.slice (some ⟨g, 0, none⟩) j cap) (l.take j) := by
  rcases h.2 with ⟨e, _⟩ | ⟨g', cap', cur, e, hb, hh, hn, hm, hs, hx⟩
  · simp only [Value.slice.injEq] at e; cases e.1
  · simp only [Value.slice.injEq, Option.some.injEq, Addr.mk.injEq] at e
    obtain ⟨⟨rfl, _⟩, rfl, rfl⟩ := e
    have ll : (l.take j).length = j := by rw [List.length_take]; omega
    unfold OwnI
    rw [ll]
    refine ⟨by rw [cellsI_length, ll, Nat.mul_one], .inr ⟨g, cap, cur, rfl, hb, hh, by omega, hm, hs, ?_⟩⟩
    have : cellsI (l.take j) = (cellsI l).take j := by simp [cellsI, List.map_take]
    rw [this, ← hx, List.take_take]
    congr 1
    omega

theorem OwnI.block {w : World} {base g n cap : Nat} {l : List Int} (h : OwnI w base (.slice (some ⟨g, 0, none⟩) n cap) l) : ∃ cur, w.heap[g]? = some (.cells cur 3 (0, 0)) := by
  rcases h.2 with ⟨e, _⟩ | ⟨g', cap', cur, e, hb, hh, _⟩
  · simp only [Value.slice.injEq] at e; cases e.1
  · simp only [Value.slice.injEq, Option.some.injEq, Addr.mk.injEq] at e
    obtain ⟨⟨rfl, _⟩, _⟩ := e
    exact ⟨cur, hh⟩
/-- Squares, as numbers. -/
def natL (l : List Nat) : List Int := l.map Int.ofNat
theorem natL_append (l k : List Nat) : natL (l ++ k) = natL l ++ natL k := by simp [natL]
theorem natL_length (l : List Nat) : (natL l).length = l.length := by simp [natL]
theorem natL_take (l : List Nat) (j : Nat) : natL (l.take j) = (natL l).take j := by simp [natL, List.map_take]
theorem natL_last (l : List Nat) (x : Nat) : (natL (l ++ [x])).getD l.length 0 = (x : Int) := by
  rw [List.getD_eq_getElem?_getD, natL_append, List.getElem?_append_right (by rw [natL_length]; exact Nat.le_refl _), natL_length, Nat.sub_self]; rfl
/-- The numbers, how many, the map and the question lie as told. -/
structure GKeep (M : Obj) (fB : Value) (n g : Nat) (nums : List Int) (all : Nat) (S : BSet) (w V : World) : Prop where
  bx : Boxes [(w.heap.size + 1 + 1, .cells #[.slice (some ⟨g, 0, none⟩) n n] 22), (w.heap.size + 1 + 1 + 1, .cells #[.int .i64 all] 3), (w.heap.size, M), (w.heap.size + 1, .cells #[fB] 65)] S w V
  own : OwnI V (w.heap.size + 4) (.slice (some ⟨g, 0, none⟩) n n) nums
  len : nums.length = n
  no : ¬ S g
section
variable {M : Obj} {fB : Value} {n g : Nat} {nums : List Int} {all : Nat} {S T : BSet} {w V V' : World}
theorem GKeep.gp (h : GKeep M fB n g nums all S w V) : w.heap.size + 4 ≤ g ∧ g < V.heap.size := own_lt h.own g rfl
theorem GKeep.b2 (h : GKeep M fB n g nums all S w V) : V.heap[w.heap.size + 1 + 1]? = some (.cells #[.slice (some ⟨g, 0, none⟩) n n] 22) := h.bx.get (by simp)
theorem GKeep.b3 (h : GKeep M fB n g nums all S w V) : V.heap[w.heap.size + 1 + 1 + 1]? = some (.cells #[.int .i64 all] 3) := h.bx.get (by simp)
theorem GKeep.b0 (h : GKeep M fB n g nums all S w V) : V.heap[w.heap.size]? = some M := h.bx.get (by simp)
theorem GKeep.b1 (h : GKeep M fB n g nums all S w V) : V.heap[w.heap.size + 1]? = some (.cells #[fB] 65) := h.bx.get (by simp)
/-- Worlds in which the blocks of this lie as they lay. -/
theorem GKeep.move (h : GKeep M fB n g nums all S w V) (hT : ∀ b, T b → w.heap.size ≤ b ∧ b < V'.heap.size) (hST : ∀ b, b < V.heap.size → T b → S b) (hb : Below w.heap.size w V') (hs : V.heap.size ≤ V'.heap.size) (hk : ∀ b, b < V.heap.size → ¬ S b → b = g ∨ b ≤ w.heap.size + 3 → V'.heap[b]? = V.heap[b]?) : GKeep M fB n g nums all T w V' := by
  have l3 := lt_of_get h.b3
  refine ⟨⟨fun p hp => ?_, hb, hT⟩, h.own.moved fun g' hg => ?_, h.len, fun k => h.no (hST _ h.gp.2 k)⟩
  · obtain ⟨h1, h2⟩ := h.bx.at_ p hp
    have l := lt_of_get h1
    refine ⟨(hk _ l h2 (.inr ?_)).trans h1, fun k => h2 (hST _ l k)⟩
    simp only [List.mem_cons, List.not_mem_nil, or_false] at hp
    rcases hp with rfl | rfl | rfl | rfl <;> simp <;> omega
  · obtain rfl : g' = g := by simpa [Value.ownBlock] using hg.symm
    exact hk _ h.gp.2 h.no (.inl rfl)
theorem GKeep.stab (h : GKeep M fB n g nums all S w V) (ht : Takes S T V V') (ho : Only S V V') : GKeep M fB n g nums all T w V' := by
  have hb := h.bx.stab ht ho
  exact h.move hb.own (fun b hl k => (ht.2 b k).elim id fun q => by omega) hb.below ho.size fun b hl hn _ => ho.block b hl hn
theorem GKeep.later (h : GKeep M fB n g nums all S w V) (x : Later V) : GKeep M fB n g nums all S w x.val := h.stab (Takes.refl _ _) (Only.later x)
/-- A number is written. -/
theorem GKeep.setN (h : GKeep M fB n g nums all S w V) (i : Nat) (x : Int) : GKeep M fB n g (nums.set i x) all S w (V.setCell ⟨g, i, none⟩ (.int .i64 x)) := by
  have l3 := lt_of_get h.b3
  have gp := h.gp
  have hb : Below w.heap.size w (V.setCell ⟨g, i, none⟩ (.int .i64 x)) := h.bx.below.setCell (p := ⟨g, i, none⟩) (by simp; omega) _
  refine ⟨h.bx.turn hb (KeepsWalks.setCell _ _ _).size fun p hp => ?_, h.own.set h.len i x, by rw [List.length_set]; exact h.len, h.no⟩
  obtain ⟨h1, h2⟩ := h.bx.at_ p hp
  refine ⟨(Below.heap_setCell _ _ _ _ ?_).trans h1, h2⟩
  simp only [List.mem_cons, List.not_mem_nil, or_false] at hp
  rcases hp with rfl | rfl | rfl | rfl <;> (show _ ≠ g) <;> omega
/-- How many there are is written. -/
theorem GKeep.setA (h : GKeep M fB n g nums all S w V) (k : Nat) : GKeep M fB n g nums k S w (V.setCell ⟨w.heap.size + 1 + 1 + 1, 0, none⟩ (.int .i64 k)) := by
  have l3 := lt_of_get h.b3
  have gp := h.gp
  have hb : Below w.heap.size w (V.setCell ⟨w.heap.size + 1 + 1 + 1, 0, none⟩ (.int .i64 k)) := h.bx.below.setCell (p := ⟨w.heap.size + 1 + 1 + 1, 0, none⟩) (by simp; omega) _
  have far : ∀ b, b ≠ w.heap.size + 1 + 1 + 1 → (V.setCell ⟨w.heap.size + 1 + 1 + 1, 0, none⟩ (.int .i64 k)).heap[b]? = V.heap[b]? := fun b e => Below.heap_setCell _ _ _ _ e
  refine ⟨h.bx.turn hb (KeepsWalks.setCell _ _ _).size fun p hp => ?_, h.own.moved fun g' hg => far g' ?_, h.len, h.no⟩
  · simp only [List.mem_cons, List.not_mem_nil, or_false] at hp
    rcases hp with rfl | rfl | rfl | rfl
    · exact ⟨(far _ (by simp)).trans h.b2, (h.bx.at_ (w.heap.size + 1 + 1, .cells #[.slice (some ⟨g, 0, none⟩) n n] 22) (by simp)).2⟩
    · exact ⟨one_setCell h.b3, (h.bx.at_ (w.heap.size + 1 + 1 + 1, .cells #[.int .i64 all] 3) (by simp)).2⟩
    · exact ⟨(far _ (by omega)).trans h.b0, (h.bx.at_ (w.heap.size, M) (by simp)).2⟩
    · exact ⟨(far _ (by omega)).trans h.b1, (h.bx.at_ (w.heap.size + 1, .cells #[fB] 65) (by simp)).2⟩
  · obtain rfl : g' = g := by simpa [Value.ownBlock] using hg.symm
    omega
end

/-- .. and the squares ahead, in a box of their own. -/
structure AKeep (M : Obj) (fB : Value) (n g : Nat) (nums : List Int) (all bA : Nat) (va : Value) (ah : List Nat) (S : BSet) (w V : World) : Prop where
  gk : GKeep M fB n g nums all S w V
  atA : V.heap[bA]? = some (.cells #[va] 22)
  nA : ¬ S bA
  lA : w.heap.size + 4 ≤ bA
  own : OwnI V (w.heap.size + 4) va (natL ah)
  no : ∀ g', va.ownBlock = some g' → ¬ S g' ∧ g' ≠ g
section
variable {M : Obj} {fB : Value} {n g : Nat} {nums : List Int} {all bA : Nat} {va : Value} {ah : List Nat} {S T : BSet} {w V V' : World}
theorem AKeep.neA (h : AKeep M fB n g nums all bA va ah S w V) : bA ≠ g := own_kind h.gk.own h.atA (by decide) g rfl
theorem AKeep.neO (h : AKeep M fB n g nums all bA va ah S w V) : ∀ g', va.ownBlock = some g' → bA ≠ g' := own_kind h.own h.atA (by decide)
theorem AKeep.stab (h : AKeep M fB n g nums all bA va ah S w V) (ht : Takes S T V V') (ho : Only S V V') : AKeep M fB n g nums all bA va ah T w V' := by
  obtain ⟨o1, o2⟩ := h.own.stab (fun g' hg => (h.no g' hg).1) ht ho
  have la := lt_of_get h.atA
  refine ⟨h.gk.stab ht ho, (ho.block _ la h.nA).trans h.atA, fun k => ?_, h.lA, o1, fun g' hg => ⟨o2 g' hg, (h.no g' hg).2⟩⟩
  rcases ht.2 _ k with q | q
  · exact h.nA q
  · omega
theorem AKeep.later (h : AKeep M fB n g nums all bA va ah S w V) (x : Later V) : AKeep M fB n g nums all bA va ah S w x.val := h.stab (Takes.refl _ _) (Only.later x)
theorem AKeep.setN (h : AKeep M fB n g nums all bA va ah S w V) (i : Nat) (x : Int) : AKeep M fB n g (nums.set i x) all bA va ah S w (V.setCell ⟨g, i, none⟩ (.int .i64 x)) :=
  ⟨h.gk.setN i x, (Below.heap_setCell _ _ _ _ h.neA).trans h.atA, h.nA, h.lA, h.own.moved fun g' hg => Below.heap_setCell _ _ _ _ (h.no g' hg).2, h.no⟩
/-- The box is written anew. -/
theorem AKeep.put (h : AKeep M fB n g nums all bA va ah S w V) {va' : Value} {ah' : List Nat} (ho : OwnI V (w.heap.size + 4) va' (natL ah')) (hn : ∀ g', va'.ownBlock = some g' → ¬ S g' ∧ g' ≠ g) : AKeep M fB n g nums all bA va' ah' S w (V.setCell ⟨bA, 0, none⟩ va') := by
  have la := lt_of_get h.atA
  have gp := h.gk.gp
  have lA := h.lA
  have hb : Below w.heap.size w (V.setCell ⟨bA, 0, none⟩ va') := h.gk.bx.below.setCell (p := ⟨bA, 0, none⟩) (by simp; omega) _
  refine ⟨h.gk.move (fun b k => ?_) (fun b _ k => k) hb (KeepsWalks.setCell _ _ _).size fun b hl _ hor => Below.heap_setCell _ _ _ _ ?_, one_setCell h.atA, h.nA, h.lA, ho.moved fun g' hg => Below.heap_setCell _ _ _ _ fun e => own_kind ho h.atA (by decide) g' hg e.symm, hn⟩
  · have := h.gk.bx.own b k
    exact ⟨this.1, Nat.lt_of_lt_of_le this.2 (KeepsWalks.setCell _ _ _).size⟩
  · rcases hor with rfl | hor
    · exact fun e => h.neA e.symm
    · show b ≠ bA
      omega
/-- A square is appended: the world behind the append. -/
theorem AKeep.grown (h : AKeep M fB n g nums all bA va ah S w V) {o : Obj} {w2 : World} (hg : (V.alloc o).grownBy w2 va.ownBlock) {va' : Value} {x : Nat} (ho : OwnI w2 (w.heap.size + 4) va' (natL (ah ++ [x]))) (hat : va'.ownBlock = va.ownBlock ∨ va'.ownBlock = some (V.alloc o).heap.size) :
    AKeep M fB n g nums all bA va' (ah ++ [x]) S w (w2.setCell ⟨bA, 0, none⟩ va') ∧ Kept S V (w2.setCell ⟨bA, 0, none⟩ va') ∧ w2.heap[bA]? = some (.cells #[va] 22) ∧ bA < w2.heap.size := by
  have la := lt_of_get h.atA
  have gp := h.gk.gp
  have lA := h.lA
  have a : ∀ b, b < V.heap.size → va.ownBlock ≠ some b → w2.heap[b]? = V.heap[b]? := fun b hb hn => by
    rw [hg.block b (by simp; omega) (fun e => hn e.symm), Below.heap_alloc _ _ _ hb]
  have hs : V.heap.size + 1 ≤ w2.heap.size := by have := hg.size; simpa using this
  have hbw : Below w.heap.size w w2 := (h.gk.bx.below.alloc h.gk.bx.below.size o).grown hg (by have := h.gk.bx.below.size; simp; omega) fun k hk => by have := (own_lt h.own k hk).1; omega
  have hA : w2.heap[bA]? = some (.cells #[va] 22) := (a _ la fun e => h.neO _ e rfl).trans h.atA
  have hn' : ∀ g', va'.ownBlock = some g' → ¬ S g' ∧ g' ≠ g := fun g' hv => by
    rcases hat with e | e
    · exact h.no g' (e ▸ hv)
    · rw [e] at hv
      simp at hv
      exact ⟨fun k => by have := (h.gk.bx.own g' k).2; omega, by omega⟩
  have g2 : GKeep M fB n g nums all S w w2 := h.gk.move (fun b k => by have := h.gk.bx.own b k; omega) (fun b _ k => k) hbw (by omega) fun b hl hns hor => a b hl fun e => by
    rcases hor with rfl | hor
    · exact (h.no _ e).2 rfl
    · have := (own_lt h.own b e).1; omega
  have ho0 : OwnI w2 (w.heap.size + 4) (.slice none 0 0) [] := OwnI.nil _ _
  have k2 : AKeep M fB n g nums all bA va' (ah ++ [x]) S w (w2.setCell ⟨bA, 0, none⟩ va') := by
    refine ⟨g2.move (fun b k => ?_) (fun b _ k => k) (hbw.setCell (p := ⟨bA, 0, none⟩) (by simp; omega) _) (KeepsWalks.setCell _ _ _).size fun b hl _ hor => Below.heap_setCell _ _ _ _ ?_, one_setCell hA, h.nA, h.lA, ho.moved fun g' hv => Below.heap_setCell _ _ _ _ fun e => own_kind ho hA (by decide) g' hv e.symm, hn'⟩
    · have := g2.bx.own b k
      exact ⟨this.1, Nat.lt_of_lt_of_le this.2 (KeepsWalks.setCell _ _ _).size⟩
    · rcases hor with rfl | hor
      · exact fun e => h.neA e.symm
      · show b ≠ bA
        omega
  refine ⟨k2, ⟨Nat.le_trans (by omega) (KeepsWalks.setCell _ _ _).size, fun b hb hl => ?_⟩, hA, by omega⟩
  exact (Below.heap_setCell _ _ _ _ fun (e : b = bA) => h.nA (by rw [← e]; exact hb)).trans (a b hl fun e => (h.no b e).1 hb)
/-- The list ahead is begun. -/
theorem GKeep.begin_ (h : GKeep M fB n g nums all S w V) (x s : Nat) (hs : V.heap.size = s) :
    AKeep M fB n g nums all (s + 1) (.slice (some ⟨s, 0, none⟩) 1 1) [x] S w ((V.alloc (.cells #[.int .i64 x] 3)).alloc (.cells #[.slice (some ⟨s, 0, none⟩) 1 1] 22)) := by
  subst hs
  have gp := h.gp
  have l3 := lt_of_get h.b3
  have hb : Below V.heap.size V ((V.alloc (.cells #[.int .i64 x] 3)).alloc (.cells #[.slice (some ⟨V.heap.size, 0, none⟩) 1 1] 22)) := by repeat (first | exact Below.refl _ _ | (with_reducible assumption) | apply below_later | apply below_alloc | apply below_drew | apply below_drewN)
  refine ⟨h.later ⟨_, hb⟩, ?_, fun k => ?_, by omega, ?_, fun g' hg => ?_⟩
  · have := World.alloc_heap_new (V.alloc (.cells #[.int .i64 x] 3)) (.cells #[.slice (some ⟨V.heap.size, 0, none⟩) 1 1] 22)
    rwa [World.size_alloc] at this
  · have := (h.bx.own _ k).2; omega
  · have : OwnI (V.alloc (.cells #[.int .i64 x] 3)) (w.heap.size + 4) (.slice (some ⟨V.heap.size, 0, none⟩) 1 1) (natL [x]) := by
      unfold OwnI
      exact World.ownsRow_lit V #[.int .i64 x] 1 (by omega) (by unfold maxLen; omega) rfl
    exact this.alloc _
  · obtain rfl : g' = V.heap.size := by simpa [Value.ownBlock] using hg.symm
    exact ⟨fun k => by have := (h.bx.own _ k).2; omega, by omega⟩
end
section
variable {M : Obj} {fB : Value} {n g : Nat} {nums : List Int} {all bA : Nat} {va : Value} {ah : List Nat} {S T : BSet} {w V V' : World}
/-- No block is the iterator's any more. -/
theorem AKeep.free (h : AKeep M fB n g nums all bA va ah S w V) : AKeep M fB n g nums all bA va ah (fun _ => False) w V :=
  ⟨h.gk.move (fun _ k => k.elim) (fun _ _ k => k.elim) h.gk.bx.below (Nat.le_refl _) (fun _ _ _ _ => rfl), h.atA, fun k => k, h.lA, h.own, fun g' hg => ⟨fun k => k, (h.no g' hg).2⟩⟩
theorem AKeep.marks {ds : List Deferred} (h : AKeep M fB n g nums all bA va ah S w V) (m : Marks ds S w V) {o : Obj} {w2 : World} (hg : (V.alloc o).grownBy w2 va.ownBlock) (va' : Value) : Marks ds S w (w2.setCell ⟨bA, 0, none⟩ va') :=
  m.move (fun _ _ k => k) fun D hl _ hD => by
    have h1 : D ≠ bA := fun e => by rw [e, h.atA] at hD; cases hD
    have h2 : va.ownBlock ≠ some D := fun e => by
      rcases h.own.2 with ⟨hv, _⟩ | ⟨g', cap, cur, hv, _, hh, _⟩
      · rw [hv] at e; cases e
      · rw [hv] at e
        obtain rfl : g' = D := by simpa [Value.ownBlock] using e
        rw [hD] at hh; cases hh
    rw [Below.heap_setCell _ _ _ _ h1, hg.block D (by simp; omega) (fun e => h2 e.symm), Below.heap_alloc _ _ _ hl]
end
theorem unnum_le (nm : Nat → Int) (n : Nat) : unnum nm n ≤ n := by
  unfold unnum
  have := List.length_filter_le (fun i => decide (nm i = -1)) (List.range n)
  rwa [List.length_range] at this
/-- What a range over the squares next to x keeps. -/
def GInv (M : Obj) (fB : Value) (n g all bA : Nat) (es : List (Nat × Nat)) (bel : Nat → Bool) (nx : Nat → List Nat) (f x mb : Nat) (ds : List Deferred) (w : World) (T : BSet) (k : Nat) (V : World) : Prop :=
  ∃ nums ah va, AKeep M fB n g nums all bA va ah T w V ∧ Marks ds T w V ∧ Dfs es bel n nx (fun i => nums.getD i 0) f ah (fun i => i = x ∧ ∀ j ∈ (nx x).take k, bel j = true → nums.getD j 0 = ((setsTo es bel f : Nat) : Int)) ∧ nums.getD x 0 = ((setsTo es bel f : Nat) : Int) ∧ 2 * unnum (fun i => nums.getD i 0) n + ah.length ≤ mb
theorem GInv.stab {M : Obj} {fB : Value} {n g all bA : Nat} {es : List (Nat × Nat)} {bel : Nat → Bool} {nx : Nat → List Nat} {f x mb : Nat} {ds : List Deferred} {w : World} {S T : BSet} {k : Nat} {V V' : World} (h : GInv M fB n g all bA es bel nx f x mb ds w S k V) (ht : Takes S T V V') (ho : Only S V V') :
    GInv M fB n g all bA es bel nx f x mb ds w T k V' := by
  obtain ⟨nums, ah, va, h1, h2, h3⟩ := h
  exact ⟨nums, ah, va, h1.stab ht ho, h2.stab ht ho, h3⟩
end Go.Proofs.YtajfepogecakbaaDoor
