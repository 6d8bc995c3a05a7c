/- A range over a function: the iterator's blocks and the loop's own are one set of blocks that the caller's body keeps; all else is the caller's. -/
import Derived.Test.YtelfinjnbncnlaaBase
import Derived.RangeFuncNested
import Derived.RangeFuncBound
import Derived.RangeFuncCalls
import Derived.RangeFuncLeaves
import Derived.OwnWalkIn
import Derived.TacticsInMore
import Derived.LoopNIn
import Derived.LoopIn
import Derived.Shelf.Abstract
namespace Go.Proofs.Ytelfinjnbncnlaa
open Go.RowKit

abbrev BSet := Nat → Prop

@[go_sem] theorem wide_fn (f : FuncId) : Fence.wide.fn f = True := rfl
@[go_sem] theorem wide_depth : Fence.wide.depth = none := rfl
@[go_sem] theorem wide_round_fn (l : Nat) (f : FuncId) : (Fence.wide.inRound l).fn f = True := rfl
@[go_sem] theorem wide_round_depth (l : Nat) : (Fence.wide.inRound l).depth = none := rfl

/-- W' is W but for the blocks of S, and new blocks. -/
structure Only (S : BSet) (W W' : World) : Prop where
  os : W'.os = W.os
  tape : W'.tape = W.tape
  output : W'.output = W.output
  size : W.heap.size ≤ W'.heap.size
  block : ∀ b, b < W.heap.size → ¬ S b → W'.heap[b]? = W.heap[b]?
theorem Only.refl (S : BSet) (W : World) : Only S W W := ⟨rfl, rfl, rfl, Nat.le_refl _, fun _ _ _ => rfl⟩
theorem Only.trans {S : BSet} {A B C : World} (h : Only S A B) (k : Only S B C) : Only S A C :=
  ⟨k.os.trans h.os, k.tape.trans h.tape, k.output.trans h.output, Nat.le_trans h.size k.size, fun b hb hs => (k.block b (Nat.lt_of_lt_of_le hb h.size) hs).trans (h.block b hb hs)⟩
theorem Only.mono {S T : BSet} {A B : World} (hst : ∀ b, S b → T b) (h : Only S A B) : Only T A B := ⟨h.os, h.tape, h.output, h.size, fun b hb hs => h.block b hb fun k => hs (hst b k)⟩
theorem Only.alloc (S : BSet) (W : World) (o : Obj) : Only S W (W.alloc o) := ⟨rfl, rfl, rfl, by simp, fun b hb _ => Below.heap_alloc W o b hb⟩
theorem Only.drew (S : BSet) (W : World) : Only S W W.drew := ⟨rfl, rfl, rfl, Nat.le_refl _, fun _ _ _ => rfl⟩
theorem Only.putObj {S : BSet} {W : World} {r : Nat} (o : Obj) (h : S r) : Only S W (W.putObj r o) :=
  ⟨rfl, rfl, rfl, by simp, fun b _ hs => World.putObj_heap_other (fun e => hs (e ▸ h))⟩
theorem Only.setCell {S : BSet} {W : World} {p : Addr} (v : Value) (h : S p.block) : Only S W (W.setCell p v) :=
  ⟨rfl, rfl, rfl, (KeepsWalks.setCell W p v).size, fun b _ hs => Below.heap_setCell W p v b (fun e => hs (e ▸ h))⟩
theorem Only.later {S : BSet} {W : World} (x : Later W) : Only S W x.val := ⟨x.ok.os, x.ok.tape, x.ok.output, x.ok.size, fun b hb _ => x.ok.block b hb⟩
theorem Only.below {S : BSet} {n : Nat} {w W W' : World} (hb : Below n w W) (h : Only S W W') (hs : ∀ b, S b → n ≤ b) (hn : n ≤ W.heap.size) : Below n w W' :=
  ⟨h.os.trans hb.os, h.tape.trans hb.tape, h.output.trans hb.output, Nat.le_trans hb.size h.size, fun k hk => (h.block k (by omega) (fun k' => by have := hs k k'; omega)).trans (hb.block k hk)⟩

/-- The blocks of S lie as they lay. -/
structure Kept (S : BSet) (W W' : World) : Prop where
  size : W.heap.size ≤ W'.heap.size
  same : ∀ b, S b → b < W.heap.size → W'.heap[b]? = W.heap[b]?
theorem Kept.refl (S : BSet) (W : World) : Kept S W W := ⟨Nat.le_refl _, fun _ _ _ => rfl⟩
theorem Kept.trans {S : BSet} {A B C : World} (h : Kept S A B) (k : Kept S B C) : Kept S A C :=
  ⟨Nat.le_trans h.size k.size, fun b hb hl => (k.same b hb (Nat.lt_of_lt_of_le hl h.size)).trans (h.same b hb hl)⟩
theorem Kept.mono {S T : BSet} {A B : World} (hst : ∀ b, T b → S b) (h : Kept S A B) : Kept T A B := ⟨h.size, fun b hb => h.same b (hst b hb)⟩
theorem Kept.alloc (S : BSet) (W : World) (o : Obj) : Kept S W (W.alloc o) := ⟨by simp, fun b _ hl => Below.heap_alloc W o b hl⟩
theorem Kept.drew (S : BSet) (W : World) : Kept S W W.drew := ⟨Nat.le_refl _, fun _ _ _ => rfl⟩
theorem Kept.later {S : BSet} {W : World} (x : Later W) : Kept S W x.val := ⟨x.ok.size, fun b _ hb => x.ok.block b hb⟩
theorem Kept.setCell {S : BSet} {W : World} {p : Addr} (v : Value) (h : ¬ S p.block) : Kept S W (W.setCell p v) :=
  ⟨(KeepsWalks.setCell W p v).size, fun b hs _ => Below.heap_setCell W p v b (fun e => h (e ▸ hs))⟩
theorem Kept.grown {S : BSet} {W W' : World} {row : Option Nat} (h : W.grownBy W' row) (hr : ∀ b, row = some b → ¬ S b) : Kept S W W' :=
  ⟨h.size, fun b hs hl => h.block b hl (fun e => hr b e.symm hs)⟩
theorem Kept.only {S T : BSet} {W W' : World} (h : Only T W W') (hst : ∀ b, S b → ¬ T b) : Kept S W W' := ⟨h.size, fun b hs hl => h.block b hl (hst b hs)⟩

/-- The iterator's side takes new blocks. -/
def Takes (S T : BSet) (W W' : World) : Prop := (∀ b, S b → T b) ∧ ∀ b, T b → S b ∨ (W.heap.size ≤ b ∧ b < W'.heap.size)
theorem Takes.refl (S : BSet) (W : World) {W' : World} : Takes S S W W' := ⟨fun _ h => h, fun _ h => .inl h⟩
/-- What the caller knows abides the iterator's steps. -/
def Stab (J : BSet → Nat → World → Prop) : Prop := ∀ S T k W W', J S k W → Takes S T W W' → Only S W W' → J T k W'

/-- **THE ITERATOR's CONTRACT**: yield is called with the values of L, one after the other, until a round has said 'no more'. -/
def IterC (P : Program) (g : Nat) (lb : Array Value) (S0 : BSet) (L : List (Array Value)) (w : World) : Prop :=
  ∀ (l : Nat) (J Jx : BSet → Nat → World → Prop) (S : BSet) (W : World), (∀ b, S0 b → S b) → (∀ b, S0 b → b < w.heap.size ∧ W.heap[b]? = w.heap[b]?) → w.heap.size ≤ W.heap.size → Stab J → Stab Jx →
    (∀ T k W1, k < L.length → J T k W1 → YieldAt Fence.wide 0 P l (L.getD k #[]) W1 fun e W' => Kept T W1 W' ∧ ((e = .returned (.bool true) ∧ J T (k + 1) W') ∨ (e = .returned (.bool false) ∧ Jx T k W'))) →
    J S 0 W → CallsIn Fence.wide 0 P g (#[.func (.yield l) #[] #[]] ++ lb) W fun e W' => (∃ v, e = .returned v) ∧ ∃ T, (∀ b, S b → T b) ∧ (J T L.length W' ∨ ∃ k, k < L.length ∧ Jx T k W')

/-- How a round may be left. -/
def leftBy (I : BSet → Nat → World → Prop) (Ix : BSet → Nat → Code → World → Prop) (S : BSet) (k : Nat) (W : World) : Exit → Act → World → Prop
  | .normal, _, W' => Kept S W W' ∧ I S (k + 1) W'
  | .ret, _, W' => Kept S W W' ∧ Ix S k .ret W'
  | .exit id, _, W' => Kept S W W' ∧ Ix S k (.exit id) W'
  | .goto t, _, W' => Kept S W W' ∧ Ix S k (.goto t) W'
  | .panic _, _, _ => False
  | .outgrown, _, _ => False

/-- **'for x := range f { body }'**, outermost. -/
theorem range_law {P : Program} {g : Operand} {ps : Array Tmp} {assign body : Code} {Q : Exit → Act → World → Prop} {a : Act} {w : World} {gf : Nat} {lb : Array Value}
    (hg : a.eval g = .func (.func gf) #[] lb) (eg : ∀ args w, (callFunc gf args).run P w = .ok (.enter gf args) w) {S0 : BSet} {L : List (Array Value)} (hit : IterC P gf lb S0 L w) (hlt0 : ∀ b, S0 b → b < w.heap.size) (hps : ∀ k, k < L.length → (L.getD k #[]).size = ps.size)
    (I : BSet → Nat → World → Prop) (Ix : BSet → Nat → Code → World → Prop) (hI : Stab I) (hIx : ∀ c, Stab fun S k W => Ix S k c W) (h0 : I S0 0 w) (a₁ : Nat → Act)
    (hassign : ∀ (l k : Nat) (W : World) (K : Act → World → Prop), k < L.length → K (a₁ k) W → assign.wpIn (Fence.wide.inRound l) 0 P (Exit.then K (fun _ _ _ => False)) { tmps := (ps.zip (L.getD k #[])).foldl (fun t (p, v) => t.setIfInBounds p v) a.tmps, defers := [] } W)
    (hbody : ∀ (l : Nat) (S : BSet) (k : Nat) (W : World), k < L.length → I S k W → body.wpIn (Fence.wide.inRound l) 0 P (leftBy I Ix S k W) (a₁ k) W)
    (hdone : ∀ (D : Nat) (S : BSet) (W : World), w.heap.size ≤ D → S D → (∀ b, S0 b → S b) → I S L.length W → W.heap[D]? = some (.deferred (some [])) → Q .normal { a with defers := { target := .collected D, args := #[] } :: a.defers } W)
    (hstop : ∀ (D : Nat) (c : Code) (S : BSet) (k : Nat) (W : World), k < L.length → w.heap.size ≤ D → S D → (∀ b, S0 b → S b) → Ix S k c W → W.heap[D]? = some (.deferred (some [])) → c.wpIn Fence.wide 0 P Q { a with defers := { target := .collected D, args := #[] } :: a.defers } W) :
    (Code.rangeFunc g ps assign body).wpIn Fence.wide 0 P Q a w := by
  refine wpIn_rangeFunc fun fn hfn => ?_
  -- the loop's two blocks: D, where the rounds would defer; l, the record
  obtain ⟨rec, hrec⟩ : ∃ rec : LoopState → Option Code → Loop, rec = fun st pe => { state := st, pending := pe, fn, tmps := a.tmps, params := ps, assign, body, defers := w.heap.size } := ⟨_, rfl⟩
  obtain ⟨W0, hW0⟩ : ∃ W0, (w.alloc (.deferred (some []))).alloc (.loop (rec .ready none)) = W0 := ⟨_, rfl⟩
  have on0 : Only S0 w W0 := by rw [← hW0]; exact (Only.alloc _ _ _).trans (Only.alloc _ _ _)
  have sz0 : W0.heap.size = w.heap.size + 2 := by rw [← hW0]; simp
  have recAt : W0.heap[w.heap.size + 1]? = some (.loop (rec .ready none)) := by
    have := World.alloc_heap_new (w.alloc (.deferred (some []))) (.loop (rec .ready none))
    rw [World.size_alloc] at this
    rw [← hW0]; exact this
  have defAt : W0.heap[w.heap.size]? = some (.deferred (some [])) := by
    rw [← hW0]; exact (Below.heap_alloc _ _ _ (by simp)).trans (World.alloc_heap_new w _)
  -- what the iterator is told: the two blocks are the law's
  let mine : BSet → BSet := fun S b => S b ∨ b = w.heap.size ∨ b = w.heap.size + 1
  let J : BSet → Nat → World → Prop := fun S k W => I (mine S) k W ∧ W.heap[w.heap.size + 1]? = some (.loop (rec .ready none)) ∧ W.heap[w.heap.size]? = some (.deferred (some [])) ∧ ¬ S w.heap.size ∧ ¬ S (w.heap.size + 1)
  let Jx : BSet → Nat → World → Prop := fun S k W => ∃ c, Ix (mine S) k c W ∧ W.heap[w.heap.size + 1]? = some (.loop (rec .done (some c))) ∧ W.heap[w.heap.size]? = some (.deferred (some [])) ∧ ¬ S w.heap.size ∧ ¬ S (w.heap.size + 1)
  have at_lt : ∀ {W : World} {b : Nat} {o : Obj}, W.heap[b]? = some o → b < W.heap.size := fun h => (Array.getElem?_eq_some_iff.1 h).1
  have takes : ∀ {S T : BSet} {W W' : World}, Takes S T W W' → Takes (mine S) (mine T) W W' := fun h => ⟨fun b hb => hb.imp (h.1 b) id, fun b hb => hb.elim (fun k => (h.2 b k).imp .inl id) (fun k => .inl (.inr k))⟩
  have stJ : Stab J := fun S T k W W' hj ht ho => by
    obtain ⟨h1, h2, h3, h4, h5⟩ := hj
    have l2 := at_lt h2
    have l3 := at_lt h3
    refine ⟨hI _ _ k W W' h1 (takes ht) (ho.mono fun b hb => .inl hb), (ho.block _ l2 h5).trans h2, (ho.block _ l3 h4).trans h3, fun k => ?_, fun k => ?_⟩
    · rcases ht.2 _ k with h | h
      · exact h4 h
      · omega
    · rcases ht.2 _ k with h | h
      · exact h5 h
      · omega
  have stJx : Stab Jx := fun S T k W W' hj ht ho => by
    obtain ⟨c, h1, h2, h3, h4, h5⟩ := hj
    have l2 := at_lt h2
    have l3 := at_lt h3
    refine ⟨c, hIx c _ _ k W W' h1 (takes ht) (ho.mono fun b hb => .inl hb), (ho.block _ l2 h5).trans h2, (ho.block _ l3 h4).trans h3, fun k => ?_, fun k => ?_⟩
    · rcases ht.2 _ k with h | h
      · exact h4 h
      · omega
    · rcases ht.2 _ k with h | h
      · exact h5 h
      · omega
  have no0 : ¬ S0 w.heap.size := fun k => Nat.lt_irrefl _ (hlt0 _ k)
  have no1 : ¬ S0 (w.heap.size + 1) := fun k => by have := hlt0 _ k; omega
  have j0 : J S0 0 W0 := ⟨hI S0 _ 0 w W0 h0 ⟨fun b hb => .inl hb, fun b hb => hb.imp id (fun k => by omega)⟩ on0, recAt, defAt, no0, no1⟩
  refine ⟨w.heap.size + 1, [{ target := .collected w.heap.size, args := #[] }], W0, { target := .fn (.func gf) lb, args := #[.func (.yield (w.heap.size + 1)) #[] #[]] }, W0, gf, #[.func (.yield (w.heap.size + 1)) #[] #[]] ++ lb, W0, ?_, ?_, fun _ _ => trivial, ?_, (fun h => by cases h), ?_⟩
  · rw [← hW0, hrec]; exact run_enterLoop_outer _ _ _ _ _
  · simp only [resolve, hg]
    simp [go_sem]
  · simp [invoke, go_sem, eg]
  · refine (hit (w.heap.size + 1) J Jx S0 W0 (fun _ h => h) (fun b hb => ⟨hlt0 b hb, ?_⟩) on0.size stJ stJx ?_ j0).mono ?_
    · rw [← hW0]
      exact (Below.heap_alloc _ _ _ (by simp; have := hlt0 b hb; omega)).trans (Below.heap_alloc _ _ _ (hlt0 b hb))
    · -- a round
      rintro T k W hk ⟨h1, h2, h3, h4, h5⟩
      have hy := run_yield (P := P) (args := L.getD k #[]) h2 (by rw [hrec]; exact hps k hk)
      rw [hrec] at hy
      refine ⟨fn, _, assign, body, hy, roundIn_of_wpIn hfn (hassign _ k W _ hk ?_)⟩
      refine ⟨_, run_beginRound h2 (by rw [hrec]), ?_⟩
      have l2 := at_lt h2
      have busy : (W.putObj (w.heap.size + 1) (.loop { rec .ready none with state := .busy })).heap[w.heap.size + 1]? = some (.loop { rec .ready none with state := .busy }) := World.putObj_heap_same l2
      have def2 : (W.putObj (w.heap.size + 1) (.loop { rec .ready none with state := .busy })).heap[w.heap.size]? = some (.deferred (some [])) := (World.putObj_heap_other (by omega)).trans h3
      have i2 := hI (mine T) (mine T) k W _ h1 (Takes.refl _ _) (Only.putObj (.loop { rec .ready none with state := .busy }) (.inr (.inr rfl)))
      refine wpIn_mono (hbody _ (mine T) k _ hk i2) ?_
      -- behind the body: the record is put back
      have fin : ∀ (jump : Option Code) (W3 : World), Kept (mine T) (W.putObj (w.heap.size + 1) (.loop { rec .ready none with state := .busy })) W3 →
          (Instr.endRound (w.heap.size + 1) jump).run P W3 = .ok (.bool jump.isNone) (W3.putObj (w.heap.size + 1) (.loop (rec (if jump.isNone then .ready else .done) jump))) ∧
          (W3.putObj (w.heap.size + 1) (.loop (rec (if jump.isNone then .ready else .done) jump))).heap[w.heap.size + 1]? = some (.loop (rec (if jump.isNone then .ready else .done) jump)) ∧
          (W3.putObj (w.heap.size + 1) (.loop (rec (if jump.isNone then .ready else .done) jump))).heap[w.heap.size]? = some (.deferred (some [])) ∧
          Kept T W (W3.putObj (w.heap.size + 1) (.loop (rec (if jump.isNone then .ready else .done) jump))) := by
        intro jump W3 hkp
        have b3 := (hkp.same _ (.inr (.inr rfl)) (at_lt busy)).trans busy
        have d3 := (hkp.same _ (.inr (.inl rfl)) (at_lt def2)).trans def2
        have r3 := run_endRound (P := P) jump b3
        rw [hrec] at r3 ⊢
        refine ⟨r3, World.putObj_heap_same (at_lt b3), (World.putObj_heap_other (by omega)).trans d3, ?_, ?_⟩
        · have := hkp.size; simp at this ⊢; exact this
        · intro b hb hl
          have hne : b ≠ w.heap.size + 1 := fun e => h5 (e ▸ hb)
          rw [World.putObj_heap_other hne, hkp.same b (.inl hb) (by simpa using hl), World.putObj_heap_other hne]
      rintro e a3 W3 hp
      cases e with
      | normal =>
        obtain ⟨hkp, hi⟩ := hp
        obtain ⟨r, p1, p2, p3⟩ := fin none W3 hkp
        exact ⟨_, _, r, p3, .inl ⟨rfl, hI (mine T) (mine T) _ W3 _ hi (Takes.refl _ _) (Only.putObj _ (.inr (.inr rfl))), p1, p2, h4, h5⟩⟩
      | ret =>
        obtain ⟨hkp, hi⟩ := hp
        obtain ⟨r, p1, p2, p3⟩ := fin (some .ret) W3 hkp
        exact ⟨_, _, r, p3, .inr ⟨rfl, .ret, hIx _ (mine T) (mine T) _ W3 _ hi (Takes.refl _ _) (Only.putObj _ (.inr (.inr rfl))), p1, p2, h4, h5⟩⟩
      | exit id =>
        obtain ⟨hkp, hi⟩ := hp
        obtain ⟨r, p1, p2, p3⟩ := fin (some (.exit id)) W3 hkp
        exact ⟨_, _, r, p3, .inr ⟨rfl, .exit id, hIx _ (mine T) (mine T) _ W3 _ hi (Takes.refl _ _) (Only.putObj _ (.inr (.inr rfl))), p1, p2, h4, h5⟩⟩
      | goto t =>
        obtain ⟨hkp, hi⟩ := hp
        obtain ⟨r, p1, p2, p3⟩ := fin (some (.goto t)) W3 hkp
        exact ⟨_, _, r, p3, .inr ⟨rfl, .goto t, hIx _ (mine T) (mine T) _ W3 _ hi (Takes.refl _ _) (Only.putObj _ (.inr (.inr rfl))), p1, p2, h4, h5⟩⟩
      | panic ch => exact hp.elim
      | outgrown => exact hp.elim
    · -- the iterator has returned
      rintro e W2 ⟨⟨v, rfl⟩, T, hsub, (⟨hi, hl, hk, h4, h5⟩ | ⟨k, hlk, c, hi, hl, hk, h4, h5⟩)⟩
      · refine ⟨none, _, by have := run_endLoop (P := P) hl (by rw [hrec]; simp); rw [hrec] at this; exact this, ?_⟩
        exact hdone _ (mine T) _ (Nat.le_refl _) (.inr (.inl rfl)) (fun b hb => .inl (hsub b hb)) (hI (mine T) (mine T) _ W2 _ hi (Takes.refl _ _) (Only.putObj _ (.inr (.inr rfl)))) ((World.putObj_heap_other (by omega)).trans hk)
      · refine ⟨some c, _, by have := run_endLoop (P := P) hl (by rw [hrec]; simp); rw [hrec] at this; exact this, ?_⟩
        exact hstop _ c (mine T) k _ hlk (Nat.le_refl _) (.inr (.inl rfl)) (fun b hb => .inl (hsub b hb)) (hIx c (mine T) (mine T) _ W2 _ hi (Takes.refl _ _) (Only.putObj _ (.inr (.inr rfl)))) ((World.putObj_heap_other (by omega)).trans hk)
end Go.Proofs.Ytelfinjnbncnlaa
