/- The heap's own Push and Pop: walked. -/
import Derived.Test.YtelfinjnbncnlaaOwnO
import Derived.Test.YtelfinjnbncnlaaOwnI
import Derived.Test.YtelfinjnbncnlaaAroundC
import Derived.Deep.AppendLies
import Derived.Deep.RegionLaw
namespace Go.Proofs.Ytelfinjnbncnlaa
open Go.RowKit

theorem info_out : ∃ i, Try.prog.info? 73 = some i ∧ i.zero = some (.agg #[.int .i64 0, .int .i64 0]) ∧ i.size = 2 ∧ i.bytes = 16 := by
  have h := infoO
  cases hi : Try.prog.info? 73 with
  | none => rw [hi] at h; cases h
  | some i =>
    rw [hi] at h
    simp only [Option.map_some, Option.some.injEq, Prod.mk.injEq] at h
    exact ⟨i, rfl, h.1, h.2.1, h.2.2⟩

theorem only_grown {V V' : World} {row : Option Nat} {S : BSet} (h : V.grownBy V' row) (hs : ∀ b, row = some b → S b) : Only S V V' :=
  ⟨h.os, h.tape, h.output, h.size, fun b hb k => h.block b hb fun e => k (hs b e.symm)⟩
theorem box_ne {w : World} {bo base g n cap : Nat} {v : Value} {l : List Pt} (hb : w.heap[bo]? = some (.cells #[v] 69)) (ho : OwnO w base (.slice (some ⟨g, 0, none⟩) n cap) l) : bo ≠ g := by
  rintro rfl
  rcases ho.2 with ⟨e1, _⟩ | ⟨g', c', cur, e1, _, hg, _⟩
  · cases e1
  · simp only [Value.slice.injEq, Option.some.injEq, Addr.mk.injEq] at e1
    obtain ⟨⟨rfl, _, _⟩, _, rfl⟩ := e1
    rw [hb] at hg
    simp at hg
theorem only_via {S T : BSet} {A B C : World} (h : Only S A B) (k : Only T B C) (hs : ∀ b, b < A.heap.size → T b → S b) : Only S A C :=
  ⟨k.os.trans h.os, k.tape.trans h.tape, k.output.trans h.output, Nat.le_trans h.size k.size, fun b hb hn => (k.block b (Nat.lt_of_lt_of_le hb h.size) fun t => hn (hs b hb t)).trans (h.block b hb hn)⟩
theorem as_out (v : Value) (w : World) : (Instr.typeAssert (.iface 73 v) 20 73 false).run Try.prog w = .ok v w := by kernel_rfl
attribute [local go_sem] as_out

set_option maxRecDepth 100000 in
set_option maxHeartbeats 800000 in
theorem pushm_any (bo base n cap : Nat) (A : Option Addr) (l : List Pt) (x y : Int) (w : World) (hn : l.length = n) (hn9 : n ≤ 100000) (hbs : base ≤ w.heap.size) (hb : w.heap[bo]? = some (.cells #[.slice A n cap] 69)) (ho : OwnO w base (.slice A n cap) l) :
    Calls Try.prog 84 #[.pointer (some ⟨bo, 0, none⟩), .iface 73 (.agg #[.int .i64 x, .int .i64 y])] w fun e w' =>
      e = .returned (.tuple #[]) ∧ ∃ v', Only (fun b => b = bo ∨ (Value.slice A n cap).ownBlock = some b) w w' ∧ w'.heap[bo]? = some (.cells #[v'] 69) ∧ OwnO w' base v' (l ++ [(x, y)]) ∧ ∀ g', v'.ownBlock = some g' → (Value.slice A n cap).ownBlock = some g' ∨ w.heap.size ≤ g' := by
  have c0 := cell_of_heap hb 0 _ rfl
  have lb := (Array.getElem?_eq_some_iff.1 hb).1
  have HO := Lib.hid ho
  have HB := Lib.hid hb
  clear ho hb
  go_enter Try.func84, Try.ntmps84
  go_wp2_with fail
  have NE : Hid (some bo ≠ (Value.slice A n cap).ownBlock) := by
    intro e
    rcases HO.out.2 with ⟨e1, _⟩ | ⟨g, c', cur, e1, _, hg, _⟩
    · rw [e1] at e; cases e
    · rw [e1] at e
      have : bo = g := by simpa [Value.ownBlock] using e
      rw [← this, HB.out] at hg
      simp at hg
  obtain ⟨i0, hi0, hz0, hz1, hz2⟩ := info_out
  have HR : Hid (w.ownsRow base 73 2 (.slice A n cap) n (cells2 l)) := by subst hn; exact HO.out
  go_region_law (refine step_append_lies _ rfl (.tmp 7) (.tmp 10) 69 rfl base 73 i0 _ 2 16 Try.underlying69 hi0 hz0 hz1 hz2 rfl (by decide) _ n (cells2 l) (by simp [Act.eval, Act.put]) (World.ownsRow.alloc HR.out _) ⟨w.heap.size, 0, none⟩ 1 1 [.int .i64 x, .int .i64 y] (by simp [Act.eval, Act.put]) rfl (World.news_of_block (World.alloc_heap_new _ _)) (by intro u hu; simp at hu; rcases hu with rfl | rfl <;> rfl) (by omega) (by unfold maxLen; omega) (by omega) (by simp; omega) _ rfl ?_; intro g' cap' w5 hown hgrow hat hlt'; have hb5 : w5.heap[bo]? = some (.cells #[.slice A n cap] 69) := (hgrow.block bo (by simp; omega) NE.out).trans ((Below.heap_alloc w _ bo lb).trans HB.out); have c5 := cell_of_heap hb5 0 _ rfl; have f5 : w5.frozen? ⟨bo, 0, none⟩ = false := (by simp [World.frozen?, hb5]))
  all_goals
    go_end0
    have hown' : OwnO w5 base (.slice (some ⟨g', 0, none⟩) (n + 1) cap') (l ++ [(x, y)]) := by
      unfold OwnO
      rw [cells2_append, List.length_append, hn]
      exact hown
    refine ⟨rfl, _, ?_, one_setCell hb5, hown'.far fun g hg => ?_, fun g hg => ?_⟩
    · refine Only.trans (Only.trans (B := (w.alloc (.cells #[.int .i64 x, .int .i64 y] 73)).drew) ⟨rfl, rfl, rfl, by simp, fun b hb _ => Below.heap_alloc w _ b hb⟩ (only_grown hgrow fun b e => .inr e)) (Only.setCell _ (.inl rfl))
    · obtain rfl : g' = g := by simpa [Value.ownBlock] using hg
      rcases hat with h | h
      · intro e; exact NE.out (by rw [h]; exact congrArg some e)
      · simp at h; simp; omega
    · obtain rfl : g' = g := by simpa [Value.ownBlock] using hg
      rcases hat with h | h
      · exact .inl h
      · simp at h; exact .inr (by omega)
set_option maxRecDepth 100000 in
set_option maxHeartbeats 800000 in
theorem popm_any (bo base k g cap : Nat) (l : List Pt) (w : World) (hn : l.length = k + 1) (hn9 : k ≤ 100000) (hb : w.heap[bo]? = some (.cells #[.slice (some ⟨g, 0, none⟩) (k + 1) cap] 69)) (ho : OwnO w base (.slice (some ⟨g, 0, none⟩) (k + 1) cap) l) :
    Calls Try.prog 83 #[.pointer (some ⟨bo, 0, none⟩)] w fun e w' =>
      e = .returned (.iface 73 (.agg #[.int .i64 (hx l k), .int .i64 (hy l k)])) ∧ Only (fun b => b = bo) w w' ∧ w'.heap[bo]? = some (.cells #[.slice (some ⟨g, 0, none⟩) k cap] 69) ∧ OwnO w' base (.slice (some ⟨g, 0, none⟩) k cap) (l.take k) := by
  have c0 := cell_of_heap hb 0 _ rfl
  have lb := (Array.getElem?_eq_some_iff.1 hb).1
  have fb : w.frozen? ⟨bo, 0, none⟩ = false := by simp [World.frozen?, hb]
  obtain ⟨a0, a1, _⟩ := ho.cell hn (i := k) (by omega)
  obtain ⟨_, _, e1, _, lg, hcap⟩ := ho.form hn (by omega)
  simp only [Value.slice.injEq, Option.some.injEq, Addr.mk.injEq] at e1
  obtain ⟨⟨rfl, _, _⟩, _, rfl⟩ := e1
  have ne : bo ≠ g := by
    rintro rfl
    rcases ho.2 with ⟨e1, _⟩ | ⟨g', c', cur, e1, _, hg, _⟩
    · cases e1
    · simp only [Value.slice.injEq, Option.some.injEq, Addr.mk.injEq] at e1
      obtain ⟨⟨rfl, _, _⟩, _, rfl⟩ := e1
      rw [hb] at hg
      simp at hg
  have hk1 : ((k + 1 : Nat) : Int) - 1 = (k : Int) := by omega
  have HO := Lib.hid ho
  have HB := Lib.hid hb
  clear ho hb
  generalize hx l k = x at *
  generalize hy l k = y at *
  go_enter Try.func83, Try.ntmps83
  go_wp2
  go_ret
  refine ⟨rfl, ?_, ?_, ?_⟩
  · refine Only.trans (Only.setCell _ ?_) (Only.alloc _ _ _)
    exact rfl
  · exact (Below.heap_alloc _ _ bo (by simp; omega)).trans (one_setCell HB.out)
  · exact ((HO.out.pop hn (by omega)).far (fun g' hg => by simp [Value.ownBlock] at hg; simp; omega)).alloc _
end Go.Proofs.Ytelfinjnbncnlaa
