/- Tables of one's own: a list of lists of numbers. -/
import Derived.Test.YtlljjaafejjeeaaWLow
import Derived.Test.YtlljjaafejjeeaaRepeat
namespace Go.Proofs.Ytlljjaafejjeeaa
open Go.RowKit

theorem get_lt {w : World} {b : Nat} {o : Obj} (h : w.heap[b]? = some o) : b < w.heap.size := (Array.getElem?_eq_some_iff.1 h).1
theorem own_row_kind {V : World} {base k : Nat} {v : Value} {xs : List Value} (h : V.ownsRow base 24 1 v k xs) {g : Nat} (hg : v.ownBlock = some g) : ∃ cs, V.heap[g]? = some (.cells cs 24 (0, 0)) := by
  rcases h.2 with ⟨rfl, _⟩ | ⟨g', cap, cur, rfl, _, hh, _⟩
  · simp [Value.ownBlock] at hg
  · simp [Value.ownBlock] at hg; subst hg; exact ⟨_, hh⟩
theorem own_int_kind {V : World} {base : Nat} {v : Value} {l : List Int} (h : OwnI V base v l) {g : Nat} (hg : v.ownBlock = some g) : ∃ cs, V.heap[g]? = some (.cells cs 3 (0, 0)) := by
  rcases h.2 with ⟨rfl, _⟩ | ⟨g', cap, cur, rfl, _, hh, _⟩
  · simp [Value.ownBlock] at hg
  · simp [Value.ownBlock] at hg; subst hg; exact ⟨_, hh⟩
theorem row_ne_int {V : World} {base base' k : Nat} {v u : Value} {xs : List Value} {l : List Int} (h : V.ownsRow base 24 1 v k xs) (ho : OwnI V base' u l) : ∀ g, u.ownBlock = some g → v.ownBlock ≠ some g := by
  intro g hg hv
  obtain ⟨c1, h1⟩ := own_row_kind h hv
  obtain ⟨c2, h2⟩ := own_int_kind ho hg
  rw [h1] at h2
  simp at h2
/-- The cells of a table's list. -/
def heads (gs : Nat → Nat) (n k : Nat) : List Value := (List.range k).map fun i => .slice (some ⟨gs i, 0, none⟩) n n
theorem heads_get {gs : Nat → Nat} {n k i : Nat} (h : i < k) : (heads gs n k)[i]? = some (.slice (some ⟨gs i, 0, none⟩) n n) := by simp [heads, h]
theorem heads_congr {gs hs : Nat → Nat} {n k : Nat} (h : ∀ i, i < k → gs i = hs i) : heads gs n k = heads hs n k := by
  unfold heads
  exact List.map_congr_left fun i hi => by rw [h i (List.mem_range.1 hi)]
theorem heads_succ {gs : Nat → Nat} {n k : Nat} : heads gs n (k + 1) = heads gs n k ++ [.slice (some ⟨gs k, 0, none⟩) n n] := by simp [heads, List.range_succ]
/-- A table of k lists of n numbers. -/
def Tab (V : World) (base : Nat) (v : Value) (k n : Nat) (rows : Nat → List Int) : Prop :=
  ∃ gs : Nat → Nat, V.ownsRow base 24 1 v k (heads gs n k) ∧ ∀ i, i < k → OwnI V base (.slice (some ⟨gs i, 0, none⟩) n n) (rows i) ∧ (rows i).length = n
section
variable {V : World} {base : Nat} {v : Value} {k n : Nat} {rows : Nat → List Int}
theorem Tab.later (h : Tab V base v k n rows) (x : Later V) : Tab x.val base v k n rows :=
  let ⟨gs, h1, h2⟩ := h
  ⟨gs, own_later h1 x, fun i hi => ⟨(h2 i hi).1.later x, (h2 i hi).2⟩⟩
theorem Tab.mono {base' : Nat} (h : Tab V base v k n rows) (hb : base' ≤ base) : Tab V base' v k n rows :=
  let ⟨gs, h1, h2⟩ := h
  ⟨gs, ⟨h1.1, h1.2.imp id fun ⟨g, cap, cur, e, hg, r⟩ => ⟨g, cap, cur, e, Nat.le_trans hb hg, r⟩⟩, fun i hi => ⟨(h2 i hi).1.mono hb, (h2 i hi).2⟩⟩
theorem Tab.form (h : Tab V base v k n rows) (h0 : 0 < k) : ∃ g cap, v = .slice (some ⟨g, 0, none⟩) k cap ∧ base ≤ g ∧ g < V.heap.size ∧ ∀ i, i < k → ∃ gi, V.cell? ⟨g, i, none⟩ = some (.slice (some ⟨gi, 0, none⟩) n n) ∧ gi < V.heap.size ∧ OwnI V base (.slice (some ⟨gi, 0, none⟩) n n) (rows i) ∧ (rows i).length = n := by
  obtain ⟨gs, h1, h2⟩ := h
  have h1' := h1
  rcases h1'.2 with ⟨_, e⟩ | ⟨g, cap, cur, rfl, hb, hh, _⟩
  · omega
  · refine ⟨g, cap, rfl, hb, get_lt hh, fun i hi => ⟨gs i, ?_, (own_lt (h2 i hi).1 _ rfl).2, h2 i hi⟩⟩
    rw [World.ownsRow.cellAt h1 i (by omega), heads_get hi]
theorem Tab.head (g : Nat) (h : OwnI V base (.slice (some ⟨g, 0, none⟩) n n) (rows 0)) (hl : (rows 0).length = n) (hb : base ≤ V.heap.size) : Tab (V.alloc (.cells #[.slice (some ⟨g, 0, none⟩) n n] 24)) base (.slice (some ⟨V.heap.size, 0, none⟩) 1 1) 1 n rows := by
  refine ⟨fun _ => g, ?_, fun i hi => ?_⟩
  · have := World.ownsRow_lit (e := 24) (size := 1) V #[.slice (some ⟨g, 0, none⟩) n n] 1 hb (by unfold maxLen; omega) rfl
    exact this
  · obtain rfl : i = 0 := by omega
    exact ⟨h.alloc _, hl⟩
theorem Tab.push {V' : World} {v' : Value} {g : Nat} {gs : Nat → Nat} (h1 : V.ownsRow base 24 1 v k (heads gs n k)) (h2 : ∀ i, i < k → OwnI V base (.slice (some ⟨gs i, 0, none⟩) n n) (rows i) ∧ (rows i).length = n) (ho : OwnI V base (.slice (some ⟨g, 0, none⟩) n n) (rows k)) (hl : (rows k).length = n) (hg : V.grownBy V' v.ownBlock) (hn : V'.ownsRow base 24 1 v' (k + 1) (heads gs n k ++ [.slice (some ⟨g, 0, none⟩) n n])) : Tab V' base v' (k + 1) n rows := by
  have keep : ∀ {u : Value} {l : List Int}, OwnI V base u l → OwnI V' base u l := fun {u l} hu => hu.moved fun b hb => hg.block b (own_lt hu b hb).2 fun e => row_ne_int h1 hu b hb e.symm
  refine ⟨fun i => if i = k then g else gs i, ?_, fun i hi => ?_⟩
  · rw [heads_succ, if_pos rfl, heads_congr (hs := gs) fun i hi => if_neg (by omega)]
    exact hn
  · by_cases e : i = k
    · subst e; dsimp only; rw [if_pos rfl]; exact ⟨keep ho, hl⟩
    · dsimp only; rw [if_neg e]; exact ⟨keep (h2 i (by omega)).1, (h2 i (by omega)).2⟩
end
theorem infoL : (Try.prog.info? 24).map (fun i => (i.zero, i.size, i.bytes)) = some (some (.slice none 0 0), 1, 24) := by kernel_rfl
theorem info_list : ∃ i, Try.prog.info? 24 = some i ∧ i.zero = some (.slice none 0 0) ∧ i.size = 1 ∧ i.bytes = 24 := by
  have h := infoL
  cases hi : Try.prog.info? 24 with
  | none => rw [hi] at h; cases h
  | some i =>
    rw [hi] at h
    simp only [Option.map_some, Option.some.injEq, Prod.mk.injEq] at h
    exact ⟨i, rfl, h.1, h.2.1, h.2.2⟩
theorem lit_news {w : World} {v : Value} {t : TypeId} : ∀ (j : Nat) (u : Value), [v][j]? = some u → (w.alloc (.cells #[v] t)).cell? ((⟨w.heap.size, 0, none⟩ : Addr).add j) = some u := by
  intro j u hj
  match j, hj with
  | 0, hj => simp at hj; subst hj; simp [Addr.add]
theorem one_int {x : Int} : ∀ u ∈ [Value.int .i64 x], u.oneCell' = true := by intro u hu; simp at hu; subst hu; rfl
theorem one_slice {A : Option Addr} {n c : Nat} : ∀ u ∈ [Value.slice A n c], u.oneCell' = true := by intro u hu; simp at hu; subst hu; rfl
end Go.Proofs.Ytlljjaafejjeeaa
