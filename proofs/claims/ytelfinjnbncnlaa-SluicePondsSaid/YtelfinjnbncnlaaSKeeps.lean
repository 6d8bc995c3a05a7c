/- Lists of bools of one's own (layer 3), and the sweeps of a ridge. -/
import Derived.Test.YtelfinjnbncnlaaDepths
import Derived.Test.YtelfinjnbncnlaaBfsMath
import Derived.Test.YtelfinjnbncnlaaSinkMath
import Derived.Test.YtelfinjnbncnlaaRidge
import Derived.Deep.DeepCutAuto
import Derived.Deep.LoopGhost
import Derived.Test.YtelfinjnbncnlaaAscends
import Derived.Test.YtelfinjnbncnlaaRepeat
namespace Go.Proofs.Ytelfinjnbncnlaa
open Go.RowKit

def cellsBl (l : List Bool) : List Value := l.map Value.bool
theorem cellsBl_get {l : List Bool} {i : Nat} (h : i < l.length) : (cellsBl l)[i]? = some (.bool (l.getD i true)) := by
  simp [cellsBl, List.getD_eq_getElem?_getD, List.getElem?_eq_getElem h]
theorem cellsBl_set (l : List Bool) (i : Nat) (x : Bool) : cellsBl (l.set i x) = (cellsBl l).set i (.bool x) := by simp [cellsBl, List.map_set]
def OwnBl (w : World) (base : Nat) (v : Value) (l : List Bool) : Prop := w.ownsRow base 4 1 v l.length (cellsBl l)
section
variable {w : World} {base g n cap : Nat} {v : Value} {l : List Bool}
theorem OwnBl.later (h : OwnBl w base v l) (x : Later w) : OwnBl x.val base v l := own_later h x
theorem OwnBl.below {V : World} (h : OwnBl w base v l) (hb : Below w.heap.size w V) : OwnBl V base v l := own_later h ⟨V, hb⟩
theorem OwnBl.cell {i : Nat} (h : OwnBl w base (.slice (some ⟨g, 0, none⟩) n cap) l) (hn : l.length = n) (hi : i < n) : w.cell? ⟨g, i, none⟩ = some (.bool (l.getD i true)) ∧ (∀ j, w.frozen? ⟨g, j, none⟩ = false) ∧ g < w.heap.size := by
  subst hn
  refine ⟨?_, fun j => World.ownsRow.frozenAt h j, (own_lt h g rfl).2⟩
  rw [World.ownsRow.cellAt h i (by omega), cellsBl_get hi]
theorem OwnBl.set (h : OwnBl w base (.slice (some ⟨g, 0, none⟩) n cap) l) (hn : l.length = n) (j : Nat) (b : Bool) : OwnBl (w.setCell ⟨g, j, none⟩ (.bool b)) base (.slice (some ⟨g, 0, none⟩) n cap) (l.set j b) := by
  subst hn
  have h1 := (World.ownsRow.stored h j (.bool b)).1
  unfold OwnBl
  rw [List.length_set, cellsBl_set]
  exact h1
theorem OwnBl.lo (h : OwnBl w base (.slice (some ⟨g, 0, none⟩) n cap) l) : base ≤ g ∧ g < w.heap.size := own_lt h g rfl
end
theorem infoBl : (Try.prog.info? 4).map (fun i => (i.zero, i.size, i.bytes)) = some (some (.bool false), 1, 1) := by kernel_rfl
theorem make_bools (w : World) (n : Nat) (hn : n ≤ 1000000) :
    (Instr.makeSlice 56 (.int .i64 (n : Int)) (.int .i64 (n : Int))).run Try.prog w = .ok (.slice (some ⟨w.heap.size, 0, none⟩) n n) (w.alloc (.cells (madeCells #[Value.bool false] n) 4)) := by
  have h := infoBl
  cases hi : Try.prog.info? 4 with
  | none => rw [hi] at h; cases h
  | some i =>
    rw [hi] at h
    simp only [Option.map_some, Option.some.injEq, Prod.mk.injEq] at h
    have := run_make (P := Try.prog) w 56 4 i (.bool false) Try.underlying56 hi h.1 .i64 .i64 n n (by omega) (Int.le_refl _) (by rw [h.2.2]; omega) (by omega)
    rw [h.2.1, Nat.mul_one, Int.toNat_natCast] at this
    exact this
theorem madeBl (n : Nat) : (madeCells #[Value.bool false] n).toList = cellsBl (List.replicate n false) := by
  apply List.ext_getElem?
  intro i
  simp only [cellsBl, madeCells]
  simp [Nat.mod_one]
  rcases Nat.lt_or_ge i n with h | h
  · simp [h]
  · simp [h]
theorem made_ownBl (w : World) (n base : Nat) (hb : base ≤ w.heap.size) (hn : n ≤ 1000000) : OwnBl (w.alloc (.cells (madeCells #[Value.bool false] n) 4)) base (.slice (some ⟨w.heap.size, 0, none⟩) n n) (List.replicate n false) := by
  unfold OwnBl
  rw [List.length_replicate, ← madeBl]
  exact World.ownsRow_lit w _ n hb (by unfold maxLen; omega) (by rw [size_madeCells, Nat.mul_one])

/-! Sweeps: a set that grows until nothing changes. -/
theorem bl_set {bl : List Bool} {i j n : Nat} (hl : bl.length = n) (hi : i < n) : (bl.set i true).getD j true = if j = i then true else bl.getD j true := by
  simp only [List.getD_eq_getElem?_getD, List.getElem?_set]
  by_cases e : i = j
  · subst e; simp [show i < bl.length by omega]
  · simp [e, show ¬ j = i from fun h => e h.symm]
/-- How many are not in the set. -/
def outs (bl : List Bool) : Nat → Nat
  | 0 => 0
  | k + 1 => outs bl k + if bl.getD k true then 0 else 1
theorem outs_le (bl : List Bool) : ∀ k, outs bl k ≤ k
  | 0 => Nat.le_refl _
  | k + 1 => by have := outs_le bl k; unfold outs; split <;> omega
theorem outs_set {bl : List Bool} {n i : Nat} (hl : bl.length = n) (hi : i < n) (hb : bl.getD i true = false) : ∀ k, outs (bl.set i true) k + (if i < k then 1 else 0) = outs bl k
  | 0 => by simp [outs]
  | k + 1 => by
    have ih := outs_set hl hi hb k
    have e1 : outs (bl.set i true) (k + 1) = outs (bl.set i true) k + (if (bl.set i true).getD k true then 0 else 1) := rfl
    have e2 : outs bl (k + 1) = outs bl k + (if bl.getD k true then 0 else 1) := rfl
    rw [e1, e2, bl_set hl hi]
    by_cases e : k = i
    · subst e
      rw [hb, if_pos rfl]
      simp only [Nat.lt_irrefl, if_false, Nat.add_zero] at ih
      simp [ih]
    · rw [if_neg e]
      by_cases h1 : i < k
      · rw [if_pos h1] at ih; rw [if_pos (show i < k + 1 by omega)]; omega
      · rw [if_neg h1] at ih; rw [if_neg (show ¬ i < k + 1 by omega)]; omega
/-- What is in the set is walked to; the source is in it. -/
structure Swept (n : Nat) (nx : Nat → List Nat) (may : Nat → Bool) (k : Nat) (bl : List Bool) : Prop where
  len : bl.length = n
  src : bl.getD k true = true
  sound : ∀ i, i < n → bl.getD i true = true → Walks nx may [k] i
/-- A square is not to be taken in. -/
def NoIn (nx : Nat → List Nat) (may : Nat → Bool) (bl : List Bool) (i : Nat) : Prop := bl.getD i true = false → may i = true → ∀ j, j ∈ nx i → bl.getD j true = false
section
variable {n : Nat} {nx : Nat → List Nat} {may : Nat → Bool} {k : Nat} {bl : List Bool}
theorem swept_start (hk : k < n) : Swept n nx may k ((List.replicate n false).set k true) := by
  refine ⟨by simp, ?_, fun i hi h => ?_⟩
  · rw [bl_set (by simp) hk, if_pos rfl]
  · rw [bl_set (by simp) hk] at h
    by_cases e : i = k
    · exact .at_ (by simp [e])
    · rw [if_neg e] at h
      simp [List.getD_eq_getElem?_getD, hi] at h
theorem Swept.add (h : Swept n nx may k bl) {i j : Nat} (hi : i < n) (hj : j < n) (hin : bl.getD j true = true) (hij : i ∈ nx j) (hm : may i = true) : Swept n nx may k (bl.set i true) := by
  refine ⟨by simp [h.len], ?_, fun i' hi' h' => ?_⟩
  · rw [bl_set h.len hi]; split
    · rfl
    · exact h.src
  · rw [bl_set h.len hi] at h'
    by_cases e : i' = i
    · subst e; exact .on (h.sound j hj hin) hij hm
    · rw [if_neg e] at h'; exact h.sound i' hi' h'
theorem Swept.all (h : Swept n nx may k bl) (hk : k < n) (hx : ∀ i j, j < n → i ∈ nx j → i < n ∧ j ∈ nx i) (hno : ∀ i, i < n → NoIn nx may bl i) : ∀ i, i < n → (bl.getD i true = true ↔ Walks nx may [k] i) := by
  have key : ∀ i, Walks nx may [k] i → i < n ∧ bl.getD i true = true := by
    intro i hw
    induction hw with
    | at_ hs =>
      obtain rfl := List.mem_singleton.1 hs
      exact ⟨hk, h.src⟩
    | on _ hij hm ih =>
      obtain ⟨hjn, hb⟩ := ih
      obtain ⟨hin, hji⟩ := hx _ _ hjn hij
      refine ⟨hin, ?_⟩
      rename_i i j _
      cases hc : bl.getD i true with
      | true => rfl
      | false => have := hno i hin hc hm j hji; rw [hb] at this; cases this
  exact fun i hi => ⟨h.sound i hi, fun hw => (key i hw).2⟩
end
end Go.Proofs.Ytelfinjnbncnlaa
namespace Go.Proofs.Ytelfinjnbncnlaa
open Go.RowKit

/-- What Ridge keeps: the set, as a list of its own. -/
structure KB (V9 V : World) (g n : Nat) (bl : List Bool) : Prop where
  below : Below V9.heap.size V9 V
  own : OwnBl V V9.heap.size (.slice (some ⟨g, 0, none⟩) n n) bl
theorem KB.later {V9 V : World} {g n : Nat} {bl : List Bool} (h : KB V9 V g n bl) (x : Later V) : KB V9 x.val g n bl := ⟨below_more h.below x.ok, h.own.later x⟩
theorem KB.put {V9 V : World} {g n : Nat} {bl : List Bool} (h : KB V9 V g n bl) (hl : bl.length = n) (i : Nat) : KB V9 (V.setCell ⟨g, i, none⟩ (.bool true)) g n (bl.set i true) :=
  ⟨h.below.setCell (p := ⟨g, i, none⟩) h.own.lo.1 _, h.own.set hl i true⟩
theorem own_bl_kind {V : World} {base : Nat} {v : Value} {l : List Bool} (h : OwnBl V base v l) {g : Nat} (hg : v.ownBlock = some g) : ∃ cs, V.heap[g]? = some (.cells cs 4 (0, 0)) := by
  rcases h.2 with ⟨rfl, _⟩ | ⟨g', cap, cur, rfl, _, hh, _⟩
  · simp [Value.ownBlock] at hg
  · simp [Value.ownBlock] at hg; subst hg; exact ⟨_, hh⟩
theorem own_i_kind {V : World} {base : Nat} {v : Value} {l : List Int} (h : OwnI V base v l) {g : Nat} (hg : v.ownBlock = some g) : ∃ cs, V.heap[g]? = some (.cells cs 3 (0, 0)) := by
  rcases h.2 with ⟨rfl, _⟩ | ⟨g', cap, cur, rfl, _, hh, _⟩
  · simp [Value.ownBlock] at hg
  · simp [Value.ownBlock] at hg; subst hg; exact ⟨_, hh⟩
theorem OwnBl.moved {w V' : World} {base : Nat} {v : Value} {l : List Bool} (h : OwnBl w base v l) (hk : ∀ g, v.ownBlock = some g → V'.heap[g]? = w.heap[g]?) : OwnBl V' base v l := by
  rcases h.2 with ⟨rfl, hn⟩ | ⟨g, cap, cur, rfl, hb, hh, rest⟩
  · exact ⟨h.1, .inl ⟨rfl, hn⟩⟩
  · exact ⟨h.1, .inr ⟨g, cap, cur, rfl, hb, (hk g rfl).trans hh, rest⟩⟩
theorem KB.grown {V9 V V' : World} {g n : Nat} {bl : List Bool} {v : Value} {l : List Int} (h : KB V9 V g n bl) (ho : OwnI V V9.heap.size v l) (hg : V.grownBy V' v.ownBlock) : KB V9 V' g n bl := by
  refine ⟨below_own h.below ho (Nat.le_refl _) hg, h.own.moved fun t ht => ?_⟩
  refine hg.block t (own_lt h.own t ht).2 fun e => ?_
  obtain ⟨c1, h1⟩ := own_bl_kind h.own ht
  obtain ⟨c2, h2⟩ := own_i_kind ho e.symm
  rw [h1] at h2
  simp only [Option.some.injEq, Obj.cells.injEq] at h2
  exact absurd h2.2.1 (by decide)
theorem KB.alloc {V9 V : World} {g n : Nat} {bl : List Bool} (h : KB V9 V g n bl) (o : Obj) : KB V9 (V.alloc o) g n bl := h.later ⟨V.alloc o, below_alloc (Below.refl _ _)⟩
/-- The same with the neighbours beside it. -/
structure KN (V9 V : World) (yb g n : Nat) (bl : List Bool) (AN : Option Addr) (nl cN : Nat) (l : List Int) : Prop where
  kb : KB V9 V g n bl
  near : OwnI V yb (.slice AN nl cN) l
  lt : g < yb
theorem KN.put {V9 V : World} {yb g n : Nat} {bl : List Bool} {AN : Option Addr} {nl cN : Nat} {l : List Int} (h : KN V9 V yb g n bl AN nl cN l) (hl : bl.length = n) (i : Nat) : KN V9 (V.setCell ⟨g, i, none⟩ (.bool true)) yb g n (bl.set i true) AN nl cN l :=
  ⟨h.kb.put hl i, h.near.far fun t ht => by have := (own_lt h.near t ht).1; have := h.lt; show g ≠ t; omega, h.lt⟩
def PostRr (w : World) (n W H : Nat) (f L : Nat → Int) (k : Nat) (e : Ending) (w' : World) : Prop := ∃ v, ∃ S : Nat → Bool, e = .returned v ∧ ∃ x : Later w, w' = x.val ∧ OwnI w' w.heap.size v (natN (filt S n)) ∧ ∀ i, i < n → (S i = true ↔ Walks (near4 W H) (mayR f L k) [k] i)
set_option maxRecDepth 100000 in
set_option maxHeartbeats 6400000 in
theorem rridge_ok {W H n m : Nat} {f a s L : Nat → Int} (h : FenL W H n m f a s L) (cap capS k b off : Nat) (B : Option Addr) (w : World) (hk : k < n) (hp : Ints w b off n f) (hq : IsSlu w B m a s) :
    Calls Try.prog 12 #[.agg #[.int .i64 W, .int .i64 H, .slice (some ⟨b, off, none⟩) n cap, .slice B m capS], .int .i64 k] w (PostRr w n W H f L k) := by
  obtain ⟨hW, hW2, hH1, hH, hn, hn1, hn2, hf, hm1, hm2, ha, hs⟩ := h.facts
  have RL : Hid (∀ w', Below w.heap.size w w' → GivesI 32 #[.agg #[.int .i64 W, .int .i64 H, .slice (some ⟨b, off, none⟩) n cap, .slice B m capS]] w' (tab n L)) := fun w' hb =>
    rlevels_any W H n cap m capS b off B f a s L w' hW hW2 hH1 hH hn (hp.later ⟨w', hb⟩) (hq.later ⟨w', hb⟩) hf ha hs h.lev h.pos (fun i hi => (h.high i hi).2)
  have NR : Hid (∀ (w' : World) (i : Nat), i < n → GivesI 33 #[.int .i64 W, .int .i64 H, .int .i64 i] w' (natN (near4 W H i))) := fun w' i hi => rnear_any W H i w' hW hW2 hH (hn ▸ hi)
  have NX : Hid (∀ i j, j < n → i ∈ near4 W H j → i < n ∧ j ∈ near4 W H i) := fun i j hj hi => by rw [hn] at hj ⊢; exact ⟨near_lt hi hj, near_flip hj hi⟩
  have MK : ∀ w', (Instr.makeSlice 56 (.int .i64 (n : Int)) (.int .i64 (n : Int))).run Try.prog w' = .ok (.slice (some ⟨w'.heap.size, 0, none⟩) n n) (w'.alloc (.cells (madeCells #[Value.bool false] n) 4)) := fun w' => make_bools w' n (by omega)
  have Hp := Lib.hid hp
  have HK := Lib.hid hk
  obtain ⟨i0, hi0, hz0, hz1, hz2⟩ := info_int
  have HN := Lib.hid hn
  have HI := Lib.hid fun i hi => (h.high i hi).1
  clear hp hq h hm1 hm2 ha hs hf hn
  go_enter Try.func12, Try.ntmps12
  go_upto_region 1 with fail
  have BX : Hid (∀ V, Below (w.alloc (.cells #[.int .i64 W, .int .i64 H, .slice (some ⟨b, off, none⟩) n cap, .slice B m capS] 25)).heap.size (w.alloc (.cells #[.int .i64 W, .int .i64 H, .slice (some ⟨b, off, none⟩) n cap, .slice B m capS] 25)) V → V.heap[w.heap.size]? = some (.cells #[.int .i64 W, .int .i64 H, .slice (some ⟨b, off, none⟩) n cap, .slice B m capS] 25 (0, 0))) := fun V h =>
    (h.block _ (by simp)).trans (World.alloc_heap_new _ _)
  have HB9 : Hid (Below w.heap.size w (w.alloc (.cells #[.int .i64 W, .int .i64 H, .slice (some ⟨b, off, none⟩) n cap, .slice B m capS] 25))) := below_alloc (Below.refl _ _)
  obtain ⟨b2, hb2⟩ : ∃ b2, w.heap.size = b2 := ⟨_, rfl⟩
  rw [hb2] at BX ⊢
  clear hb2
  generalize w.alloc (.cells #[.int .i64 W, .int .i64 H, .slice (some ⟨b, off, none⟩) n cap, .slice B m capS] 25) = V9 at *
  have hM := BX.out V9 (Below.refl _ _)
  have m0 := cell_of_heap hM 0 _ rfl
  have m1 := cell_of_heap hM 1 _ rfl
  have m2 := cell_of_heap hM 2 _ rfl
  have m3 := cell_of_heap hM 3 _ rfl
  have lM := get_lt hM
  clear hM
  have hb9 := HB9.out
  go_upto_region 3 with (go_at_call 32; with_reducible refine Calls.mono (GivesI.calls (RL.out _ (by repeat (first | exact Below.refl _ _ | (with_reducible assumption) | apply below_later | apply below_alloc | apply below_drew | apply below_drewN)))) ?_; rintro e w1 ⟨v, rfl, z1, rfl, ho⟩; obtain ⟨A1, c1, rfl⟩ := ho.shape_n (n := n) (tab_len _ _); obtain ⟨gL, cL, eL, _, hgl, _⟩ := ho.form (tab_len n L) (by omega); simp only [Value.slice.injEq] at eL; obtain ⟨rfl, _, rfl⟩ := eL; obtain ⟨pc, _⟩ := ho.cell (tab_len n L) hk; rw [tab_get hk] at pc; clear ho)
  have hz1b : Below V9.heap.size V9 z1.val := z1.ok
  have kb0 : KB V9 (z1.val.alloc (.cells (madeCells #[Value.bool false] n) 4)) z1.val.heap.size n (List.replicate n false) :=
    ⟨below_alloc hz1b, made_ownBl z1.val n _ hz1b.size (by omega)⟩
  clear MK m0 m1 m2 m3 pc hz1b
  generalize z1.val.heap.size = g at *
  generalize z1.val.alloc (.cells (madeCells #[Value.bool false] n) 4) = V0 at *
  obtain ⟨ck, fz, lg⟩ := kb0.own.cell (by simp) hk
  have fk := fz k
  have KB0 := Lib.hid kb0
  clear kb0 fz
  go_upto_region 4 with fail
  have kb1 := KB0.out.put (by simp) k
  clear ck fk lg KB0
  have SW0 := Lib.hid (swept_start (nx := near4 W H) (may := mayR f L k) hk)
  generalize V0.setCell ⟨g, k, none⟩ (.bool true) = V1 at *
  generalize (List.replicate n false).set k true = bl0 at *
  have KB1 := Lib.hid kb1
  have hM := BX.out V1 kb1.below
  have m2 := cell_of_heap hM 2 _ rfl
  have lM2 := get_lt hM
  have hp1 := Hp.out.later ⟨V1, below_more hb9 kb1.below⟩
  have cf := hp1.at_ k hk
  have lf := hp1.lt
  clear hM
  go_upto_region 5 with fail
  clear m2 lM2 cf lf lM hp1 kb1
  obtain ⟨lv, hlv⟩ : ∃ lv, L k = lv := ⟨_, rfl⟩
  obtain ⟨hk', hhk'⟩ : ∃ x, f k = x := ⟨_, rfl⟩
  have HLV := Lib.hid hlv
  have HFK := Lib.hid hhk'
  have hle : hk' ≤ lv := by rw [← hlv, ← hhk']; exact HI.out k hk
  rw [hlv, hhk']
  clear hlv hhk'
  have MAY : Hid (∀ i, mayR f L k i = decide (hk' < lv ∧ f i < lv)) := fun i => by unfold mayR; rw [HLV.out, HFK.out]
  obtain ⟨c0, hc0⟩ : ∃ c0, decide (hk' < lv) = c0 := ⟨_, rfl⟩
  rw [hc0]
  have HC0 := Lib.hid hc0
  clear hc0
  go_loopg [7] (outs bl0 n + (if c0 = true then 1 else 0)) (fun num mv wr => ∃ (c : Bool) (bl : List Bool), mv = .bool c ∧ num = outs bl n + (if c = true then 1 else 0) ∧ KB V9 wr g n bl ∧ Swept n (near4 W H) (mayR f L k) k bl ∧ (c = true → hk' < lv) ∧ (c = false → ∀ i, i < n → NoIn (near4 W H) (mayR f L k) bl i))
  case atStart =>
    exact ⟨_, bl0, rfl, rfl, KB1.out, SW0.out, fun h => of_decide_eq_true (HC0.out.trans h), fun h i hi => fun _ hm => absurd (of_decide_eq_false (HC0.out.trans h)) (by rw [MAY.out] at hm; have := (of_decide_eq_true hm).1; omega)⟩
  case round =>
    obtain ⟨c, bl, rfl, hnum, kb, sw, hcl, hst⟩ := hrel
    have KB2 := Lib.hid kb
    have SW2 := Lib.hid sw
    have HNUM := Lib.hid hnum
    have HST := Lib.hid hst
    clear kb sw hnum hst KB1 SW0
    cases c
    · have HS9 : Hid (∀ i, i < n → (bl.getD i true = true ↔ Walks (near4 W H) (mayR f L k) [k] i)) := SW2.out.all HK.out NX.out (HST.out rfl)
      clear hcl HST HNUM
      go_wp2_with fail
      go_loopw [11, 12] (fun v u wq => ∃ t : Nat, u = .int .i64 t ∧ t ≤ n ∧ KB V9 wq g n bl ∧ OwnI wq V9.heap.size v (natN (filt (fun i => bl.getD i true) t))) (fun _ u _ => n - (intOf u).toNat)
      case atStart => exact ⟨0, rfl, by omega, KB2.out, OwnI.nil _ _⟩
      case round =>
        obtain ⟨t, rfl, ht, kb, hom⟩ := hrel
        have KBM := Lib.hid kb
        have HOM := Lib.hid hom
        clear kb hom KB2
        by_cases hlt : t < n
        · obtain ⟨ot, _, lg⟩ := KBM.out.own.cell SW2.out.len hlt
          obtain ⟨lm, hlm⟩ : ∃ lm, (filt (fun i => bl.getD i true) t).length = lm := ⟨_, rfl⟩
          have hlm9 : lm ≤ 256 := by have := filt_len (fun i => bl.getD i true) t; omega
          have HLM : Hid ((natN (filt (fun i => bl.getD i true) t)).length = lm) := by show _ = _; rw [← hlm]; simp [natN]
          clear hlm
          cases hb : bl.getD t true with
          | false =>
            have E : Hid (filt (fun i => bl.getD i true) (t + 1) = filt (fun i => bl.getD i true) t) := filt_no hb
            rw [hb] at ot
            clear hb
            go_wp2_with fail
            go_roundw
            case rel => exact ⟨t + 1, by go_num, by omega, KBM.out, by rw [E.out]; exact HOM.out⟩
            case measure => simp [intOf]; omega
          | true =>
            have E : Hid (natN (filt (fun i => bl.getD i true) (t + 1)) = natN (filt (fun i => bl.getD i true) t) ++ [(t : Int)]) := by
              show _ = _
              rw [filt_yes hb]; simp [natN]
            rw [hb] at ot
            clear hb
            have hbm := KBM.out.below
            generalize hfl : filt (fun i => bl.getD i true) t = fl0 at *
            clear hfl
            go_wp2_with (at_builtin; refine wpList_append_own _ rfl _ _ 22 rfl V9.heap.size 3 i0 (.int .i64 0) 1 8 Try.underlying22 hi0 hz0 hz1 hz2 rfl (by decide) _ _ _ rfl ((own_row HOM.out HLM.out).alloc _) ⟨_, 0, none⟩ 1 1 [.int .i64 (t : Nat)] rfl rfl lit_news one_int (by unfold maxLen; omega) (by omega) (by have := hbm.size; simp only [World.size_alloc]; omega) ?_; intro v5 w5 hown2 hgrow _; have HM5 : Hid (OwnI w5 V9.heap.size v5 (natN fl0 ++ [(t : Int)])) := push_own (P := Try.prog) (w := w5) (v := v5) (by rw [HLM.out]; exact hown2); have KB5 := Lib.hid ((KBM.out.alloc _).grown (HOM.out.alloc _) hgrow); clear hown2 hgrow)
            go_roundw
            case rel => exact ⟨t + 1, by go_num, by omega, KB5.out, by rw [E.out]; exact HM5.out⟩
            case measure => simp [intOf]; omega
        · obtain rfl : t = n := by omega
          go_wp2_with fail
          go_ret
          exact ⟨_, fun i => bl.getD i true, rfl, ⟨_, below_more HB9.out KBM.out.below⟩, rfl, HOM.out.mono HB9.out.size, HS9.out⟩
    · have hlt0 := hcl rfl
      clear hcl
      go_wp2_with fail
      go_loopw [7, 8] (fun mv u wr => ∃ (c : Bool) (i : Nat) (bl' : List Bool), mv = .bool c ∧ u = .int .i64 i ∧ i ≤ n ∧ KB V9 wr g n bl' ∧ Swept n (near4 W H) (mayR f L k) k bl' ∧ (c = false → bl' = bl ∧ ∀ j, j < i → NoIn (near4 W H) (mayR f L k) bl j) ∧ (c = true → outs bl' n + 1 ≤ outs bl n)) (fun _ u _ => n - (intOf u).toNat)
      case atStart => exact ⟨false, 0, bl, rfl, rfl, by omega, KB2.out, SW2.out, fun _ => ⟨rfl, fun j hj => by omega⟩, fun h => by cases h⟩
      case round =>
        obtain ⟨c, i, bl', rfl, rfl, hi, kb, sw, hst, hmv⟩ := hrel
        have KB3 := Lib.hid kb
        have SW3 := Lib.hid sw
        have HS3 := Lib.hid hst
        have HM3 := Lib.hid hmv
        clear kb sw hst hmv
        by_cases hlt : i < n
        · obtain ⟨nl, hnl⟩ : ∃ nl, (near4 W H i).length = nl := ⟨_, rfl⟩
          have HNL : Hid ((natN (near4 W H i)).length = nl) := by show _ = _; rw [← hnl]; simp [natN]
          have nl4 : nl ≤ 4 := hnl ▸ near_len W H i
          have HNL2 := Lib.hid hnl
          clear hnl
          have M0 := BX.out _ KB3.out.below
          have m0 := cell_of_heap M0 0 _ rfl
          have m1 := cell_of_heap M0 1 _ rfl
          have lM := get_lt M0
          clear M0
          have HGW := Lib.hid KB3.out.own.lo.2
          go_upto_region 11 with (go_at_call 33; with_reducible refine Calls.mono (GivesI.calls (NR.out _ i hlt)) ?_; rintro e w2 ⟨vn, rfl, yn, rfl, hon⟩; obtain ⟨AN, capN, rfl⟩ := hon.shape_n (n := nl) HNL.out; have HON := Lib.hid hon; clear hon)
          obtain ⟨yb, hyb⟩ : ∃ yb, wr.heap.size = yb := ⟨_, rfl⟩
          have HKN : Hid (KN V9 yn.val yb g n bl' AN nl capN (natN (near4 W H i))) := ⟨KB3.out.later yn, hyb ▸ HON.out, hyb ▸ HGW.out⟩
          clear hyb
          clear HON m0 m1 lM
          generalize yn.val = VY at *
          go_wp2
          go_loopw [7, 10] (fun mv u wq => ∃ (c' : Bool) (q : Nat) (bl2 : List Bool), mv = .bool c' ∧ u = .int .i64 q ∧ q ≤ nl ∧ KN V9 wq yb g n bl2 AN nl capN (natN (near4 W H i)) ∧ Swept n (near4 W H) (mayR f L k) k bl2 ∧
            (c' = false → bl2 = bl ∧ (∀ j, j < i → NoIn (near4 W H) (mayR f L k) bl j) ∧ (bl.getD i true = false → mayR f L k i = true → ∀ q', q' < q → ∀ j, (near4 W H i)[q']? = some j → bl.getD j true = false)) ∧ (c' = true → outs bl2 n + 1 ≤ outs bl n)) (fun _ u _ => nl - (intOf u).toNat)
          case atStart => exact ⟨c, 0, bl', rfl, rfl, by omega, HKN.out, SW3.out, fun h => ⟨(HS3.out h).1, (HS3.out h).2, fun _ _ q' hq => absurd hq (by omega)⟩, HM3.out⟩
          case round =>
            obtain ⟨c', q, bl2, rfl, rfl, hq, kn, sw, hst, hmv⟩ := hrel
            have KN4 := Lib.hid kn
            have SW4 := Lib.hid sw
            have HS4 := Lib.hid hst
            have HM4 := Lib.hid hmv
            clear kn sw hst hmv HKN KB3 SW3 HS3 HM3
            by_cases hql : q < nl
            · obtain ⟨gb, gf, hAN, pN⟩ := (KN4.out.near.ints (by rw [HNL.out]; omega)).2.at_ (by omega)
              subst hAN
              have cN := pN.at_ q hql
              have lN := pN.lt
              obtain ⟨j, hj⟩ : ∃ j, (near4 W H i)[q]? = some j := ⟨_, List.getElem?_eq_getElem (by rw [HNL2.out]; exact hql)⟩
              have ej : (natN (near4 W H i)).getD q 0 = (j : Int) := by rw [List.getD_eq_getElem?_getD, natN, List.getElem?_map, hj]; rfl
              rw [ej] at cN
              have HJ := Lib.hid hj
              obtain ⟨hjn, hji⟩ := NX.out j i hlt (List.mem_of_getElem? hj)
              have hbw := KN4.out.kb.below
              have M0 := BX.out _ hbw
              have m2 := cell_of_heap M0 2 _ rfl
              have lM := get_lt M0
              have hp5 := Hp.out.later ⟨_, below_more hb9 hbw⟩
              have ci := hp5.at_ i hlt
              have lb := hp5.lt
              obtain ⟨oi, fzz, lg⟩ := KN4.out.kb.own.cell SW4.out.len hlt
              obtain ⟨oj, _, _⟩ := KN4.out.kb.own.cell SW4.out.len hjn
              have foi := fzz i
              have HN4 : Hid (∀ q', q' < q + 1 → ∀ t, (near4 W H i)[q']? = some t → q' < q ∨ t = j) := fun q' hq' t ht => by
                rcases Nat.lt_or_ge q' q with h1 | h1
                · exact .inl h1
                · obtain rfl : q' = q := by omega
                  rw [HJ.out] at ht
                  exact .inr (Option.some.inj ht).symm
              clear pN ej hj M0 hp5 fzz
              cases hbi : bl2.getD i true with
              | true =>
                have HBI := Lib.hid hbi
                rw [hbi] at oi
                clear hbi
                go_wp2_with fail
                go_roundw
                case rel =>
                  refine ⟨c', q + 1, bl2, rfl, by go_num, by omega, KN4.out, SW4.out, fun h => ?_, HM4.out⟩
                  obtain ⟨e1, e2, e3⟩ := HS4.out h
                  refine ⟨e1, e2, fun hb _ => ?_⟩
                  have := HBI.out
                  rw [e1, hb] at this
                  cases this
                case measure => simp [intOf]; omega
              | false =>
                have HBI := Lib.hid hbi
                rw [hbi] at oi
                clear hbi
                cases hbj : bl2.getD j true with
                | false =>
                  have HBJ := Lib.hid hbj
                  rw [hbj] at oj
                  clear hbj
                  go_wp2_with fail
                  go_roundw
                  case rel =>
                    refine ⟨c', q + 1, bl2, rfl, by go_num, by omega, KN4.out, SW4.out, fun h => ?_, HM4.out⟩
                    obtain ⟨e1, e2, e3⟩ := HS4.out h
                    refine ⟨e1, e2, fun hb hm q' hq' t ht => ?_⟩
                    rcases HN4.out q' hq' t ht with h1 | rfl
                    · exact e3 hb hm q' h1 t ht
                    · rw [← e1]; exact HBJ.out
                  case measure => simp [intOf]; omega
                | true =>
                  have HBJ := Lib.hid hbj
                  rw [hbj] at oj
                  clear hbj
                  by_cases hfi : f i < lv
                  · have d1 : decide (f i < lv) = true := decide_eq_true hfi
                    have hmay : mayR f L k i = true := by rw [MAY.out]; exact decide_eq_true ⟨hlt0, hfi⟩
                    have SW5 := Lib.hid (SW4.out.add hlt hjn HBJ.out hji hmay)
                    have KN5 := Lib.hid (KN4.out.put SW4.out.len i)
                    have HO5 := Lib.hid (outs_set SW4.out.len hlt HBI.out n)
                    clear hmay hfi
                    go_wp2_with fail
                    go_roundw
                    case rel =>
                      refine ⟨true, q + 1, bl2.set i true, rfl, by go_num, by omega, KN5.out, SW5.out, fun h => (by cases h), fun _ => ?_⟩
                      have e := HO5.out
                      rw [if_pos hlt] at e
                      cases c'
                      · rw [(HS4.out rfl).1] at e ⊢; omega
                      · have := HM4.out rfl; omega
                    case measure => simp [intOf]; omega
                  · have d1 : decide (f i < lv) = false := decide_eq_false hfi
                    have HFI := Lib.hid hfi
                    clear hfi
                    go_wp2_with fail
                    go_roundw
                    case rel =>
                      refine ⟨c', q + 1, bl2, rfl, by go_num, by omega, KN4.out, SW4.out, fun h => ?_, HM4.out⟩
                      obtain ⟨e1, e2, e3⟩ := HS4.out h
                      refine ⟨e1, e2, fun _ hm => ?_⟩
                      rw [MAY.out] at hm
                      exact absurd (of_decide_eq_true hm).2 HFI.out
                    case measure => simp [intOf]; omega
            · obtain rfl : q = nl := by omega
              go_wp2_with fail
              go_roundw
              case rel =>
                refine ⟨c', i + 1, bl2, rfl, by go_num, by omega, KN4.out.kb, SW4.out, fun h => ?_, HM4.out⟩
                obtain ⟨e1, e2, e3⟩ := HS4.out h
                refine ⟨e1, fun t ht => ?_⟩
                rcases Nat.lt_or_ge t i with h1 | h1
                · exact e2 t h1
                · obtain rfl : t = i := by omega
                  intro hb hm j hj
                  obtain ⟨q', hq'⟩ := List.mem_iff_getElem?.1 hj
                  have hlen := (List.getElem?_eq_some_iff.1 hq').1
                  exact e3 hb hm q' (by rw [← HNL2.out]; exact hlen) j hq'
              case measure => simp [intOf]; omega
        · obtain rfl : i = n := by omega
          go_wp2_with fail
          go_roundg (outs bl' i + (if c = true then 1 else 0))
          case measure =>
            have e := HNUM.out
            simp only [if_true] at e
            cases c
            · rw [(HS3.out rfl).1]; simp; omega
            · have := HM3.out rfl; simp; omega
          case rel => exact ⟨c, bl', rfl, rfl, KB3.out, SW3.out, fun _ => hlt0, fun h j hj => by obtain ⟨e1, e2⟩ := HS3.out h; rw [e1]; exact e2 j hj⟩
end Go.Proofs.Ytelfinjnbncnlaa
namespace Go.Proofs.Ytelfinjnbncnlaa
open Go.RowKit

def hasB (c : Nat) (r : Nat → Int) (x : Int) : Bool := (List.range c).any fun i => decide (r i = x)
theorem hasB_iff {c : Nat} {r : Nat → Int} {x : Int} : hasB c r x = true ↔ ∃ i, i < c ∧ r i = x := by
  unfold hasB
  rw [List.any_eq_true]
  constructor
  · rintro ⟨i, hi, h⟩; exact ⟨i, List.mem_range.1 hi, of_decide_eq_true h⟩
  · rintro ⟨i, hi, h⟩; exact ⟨i, List.mem_range.2 hi, decide_eq_true h⟩
theorem hasB_false {c : Nat} {r : Nat → Int} {x : Int} (h : ∀ i, i < c → r i ≠ x) : hasB c r x = false := by
  cases hh : hasB c r x with
  | false => rfl
  | true => obtain ⟨i, hi, e⟩ := hasB_iff.1 hh; exact absurd e (h i hi)
set_option maxRecDepth 100000 in
set_option maxHeartbeats 1600000 in
theorem index_any (A : Option Addr) (n cap : Nat) (x : Int) (f : Nat → Int) (w : World) (hn : n ≤ 1000) (hp : IsInts w A n f) :
    Calls Try.prog 53 #[.slice A n cap, .int .i64 x] w fun e w' => ∃ r : Int, e = .returned (.int .i64 r) ∧ (∃ y : Later w, w' = y.val) ∧ decide (r ≥ 0) = hasB n f x ∧ decide (0 ≤ r) = hasB n f x ∧ -1 ≤ r ∧ r ≤ n := by
  have HP := Lib.hid hp
  have HT : Hid (∀ k, k < n → f k = x → hasB n f x = true) := fun k hk e => hasB_iff.2 ⟨k, hk, e⟩
  have HF : Hid ((∀ j, j < n → f j ≠ x) → hasB n f x = false) := fun h => hasB_false h
  generalize hasB n f x = res at *
  clear hp
  go_enter Try.func53, Try.ntmps53
  go_wp2
  go_loopw [8] (fun u wr => ∃ k : Nat, k ≤ n ∧ u = .int .i64 k ∧ (∀ j, j < k → f j ≠ x) ∧ ∃ y : Later w, wr = y.val) (fun u _ => n - (intOf u).toNat)
  case atStart => exact ⟨0, by omega, rfl, by omega, later_of (by repeat (first | exact Below.refl _ _ | (with_reducible assumption) | apply below_later | apply below_alloc | apply below_drew | apply below_drewN))⟩
  case round =>
    obtain ⟨k, hk, rfl, hall, y, rfl⟩ := hrel
    have HALL := Lib.hid hall
    clear hall
    by_cases hlt : k < n
    · obtain ⟨b, off, hB, q⟩ := (HP.out.later y).at_ (by omega)
      subst hB
      have ck := q.at_ k hlt
      have lb := q.lt
      clear q
      by_cases e : f k = x
      · have HR := Lib.hid (HT.out k hlt e)
        have e1 : (x == f k) = true := by simp [e]
        clear e
        generalize f k = fk at *
        go_wp2_with fail
        go_ret
        exact ⟨(k : Int), rfl, later_of (by repeat (first | exact Below.refl _ _ | (with_reducible assumption) | apply below_later | apply below_alloc | apply below_drew | apply below_drewN)), by rw [HR.out]; simp, by rw [HR.out]; simp, by omega, by omega⟩
      · have e1 : (x == f k) = false := by simp; omega
        have HN : Hid (∀ j, j < k + 1 → f j ≠ x) := fun j hj => by
          rcases Nat.lt_or_ge j k with h | h
          · exact HALL.out j h
          · obtain rfl : j = k := by omega
            exact e
        clear e
        generalize f k = fk at *
        go_wp2_with fail
        all_goals
          first
            | (refine ⟨⟨k + 1, by omega, by go_num, HN.out, later_of (by repeat (first | exact Below.refl _ _ | (with_reducible assumption) | apply below_later | apply below_alloc | apply below_drew | apply below_drewN))⟩, ?_⟩; simp [intOf]; omega)
            | (go_roundw
               case rel => exact ⟨k + 1, by omega, by go_num, HN.out, later_of (by repeat (first | exact Below.refl _ _ | (with_reducible assumption) | apply below_later | apply below_alloc | apply below_drew | apply below_drewN))⟩
               case measure => simp [intOf]; omega)
    · obtain rfl : k = n := by omega
      have HR := Lib.hid (HF.out HALL.out)
      go_wp2
      go_ret
      exact ⟨(-1 : Int), rfl, later_of (by repeat (first | exact Below.refl _ _ | (with_reducible assumption) | apply below_later | apply below_alloc | apply below_drew | apply below_drewN)), by rw [HR.out]; decide, by rw [HR.out]; decide, by omega, by omega⟩
theorem contains_any (A : Option Addr) (n cap : Nat) (x : Int) (f : Nat → Int) (w : World) (hn : n ≤ 1000) (hp : IsInts w A n f) :
    Gives Try.prog 29 #[.slice A n cap, .int .i64 x] w (.bool (hasB n f x)) := by
  have HI := Lib.hid (index_any A n cap x f w hn hp)
  clear hp
  generalize hasB n f x = r at *
  go_enter Try.func29, Try.ntmps29
  go_wp2_with (go_at_call 53; refine Calls.mono HI.out ?_; rintro e w1 ⟨q, rfl, ⟨y, rfl⟩, hq, hq0, hq1, hq2⟩)
  go_ret
  exact ⟨rfl, later_of (by repeat (first | exact Below.refl _ _ | (with_reducible assumption) | apply below_later | apply below_alloc | apply below_drew | apply below_drewN))⟩
set_option maxRecDepth 100000 in
set_option maxHeartbeats 1600000 in
theorem rhas_any (A : Option Addr) (n cap : Nat) (x : Int) (f : Nat → Int) (w : World) (hn : n ≤ 1000) (hp : IsInts w A n f) :
    Gives Try.prog 34 #[.slice A n cap, .int .i64 x] w (.bool (hasB n f x)) := by
  have HP := Lib.hid hp
  have HT : Hid (∀ k, k < n → f k = x → hasB n f x = true) := fun k hk e => hasB_iff.2 ⟨k, hk, e⟩
  have HF : Hid ((∀ j, j < n → f j ≠ x) → hasB n f x = false) := fun h => hasB_false h
  generalize hasB n f x = res at *
  clear hp
  go_enter Try.func34, Try.ntmps34
  go_wp2
  go_loopw [5] (fun u wr => ∃ k : Nat, k ≤ n ∧ u = .int .i64 k ∧ (∀ j, j < k → f j ≠ x) ∧ ∃ y : Later w, wr = y.val) (fun u _ => n - (intOf u).toNat)
  case atStart => exact ⟨0, by omega, rfl, by omega, later_of (by repeat (first | exact Below.refl _ _ | (with_reducible assumption) | apply below_later | apply below_alloc | apply below_drew | apply below_drewN))⟩
  case round =>
    obtain ⟨k, hk, rfl, hall, y, rfl⟩ := hrel
    have HALL := Lib.hid hall
    clear hall
    by_cases hlt : k < n
    · obtain ⟨b, off, hB, q⟩ := (HP.out.later y).at_ (by omega)
      subst hB
      have ck := q.at_ k hlt
      have lb := q.lt
      clear q
      by_cases e : f k = x
      · have HR := Lib.hid (HT.out k hlt e)
        have e1 : (f k == x) = true := by simp [e]
        clear e
        generalize f k = fk at *
        go_wp2_with fail
        go_ret
        exact ⟨by rw [HR.out]; rfl, later_of (by repeat (first | exact Below.refl _ _ | (with_reducible assumption) | apply below_later | apply below_alloc | apply below_drew | apply below_drewN))⟩
      · have e1 : (f k == x) = false := by simp; omega
        have HN : Hid (∀ j, j < k + 1 → f j ≠ x) := fun j hj => by
          rcases Nat.lt_or_ge j k with h | h
          · exact HALL.out j h
          · obtain rfl : j = k := by omega
            exact e
        clear e
        generalize f k = fk at *
        go_wp2_with fail
        all_goals
          first
            | (refine ⟨⟨k + 1, by omega, by go_num, HN.out, later_of (by repeat (first | exact Below.refl _ _ | (with_reducible assumption) | apply below_later | apply below_alloc | apply below_drew | apply below_drewN))⟩, ?_⟩; simp [intOf]; omega)
            | (go_roundw
               case rel => exact ⟨k + 1, by omega, by go_num, HN.out, later_of (by repeat (first | exact Below.refl _ _ | (with_reducible assumption) | apply below_later | apply below_alloc | apply below_drew | apply below_drewN))⟩
               case measure => simp [intOf]; omega)
    · obtain rfl : k = n := by omega
      have HR := Lib.hid (HF.out HALL.out)
      go_wp2
      go_ret
      exact ⟨by rw [HR.out]; rfl, later_of (by repeat (first | exact Below.refl _ _ | (with_reducible assumption) | apply below_later | apply below_alloc | apply below_drew | apply below_drewN))⟩
/-- The least sill at a square; 1001: there is none. -/
def lsTo (a s : Nat → Int) (k : Nat) (i : Nat) : Int := if 0 ≤ sillTo a s i k then sillTo a s i k else 1001
theorem lsTo_step {a s : Nat → Int} {k i : Nat} (hs : 0 ≤ s k ∧ s k ≤ 1000) : lsTo a s (k + 1) i = if a k = (i : Int) then min (lsTo a s k i) (s k) else lsTo a s k i := by
  have e : sillTo a s i (k + 1) = if a k = (i : Int) ∧ (sillTo a s i k < 0 ∨ s k < sillTo a s i k) then s k else sillTo a s i k := rfl
  unfold lsTo
  rw [e]
  clear e
  generalize sillTo a s i k = st
  by_cases h1 : a k = (i : Int)
  · simp only [h1, true_and, if_true]
    repeat' split
    all_goals omega
  · simp only [h1, false_and, if_false]
end Go.Proofs.Ytelfinjnbncnlaa
namespace Go.Proofs.Ytelfinjnbncnlaa
open Go.RowKit

set_option maxRecDepth 100000 in
set_option maxHeartbeats 3200000 in
theorem leastSills_any {W H n m : Nat} {f a s L : Nat → Int} (h : FenL W H n m f a s L) (cap capS : Nat) (A B : Option Addr) (w : World) (hq : IsSlu w B m a s) :
    GivesI 54 #[.agg #[.int .i64 W, .int .i64 H, .slice A n cap, .slice B m capS]] w (tab n (lsTo a s m)) := by
  obtain ⟨hW, hW2, hH1, hH, hn, hn1, hn2, hf, hm1, hm2, ha, hs⟩ := h.facts
  obtain ⟨_, _, _, _, a9⟩ := valid_facts h.valid
  have ST : Hid (∀ k, k < m → (0 ≤ a k ∧ a k < n) ∧ 0 ≤ s k ∧ s k ≤ 1000) := fun k hk => by have := a9 k hk; omega
  have hwh : (W : Int) * (H : Int) = (n : Int) := by rw [← Int.natCast_mul, ← hn]
  have HQ := Lib.hid hq
  have RP : Hid (∀ (w' : World) (g0 : Nat), w'.cell? ⟨g0, 0, none⟩ = some (.int .i64 1001) → Calls Try.prog 36 #[.slice (some ⟨g0, 0, none⟩) 1 1, .int .i64 ((W : Int) * (H : Int))] w' fun e w'' => ∃ g, e = .returned (.slice (some ⟨g, 0, none⟩) n n) ∧ g = w'.heap.size ∧ ∃ y : Later w', w'' = y.val ∧ OwnI w'' w'.heap.size (.slice (some ⟨g, 0, none⟩) n n) (List.replicate n 1001)) := fun w' g0 hc => by rw [hwh]; exact repeat_any g0 0 1 n 1001 w' hn1 (by omega) hc
  have T0 : Hid (List.replicate n (1001 : Int) = tab n (lsTo a s 0)) := list_eq (n := n) (by simp) (tab_len _ _) fun i hi => by
    rw [tab_get hi]
    simp [List.getD_eq_getElem?_getD, hi, lsTo, sillTo]
  clear h hn ha hs a9 hf hq hwh
  go_enter Try.func54, Try.ntmps54
  go_upto_region 1 with fail
  have BX : Hid (∀ V, Below (w.alloc (.cells #[.int .i64 W, .int .i64 H, .slice A n cap, .slice B m capS] 25)).heap.size (w.alloc (.cells #[.int .i64 W, .int .i64 H, .slice A n cap, .slice B m capS] 25)) V → V.heap[w.heap.size]? = some (.cells #[.int .i64 W, .int .i64 H, .slice A n cap, .slice B m capS] 25 (0, 0))) := fun V h =>
    (h.block _ (by simp)).trans (World.alloc_heap_new _ _)
  have HB9 : Hid (Below w.heap.size w (w.alloc (.cells #[.int .i64 W, .int .i64 H, .slice A n cap, .slice B m capS] 25))) := below_alloc (Below.refl _ _)
  obtain ⟨b2, hb2⟩ : ∃ b2, w.heap.size = b2 := ⟨_, rfl⟩
  rw [hb2] at BX ⊢
  clear hb2
  generalize w.alloc (.cells #[.int .i64 W, .int .i64 H, .slice A n cap, .slice B m capS] 25) = V9 at *
  have hM := BX.out V9 (Below.refl _ _)
  have m0 := cell_of_heap hM 0 _ rfl
  have m1 := cell_of_heap hM 1 _ rfl
  have lM := get_lt hM
  clear hM
  have hc1 : (V9.alloc (.cells #[.int .i64 1001] 3)).cell? ⟨V9.heap.size, 0, none⟩ = some (.int .i64 1001) := cell_of_heap (World.alloc_heap_new _ _) 0 _ rfl
  go_upto_region 2 with (go_at_call 36; refine Calls.mono (RP.out _ _ hc1) ?_; rintro e w1 ⟨g, rfl, -, z1, rfl, ho⟩)
  have kl0 : KL V9 z1.val g n (tab n (lsTo a s 0)) := ⟨by repeat (first | exact Below.refl _ _ | (with_reducible assumption) | apply below_later | apply below_alloc | apply below_drew | apply below_drewN), by rw [← T0.out]; exact ho.mono (by simp)⟩
  clear m0 m1 lM hc1 ho
  generalize z1.val = V1 at *
  have KL0 := Lib.hid kl0
  have hM := BX.out V1 kl0.below
  have m3 := cell_of_heap hM 3 _ rfl
  have lM := get_lt hM
  clear hM kl0 T0
  go_wp2_with fail
  clear m3 lM
  go_loopw [16] (fun u wr => ∃ k : Nat, u = .int .i64 k ∧ k ≤ m ∧ KL V9 wr g n (tab n (lsTo a s k))) (fun u _ => m - (intOf u).toNat)
  case atStart => exact ⟨0, rfl, by omega, KL0.out⟩
  case round =>
    obtain ⟨k, rfl, hk, kl⟩ := hrel
    have KL1 := Lib.hid kl
    clear kl KL0
    by_cases hlt : k < m
    · obtain ⟨⟨a0, a1⟩, s0, s1⟩ := ST.out k hlt
      obtain ⟨t, ht⟩ : ∃ t : Nat, a k = t := ⟨(a k).toNat, by omega⟩
      have htn : t < n := by omega
      obtain ⟨gb, gf, hB, pB⟩ := (HQ.out.later ⟨_, below_more HB9.out KL1.out.below⟩).at_ (by omega)
      subst hB
      have cx := pB.x k hlt
      have cy := pB.y k hlt
      have lB := pB.lt
      rw [ht] at cx
      have E : Hid ((tab n (lsTo a s k)).set t (min (lsTo a s k t) (s k)) = tab n (lsTo a s (k + 1))) := list_eq (n := n) (by rw [List.length_set]; exact tab_len _ _) (tab_len _ _) fun i hi => by
        rw [getD_put (by rw [tab_len]; exact htn), tab_get hi, tab_get hi, lsTo_step ⟨s0, s1⟩, ht]
        by_cases c : i = t
        · subst c; simp
        · rw [if_neg c, if_neg (by omega)]
      obtain ⟨ot, fz⟩ := KL1.out.own.cell (tab_len n _) htn
      rw [tab_get htn] at ot
      have ft := fz t
      have lg := (own_lt KL1.out.own g rfl).2
      have KP := Lib.hid fun x : Int => (KL.later KL1.out ⟨_, below_alloc (o := .cells #[.int .i64 t, .int .i64 (s k)] 47) (Below.refl _ _)⟩).put (tab_len n _) t x
      clear pB fz a0 a1
      generalize lsTo a s k t = lo at *
      generalize s k = sk at *
      go_wp2_with fail
      have hbx : (wr.alloc (.cells #[.int .i64 t, .int .i64 sk] 47)).heap[wr.heap.size]? = some (.cells #[.int .i64 t, .int .i64 sk] 47 (0, 0)) := World.alloc_heap_new _ _
      have cb0 := cell_of_heap hbx 0 _ rfl
      have cb1 := cell_of_heap hbx 1 _ rfl
      have lb := get_lt hbx
      clear hbx
      have KW : Hid (KL V9 (wr.alloc (.cells #[.int .i64 t, .int .i64 sk] 47)) g n (tab n (lsTo a s k))) := KL1.out.later ⟨_, below_alloc (Below.refl _ _)⟩
      have ot2 : (wr.alloc (.cells #[.int .i64 t, .int .i64 sk] 47)).cell? ⟨g, t, none⟩ = some (.int .i64 lo) := (Later.cell ⟨_, below_alloc (o := .cells #[.int .i64 t, .int .i64 sk] 47) (Below.refl _ wr)⟩ _ _ lg).trans ot
      have lg2 : g < (wr.alloc (.cells #[.int .i64 t, .int .i64 sk] 47)).heap.size := (own_lt KW.out.own g rfl).2
      clear ot ft cx cy lB KP
      generalize wr.alloc (.cells #[.int .i64 t, .int .i64 sk] 47) = Y at *
      generalize wr.heap.size = bb at *
      refine wp_region_tail 0 11 (by kernel_rfl) (by kernel_rfl) ?_
      simp only [List.take_succ_cons, List.take_zero, List.drop_succ_cons, List.drop_zero]
      repeat (go_big_quiet_step ((fail)))
      refine wpQuiet_nil ?_
      intro y
      have ft : y.val.frozen? ⟨g, t, none⟩ = false := ((KW.out.later y).own.cell (tab_len n _) htn).2 t
      have ot3 : y.val.cell? ⟨g, t, none⟩ = some (.int .i64 lo) := (y.cell _ _ lg2).trans ot2
      have lg3 := (own_lt (KW.out.later y).own g rfl).2
      go_wp2_with fail
      refine calm_normal ?_
      have KY := Lib.hid ((KW.out.later y).put (tab_len n _) t (min lo sk))
      clear ft ot3 lg3 ot2 lg2 cb0 cb1 lb
      go_wp2
      go_roundw
      case rel => exact ⟨k + 1, by go_num, by omega, by rw [← E.out]; exact KY.out⟩
      case measure => simp [intOf]; omega
    · obtain rfl : k = m := by omega
      go_wp2
      go_ret
      exact ⟨_, rfl, ⟨_, below_more HB9.out KL1.out.below⟩, rfl, KL1.out.own.mono HB9.out.size⟩
end Go.Proofs.Ytelfinjnbncnlaa
namespace Go.Proofs.Ytelfinjnbncnlaa
open Go.RowKit

/-- A square of a ridge lets no water out that stands so high. -/
def okK (W H m : Nat) (f a s : Nat → Int) (c : Nat) (r : Nat → Int) (N : Int) (x : Nat) : Bool :=
  decide (N ≤ f x) || (!(decide (0 ≤ sillTo a s x m) && decide (sillTo a s x m < N)) && (near4 W H x).all fun j => !(decide (f j < N) && !hasB c r j))
def keepB (W H m : Nat) (f a s : Nat → Int) (c : Nat) (r : Nat → Int) (N : Int) : Bool := allB c fun i => okK W H m f a s c r N (r i).toNat
def holdB (W H m : Nat) (f a s : Nat → Int) (c : Nat) (r : Nat → Int) (N : Int) (k : Nat) : Bool := hasB c r k && (decide (N ≤ f k) || keepB W H m f a s c r N)
/-- What the two walks want of a square: it is high, or its sill is low, or it has neighbours. -/
theorem okK_high {W H m c x : Nat} {f a s r : Nat → Int} {N : Int} (h : N ≤ f x) : okK W H m f a s c r N x = true := by unfold okK; rw [decide_eq_true h]; rfl
theorem okK_sill {W H m c x : Nat} {f a s r : Nat → Int} {N : Int} (h : ¬ N ≤ f x) (h1 : 0 ≤ sillTo a s x m) (h2 : sillTo a s x m < N) : okK W H m f a s c r N x = false := by
  unfold okK; rw [decide_eq_false h, decide_eq_true h1, decide_eq_true h2]; rfl
theorem okK_near {W H m c x : Nat} {f a s r : Nat → Int} {N : Int} (h : ¬ N ≤ f x) (h1 : ¬ (0 ≤ sillTo a s x m ∧ sillTo a s x m < N)) : okK W H m f a s c r N x = (near4 W H x).all fun j => !(decide (f j < N) && !hasB c r j) := by
  unfold okK
  rw [decide_eq_false h]
  by_cases h2 : 0 ≤ sillTo a s x m
  · rw [decide_eq_true h2, decide_eq_false (fun h3 => h1 ⟨h2, h3⟩)]; rfl
  · rw [decide_eq_false h2]; rfl
end Go.Proofs.Ytelfinjnbncnlaa
namespace Go.Proofs.Ytelfinjnbncnlaa
open Go.RowKit

theorem near_at {W H x q j : Nat} (h : (near4 W H x)[q]? = some j) : (natN (near4 W H x)).getD q 0 = (j : Int) := by rw [List.getD_eq_getElem?_getD, natN, List.getElem?_map, h]; rfl
set_option maxRecDepth 100000 in
set_option maxHeartbeats 6400000 in
theorem keeps_ok {W H n m : Nat} {f a s L : Nat → Int} (h : FenL W H n m f a s L) (cap capS c capR : Nat) (A B D : Option Addr) (r : Nat → Int) (N : Int) (w : World) (hc : c ≤ 1000) (hN : 0 ≤ N ∧ N ≤ 1000) (hr : ∀ i, i < c → 0 ≤ r i ∧ r i < n) (hp : IsInts w A n f) (hq : IsSlu w B m a s) (hd : IsInts w D c r) :
    Gives Try.prog 30 #[.agg #[.int .i64 W, .int .i64 H, .slice A n cap, .slice B m capS], .int .i64 N, .slice D c capR] w (.bool (keepB W H m f a s c r N)) := by
  obtain ⟨hW, hW2, hH1, hH, hn, hn1, hn2, hf, hm1, hm2, ha, hs⟩ := h.facts
  have LS : Hid (∀ w', Below w.heap.size w w' → GivesI 54 #[.agg #[.int .i64 W, .int .i64 H, .slice A n cap, .slice B m capS]] w' (tab n (lsTo a s m))) := fun w' hb => leastSills_any h cap capS A B w' (hq.later ⟨w', hb⟩)
  have NR : Hid (∀ (w' : World) (i : Nat), i < n → GivesI 51 #[.int .i64 W, .int .i64 H, .int .i64 i] w' (natN (near4 W H i))) := fun w' i hi => near_any W H i w' hW hW2 hH (hn ▸ hi)
  have NX : Hid (∀ i j, j < n → i ∈ near4 W H j → i < n) := fun i j hj hi => by rw [hn] at hj ⊢; exact near_lt hi hj
  have CT : Hid (∀ (w' : World) (x : Int), Below w.heap.size w w' → Gives Try.prog 29 #[.slice D c capR, .int .i64 x] w' (.bool (hasB c r x))) := fun w' x hb => contains_any D c capR x r w' (by omega) (hd.later ⟨w', hb⟩)
  have HP := Lib.hid hp
  have HD := Lib.hid hd
  have HR := Lib.hid hr
  have HALL : Hid ((∀ i, i < c → okK W H m f a s c r N (r i).toNat = true) → keepB W H m f a s c r N = true) := fun h => allB_true h
  have HNOT : Hid (∀ i, i < c → okK W H m f a s c r N (r i).toNat = false → keepB W H m f a s c r N = false) := fun i hi h => allB_false hi h
  obtain ⟨res, hres⟩ : ∃ res, keepB W H m f a s c r N = res := ⟨_, rfl⟩
  rw [hres] at HALL HNOT ⊢
  clear hp hq hd h hn hm1 hm2 ha hs hf hr hres
  go_enter Try.func30, Try.ntmps30
  go_upto_region 1 with fail
  have BX : Hid (∀ V, Below (w.alloc (.cells #[.int .i64 W, .int .i64 H, .slice A n cap, .slice B m capS] 25)).heap.size (w.alloc (.cells #[.int .i64 W, .int .i64 H, .slice A n cap, .slice B m capS] 25)) V → V.heap[w.heap.size]? = some (.cells #[.int .i64 W, .int .i64 H, .slice A n cap, .slice B m capS] 25 (0, 0))) := fun V h =>
    (h.block _ (by simp)).trans (World.alloc_heap_new _ _)
  have HB9 : Hid (Below w.heap.size w (w.alloc (.cells #[.int .i64 W, .int .i64 H, .slice A n cap, .slice B m capS] 25))) := below_alloc (Below.refl _ _)
  obtain ⟨b2, hb2⟩ : ∃ b2, w.heap.size = b2 := ⟨_, rfl⟩
  rw [hb2] at BX ⊢
  clear hb2
  generalize w.alloc (.cells #[.int .i64 W, .int .i64 H, .slice A n cap, .slice B m capS] 25) = V9 at *
  have hM := BX.out V9 (Below.refl _ _)
  have m0 := cell_of_heap hM 0 _ rfl
  have m1 := cell_of_heap hM 1 _ rfl
  have m2 := cell_of_heap hM 2 _ rfl
  have m3 := cell_of_heap hM 3 _ rfl
  have lM := get_lt hM
  clear hM
  have hb9 := HB9.out
  go_upto_region 2 with (go_at_call 54; with_reducible refine Calls.mono (GivesI.calls (LS.out _ (by repeat (first | exact Below.refl _ _ | (with_reducible assumption) | apply below_later | apply below_alloc | apply below_drew | apply below_drewN)))) ?_; rintro e w1 ⟨v, rfl, z1, rfl, ho⟩; obtain ⟨gl, cl, ev, _, _, _⟩ := ho.form (tab_len n (lsTo a s m)) (by omega); subst ev; have HO := Lib.hid ho; clear ho)
  have hv1 : Below V9.heap.size V9 z1.val := by repeat (first | exact Below.refl _ _ | (with_reducible assumption) | apply below_later | apply below_alloc | apply below_drew | apply below_drewN)
  have HV1 := Lib.hid hv1
  clear m0 m1 m2 m3 lM hv1
  have HO1 : Hid (OwnI z1.val V9.heap.size (.slice (some ⟨gl, 0, none⟩) n cl) (tab n (lsTo a s m))) := HO.out
  clear HO
  generalize z1.val = V1 at *
  go_wp2_with fail
  go_loopw [16] (fun u wr => ∃ i : Nat, u = .int .i64 i ∧ i ≤ c ∧ (∀ j, j < i → okK W H m f a s c r N (r j).toNat = true) ∧ ∃ x : Later V1, wr = x.val) (fun u _ => c - (intOf u).toNat)
  case atStart => exact ⟨0, rfl, by omega, by omega, ⟨_, Below.refl _ _⟩, rfl⟩
  case round =>
    obtain ⟨i, rfl, hi, hall, x, rfl⟩ := hrel
    have HAL := Lib.hid hall
    clear hall
    by_cases hlt : i < c
    · obtain ⟨r0, r1⟩ := HR.out i hlt
      obtain ⟨t, ht⟩ : ∃ t : Nat, r i = t := ⟨(r i).toNat, by omega⟩
      have htn : t < n := by omega
      have hbx : Below V9.heap.size V9 x.val := below_more HV1.out x.ok
      have hbw : Below w.heap.size w x.val := below_more hb9 hbx
      have HXW := Lib.hid hbw
      have M0 := BX.out _ hbx
      have m0 := cell_of_heap M0 0 _ rfl
      have m1 := cell_of_heap M0 1 _ rfl
      have m2 := cell_of_heap M0 2 _ rfl
      have lM := get_lt M0
      obtain ⟨gd, od, hD, pd⟩ := (HD.out.later ⟨_, hbw⟩).at_ (by omega)
      subst hD
      have ci := pd.at_ i hlt
      have ld := pd.lt
      rw [ht] at ci
      obtain ⟨gf, of_, hA, pf⟩ := (HP.out.later ⟨_, hbw⟩).at_ (by omega)
      subst hA
      have cf := pf.at_ t htn
      have lf := pf.lt
      obtain ⟨cs, _⟩ := (HO1.out.later x).cell (tab_len n _) htn
      rw [tab_get htn] at cs
      have ls := (own_lt (HO1.out.later x) gl rfl).2
      have HNX : Hid (okK W H m f a s c r N t = true → ∀ j, j < i + 1 → okK W H m f a s c r N (r j).toNat = true) := fun h j hj => by
        rcases Nat.lt_or_ge j i with h1 | h1
        · exact HAL.out j h1
        · obtain rfl : j = i := by omega
          rw [ht]; exact h
      have HNO : Hid (okK W H m f a s c r N t = false → res = false) := fun h => HNOT.out i hlt (by rw [ht]; exact h)
      have elS : lsTo a s m t = if 0 ≤ sillTo a s t m then sillTo a s t m else 1001 := rfl
      clear pd pf M0 ht r0 r1
      by_cases c1 : N ≤ f t
      · have d1 : decide (N ≤ f t) = true := decide_eq_true c1
        have NXT := Lib.hid (HNX.out (okK_high c1))
        clear c1 elS
        generalize f t = ft at *
        go_wp2_with fail
        go_roundw
        case rel => exact ⟨i + 1, by go_num, by omega, NXT.out, later_of (by repeat (first | exact Below.refl _ _ | (with_reducible assumption) | apply below_later | apply below_alloc | apply below_drew | apply below_drewN))⟩
        case measure => simp [intOf]; omega
      · have d1 : decide (N ≤ f t) = false := decide_eq_false c1
        by_cases c2 : 0 ≤ sillTo a s t m ∧ sillTo a s t m < N
        · have RF := Lib.hid (HNO.out (okK_sill c1 c2.1 c2.2))
          have d2 : decide (lsTo a s m t < N) = true := decide_eq_true (by rw [elS, if_pos c2.1]; exact c2.2)
          clear c1 c2 elS
          generalize f t = ft at *
          generalize lsTo a s m t = lt at *
          go_wp2_with fail
          go_ret
          exact ⟨by rw [RF.out]; rfl, later_of (below_more HB9.out (below_more HV1.out (by repeat (first | exact Below.refl _ _ | (with_reducible assumption) | apply below_later | apply below_alloc | apply below_drew | apply below_drewN))))⟩
        · have EN := Lib.hid (okK_near (W := W) (H := H) (c := c) (r := r) c1 c2)
          have d2 : decide (lsTo a s m t < N) = false := decide_eq_false (by rw [elS]; split <;> omega)
          clear c1 c2 elS
          generalize f t = ft at *
          generalize lsTo a s m t = lt at *
          obtain ⟨nl, hnl⟩ : ∃ nl, (near4 W H t).length = nl := ⟨_, rfl⟩
          have HNL : Hid ((natN (near4 W H t)).length = nl) := by show _ = _; rw [← hnl]; simp [natN]
          have nl4 : nl ≤ 4 := hnl ▸ near_len W H t
          have HNL2 := Lib.hid hnl
          clear hnl
          go_wp2_with (go_at_call 51; with_reducible refine Calls.mono (GivesI.calls (NR.out _ t htn)) ?_; rintro e w2 ⟨vn, rfl, yn, rfl, hon⟩; obtain ⟨AN, capN, rfl⟩ := hon.shape_n (n := nl) HNL.out; have HON := Lib.hid hon; clear hon)
          have HON2 := Lib.hid (HON.out.ints (by rw [HNL.out]; omega)).2
          have HYV : Hid (Below V1.heap.size V1 yn.val) := by show Below _ _ _; repeat (first | exact Below.refl _ _ | (with_reducible assumption) | apply below_later | apply below_alloc | apply below_drew | apply below_drewN)
          clear HON m0 m1 m2 lM ci ld cf lf cs ls d1 d2
          generalize yn.val = VY at *
          go_loopw [40] (fun u wq => ∃ q : Nat, u = .int .i64 q ∧ q ≤ nl ∧ (∀ q', q' < q → ∀ j, (near4 W H t)[q']? = some j → (!(decide (f j < N) && !hasB c r j)) = true) ∧ ∃ y : Later VY, wq = y.val) (fun u _ => nl - (intOf u).toNat)
          case atStart => exact ⟨0, rfl, by omega, by omega, ⟨_, Below.refl _ _⟩, rfl⟩
          case round =>
            obtain ⟨q, rfl, hq, hsf, y, rfl⟩ := hrel
            have HSF := Lib.hid hsf
            clear hsf
            have hby : Below w.heap.size w y.val := below_more hb9 (below_more HV1.out (below_more HYV.out y.ok))
            by_cases hql : q < nl
            · obtain ⟨gb, gq, hAN, pN⟩ := (HON2.out.later y).at_ (by omega)
              subst hAN
              have cN := pN.at_ q hql
              have lN := pN.lt
              obtain ⟨j, hj⟩ : ∃ j, (near4 W H t)[q]? = some j := ⟨_, List.getElem?_eq_getElem (by rw [HNL2.out]; exact hql)⟩
              rw [near_at hj] at cN
              have hjn := NX.out j t htn (List.mem_of_getElem? hj)
              have M0 := BX.out _ (below_more HV1.out (below_more HYV.out y.ok))
              have m2 := cell_of_heap M0 2 _ rfl
              have lM := get_lt M0
              obtain ⟨ga, oa, ea, pa⟩ := (HP.out.later ⟨_, hby⟩).at_ (by omega)
              simp only [Option.some.injEq, Addr.mk.injEq] at ea
              obtain ⟨rfl, rfl, _⟩ := ea
              have cj := pa.at_ j hjn
              have lj := pa.lt
              have HN4 : Hid ((!(decide (f j < N) && !hasB c r j)) = true → ∀ q', q' < q + 1 → ∀ j', (near4 W H t)[q']? = some j' → (!(decide (f j' < N) && !hasB c r j')) = true) := fun h q' hq' j' hj' => by
                rcases Nat.lt_or_ge q' q with h1 | h1
                · exact HSF.out q' h1 j' hj'
                · obtain rfl : q' = q := by omega
                  rw [hj] at hj'
                  obtain rfl := Option.some.inj hj'
                  exact h
              have HN5 : Hid ((!(decide (f j < N) && !hasB c r j)) = false → res = false) := fun h => HNO.out (by rw [EN.out, List.all_eq_false]; exact ⟨j, List.mem_of_getElem? hj, by rw [h]; decide⟩)
              have CTj := Lib.hid fun w' hb => CT.out w' j hb
              clear pN pa M0 hj
              generalize f j = fj at *
              generalize hasB c r j = hb at *
              by_cases c3 : fj < N
              · have d3 : decide (fj < N) = true := decide_eq_true c3
                rw [d3] at HN4 HN5
                cases hb with
                | true =>
                  have HN6 := Lib.hid (HN4.out rfl)
                  clear HN4 HN5
                  go_wp2_with (go_at_call 29; with_reducible refine Calls.mono (Gives.calls (CTj.out _ (by repeat (first | exact Below.refl _ _ | (with_reducible assumption) | apply below_later | apply below_alloc | apply below_drew | apply below_drewN)))) ?_; rintro e w1 ⟨rfl, z3, rfl⟩)
                  go_roundw
                  case rel => exact ⟨q + 1, by go_num, by omega, HN6.out, later_of (by repeat (first | exact Below.refl _ _ | (with_reducible assumption) | apply below_later | apply below_alloc | apply below_drew | apply below_drewN))⟩
                  case measure => simp [intOf]; omega
                | false =>
                  have HN6 := Lib.hid (HN5.out rfl)
                  clear HN4 HN5
                  go_wp2_with (go_at_call 29; with_reducible refine Calls.mono (Gives.calls (CTj.out _ (by repeat (first | exact Below.refl _ _ | (with_reducible assumption) | apply below_later | apply below_alloc | apply below_drew | apply below_drewN)))) ?_; rintro e w1 ⟨rfl, z3, rfl⟩)
                  go_ret
                  exact ⟨by rw [HN6.out]; rfl, later_of (below_more hby (by repeat (first | exact Below.refl _ _ | (with_reducible assumption) | apply below_later | apply below_alloc | apply below_drew | apply below_drewN)))⟩
              · have d3 : decide (fj < N) = false := decide_eq_false c3
                rw [d3] at HN4
                have HN6 := Lib.hid (HN4.out rfl)
                clear HN4 HN5
                go_wp2_with fail
                go_roundw
                case rel => exact ⟨q + 1, by go_num, by omega, HN6.out, later_of (by repeat (first | exact Below.refl _ _ | (with_reducible assumption) | apply below_later | apply below_alloc | apply below_drew | apply below_drewN))⟩
                case measure => simp [intOf]; omega
            · obtain rfl : q = nl := by omega
              have NXT := Lib.hid (HNX.out (by
                rw [EN.out, List.all_eq_true]
                intro j hj
                obtain ⟨q', hq'⟩ := List.mem_iff_getElem?.1 hj
                exact HSF.out q' (by rw [← HNL2.out]; exact (List.getElem?_eq_some_iff.1 hq').1) j hq'))
              have hyx := Lib.hid (below_more HYV.out y.ok)
              go_wp2_with fail
              go_roundw
              case rel => exact ⟨i + 1, by go_num, by omega, NXT.out, ⟨_, hyx.out⟩, rfl⟩
              case measure => simp [intOf]; omega
    · obtain rfl : i = c := by omega
      have RT := Lib.hid (HALL.out HAL.out)
      go_wp2_with fail
      go_ret
      exact ⟨by rw [RT.out]; rfl, later_of (below_more HB9.out (below_more HV1.out (by repeat (first | exact Below.refl _ _ | (with_reducible assumption) | apply below_later | apply below_alloc | apply below_drew | apply below_drewN))))⟩
end Go.Proofs.Ytelfinjnbncnlaa
