/- bed.Parse: the map of a text. -/
import Derived.Test.YtajfepogecakbaaDoorBoxes
import Derived.Maps.OwnIn
import Derived.Test.YtajfepogecakbaaDoorDraw
import Derived.Test.YtajfepogecakbaaDoorSplitC
import Derived.Test.YtajfepogecakbaaDoorShelf
namespace Go.Proofs.YtajfepogecakbaaDoor
open Go.RowKit
attribute [local go_sem] Oper.semAt_some

/-- The kind of a letter; 0 if there is none. -/
def kindOf (c : UInt8) : Int := Lib.indexByte [114, 119, 115, 112] c + 1
theorem kindOf_bd (c : UInt8) : 0 ≤ kindOf c ∧ kindOf c ≤ 4 := by
  unfold kindOf
  have h1 := Lib.indexByte_ge [114, 119, 115, 112] c
  have h2 : Lib.indexByte [114, 119, 115, 112] c ≤ 3 := by
    simp only [Lib.indexByte]
    repeat (first | omega | split)
  omega
/-- What the lines give, from so many on. -/
def parseL : List (List UInt8) → Nat → Nat → List Int → Option (Nat × Nat × List Int)
  | [], W, H, sq => some (W, H, sq)
  | y :: r, W, H, sq =>
    if (decide (y.length = if H = 0 then y.length else W) && sideB ((if H = 0 then y.length else W : Nat) : Int) && sideB ((H + 1 : Nat) : Int) && y.all fun c => kindB (kindOf c)) = true
    then parseL r (if H = 0 then y.length else W) (H + 1) (sq ++ y.map kindOf) else none
/-- What a text gives. -/
def parseM (x : List UInt8) : Option (Nat × Nat × List Int) := parseL (pieces 47 x) 0 0 []

theorem thaw3 {w : World} {b : Nat} {cs : Array Value} {t : TypeId} (h : w.heap[b]? = some (.cells cs t (0, 0))) (j : Nat) : w.frozen? ⟨b, j, none⟩ = false := by simp [World.frozen?, h]
theorem set3 {w : World} {b j : Nat} {cs : Array Value} {t : TypeId} {v : Value} (h : w.heap[b]? = some (.cells cs t (0, 0))) : (w.setCell ⟨b, j, none⟩ v).heap[b]? = some (.cells (cs.setIfInBounds j v) t (0, 0)) := by
  simp [World.setCell, Array.getElem?_modify, h]

def nthW (l : List (List UInt8)) (k : Nat) : ByteArray := ⟨(l.getD k []).toArray⟩
theorem wordVals_at {l : List (List UInt8)} {k : Nat} (h : k < l.length) : (wordVals l).getD k #[] = #[Value.string (nthW l k)] := by
  rw [wordVals_get (List.getElem?_eq_getElem h), nthW, List.getD_eq_getElem?_getD, List.getElem?_eq_getElem h]; rfl
theorem nthW_at {l : List (List UInt8)} {k : Nat} (h : k < l.length) : ∃ y, l[k]? = some y ∧ nthW l k = ⟨y.toArray⟩ := by
  refine ⟨l[k], List.getElem?_eq_getElem h, ?_⟩
  rw [nthW, List.getD_eq_getElem?_getD, List.getElem?_eq_getElem h]; rfl
theorem wordVals_size {l : List (List UInt8)} {k : Nat} (h : k < (wordVals l).length) : ((wordVals l).getD k #[]).size = 1 := by
  rw [wordVals_at (by rwa [wordVals_length] at h)]; rfl
theorem pieces_le47 (x : List UInt8) : ∀ y ∈ pieces 47 x, y.length ≤ x.length := by
  induction x with
  | nil => intro y hy; simp [pieces] at hy; simp [hy]
  | cons a r ih =>
    intro y hy
    unfold pieces at hy
    split at hy
    · rcases List.mem_cons.1 hy with rfl | hy
      · simp
      · have := ih y hy; simp; omega
    · split at hy
      · simp at hy; simp [hy]
      · rename_i p ps e
        rcases List.mem_cons.1 hy with rfl | hy
        · have := ih p (by rw [e]; simp)
          simp; omega
        · have := ih y (by rw [e]; simp [hy])
          simp; omega
theorem char_run {y : List UInt8} {i : Nat} {c : UInt8} (h : y[i]? = some c) : ∀ W, (Instr.index 9 (.string ⟨y.toArray⟩) (.int .i64 i)).run Tryd.prog W = .ok (.int .u8 c.toNat) W := by
  intro W
  obtain ⟨hl, e⟩ := List.getElem?_eq_some_iff.1 h
  have hs : (⟨y.toArray⟩ : ByteArray).size = y.length := List.size_toArray
  have hi : 0 ≤ (i : Int) ∧ (i : Int) < ((⟨y.toArray⟩ : ByteArray).size : Int) := by rw [hs]; omega
  rw [run_index_string W 9 ⟨y.toArray⟩ .i64 i Tryd.underlying9, dif_pos hi]
  have : ((⟨y.toArray⟩ : ByteArray)[((i : Int)).toNat]'(by rw [hs]; omega)) = c := by
    rw [← e]; rfl
  rw [this]
theorem IndexByte_any (c : UInt8) (w : World) : Gives Tryd.prog 64 #[.string ⟨#[114, 119, 115, 112]⟩, .int .u8 c.toNat] w (.int .i64 (kindOf c - 1)) := by
  have := Tryd.strings_IndexByte ⟨#[114, 119, 115, 112]⟩ c.toNat w
  have e : ((c.toNat : Int)).toNat.toUInt8 = c := by simp
  rw [e] at this
  refine Calls.mono this fun e w' h => ⟨?_, ⟨w', h.2 ▸ Below.refl _ _⟩, rfl⟩
  rw [h.1]; unfold kindOf; congr 2; simp
/-- What Parse keeps: m, the two results, and m's squares. -/
structure PKeep (Wd Hd : Nat) (v : Value) (sq : List Int) (E : Int) (S : BSet) (w V : World) : Prop where
  bx : Boxes [(w.heap.size + 1 + 1, .cells #[.int .i64 Wd, .int .i64 Hd, v] 24), (w.heap.size, .cells #[.int .i64 0, .int .i64 0, .slice none 0 0] 24), (w.heap.size + 1, .cells #[.int .i64 E] 27)] S w V
  own : OwnI V w.heap.size v sq
  no : ∀ g, v.ownBlock = some g → ¬ S g
section
variable {Wd Hd : Nat} {v : Value} {sq : List Int} {E : Int} {S T : BSet} {w V V' : World}
theorem PKeep.stab (h : PKeep Wd Hd v sq E S w V) (ht : Takes S T V V') (ho : Only S V V') : PKeep Wd Hd v sq E T w V' := by
  obtain ⟨h1, h2⟩ := h.own.stab h.no ht ho
  exact ⟨h.bx.stab ht ho, h1, h2⟩
theorem PKeep.later (h : PKeep Wd Hd v sq E S w V) (x : Later V) : PKeep Wd Hd v sq E S w x.val := h.stab (Takes.refl _ _) (Only.later x)
theorem PKeep.m (h : PKeep Wd Hd v sq E S w V) : V.heap[w.heap.size + 1 + 1]? = some (.cells #[.int .i64 Wd, .int .i64 Hd, v] 24) := h.bx.get (by simp)
theorem PKeep.r (h : PKeep Wd Hd v sq E S w V) : V.heap[w.heap.size]? = some (.cells #[.int .i64 0, .int .i64 0, .slice none 0 0] 24) := h.bx.get (by simp)
theorem PKeep.e (h : PKeep Wd Hd v sq E S w V) : V.heap[w.heap.size + 1]? = some (.cells #[.int .i64 E] 27) := h.bx.get (by simp)
theorem PKeep.nom (h : PKeep Wd Hd v sq E S w V) : ¬ S (w.heap.size + 1 + 1) := (h.bx.at_ (_, _) (List.mem_cons_self ..)).2
theorem PKeep.nor (h : PKeep Wd Hd v sq E S w V) : ¬ S w.heap.size := (h.bx.at_ (w.heap.size, .cells #[.int .i64 0, .int .i64 0, .slice none 0 0] 24) (by simp)).2
theorem PKeep.noe (h : PKeep Wd Hd v sq E S w V) : ¬ S (w.heap.size + 1) := (h.bx.at_ (w.heap.size + 1, .cells #[.int .i64 E] 27) (by simp)).2
/-- The squares lie in no block of another type. -/
theorem own_type {b : Nat} {cs : Array Value} {t : TypeId} (h : OwnI V w.heap.size v sq) (hb : V.heap[b]? = some (.cells cs t (0, 0))) (ht : t ≠ 3) : ∀ g, v.ownBlock = some g → b ≠ g := by
  rintro g hg rfl
  exact Lib.ownBlock_ne h hb ht hg
/-- A cell of m is written. -/
theorem PKeep.setM (h : PKeep Wd Hd v sq E S w V) (j : Nat) (u : Value) {Wd' Hd' : Nat} {v' : Value} (hc : (#[Value.int .i64 Wd, .int .i64 Hd, v]).setIfInBounds j u = #[.int .i64 Wd', .int .i64 Hd', v']) (hv : v' = v) :
    PKeep Wd' Hd' v' sq E S w (V.setCell ⟨w.heap.size + 1 + 1, j, none⟩ u) := by
  subst hv
  have hm := set3 (j := j) (v := u) h.m
  rw [hc] at hm
  refine ⟨h.bx.turn (h.bx.below.setCell (p := ⟨w.heap.size + 1 + 1, j, none⟩) (by simp; omega) u) (KeepsWalks.setCell _ _ _).size fun p hp => ?_, h.own.moved fun g hg => Below.heap_setCell _ _ _ _ (fun e => own_type h.own h.m (by decide) g hg e.symm), h.no⟩
  simp only [List.mem_cons, List.not_mem_nil, or_false] at hp
  rcases hp with rfl | rfl | rfl
  · exact ⟨hm, h.nom⟩
  · exact ⟨(Below.heap_setCell _ _ _ _ (by simp; omega)).trans h.r, h.nor⟩
  · exact ⟨(Below.heap_setCell _ _ _ _ (by simp)).trans h.e, h.noe⟩
end

section
variable {Wd Hd : Nat} {v : Value} {sq : List Int} {E : Int} {S T : BSet} {w V V' : World}
/-- A square is appended. -/
theorem PKeep.grown (h : PKeep Wd Hd v sq E S w V) {o : Obj} {w2 : World} {v' : Value} (hg : (V.alloc o).grownBy w2 v.ownBlock) :
    (∀ b, b < V.heap.size → v.ownBlock ≠ some b → w2.heap[b]? = V.heap[b]?) ∧ w2.heap[w.heap.size + 1 + 1]? = some (.cells #[.int .i64 Wd, .int .i64 Hd, v] 24) ∧ V.heap.size + 1 ≤ w2.heap.size := by
  have a : ∀ b, b < V.heap.size → v.ownBlock ≠ some b → w2.heap[b]? = V.heap[b]? := fun b hb hn => by
    rw [hg.block b (by simp; omega) (fun e => hn e.symm), Below.heap_alloc _ _ _ hb]
  refine ⟨a, (a _ (lt_of_get h.m) (fun e => own_type h.own h.m (by decide) _ e rfl)).trans h.m, ?_⟩
  have := hg.size
  simpa using this
theorem PKeep.push (h : PKeep Wd Hd v sq E S w V) {o : Obj} {w2 : World} {v' : Value} {x : Int} (hg : (V.alloc o).grownBy w2 v.ownBlock) (ho : OwnI w2 w.heap.size v' (sq ++ [x])) (hat : v'.ownBlock = v.ownBlock ∨ v'.ownBlock = some (V.alloc o).heap.size) :
    PKeep Wd Hd v' (sq ++ [x]) E S w (w2.setCell ⟨w.heap.size + 1 + 1, 2, none⟩ v') ∧ Kept S V (w2.setCell ⟨w.heap.size + 1 + 1, 2, none⟩ v') := by
  obtain ⟨a1, a2, a3⟩ := h.grown (v' := v') hg
  have lr := lt_of_get h.r
  have le := lt_of_get h.e
  have hbw : Below w.heap.size w w2 := (h.bx.below.alloc h.bx.below.size o).grown hg (by have := h.bx.below.size; simp; omega) fun k hk => (own_lt h.own k hk).1
  have hm := set3 (j := 2) (v := v') a2
  have no' : ∀ g, v'.ownBlock = some g → ¬ S g := fun g hv' hS => by
    rcases hat with e | e
    · exact h.no g (e ▸ hv') hS
    · rw [e] at hv'
      have := (h.bx.own g hS).2
      simp at hv'
      omega
  refine ⟨⟨h.bx.turn (hbw.setCell (p := ⟨w.heap.size + 1 + 1, 2, none⟩) (by simp; omega) _) (Nat.le_trans (by omega) (KeepsWalks.setCell _ _ _).size) fun p hp => ?_, ho.moved fun g hg' => Below.heap_setCell _ _ _ _ (fun e => own_type ho a2 (by decide) g hg' e.symm), no'⟩, ?_⟩
  · simp only [List.mem_cons, List.not_mem_nil, or_false] at hp
    rcases hp with rfl | rfl | rfl
    · exact ⟨hm, h.nom⟩
    · exact ⟨(Below.heap_setCell _ _ _ _ (by simp; omega)).trans ((a1 _ lr (fun e => own_type h.own h.r (by decide) _ e rfl)).trans h.r), h.nor⟩
    · exact ⟨(Below.heap_setCell _ _ _ _ (by simp)).trans ((a1 _ le (fun e => own_type h.own h.e (by decide) _ e rfl)).trans h.e), h.noe⟩
  · refine ⟨Nat.le_trans (by omega) (KeepsWalks.setCell _ _ _).size, fun b hb hl => ?_⟩
    exact (Below.heap_setCell _ _ _ _ (fun (e : b = w.heap.size + 1 + 1) => h.nom (by rw [← e]; exact hb))).trans (a1 b hl fun e => h.no b e hb)
/-- The results are written. -/
theorem PKeep.fin (h : PKeep Wd Hd v sq E S w V) (u0 u1 u2 : Value) (E' : Int) {F : World} (hF : ((((V.setCell ⟨w.heap.size, 0, none⟩ u0).setCell ⟨w.heap.size, 1, none⟩ u1).setCell ⟨w.heap.size, 2, none⟩ u2).setCell ⟨w.heap.size + 1, 0, none⟩ (.int .i64 E')) = F) :
    (F.heap[w.heap.size]? = some (.cells #[u0, u1, u2] 24) ∧ F.heap[w.heap.size + 1]? = some (.cells #[.int .i64 E'] 27) ∧ F.heap[w.heap.size + 1 + 1]? = some (.cells #[.int .i64 Wd, .int .i64 Hd, v] 24)) ∧ (∀ D, S D → F.heap[D]? = V.heap[D]?) ∧ OwnI F w.heap.size v sq ∧ Below w.heap.size w F ∧ V.heap.size ≤ F.heap.size := by
  have b1 : ∀ D, D ≠ w.heap.size → D ≠ w.heap.size + 1 → F.heap[D]? = V.heap[D]? := fun D h1 h2 => by
    rw [← hF]
    exact (Below.heap_setCell _ _ _ _ h2).trans ((Below.heap_setCell _ _ _ _ h1).trans ((Below.heap_setCell _ _ _ _ h1).trans (Below.heap_setCell _ _ _ _ h1)))
  have k3 := put3 (v0 := u0) (v1 := u1) (v2 := u2) h.r
  have z1 : F.heap[w.heap.size]? = some (.cells #[u0, u1, u2] 24) := hF ▸ (Below.heap_setCell _ _ _ _ (by simp)).trans k3
  have z0 : (((V.setCell ⟨w.heap.size, 0, none⟩ u0).setCell ⟨w.heap.size, 1, none⟩ u1).setCell ⟨w.heap.size, 2, none⟩ u2).heap[w.heap.size + 1]? = some (.cells #[.int .i64 E] 27) :=
    (Below.heap_setCell _ _ _ _ (by simp)).trans ((Below.heap_setCell _ _ _ _ (by simp)).trans ((Below.heap_setCell _ _ _ _ (by simp)).trans h.e))
  have z2 : F.heap[w.heap.size + 1]? = some (.cells #[.int .i64 E'] 27) := hF ▸ one_setCell z0
  refine ⟨⟨z1, z2, (b1 _ (by omega) (by omega)).trans h.m⟩, fun D hD => b1 D (fun e => h.nor (e ▸ hD)) (fun e => h.noe (e ▸ hD)), h.own.moved fun g hg => b1 g (fun e => own_type h.own h.r (by decide) g hg e.symm) (fun e => own_type h.own h.e (by decide) g hg e.symm), ?_, ?_⟩
  · rw [← hF]
    exact (below_put3 h.bx.below (Nat.le_refl _)).setCell (p := ⟨w.heap.size + 1, 0, none⟩) (Nat.le_succ _) _
  · rw [← hF]
    exact Nat.le_trans (Nat.le_trans (KeepsWalks.setCell _ _ _).size (KeepsWalks.setCell _ _ _).size) (Nat.le_trans (KeepsWalks.setCell _ _ _).size (KeepsWalks.setCell _ _ _).size)
/-- The text is of no map. -/
theorem PKeep.fail (h : PKeep Wd Hd v sq E S w V) : PKeep Wd Hd v sq 3 S w ((((V.setCell ⟨w.heap.size, 0, none⟩ (.int .i64 0)).setCell ⟨w.heap.size, 1, none⟩ (.int .i64 0)).setCell ⟨w.heap.size, 2, none⟩ (.slice none 0 0)).setCell ⟨w.heap.size + 1, 0, none⟩ (.int .i64 3)) ∧
    Kept S V ((((V.setCell ⟨w.heap.size, 0, none⟩ (.int .i64 0)).setCell ⟨w.heap.size, 1, none⟩ (.int .i64 0)).setCell ⟨w.heap.size, 2, none⟩ (.slice none 0 0)).setCell ⟨w.heap.size + 1, 0, none⟩ (.int .i64 3)) := by
  obtain ⟨⟨z1, z2, z3⟩, z4, z5, z6, z7⟩ := h.fin (.int .i64 0) (.int .i64 0) (.slice none 0 0) 3 rfl
  refine ⟨⟨h.bx.turn z6 z7 fun p hp => ?_, z5, h.no⟩, ⟨z7, fun b hb _ => z4 b hb⟩⟩
  simp only [List.mem_cons, List.not_mem_nil, or_false] at hp
  rcases hp with rfl | rfl | rfl
  · exact ⟨z3, h.nom⟩
  · exact ⟨z1, h.nor⟩
  · exact ⟨z2, h.noe⟩
end

set_option maxRecDepth 100000 in
set_option maxHeartbeats 3200000 in
theorem bparse_any (x : List UInt8) (w : World) (hx : x.length ≤ 1000000) (W0 H0 : Nat) (L0 : List Int) (E0 : Int) (good : ∀ W H sq, parseM x = some (W, H, sq) → W0 = W ∧ H0 = H ∧ L0 = sq ∧ E0 = 0) (bad : parseM x = none → W0 = 0 ∧ H0 = 0 ∧ L0 = [] ∧ E0 = 3) :
    GivesME 21 #[.string ⟨x.toArray⟩] w W0 H0 L0 E0 := by
  refine (callsIn_wide (n := 0)).1 ?_
  refine callsIn_of_wp_marks Tryd.func21 rfl trivial ?_ rfl
  simp only [Tryd.ntmps21, List.size_toArray, List.length_cons, List.length_nil, Nat.reduceAdd, Nat.reduceSub, Array.replicate_succ, Array.replicate_zero, List.push_toArray, List.append_toArray, List.nil_append, List.cons_append]
  gi_wp2_with (gi_at_call 63; refine (callsIn_wide.2 (splitSeq_any ⟨x.toArray⟩ 47 _)).mono ?_; rintro e w' ⟨rfl, rfl⟩)
  obtain ⟨W1, hW1⟩ : ∃ W1, (((((w.alloc (.cells #[.int .i64 0, .int .i64 0, .slice none 0 0] 24)).alloc (.cells #[.int .i64 0] 27)).alloc (.cells #[.int .i64 0, .int .i64 0, .slice none 0 0] 24)).alloc (.cells #[.string ⟨x.toArray⟩] 9)).alloc (.cells #[.string ⟨#[47]⟩] 9)).alloc (.cells #[.int .i64 0] 3) = W1 := ⟨_, rfl⟩
  rw [hW1]
  have sz : W1.heap.size = w.heap.size + 6 := by rw [← hW1]; simp
  have hb : Below w.heap.size w W1 := by rw [← hW1]; repeat (first | exact Below.refl _ _ | (with_reducible assumption) | apply below_later | apply below_alloc | apply below_drew | apply below_drewN)
  have q1 : W1.heap[w.heap.size]? = some (.cells #[.int .i64 0, .int .i64 0, .slice none 0 0] 24) := by rw [← hW1]; repeat (first | (rw [get_alloc, if_neg (by simp only [World.size_alloc]; omega)]) | (rw [get_alloc, if_pos (by simp only [World.size_alloc])]))
  have q2 : W1.heap[w.heap.size + 1]? = some (.cells #[.int .i64 0] 27) := by rw [← hW1]; repeat (first | (rw [get_alloc, if_neg (by simp only [World.size_alloc]; omega)]) | (rw [get_alloc, if_pos (by simp only [World.size_alloc])]))
  have q3 : W1.heap[w.heap.size + 1 + 1]? = some (.cells #[.int .i64 0, .int .i64 0, .slice none 0 0] 24) := by rw [← hW1]; repeat (first | (rw [get_alloc, if_neg (by simp only [World.size_alloc]; omega)]) | (rw [get_alloc, if_pos (by simp only [World.size_alloc])]))
  have q4 : W1.heap[w.heap.size + 1 + 1 + 1]? = some (.cells #[.string ⟨x.toArray⟩] 9) := by rw [← hW1]; repeat (first | (rw [get_alloc, if_neg (by simp only [World.size_alloc]; omega)]) | (rw [get_alloc, if_pos (by simp only [World.size_alloc])]))
  have q5 : W1.heap[w.heap.size + 1 + 1 + 1 + 1]? = some (.cells #[.string ⟨#[47]⟩] 9) := by rw [← hW1]; repeat (first | (rw [get_alloc, if_neg (by simp only [World.size_alloc]; omega)]) | (rw [get_alloc, if_pos (by simp only [World.size_alloc])]))
  have q6 : W1.heap[w.heap.size + 1 + 1 + 1 + 2]? = some (.cells #[.int .i64 0] 3) := by rw [← hW1]; repeat (first | (rw [get_alloc, if_neg (by simp only [World.size_alloc]; omega)]) | (rw [get_alloc, if_pos (by simp only [World.size_alloc])]))
  have it := splitSeq1_iter x hx 47 W1 (w.heap.size + 1 + 1 + 1) (w.heap.size + 1 + 1 + 1 + 1) (w.heap.size + 1 + 1 + 1 + 2) (by omega) (by omega) q4 q5 q6
  have hlt0 : ∀ b, (b = w.heap.size + 1 + 1 + 1 ∨ b = w.heap.size + 1 + 1 + 1 + 1 ∨ b = w.heap.size + 1 + 1 + 1 + 2) → w.heap.size ≤ b ∧ b < W1.heap.size := fun b hb => by omega
  have pk : PKeep 0 0 (.slice none 0 0) [] 0 (fun b => b = w.heap.size + 1 + 1 + 1 ∨ b = w.heap.size + 1 + 1 + 1 + 1 ∨ b = w.heap.size + 1 + 1 + 1 + 2) w W1 := by
    refine ⟨⟨fun p hp => ?_, hb, hlt0⟩, OwnI.nil _ _, fun g hg => by simp [Value.ownBlock] at hg⟩
    simp only [List.mem_cons, List.not_mem_nil, or_false] at hp
    rcases hp with rfl | rfl | rfl
    · exact ⟨q3, by simp only; omega⟩
    · exact ⟨q1, by simp only; omega⟩
    · exact ⟨q2, by simp only; omega⟩
  have IT := Lib.hid it
  have L0' := Lib.hid hlt0
  have PK := Lib.hid pk
  have HG := Lib.hid good
  have HBD := Lib.hid bad
  clear it hlt0 pk good bad q1 q2 q3 q4 q5 q6 hW1 hb
  have hpl : ∀ y ∈ pieces 47 x, y.length ≤ 1000000 := fun y hy => Nat.le_trans (pieces_le47 x y hy) hx
  have HPL := Lib.hid hpl
  clear hpl
  obtain ⟨L, hL⟩ : ∃ L, pieces 47 x = L := ⟨_, rfl⟩
  have HM : Hid (parseM x = parseL L 0 0 []) := by show _ = _; rw [← hL]; rfl
  rw [hL] at IT HPL
  clear hL
  refine' range_law (gf := 105) (lb := #[.pointer (some ⟨w.heap.size + 1 + 1 + 1 + 1, 0, none⟩), .pointer (some ⟨w.heap.size + 1 + 1 + 1, 0, none⟩), .pointer (some ⟨w.heap.size + 1 + 1 + 1 + 2, 0, none⟩)]) rfl (enters_of Tryd.func105 (by kernel_rfl) rfl)
    IT.out (fun b hb => (L0'.out b hb).2) (fun k hk => wordVals_size hk)
    (fun S k V => ∃ (Wd Hd : Nat) (v : Value) (sq : List Int), Wd ≤ 30 ∧ Hd ≤ 30 ∧ sq.length = Wd * Hd ∧ parseM x = parseL (L.drop k) Wd Hd sq ∧ PKeep Wd Hd v sq 0 S w V)
    (fun S k c V => c = Code.ret ∧ parseM x = none ∧ ∃ Wd Hd v sq, PKeep Wd Hd v sq 3 S w V)
    (fun S T k V V' h ht ho => h.elim fun Wd h => h.elim fun Hd h => h.elim fun v h => h.elim fun sq h => ⟨Wd, Hd, v, sq, h.1, h.2.1, h.2.2.1, h.2.2.2.1, h.2.2.2.2.stab ht ho⟩)
    (fun c S T k V V' h ht ho => ⟨h.1, h.2.1, h.2.2.elim fun Wd h => h.elim fun Hd h => h.elim fun v h => h.elim fun sq h => ⟨Wd, Hd, v, sq, h.stab ht ho⟩⟩)
    ⟨0, 0, _, [], by omega, by omega, rfl, by rw [HM.out]; rfl, PK.out⟩ _ ?assign ?body ?done ?stop
  case assign =>
    intro l2 k V K hk hK
    rw [wordVals_length] at hk
    rw [wordVals_at hk]
    gi_wp2
    exact hK
  case body =>
    rintro l2 T k V hk ⟨Wd, Hd, v, sq, a1, a2, a3, a4, hp⟩
    rw [wordVals_length] at hk
    obtain ⟨y, hy, ey⟩ := nthW_at hk
    have hyl := HPL.out y (List.mem_of_getElem? hy)
    have hd : L.drop k = y :: L.drop (k + 1) := by
      obtain ⟨h1, h2⟩ := List.getElem?_eq_some_iff.1 hy
      rw [← h2]
      exact List.drop_eq_getElem_cons h1
    rw [hd] at a4
    obtain ⟨W', hW'⟩ : ∃ W' : Nat, W' = if Hd = 0 then y.length else Wd := ⟨_, rfl⟩
    have A4 : Hid (parseM x = if (decide (y.length = W') && sideB ((W' : Nat) : Int) && sideB ((Hd + 1 : Nat) : Int) && y.all fun c => kindB (kindOf c)) = true then parseL (L.drop (k + 1)) W' (Hd + 1) (sq ++ y.map kindOf) else none) := by
      show _ = _
      rw [a4, parseL, hW']
    clear a4 hd hy
    rw [ey]
    clear ey
    obtain ⟨A, cap, rfl⟩ := hp.own.shape
    obtain ⟨⟨c0, c1, c2⟩, g0, g1, g2⟩ := cells3 hp.m
    obtain ⟨⟨e0, e1, e2⟩, f0, f1, f2⟩ := cells3 hp.r
    have e3 := cell_of_box hp.e 0 _ rfl
    have f3 := thaw_of_box hp.e 0
    have lm := lt_of_get hp.m
    have le := lt_of_get hp.e
    have lr := lt_of_get hp.r
    generalize hln : sq.length = ln at *
    have HLN := Lib.hid hln
    have HP := Lib.hid hp
    have A3 := Lib.hid a3
    have hln9 : ln ≤ 900 := by rw [a3]; exact Nat.mul_le_mul a1 a2
    clear hln hp a3
    have S1 : Hid (∀ w, Gives Tryd.prog 59 #[.int .i64 ((W' : Nat) : Int)] w (.bool (sideB ((W' : Nat) : Int)))) := fun w => isSide_any _ w
    have S2 : Hid (∀ w, Gives Tryd.prog 59 #[.int .i64 ((Hd : Int) + 1)] w (.bool (sideB ((Hd + 1 : Nat) : Int)))) := fun w => isSide_any _ w
    by_cases h0 : Hd = 0
    · subst h0
      rw [if_pos rfl] at hW'
      subst hW'
      have S2' : Hid (∀ w, Gives Tryd.prog 59 #[.int .i64 1] w (.bool true)) := fun w => isSide_any _ w
      cases hs1 : sideB ((y.length : Nat) : Int)
      · have A5 : Hid (parseM x = none) := by show _ = _; rw [A4.out, hs1]; simp
        rw [hs1] at S1
        clear A4 hs1
        gi_wp2_with (gi_at_call 59; refine (CallsIn.inRound l2 (callsIn_wide.2 (Gives.calls (S1.out _)))).mono ?_; rintro e w1 ⟨rfl, z1, rfl⟩)
        obtain ⟨r1, r2⟩ := (((HP.out.setM (Wd' := y.length) (Hd' := 0) (v' := .slice A ln cap) 0 (.int .i64 y.length) rfl rfl).setM (Wd' := y.length) (Hd' := 1) (v' := .slice A ln cap) 1 (.int .i64 1) rfl rfl).later z1).fail
        exact ⟨((Kept.setCell _ HP.out.nom).trans (Kept.setCell _ HP.out.nom)).trans ((Kept.later z1).trans r2), rfl, A5.out, _, _, _, _, r1⟩
      · rw [hs1] at S1
        have HS1 := Lib.hid hs1
        have HS2 : Hid (sideB ((0 + 1 : Nat) : Int) = true) := rfl
        have b1 := sideB_iff.1 hs1
        clear hs1
        obtain ⟨W', hW'⟩ : ∃ W' : Nat, y.length = W' := ⟨_, rfl⟩
        rw [hW'] at A4 S1 HS1 b1
        have HYL : Hid (y.length = W') := hW'
        gi_wp2_with (first | (gi_at_call 59; refine (CallsIn.inRound l2 (callsIn_wide.2 (Gives.calls (S1.out _)))).mono ?_; rintro e w1 ⟨rfl, z1, rfl⟩) | (gi_at_call 59; refine (CallsIn.inRound l2 (callsIn_wide.2 (Gives.calls (S2'.out _)))).mono ?_; rintro e w1 ⟨rfl, z2, rfl⟩))
        have PK0 := (((HP.out.setM (Wd' := W') (Hd' := 0) (v' := .slice A ln cap) 0 (.int .i64 W') rfl rfl).setM (Wd' := W') (Hd' := 0 + 1) (v' := .slice A ln cap) 1 (.int .i64 1) rfl rfl).later z1).later z2
        have KP0 := (((Kept.setCell (S := T) (W := V) (p := ⟨w.heap.size + 1 + 1, 0, none⟩) (.int .i64 W') HP.out.nom).trans (Kept.setCell (p := ⟨w.heap.size + 1 + 1, 1, none⟩) (.int .i64 1) HP.out.nom)).trans ((Kept.later z1).trans (Kept.later z2)))
        clear hW' c0 c1 c2 g0 g1 g2 e0 e1 e2 e3 f0 f1 f2 f3
        have PKL := Lib.hid PK0
        have KPL := Lib.hid KP0
        clear PK0 KP0
        gi_loopw [41] (fun u wr => ∃ (i : Nat) (v' : Value), i ≤ W' ∧ u = .int .i64 i ∧ PKeep W' (0 + 1) v' (sq ++ (y.take i).map kindOf) 0 T w wr ∧ Kept T V wr ∧ (∀ c ∈ y.take i, kindB (kindOf c) = true)) (fun u _ => W' - (intOf u).toNat)
        case atStart => exact ⟨0, _, by omega, rfl, by simpa using PKL.out, KPL.out, by simp⟩
        case round =>
          obtain ⟨i, v', hi, rfl, hp', hkp, hall⟩ := hrel
          obtain ⟨⟨c0, c1, c2⟩, g0, g1, g2⟩ := cells3 hp'.m
          obtain ⟨⟨e0, e1, e2⟩, f0, f1, f2⟩ := cells3 hp'.r
          have e3 := cell_of_box hp'.e 0 _ rfl
          have f3 := thaw_of_box hp'.e 0
          have lm := lt_of_get hp'.m
          have le := lt_of_get hp'.e
          have lr := lt_of_get hp'.r
          have HP' := Lib.hid hp'
          have HKP := Lib.hid hkp
          have HALL := Lib.hid hall
          clear hp' hkp hall
          by_cases hlt : i < W'
          · obtain ⟨c, hc⟩ : ∃ c, y[i]? = some c := ⟨_, List.getElem?_eq_getElem (by rw [HYL.out]; exact hlt)⟩
            have cr := char_run hc
            have IB : Hid (∀ w, Gives Tryd.prog 64 #[.string ⟨#[114, 119, 115, 112]⟩, .int .u8 c.toNat] w (.int .i64 (kindOf c - 1))) := fun w => IndexByte_any c w
            have IK : Hid (∀ w, Gives Tryd.prog 61 #[.int .i64 (kindOf c)] w (.bool (kindB (kindOf c)))) := fun w => isKind_any _ w
            obtain ⟨kb0, kb4⟩ := kindOf_bd c
            have HT : Hid (y.take (i + 1) = y.take i ++ [c]) := by show _ = _; rw [List.take_add_one, hc]; rfl
            have HC := Lib.hid hc
            have hadd : kindOf c - 1 + 1 = kindOf c := by omega
            clear hc
            obtain ⟨kc, hkc⟩ : ∃ kc, kindOf c = kc := ⟨_, rfl⟩
            have HKC := Lib.hid hkc
            rw [hkc] at IB IK kb0 kb4 hadd
            clear hkc
            cases hkb : kindB kc
            · have A5 : Hid (parseM x = none) := by
                show _ = _
                rw [A4.out, if_neg]
                rw [Bool.and_eq_true]
                rintro ⟨_, h2⟩
                have := List.all_eq_true.1 h2 c (List.mem_of_getElem? HC.out)
                rw [HKC.out, hkb] at this
                cases this
              rw [hkb] at IK
              clear hkb
              gi_wp2_with (first | (gi_at_call 64; refine (CallsIn.inRound l2 (callsIn_wide.2 (Gives.calls (IB.out _)))).mono ?_; rintro e w1 ⟨rfl, z3, rfl⟩) | (gi_at_call 61; refine (CallsIn.inRound l2 (callsIn_wide.2 (Gives.calls (IK.out _)))).mono ?_; rintro e w1 ⟨rfl, z4, rfl⟩))
              obtain ⟨r1, r2⟩ := ((HP'.out.later z3).later z4).fail
              exact ⟨HKP.out.trans (((Kept.later z3).trans (Kept.later z4)).trans r2), rfl, A5.out, _, _, _, _, r1⟩
            · rw [hkb] at IK
              have HKB := Lib.hid hkb
              clear hkb
              obtain ⟨i0, hi0, hz0, hz1, hz2⟩ := info_int
              have HLN4' : (sq ++ (y.take i).map kindOf).length = ln + i := by rw [List.length_append, List.length_map, List.length_take, HLN.out]; have := HYL.out; omega
              obtain ⟨sqi, hsqi⟩ : ∃ sqi, sq ++ (y.take i).map kindOf = sqi := ⟨_, rfl⟩
              have HSQ := Lib.hid hsqi
              rw [hsqi] at HP' HLN4'
              have HLN4 := Lib.hid HLN4'
              clear hsqi HLN4'
              gi_wp2_with (first | (gi_at_call 64; refine (CallsIn.inRound l2 (callsIn_wide.2 (Gives.calls (IB.out _)))).mono ?_; rintro e w1 ⟨rfl, z3, rfl⟩) | (gi_at_call 61; refine (CallsIn.inRound l2 (callsIn_wide.2 (Gives.calls (IK.out _)))).mono ?_; rintro e w1 ⟨rfl, z4, rfl⟩; have HP4 := Lib.hid ((HP'.out.later z3).later z4); have lz := HP4.out.bx.below.size; have hown5 := own_row HP4.out.own HLN4.out) | (gi_at_builtin; refine wpListIn_append_own_at _ rfl _ _ 22 rfl w.heap.size 3 i0 (.int .i64 0) 1 8 Tryd.underlying22 hi0 hz0 hz1 hz2 rfl (by decide) _ _ _ rfl (hown5.alloc _) ⟨z4.val.heap.size, 0, none⟩ 1 1 [.int .i64 kc] rfl rfl ?c1 ?c2 ?c3 ?c4 ?c5 ?_))
              case c1 =>
                intro j u hj
                match j, hj with
                | 0, hj => simp at hj; subst hj; simp [Addr.add]
              case c2 => intro u hu; simp at hu; subst hu; rfl
              case c3 => unfold maxLen; omega
              case c4 => omega
              case c5 => simp; omega
              intro v5 w5 hown6 hgrow _ hat
              have HO6 : Hid (OwnI w5 w.heap.size v5 (sqi ++ [kc])) := by
                show OwnI _ _ _ _
                unfold OwnI
                rw [List.length_append, cellsI_append, HLN4.out]; exact hown6
              obtain ⟨A6, cap6, rfl⟩ : ∃ A cap, v5 = .slice A (ln + i + 1) cap := HO6.out.shape_n (by rw [List.length_append, HLN4.out]; rfl)
              obtain ⟨b1', b2', b3'⟩ := HP4.out.grown (v' := .slice A6 (ln + i + 1) cap6) hgrow
              obtain ⟨⟨d0, d1, d2⟩, h0, h1, h2⟩ := cells3 b2'
              obtain ⟨r1, r2⟩ := HP4.out.push hgrow HO6.out (by rw [World.size_alloc]; exact hat)
              have R1 := Lib.hid r1
              have R2 := Lib.hid r2
              have l5 := lt_of_get b2'
              clear hown5 hown6 hgrow hat r1 r2 b1' b2'
              gi_wp2
              go_roundw
              case rel =>
                refine ⟨i + 1, .slice A6 (ln + i + 1) cap6, by omega, by go_num, ?_, HKP.out.trans (((Kept.later z3).trans (Kept.later z4)).trans R2.out), ?_⟩
                · have e : sq ++ (y.take (i + 1)).map kindOf = sqi ++ [kc] := by
                    rw [HT.out, List.map_append, ← List.append_assoc, HSQ.out]
                    simp [HKC.out]
                  rw [e]
                  exact R1.out
                · intro d hd
                  rw [HT.out] at hd
                  rcases List.mem_append.1 hd with h | h
                  · exact HALL.out d h
                  · obtain rfl : d = c := by simpa using h
                    rw [HKC.out]; exact HKB.out
              case measure => simp [intOf]; omega
          · obtain rfl : i = W' := by omega
            have A5 : Hid (parseM x = parseL (L.drop (k + 1)) i (0 + 1) (sq ++ y.map kindOf)) := by
              show _ = _
              rw [A4.out, if_pos]
              have h2 : y.take i = y := List.take_of_length_le (by rw [HYL.out]; exact Nat.le_refl _)
              simp only [Bool.and_eq_true, decide_eq_true_eq, List.all_eq_true]
              exact ⟨⟨⟨by first | exact HYL.out | trivial, HS1.out⟩, HS2.out⟩, fun c hc => HALL.out c (by rw [h2]; exact hc)⟩
            gi_wp2
            have h2 : y.take i = y := List.take_of_length_le (by rw [HYL.out]; exact Nat.le_refl _)
            have hfin := HP'.out
            rw [h2] at hfin
            exact ⟨HKP.out, i, _, _, sq ++ y.map kindOf, by omega, by omega, by rw [List.length_append, List.length_map, HLN.out, HYL.out, A3.out]; simp [Nat.mul_add], A5.out, hfin⟩
    · rw [if_neg h0] at hW'
      subst hW'
      have q0 : ((Hd : Int) == 0) = false := by simp; omega
      by_cases hl : y.length = W'
      · have HYL := Lib.hid hl
        have q : ((y.length : Int) != (W' : Int)) = false := by simp [hl]
        clear hl
        cases hs1 : sideB ((W' : Nat) : Int)
        · have A5 : Hid (parseM x = none) := by show _ = _; rw [A4.out, hs1]; simp
          rw [hs1] at S1
          clear A4 hs1
          gi_wp2_with (gi_at_call 59; refine (CallsIn.inRound l2 (callsIn_wide.2 (Gives.calls (S1.out _)))).mono ?_; rintro e w1 ⟨rfl, z1, rfl⟩)
          obtain ⟨r1, r2⟩ := ((HP.out.setM (Wd' := W') (Hd' := Hd + 1) (v' := .slice A ln cap) 1 (.int .i64 ((Hd : Int) + 1)) rfl rfl).later z1).fail
          exact ⟨(Kept.setCell _ HP.out.nom).trans ((Kept.later z1).trans r2), rfl, A5.out, _, _, _, _, r1⟩
        · rw [hs1] at S1
          have HS1 := Lib.hid hs1
          have b1 := sideB_iff.1 hs1
          clear hs1
          cases hs2 : sideB ((Hd + 1 : Nat) : Int)
          · have A5 : Hid (parseM x = none) := by show _ = _; rw [A4.out, hs2]; simp
            rw [hs2] at S2
            clear A4 hs2
            gi_wp2_with (first | (gi_at_call 59; with_reducible refine CallsIn.mono (CallsIn.inRound l2 (callsIn_wide.2 (Gives.calls (S1.out _)))) ?_; rintro e w1 ⟨rfl, z1, rfl⟩) | (gi_at_call 59; with_reducible refine CallsIn.mono (CallsIn.inRound l2 (callsIn_wide.2 (Gives.calls (S2.out _)))) ?_; rintro e w1 ⟨rfl, z2, rfl⟩))
            obtain ⟨r1, r2⟩ := (((HP.out.setM (Wd' := W') (Hd' := Hd + 1) (v' := .slice A ln cap) 1 (.int .i64 ((Hd : Int) + 1)) rfl rfl).later z1).later z2).fail
            exact ⟨(Kept.setCell _ HP.out.nom).trans (((Kept.later z1).trans (Kept.later z2)).trans r2), rfl, A5.out, _, _, _, _, r1⟩
          · rw [hs2] at S2
            have HS2 := Lib.hid hs2
            have HHD : Hid (Hd + 1 = Hd + 1) := rfl
            have b2 := (sideB_iff.1 hs2).2
            clear hs2
            gi_wp2_with (first | (gi_at_call 59; with_reducible refine CallsIn.mono (CallsIn.inRound l2 (callsIn_wide.2 (Gives.calls (S1.out _)))) ?_; rintro e w1 ⟨rfl, z1, rfl⟩) | (gi_at_call 59; with_reducible refine CallsIn.mono (CallsIn.inRound l2 (callsIn_wide.2 (Gives.calls (S2.out _)))) ?_; rintro e w1 ⟨rfl, z2, rfl⟩))
            have PK0 := ((HP.out.setM (Wd' := W') (Hd' := Hd + 1) (v' := .slice A ln cap) 1 (.int .i64 ((Hd : Int) + 1)) rfl rfl).later z1).later z2
            have KP0 := ((Kept.setCell (S := T) (W := V) (p := ⟨w.heap.size + 1 + 1, 1, none⟩) (.int .i64 ((Hd : Int) + 1)) HP.out.nom).trans ((Kept.later z1).trans (Kept.later z2)))
            clear c0 c1 c2 g0 g1 g2 e0 e1 e2 e3 f0 f1 f2 f3
            have PKL := Lib.hid PK0
            have KPL := Lib.hid KP0
            clear PK0 KP0
            gi_loopw [41] (fun u wr => ∃ (i : Nat) (v' : Value), i ≤ W' ∧ u = .int .i64 i ∧ PKeep W' (Hd + 1) v' (sq ++ (y.take i).map kindOf) 0 T w wr ∧ Kept T V wr ∧ (∀ c ∈ y.take i, kindB (kindOf c) = true)) (fun u _ => W' - (intOf u).toNat)
            case atStart => exact ⟨0, _, by omega, rfl, by simpa using PKL.out, KPL.out, by simp⟩
            case round =>
              obtain ⟨i, v', hi, rfl, hp', hkp, hall⟩ := hrel
              obtain ⟨⟨c0, c1, c2⟩, g0, g1, g2⟩ := cells3 hp'.m
              obtain ⟨⟨e0, e1, e2⟩, f0, f1, f2⟩ := cells3 hp'.r
              have e3 := cell_of_box hp'.e 0 _ rfl
              have f3 := thaw_of_box hp'.e 0
              have lm := lt_of_get hp'.m
              have le := lt_of_get hp'.e
              have lr := lt_of_get hp'.r
              have HP' := Lib.hid hp'
              have HKP := Lib.hid hkp
              have HALL := Lib.hid hall
              clear hp' hkp hall
              by_cases hlt : i < W'
              · obtain ⟨c, hc⟩ : ∃ c, y[i]? = some c := ⟨_, List.getElem?_eq_getElem (by rw [HYL.out]; exact hlt)⟩
                have cr := char_run hc
                have IB : Hid (∀ w, Gives Tryd.prog 64 #[.string ⟨#[114, 119, 115, 112]⟩, .int .u8 c.toNat] w (.int .i64 (kindOf c - 1))) := fun w => IndexByte_any c w
                have IK : Hid (∀ w, Gives Tryd.prog 61 #[.int .i64 (kindOf c)] w (.bool (kindB (kindOf c)))) := fun w => isKind_any _ w
                obtain ⟨kb0, kb4⟩ := kindOf_bd c
                have HT : Hid (y.take (i + 1) = y.take i ++ [c]) := by show _ = _; rw [List.take_add_one, hc]; rfl
                have HC := Lib.hid hc
                have hadd : kindOf c - 1 + 1 = kindOf c := by omega
                clear hc
                obtain ⟨kc, hkc⟩ : ∃ kc, kindOf c = kc := ⟨_, rfl⟩
                have HKC := Lib.hid hkc
                rw [hkc] at IB IK kb0 kb4 hadd
                clear hkc
                cases hkb : kindB kc
                · have A5 : Hid (parseM x = none) := by
                    show _ = _
                    rw [A4.out, if_neg]
                    rw [Bool.and_eq_true]
                    rintro ⟨_, h2⟩
                    have := List.all_eq_true.1 h2 c (List.mem_of_getElem? HC.out)
                    rw [HKC.out, hkb] at this
                    cases this
                  rw [hkb] at IK
                  clear hkb
                  gi_wp2_with (first | (gi_at_call 64; refine (CallsIn.inRound l2 (callsIn_wide.2 (Gives.calls (IB.out _)))).mono ?_; rintro e w1 ⟨rfl, z3, rfl⟩) | (gi_at_call 61; refine (CallsIn.inRound l2 (callsIn_wide.2 (Gives.calls (IK.out _)))).mono ?_; rintro e w1 ⟨rfl, z4, rfl⟩))
                  obtain ⟨r1, r2⟩ := ((HP'.out.later z3).later z4).fail
                  exact ⟨HKP.out.trans (((Kept.later z3).trans (Kept.later z4)).trans r2), rfl, A5.out, _, _, _, _, r1⟩
                · rw [hkb] at IK
                  have HKB := Lib.hid hkb
                  clear hkb
                  obtain ⟨i0, hi0, hz0, hz1, hz2⟩ := info_int
                  have HLN4' : (sq ++ (y.take i).map kindOf).length = ln + i := by rw [List.length_append, List.length_map, List.length_take, HLN.out]; have := HYL.out; omega
                  obtain ⟨sqi, hsqi⟩ : ∃ sqi, sq ++ (y.take i).map kindOf = sqi := ⟨_, rfl⟩
                  have HSQ := Lib.hid hsqi
                  rw [hsqi] at HP' HLN4'
                  have HLN4 := Lib.hid HLN4'
                  clear hsqi HLN4'
                  gi_wp2_with (first | (gi_at_call 64; refine (CallsIn.inRound l2 (callsIn_wide.2 (Gives.calls (IB.out _)))).mono ?_; rintro e w1 ⟨rfl, z3, rfl⟩) | (gi_at_call 61; refine (CallsIn.inRound l2 (callsIn_wide.2 (Gives.calls (IK.out _)))).mono ?_; rintro e w1 ⟨rfl, z4, rfl⟩; have HP4 := Lib.hid ((HP'.out.later z3).later z4); have lz := HP4.out.bx.below.size; have hown5 := own_row HP4.out.own HLN4.out) | (gi_at_builtin; refine wpListIn_append_own_at _ rfl _ _ 22 rfl w.heap.size 3 i0 (.int .i64 0) 1 8 Tryd.underlying22 hi0 hz0 hz1 hz2 rfl (by decide) _ _ _ rfl (hown5.alloc _) ⟨z4.val.heap.size, 0, none⟩ 1 1 [.int .i64 kc] rfl rfl ?c1 ?c2 ?c3 ?c4 ?c5 ?_))
                  case c1 =>
                    intro j u hj
                    match j, hj with
                    | 0, hj => simp at hj; subst hj; simp [Addr.add]
                  case c2 => intro u hu; simp at hu; subst hu; rfl
                  case c3 => unfold maxLen; omega
                  case c4 => omega
                  case c5 => simp; omega
                  intro v5 w5 hown6 hgrow _ hat
                  have HO6 : Hid (OwnI w5 w.heap.size v5 (sqi ++ [kc])) := by
                    show OwnI _ _ _ _
                    unfold OwnI
                    rw [List.length_append, cellsI_append, HLN4.out]; exact hown6
                  obtain ⟨A6, cap6, rfl⟩ : ∃ A cap, v5 = .slice A (ln + i + 1) cap := HO6.out.shape_n (by rw [List.length_append, HLN4.out]; rfl)
                  obtain ⟨b1', b2', b3'⟩ := HP4.out.grown (v' := .slice A6 (ln + i + 1) cap6) hgrow
                  obtain ⟨⟨d0, d1, d2⟩, h0, h1, h2⟩ := cells3 b2'
                  obtain ⟨r1, r2⟩ := HP4.out.push hgrow HO6.out (by rw [World.size_alloc]; exact hat)
                  have R1 := Lib.hid r1
                  have R2 := Lib.hid r2
                  have l5 := lt_of_get b2'
                  clear hown5 hown6 hgrow hat r1 r2 b1' b2'
                  gi_wp2
                  go_roundw
                  case rel =>
                    refine ⟨i + 1, .slice A6 (ln + i + 1) cap6, by omega, by go_num, ?_, HKP.out.trans (((Kept.later z3).trans (Kept.later z4)).trans R2.out), ?_⟩
                    · have e : sq ++ (y.take (i + 1)).map kindOf = sqi ++ [kc] := by
                        rw [HT.out, List.map_append, ← List.append_assoc, HSQ.out]
                        simp [HKC.out]
                      rw [e]
                      exact R1.out
                    · intro d hd
                      rw [HT.out] at hd
                      rcases List.mem_append.1 hd with h | h
                      · exact HALL.out d h
                      · obtain rfl : d = c := by simpa using h
                        rw [HKC.out]; exact HKB.out
                  case measure => simp [intOf]; omega
              · obtain rfl : i = W' := by omega
                have A5 : Hid (parseM x = parseL (L.drop (k + 1)) i (Hd + 1) (sq ++ y.map kindOf)) := by
                  show _ = _
                  rw [A4.out, if_pos]
                  have h2 : y.take i = y := List.take_of_length_le (by rw [HYL.out]; exact Nat.le_refl _)
                  simp only [Bool.and_eq_true, decide_eq_true_eq, List.all_eq_true]
                  exact ⟨⟨⟨by first | exact HYL.out | trivial, HS1.out⟩, HS2.out⟩, fun c hc => HALL.out c (by rw [h2]; exact hc)⟩
                gi_wp2
                have h2 : y.take i = y := List.take_of_length_le (by rw [HYL.out]; exact Nat.le_refl _)
                have hfin := HP'.out
                rw [h2] at hfin
                exact ⟨HKP.out, i, _, _, sq ++ y.map kindOf, by omega, by omega, by rw [List.length_append, List.length_map, HLN.out, HYL.out, A3.out]; simp [Nat.mul_add], A5.out, hfin⟩
      · have A5 : Hid (parseM x = none) := by show _ = _; rw [A4.out]; simp [hl]
        have q : ((y.length : Int) != (W' : Int)) = true := by simp; omega
        clear A4 hl
        gi_wp2
        obtain ⟨r1, r2⟩ := (HP.out.setM (Wd' := W') (Hd' := Hd + 1) (v' := .slice A ln cap) 1 (.int .i64 ((Hd : Int) + 1)) rfl rfl).fail
        exact ⟨(Kept.setCell _ HP.out.nom).trans r2, rfl, A5.out, _, _, _, _, r1⟩
  case done =>
    rintro D T V hD hTD hT0 ⟨Wd, Hd, v, sq, a1, a2, a3, a4, hp⟩ hK
    rw [wordVals_length, List.drop_length] at a4
    obtain ⟨rfl, rfl, rfl, rfl⟩ := HG.out _ _ _ a4
    obtain ⟨A, cap, rfl⟩ := hp.own.shape
    obtain ⟨⟨c0, c1, c2⟩, _⟩ := cells3 hp.m
    obtain ⟨⟨e0, e1, e2⟩, f0, f1, f2⟩ := cells3 hp.r
    have e3 := cell_of_box hp.e 0 _ rfl
    have f3 := thaw_of_box hp.e 0
    have l2 := lt_of_get hp.m
    have HP := Lib.hid hp
    have HK := Lib.hid hK
    clear hp hK a4 a3
    generalize hln : L0.length = ln at *
    have HLN := Lib.hid hln
    clear hln
    gi_wp2
    obtain ⟨⟨z1, z2, z3⟩, z4, z5, z6, z7⟩ := HP.out.fin (.int .i64 W0) (.int .i64 H0) (.slice A ln cap) 0 rfl
    refine ⟨by simp, .inl ⟨_, _, rfl, run_takeDeferred ((z4 D hTD).trans HK.out), ?_⟩⟩
    have k1 := (World.putObj_heap_other (o := .deferred none) (fun e => HP.out.nor (by rw [e]; exact hTD))).trans z1
    have k2 := (World.putObj_heap_other (o := .deferred none) (fun e => HP.out.noe (by rw [e]; exact hTD))).trans z2
    obtain ⟨⟨r0, r1, r2⟩, _⟩ := cells3 k1
    have r3 := cell_of_box k2 0 _ rfl
    refine ⟨.tuple #[.agg #[.int .i64 W0, .int .i64 H0, .slice A ln cap], .int .i64 0], by simp [results, Tryd.results21, go_sem, r0, r1, r2, r3], ?_⟩
    refine ⟨_, rfl, ⟨_, (Only.putObj (S := fun b => b = D) (.deferred none) rfl).below z6 (fun b e => by rw [e]; exact (HP.out.bx.own D hTD).1) z6.size⟩, rfl, ?_⟩
    rw [← HLN.out] at z5 ⊢
    exact z5.moved fun g hg => World.putObj_heap_other (fun e => HP.out.no g (by rw [← HLN.out]; exact hg) (by rw [e]; exact hTD))
  case stop =>
    rintro D c T k V hk hD hTD hT0 ⟨rfl, a2, Wd, Hd, v, sq, hp⟩ hK
    obtain ⟨rfl, rfl, rfl, rfl⟩ := HBD.out a2
    have HP := Lib.hid hp
    have HK := Lib.hid hK
    clear hp hK a2
    gi_wp2
    refine ⟨by simp, .inl ⟨_, _, rfl, run_takeDeferred HK.out, ?_⟩⟩
    have k1 := (World.putObj_heap_other (o := .deferred none) (fun e => HP.out.nor (by rw [e]; exact hTD))).trans HP.out.r
    have k2 := (World.putObj_heap_other (o := .deferred none) (fun e => HP.out.noe (by rw [e]; exact hTD))).trans HP.out.e
    obtain ⟨⟨r0, r1, r2⟩, _⟩ := cells3 k1
    have r3 := cell_of_box k2 0 _ rfl
    refine ⟨.tuple #[.agg #[.int .i64 0, .int .i64 0, .slice none 0 0], .int .i64 3], by simp [results, Tryd.results21, go_sem, r0, r1, r2, r3], ?_⟩
    exact ⟨_, rfl, ⟨_, (HP.out.bx.put hTD (.deferred none)).below⟩, rfl, OwnI.nil _ _⟩
end Go.Proofs.YtajfepogecakbaaDoor
