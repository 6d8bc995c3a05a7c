/- wader's Birds and Fewest: walked; lists of lists of one's own. -/
import Derived.Test.YtlljjaafejjeeaaKBird
import Derived.Test.YtlljjaafejjeeaaKValid
namespace Go.Proofs.Ytlljjaafejjeeaa
open Go.RowKit

/-- A list of lists of one's own. -/
def OwnT (V : World) (base : Nat) (v : Value) (rows : List (List Int)) : Prop :=
  ∃ vs : List Value, V.ownsRow base 24 1 v rows.length vs ∧ ∀ i, i < rows.length → OwnI V base (vs.getD i undef) (rows.getD i [])
section
variable {V : World} {base : Nat} {v : Value} {rows : List (List Int)}
theorem OwnT.nil (V : World) (base : Nat) : OwnT V base (.slice none 0 0) [] := ⟨[], World.ownsRow_nil _ _ _ _, fun i hi => absurd hi (by simp)⟩
theorem OwnT.opened (h : OwnT V base v rows) : ∃ vs : List Value, V.ownsRow base 24 1 v rows.length vs ∧ ∀ i, i < rows.length → OwnI V base (vs.getD i undef) (rows.getD i []) := h
theorem OwnT.later (h : OwnT V base v rows) (x : Later V) : OwnT x.val base v rows :=
  let ⟨vs, h1, h2⟩ := h
  ⟨vs, own_later h1 x, fun i hi => (h2 i hi).later x⟩
theorem OwnT.ready {A : Option Addr} {m c : Nat} {r : List Int} (h : OwnT V base v rows) (z : Later V) (ho : OwnI z.val V.heap.size (.slice A m c) r) (hb : base ≤ V.heap.size) :
    ∃ vs : List Value, Hid ((z.val.alloc (.cells #[.slice A m c] 24)).ownsRow base 24 1 v rows.length vs) ∧ Hid (∀ i, i < rows.length → OwnI (z.val.alloc (.cells #[.slice A m c] 24)) base (vs.getD i undef) (rows.getD i [])) ∧ Hid (OwnI (z.val.alloc (.cells #[.slice A m c] 24)) base (.slice A m c) r) := by
  obtain ⟨vs, h1, h2⟩ := h.later z
  exact ⟨vs, World.ownsRow.alloc h1 _, fun i hi => (h2 i hi).alloc _, (ho.mono hb).alloc _⟩
theorem OwnT.mono {base' : Nat} (h : OwnT V base v rows) (hb : base' ≤ base) : OwnT V base' v rows :=
  let ⟨vs, h1, h2⟩ := h
  ⟨vs, ⟨h1.1, h1.2.imp id fun ⟨g, cap, cur, e, hg, r⟩ => ⟨g, cap, cur, e, Nat.le_trans hb hg, r⟩⟩, fun i hi => (h2 i hi).mono hb⟩
theorem OwnT.shape (h : OwnT V base v rows) : ∃ A cap, v = .slice A rows.length cap := by
  obtain ⟨vs, h1, _⟩ := h
  rcases h1.2 with ⟨rfl, h0⟩ | ⟨g, cap, cur, rfl, _⟩
  · exact ⟨none, 0, by rw [h0]⟩
  · exact ⟨_, cap, rfl⟩
theorem OwnT.cell {A : Option Addr} {n cap i : Nat} (h : OwnT V base (.slice A n cap) rows) (hi : i < rows.length) : ∃ g B c, A = some ⟨g, 0, none⟩ ∧ g < V.heap.size ∧ V.cell? ⟨g, i, none⟩ = some (.slice B (rows.getD i []).length c) ∧ OwnI V base (.slice B (rows.getD i []).length c) (rows.getD i []) := by
  obtain ⟨vs, h1, h2⟩ := h
  have h3 := h2 i hi
  obtain ⟨B, c, e⟩ := h3.shape
  have h1' := h1
  rcases h1'.2 with ⟨_, h0⟩ | ⟨g, cap', cur, e2, hb, hh, _⟩
  · omega
  · simp only [Value.slice.injEq] at e2
    obtain ⟨rfl, rfl, rfl⟩ := e2
    refine ⟨g, B, c, rfl, get_lt hh, ?_, by rw [← e]; exact h3⟩
    rw [World.ownsRow.cellAt h1 i (by omega)]
    have hl : i < vs.length := by have := h1.1; omega
    rw [List.getD_eq_getElem?_getD, List.getElem?_eq_getElem hl] at e
    rw [List.getElem?_eq_getElem hl]
    exact congrArg some e
theorem own_any_kind {V : World} {base : Nat} {v : Value} {l : List Int} (h : OwnI V base v l) {g : Nat} (hg : v.ownBlock = some g) : ∃ cs, V.heap[g]? = some (.cells cs 3 (0, 0)) := own_int_kind h hg
theorem OwnT.push {V' : World} {v' u : Value} {vs : List Value} {r : List Int} (h1 : V.ownsRow base 24 1 v rows.length vs) (h2 : ∀ i, i < rows.length → OwnI V base (vs.getD i undef) (rows.getD i [])) (ho : OwnI V base u r) (hg : V.grownBy V' v.ownBlock)
    (hn : V'.ownsRow base 24 1 v' (rows.length + 1) (vs ++ [u])) : OwnT V' base v' (rows ++ [r]) := by
  have keep : ∀ {u : Value} {l : List Int}, OwnI V base u l → OwnI V' base u l := fun {u l} hu => hu.moved fun b hb => hg.block b (own_lt hu b hb).2 fun e => row_ne_int h1 hu b hb e.symm
  have hl : vs.length = rows.length := by have := h1.1; omega
  refine ⟨vs ++ [u], by rw [List.length_append]; exact hn, fun i hi => ?_⟩
  rw [List.length_append] at hi
  simp only [List.length_cons, List.length_nil] at hi
  simp only [List.getD_eq_getElem?_getD]
  by_cases e : i < rows.length
  · rw [List.getElem?_append_left (by omega), List.getElem?_append_left e]
    have := keep (h2 i e)
    simp only [List.getD_eq_getElem?_getD] at this
    exact this
  · obtain rfl : i = rows.length := by omega
    rw [List.getElem?_append_right (by omega), List.getElem?_append_right (by omega), hl, Nat.sub_self]
    exact keep ho
end
theorem one_sl {A : Option Addr} {n c : Nat} : ∀ u ∈ [Value.slice A n c], u.oneCell' = true := by intro u hu; simp at hu; subst hu; rfl
/-- A call that returns lists of its own, and an error. -/
def PostTE (w : World) (rows : List (List Int)) (E : Int) (e : Ending) (w' : World) : Prop := ∃ v, e = .returned (.tuple #[v, .int .i64 E]) ∧ ∃ x : Later w, w' = x.val ∧ OwnT w' w.heap.size v rows
/-- The birds that begin with one of the first k sightings. -/
def birdsTo (n : Nat) (out : List Int) (k : Nat) : List (List Int) := ((List.range k).filter fun i => decide (out.getD i 0 = -1)).map fun i => natZ (birdM out n i)
theorem birdsTo_succ (n : Nat) (out : List Int) (k : Nat) : birdsTo n out (k + 1) = if out.getD k 0 = -1 then birdsTo n out k ++ [natZ (birdM out n k)] else birdsTo n out k := by
  unfold birdsTo
  rw [List.range_succ, List.filter_append, List.map_append]
  by_cases h : out.getD k 0 = -1
  · rw [if_pos h, List.filter_cons_of_pos (by simpa using h)]; rfl
  · rw [if_neg h, List.filter_cons_of_neg (by simpa using h)]; simp only [List.filter_nil, List.map_nil, List.append_nil]
theorem birdsTo_le (n : Nat) (out : List Int) (k : Nat) : (birdsTo n out k).length ≤ k := by
  unfold birdsTo
  rw [List.length_map]
  exact Nat.le_trans (List.length_filter_le _ _) (by simp)
/-- An order by times and numbers. -/
def rank (n : Nat) (key : Nat → Int) (i : Nat) : Nat := ((List.range n).filter fun j => decide (key j < key i)).length
theorem filter_lt {p q : Nat → Bool} {n a : Nat} (h : ∀ j, p j = true → q j = true) (ha : a < n) (h1 : p a = false) (h2 : q a = true) : ((List.range n).filter p).length < ((List.range n).filter q).length := by
  have := nodup_sub (l := a :: (List.range n).filter p) (k := (List.range n).filter q) (List.nodup_cons.2 ⟨by simp [h1], List.nodup_iff_pairwise_ne.2 ((sorted_filter n p).imp fun h => Nat.ne_of_lt h)⟩) fun x hx => by
    rcases List.mem_cons.1 hx with rfl | hx
    · simp [ha, h2]
    · simp only [List.mem_filter, List.mem_range] at hx ⊢
      exact ⟨hx.1, h x hx.2⟩
  simp only [List.length_cons] at this
  omega
def keyS (T : Nat → Int) (i : Nat) : Int := T i * 1000 + i
theorem leadsR_key {n : Nat} {s : Int} {X Y T : Nat → Int} (W : Watch n s X Y T) {i k : Nat} (hi : i < n) (hk : k < n) (h : leadsR s X Y T i k = true) : keyS T i < keyS T k := by
  have := W.n30
  have := W.ok i hi
  have := W.ok k hk
  unfold leadsR at h
  unfold keyS
  split at h
  · rename_i e
    have := of_decide_eq_true h
    rw [e.2.2]
    omega
  · simp only [Bool.and_eq_true, decide_eq_true_eq] at h
    omega
theorem leadsR_tr {n : Nat} {s : Int} {X Y T : Nat → Int} (W : Watch n s X Y T) {i j k : Nat} (h1 : leadsR s X Y T i j = true) (h2 : leadsR s X Y T j k = true) : leadsR s X Y T i k = true := by
  have hs := W.s0
  unfold leadsR at *
  split at h1
  · rename_i e1
    obtain ⟨a, b, c⟩ := e1
    rw [a, b, c]
    split at h2
    · rename_i e2
      rw [if_pos e2]
      simp only [decide_eq_true_eq] at *
      omega
    · rename_i e2
      rw [if_neg e2]
      exact h2
  · rename_i e1
    split at h2
    · rename_i e2
      obtain ⟨a, b, c⟩ := e2
      rw [← a, ← b, ← c, if_neg e1]
      exact h1
    · rename_i e2
      simp only [Bool.and_eq_true, decide_eq_true_eq] at *
      obtain ⟨a1, a2⟩ := h1
      obtain ⟨b1, b2⟩ := h2
      rw [if_neg (by omega)]
      simp only [Bool.and_eq_true, decide_eq_true_eq]
      refine ⟨by omega, ?_⟩
      have e : s * (T k - T i) = s * (T j - T i) + s * (T k - T j) := by rw [← Int.mul_add]; congr 1; omega
      rw [e]
      unfold awayZ at *
      omega
theorem watch_ord {n : Nat} {s : Int} {X Y T : Nat → Int} (W : Watch n s X Y T) : Ord (leadsR s X Y T) n (rank n (keyS T)) := by
  refine ⟨fun i k hi hk h => ?_, fun i hi => ?_, fun i j k _ _ _ h1 h2 => leadsR_tr W h1 h2⟩
  · have := leadsR_key W hi hk h
    exact filter_lt (a := i) (fun j hj => by simp only [decide_eq_true_eq] at *; omega) hi (by simp) (by simpa using this)
  · have := filter_lt (p := fun j => decide (keyS T j < keyS T i)) (q := fun _ => true) (n := n) (a := i) (fun _ _ => rfl) hi (by simp) rfl
    rw [show ((List.range n).filter fun _ => true) = List.range n from List.filter_eq_self.2 (by simp), List.length_range] at this
    exact this
set_option maxRecDepth 100000 in
set_option maxHeartbeats 3200000 in
theorem Birds_ok (s : Int) (n cap : Nat) (A : Option Addr) (X Y T : Nat → Int) (w : World) (W : Watch n s X Y T) (hp : IsChs w A n X Y T) :
    Calls Try.prog 8 #[.slice A n cap, .int .i64 s] w (PostTE w (birdsTo n (matM (leadsR s X Y T) n n) n) 0) := by
  have hn30 := W.n30
  have VA := Lib.hid fun (V : World) (h : IsChs V A n X Y T) => watch_iff.2 W ▸ kvalid_any s A n cap X Y T V fun _ => h
  have MA := Lib.hid fun (V : World) (h : IsChs V A n X Y T) => matched_any s n cap A X Y T V W h
  have O := watch_ord W
  have I := mat_inv (leadsR s X Y T) n n (Nat.le_refl _)
  have ML := Lib.hid I.len
  have BA := Lib.hid fun (V : World) (B : Option Addr) (c i : Nat) (hi : i < n) (h : IsInts V B n fun k => (matM (leadsR s X Y T) n n).getD k 0) => bird_any n c i B (matM (leadsR s X Y T) n n) (leadsR s X Y T) (rank n (keyS T)) V (by omega) hi O I h
  have HP := Lib.hid hp
  have OK := Lib.hid I.okm
  clear O I hp W
  generalize matM (leadsR s X Y T) n n = out at *
  have BS := Lib.hid (birdsTo_succ n out)
  have BL := Lib.hid (birdsTo_le n out)
  have B0 : Hid (birdsTo n out 0 = []) := rfl
  generalize birdsTo n out = R at *
  obtain ⟨i0, hi0, hz0, hz1, hz2⟩ := info_list
  go_enter Try.func8, Try.ntmps8
  go_wp2_with (first
    | (go_at_call 21; (first | (with_reducible show Calls _ _ _ (Later.val _) _; with_reducible refine Calls.mono (Later.call _ (VA.out _ (HP.out.below (by repeat (first | exact Below.refl _ _ | (with_reducible assumption) | apply below_later | apply below_alloc | apply below_drew | apply below_drewN))))) ?_) | (with_reducible refine Calls.mono (Gives.calls (VA.out _ (HP.out.below (by repeat (first | exact Below.refl _ _ | (with_reducible assumption) | apply below_later | apply below_alloc | apply below_drew | apply below_drewN))))) ?_)); rintro e w1 ⟨rfl, z, rfl⟩)
    | (go_at_call 22; with_reducible refine Calls.mono (GivesI.calls (MA.out _ (HP.out.below (by repeat (first | exact Below.refl _ _ | (with_reducible assumption) | apply below_later | apply below_alloc | apply below_drew | apply below_drewN))))) ?_; rintro e w1 ⟨v, rfl, z2, rfl, ho⟩; obtain ⟨O1, c1, rfl⟩ := ho.shape_n ML.out; have HO := Lib.hid ho; clear ho))
  have HBZ : Hid (Below w.heap.size w z2.val) := by show Below _ _ _; repeat (first | exact Below.refl _ _ | (with_reducible assumption) | apply below_later | apply below_alloc | apply below_drew | apply below_drewN)
  generalize z2.val = Z at *
  have IO : Hid (IsInts Z O1 n fun k => out.getD k 0) := (HO.out.ints (by rw [ML.out]; omega)).2
  go_loopw [7, 20] (fun u v wr => ∃ k : Nat, v = .int .i64 (k : Nat) ∧ k ≤ n ∧ Below Z.heap.size Z wr ∧ OwnT wr Z.heap.size u (R k)) (fun _ v _ => n - (intOf v).toNat)
  case atStart => exact ⟨0, rfl, by omega, Below.refl _ _, by rw [B0.out]; exact OwnT.nil _ _⟩
  case round =>
    obtain ⟨k, rfl, hk, hbl, ho⟩ := hrel
    have HBL := Lib.hid hbl
    have HT := Lib.hid ho
    clear hbl ho
    by_cases hlt : k < n
    · obtain ⟨b, off, hB, p⟩ := (IO.out.below HBL.out).at_ (by omega)
      have ck := p.at_ k hlt
      have lb := p.lt
      have IO2 := Lib.hid (IO.out.below HBL.out)
      rw [hB] at IO2 ⊢
      clear p hB
      rcases OK.out k hlt with hm | ⟨j, hj, hoj, _⟩
      · rw [hm] at ck
        have BS2 : Hid (R (k + 1) = R k ++ [natZ (birdM out n k)]) := by show _ = _; rw [BS.out, if_pos hm]
        clear hm
        generalize wr = U at *
        have HL := Lib.hid (BL.out k)
        have hsz2 := HBL.out.size
        have BA1 := Lib.hid fun V B c h => BA.out V B c k hlt h
        generalize natZ (birdM out n k) = r3 at *
        go_wp2_with (first
          | (go_at_call 23; with_reducible refine Calls.mono (GivesI.calls (BA1.out _ _ _ IO2.out)) ?_; rintro e w1 ⟨v3, rfl, z3, rfl, ho3⟩; obtain ⟨A3, c3, rfl⟩ := ho3.shape; obtain ⟨vs, H1, H2, H3⟩ := HT.out.ready z3 ho3 hsz2; have hsz := z3.size; clear ho3)
          | (at_builtin; (refine wpList_append_own_at _ rfl _ _ 23 rfl Z.heap.size 24 i0 (.slice none 0 0) 1 24 Try.underlying23 hi0 hz0 hz1 hz2 rfl (by decide) _ _ _ rfl H1.out ⟨_, 0, none⟩ 1 1 [.slice A3 r3.length c3] rfl rfl lit_news one_sl ?g1 ?g2 ?g3 ?_)))
        case g1 => have := HL.out; unfold maxLen; omega
        case g2 => have := HL.out; omega
        case g3 => simp only [World.size_alloc]; omega
        intro v5 w5 hown2 hgrow _ hat
        have hp5 : Hid (OwnT w5 Z.heap.size v5 (R (k + 1))) := by rw [show R (k + 1) = _ from BS2.out]; exact OwnT.push H1.out H2.out H3.out hgrow hown2
        have hb5 : Hid (Below Z.heap.size Z w5) := below_own (below_alloc (below_later HBL.out)) H1.out (Nat.le_refl _) hgrow
        clear hgrow hown2 hat H1 H2 H3
        go_wp2_with fail
        go_roundw
        case rel => exact ⟨k + 1, by go_num, by omega, hb5.out, hp5.out⟩
        case measure => simp [intOf]; omega
      · rw [hoj] at ck
        have BS2 : Hid (R (k + 1) = R k) := by show _ = _; rw [BS.out, if_neg (by omega)]
        have hne : ((j : Int) == -1) = false := by simp
        clear hoj
        go_wp2_with fail
        go_roundw
        case rel => exact ⟨k + 1, by go_num, by omega, HBL.out, by rw [BS2.out]; exact HT.out⟩
        case measure => simp [intOf]; omega
    · obtain rfl : k = n := by omega
      go_wp2_with fail
      go_ret2
      exact ⟨_, rfl, ⟨_, below_more HBZ.out HBL.out⟩, rfl, HT.out.mono HBZ.out.size⟩
theorem Birds_bad (s : Int) (n cap : Nat) (A : Option Addr) (X Y T : Nat → Int) (w : World) (hp : n ≤ 30 → IsChs w A n X Y T) (hv : validW n s X Y T = false) :
    Gives Try.prog 8 #[.slice A n cap, .int .i64 s] w (.tuple #[.slice none 0 0, .int .i64 60]) := by
  have VA := Lib.hid fun (V : World) (h : n ≤ 30 → IsChs V A n X Y T) => hv ▸ kvalid_any s A n cap X Y T V h
  have HP := Lib.hid hp
  clear hp hv
  go_enter Try.func8, Try.ntmps8
  go_wp2_with (go_at_call 21; (first | (with_reducible show Calls _ _ _ (Later.val _) _; with_reducible refine Calls.mono (Later.call _ (VA.out _ (fun h => (HP.out h).below (by repeat (first | exact Below.refl _ _ | (with_reducible assumption) | apply below_later | apply below_alloc | apply below_drew | apply below_drewN))))) ?_) | (with_reducible refine Calls.mono (Gives.calls (VA.out _ (fun h => (HP.out h).below (by repeat (first | exact Below.refl _ _ | (with_reducible assumption) | apply below_later | apply below_alloc | apply below_drew | apply below_drewN))))) ?_)); rintro e w1 ⟨rfl, z, rfl⟩)
  go_ret2
  exact ⟨rfl, later_of (by repeat (first | exact Below.refl _ _ | (with_reducible assumption) | apply below_later | apply below_alloc | apply below_drew | apply below_drewN))⟩
theorem Fewest_bad (s : Int) (n cap : Nat) (A : Option Addr) (X Y T : Nat → Int) (w : World) (hp : n ≤ 30 → IsChs w A n X Y T) (hv : validW n s X Y T = false) :
    Gives Try.prog 7 #[.slice A n cap, .int .i64 s] w (.tuple #[.int .i64 0, .int .i64 60]) := by
  have BB := Lib.hid (Birds_bad s n cap A X Y T w hp hv)
  clear hp hv
  go_enter Try.func7, Try.ntmps7
  go_wp2_with (go_at_call 8; with_reducible refine Calls.mono (Gives.calls (BB.out)) ?_; rintro e w1 ⟨rfl, z, rfl⟩)
  go_ret2
  exact ⟨rfl, later_of (by repeat (first | exact Below.refl _ _ | (with_reducible assumption) | apply below_later | apply below_alloc | apply below_drew | apply below_drewN))⟩
theorem birdsTo_length (n : Nat) (out : List Int) : (birdsTo n out n).length = (birdsM n out).length := by simp [birdsTo, birdsM]
theorem Fewest_ok (s : Int) (n cap : Nat) (A : Option Addr) (X Y T : Nat → Int) (w : World) (W : Watch n s X Y T) (hp : IsChs w A n X Y T) :
    Gives Try.prog 7 #[.slice A n cap, .int .i64 s] w (.tuple #[.int .i64 ((matM (leadsR s X Y T) n n).count (-1) : Nat), .int .i64 0]) := by
  have hn30 := W.n30
  have BO : Hid (Calls Try.prog 8 #[.slice A n cap, .int .i64 s] w fun e w' => ∃ v, e = .returned (.tuple #[v, .int .i64 0]) ∧ ∃ x : Later w, w' = x.val ∧ OwnT w' w.heap.size v (birdsTo n (matM (leadsR s X Y T) n n) n)) := Birds_ok s n cap A X Y T w W hp
  have HL : Hid ((birdsTo n (matM (leadsR s X Y T) n n) n).length = (matM (leadsR s X Y T) n n).count (-1)) := by
    show _ = _
    rw [birdsTo_length]
    exact (birds_ok (watch_ord W) (mat_inv _ n n (Nat.le_refl _))).2.2
  generalize birdsTo n (matM (leadsR s X Y T) n n) n = R at *
  generalize (matM (leadsR s X Y T) n n).count (-1) = q at *
  clear hp W
  go_enter Try.func7, Try.ntmps7
  go_wp2_with (go_at_call 8; with_reducible refine Calls.mono BO.out ?_; rintro e w1 ⟨v, rfl, z, rfl, ho⟩; obtain ⟨B, c, rfl⟩ := ho.shape; have HO := Lib.hid ho; clear ho)
  go_ret2
  exact ⟨congrArg (fun q : Nat => Ending.returned (.tuple #[.int .i64 (q : Nat), .int .i64 0])) HL.out, later_of (by repeat (first | exact Below.refl _ _ | (with_reducible assumption) | apply below_later | apply below_alloc | apply below_drew | apply below_drewN))⟩
end Go.Proofs.Ytlljjaafejjeeaa
