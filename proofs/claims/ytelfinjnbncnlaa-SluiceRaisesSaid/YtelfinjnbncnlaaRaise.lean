/- sluice.Raise: walked. -/
import Derived.Test.YtelfinjnbncnlaaDepths
import Derived.Test.YtelfinjnbncnlaaOwnO
namespace Go.Proofs.Ytelfinjnbncnlaa
open Go.RowKit

/-- Sluices, as pairs. -/
def prs (m : Nat) (a s : Nat → Int) : List Pt := (List.range m).map fun i => (a i, s i)
theorem prs_len (m : Nat) (a s : Nat → Int) : (prs m a s).length = m := by simp [prs]
theorem prs_x {m : Nat} {a s : Nat → Int} {i : Nat} (hi : i < m) : hx (prs m a s) i = a i := by simp [prs, hx, List.getD_eq_getElem?_getD, hi]
theorem prs_y {m : Nat} {a s : Nat → Int} {i : Nat} (hi : i < m) : hy (prs m a s) i = s i := by simp [prs, hy, List.getD_eq_getElem?_getD, hi]
/-- Sluices of one's own. -/
def OwnS (w : World) (base : Nat) (v : Value) (l : List Pt) : Prop := w.ownsRow base 47 2 v l.length (cells2 l)
theorem infoS : (Try.prog.info? 47).map (fun i => (i.zero, i.size, i.bytes)) = some (some (.agg #[.int .i64 0, .int .i64 0]), 2, 16) := by kernel_rfl
theorem info_slu : ∃ i, Try.prog.info? 47 = some i ∧ i.zero = some (.agg #[.int .i64 0, .int .i64 0]) ∧ i.size = 2 ∧ i.bytes = 16 := by
  have h := infoS
  cases hi : Try.prog.info? 47 with
  | none => rw [hi] at h; cases h
  | some i =>
    rw [hi] at h
    simp only [Option.map_some, Option.some.injEq, Prod.mk.injEq] at h
    exact ⟨i, rfl, h.1, h.2.1, h.2.2⟩
theorem slu_news {w : World} {b off m : Nat} {a s : Nat → Int} (h : Slu w b off m a s) : ∀ (j : Nat) (u : Value), (cells2 (prs m a s))[j]? = some u → w.cell? ((⟨b, off, none⟩ : Addr).add j) = some u := by
  intro j u hj
  have hl : j < m * 2 := by
    have := (List.getElem?_eq_some_iff.1 hj).1
    rwa [cells2_length, prs_len] at this
  have hadd : (⟨b, off, none⟩ : Addr).add j = ⟨b, off + j, none⟩ := by simp [Addr.add]
  rw [hadd]
  rcases Nat.mod_two_eq_zero_or_one j with e | e
  · obtain ⟨i, rfl⟩ : ∃ i, j = i * 2 := ⟨j / 2, by omega⟩
    rw [cells2_x _ i (by rw [prs_len]; omega), prs_x (by omega)] at hj
    rw [← Option.some.inj hj]
    exact h.x i (by omega)
  · obtain ⟨i, rfl⟩ : ∃ i, j = i * 2 + 1 := ⟨j / 2, by omega⟩
    rw [cells2_y _ i (by rw [prs_len]; omega), prs_y (by omega)] at hj
    rw [← Option.some.inj hj]
    exact h.y i (by omega)
theorem OwnS.slu {w : World} {base m : Nat} {v : Value} {a s : Nat → Int} (h : OwnS w base v (prs m a s)) (hm : m ≤ 60) : ∃ A cap, v = .slice A m cap ∧ IsSlu w A m a s := by
  unfold OwnS at h
  rw [prs_len] at h
  rcases h.2 with ⟨rfl, rfl⟩ | ⟨g, cap, cur, rfl, hb, hh, hn, hm2, hs, ht⟩
  · exact ⟨none, 0, rfl, by omega, fun h => by omega⟩
  · refine ⟨_, cap, rfl, by omega, fun h0 => ⟨g, 0, rfl, (Array.getElem?_eq_some_iff.1 hh).1, fun i hi => ?_, fun i hi => ?_⟩⟩
    · rw [Nat.zero_add, World.ownsRow.cellAt h (i * 2) (by omega), cells2_x _ i (by rw [prs_len]; exact hi), prs_x hi]
    · rw [Nat.zero_add, World.ownsRow.cellAt h (i * 2 + 1) (by omega), cells2_y _ i (by rw [prs_len]; exact hi), prs_y hi]
set_option maxRecDepth 100000 in
theorem clone_slu (b off m cap : Nat) (a s : Nat → Int) (w : World) (hm : m ≤ 60) (hp : Slu w b off m a s) :
    Calls Try.prog 42 #[.slice (some ⟨b, off, none⟩) m cap] w fun e w' => ∃ v, e = .returned v ∧ ∃ x : Later w, w' = x.val ∧ OwnS w' w.heap.size v (prs m a s) := by
  have hl := hp.lt
  have Hp := Lib.hid hp
  clear hp
  have hnil := Lib.run_eql_slice_nil (P := Try.prog) w 23 47 (some ⟨b, off, none⟩) m cap 0 0 Try.underlying23
  go_enter Try.func42, Try.ntmps42
  obtain ⟨i0, hi, hz0, hz1, hz2⟩ := info_slu
  have hown : OwnS (w.alloc (.cells #[] 47)) w.heap.size (.slice (some ⟨w.heap.size, 0, none⟩) 0 0) [] := World.ownsRow_made w #[] 0 (Nat.le_refl _) (by unfold maxLen; omega) rfl
  have hnews := slu_news (Hp.out.later ⟨w.alloc (.cells #[] 47), by repeat (first | exact Below.refl _ _ | (with_reducible assumption) | apply below_later | apply below_alloc | apply below_drew | apply below_drewN)⟩)
  have HN := Lib.hid hnews
  clear hnews
  go_wp2_with (at_builtin; refine wpList_append_own _ rfl _ _ 23 rfl w.heap.size 47 i0 (.agg #[.int .i64 0, .int .i64 0]) 2 16 Try.underlying23 hi hz0 hz1 hz2 rfl (by decide) _ _ _ rfl hown ⟨b, off, none⟩ m cap (cells2 (prs m a s)) rfl ?c1 HN.out (cells2_one _) ?c3 ?c4 ?c5 ?_)
  case c1 => rw [cells2_length, prs_len]
  case c3 => simp only [maxLen]; omega
  case c4 => omega
  intro v' w1 hown2 hg1 _
  go_wp2
  go_ret
  refine ⟨v', rfl, ⟨w1, below_own (by repeat (first | exact Below.refl _ _ | (with_reducible assumption) | apply below_later | apply below_alloc | apply below_drew | apply below_drewN)) hown (Nat.le_refl _) hg1⟩, rfl, ?_⟩
  unfold OwnS
  rw [prs_len]
  exact hown2
theorem heap_far {w : World} {p : Addr} {v : Value} {b : Nat} (h : b ≠ p.block) : (w.setCell p v).heap[b]? = w.heap[b]? := Below.heap_setCell w p v b h
theorem put_two {w : World} {b : Nat} {u0 u1 u2 u3 v : Value} {t : TypeId} (h : w.heap[b]? = some (.cells #[u0, u1, u2, u3] t (0, 0))) : (w.setCell ⟨b, 2, none⟩ v).heap[b]? = some (.cells #[u0, u1, v, u3] t (0, 0)) := by
  simp [World.setCell, Array.getElem?_modify, h]
theorem put_three {w : World} {b : Nat} {u0 u1 u2 u3 v : Value} {t : TypeId} (h : w.heap[b]? = some (.cells #[u0, u1, u2, u3] t (0, 0))) : (w.setCell ⟨b, 3, none⟩ v).heap[b]? = some (.cells #[u0, u1, u2, v] t (0, 0)) := by
  simp [World.setCell, Array.getElem?_modify, h]
theorem put4 {w : World} {b : Nat} {u0 u1 u2 u3 v0 v1 v2 v3 : Value} {t : TypeId} (h : w.heap[b]? = some (.cells #[u0, u1, u2, u3] t (0, 0))) :
    ((((w.setCell ⟨b, 0, none⟩ v0).setCell ⟨b, 1, none⟩ v1).setCell ⟨b, 2, none⟩ v2).setCell ⟨b, 3, none⟩ v3).heap[b]? = some (.cells #[v0, v1, v2, v3] t (0, 0)) := by
  simp [World.setCell, Array.getElem?_modify, h]
theorem cells4 {w : World} {b : Nat} {u0 u1 u2 u3 : Value} {t : TypeId} (h : w.heap[b]? = some (.cells #[u0, u1, u2, u3] t (0, 0))) :
    (w.cell? ⟨b, 0, none⟩ = some u0 ∧ w.cell? ⟨b, 1, none⟩ = some u1 ∧ w.cell? ⟨b, 2, none⟩ = some u2 ∧ w.cell? ⟨b, 3, none⟩ = some u3) ∧ w.frozen? ⟨b, 0, none⟩ = false ∧ w.frozen? ⟨b, 1, none⟩ = false ∧ w.frozen? ⟨b, 2, none⟩ = false ∧ w.frozen? ⟨b, 3, none⟩ = false :=
  ⟨⟨cell_of_heap h 0 _ rfl, cell_of_heap h 1 _ rfl, cell_of_heap h 2 _ rfl, cell_of_heap h 3 _ rfl⟩, by simp [World.frozen?, h], by simp [World.frozen?, h], by simp [World.frozen?, h], by simp [World.frozen?, h]⟩
theorem OwnS.moved {w V' : World} {base : Nat} {v : Value} {l : List Pt} (h : OwnS w base v l) (hk : ∀ g, v.ownBlock = some g → V'.heap[g]? = w.heap[g]?) : OwnS V' base v l := by
  refine ⟨h.1, ?_⟩
  rcases h.2 with h2 | ⟨g, cap, cur, rfl, hb, hh, r⟩
  · exact .inl h2
  · exact .inr ⟨g, cap, cur, rfl, hb, (hk g rfl).trans hh, r⟩
theorem OwnS.mono {w : World} {base base' : Nat} {v : Value} {l : List Pt} (h : OwnS w base v l) (hb : base' ≤ base) : OwnS w base' v l :=
  ⟨h.1, h.2.imp id fun ⟨g, cap, cur, e, hg, r⟩ => ⟨g, cap, cur, e, Nat.le_trans hb hg, r⟩⟩
/-- What Raise answers. -/
def PostRa (w : World) (W H n m : Nat) (g a s : Nat → Int) (e : Ending) (w' : World) : Prop :=
  ∃ v1 v2, e = .returned (.tuple #[.agg #[.int .i64 W, .int .i64 H, v1, v2], .int .i64 0]) ∧ ∃ x : Later w, w' = x.val ∧ OwnI w' w.heap.size v1 (tab n g) ∧ OwnS w' w.heap.size v2 (prs m a s)
set_option maxRecDepth 100000 in
set_option maxHeartbeats 1600000 in
theorem raise_ok (W H n cap m capS : Nat) (A B : Option Addr) (f a s : Nat → Int) (at_ : Nat) (d : Int) (w : World) (hp : IsInts w A n f) (hq : IsSlu w B m a s) (hv : validF W H n f m a s = true) (hat : at_ < n) (h0 : 0 ≤ d) (h1 : d ≤ 1000 - f at_) :
    Calls Try.prog 19 #[.agg #[.int .i64 W, .int .i64 H, .slice A n cap, .slice B m capS], .int .i64 at_, .int .i64 d] w (PostRa w W H n m (fun i => if i = at_ then f i + d else f i) a s) := by
  have V : Hid (∀ w', IsInts w' A n f → IsSlu w' B m a s → Gives Try.prog 23 #[.agg #[.int .i64 W, .int .i64 H, .slice A n cap, .slice B m capS]] w' (.bool true)) := fun w' h1 h2 => hv ▸ Valid_any W H A B n cap m capS f a s w' h1 h2
  have SQ : Hid (∀ w', Gives Try.prog 24 #[.agg #[.int .i64 W, .int .i64 H, .slice A n cap, .slice B m capS], .int .i64 at_] w' (.bool true)) := fun w' => by
    have h := isSquare_any W H A B n cap m capS at_ w'
    rwa [decide_eq_true (by omega)] at h
  obtain ⟨⟨⟨a1, a2⟩, a3, a4⟩, a5, hf, ⟨a7, a8⟩, _⟩ := valid_facts hv
  have hn : n = W * H := by rw [← Int.natCast_mul] at a5; omega
  have hn9 : n ≤ 256 := by rw [hn]; exact Nat.mul_le_mul (show W ≤ 16 by omega) (show H ≤ 16 by omega)
  obtain ⟨b, off, rfl, p⟩ := hp.at_ (by omega)
  obtain ⟨sb, so, rfl, q⟩ := hq.at_ a7
  have hfa := hf at_ hat
  have CI : Hid (∀ w', Below w.heap.size w w' → GivesI 41 #[.slice (some ⟨b, off, none⟩) n cap] w' (tab n f)) := fun w' h => clone_ints b off n cap f w' (by omega) (by omega) (p.later ⟨w', h⟩)
  have CS : Hid (∀ w', Below w.heap.size w w' → Calls Try.prog 42 #[.slice (some ⟨sb, so, none⟩) m capS] w' fun e w'' => ∃ v, e = .returned v ∧ ∃ x : Later w', w'' = x.val ∧ OwnS w'' w'.heap.size v (prs m a s)) := fun w' h => clone_slu sb so m capS a s w' (by omega) (q.later ⟨w', h⟩)
  have HP := Lib.hid hp
  have HQ := Lib.hid hq
  have P := Lib.hid p
  have d2 : decide (1000 - f at_ < d) = false := decide_eq_false (by omega)
  have d3 : decide (d < 0) = false := decide_eq_false (by omega)
  have TG : Hid ((tab n f).set at_ (f at_ + d) = tab n fun i => if i = at_ then f i + d else f i) := list_eq (n := n) (by rw [List.length_set]; exact tab_len _ _) (tab_len _ _) fun i hi => by
    rw [getD_put (by rw [tab_len]; exact hat), tab_get hi]
    rw [tab_get hi]
    by_cases c : i = at_
    · subst c; simp
    · simp [c, tab_get hi]
  have TF : Hid ((tab n f).getD at_ 0 = f at_) := tab_get hat
  have TL : Hid ((tab n f).length = n) := tab_len _ _
  clear hp hq hv hn a5 hf p q
  go_enter Try.func19, Try.ntmps19
  go_wp2_with (first
    | (go_at_call 23; (first | (with_reducible show Calls _ _ _ (Later.val _) _; with_reducible refine Calls.mono (Later.call _ (V.out _ (HP.out.later ⟨_, by repeat (first | exact Below.refl _ _ | (with_reducible assumption) | apply below_later | apply below_alloc | apply below_drew | apply below_drewN)⟩) (HQ.out.later ⟨_, by repeat (first | exact Below.refl _ _ | (with_reducible assumption) | apply below_later | apply below_alloc | apply below_drew | apply below_drewN)⟩))) ?_) | (with_reducible refine Calls.mono (Gives.calls (V.out _ (HP.out.later ⟨_, by repeat (first | exact Below.refl _ _ | (with_reducible assumption) | apply below_later | apply below_alloc | apply below_drew | apply below_drewN)⟩) (HQ.out.later ⟨_, by repeat (first | exact Below.refl _ _ | (with_reducible assumption) | apply below_later | apply below_alloc | apply below_drew | apply below_drewN)⟩))) ?_)); rintro e w1 ⟨rfl, z, rfl⟩)
    | (go_at_call 24; with_reducible refine Calls.mono (Gives.calls (SQ.out _)) ?_; rintro e w1 ⟨rfl, z2, rfl⟩; have hb2 : Below w.heap.size w z2.val := (by repeat (first | exact Below.refl _ _ | (with_reducible assumption) | apply below_later | apply below_alloc | apply below_drew | apply below_drewN)); have p2 := P.out.later ⟨z2.val, hb2⟩; have ca := p2.at_ at_ hat; have lb := p2.lt; clear p2; have hbx : Below ((w.alloc (.cells #[.int .i64 W, .int .i64 H, .slice (some ⟨b, off, none⟩) n cap, .slice (some ⟨sb, so, none⟩) m capS] 25)).alloc (.cells #[.int .i64 0, .int .i64 0, .slice none 0 0, .slice none 0 0] 25)).heap.size ((w.alloc (.cells #[.int .i64 W, .int .i64 H, .slice (some ⟨b, off, none⟩) n cap, .slice (some ⟨sb, so, none⟩) m capS] 25)).alloc (.cells #[.int .i64 0, .int .i64 0, .slice none 0 0, .slice none 0 0] 25)) z2.val := (by repeat (first | exact Below.refl _ _ | (with_reducible assumption) | apply below_later | apply below_alloc | apply below_drew | apply below_drewN)); have g0 := (hbx.block w.heap.size (by simp; omega)).trans ((Below.heap_alloc _ _ _ (by simp)).trans (World.alloc_heap_new w _)); have g1 := (hbx.block (w.heap.size + 1) (by simp)).trans (box_two w _ _); clear hbx; have G0 := Lib.hid g0; have G1 := Lib.hid g1; obtain ⟨⟨c0, c1, c2, c3⟩, e0, e1, e2, e3⟩ := cells4 g0; have l0 := get_lt g0; clear g0 g1)
    | (go_at_call 41; with_reducible refine Calls.mono (GivesI.calls (CI.out _ (by repeat (first | exact Below.refl _ _ | (with_reducible assumption) | apply below_later | apply below_alloc | apply below_drew | apply below_drewN)))) ?_; rintro e w1 ⟨v1, rfl, y1, rfl, o1⟩; obtain ⟨ga, ka, rfl, q1, q2, _⟩ := o1.form (n := n) TL.out (by omega); have O1 := Lib.hid o1; clear o1; have g0 := (y1.ok.block _ (get_lt G0.out)).trans G0.out; have g1 := (y1.ok.block _ (get_lt G1.out)).trans G1.out; have G0' := Lib.hid g0; have G1' := Lib.hid g1; obtain ⟨⟨c0, c1, c2, c3⟩, e0, e1, e2, e3⟩ := cells4 g0; have l0 := get_lt g0; have l1 := get_lt g1; have zs : w.heap.size + 1 < z2.val.heap.size := get_lt G1.out; clear g0 g1))
  go_at_call 42
  refine Calls.mono (CS.out _ (below_set (by repeat (first | exact Below.refl _ _ | (with_reducible assumption) | apply below_later | apply below_alloc | apply below_drew | apply below_drewN)) (by simp))) ?_
  rintro e w1 ⟨v2, rfl, y2, rfl, o2⟩
  have o2' := o2
  unfold OwnS at o2'
  rw [prs_len] at o2'
  obtain ⟨gs, ks, hv2, q3, q4⟩ := o2'.form (by omega)
  clear o2'
  subst hv2
  have n1 : w.heap.size ≠ ga := (by omega)
  have n2 : ga ≠ w.heap.size := (by omega)
  have n3 : w.heap.size + 1 ≠ ga := (by omega)
  have n4 : ga ≠ w.heap.size + 1 := (by omega)
  have o1 := (O1.out.far (p := ⟨w.heap.size, 2, none⟩) (u := .slice (some ⟨ga, 0, none⟩) n ka) (fun t ht => by simp [Value.ownBlock] at ht; show w.heap.size ≠ t; omega)).later y2
  have O2 := Lib.hid o2
  obtain ⟨ca, fa⟩ := o1.cell TL.out hat
  rw [TF.out] at ca
  have faa := fa at_
  have O1' := Lib.hid o1
  clear o1 o2 fa
  have g0 := (y2.ok.block w.heap.size (by simp; omega)).trans (put_two G0'.out (v := .slice (some ⟨ga, 0, none⟩) n ka))
  have g1 := (y2.ok.block (w.heap.size + 1) (by simp; omega)).trans ((heap_far (by simp)).trans G1'.out)
  have G2 := Lib.hid g0
  have G3 := Lib.hid g1
  obtain ⟨⟨c0, c1, c2, c3⟩, e0, e1, e2, e3⟩ := cells4 g0
  obtain ⟨⟨j0, j1, j2, j3⟩, k0, k1, k2, k3⟩ := cells4 g1
  have l0 := get_lt g0
  clear g0 g1
  have q5 : ga < gs := by
    have := (own_lt O1.out ga rfl).2
    simp only [World.size_setCell] at q3
    omega
  have hbz : Below w.heap.size w y2.val := below_more (below_set (p := ⟨w.heap.size, 2, none⟩) (show Below _ _ y1.val from by repeat (first | exact Below.refl _ _ | (with_reducible assumption) | apply below_later | apply below_alloc | apply below_drew | apply below_drewN)) (Nat.le_refl _)) y2.ok
  have HBZ := Lib.hid hbz
  clear hbz q3 q4
  go_wp2
  have gA := (heap_far (w := y2.val.setCell ⟨w.heap.size, 3, none⟩ (.slice (some ⟨gs, 0, none⟩) m ks)) (p := ⟨ga, at_, none⟩) (v := .int .i64 (f at_ + d)) n3).trans ((heap_far (w := y2.val) (p := ⟨w.heap.size, 3, none⟩) (v := .slice (some ⟨gs, 0, none⟩) m ks) (show w.heap.size + 1 ≠ w.heap.size by omega)).trans G3.out)
  have k4 := put4 (v0 := .int .i64 W) (v1 := .int .i64 H) (v2 := .slice (some ⟨ga, 0, none⟩) n ka) (v3 := .slice (some ⟨gs, 0, none⟩) m ks) gA
  obtain ⟨⟨r0, r1, r2, r3⟩, _⟩ := cells4 k4
  refine bodyPost_ret (v := .tuple #[.agg #[.int .i64 W, .int .i64 H, .slice (some ⟨ga, 0, none⟩) n ka, .slice (some ⟨gs, 0, none⟩) m ks], .int .i64 0]) (by simp [results, Try.results19, go_sem, r0, r1, r2, r3]) rfl ?_
  refine ⟨_, _, rfl, ⟨_, below_set (below_set (below_set (below_set (below_set (below_set HBZ.out (Nat.le_refl _)) (by show w.heap.size ≤ ga; omega)) (by simp)) (by simp)) (by simp)) (by simp)⟩, rfl, ?_, ?_⟩
  · have h1 := (O1'.out.far (p := ⟨w.heap.size, 3, none⟩) (u := .slice (some ⟨gs, 0, none⟩) m ks) (fun t ht => by simp [Value.ownBlock] at ht; show w.heap.size ≠ t; omega)).set TL.out at_ (f at_ + d)
    rw [TG.out] at h1
    have fr : ∀ k : Nat, ∀ t, Value.ownBlock (.slice (some ⟨ga, 0, none⟩) n ka) = some t → (⟨w.heap.size + 1, k, none⟩ : Addr).block ≠ t := fun k t ht => by simp [Value.ownBlock] at ht; show w.heap.size + 1 ≠ t; omega
    exact ((((h1.far (fr 0)).far (fr 1)).far (fr 2)).far (fr 3)).mono (by omega)
  · refine (O2.out.moved fun t ht => ?_).mono (by have := HBZ.out.size; have := y1.size; simp; omega)
    simp [Value.ownBlock] at ht
    subst ht
    rw [heap_far (by show gs ≠ w.heap.size + 1; omega), heap_far (by show gs ≠ w.heap.size + 1; omega), heap_far (by show gs ≠ w.heap.size + 1; omega), heap_far (by show gs ≠ w.heap.size + 1; omega), heap_far (by show gs ≠ ga; omega), heap_far (by show gs ≠ w.heap.size; omega)]
set_option maxRecDepth 100000 in
set_option maxHeartbeats 1600000 in
theorem raise_fen (W H : Int) (n cap m capS : Nat) (A B : Option Addr) (f a s : Nat → Int) (at_ d : Int) (w : World) (hp : IsInts w A n f) (hq : IsSlu w B m a s) (hv : validF W H n f m a s = false) :
    Gives Try.prog 19 #[.agg #[.int .i64 W, .int .i64 H, .slice A n cap, .slice B m capS], .int .i64 at_, .int .i64 d] w (.tuple #[.agg #[.int .i64 0, .int .i64 0, .slice none 0 0, .slice none 0 0], .int .i64 30]) := by
  have V : Hid (∀ w', IsInts w' A n f → IsSlu w' B m a s → Gives Try.prog 23 #[.agg #[.int .i64 W, .int .i64 H, .slice A n cap, .slice B m capS]] w' (.bool false)) := fun w' h1 h2 => hv ▸ Valid_any W H A B n cap m capS f a s w' h1 h2
  have HP := Lib.hid hp
  have HQ := Lib.hid hq
  have BX : Hid (∀ V, Below ((w.alloc (.cells #[.int .i64 W, .int .i64 H, .slice A n cap, .slice B m capS] 25)).alloc (.cells #[.int .i64 0, .int .i64 0, .slice none 0 0, .slice none 0 0] 25)).heap.size ((w.alloc (.cells #[.int .i64 W, .int .i64 H, .slice A n cap, .slice B m capS] 25)).alloc (.cells #[.int .i64 0, .int .i64 0, .slice none 0 0, .slice none 0 0] 25)) V → V.heap[w.heap.size]? = some (.cells #[.int .i64 W, .int .i64 H, .slice A n cap, .slice B m capS] 25) ∧ V.heap[w.heap.size + 1]? = some (.cells #[.int .i64 0, .int .i64 0, .slice none 0 0, .slice none 0 0] 25)) := fun V h =>
    ⟨(h.block w.heap.size (by simp; omega)).trans ((Below.heap_alloc _ _ _ (by simp)).trans (World.alloc_heap_new w _)), (h.block (w.heap.size + 1) (by simp)).trans (box_two w _ _)⟩
  clear hp hq hv
  go_enter Try.func19, Try.ntmps19
  go_wp2_with (first
    | (go_at_call 23; with_reducible refine Calls.mono (Gives.calls (V.out _ (HP.out.later ⟨_, by repeat (first | exact Below.refl _ _ | (with_reducible assumption) | apply below_later | apply below_alloc | apply below_drew | apply below_drewN)⟩) (HQ.out.later ⟨_, by repeat (first | exact Below.refl _ _ | (with_reducible assumption) | apply below_later | apply below_alloc | apply below_drew | apply below_drewN)⟩))) ?_; rintro e w1 ⟨rfl, z, rfl⟩; obtain ⟨gz0, gz1⟩ := BX.out z.val (by repeat (first | exact Below.refl _ _ | (with_reducible assumption) | apply below_later | apply below_alloc | apply below_drew | apply below_drewN)); have GZ := Lib.hid gz1; obtain ⟨⟨c0, c1, c2, c3⟩, e0, e1, e2, e3⟩ := cells4 gz0; obtain ⟨⟨j0, j1, j2, j3⟩, k0, k1, k2, k3⟩ := cells4 gz1; have l0 := get_lt gz0; have l1 := get_lt gz1; clear gz0 gz1))
  have k4 := put4 (v0 := .int .i64 0) (v1 := .int .i64 0) (v2 := .slice none 0 0) (v3 := .slice none 0 0) GZ.out
  obtain ⟨⟨r0, r1, r2, r3⟩, _⟩ := cells4 k4
  refine bodyPost_ret (v := .tuple #[.agg #[.int .i64 0, .int .i64 0, .slice none 0 0, .slice none 0 0], .int .i64 30]) (by simp [results, Try.results19, go_sem, r0, r1, r2, r3]) rfl ?_
  exact ⟨rfl, ⟨⟨_, below_set (below_set (below_set (below_set (show Below w.heap.size w z.val from by repeat (first | exact Below.refl _ _ | (with_reducible assumption) | apply below_later | apply below_alloc | apply below_drew | apply below_drewN)) (by simp)) (by simp)) (by simp)) (by simp)⟩, rfl⟩⟩

set_option maxRecDepth 100000 in
set_option maxHeartbeats 1600000 in
theorem raise_arg (W H : Int) (n cap m capS : Nat) (A B : Option Addr) (f a s : Nat → Int) (at_ d : Int) (w : World) (hp : IsInts w A n f) (hq : IsSlu w B m a s) (hv : validF W H n f m a s = true) (hb : ¬ (0 ≤ at_ ∧ at_ < n) ∨ d < 0) :
    Gives Try.prog 19 #[.agg #[.int .i64 W, .int .i64 H, .slice A n cap, .slice B m capS], .int .i64 at_, .int .i64 d] w (.tuple #[.agg #[.int .i64 0, .int .i64 0, .slice none 0 0, .slice none 0 0], .int .i64 2]) := by
  have V : Hid (∀ w', IsInts w' A n f → IsSlu w' B m a s → Gives Try.prog 23 #[.agg #[.int .i64 W, .int .i64 H, .slice A n cap, .slice B m capS]] w' (.bool true)) := fun w' h1 h2 => hv ▸ Valid_any W H A B n cap m capS f a s w' h1 h2
  have SQ : Hid (∀ w', Gives Try.prog 24 #[.agg #[.int .i64 W, .int .i64 H, .slice A n cap, .slice B m capS], .int .i64 at_] w' (.bool (decide (0 ≤ at_ ∧ at_ < n)))) := fun w' => isSquare_any W H A B n cap m capS at_ w'
  have HP := Lib.hid hp
  have HQ := Lib.hid hq
  have BX : Hid (∀ V, Below ((w.alloc (.cells #[.int .i64 W, .int .i64 H, .slice A n cap, .slice B m capS] 25)).alloc (.cells #[.int .i64 0, .int .i64 0, .slice none 0 0, .slice none 0 0] 25)).heap.size ((w.alloc (.cells #[.int .i64 W, .int .i64 H, .slice A n cap, .slice B m capS] 25)).alloc (.cells #[.int .i64 0, .int .i64 0, .slice none 0 0, .slice none 0 0] 25)) V → V.heap[w.heap.size]? = some (.cells #[.int .i64 W, .int .i64 H, .slice A n cap, .slice B m capS] 25) ∧ V.heap[w.heap.size + 1]? = some (.cells #[.int .i64 0, .int .i64 0, .slice none 0 0, .slice none 0 0] 25)) := fun V h =>
    ⟨(h.block w.heap.size (by simp; omega)).trans ((Below.heap_alloc _ _ _ (by simp)).trans (World.alloc_heap_new w _)), (h.block (w.heap.size + 1) (by simp)).trans (box_two w _ _)⟩
  clear hp hq hv
  by_cases hs : 0 ≤ at_ ∧ at_ < n
  · rw [decide_eq_true hs] at SQ
    have hd : d < 0 := hb.resolve_left fun h => h hs
    have d3 : decide (d < 0) = true := decide_eq_true hd
    clear hb
    go_enter Try.func19, Try.ntmps19
    go_wp2_with (first
    | (go_at_call 23; with_reducible refine Calls.mono (Gives.calls (V.out _ (HP.out.later ⟨_, by repeat (first | exact Below.refl _ _ | (with_reducible assumption) | apply below_later | apply below_alloc | apply below_drew | apply below_drewN)⟩) (HQ.out.later ⟨_, by repeat (first | exact Below.refl _ _ | (with_reducible assumption) | apply below_later | apply below_alloc | apply below_drew | apply below_drewN)⟩))) ?_; rintro e w1 ⟨rfl, z, rfl⟩; obtain ⟨gz0, gz1⟩ := BX.out z.val (by repeat (first | exact Below.refl _ _ | (with_reducible assumption) | apply below_later | apply below_alloc | apply below_drew | apply below_drewN)); have GZ := Lib.hid gz1; obtain ⟨⟨c0, c1, c2, c3⟩, e0, e1, e2, e3⟩ := cells4 gz0; obtain ⟨⟨j0, j1, j2, j3⟩, k0, k1, k2, k3⟩ := cells4 gz1; have l0 := get_lt gz0; have l1 := get_lt gz1; clear gz0 gz1)
    | (go_at_call 24; with_reducible refine Calls.mono (Gives.calls (SQ.out _)) ?_; rintro e w1 ⟨rfl, z2, rfl⟩; obtain ⟨gz0, gz1⟩ := BX.out z2.val (by repeat (first | exact Below.refl _ _ | (with_reducible assumption) | apply below_later | apply below_alloc | apply below_drew | apply below_drewN)); have GZ2 := Lib.hid gz1; obtain ⟨⟨c20, c21, c22, c23⟩, e20, e21, e22, e23⟩ := cells4 gz0; obtain ⟨⟨j20, j21, j22, j23⟩, k20, k21, k22, k23⟩ := cells4 gz1; have l20 := get_lt gz0; have l21 := get_lt gz1; clear gz0 gz1))
    have k4 := put4 (v0 := .int .i64 0) (v1 := .int .i64 0) (v2 := .slice none 0 0) (v3 := .slice none 0 0) GZ2.out
    obtain ⟨⟨r0, r1, r2, r3⟩, _⟩ := cells4 k4
    refine bodyPost_ret (v := .tuple #[.agg #[.int .i64 0, .int .i64 0, .slice none 0 0, .slice none 0 0], .int .i64 2]) (by simp [results, Try.results19, go_sem, r0, r1, r2, r3]) rfl ?_
    exact ⟨rfl, ⟨⟨_, below_set (below_set (below_set (below_set (show Below w.heap.size w z2.val from by repeat (first | exact Below.refl _ _ | (with_reducible assumption) | apply below_later | apply below_alloc | apply below_drew | apply below_drewN)) (by simp)) (by simp)) (by simp)) (by simp)⟩, rfl⟩⟩
  · rw [decide_eq_false hs] at SQ
    clear hb
    go_enter Try.func19, Try.ntmps19
    go_wp2_with (first
    | (go_at_call 23; with_reducible refine Calls.mono (Gives.calls (V.out _ (HP.out.later ⟨_, by repeat (first | exact Below.refl _ _ | (with_reducible assumption) | apply below_later | apply below_alloc | apply below_drew | apply below_drewN)⟩) (HQ.out.later ⟨_, by repeat (first | exact Below.refl _ _ | (with_reducible assumption) | apply below_later | apply below_alloc | apply below_drew | apply below_drewN)⟩))) ?_; rintro e w1 ⟨rfl, z, rfl⟩; obtain ⟨gz0, gz1⟩ := BX.out z.val (by repeat (first | exact Below.refl _ _ | (with_reducible assumption) | apply below_later | apply below_alloc | apply below_drew | apply below_drewN)); have GZ := Lib.hid gz1; obtain ⟨⟨c0, c1, c2, c3⟩, e0, e1, e2, e3⟩ := cells4 gz0; obtain ⟨⟨j0, j1, j2, j3⟩, k0, k1, k2, k3⟩ := cells4 gz1; have l0 := get_lt gz0; have l1 := get_lt gz1; clear gz0 gz1)
    | (go_at_call 24; with_reducible refine Calls.mono (Gives.calls (SQ.out _)) ?_; rintro e w1 ⟨rfl, z2, rfl⟩; obtain ⟨gz0, gz1⟩ := BX.out z2.val (by repeat (first | exact Below.refl _ _ | (with_reducible assumption) | apply below_later | apply below_alloc | apply below_drew | apply below_drewN)); have GZ2 := Lib.hid gz1; obtain ⟨⟨c20, c21, c22, c23⟩, e20, e21, e22, e23⟩ := cells4 gz0; obtain ⟨⟨j20, j21, j22, j23⟩, k20, k21, k22, k23⟩ := cells4 gz1; have l20 := get_lt gz0; have l21 := get_lt gz1; clear gz0 gz1))
    have k4 := put4 (v0 := .int .i64 0) (v1 := .int .i64 0) (v2 := .slice none 0 0) (v3 := .slice none 0 0) GZ2.out
    obtain ⟨⟨r0, r1, r2, r3⟩, _⟩ := cells4 k4
    refine bodyPost_ret (v := .tuple #[.agg #[.int .i64 0, .int .i64 0, .slice none 0 0, .slice none 0 0], .int .i64 2]) (by simp [results, Try.results19, go_sem, r0, r1, r2, r3]) rfl ?_
    exact ⟨rfl, ⟨⟨_, below_set (below_set (below_set (below_set (show Below w.heap.size w z2.val from by repeat (first | exact Below.refl _ _ | (with_reducible assumption) | apply below_later | apply below_alloc | apply below_drew | apply below_drewN)) (by simp)) (by simp)) (by simp)) (by simp)⟩, rfl⟩⟩

set_option maxRecDepth 100000 in
set_option maxHeartbeats 1600000 in
theorem raise_lim (W H : Int) (n cap m capS : Nat) (A B : Option Addr) (f a s : Nat → Int) (at_ d : Int) (w : World) (hp : IsInts w A n f) (hq : IsSlu w B m a s) (hv : validF W H n f m a s = true) (i : Nat) (hi : i < n) (hai : at_ = i) (h0 : 0 ≤ d) (hb : 1000 - f i < d) :
    Gives Try.prog 19 #[.agg #[.int .i64 W, .int .i64 H, .slice A n cap, .slice B m capS], .int .i64 at_, .int .i64 d] w (.tuple #[.agg #[.int .i64 0, .int .i64 0, .slice none 0 0, .slice none 0 0], .int .i64 4]) := by
  have V : Hid (∀ w', IsInts w' A n f → IsSlu w' B m a s → Gives Try.prog 23 #[.agg #[.int .i64 W, .int .i64 H, .slice A n cap, .slice B m capS]] w' (.bool true)) := fun w' h1 h2 => hv ▸ Valid_any W H A B n cap m capS f a s w' h1 h2
  have SQ : Hid (∀ w', Gives Try.prog 24 #[.agg #[.int .i64 W, .int .i64 H, .slice A n cap, .slice B m capS], .int .i64 at_] w' (.bool true)) := fun w' => by
    have h := isSquare_any W H A B n cap m capS at_ w'
    rwa [decide_eq_true (by omega)] at h
  obtain ⟨_, _, hf, _⟩ := valid_facts hv
  have hfi := hf i hi
  obtain ⟨b, off, hA, p⟩ := hp.at_ (by omega)
  subst hA hai
  have P := Lib.hid p
  clear p hf
  have d2 : decide (1000 - f i < d) = true := decide_eq_true hb
  have d3 : decide (d < 0) = false := decide_eq_false (by omega)
  have HP := Lib.hid hp
  have HQ := Lib.hid hq
  have BX : Hid (∀ V, Below ((w.alloc (.cells #[.int .i64 W, .int .i64 H, .slice (some ⟨b, off, none⟩) n cap, .slice B m capS] 25)).alloc (.cells #[.int .i64 0, .int .i64 0, .slice none 0 0, .slice none 0 0] 25)).heap.size ((w.alloc (.cells #[.int .i64 W, .int .i64 H, .slice (some ⟨b, off, none⟩) n cap, .slice B m capS] 25)).alloc (.cells #[.int .i64 0, .int .i64 0, .slice none 0 0, .slice none 0 0] 25)) V → V.heap[w.heap.size]? = some (.cells #[.int .i64 W, .int .i64 H, .slice (some ⟨b, off, none⟩) n cap, .slice B m capS] 25) ∧ V.heap[w.heap.size + 1]? = some (.cells #[.int .i64 0, .int .i64 0, .slice none 0 0, .slice none 0 0] 25)) := fun V h =>
    ⟨(h.block w.heap.size (by simp; omega)).trans ((Below.heap_alloc _ _ _ (by simp)).trans (World.alloc_heap_new w _)), (h.block (w.heap.size + 1) (by simp)).trans (box_two w _ _)⟩
  clear hp hq hv
  go_enter Try.func19, Try.ntmps19
  go_wp2_with (first
    | (go_at_call 23; with_reducible refine Calls.mono (Gives.calls (V.out _ (HP.out.later ⟨_, by repeat (first | exact Below.refl _ _ | (with_reducible assumption) | apply below_later | apply below_alloc | apply below_drew | apply below_drewN)⟩) (HQ.out.later ⟨_, by repeat (first | exact Below.refl _ _ | (with_reducible assumption) | apply below_later | apply below_alloc | apply below_drew | apply below_drewN)⟩))) ?_; rintro e w1 ⟨rfl, z, rfl⟩; obtain ⟨gz0, gz1⟩ := BX.out z.val (by repeat (first | exact Below.refl _ _ | (with_reducible assumption) | apply below_later | apply below_alloc | apply below_drew | apply below_drewN)); have GZ := Lib.hid gz1; obtain ⟨⟨c0, c1, c2, c3⟩, e0, e1, e2, e3⟩ := cells4 gz0; obtain ⟨⟨j0, j1, j2, j3⟩, k0, k1, k2, k3⟩ := cells4 gz1; have l0 := get_lt gz0; have l1 := get_lt gz1; clear gz0 gz1)
    | (go_at_call 24; with_reducible refine Calls.mono (Gives.calls (SQ.out _)) ?_; rintro e w1 ⟨rfl, z2, rfl⟩; obtain ⟨gz0, gz1⟩ := BX.out z2.val (by repeat (first | exact Below.refl _ _ | (with_reducible assumption) | apply below_later | apply below_alloc | apply below_drew | apply below_drewN)); have GZ2 := Lib.hid gz1; obtain ⟨⟨c20, c21, c22, c23⟩, e20, e21, e22, e23⟩ := cells4 gz0; obtain ⟨⟨j20, j21, j22, j23⟩, k20, k21, k22, k23⟩ := cells4 gz1; have l20 := get_lt gz0; have l21 := get_lt gz1; clear gz0 gz1; have hb2 : Below w.heap.size w z2.val := (by repeat (first | exact Below.refl _ _ | (with_reducible assumption) | apply below_later | apply below_alloc | apply below_drew | apply below_drewN)); have p2 := P.out.later ⟨z2.val, hb2⟩; have ca := p2.at_ i hi; have lb := p2.lt; clear p2))
  have k4 := put4 (v0 := .int .i64 0) (v1 := .int .i64 0) (v2 := .slice none 0 0) (v3 := .slice none 0 0) GZ2.out
  obtain ⟨⟨r0, r1, r2, r3⟩, _⟩ := cells4 k4
  refine bodyPost_ret (v := .tuple #[.agg #[.int .i64 0, .int .i64 0, .slice none 0 0, .slice none 0 0], .int .i64 4]) (by simp [results, Try.results19, go_sem, r0, r1, r2, r3]) rfl ?_
  exact ⟨rfl, ⟨⟨_, below_set (below_set (below_set (below_set (show Below w.heap.size w z2.val from by repeat (first | exact Below.refl _ _ | (with_reducible assumption) | apply below_later | apply below_alloc | apply below_drew | apply below_drewN)) (by simp)) (by simp)) (by simp)) (by simp)⟩, rfl⟩⟩

end Go.Proofs.Ytelfinjnbncnlaa
