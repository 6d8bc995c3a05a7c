/- sluice.Ridge: walked; Ponds of what is no fen. -/
import Derived.Test.YtelfinjnbncnlaaPonds
namespace Go.Proofs.Ytelfinjnbncnlaa
open Go.RowKit

set_option maxRecDepth 100000 in
set_option maxHeartbeats 1600000 in
theorem Ponds_bad (W H : Int) (n cap m capS : Nat) (A B : Option Addr) (f a s : Nat → Int) (w : World) (hp : IsInts w A n f) (hq : IsSlu w B m a s) (hv : validF W H n f m a s = false) :
    Gives Try.prog 15 #[.agg #[.int .i64 W, .int .i64 H, .slice A n cap, .slice B m capS]] w (.tuple #[.slice none 0 0, .int .i64 30]) := by
  have V : Hid (∀ w', IsInts w' A n f → IsSlu w' B m a s → Gives Try.prog 23 #[.agg #[.int .i64 W, .int .i64 H, .slice A n cap, .slice B m capS]] w' (.bool false)) := fun w' h1 h2 => hv ▸ Valid_any W H A B n cap m capS f a s w' h1 h2
  have HP := Lib.hid hp
  have HQ := Lib.hid hq
  clear hp hq hv
  go_enter Try.func15, Try.ntmps15
  go_wp2_with (go_at_call 23; (first | (with_reducible show Calls _ _ _ (Later.val _) _; with_reducible refine Calls.mono (Later.call _ (V.out _ (HP.out.later ⟨_, by repeat (first | exact Below.refl _ _ | (with_reducible assumption) | apply below_later | apply below_alloc | apply below_drew | apply below_drewN)⟩) (HQ.out.later ⟨_, by repeat (first | exact Below.refl _ _ | (with_reducible assumption) | apply below_later | apply below_alloc | apply below_drew | apply below_drewN)⟩))) ?_) | (with_reducible refine Calls.mono (Gives.calls (V.out _ (HP.out.later ⟨_, by repeat (first | exact Below.refl _ _ | (with_reducible assumption) | apply below_later | apply below_alloc | apply below_drew | apply below_drewN)⟩) (HQ.out.later ⟨_, by repeat (first | exact Below.refl _ _ | (with_reducible assumption) | apply below_later | apply below_alloc | apply below_drew | apply below_drewN)⟩))) ?_)); rintro e w1 ⟨rfl, z, rfl⟩)
  go_ret2
  exact ⟨rfl, later_of (by repeat (first | exact Below.refl _ _ | (with_reducible assumption) | apply below_later | apply below_alloc | apply below_drew | apply below_drewN))⟩
set_option maxRecDepth 100000 in
set_option maxHeartbeats 1600000 in
theorem Ridge_bad (W H : Int) (n cap m capS : Nat) (A B : Option Addr) (f a s : Nat → Int) (k : Int) (w : World) (hp : IsInts w A n f) (hq : IsSlu w B m a s) (hv : validF W H n f m a s = false) :
    Gives Try.prog 8 #[.agg #[.int .i64 W, .int .i64 H, .slice A n cap, .slice B m capS], .int .i64 k] w (.tuple #[.slice none 0 0, .int .i64 30]) := by
  have V : Hid (∀ w', IsInts w' A n f → IsSlu w' B m a s → Gives Try.prog 23 #[.agg #[.int .i64 W, .int .i64 H, .slice A n cap, .slice B m capS]] w' (.bool false)) := fun w' h1 h2 => hv ▸ Valid_any W H A B n cap m capS f a s w' h1 h2
  have HP := Lib.hid hp
  have HQ := Lib.hid hq
  clear hp hq hv
  go_enter Try.func8, Try.ntmps8
  go_wp2_with (go_at_call 23; (first | (with_reducible show Calls _ _ _ (Later.val _) _; with_reducible refine Calls.mono (Later.call _ (V.out _ (HP.out.later ⟨_, by repeat (first | exact Below.refl _ _ | (with_reducible assumption) | apply below_later | apply below_alloc | apply below_drew | apply below_drewN)⟩) (HQ.out.later ⟨_, by repeat (first | exact Below.refl _ _ | (with_reducible assumption) | apply below_later | apply below_alloc | apply below_drew | apply below_drewN)⟩))) ?_) | (with_reducible refine Calls.mono (Gives.calls (V.out _ (HP.out.later ⟨_, by repeat (first | exact Below.refl _ _ | (with_reducible assumption) | apply below_later | apply below_alloc | apply below_drew | apply below_drewN)⟩) (HQ.out.later ⟨_, by repeat (first | exact Below.refl _ _ | (with_reducible assumption) | apply below_later | apply below_alloc | apply below_drew | apply below_drewN)⟩))) ?_)); rintro e w1 ⟨rfl, z, rfl⟩)
  go_ret2
  exact ⟨rfl, later_of (by repeat (first | exact Below.refl _ _ | (with_reducible assumption) | apply below_later | apply below_alloc | apply below_drew | apply below_drewN))⟩
set_option maxRecDepth 100000 in
set_option maxHeartbeats 1600000 in
theorem Ridge_arg (W H : Int) (n cap m capS : Nat) (A B : Option Addr) (f a s : Nat → Int) (k : Int) (w : World) (hp : IsInts w A n f) (hq : IsSlu w B m a s) (hv : validF W H n f m a s = true) (hk : ¬ (0 ≤ k ∧ k < n)) :
    Gives Try.prog 8 #[.agg #[.int .i64 W, .int .i64 H, .slice A n cap, .slice B m capS], .int .i64 k] w (.tuple #[.slice none 0 0, .int .i64 2]) := by
  have V : Hid (∀ w', IsInts w' A n f → IsSlu w' B m a s → Gives Try.prog 23 #[.agg #[.int .i64 W, .int .i64 H, .slice A n cap, .slice B m capS]] w' (.bool true)) := fun w' h1 h2 => hv ▸ Valid_any W H A B n cap m capS f a s w' h1 h2
  have SQ : Hid (∀ w, Gives Try.prog 24 #[.agg #[.int .i64 W, .int .i64 H, .slice A n cap, .slice B m capS], .int .i64 k] w (.bool false)) := fun w => (decide_eq_false hk) ▸ isSquare_any W H A B n cap m capS k w
  have HP := Lib.hid hp
  have HQ := Lib.hid hq
  clear hp hq hv hk
  go_enter Try.func8, Try.ntmps8
  go_wp2_with (first
    | (go_at_call 23; (first | (with_reducible show Calls _ _ _ (Later.val _) _; with_reducible refine Calls.mono (Later.call _ (V.out _ (HP.out.later ⟨_, by repeat (first | exact Below.refl _ _ | (with_reducible assumption) | apply below_later | apply below_alloc | apply below_drew | apply below_drewN)⟩) (HQ.out.later ⟨_, by repeat (first | exact Below.refl _ _ | (with_reducible assumption) | apply below_later | apply below_alloc | apply below_drew | apply below_drewN)⟩))) ?_) | (with_reducible refine Calls.mono (Gives.calls (V.out _ (HP.out.later ⟨_, by repeat (first | exact Below.refl _ _ | (with_reducible assumption) | apply below_later | apply below_alloc | apply below_drew | apply below_drewN)⟩) (HQ.out.later ⟨_, by repeat (first | exact Below.refl _ _ | (with_reducible assumption) | apply below_later | apply below_alloc | apply below_drew | apply below_drewN)⟩))) ?_)); rintro e w1 ⟨rfl, z, rfl⟩)
    | (go_at_call 24; (first | (with_reducible show Calls _ _ _ (Later.val _) _; with_reducible refine Calls.mono (Later.call _ (SQ.out _)) ?_) | (with_reducible refine Calls.mono (Gives.calls (SQ.out _)) ?_)); rintro e w1 ⟨rfl, z2, rfl⟩))
  go_ret2
  exact ⟨rfl, later_of (by repeat (first | exact Below.refl _ _ | (with_reducible assumption) | apply below_later | apply below_alloc | apply below_drew | apply below_drewN))⟩
set_option maxRecDepth 100000 in
set_option maxHeartbeats 1600000 in
theorem ridgec_any (W H : Int) (A B : Option Addr) (n cap m capS b1 b6 i : Nat) (f : Nat → Int) (y : Int) (w : World) (hi : i < n) (hp : IsInts w A n f)
    (g1 : w.heap[b1]? = some (.cells #[.int .i64 W, .int .i64 H, .slice A n cap, .slice B m capS] 25)) (g6 : w.cell? ⟨b6, 0, none⟩ = some (.int .i64 y)) (l6 : b6 < w.heap.size) :
    Gives Try.prog 27 #[.int .i64 i, .pointer (some ⟨b1, 0, none⟩), .pointer (some ⟨b6, 0, none⟩)] w (.bool (decide (f i < y))) := by
  obtain ⟨ga, oa, rfl, pa⟩ := hp.at_ (by omega)
  have ca := pa.at_ i hi
  have la := pa.lt
  have m2 := cell_of_heap g1 2 _ rfl
  have l1 := get_lt g1
  clear pa hp g1
  obtain ⟨d, hd⟩ : ∃ d, decide (f i < y) = d := ⟨_, rfl⟩
  rw [hd]
  generalize f i = fi at *
  go_enter Try.func27, Try.ntmps27
  go_wp2_with fail
  refine wp_region_later (by kernel_rfl) (by kernel_rfl) ?_
  repeat (go_big_quiet_step ((fail)))
  refine wpQuiet_nil ?_
  intro q
  go_wp2
  go_ret
  exact ⟨rfl, later_of (by repeat (first | exact Below.refl _ _ | (with_reducible assumption) | apply below_later | apply below_alloc | apply below_drew | apply below_drewN))⟩
/-- What Ridge answers: the squares to which a walk over ground below the level leads; the square alone where it is dry. -/
def mayR (f L : Nat → Int) (k i : Nat) : Bool := decide (f k < L k ∧ f i < L k)
theorem walks_alone {nx : Nat → List Nat} {f L : Nat → Int} {k i : Nat} (e : f k = L k) : Walks nx (mayR f L k) [k] i ↔ i = k := by
  refine ⟨fun h => ?_, fun h => .at_ (by simp [h])⟩
  cases h with
  | at_ h => simpa using h
  | on _ _ h => have := of_decide_eq_true h; omega
theorem filt_one {n k : Nat} (hk : k < n) : filt (fun i => decide (i = k)) n = [k] := by
  have key : ∀ m, filt (fun i => decide (i = k)) m = if k < m then [k] else [] := by
    intro m
    induction m with
    | zero => simp [filt]
    | succ m ih =>
      by_cases c : m = k
      · subst c
        rw [filt_yes (by simp), ih]; simp
      · rw [filt_no (by simpa using c), ih]
        by_cases d : k < m
        · rw [if_pos d, if_pos (by omega)]
        · rw [if_neg d, if_neg (by omega)]
  rw [key, if_pos hk]
theorem lit_own {base : Nat} {V : World} (x : Int) (hb : base ≤ V.heap.size) : OwnI (V.alloc (.cells #[.int .i64 x] 3)) base (.slice (some ⟨V.heap.size, 0, none⟩) 1 1) [x] := by
  unfold OwnI
  exact World.ownsRow_lit V #[.int .i64 x] 1 hb (by unfold maxLen; omega) rfl
def PostRg (w : World) (n W H : Nat) (f L : Nat → Int) (k : Nat) (e : Ending) (w' : World) : Prop := ∃ v, ∃ S : Nat → Bool, e = .returned (.tuple #[v, .int .i64 0]) ∧ ∃ x : Later w, w' = x.val ∧ OwnI w' w.heap.size v (natN (filt S n)) ∧ ∀ i, i < n → (S i = true ↔ Walks (near4 W H) (mayR f L k) [k] i)
set_option maxRecDepth 100000 in
set_option maxHeartbeats 3200000 in
theorem ridge_ok {W H n m : Nat} {f a s L : Nat → Int} (h : FenL W H n m f a s L) (cap capS k : Nat) (A B : Option Addr) (w : World) (hk : k < n) (hp : IsInts w A n f) (hq : IsSlu w B m a s) :
    Calls Try.prog 8 #[.agg #[.int .i64 W, .int .i64 H, .slice A n cap, .slice B m capS], .int .i64 k] w (PostRg w n W H f L k) := by
  have V : Hid (∀ w', Below w.heap.size w w' → Gives Try.prog 23 #[.agg #[.int .i64 W, .int .i64 H, .slice A n cap, .slice B m capS]] w' (.bool true)) := fun w' hb => h.valid ▸ Valid_any W H A B n cap m capS f a s w' (hp.later ⟨w', hb⟩) (hq.later ⟨w', hb⟩)
  have SQ : Hid (∀ w, Gives Try.prog 24 #[.agg #[.int .i64 W, .int .i64 H, .slice A n cap, .slice B m capS], .int .i64 k] w (.bool true)) := fun w => (decide_eq_true (show 0 ≤ (k : Int) ∧ (k : Int) < n by omega)) ▸ isSquare_any W H A B n cap m capS k w
  have LV : Hid (∀ w', Below w.heap.size w w' → GivesI 25 #[.agg #[.int .i64 W, .int .i64 H, .slice A n cap, .slice B m capS]] w' (tab n L)) := fun w' hb => levelsOf_tab h cap capS A B w' (hp.later ⟨w', hb⟩) (hq.later ⟨w', hb⟩)
  obtain ⟨hW, hW2, hH1, hH, hn, hn1, hn2, hf, _⟩ := h.facts
  have HH := Lib.hid (h.high k hk).1
  have RC : Hid (∀ (w' : World) (b1 b6 : Nat), f k < L k → Below w.heap.size w w' → w'.heap[b1]? = some (.cells #[.int .i64 W, .int .i64 H, .slice A n cap, .slice B m capS] 25) → w'.cell? ⟨b6, 0, none⟩ = some (.int .i64 (L k)) → b6 < w'.heap.size → Calls Try.prog 26 #[.agg #[.int .i64 W, .int .i64 H, .slice A n cap, .slice B m capS], .int .i64 k, .func (.func 27) #[] #[.pointer (some ⟨b1, 0, none⟩), .pointer (some ⟨b6, 0, none⟩)]] w' fun e w'' => ∃ v, ∃ S : Nat → Bool, e = .returned v ∧ ∃ x : Later w', w'' = x.val ∧ OwnI w'' w'.heap.size v (natN (filt S n)) ∧ ∀ i, i < n → (S i = true ↔ Walks (near4 W H) (mayR f L k) [k] i)) := fun w' b1 b6 hlt hb g1 g6 l6 =>
    reached_ridge W H n cap m capS k A B _ _ _ w' hW hW2 hH1 hH hn hk fun V hV i hi => by
      have h1 := ridgec_any W H A B n cap m capS b1 b6 i f (L k) V hi (hp.later ⟨V, below_more hb hV⟩) ((hV.block _ (get_lt g1)).trans g1) ((Later.cell ⟨V, hV⟩ b6 0 l6).trans g6) (Nat.lt_of_lt_of_le l6 hV.size)
      have e : mayR f L k i = decide (f i < L k) := by unfold mayR; simp [hlt]
      rw [e]; exact h1
  have HP := Lib.hid hp
  clear hp hq hf h hn
  go_enter Try.func8, Try.ntmps8
  go_wp2_with (first
    | (go_at_call 23; (first | (with_reducible show Calls _ _ _ (Later.val _) _; with_reducible refine Calls.mono (Later.call _ (V.out _ (by repeat (first | exact Below.refl _ _ | (with_reducible assumption) | apply below_later | apply below_alloc | apply below_drew | apply below_drewN)))) ?_) | (with_reducible refine Calls.mono (Gives.calls (V.out _ (by repeat (first | exact Below.refl _ _ | (with_reducible assumption) | apply below_later | apply below_alloc | apply below_drew | apply below_drewN)))) ?_)); rintro e w1 ⟨rfl, z, rfl⟩)
    | (go_at_call 24; (first | (with_reducible show Calls _ _ _ (Later.val _) _; with_reducible refine Calls.mono (Later.call _ (SQ.out _)) ?_) | (with_reducible refine Calls.mono (Gives.calls (SQ.out _)) ?_)); rintro e w1 ⟨rfl, z2, rfl⟩)
    | (go_at_call 25; with_reducible refine Calls.mono (GivesI.calls (LV.out _ (by repeat (first | exact Below.refl _ _ | (with_reducible assumption) | apply below_later | apply below_alloc | apply below_drew | apply below_drewN)))) ?_; rintro e w1 ⟨v, rfl, y, rfl, ho⟩; obtain ⟨AL, cl, rfl⟩ := ho.shape_n (n := n) (tab_len _ _); obtain ⟨bq, oq, hAL, pq⟩ := (own_tab ho hn2).at_ (by omega); subst hAL; have cq := pq.at_ k hk; have lq := pq.lt; have M0 := box_kept y; have HY := Lib.hid (show Below w.heap.size w y.val by repeat (first | exact Below.refl _ _ | (with_reducible assumption) | apply below_later | apply below_alloc | apply below_drew | apply below_drewN)); clear ho pq))
  have HS : Hid (Below y.val.heap.size y.val (y.val.alloc (.cells #[.int .i64 (L k)] 3))) := (Below.refl _ _).alloc (Nat.le_refl _) _
  have c6 : (y.val.alloc (.cells #[.int .i64 (L k)] 3)).cell? ⟨y.val.heap.size, 0, none⟩ = some (.int .i64 (L k)) := cell_of_heap (World.alloc_heap_new _ _) 0 _ rfl
  have l6 : y.val.heap.size < (y.val.alloc (.cells #[.int .i64 (L k)] 3)).heap.size := by simp
  have M1 := (HS.out.block _ (get_lt M0)).trans M0
  have HYS := Lib.hid (below_more HY.out HS.out)
  obtain ⟨b6, hb6⟩ : ∃ b6, y.val.heap.size = b6 := ⟨_, rfl⟩
  rw [hb6] at c6 l6 ⊢
  clear HS HY M0 cq lq hb6 LV
  generalize y.val.alloc (.cells #[.int .i64 (L k)] 3) = VS at *
  have lM := get_lt M1
  have m2 := cell_of_heap M1 2 _ rfl
  have HM1 := Lib.hid M1
  obtain ⟨ba, oa, hA, pa⟩ := (HP.out.later ⟨VS, HYS.out⟩).at_ (by omega)
  subst hA
  have cf := pa.at_ k hk
  have lf := pa.lt
  clear pa M1
  by_cases h1 : f k = L k
  · have d1 : (f k == L k) = true := by simpa using h1
    have PR : Hid (∀ (V : World), Below w.heap.size w V → PostRg w n W H f L k (.returned (.tuple #[.slice (some ⟨V.heap.size, 0, none⟩) 1 1, .int .i64 0])) (V.alloc (.cells #[.int .i64 k] 3))) := fun V hV => ⟨_, fun i => decide (i = k), rfl, ⟨_, hV.alloc hV.size _⟩, rfl, by
      rw [filt_one hk]
      exact lit_own (k : Int) hV.size, fun i _ => by rw [walks_alone h1]; simp⟩
    clear h1
    generalize L k = lk at *
    generalize f k = fk at *
    refine wp_region_later (by kernel_rfl) (by kernel_rfl) ?_
    repeat (go_big_quiet_step ((fail)))
    refine wpQuiet_nil ?_
    intro q
    go_wp2_with fail
    go_ret2
    exact PR.out _ (below_more HYS.out q.ok)
  · have d1 : (f k == L k) = false := by simpa using h1
    have h2 : Hid (f k < L k) := by have := HH.out; show _ < _; omega
    clear h1
    refine wp_region_later (by kernel_rfl) (by kernel_rfl) ?_
    repeat (go_big_quiet_step ((fail)))
    refine wpQuiet_nil ?_
    intro q
    have HQB : Hid (Below w.heap.size w q.val) := below_more HYS.out q.ok
    have HQM : Hid (q.val.heap[w.heap.size]? = some (.cells #[.int .i64 W, .int .i64 H, .slice (some ⟨ba, oa, none⟩) n cap, .slice B m capS] 25)) := (q.ok.block _ lM).trans HM1.out
    have HQ6 : Hid (q.val.cell? ⟨b6, 0, none⟩ = some (.int .i64 (L k))) := (q.cell b6 0 l6).trans c6
    have HL6 : Hid (b6 < q.val.heap.size) := Nat.lt_of_lt_of_le l6 q.size
    have HLM := Nat.lt_of_lt_of_le lM q.size
    have n1 := cell_of_heap HQM.out 0 _ rfl
    have n2 := cell_of_heap HQM.out 1 _ rfl
    have n3 := cell_of_heap HQM.out 2 _ rfl
    have n4 := cell_of_heap HQM.out 3 _ rfl
    clear cf lf c6 l6 lM m2 HM1
    generalize q.val = VQ at *
    go_wp2_with (go_at_call 26; with_reducible refine Calls.mono (RC.out _ _ _ h2.out HQB.out HQM.out HQ6.out HL6.out) ?_; rintro e w2 ⟨v, S, rfl, x, rfl, ho, hS⟩)
    go_ret2
    exact ⟨_, S, rfl, ⟨_, below_more HQB.out x.ok⟩, rfl, ho.mono HQB.out.size, hS⟩
end Go.Proofs.Ytelfinjnbncnlaa
