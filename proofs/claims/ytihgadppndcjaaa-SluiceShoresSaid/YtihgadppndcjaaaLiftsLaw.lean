/- SluiceLifts: the walk. -/
import Derived.Test.YtihgadppndcjaaaLevelsLaw
import Derived.Test.YtihgadppndcjaaaRaise
namespace Go.Proofs.Ytihgadppndcjaaa
open Go.RowKit

theorem leaves_up {n : Nat} {nx : Nat → List Nat} {h h' : Nat → Int} {sl : List (Nat × Int)} {c : Int} (hc : 0 ≤ c) (hh : ∀ i, i < n → h' i ≤ h i + c) {x : Int} {i : Nat} (k : Leaves n nx h sl x i) : Leaves n nx h' sl (x + c) i := by
  induction k with
  | out a b d e => exact .out a b (by omega) (by have := hh _ a; omega)
  | on a _ d e ih => exact .on a ih d (by have := hh _ a; omega)
theorem FenL.step {W H n m : Nat} {f a s L : Nat → Int} (h : FenL W H n m f a s L) {i j : Nat} (hi : i < n) (hj : j ∈ near4 W H i) (hlt : L j < L i) : L i = f i := by
  obtain ⟨_, _, _, _, hn, _⟩ := h.facts
  have hjn : j < n := by rw [hn] at hi ⊢; exact near_lt hj hi
  have l1 := ((h.lev j hjn (L j)).2 (Int.le_refl _)).more (show L j ≤ max (f i) (L j) by omega)
  have l2 := (h.lev i hi _).1 (.on hi l1 (near_flip (hn ▸ hi) hj) (by omega))
  have := (h.high i hi).1
  omega
/-- A square is raised. -/
def lifted (f : Nat → Int) (k : Nat) (d : Int) (i : Nat) : Int := if i = k then f i + d else f i
theorem lift_valid {W H n m k : Nat} {f a s : Nat → Int} {d : Int} (hv : validF W H n f m a s = true) (h0 : 0 ≤ d) (h1 : d ≤ 1000 - f k) : validF W H n (lifted f k d) m a s = true := by
  have hf := (valid_facts hv).2.2.1
  unfold validF at hv ⊢
  simp only [Bool.and_eq_true, allB_iff, numB, decide_eq_true_eq] at hv ⊢
  refine ⟨hv.1, ⟨hv.2.1.1, fun i hi => ?_⟩, hv.2.2⟩
  have := hf i hi
  unfold lifted
  split
  · rename_i e; subst e; omega
  · omega
theorem lift_low {W H n m k : Nat} {f a s L M : Nat → Int} {d : Int} (h0 : 0 ≤ d) (hL : FenL W H n m f a s L) (hM : FenL W H n m (lifted f k d) a s M) {i : Nat} (hi : i < n) : L i ≤ M i ∧ M i ≤ L i + d := by
  have l1 := leaves_up (c := 0) (h' := f) (by omega) (fun j _ => by unfold lifted; split <;> omega) ((hM.lev i hi (M i)).2 (Int.le_refl _))
  have l2 := leaves_up (c := d) (h' := lifted f k d) h0 (fun j _ => by unfold lifted; split <;> omega) ((hL.lev i hi (L i)).2 (Int.le_refl _))
  have e1 := (hL.lev i hi _).1 l1
  have e2 := (hM.lev i hi _).1 l2
  omega
theorem ints_tab {w : World} {A : Option Addr} {n : Nat} {g : Nat → Int} (h : IsInts w A n fun i => (tab n g).getD i 0) : IsInts w A n g :=
  ⟨h.small, fun h0 => let ⟨b, off, e, p⟩ := h.at_ h0; ⟨b, off, e, p.lt, fun i hi => by rw [p.at_ i hi, tab_get hi]⟩⟩
theorem OwnI.tab_ints {w : World} {base n cap : Nat} {A : Option Addr} {g : Nat → Int} (h : OwnI w base (.slice A n cap) (tab n g)) (hn : n ≤ 1000) : IsInts w A n g :=
  ints_tab (h.ints (by rw [tab_len]; omega)).2
set_option maxRecDepth 100000 in
set_option maxHeartbeats 1600000 in
theorem rvalid_many (W H : Int) (A B : Option Addr) (n cap m capS : Nat) (w : World) (hm : 60 < m) :
    Gives Try.prog 20 #[.agg #[.int .i64 W, .int .i64 H, .slice A n cap, .slice B m capS]] w (.bool false) := by
  have WT : Hid (∀ x lo hi, lo ≤ x → x ≤ hi → ∀ w, Gives Try.prog 51 #[.int .i64 x, .int .i64 lo, .int .i64 hi] w (.bool true)) := fun x lo hi h1 h2 w => by
    have h := within_any lo x hi w
    rwa [decide_eq_true h1, decide_eq_true h2] at h
  have WF : Hid (∀ x lo hi, ¬ (lo ≤ x ∧ x ≤ hi) → ∀ w, Gives Try.prog 51 #[.int .i64 x, .int .i64 lo, .int .i64 hi] w (.bool false)) := fun x lo hi h w => by
    have h' := within_any lo x hi w
    have e : (decide (lo ≤ x) && decide (x ≤ hi)) = false := by rw [← Bool.decide_and]; exact decide_eq_false h
    rwa [e] at h'
  have S3 := Lib.hid (WF.out (m : Int) 1 20 (by omega))
  by_cases hw : 1 ≤ W ∧ W ≤ 16
  · have S1 := Lib.hid (WT.out W 1 16 hw.1 hw.2)
    by_cases hh : 1 ≤ H ∧ H ≤ 16
    · have S2 := Lib.hid (WT.out H 1 16 hh.1 hh.2)
      obtain ⟨W', rfl⟩ : ∃ x : Nat, W = x := ⟨W.toNat, by omega⟩
      obtain ⟨H', rfl⟩ : ∃ x : Nat, H = x := ⟨H.toNat, by omega⟩
      have hb : 0 ≤ (W' : Int) * H' ∧ (W' : Int) * H' ≤ 256 := by
        have := Nat.mul_le_mul (show W' ≤ 16 by omega) (show H' ≤ 16 by omega)
        rw [← Int.natCast_mul]; omega
      obtain ⟨hb1, hb2⟩ := hb
      clear hw hh
      by_cases hc : (n : Int) = (W' : Int) * H'
      · have q0 : ((n : Int) != (W' : Int) * H') = false := by rw [← hc]; simp
        clear hc
        go_enter Try.func20, Try.ntmps20
        go_wp2_with (first
          | (go_at_call 51; (first | (with_reducible show Calls _ _ _ (Later.val _) _; with_reducible refine Calls.mono (Later.call _ (S1.out _)) ?_) | (with_reducible refine Calls.mono (Gives.calls (S1.out _)) ?_)); rintro e w1 ⟨rfl, z, rfl⟩)
          | (go_at_call 51; (first | (with_reducible show Calls _ _ _ (Later.val _) _; with_reducible refine Calls.mono (Later.call _ (S2.out _)) ?_) | (with_reducible refine Calls.mono (Gives.calls (S2.out _)) ?_)); rintro e w1 ⟨rfl, z2, rfl⟩)
          | (go_at_call 51; (first | (with_reducible show Calls _ _ _ (Later.val _) _; with_reducible refine Calls.mono (Later.call _ (S3.out _)) ?_) | (with_reducible refine Calls.mono (Gives.calls (S3.out _)) ?_)); rintro e w1 ⟨rfl, z3, rfl⟩))
        go_ret
        exact ⟨rfl, later_of (by repeat (first | exact Below.refl _ _ | (with_reducible assumption) | apply below_later | apply below_alloc | apply below_drew | apply below_drewN))⟩
      · have q0 : ((n : Int) != (W' : Int) * H') = true := by simpa using hc
        clear hc
        go_enter Try.func20, Try.ntmps20
        go_wp2_with (first
          | (go_at_call 51; (first | (with_reducible show Calls _ _ _ (Later.val _) _; with_reducible refine Calls.mono (Later.call _ (S1.out _)) ?_) | (with_reducible refine Calls.mono (Gives.calls (S1.out _)) ?_)); rintro e w1 ⟨rfl, z, rfl⟩)
          | (go_at_call 51; (first | (with_reducible show Calls _ _ _ (Later.val _) _; with_reducible refine Calls.mono (Later.call _ (S2.out _)) ?_) | (with_reducible refine Calls.mono (Gives.calls (S2.out _)) ?_)); rintro e w1 ⟨rfl, z2, rfl⟩))
        go_ret
        exact ⟨rfl, later_of (by repeat (first | exact Below.refl _ _ | (with_reducible assumption) | apply below_later | apply below_alloc | apply below_drew | apply below_drewN))⟩
    · have S2 := Lib.hid (WF.out H 1 16 hh)
      clear hw hh
      go_enter Try.func20, Try.ntmps20
      go_wp2_with (first
        | (go_at_call 51; (first | (with_reducible show Calls _ _ _ (Later.val _) _; with_reducible refine Calls.mono (Later.call _ (S1.out _)) ?_) | (with_reducible refine Calls.mono (Gives.calls (S1.out _)) ?_)); rintro e w1 ⟨rfl, z, rfl⟩)
        | (go_at_call 51; (first | (with_reducible show Calls _ _ _ (Later.val _) _; with_reducible refine Calls.mono (Later.call _ (S2.out _)) ?_) | (with_reducible refine Calls.mono (Gives.calls (S2.out _)) ?_)); rintro e w1 ⟨rfl, z2, rfl⟩))
      go_ret
      exact ⟨rfl, later_of (by repeat (first | exact Below.refl _ _ | (with_reducible assumption) | apply below_later | apply below_alloc | apply below_drew | apply below_drewN))⟩
  · have S1 := Lib.hid (WF.out W 1 16 hw)
    clear hw
    go_enter Try.func20, Try.ntmps20
    go_wp2_with (go_at_call 51; (first | (with_reducible show Calls _ _ _ (Later.val _) _; with_reducible refine Calls.mono (Later.call _ (S1.out _)) ?_) | (with_reducible refine Calls.mono (Gives.calls (S1.out _)) ?_)); rintro e w1 ⟨rfl, z, rfl⟩)
    go_ret
    exact ⟨rfl, later_of (by repeat (first | exact Below.refl _ _ | (with_reducible assumption) | apply below_later | apply below_alloc | apply below_drew | apply below_drewN))⟩
/-- The law's Valid, for any sluices. -/
theorem rvalid_all (W H : Int) (A B : Option Addr) (n cap m capS : Nat) (f a s : Nat → Int) (w : World) (hn : n ≤ 1000) (hp : IsInts w A n f) (hq : m ≤ 60 → IsSlu w B m a s) :
    ∃ v, (v = true → m ≤ 60 ∧ validF W H n f m a s = true) ∧ ∀ w', Below w.heap.size w w' → Gives Try.prog 20 #[.agg #[.int .i64 W, .int .i64 H, .slice A n cap, .slice B m capS]] w' (.bool v) := by
  rcases Nat.lt_or_ge 60 m with h | h
  · exact ⟨false, fun h => (by cases h), fun w' _ => rvalid_many W H A B n cap m capS w' h⟩
  · exact ⟨_, fun e => ⟨h, e⟩, fun w' hb => rvalid_any W H A B n cap m capS f a s w' hn (hp.later ⟨w', hb⟩) ((hq h).later ⟨w', hb⟩)⟩
set_option maxRecDepth 100000 in
set_option maxHeartbeats 3200000 in
theorem lifts_law (W H : Int) (A : Option Addr) (n cap : Nat) (f : Nat → Int) (B : Option Addr) (m capS : Nat) (a s : Nat → Int) (u1 u2 : Int) (w : World) (hp : n ≤ 9223372036854775807 → IsInts w A n f) (hq : m ≤ 60 → IsSlu w B m a s) (a0 : 0 ≤ u1) (a1 : u1 ≤ 65535) (b0 : 0 ≤ u2) (b1 : u2 ≤ 65535) :
    Gives Try.prog 10 #[.agg #[.int .i64 W, .int .i64 H, .slice A n cap, .slice B m capS], .int .u16 u1, .int .u16 u2] w (.bool true) := by
  have F1 : Hid (∀ w, Gives Try.prog 16 #[] w (.bool true)) := first_any
  by_cases h64 : n ≤ 64
  · have q64 : decide ((64 : Int) < (n : Int)) = false := decide_eq_false (by omega)
    have hp' := hp (by omega)
    obtain ⟨v, hv, RV⟩ := rvalid_all W H A B n cap m capS f a s w (by omega) hp' hq
    have RV := Lib.hid RV
    cases v
    · clear hp hq hp' hv h64
      go_enter Try.func10, Try.ntmps10
      go_wp2_with (first
        | (go_at_call 20; (first | (with_reducible show Calls _ _ _ (Later.val _) _; with_reducible refine Calls.mono (Later.call _ (RV.out _ (by repeat (first | exact Below.refl _ _ | (with_reducible assumption) | apply below_later | apply below_alloc | apply below_drew | apply below_drewN)))) ?_) | (with_reducible refine Calls.mono (Gives.calls (RV.out _ (by repeat (first | exact Below.refl _ _ | (with_reducible assumption) | apply below_later | apply below_alloc | apply below_drew | apply below_drewN)))) ?_)); rintro e w1 ⟨rfl, z1, rfl⟩)
        | (go_at_call 16; (first | (with_reducible show Calls _ _ _ (Later.val _) _; with_reducible refine Calls.mono (Later.call _ (F1.out _)) ?_) | (with_reducible refine Calls.mono (Gives.calls (F1.out _)) ?_)); rintro e w1 ⟨rfl, z4, rfl⟩))
      go_ret
      exact ⟨rfl, later_of (by repeat (first | exact Below.refl _ _ | (with_reducible assumption) | apply below_later | apply below_alloc | apply below_drew | apply below_drewN))⟩
    · obtain ⟨hm, hv⟩ := hv rfl
      have hq' := hq hm
      clear hp hq
      obtain ⟨⟨⟨a1', a2⟩, a3, a4⟩, a5x, _⟩ := valid_facts hv
      clear a5x
      obtain ⟨W', rfl⟩ : ∃ x : Nat, W = x := ⟨W.toNat, by omega⟩
      obtain ⟨H', rfl⟩ : ∃ x : Nat, H = x := ⟨H.toNat, by omega⟩
      obtain ⟨L, hL⟩ := fen_levels hv
      obtain ⟨hW, hW2, hH1, hH, hnn, hn1, hn2, hf, m1, m2, _⟩ := hL.facts
      obtain ⟨b, off, rfl, p⟩ := hp'.at_ hn1
      have LV : Hid (∀ w', Below w.heap.size w w' → Calls Try.prog 17 #[.agg #[.int .i64 W', .int .i64 H', .slice (some ⟨b, off, none⟩) n cap, .slice B m capS]] w' fun e w'' => ∃ v, e = .returned (.tuple #[v, .int .i64 0]) ∧ ∃ x : Later w', w'' = x.val ∧ OwnI w'' w'.heap.size v (tab n L)) := fun w' h => Levels_tab hL cap capS _ B w' (hp'.later ⟨w', h⟩) (hq'.later ⟨w', h⟩)
      have NR : Hid (∀ (w' : World) (i : Nat), i < n → GivesI 49 #[.int .i64 W', .int .i64 H', .int .i64 i] w' (natN (near4 W' H' i))) := fun w' i hi => rnear_any W' H' i w' hW hW2 hH (hnn ▸ hi)
      have LT : Hid (∀ i j, i < n → j ∈ near4 W' H' i → j < n) := fun i j hi hj => by rw [hnn] at hi ⊢; exact near_lt hj hi
      obtain ⟨i, hi, ei⟩ : ∃ i : Nat, i < n ∧ u1 % (n : Int) = i := ⟨(u1 % (n : Int)).toNat, by have := Int.emod_lt_of_pos u1 (show (0 : Int) < n by omega); have := Int.emod_nonneg u1 (show (n : Int) ≠ 0 by omega); omega, by have := Int.emod_nonneg u1 (show (n : Int) ≠ 0 by omega); omega⟩
      have hfi := hf i hi
      obtain ⟨d, hd, d0, d1⟩ : ∃ d, min u2 (1000 - f i) = d ∧ 0 ≤ d ∧ d ≤ 1000 - f i := ⟨_, rfl, by omega, by omega⟩
      obtain ⟨M, hM⟩ := fen_levels (lift_valid hv d0 d1)
      have RA : Hid (∀ w', Below w.heap.size w w' → Calls Try.prog 39 #[.agg #[.int .i64 W', .int .i64 H', .slice (some ⟨b, off, none⟩) n cap, .slice B m capS], .int .i64 i, .int .i64 d] w' fun e w'' => ∃ v1 v2, e = .returned (.tuple #[.agg #[.int .i64 W', .int .i64 H', v1, v2], .int .i64 0]) ∧ ∃ x : Later w', w'' = x.val ∧ OwnI w'' w'.heap.size v1 (tab n (lifted f i d)) ∧ OwnS w'' w'.heap.size v2 (prs m a s)) := fun w' h => raise_ok W' H' n cap m capS _ B f a s i d w' (hp'.later ⟨w', h⟩) (hq'.later ⟨w', h⟩) hv hi d0 d1
      have LM : Hid (∀ w' A2 c2 B2 c3, IsInts w' A2 n (lifted f i d) → IsSlu w' B2 m a s → Calls Try.prog 17 #[.agg #[.int .i64 W', .int .i64 H', .slice A2 n c2, .slice B2 m c3]] w' fun e w'' => ∃ v, e = .returned (.tuple #[v, .int .i64 0]) ∧ ∃ x : Later w', w'' = x.val ∧ OwnI w'' w'.heap.size v (tab n M)) := fun w' A2 c2 B2 c3 h1 h2 => Levels_tab hM c2 c3 A2 B2 w' h1 h2
      have ST : Hid (∀ i j, i < n → j ∈ near4 W' H' i → L j < L i → L i = f i) := fun i j hi hj h => hL.step hi hj h
      have LF : Hid (∀ i, i < n → 0 ≤ f i ∧ f i ≤ L i ∧ L i ≤ 1000) := fun i hi => by have := hf i hi; have := hL.high i hi; omega
      have LLM : Hid (∀ k, k < n → L k ≤ M k ∧ M k ≤ L k + d) := fun k hk => lift_low d0 hL hM hk
      have PP := Lib.hid p
      have BX : Hid (∀ V, Below (w.alloc (.cells #[.int .i64 W', .int .i64 H', .slice (some ⟨b, off, none⟩) n cap, .slice B m capS] 25)).heap.size (w.alloc (.cells #[.int .i64 W', .int .i64 H', .slice (some ⟨b, off, none⟩) n cap, .slice B m capS] 25)) V → V.cell? ⟨w.heap.size, 0, none⟩ = some (.int .i64 W') ∧ V.cell? ⟨w.heap.size, 1, none⟩ = some (.int .i64 H') ∧ V.cell? ⟨w.heap.size, 2, none⟩ = some (.slice (some ⟨b, off, none⟩) n cap) ∧ V.cell? ⟨w.heap.size, 3, none⟩ = some (.slice B m capS) ∧ w.heap.size < V.heap.size) := fun V h =>
        ⟨(Later.cell ⟨V, h⟩ _ _ (by simp)).trans (cell_of_heap (World.alloc_heap_new _ _) 0 _ rfl), (Later.cell ⟨V, h⟩ _ _ (by simp)).trans (cell_of_heap (World.alloc_heap_new _ _) 1 _ rfl), (Later.cell ⟨V, h⟩ _ _ (by simp)).trans (cell_of_heap (World.alloc_heap_new _ _) 2 _ rfl), (Later.cell ⟨V, h⟩ _ _ (by simp)).trans (cell_of_heap (World.alloc_heap_new _ _) 3 _ rfl), by have := h.size; simp at this; omega⟩
      clear hv hp' hq' hL hM hf hnn p
      go_enter Try.func10, Try.ntmps10
      go_wp2_with (first
        | (go_at_call 20; with_reducible refine Calls.mono (Gives.calls (RV.out _ (by repeat (first | exact Below.refl _ _ | (with_reducible assumption) | apply below_later | apply below_alloc | apply below_drew | apply below_drewN)))) ?_; rintro e w1 ⟨rfl, z5, rfl⟩; obtain ⟨b50, b51, b52, b53, b54⟩ := BX.out z5.val (by repeat (first | exact Below.refl _ _ | (with_reducible assumption) | apply below_later | apply below_alloc | apply below_drew | apply below_drewN)))
        | (go_at_call 17; with_reducible refine Calls.mono (LV.out _ (by repeat (first | exact Below.refl _ _ | (with_reducible assumption) | apply below_later | apply below_alloc | apply below_drew | apply below_drewN))) ?_; rintro e w1 ⟨v1, rfl, z2, rfl, h1⟩; obtain ⟨A1, cap1, rfl⟩ := h1.shape_n (n := n) (tab_len _ _); have HI1 := Lib.hid (h1.tab_ints (by omega)); clear h1; obtain ⟨b20, b21, b22, b23, b24⟩ := BX.out z2.val (by repeat (first | exact Below.refl _ _ | (with_reducible assumption) | apply below_later | apply below_alloc | apply below_drew | apply below_drewN))))
      have BX2 : Hid (∀ V, Below z2.val.heap.size z2.val V → V.cell? ⟨w.heap.size, 0, none⟩ = some (.int .i64 W') ∧ V.cell? ⟨w.heap.size, 1, none⟩ = some (.int .i64 H') ∧ V.cell? ⟨w.heap.size, 2, none⟩ = some (.slice (some ⟨b, off, none⟩) n cap) ∧ V.cell? ⟨w.heap.size, 3, none⟩ = some (.slice B m capS) ∧ w.heap.size < V.heap.size) := fun V h => BX.out V (below_more (by repeat (first | exact Below.refl _ _ | (with_reducible assumption) | apply below_later | apply below_alloc | apply below_drew | apply below_drewN)) h)
      have HB2 : Hid (Below w.heap.size w z2.val) := by show Below _ _ _; repeat (first | exact Below.refl _ _ | (with_reducible assumption) | apply below_later | apply below_alloc | apply below_drew | apply below_drewN)
      clear BX b50 b51 b52 b53 b54 b20 b21 b22 b23 b24 LV RV
      generalize z2.val = V2 at *
      have PP2 := Lib.hid (PP.out.later ⟨V2, HB2.out⟩)
      go_loopw [9] (fun u wr => ∃ k : Nat, k ≤ n ∧ u = .int .i64 k ∧ ∃ x : Later V2, wr = x.val) (fun u _ => n - (intOf u).toNat)
      case atStart => exact ⟨0, by omega, rfl, ⟨_, Below.refl _ _⟩, rfl⟩
      case round =>
        obtain ⟨k, hk, rfl, x, rfl⟩ := hrel
        by_cases hlt : k < n
        · obtain ⟨nl, hnl⟩ : ∃ nl, (near4 W' H' k).length = nl := ⟨_, rfl⟩
          have HNL : Hid ((natN (near4 W' H' k)).length = nl) := by show _ = _; rw [← hnl]; simp [natN]
          have nl4 : nl ≤ 4 := hnl ▸ near_len W' H' k
          have HNL2 := Lib.hid hnl
          clear hnl
          obtain ⟨c0, c1, c2, c3, c4⟩ := BX2.out x.val x.ok
          go_wp2_with (go_at_call 49; with_reducible refine Calls.mono (GivesI.calls (NR.out _ k hlt)) ?_; rintro e w2 ⟨vn, rfl, yn, rfl, hon⟩; obtain ⟨AN, capN, rfl⟩ := hon.shape_n (n := nl) HNL.out; have HON := Lib.hid (hon.ints (by rw [HNL.out]; omega)).2; clear hon)
          have HY : Hid (Below V2.heap.size V2 yn.val) := by show Below _ _ _; repeat (first | exact Below.refl _ _ | (with_reducible assumption) | apply below_later | apply below_alloc | apply below_drew | apply below_drewN)
          clear c0 c1 c2 c3 c4
          generalize yn.val = VY at *
          go_loopw [11] (fun u wr => ∃ q : Nat, q ≤ nl ∧ u = .int .i64 q ∧ ∃ y : Later VY, wr = y.val) (fun u _ => nl - (intOf u).toNat)
          case atStart => exact ⟨0, by omega, rfl, ⟨_, Below.refl _ _⟩, rfl⟩
          case round =>
            obtain ⟨q, hq, rfl, y, rfl⟩ := hrel
            have hby : Below V2.heap.size V2 y.val := below_more HY.out y.ok
            by_cases hql : q < nl
            · obtain ⟨gb, gf, hAN, pN⟩ := (HON.out.later y).at_ (by omega)
              subst hAN
              have cN := pN.at_ q hql
              have lN := pN.lt
              obtain ⟨j, hj⟩ : ∃ j, (near4 W' H' k)[q]? = some j := ⟨_, List.getElem?_eq_getElem (by rw [HNL2.out]; exact hql)⟩
              have ej : (natN (near4 W' H' k)).getD q 0 = (j : Int) := by rw [List.getD_eq_getElem?_getD, natN, List.getElem?_map, hj]; rfl
              rw [ej] at cN
              have hjn : j < n := LT.out k j hlt (List.mem_of_getElem? hj)
              have hst := ST.out k j hlt (List.mem_of_getElem? hj)
              obtain ⟨g1, f1, hA1, p1⟩ := (show IsInts y.val A1 n L from HI1.out.later ⟨y.val, hby⟩).at_ (by omega)
              subst hA1
              have ck := p1.at_ k hlt
              have cj := p1.at_ j hjn
              have l1 := p1.lt
              have p2 : Ints y.val b off n f := PP2.out.later ⟨y.val, hby⟩
              have cf := p2.at_ k hlt
              have lf := p2.lt
              obtain ⟨c0, c1, c2, c3, c4⟩ := BX2.out y.val hby
              have hlf := LF.out k hlt
              have d5 : decide (L k < f k) = false := decide_eq_false (by omega)
              have HBY := Lib.hid hby
              clear pN p1 p2 ej hj hby
              by_cases hlj : L j < L k
              · have e1 := hst hlj
                have d6 : decide (L j < L k) = true := decide_eq_true hlj
                have d7 : (L k != f k) = false := by rw [e1]; simp
                clear hst hlj e1 hlf
                generalize L k = lk at *
                generalize L j = lj at *
                generalize f k = fk at *
                go_wp2_with fail
                refine wp_region_later (by kernel_rfl) (by kernel_rfl) ?_
                repeat (go_big_quiet_step ((fail)))
                refine wpQuiet_nil ?_
                intro z9
                go_wp2
                go_roundw
                case rel => exact ⟨q + 1, by omega, by go_num, later_of (by repeat (first | exact Below.refl _ _ | (with_reducible assumption) | apply below_later | apply below_alloc | apply below_drew | apply below_drewN))⟩
                case measure => simp [intOf]; omega
              · have d6 : decide (L j < L k) = false := decide_eq_false hlj
                clear hst hlj hlf
                generalize L k = lk at *
                generalize L j = lj at *
                generalize f k = fk at *
                go_wp2_with fail
                refine wp_region_later (by kernel_rfl) (by kernel_rfl) ?_
                repeat (go_big_quiet_step ((fail)))
                refine wpQuiet_nil ?_
                intro z9
                go_wp2
                go_roundw
                case rel => exact ⟨q + 1, by omega, by go_num, later_of (by repeat (first | exact Below.refl _ _ | (with_reducible assumption) | apply below_later | apply below_alloc | apply below_drew | apply below_drewN))⟩
                case measure => simp [intOf]; omega
            · obtain rfl : q = nl := by omega
              go_wp2_with fail
              go_roundw
              case rel => exact ⟨k + 1, by omega, by go_num, ⟨_, below_more HY.out y.ok⟩, rfl⟩
              case measure => simp [intOf]; omega
        · obtain rfl : k = n := by omega
          obtain ⟨c0, c1, c2, c3, c4⟩ := BX2.out x.val x.ok
          have p2 := PP2.out.later x
          have cf := p2.at_ i hi
          have lf := p2.lt
          have hbx := Lib.hid (below_more HB2.out x.ok)
          have xx := x
          clear p2
          go_wp2_with (first
            | (go_at_call 39; with_reducible refine Calls.mono (RA.out _ hbx.out) ?_; rintro e w3 ⟨v1, v2, rfl, z3, rfl, h1, h2⟩; obtain ⟨A2, c2', rfl⟩ := h1.shape_n (n := k) (tab_len _ _); have HI2 := Lib.hid (h1.tab_ints (by omega)); obtain ⟨B2, c3', rfl, hq2⟩ := h2.slu (by omega); have HQ2 := Lib.hid hq2; clear h1 h2 hq2)
            | (go_at_call 17; with_reducible refine Calls.mono (LM.out _ _ _ _ _ (HI2.out.later ⟨_, by repeat (first | exact Below.refl _ _ | (with_reducible assumption) | apply below_later | apply below_alloc | apply below_drew | apply below_drewN)⟩) (HQ2.out.later ⟨_, by repeat (first | exact Below.refl _ _ | (with_reducible assumption) | apply below_later | apply below_alloc | apply below_drew | apply below_drewN)⟩)) ?_; rintro e w4 ⟨v4, rfl, z4, rfl, h4⟩; obtain ⟨A4, c4', rfl⟩ := h4.shape_n (n := k) (tab_len _ _); have HI4 := Lib.hid (h4.tab_ints (by omega)); clear h4))
          have HB4 : Hid (Below x.val.heap.size x.val z4.val) := by show Below _ _ _; repeat (first | exact Below.refl _ _ | (with_reducible assumption) | apply below_later | apply below_alloc | apply below_drew | apply below_drewN)
          have HI1' := Lib.hid ((HI1.out.later x).later ⟨z4.val, HB4.out⟩)
          have HBW := Lib.hid (below_more hbx.out HB4.out)
          generalize z4.val = V4 at *
          go_loopw [17] (fun u wr => ∃ q : Nat, q ≤ k ∧ u = .int .i64 q ∧ ∃ y : Later V4, wr = y.val) (fun u _ => k - (intOf u).toNat)
          case atStart => exact ⟨0, by omega, rfl, ⟨_, Below.refl _ _⟩, rfl⟩
          case round =>
            obtain ⟨q, hq, rfl, y, rfl⟩ := hrel
            by_cases hql : q < k
            · obtain ⟨g1, f1, hA1, p1⟩ := (HI1'.out.later y).at_ (by omega)
              obtain ⟨g4, f4, hA4, p4⟩ := (HI4.out.later y).at_ (by omega)
              subst hA1 hA4
              have ck := p1.at_ q hql
              have cm := p4.at_ q hql
              have l1 := p1.lt
              have l4 := p4.lt
              have hlm := LLM.out q hql
              have hlf := LF.out q hql
              have d5 : decide (M q < L q) = false := decide_eq_false (by omega)
              have d6 : decide (L q + d < M q) = false := decide_eq_false (by omega)
              have b00 : 0 ≤ L q + d := by omega
              have b01 : L q + d ≤ 2000 := by omega
              clear p1 p4 hlm hlf
              generalize L q = lk at *
              generalize M q = mk at *
              go_wp2_with fail
              refine wp_region_later (by kernel_rfl) (by kernel_rfl) ?_
              repeat (go_big_quiet_step ((fail)))
              refine wpQuiet_nil ?_
              intro z9
              go_wp2
              go_roundw
              case rel => exact ⟨q + 1, by omega, by go_num, later_of (by repeat (first | exact Below.refl _ _ | (with_reducible assumption) | apply below_later | apply below_alloc | apply below_drew | apply below_drewN))⟩
              case measure => simp [intOf]; omega
            · obtain rfl : q = k := by omega
              go_wp2_with (go_at_call 16; (first | (with_reducible show Calls _ _ _ (Later.val _) _; with_reducible refine Calls.mono (Later.call _ (F1.out _)) ?_) | (with_reducible refine Calls.mono (Gives.calls (F1.out _)) ?_)); rintro e w1 ⟨rfl, z9, rfl⟩)
              go_ret
              exact ⟨rfl, ⟨⟨_, below_more HBW.out (by repeat (first | exact Below.refl _ _ | (with_reducible assumption) | apply below_later | apply below_alloc | apply below_drew | apply below_drewN))⟩, rfl⟩⟩
  · have q64 : decide ((64 : Int) < (n : Int)) = true := decide_eq_true (by omega)
    clear hp hq
    go_enter Try.func10, Try.ntmps10
    go_wp2_with (go_at_call 16; (first | (with_reducible show Calls _ _ _ (Later.val _) _; with_reducible refine Calls.mono (Later.call _ (F1.out _)) ?_) | (with_reducible refine Calls.mono (Gives.calls (F1.out _)) ?_)); rintro e w1 ⟨rfl, z4, rfl⟩)
    go_ret
    exact ⟨rfl, later_of (by repeat (first | exact Below.refl _ _ | (with_reducible assumption) | apply below_later | apply below_alloc | apply below_drew | apply below_drewN))⟩
end Go.Proofs.Ytihgadppndcjaaa
