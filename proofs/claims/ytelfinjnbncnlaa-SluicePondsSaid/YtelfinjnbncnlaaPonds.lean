/- sluice.Ponds: walked. -/
import Derived.Test.YtelfinjnbncnlaaReached
import Derived.Test.YtelfinjnbncnlaaPondMath
namespace Go.Proofs.Ytelfinjnbncnlaa
open Go.RowKit

set_option maxRecDepth 100000 in
set_option maxHeartbeats 1600000 in
theorem pondc_any (W H : Int) (A AL B : Option Addr) (n cap cl m capS b1 b4 b8 i k : Nat) (f L : Nat → Int) (w : World) (hi : i < n) (hp : IsInts w A n f) (hl : IsInts w AL n L)
    (g1 : w.heap[b1]? = some (.cells #[.int .i64 W, .int .i64 H, .slice A n cap, .slice B m capS] 25)) (g4 : w.cell? ⟨b4, 0, none⟩ = some (.slice AL n cl)) (l4 : b4 < w.heap.size) (g8 : w.cell? ⟨b8, 0, none⟩ = some (.int .i64 (L k))) (l8 : b8 < w.heap.size) :
    Gives Try.prog 37 #[.int .i64 i, .pointer (some ⟨b4, 0, none⟩), .pointer (some ⟨b8, 0, none⟩), .pointer (some ⟨b1, 0, none⟩)] w (.bool (decide (L i = L k ∧ f i < L k))) := by
  obtain ⟨ga, oa, rfl, pa⟩ := hp.at_ (by omega)
  obtain ⟨gl, ol, rfl, pl⟩ := hl.at_ (by omega)
  have ca := pa.at_ i hi
  have la := pa.lt
  have cL := pl.at_ i hi
  have lL := pl.lt
  have m2 := cell_of_heap g1 2 _ rfl
  have l1 := get_lt g1
  clear pa pl hp hl g1
  by_cases e : L i = L k
  · by_cases h : f i < L k
    · have d1 : (L i == L k) = true := by simpa using e
      have d2 : decide (f i < L k) = true := decide_eq_true h
      have E : Hid (decide (L i = L k ∧ f i < L k) = true) := decide_eq_true ⟨e, h⟩
      rw [E.out]
      clear e h E
      generalize L i = li at *
      generalize L k = lk at *
      generalize f i = fi at *
      go_enter Try.func37, Try.ntmps37
      go_wp2_with fail
      refine wp_region_later (by kernel_rfl) (by kernel_rfl) ?_
      repeat (go_big_quiet_step ((fail)))
      refine wpQuiet_nil ?_
      intro y
      go_wp2
      go_ret
      exact ⟨rfl, later_of (by repeat (first | exact Below.refl _ _ | (with_reducible assumption) | apply below_later | apply below_alloc | apply below_drew | apply below_drewN))⟩
    · have d1 : (L i == L k) = true := by simpa using e
      have d2 : decide (f i < L k) = false := decide_eq_false h
      have E : Hid (decide (L i = L k ∧ f i < L k) = false) := decide_eq_false fun q => h q.2
      rw [E.out]
      clear e h E
      generalize L i = li at *
      generalize L k = lk at *
      generalize f i = fi at *
      go_enter Try.func37, Try.ntmps37
      go_wp2_with fail
      refine wp_region_later (by kernel_rfl) (by kernel_rfl) ?_
      repeat (go_big_quiet_step ((fail)))
      refine wpQuiet_nil ?_
      intro y
      go_wp2
      go_ret
      exact ⟨rfl, later_of (by repeat (first | exact Below.refl _ _ | (with_reducible assumption) | apply below_later | apply below_alloc | apply below_drew | apply below_drewN))⟩
  · have d1 : (L i == L k) = false := by simpa using e
    have E : Hid (decide (L i = L k ∧ f i < L k) = false) := decide_eq_false fun q => e q.1
    rw [E.out]
    clear e E
    generalize L i = li at *
    generalize L k = lk at *
    generalize f i = fi at *
    go_enter Try.func37, Try.ntmps37
    go_wp2_with fail
    refine wp_region_later (by kernel_rfl) (by kernel_rfl) ?_
    repeat (go_big_quiet_step ((fail)))
    refine wpQuiet_nil ?_
    intro y
    go_wp2
    go_ret
    exact ⟨rfl, later_of (by repeat (first | exact Below.refl _ _ | (with_reducible assumption) | apply below_later | apply below_alloc | apply below_drew | apply below_drewN))⟩
/-- What Ponds keeps in memory: its numbers. -/
def nums (n : Nat) (R : Nat → Nat → Bool) (f L : Nat → Int) (k : Nat) : List Int := tab n (pondsTo R f L k).1
/-- .. of which the squares of a list have got a number. -/
def painted (n : Nat) (p : Nat → Int) (a : Int) (l : List Nat) : List Int := tab n fun i => if i ∈ l then a else p i
theorem painted_len (n : Nat) (p : Nat → Int) (a : Int) (l : List Nat) : (painted n p a l).length = n := tab_len _ _
theorem painted_nil (n : Nat) (p : Nat → Int) (a : Int) : painted n p a [] = tab n p := list_eq (n := n) (tab_len _ _) (tab_len _ _) fun i hi => by
  unfold painted; rw [tab_get hi, tab_get hi, if_neg (by simp)]
theorem painted_snoc {n : Nat} {p : Nat → Int} {a : Int} {l : List Nat} {b : Nat} (hb : b < n) : (painted n p a l).set b a = painted n p a (l ++ [b]) := list_eq (n := n) (by rw [List.length_set]; exact tab_len _ _) (tab_len _ _) fun i hi => by
  rw [getD_put (by rw [painted_len]; exact hb)]
  unfold painted
  rw [tab_get hi, tab_get hi]
  by_cases c : i = b
  · subst c; rw [if_pos rfl, if_pos (by simp)]
  · rw [if_neg c]
    have e : (i ∈ l ++ [b]) ↔ i ∈ l := by simp [c]
    simp only [e]
theorem painted_all {n : Nat} {p : Nat → Int} {a : Int} {S : Nat → Bool} : painted n p a (filt S n) = tab n fun i => if S i = true then a else p i := list_eq (n := n) (tab_len _ _) (tab_len _ _) fun i hi => by
  unfold painted
  rw [tab_get hi, tab_get hi]
  have e : i ∈ filt S n ↔ S i = true := by unfold filt; rw [List.mem_filter, List.mem_range]; simp [hi]
  simp only [e]
theorem IsInts.eq {w : World} {A : Option Addr} {n : Nat} {f g : Nat → Int} (h : IsInts w A n f) (e : ∀ i, i < n → f i = g i) : IsInts w A n g :=
  ⟨h.small, fun h0 => let ⟨b, off, e1, hp⟩ := h.at_ h0; ⟨b, off, e1, hp.lt, fun i hi => e i hi ▸ hp.at_ i hi⟩⟩
theorem own_tab {w : World} {base n c : Nat} {A : Option Addr} {L : Nat → Int} (h : OwnI w base (.slice A n c) (tab n L)) (hn : n ≤ 256) : IsInts w A n L := (h.ints (by rw [tab_len]; omega)).2.eq fun _ hi => tab_get hi
theorem box_kept {w : World} {o : Obj} {z : Later (w.alloc o)} (y : Later z.val) : y.val.heap[w.heap.size]? = some o :=
  (y.ok.block _ (by have hz := z.size; simp only [World.size_alloc] at hz; omega)).trans ((z.ok.block _ (by simp only [World.size_alloc]; omega)).trans (World.alloc_heap_new _ _))
theorem nums_zero {n : Nat} {R : Nat → Nat → Bool} {f L : Nat → Int} : List.replicate n (-1) = nums n R f L 0 := list_eq (n := n) (by simp) (tab_len _ _) fun i hi => by
  unfold nums
  rw [tab_get hi, List.getD_eq_getElem?_getD]
  simp [hi, pondsTo]
theorem nums_get {n : Nat} {R : Nat → Nat → Bool} {f L : Nat → Int} {k i : Nat} (hi : i < n) : (nums n R f L k).getD i 0 = (pondsTo R f L k).1 i := tab_get hi
theorem nums_len {n : Nat} {R : Nat → Nat → Bool} {f L : Nat → Int} {k : Nat} : (nums n R f L k).length = n := tab_len _ _
theorem nums_same {n : Nat} {R : Nat → Nat → Bool} {f L : Nat → Int} {k : Nat} (h : f k = L k ∨ (pondsTo R f L k).1 k ≠ -1) : pondsTo R f L (k + 1) = pondsTo R f L k := if_pos h
theorem nums_same2 {n : Nat} {R : Nat → Nat → Bool} {f L : Nat → Int} {k : Nat} (h : f k = L k ∨ (pondsTo R f L k).1 k ≠ -1) : (pondsTo R f L (k + 1)).2 = (pondsTo R f L k).2 ∧ nums n R f L (k + 1) = nums n R f L k := by
  unfold nums
  rw [nums_same (n := 0) h]
  exact ⟨rfl, rfl⟩
theorem nums_new {n : Nat} {R : Nat → Nat → Bool} {f L : Nat → Int} {k : Nat} {S : Nat → Bool} (h : ¬ (f k = L k ∨ (pondsTo R f L k).1 k ≠ -1)) (hS : ∀ i, i < n → (S i = true ↔ R k i = true)) : nums n R f L (k + 1) = tab n fun i => if S i = true then ((pondsTo R f L k).2 : Int) else (pondsTo R f L k).1 i := list_eq (n := n) (tab_len _ _) (tab_len _ _) fun i hi => by
  have e : pondsTo R f L (k + 1) = (fun i => if R k i = true then ((pondsTo R f L k).2 : Int) else (pondsTo R f L k).1 i, (pondsTo R f L k).2 + 1) := if_neg h
  unfold nums
  rw [tab_get hi, tab_get hi, e]
  simp only [hS i hi]
theorem nums_count {R : Nat → Nat → Bool} {f L : Nat → Int} {k : Nat} (h : ¬ (f k = L k ∨ (pondsTo R f L k).1 k ≠ -1)) : (pondsTo R f L (k + 1)).2 = (pondsTo R f L k).2 + 1 := by
  have e : pondsTo R f L (k + 1) = (fun i => if R k i = true then ((pondsTo R f L k).2 : Int) else (pondsTo R f L k).1 i, (pondsTo R f L k).2 + 1) := if_neg h
  rw [e]
theorem filt_lt {S : Nat → Bool} {n i : Nat} (h : i ∈ filt S n) : i < n := by unfold filt at h; rw [List.mem_filter, List.mem_range] at h; exact h.1
set_option maxRecDepth 100000 in
set_option maxHeartbeats 3200000 in
theorem ponds_ok {W H n m : Nat} {f a s L : Nat → Int} (h : FenL W H n m f a s L) {R : Nat → Nat → Bool} (hR : Hangs (near4 W H) f L R) (cap capS : Nat) (A B : Option Addr) (w : World) (hp : IsInts w A n f) (hq : IsSlu w B m a s) :
    Calls Try.prog 15 #[.agg #[.int .i64 W, .int .i64 H, .slice A n cap, .slice B m capS]] w (PostLD w (nums n R f L n)) := by
  have V : Hid (∀ w', Below w.heap.size w w' → Gives Try.prog 23 #[.agg #[.int .i64 W, .int .i64 H, .slice A n cap, .slice B m capS]] w' (.bool true)) := fun w' hb => h.valid ▸ Valid_any W H A B n cap m capS f a s w' (hp.later ⟨w', hb⟩) (hq.later ⟨w', hb⟩)
  have LV : Hid (∀ w', Below w.heap.size w w' → GivesI 25 #[.agg #[.int .i64 W, .int .i64 H, .slice A n cap, .slice B m capS]] w' (tab n L)) := fun w' hb => levelsOf_tab h cap capS A B w' (hp.later ⟨w', hb⟩) (hq.later ⟨w', hb⟩)
  obtain ⟨hW, hW2, hH1, hH, hn, hn1, hn2, hf, _⟩ := h.facts
  have hx : ∀ i j, i < n → j ∈ near4 W H i → j < n := fun i j hi hj => by rw [hn] at hi ⊢; exact near_lt hj hi
  have hs : ∀ i j, i < n → j ∈ near4 W H i → i ∈ near4 W H j := fun i j hi hj => near_flip (hn ▸ hi) hj
  have PT : Hid (∀ k, k ≤ n → Ponds n (near4 W H) f L k (pondsTo R f L k).1 (pondsTo R f L k).2) := ponds_to hR (fun i hi => (h.high i hi).1) hx hs
  have hmul : (W : Int) * (H : Int) = (n : Int) := by rw [hn, Int.natCast_mul]
  have hmb : (W : Int) * (H : Int) ≤ 256 := by omega
  have hm0 : 0 ≤ (W : Int) * (H : Int) := by omega
  have RP : Hid (∀ (w : World) (g0 : Nat), w.cell? ⟨g0, 0, none⟩ = some (.int .i64 (-1)) → Calls Try.prog 36 #[.slice (some ⟨g0, 0, none⟩) 1 1, .int .i64 ((W : Int) * (H : Int))] w fun e w' => ∃ g, e = .returned (.slice (some ⟨g, 0, none⟩) n n) ∧ g = w.heap.size ∧ ∃ y : Later w, w' = y.val ∧ OwnI w' w.heap.size (.slice (some ⟨g, 0, none⟩) n n) (List.replicate n (-1))) := fun w g0 h => by
    rw [hmul]; exact repeat_any g0 0 1 n (-1) w hn1 (by omega) h
  have RC : Hid (∀ (w' : World) (AL : Option Addr) (cl b1 b4 b8 k : Nat), k < n → Below w.heap.size w w' → IsInts w' AL n L → w'.heap[b1]? = some (.cells #[.int .i64 W, .int .i64 H, .slice A n cap, .slice B m capS] 25) → w'.cell? ⟨b4, 0, none⟩ = some (.slice AL n cl) → b4 < w'.heap.size → w'.cell? ⟨b8, 0, none⟩ = some (.int .i64 (L k)) → b8 < w'.heap.size → Calls Try.prog 26 #[.agg #[.int .i64 W, .int .i64 H, .slice A n cap, .slice B m capS], .int .i64 k, .func (.func 37) #[] #[.pointer (some ⟨b4, 0, none⟩), .pointer (some ⟨b8, 0, none⟩), .pointer (some ⟨b1, 0, none⟩)]] w' fun e w'' => ∃ v, ∃ S : Nat → Bool, e = .returned v ∧ ∃ x : Later w', w'' = x.val ∧ OwnI w'' w'.heap.size v (natN (filt S n)) ∧ ∀ i, i < n → (S i = true ↔ Walks (near4 W H) (fun i => decide (L i = L k ∧ f i < L k)) [k] i)) := fun w' AL cl b1 b4 b8 k hk hb hl g1 g4 l4 g8 l8 =>
    reached_pond W H n cap m capS k A B _ _ _ _ w' hW hW2 hH1 hH hn hk fun V hV i hi =>
      pondc_any W H A AL B n cap cl m capS b1 b4 b8 i k f L V hi (hp.later ⟨V, below_more hb hV⟩) (hl.later ⟨V, hV⟩) ((hV.block _ (get_lt g1)).trans g1) ((Later.cell ⟨V, hV⟩ b4 0 l4).trans g4) (Nat.lt_of_lt_of_le l4 hV.size) ((Later.cell ⟨V, hV⟩ b8 0 l8).trans g8) (Nat.lt_of_lt_of_le l8 hV.size)
  have HP := Lib.hid hp
  have HR := Lib.hid hR
  clear hp hq hf h hn hx hs hR hmul
  go_enter Try.func15, Try.ntmps15
  go_wp2_with (first
    | (go_at_call 23; (first | (with_reducible show Calls _ _ _ (Later.val _) _; with_reducible refine Calls.mono (Later.call _ (V.out _ (by repeat (first | exact Below.refl _ _ | (with_reducible assumption) | apply below_later | apply below_alloc | apply below_drew | apply below_drewN)))) ?_) | (with_reducible refine Calls.mono (Gives.calls (V.out _ (by repeat (first | exact Below.refl _ _ | (with_reducible assumption) | apply below_later | apply below_alloc | apply below_drew | apply below_drewN)))) ?_)); rintro e w1 ⟨rfl, z, rfl⟩)
    | (go_at_call 25; with_reducible refine Calls.mono (GivesI.calls (LV.out _ (by repeat (first | exact Below.refl _ _ | (with_reducible assumption) | apply below_later | apply below_alloc | apply below_drew | apply below_drewN)))) ?_; rintro e w1 ⟨v, rfl, y, rfl, ho⟩; obtain ⟨AL, cl, rfl⟩ := ho.shape_n (n := n) (tab_len _ _); have HI := Lib.hid (own_tab ho hn2); have M0 := box_kept y; have lM := get_lt M0; have m0 := cell_of_heap M0 0 _ rfl; have m1 := cell_of_heap M0 1 _ rfl; have HY := Lib.hid (show Below w.heap.size w y.val by repeat (first | exact Below.refl _ _ | (with_reducible assumption) | apply below_later | apply below_alloc | apply below_drew | apply below_drewN)); clear ho)
    | (go_at_call 36; refine Calls.mono (RP.out _ _ (cell_of_heap (box_two _ _ _) 0 _ rfl)) ?_; rintro e w1 ⟨g, rfl, hg, x, rfl, ho⟩))
  have VBE : Hid (∀ V, Below ((y.val.alloc (.cells #[.slice AL n cl] 22)).alloc (.cells #[.int .i64 (-1)] 3)).heap.size ((y.val.alloc (.cells #[.slice AL n cl] 22)).alloc (.cells #[.int .i64 (-1)] 3)) V → V.heap[w.heap.size]? = some (.cells #[.int .i64 W, .int .i64 H, .slice A n cap, .slice B m capS] 25) ∧ V.heap[y.val.heap.size]? = some (.cells #[.slice AL n cl] 22)) := fun V h =>
    ⟨(h.block w.heap.size (by simp only [World.size_alloc]; omega)).trans ((Below.heap_alloc _ _ _ (by simp; omega)).trans ((Below.heap_alloc _ _ _ (by omega)).trans M0)), (h.block y.val.heap.size (by simp only [World.size_alloc]; omega)).trans ((Below.heap_alloc _ _ _ (by simp)).trans (World.alloc_heap_new _ _))⟩
  have HB : Hid (Below w.heap.size w ((y.val.alloc (.cells #[.slice AL n cl] 22)).alloc (.cells #[.int .i64 (-1)] 3))) := ((HY.out.alloc HY.out.size _).alloc (by have := HY.out.size; simp only [World.size_alloc]; omega) _)
  have HI2 : Hid (IsInts ((y.val.alloc (.cells #[.slice AL n cl] 22)).alloc (.cells #[.int .i64 (-1)] 3)) AL n L) := HI.out.later ⟨_, ((Below.refl _ _).alloc (Nat.le_refl _) _).alloc (by simp only [World.size_alloc]; omega) _⟩
  have KC0 : Hid (KC ((y.val.alloc (.cells #[.slice AL n cl] 22)).alloc (.cells #[.int .i64 (-1)] 3)) x.val g n n (nums n R f L 0)) := ⟨x.ok, nums_zero ▸ ho⟩
  have hys := HY.out.size
  simp only [World.size_alloc] at hg
  obtain ⟨bl, hbl⟩ : ∃ bl, y.val.heap.size = bl := ⟨_, rfl⟩
  rw [hbl] at hg VBE hys lM ⊢
  obtain ⟨g', hg'⟩ : ∃ g', bl + 1 + 1 = g' := ⟨_, rfl⟩
  have eg : g = g' := by omega
  subst eg
  rw [hg']
  have ng1 : w.heap.size < bl := by omega
  have ng2 : bl < g := by omega
  have ng3 : w.heap.size ≠ g := by omega
  have ng4 : bl ≠ g := by omega
  have ng5 : w.heap.size ≠ bl := by omega
  clear ho hg hg' hbl HI HY M0 m0 m1 lM hys V LV
  generalize x.val = VX at *
  generalize (y.val.alloc (.cells #[.slice AL n cl] 22)).alloc (.cells #[.int .i64 (-1)] 3) = VB at *
  clear x y z
  go_loopw [6, 26] (fun v6 u wr => ∃ k : Nat, u = .int .i64 k ∧ k ≤ n ∧ v6 = .int .i64 ((pondsTo R f L k).2 : Nat) ∧ KC VB wr g n n (nums n R f L k)) (fun _ u _ => n - (intOf u).toNat)
  case atStart => exact ⟨0, rfl, by omega, rfl, KC0.out⟩
  case round =>
    obtain ⟨k, rfl, hk, rfl, kc⟩ := hrel
    have KC1 := Lib.hid kc
    clear kc KC0
    by_cases hlt : k < n
    · have hbv : Hid (Below VB.heap.size VB wr) := KC1.out.below
      have M4 := (VBE.out wr hbv.out).2
      have l4 := get_lt M4
      have m4 := cell_of_heap M4 0 _ rfl
      obtain ⟨bq, oq, hL, pq⟩ := (HI2.out.later ⟨wr, hbv.out⟩).at_ hn1
      subst hL
      have cq := pq.at_ k hlt
      have lq := pq.lt
      have few := (PT.out k (by omega)).few
      have lg := (own_lt KC1.out.own g rfl).2
      clear pq M4
      go_wp2_with fail
      have hbs : Hid (Below wr.heap.size wr (wr.alloc (.cells #[.int .i64 (L k)] 3))) := (Below.refl _ _).alloc (Nat.le_refl _) _
      have c8 : (wr.alloc (.cells #[.int .i64 (L k)] 3)).cell? ⟨wr.heap.size, 0, none⟩ = some (.int .i64 (L k)) := cell_of_heap (World.alloc_heap_new _ _) 0 _ rfl
      have l8 : wr.heap.size < (wr.alloc (.cells #[.int .i64 (L k)] 3)).heap.size := by simp
      have KS : Hid (KC VB (wr.alloc (.cells #[.int .i64 (L k)] 3)) g n n (nums n R f L k)) := KC1.out.later ⟨_, hbs.out⟩
      obtain ⟨b8, hb8⟩ : ∃ b8, wr.heap.size = b8 := ⟨_, rfl⟩
      rw [hb8] at c8 l8 lg ⊢
      clear hbs hbv KC1 cq lq l4 m4 hb8
      generalize wr.alloc (.cells #[.int .i64 (L k)] 3) = VS at *
      have hbv : Hid (Below VB.heap.size VB VS) := KS.out.below
      obtain ⟨M1, M4⟩ := VBE.out VS hbv.out
      have lM := get_lt M1
      have l4 := get_lt M4
      have m2 := cell_of_heap M1 2 _ rfl
      have m4 := cell_of_heap M4 0 _ rfl
      have HM1 := Lib.hid M1
      have HIL := Lib.hid (HI2.out.later ⟨VS, hbv.out⟩)
      obtain ⟨ba, oa, hA, pa⟩ := (HP.out.later ⟨VS, below_more HB.out hbv.out⟩).at_ hn1
      subst hA
      have cf := pa.at_ k hlt
      have lf := pa.lt
      obtain ⟨co, fo⟩ := KS.out.own.cell nums_len hlt
      rw [nums_get hlt] at co
      have lgS := (own_lt KS.out.own g rfl).2
      clear pa fo M1 M4
      by_cases h1 : f k = L k
      · have d1 : (f k == L k) = true := by simpa using h1
        obtain ⟨e1, e2⟩ := nums_same2 (n := n) (R := R) (.inl h1)
        have E1 := Lib.hid e1
        have E2 := Lib.hid e2
        clear e1 e2 h1
        generalize L k = lk at *
        generalize f k = fk at *
        generalize (pondsTo R f L k).1 k = pk at *
        refine wp_region_later (by kernel_rfl) (by kernel_rfl) ?_
        repeat (go_big_quiet_step ((fail)))
        refine wpQuiet_nil ?_
        intro q
        go_wp2_with fail
        go_roundw
        case rel => exact ⟨k + 1, by go_num, by omega, by rw [E1.out], by rw [E2.out]; exact KS.out.later q⟩
        case measure => simp [intOf]; omega
      · have d1 : (f k == L k) = false := by simpa using h1
        by_cases h2 : (pondsTo R f L k).1 k = -1
        · have NH := Lib.hid (show ¬ (f k = L k ∨ (pondsTo R f L k).1 k ≠ -1) by rintro (h | h); exact h1 h; exact h h2)
          rw [h2] at co
          clear h1 h2
          refine wp_region_later (by kernel_rfl) (by kernel_rfl) ?_
          repeat (go_big_quiet_step ((fail)))
          refine wpQuiet_nil ?_
          intro q
          have HQB : Hid (Below w.heap.size w q.val) := below_more (below_more HB.out hbv.out) q.ok
          have HQI : Hid (IsInts q.val (some ⟨bq, oq, none⟩) n L) := HIL.out.later q
          have HQM : Hid (q.val.heap[w.heap.size]? = some (.cells #[.int .i64 W, .int .i64 H, .slice (some ⟨ba, oa, none⟩) n cap, .slice B m capS] 25)) := (q.ok.block _ lM).trans HM1.out
          have HQ4 : Hid (q.val.cell? ⟨bl, 0, none⟩ = some (.slice (some ⟨bq, oq, none⟩) n cl)) := (q.cell bl 0 l4).trans m4
          have HQ8 : Hid (q.val.cell? ⟨b8, 0, none⟩ = some (.int .i64 (L k))) := (q.cell b8 0 l8).trans c8
          have HL4 : Hid (bl < q.val.heap.size) := Nat.lt_of_lt_of_le l4 q.size
          have HL8 : Hid (b8 < q.val.heap.size) := Nat.lt_of_lt_of_le l8 q.size
          have HLM := Nat.lt_of_lt_of_le lM q.size
          have n1 := cell_of_heap HQM.out 0 _ rfl
          have n2 := cell_of_heap HQM.out 1 _ rfl
          have n3 := cell_of_heap HQM.out 2 _ rfl
          have n4 := cell_of_heap HQM.out 3 _ rfl
          have KQ : Hid (KC VB q.val g n n (nums n R f L k)) := KS.out.later q
          clear cf lf c8 l8 lM l4 m2 m4 co lgS KS hbv HIL HM1
          generalize q.val = VQ at *
          have lgQ := (own_lt KQ.out.own g rfl).2
          go_wp2_with (go_at_call 26; with_reducible refine Calls.mono (RC.out _ _ _ _ _ _ k hlt HQB.out HQI.out HQM.out HQ4.out HL4.out HQ8.out HL8.out) ?_; rintro e w2 ⟨v, S, rfl, x, rfl, ho, hS⟩; obtain ⟨nl, hnl⟩ : ∃ nl, (natN (filt S n)).length = nl := ⟨_, rfl⟩; obtain ⟨AV, cv, rfl⟩ := ho.shape_n hnl)
          have E2 : Hid (nums n R f L (k + 1) = painted n (pondsTo R f L k).1 ((pondsTo R f L k).2 : Int) (filt S n)) := (nums_new NH.out fun i hi => (hS i hi).trans (HR.out k i).symm).trans painted_all.symm
          have E1 : Hid ((pondsTo R f L (k + 1)).2 = (pondsTo R f L k).2 + 1) := nums_count NH.out
          have KP : Hid (KC VB x.val g n n (painted n (pondsTo R f L k).1 ((pondsTo R f L k).2 : Int) ((filt S n).take 0))) := by
            show KC _ _ _ _ _ _
            rw [List.take_zero, painted_nil]
            exact KQ.out.later x
          have OW0 := Lib.hid ho
          have FL := Lib.hid (fun i (h : i ∈ filt S n) => filt_lt h)
          have HNL := Lib.hid hnl
          have nl9 : nl ≤ 256 := by
            have h := filt_len S n
            rw [← hnl]; simp only [natN, List.length_map]; omega
          clear ho hS hnl HQB HQI HQM HQ4 HQ8 HL4 HL8 NH KQ n1 n2 n3 n4
          generalize (pondsTo R f L k).1 = p at *
          generalize (pondsTo R f L k).2 = a at *
          generalize filt S n = F at *
          generalize x.val = VX2 at *
          clear S
          generalize wr = WR at *
          go_loopw [51] (fun u wr => ∃ j : Nat, u = .int .i64 j ∧ j ≤ nl ∧ KC VB wr g n n (painted n p a (F.take j)) ∧ OwnI wr VQ.heap.size (.slice AV nl cv) (natN F)) (fun u _ => nl - (intOf u).toNat)
          case atStart => exact ⟨0, rfl, by omega, KP.out, OW0.out⟩
          case round =>
            obtain ⟨j, rfl, hj, kc, ow⟩ := hrel
            have KC2 := Lib.hid kc
            have OW := Lib.hid ow
            clear kc ow KP OW0
            by_cases hjl : j < nl
            · obtain ⟨gv, ov, hAV, pv⟩ := (OW.out.ints (by rw [HNL.out]; omega)).2.at_ (by omega)
              subst hAV
              have cv := pv.at_ j hjl
              have lv := pv.lt
              obtain ⟨b, hb⟩ : ∃ b, F[j]? = some b := ⟨_, List.getElem?_eq_getElem (by have h := HNL.out; simp only [natN, List.length_map] at h; omega)⟩
              have eb : (natN F).getD j 0 = (b : Int) := by rw [List.getD_eq_getElem?_getD, natN, List.getElem?_map, hb]; rfl
              rw [eb] at cv
              have hbn : b < n := FL.out b (List.mem_of_getElem? hb)
              obtain ⟨cb, fb⟩ := KC2.out.own.cell (painted_len n p a (F.take j)) hbn
              have fbb := fb b
              have lg2 := (own_lt KC2.out.own g rfl).2
              have HSET : Hid ((painted n p a (F.take j)).set b a = painted n p a (F.take (j + 1))) := by
                show _ = _
                rw [painted_snoc hbn, List.take_add_one, hb, Option.toList_some]
              have KC3 := Lib.hid (KC2.out.put (painted_len n p a (F.take j)) b a)
              rw [HSET.out] at KC3
              have OW3 := Lib.hid (OW.out.far (p := ⟨g, b, none⟩) (u := .int .i64 a) fun t ht => by
                have := (own_lt OW.out t ht).1
                show g ≠ t
                omega)
              clear pv fb eb HSET
              go_wp2_with fail
              go_roundw
              case rel => exact ⟨j + 1, by go_num, by omega, KC3.out, OW3.out⟩
              case measure => simp [intOf]; omega
            · obtain rfl : j = nl := by omega
              have KC3 : Hid (KC VB wr g n n (nums n R f L (k + 1))) := by
                show KC _ _ _ _ _ _
                rw [E2.out]
                have e : F.take j = F := List.take_of_length_le (by have h := HNL.out; simp only [natN, List.length_map] at h; omega)
                rw [← e]
                exact KC2.out
              clear KC2 E2
              go_wp2_with fail
              go_roundw
              case rel => exact ⟨k + 1, by go_num, by omega, by rw [E1.out]; first | go_num | simp, KC3.out⟩
              case measure => simp [intOf]; omega
        · have d2 : ((pondsTo R f L k).1 k != -1) = true := by simpa using h2
          obtain ⟨e1, e2⟩ := nums_same2 (n := n) (R := R) (.inr h2)
          have E1 := Lib.hid e1
          have E2 := Lib.hid e2
          clear e1 e2 h1 h2
          generalize L k = lk at *
          generalize f k = fk at *
          generalize (pondsTo R f L k).1 k = pk at *
          refine wp_region_later (by kernel_rfl) (by kernel_rfl) ?_
          repeat (go_big_quiet_step ((fail)))
          refine wpQuiet_nil ?_
          intro q
          go_wp2_with fail
          go_roundw
          case rel => exact ⟨k + 1, by go_num, by omega, by rw [E1.out], by rw [E2.out]; exact KS.out.later q⟩
          case measure => simp [intOf]; omega
    · obtain rfl : k = n := by omega
      go_wp2_with fail
      go_ret2
      exact ⟨_, rfl, ⟨_, below_more HB.out KC1.out.below⟩, rfl, KC1.out.own.mono HB.out.size⟩
end Go.Proofs.Ytelfinjnbncnlaa
