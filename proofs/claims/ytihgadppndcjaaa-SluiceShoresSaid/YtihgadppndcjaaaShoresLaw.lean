/- SluiceShores: the walk. -/
import Derived.Test.YtihgadppndcjaaaLiftsLaw
import Derived.Test.YtihgadppndcjaaaPonds
namespace Go.Proofs.Ytihgadppndcjaaa
open Go.RowKit

/-- The ponds of a fen, and what they are. -/
theorem shore_ponds {W H n m : Nat} {f a s L : Nat → Int} (h : FenL W H n m f a s L) : ∃ P : Nat → Int,
    (∀ (cap capS : Nat) (A B : Option Addr) (w : World), IsInts w A n f → IsSlu w B m a s → Calls Try.prog 35 #[.agg #[.int .i64 W, .int .i64 H, .slice A n cap, .slice B m capS]] w (PostLD w (tab n P))) ∧
    (∀ i, i < n → P i = -1 ∨ 0 ≤ P i) ∧ (∀ i, i < n → (P i = -1 ↔ L i = f i)) ∧ (∀ i k, i < n → k < n → P i ≠ -1 → P k = P i → L k = L i) ∧ (∀ i j, i < n → j ∈ near4 W H i → P i ≠ -1 → P j ≠ P i → L i ≤ f j) := by
  obtain ⟨R, hR⟩ := hangs_there (near4 W H) f L
  obtain ⟨_, _, _, _, hn, _⟩ := h.facts
  have hx : ∀ i j, i < n → j ∈ near4 W H i → j < n := fun i j hi hj => by rw [hn] at hi ⊢; exact near_lt hj hi
  have hs : ∀ i j, i < n → j ∈ near4 W H i → i ∈ near4 W H j := fun i j hi hj => near_flip (hn ▸ hi) hj
  have q := ponds_to hR (fun i hi => (h.high i hi).1) hx hs n (Nat.le_refl n)
  refine ⟨(pondsTo R f L n).1, fun cap capS A B w hp hq => ponds_ok h hR cap capS A B w hp hq, fun i hi => ?_, fun i hi => ⟨fun e => ?_, fun e => ?_⟩, fun i k hi hk ho e => (q.one i k hi hk ho e.symm).symm, fun i j hi hj ho hno => ?_⟩
  · have := q.sgn i hi; omega
  · have h1 := (h.high i hi).1
    rcases Int.lt_or_le (f i) (L i) with c | c
    · exact absurd e (q.all i hi hi c)
    · omega
  · rcases Classical.em ((pondsTo R f L n).1 i = -1) with c | c
    · exact c
    · have := q.wet i hi c; omega
  · have hjn := hx i j hi hj
    have h1 := q.wet i hi ho
    rcases Int.lt_or_le (f j) (L i) with c | c
    · exfalso
      rcases Int.lt_trichotomy (L j) (L i) with d | d | d
      · have := h.step hi hj d; omega
      · exact hno (q.near i j hi hjn hj ho (by omega) d.symm)
      · have := h.step hjn (hs i j hi hj) d; omega
    · exact c
/-- The volume that is still to be taken off. -/
theorem shore_rest {W H n m : Nat} {f a s L : Nat → Int} (h : FenL W H n m f a s L) : ∃ V : Nat → Int, V 0 = sumN (fun i => L i - f i) n ∧ V n = 0 ∧ (∀ k, k < n → V k - (L k - f k) = V (k + 1)) ∧ ∀ k, k ≤ n → -600000 ≤ V k ∧ V k ≤ 600000 := by
  have hv := vol_low h
  have h2 : n ≤ 256 := by obtain ⟨_, _, _, _, _, _, h2, _⟩ := h.facts; exact h2
  refine ⟨fun k => sumN (fun i => L i - f i) n - sumN (fun i => L i - f i) k, by simp [sumN], by simp, fun k _ => ?_, fun k hk => ?_⟩
  · have e : sumN (fun i => L i - f i) (k + 1) = sumN (fun i => L i - f i) k + (L k - f k) := rfl
    show sumN (fun i => L i - f i) n - sumN (fun i => L i - f i) k - (L k - f k) = sumN (fun i => L i - f i) n - sumN (fun i => L i - f i) (k + 1)
    omega
  · have h1 := hv k hk
    have h3 := hv n (Nat.le_refl n)
    show -600000 ≤ _ - _ ∧ _ - _ ≤ (600000 : Int)
    omega
set_option maxRecDepth 100000 in
set_option maxHeartbeats 3200000 in
theorem shores_law (W H : Int) (A : Option Addr) (n cap : Nat) (f : Nat → Int) (B : Option Addr) (m capS : Nat) (a s : Nat → Int) (w : World) (hp : n ≤ 9223372036854775807 → IsInts w A n f) (hq : m ≤ 60 → IsSlu w B m a s) :
    Gives Try.prog 11 #[.agg #[.int .i64 W, .int .i64 H, .slice A n cap, .slice B m capS]] w (.bool true) := by
  have F1 : Hid (∀ w, Gives Try.prog 16 #[] w (.bool true)) := first_any
  by_cases h64 : n ≤ 64
  · have q64 : decide ((64 : Int) < (n : Int)) = false := decide_eq_false (by omega)
    have hp' := hp (by omega)
    obtain ⟨v, hv, RV⟩ := rvalid_all W H A B n cap m capS f a s w (by omega) hp' hq
    have RV := Lib.hid RV
    cases v
    · clear hp hq hp' hv h64
      go_enter Try.func11, Try.ntmps11
      go_wp2_with (first
        | (go_at_call 20; (first | (with_reducible show Calls _ _ _ (Later.val _) _; with_reducible refine Calls.mono (Later.call _ (RV.out _ (by repeat (first | exact Below.refl _ _ | (with_reducible assumption) | apply below_later | apply below_alloc | apply below_drew | apply below_drewN)))) ?_) | (with_reducible refine Calls.mono (Gives.calls (RV.out _ (by repeat (first | exact Below.refl _ _ | (with_reducible assumption) | apply below_later | apply below_alloc | apply below_drew | apply below_drewN)))) ?_)); rintro e w1 ⟨rfl, z1, rfl⟩)
        | (go_at_call 16; (first | (with_reducible show Calls _ _ _ (Later.val _) _; with_reducible refine Calls.mono (Later.call _ (F1.out _)) ?_) | (with_reducible refine Calls.mono (Gives.calls (F1.out _)) ?_)); rintro e w1 ⟨rfl, z4, rfl⟩))
      go_ret
      exact ⟨rfl, later_of (by repeat (first | exact Below.refl _ _ | (with_reducible assumption) | apply below_later | apply below_alloc | apply below_drew | apply below_drewN))⟩
    · obtain ⟨hm, hv⟩ := hv rfl
      have hq' := hq hm
      clear hp hq
      obtain ⟨⟨⟨a1', a2⟩, a3, a4⟩, a5x, _⟩ := valid_facts hv
      clear a5x
      obtain ⟨W', rfl⟩ : ∃ x : Nat, W = x := ⟨W.toNat, by omega⟩
      obtain ⟨H', rfl⟩ : ∃ x : Nat, H = x := ⟨H.toNat, by omega⟩
      obtain ⟨L, hL⟩ := fen_levels hv
      obtain ⟨hW, hW2, hH1, hH, hnn, hn1, hn2, hf, m1, m2, _⟩ := hL.facts
      obtain ⟨b, off, rfl, p⟩ := hp'.at_ hn1
      obtain ⟨P, po, p1, p2, p3, p4⟩ := shore_ponds hL
      obtain ⟨V, v0, vn, v1, v2⟩ := shore_rest hL
      have LV : Hid (∀ w', Below w.heap.size w w' → Calls Try.prog 17 #[.agg #[.int .i64 W', .int .i64 H', .slice (some ⟨b, off, none⟩) n cap, .slice B m capS]] w' fun e w'' => ∃ v, e = .returned (.tuple #[v, .int .i64 0]) ∧ ∃ x : Later w', w'' = x.val ∧ OwnI w'' w'.heap.size v (tab n L)) := fun w' h => Levels_tab hL cap capS _ B w' (hp'.later ⟨w', h⟩) (hq'.later ⟨w', h⟩)
      have PO : Hid (∀ w', Below w.heap.size w w' → Calls Try.prog 35 #[.agg #[.int .i64 W', .int .i64 H', .slice (some ⟨b, off, none⟩) n cap, .slice B m capS]] w' fun e w'' => ∃ v, e = .returned (.tuple #[v, .int .i64 0]) ∧ ∃ x : Later w', w'' = x.val ∧ OwnI w'' w'.heap.size v (tab n P)) := fun w' h => po cap capS _ B w' (hp'.later ⟨w', h⟩) (hq'.later ⟨w', h⟩)
      have VO : Hid (∀ w', Below w.heap.size w w' → Gives Try.prog 19 #[.agg #[.int .i64 W', .int .i64 H', .slice (some ⟨b, off, none⟩) n cap, .slice B m capS]] w' (.tuple #[.int .i64 (V 0), .int .i64 0])) := fun w' h => v0 ▸ volume_ok hL cap capS _ B w' (hp'.later ⟨w', h⟩) (hq'.later ⟨w', h⟩)
      have NR : Hid (∀ (w' : World) (i : Nat), i < n → GivesI 49 #[.int .i64 W', .int .i64 H', .int .i64 i] w' (natN (near4 W' H' i))) := fun w' i hi => rnear_any W' H' i w' hW hW2 hH (hnn ▸ hi)
      have LT : Hid (∀ i j, i < n → j ∈ near4 W' H' i → j < n) := fun i j hi hj => by rw [hnn] at hi ⊢; exact near_lt hj hi
      have LF : Hid (∀ i, i < n → 0 ≤ f i ∧ f i ≤ L i ∧ L i ≤ 1000) := fun i hi => by have := hf i hi; have := hL.high i hi; omega
      have P1 := Lib.hid p1
      have P2 := Lib.hid p2
      have P3 := Lib.hid p3
      have P4 := Lib.hid p4
      have V1 := Lib.hid v1
      have V2 := Lib.hid v2
      have VN := Lib.hid vn
      have PP := Lib.hid p
      have BX : Hid (∀ V, Below (w.alloc (.cells #[.int .i64 W', .int .i64 H', .slice (some ⟨b, off, none⟩) n cap, .slice B m capS] 25)).heap.size (w.alloc (.cells #[.int .i64 W', .int .i64 H', .slice (some ⟨b, off, none⟩) n cap, .slice B m capS] 25)) V → V.cell? ⟨w.heap.size, 0, none⟩ = some (.int .i64 W') ∧ V.cell? ⟨w.heap.size, 1, none⟩ = some (.int .i64 H') ∧ V.cell? ⟨w.heap.size, 2, none⟩ = some (.slice (some ⟨b, off, none⟩) n cap) ∧ V.cell? ⟨w.heap.size, 3, none⟩ = some (.slice B m capS) ∧ w.heap.size < V.heap.size) := fun V h =>
        ⟨(Later.cell ⟨V, h⟩ _ _ (by simp)).trans (cell_of_heap (World.alloc_heap_new _ _) 0 _ rfl), (Later.cell ⟨V, h⟩ _ _ (by simp)).trans (cell_of_heap (World.alloc_heap_new _ _) 1 _ rfl), (Later.cell ⟨V, h⟩ _ _ (by simp)).trans (cell_of_heap (World.alloc_heap_new _ _) 2 _ rfl), (Later.cell ⟨V, h⟩ _ _ (by simp)).trans (cell_of_heap (World.alloc_heap_new _ _) 3 _ rfl), by have := h.size; simp at this; omega⟩
      clear hv hp' hq' hL hf hnn p po p1 p2 p3 p4 v0 vn v1 v2
      go_enter Try.func11, Try.ntmps11
      go_wp2_with (first
        | (go_at_call 20; with_reducible refine Calls.mono (Gives.calls (RV.out _ (by repeat (first | exact Below.refl _ _ | (with_reducible assumption) | apply below_later | apply below_alloc | apply below_drew | apply below_drewN)))) ?_; rintro e w1 ⟨rfl, z5, rfl⟩; obtain ⟨b50, b51, b52, b53, b54⟩ := BX.out z5.val (by repeat (first | exact Below.refl _ _ | (with_reducible assumption) | apply below_later | apply below_alloc | apply below_drew | apply below_drewN)))
        | (go_at_call 17; with_reducible refine Calls.mono (LV.out _ (by repeat (first | exact Below.refl _ _ | (with_reducible assumption) | apply below_later | apply below_alloc | apply below_drew | apply below_drewN))) ?_; rintro e w1 ⟨v1, rfl, z2, rfl, h1⟩; obtain ⟨A1, cap1, rfl⟩ := h1.shape_n (n := n) (tab_len _ _); have HI1 := Lib.hid (h1.tab_ints (by omega)); clear h1; obtain ⟨b20, b21, b22, b23, b24⟩ := BX.out z2.val (by repeat (first | exact Below.refl _ _ | (with_reducible assumption) | apply below_later | apply below_alloc | apply below_drew | apply below_drewN)))
        | (go_at_call 35; with_reducible refine Calls.mono (PO.out _ (by repeat (first | exact Below.refl _ _ | (with_reducible assumption) | apply below_later | apply below_alloc | apply below_drew | apply below_drewN))) ?_; rintro e w1 ⟨v1, rfl, z3, rfl, h1⟩; obtain ⟨A3, cap3, rfl⟩ := h1.shape_n (n := n) (tab_len _ _); have HI3 := Lib.hid (h1.tab_ints (by omega)); clear h1; obtain ⟨b30, b31, b32, b33, b34⟩ := BX.out z3.val (by repeat (first | exact Below.refl _ _ | (with_reducible assumption) | apply below_later | apply below_alloc | apply below_drew | apply below_drewN)))
        | (go_at_call 19; with_reducible refine Calls.mono (Gives.calls (VO.out _ (by repeat (first | exact Below.refl _ _ | (with_reducible assumption) | apply below_later | apply below_alloc | apply below_drew | apply below_drewN)))) ?_; rintro e w1 ⟨rfl, z4, rfl⟩; obtain ⟨b40, b41, b42, b43, b44⟩ := BX.out z4.val (by repeat (first | exact Below.refl _ _ | (with_reducible assumption) | apply below_later | apply below_alloc | apply below_drew | apply below_drewN))))
      have BX2 : Hid (∀ V, Below z4.val.heap.size z4.val V → V.cell? ⟨w.heap.size, 0, none⟩ = some (.int .i64 W') ∧ V.cell? ⟨w.heap.size, 1, none⟩ = some (.int .i64 H') ∧ V.cell? ⟨w.heap.size, 2, none⟩ = some (.slice (some ⟨b, off, none⟩) n cap) ∧ V.cell? ⟨w.heap.size, 3, none⟩ = some (.slice B m capS) ∧ w.heap.size < V.heap.size) := fun V h => BX.out V (below_more (by repeat (first | exact Below.refl _ _ | (with_reducible assumption) | apply below_later | apply below_alloc | apply below_drew | apply below_drewN)) h)
      have HB2 : Hid (Below w.heap.size w z4.val) := by show Below _ _ _; repeat (first | exact Below.refl _ _ | (with_reducible assumption) | apply below_later | apply below_alloc | apply below_drew | apply below_drewN)
      have HL2 : Hid (IsInts z4.val A1 n L) := HI1.out.later ⟨z4.val, by repeat (first | exact Below.refl _ _ | (with_reducible assumption) | apply below_later | apply below_alloc | apply below_drew | apply below_drewN)⟩
      have HP2 : Hid (IsInts z4.val A3 n P) := HI3.out.later ⟨z4.val, by repeat (first | exact Below.refl _ _ | (with_reducible assumption) | apply below_later | apply below_alloc | apply below_drew | apply below_drewN)⟩
      clear BX b50 b51 b52 b53 b54 b20 b21 b22 b23 b24 b30 b31 b32 b33 b34 b40 b41 b42 b43 b44 LV RV PO VO HI1 HI3
      generalize z4.val = V4 at *
      have PP2 := Lib.hid (PP.out.later ⟨V4, HB2.out⟩)
      go_loopw [7, 9] (fun v7 u wr => ∃ k : Nat, k ≤ n ∧ u = .int .i64 k ∧ v7 = .int .i64 (V k) ∧ ∃ x : Later V4, wr = x.val) (fun _ u _ => n - (intOf u).toNat)
      case atStart => exact ⟨0, by omega, rfl, rfl, ⟨_, Below.refl _ _⟩, rfl⟩
      case round =>
        obtain ⟨k, hk, rfl, rfl, x, rfl⟩ := hrel
        have HX : Hid (Below V4.heap.size V4 x.val) := x.ok
        have HLX : Hid (IsInts x.val A1 n L) := HL2.out.later x
        have HPX : Hid (IsInts x.val A3 n P) := HP2.out.later x
        have HFX : Hid (Ints x.val b off n f) := PP2.out.later x
        have BXX : Hid (∀ V, Below x.val.heap.size x.val V → V.cell? ⟨w.heap.size, 0, none⟩ = some (.int .i64 W') ∧ V.cell? ⟨w.heap.size, 1, none⟩ = some (.int .i64 H') ∧ V.cell? ⟨w.heap.size, 2, none⟩ = some (.slice (some ⟨b, off, none⟩) n cap) ∧ V.cell? ⟨w.heap.size, 3, none⟩ = some (.slice B m capS) ∧ w.heap.size < V.heap.size) := fun V h => BX2.out V (below_more HX.out h)
        generalize x.val = VX at *
        by_cases hlt : k < n
        · obtain ⟨c0, c1, c2, c3, c4⟩ := BXX.out VX (Below.refl _ _)
          obtain ⟨g1, f1, hA1, q1⟩ := HLX.out.at_ hn1
          obtain ⟨g3, f3, hA3, q3⟩ := HPX.out.at_ hn1
          subst hA1 hA3
          have cL := q1.at_ k hlt
          have cP := q3.at_ k hlt
          have cF := HFX.out.at_ k hlt
          have lL := q1.lt
          have lP := q3.lt
          have lF := HFX.out.lt
          have hlf := LF.out k hlt
          have hpk := P1.out k hlt
          have hdry := P2.out k hlt
          have hv0 := V1.out k hlt
          have hv1 := V2.out k hk
          have hv2 := V2.out (k + 1) hlt
          have HQ1 := Lib.hid q1
          have HQ3 := Lib.hid q3
          clear q1 q3
          by_cases hpd : P k = -1
          · have e1 := hdry.1 hpd
            have d1 : (L k == f k) = true := by simpa using e1
            have ev : V (k + 1) = V k := by omega
            have EV := Lib.hid ev
            rw [hpd] at cP
            clear hlf hpk hdry hv0 hv1 hv2 hpd e1 ev
            generalize L k = lk at *
            generalize f k = fk at *
            go_wp2_with fail
            refine wp_region_later (by kernel_rfl) (by kernel_rfl) ?_
            repeat (go_big_quiet_step ((fail)))
            refine wpQuiet_nil ?_
            intro z9
            go_wp2_with fail
            go_roundw
            case rel => exact ⟨k + 1, by omega, by go_num, by rw [EV.out], ⟨_, below_more HX.out z9.ok⟩, rfl⟩
            case measure => simp [intOf]; omega
          · have d0 : decide (P k < 0) = false := decide_eq_false (by omega)
            have d1 : (L k == f k) = false := by
              have : L k ≠ f k := fun e => hpd (hdry.2 e)
              simpa using this
            have b00 : 0 ≤ L k - f k := by omega
            have b01 : L k - f k ≤ 1000 := by omega
            have HV0 := Lib.hid hv0
            have b10 : -600000 ≤ V k - (L k - f k) := by omega
            have b11 : V k - (L k - f k) ≤ 600000 := by omega
            have w0 : IntKind.i64.wrap (L k - f k) = L k - f k := IntWalk.i64_in _ (by omega)
            have w1 : IntKind.i64.wrap (V k - (L k - f k)) = V k - (L k - f k) := IntWalk.i64_in _ (by omega)
            have HPD := Lib.hid hpd
            clear hlf hpk hdry hv0 hv1 hv2 hpd
            go_wp2_with fail
            refine wp_region_later (by kernel_rfl) (by kernel_rfl) ?_
            repeat (go_big_quiet_step ((fail)))
            refine wpQuiet_nil ?_
            intro z9
            go_wp2_with fail
            have HX9 : Hid (Below VX.heap.size VX z9.val) := z9.ok
            generalize z9.val = V9 at *
            clear c0 c1 c2 c3 c4 cL cP cF lL lP lF
            obtain ⟨c0, c1, c2, c3, c4⟩ := BXX.out V9 HX9.out
            have r1 := HQ1.out.later ⟨V9, HX9.out⟩
            have r2 := HFX.out.later ⟨V9, HX9.out⟩
            have cL := r1.at_ k hlt
            have lL := r1.lt
            have cF := r2.at_ k hlt
            have lF := r2.lt
            clear r1 r2 c0 c1 c3
            refine wp_region_later (by kernel_rfl) (by kernel_rfl) ?_
            repeat (go_big_quiet_step ((fail)))
            refine wpQuiet_nil ?_
            intro z10
            go_wp2_with fail
            rw [HV0.out]
            have HY : Hid (Below VX.heap.size VX z10.val) := below_more HX9.out z10.ok
            clear b00 b01 b10 b11 w0 w1 c2 c4 cL cF lL lF d0 d1
            generalize z10.val = VY at *
            have RL : Hid (∀ y : Later VY, ∀ i, i < n → (y.val.cell? ⟨g1, f1 + i, none⟩ = some (.int .i64 (L i)) ∧ g1 < y.val.heap.size) ∧ (y.val.cell? ⟨g3, f3 + i, none⟩ = some (.int .i64 (P i)) ∧ g3 < y.val.heap.size) ∧ (y.val.cell? ⟨b, off + i, none⟩ = some (.int .i64 (f i)) ∧ b < y.val.heap.size)) := fun y i hi => by
              have r1 := (HQ1.out.later ⟨VY, HY.out⟩).later y
              have r3 := (HQ3.out.later ⟨VY, HY.out⟩).later y
              have r2 := (HFX.out.later ⟨VY, HY.out⟩).later y
              exact ⟨⟨r1.at_ i hi, r1.lt⟩, ⟨r3.at_ i hi, r3.lt⟩, r2.at_ i hi, r2.lt⟩
            go_loopw [10] (fun u wr => ∃ q : Nat, q ≤ n ∧ u = .int .i64 q ∧ ∃ y : Later VY, wr = y.val) (fun u _ => n - (intOf u).toNat)
            case atStart => exact ⟨0, by omega, rfl, ⟨_, Below.refl _ _⟩, rfl⟩
            case round =>
              obtain ⟨q, hq, rfl, y, rfl⟩ := hrel
              by_cases hqn : q < n
              · obtain ⟨⟨cLq, lL⟩, ⟨cPq, lP⟩, _⟩ := RL.out y q hqn
                obtain ⟨⟨cLk, _⟩, ⟨cPk, _⟩, _⟩ := RL.out y k hlt
                by_cases e : P q = P k
                · have e1 : (P q == P k) = true := by simpa using e
                  have e2 : (L q != L k) = false := by
                    have := P3.out k q hlt hqn HPD.out e
                    rw [this]; simp
                  clear e
                  generalize L q = lq at *
                  generalize P q = pq at *
                  generalize L k = lk at *
                  generalize P k = pk at *
                  go_wp2_with fail
                  refine wp_region_later (by kernel_rfl) (by kernel_rfl) ?_
                  repeat (go_big_quiet_step ((fail)))
                  refine wpQuiet_nil ?_
                  intro z11
                  go_wp2_with fail
                  go_roundw
                  case rel => exact ⟨q + 1, by omega, by go_num, later_of (by repeat (first | exact Below.refl _ _ | (with_reducible assumption) | apply below_later | apply below_alloc | apply below_drew | apply below_drewN))⟩
                  case measure => simp [intOf]; omega
                · have e1 : (P q == P k) = false := by simpa using e
                  clear e
                  generalize L q = lq at *
                  generalize P q = pq at *
                  generalize L k = lk at *
                  generalize P k = pk at *
                  go_wp2_with fail
                  refine wp_region_later (by kernel_rfl) (by kernel_rfl) ?_
                  repeat (go_big_quiet_step ((fail)))
                  refine wpQuiet_nil ?_
                  intro z11
                  go_wp2_with fail
                  go_roundw
                  case rel => exact ⟨q + 1, by omega, by go_num, later_of (by repeat (first | exact Below.refl _ _ | (with_reducible assumption) | apply below_later | apply below_alloc | apply below_drew | apply below_drewN))⟩
                  case measure => simp [intOf]; omega
              · obtain rfl : n = q := by omega
                obtain ⟨nl, hnl⟩ : ∃ nl, (near4 W' H' k).length = nl := ⟨_, rfl⟩
                have HNL : Hid ((natN (near4 W' H' k)).length = nl) := by show _ = _; rw [← hnl]; simp [natN]
                have nl4 : nl ≤ 4 := hnl ▸ near_len W' H' k
                have HNL2 := Lib.hid hnl
                clear hnl
                obtain ⟨c0, c1, c2, c3, c4⟩ := BXX.out y.val (below_more HY.out y.ok)
                go_wp2_with (go_at_call 49; with_reducible refine Calls.mono (GivesI.calls (NR.out _ k hlt)) ?_; rintro e w2 ⟨vn, rfl, yn, rfl, hon⟩; obtain ⟨AN, capN, rfl⟩ := hon.shape_n (n := nl) HNL.out; have HON := Lib.hid (hon.ints (by rw [HNL.out]; omega)).2; clear hon)
                have HYN : Hid (Below VY.heap.size VY yn.val) := by show Below _ _ _; repeat (first | exact Below.refl _ _ | (with_reducible assumption) | apply below_later | apply below_alloc | apply below_drew | apply below_drewN)
                clear c0 c1 c2 c3 c4
                generalize yn.val = VN2 at *
                go_loopw [12] (fun u wr => ∃ q : Nat, q ≤ nl ∧ u = .int .i64 q ∧ ∃ y : Later VN2, wr = y.val) (fun u _ => nl - (intOf u).toNat)
                case atStart => exact ⟨0, by omega, rfl, ⟨_, Below.refl _ _⟩, rfl⟩
                case round =>
                  obtain ⟨q, hq, rfl, y, rfl⟩ := hrel
                  by_cases hql : q < nl
                  · obtain ⟨gb, gf, hAN, pN⟩ := (HON.out.later y).at_ (by omega)
                    subst hAN
                    have cN := pN.at_ q hql
                    have lN := pN.lt
                    obtain ⟨j, hj⟩ : ∃ j, (near4 W' H' k)[q]? = some j := ⟨_, List.getElem?_eq_getElem (by rw [HNL2.out]; exact hql)⟩
                    have ej : (natN (near4 W' H' k)).getD q 0 = (j : Int) := by rw [List.getD_eq_getElem?_getD, natN, List.getElem?_map, hj]; rfl
                    rw [ej] at cN
                    have hjn : j < n := LT.out k j hlt (List.mem_of_getElem? hj)
                    have hst := P4.out k j hlt (List.mem_of_getElem? hj) HPD.out
                    obtain ⟨_, ⟨cPj, lP⟩, cFj, lF⟩ := RL.out ⟨y.val, below_more HYN.out y.ok⟩ j hjn
                    obtain ⟨⟨cLk, lL⟩, ⟨cPk, _⟩, _⟩ := RL.out ⟨y.val, below_more HYN.out y.ok⟩ k hlt
                    obtain ⟨c0, c1, c2, c3, c4⟩ := BXX.out y.val (below_more HY.out (below_more HYN.out y.ok))
                    clear pN ej hj c0 c1 c3
                    by_cases e : P j = P k
                    · have e1 : (P j != P k) = false := by rw [e]; simp
                      clear e hst
                      generalize P j = pj at *
                      generalize P k = pk at *
                      generalize L k = lk at *
                      generalize f j = fj at *
                      go_wp2_with fail
                      refine wp_region_later (by kernel_rfl) (by kernel_rfl) ?_
                      repeat (go_big_quiet_step ((fail)))
                      refine wpQuiet_nil ?_
                      intro z12
                      go_wp2_with fail
                      go_roundw
                      case rel => exact ⟨q + 1, by omega, by go_num, later_of (by repeat (first | exact Below.refl _ _ | (with_reducible assumption) | apply below_later | apply below_alloc | apply below_drew | apply below_drewN))⟩
                      case measure => simp [intOf]; omega
                    · have e1 : (P j != P k) = true := by simpa using e
                      have e2 : decide (f j < L k) = false := decide_eq_false (by have := hst e; omega)
                      clear e hst
                      generalize P j = pj at *
                      generalize P k = pk at *
                      generalize L k = lk at *
                      generalize f j = fj at *
                      go_wp2_with fail
                      refine wp_region_later (by kernel_rfl) (by kernel_rfl) ?_
                      repeat (go_big_quiet_step ((fail)))
                      refine wpQuiet_nil ?_
                      intro z12
                      go_wp2_with fail
                      go_roundw
                      case rel => exact ⟨q + 1, by omega, by go_num, later_of (by repeat (first | exact Below.refl _ _ | (with_reducible assumption) | apply below_later | apply below_alloc | apply below_drew | apply below_drewN))⟩
                      case measure => simp [intOf]; omega
                  · obtain rfl : q = nl := by omega
                    go_wp2_with fail
                    go_roundw
                    case rel => exact ⟨k + 1, by omega, by go_num, rfl, ⟨_, below_more HX.out (below_more HY.out (below_more HYN.out y.ok))⟩, rfl⟩
                    case measure => simp [intOf]; omega
        · obtain rfl : k = n := by omega
          obtain ⟨c0, c1, c2, c3, c4⟩ := BXX.out VX (Below.refl _ _)
          have HXW := below_more HB2.out HX.out
          rw [VN.out]
          go_wp2_with (go_at_call 16; (first | (with_reducible show Calls _ _ _ (Later.val _) _; with_reducible refine Calls.mono (Later.call _ (F1.out _)) ?_) | (with_reducible refine Calls.mono (Gives.calls (F1.out _)) ?_)); rintro e w1 ⟨rfl, z4, rfl⟩)
          go_ret
          exact ⟨rfl, later_of (by repeat (first | exact Below.refl _ _ | (with_reducible assumption) | apply below_later | apply below_alloc | apply below_drew | apply below_drewN))⟩
  · have q64 : decide ((64 : Int) < (n : Int)) = true := decide_eq_true (by omega)
    clear hp hq h64
    go_enter Try.func11, Try.ntmps11
    go_wp2_with (go_at_call 16; (first | (with_reducible show Calls _ _ _ (Later.val _) _; with_reducible refine Calls.mono (Later.call _ (F1.out _)) ?_) | (with_reducible refine Calls.mono (Gives.calls (F1.out _)) ?_)); rintro e w1 ⟨rfl, z4, rfl⟩)
    go_ret
    exact ⟨rfl, later_of (by repeat (first | exact Below.refl _ _ | (with_reducible assumption) | apply below_later | apply below_alloc | apply below_drew | apply below_drewN))⟩
end Go.Proofs.Ytihgadppndcjaaa
