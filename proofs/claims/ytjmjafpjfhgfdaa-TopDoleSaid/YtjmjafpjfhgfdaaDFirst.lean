/- dole's Halves; the example with which each law of layer 7 ends: walked. -/
import Derived.Test.YtjmjafpjfhgfdaaDHalf
import Derived.Test.YtjmjafpjfhgfdaaDPick
namespace Go.Proofs.Ytjmjafpjfhgfdaa
open Go.RowKit

/-- Which strips are in the first part. -/
def partB (n s : Nat) : List Bool := (List.range n).map fun j => decide (bitN n s j = 1)
theorem partB_length (n s : Nat) : (partB n s).length = n := by simp [partB]
theorem partB_get {n s j : Nat} (h : j < n) : (partB n s).getD j true = decide (bitN n s j = 1) := by simp [partB, List.getD_eq_getElem?_getD, h]
theorem getD_setB {l : List Bool} {i j : Nat} {x d : Bool} (hi : i < l.length) : (l.set i x).getD j d = if j = i then x else l.getD j d := by
  rw [List.getD_eq_getElem?_getD, List.getElem?_set, List.getD_eq_getElem?_getD]
  by_cases e : i = j
  · subst e; rw [if_pos rfl, if_pos rfl, if_pos hi]; rfl
  · rw [if_neg e, if_neg (by omega)]
theorem bools_all {l : List Bool} {n s : Nat} (hl : l.length = n) (h : ∀ j, j < n → l.getD j true = decide (bitN n s j = 1)) : l = partB n s := by
  apply List.ext_getElem
  · rw [hl, partB_length]
  · intro i h1 h2
    have h3 := h i (by omega)
    simp only [List.getD_eq_getElem?_getD, List.getElem?_eq_getElem h1, Option.getD_some] at h3
    rw [h3]
    simp [partB]
theorem OwnBl.shape_n {w : World} {base n : Nat} {v : Value} {l : List Bool} (h : OwnBl w base v l) (hn : l.length = n) : ∃ A cap, v = .slice A n cap := by
  subst hn
  rcases h.2 with ⟨rfl, h0⟩ | ⟨g, cap, cur, rfl, _⟩
  · exact ⟨none, 0, by rw [h0]⟩
  · exact ⟨_, cap, rfl⟩
/-- The set, and the lesser worth, of the halves of a row. -/
def setH (n : Nat) (f : Nat → Int) : Nat := (halfP (lesserN f n) (2 ^ n)).1
def leastH (n : Nat) (f : Nat → Int) : Int := (halfP (lesserN f n) (2 ^ n)).2
theorem setH_le {n : Nat} {f : Nat → Int} (hn : n ≤ 12) : setH n f ≤ 4096 := by
  have := pow_le hn
  have := halfP_lt (g := lesserN f n) (2 ^ n)
  unfold setH
  omega
def PostH (w : World) (n s : Nat) (x : Int) (e : Ending) (w' : World) : Prop := ∃ v, e = .returned (.tuple #[v, .int .i64 x, .int .i64 0]) ∧ ∃ y : Later w, w' = y.val ∧ OwnBl w' w.heap.size v (partB n s)
set_option maxRecDepth 100000 in
theorem Halves_bad (n cap : Nat) (B : Option Addr) (f : Nat → Int) (w : World) (hp : n ≤ 12 → IsInts w B n f) (h : rowB n f = false) :
    Gives Try.prog 42 #[.slice B n cap] w (.tuple #[.slice none 0 0, .int .i64 0, .int .i64 2]) := by
  have IR := Lib.hid fun (V : World) (hb : Below w.heap.size w V) => h ▸ isRow_any n cap B f V fun h => (hp h).below hb
  clear hp h
  go_enter Try.func42, Try.ntmps42
  go_wp2_with (go_at_call 55; with_reducible refine Calls.mono (Gives.calls (IR.out _ (by repeat (first | exact Below.refl _ _ | (with_reducible assumption) | apply below_later | apply below_alloc | apply below_drew | apply below_drewN)))) ?_; rintro e w1 ⟨rfl, z, rfl⟩)
  refine bodyPost_ret (v := .tuple #[.slice none 0 0, .int .i64 0, .int .i64 2]) (by simp [results, Try.results42, go_sem]) rfl ?_
  exact ⟨rfl, later_of (by repeat (first | exact Below.refl _ _ | (with_reducible assumption) | apply below_later | apply below_alloc | apply below_drew | apply below_drewN))⟩
set_option maxRecDepth 100000 in
set_option maxHeartbeats 1600000 in
theorem Halves_ok (n cap : Nat) (B : Option Addr) (f : Nat → Int) (w : World) (hp : IsInts w B n f) (h : rowB n f = true) :
    Calls Try.prog 42 #[.slice B n cap] w (PostH w n (setH n f) (leastH n f)) := by
  obtain ⟨hn, hv⟩ := rowB_iff.1 h
  have IR := Lib.hid fun (V : World) (hb : Below w.heap.size w V) => h ▸ isRow_any n cap B f V fun _ => hp.below hb
  have HA : Hid (∀ (V : World), Below w.heap.size w V → Gives Try.prog 66 #[.slice B n cap] V (.tuple #[.int .i64 (setH n f : Nat), .int .i64 (leastH n f)])) := fun V hb => halve_any n cap B f V hn hv (hp.below hb)
  have SL := Lib.hid (setH_le (f := f) hn)
  have SD := Lib.hid fun (j : Nat) (V : World) (hj : j < n) => side_any (setH n f) j n V hn hj SL.out
  have BT := Lib.hid fun j => bit_lt n (setH n f) j
  have MK : ∀ w', (Instr.makeSlice 49 (.int .i64 (n : Int)) (.int .i64 (n : Int))).run Try.prog w' = .ok (.slice (some ⟨w'.heap.size, 0, none⟩) n n) (w'.alloc (.cells (madeCells #[Value.bool false] n) 4)) := fun w' => make_bools w' n (by omega)
  have HE : Hid (∀ l : List Bool, l.length = n → (∀ j, j < n → l.getD j true = decide (bitN n (setH n f) j = 1)) → l = partB n (setH n f)) := fun l h1 h2 => bools_all h1 h2
  generalize bitN n (setH n f) = b at *
  generalize setH n f = s at *
  generalize leastH n f = q at *
  clear hp hv h
  go_enter Try.func42, Try.ntmps42
  go_wp2_with (first | (go_at_call 55; with_reducible refine Calls.mono (Gives.calls (IR.out _ (by repeat (first | exact Below.refl _ _ | (with_reducible assumption) | apply below_later | apply below_alloc | apply below_drew | apply below_drewN)))) ?_; rintro e w1 ⟨rfl, z, rfl⟩) | (go_at_call 66; with_reducible refine Calls.mono (Gives.calls (HA.out _ (by repeat (first | exact Below.refl _ _ | (with_reducible assumption) | apply below_later | apply below_alloc | apply below_drew | apply below_drewN)))) ?_; rintro e w1 ⟨rfl, z2, rfl⟩))
  have hbz : Below w.heap.size w z2.val := below_more z.ok z2.ok
  have hzs := hbz.size
  have HM := Lib.hid (made_ownBl z2.val n w.heap.size hzs (by omega))
  have HB1 : Hid (Below w.heap.size w (z2.val.alloc (.cells (madeCells #[Value.bool false] n) 4))) := hbz.alloc hzs _
  obtain ⟨go, hgo⟩ : ∃ go, z2.val.heap.size = go := ⟨_, rfl⟩
  have HG : Hid (w.heap.size ≤ go) := by rw [← hgo]; exact hzs
  rw [hgo] at HM ⊢
  clear hgo hzs MK hbz
  generalize z2.val.alloc (.cells (madeCells #[Value.bool false] n) 4) = Z at *
  go_loopw [20] (fun u wr => ∃ (i : Nat) (l : List Bool), u = .int .i64 (i : Nat) ∧ i ≤ n ∧ l.length = n ∧ Below w.heap.size w wr ∧ OwnBl wr w.heap.size (.slice (some ⟨go, 0, none⟩) n n) l ∧ ∀ j, j < i → l.getD j true = decide (b j = 1)) (fun u _ => n - (intOf u).toNat)
  case atStart => exact ⟨0, _, rfl, by omega, by simp, HB1.out, HM.out, by omega⟩
  case round =>
    obtain ⟨i, l, rfl, hi, hl, hbl, ho, hall⟩ := hrel
    clear HM HB1
    have HL := Lib.hid hl
    have HBL := Lib.hid hbl
    have HO := Lib.hid ho
    have HALL := Lib.hid hall
    clear hl hbl ho hall
    by_cases hlt : i < n
    · have o5 := (own_lt HO.out go rfl).2
      have SD1 := Lib.hid fun V => SD.out i V hlt
      have HO2 : Hid (∀ V, Below wr.heap.size wr V → OwnBl V w.heap.size (.slice (some ⟨go, 0, none⟩) n n) l ∧ V.cell? ⟨go, i, none⟩ = some (.bool (l.getD i true)) ∧ V.frozen? ⟨go, i, none⟩ = false ∧ go < V.heap.size) := fun V h => by
        have hv := HO.out.below h
        obtain ⟨q1, q2, q3⟩ := hv.cell HL.out hlt
        exact ⟨hv, q1, q2 i, q3⟩
      have HWV : Hid (∀ V, Below wr.heap.size wr V → Below w.heap.size w V) := fun V h => below_more HBL.out h
      obtain ⟨x, hx⟩ : ∃ x, x = b i := ⟨_, rfl⟩
      have HX := Lib.hid hx
      rw [← hx] at SD1
      have hbt : x = 0 ∨ x = 1 := by rw [hx]; exact BT.out i
      clear hx
      rcases hbt with e | e
      all_goals
        subst e
        go_wp2_with ((go_at_call 67; with_reducible refine Calls.mono (Gives.calls (SD1.out _)) ?_; rintro e w1 ⟨rfl, z, rfl⟩); obtain ⟨q1, q0, q2, q3⟩ := HO2.out z.val (by repeat (first | exact Below.refl _ _ | (with_reducible assumption) | apply below_later | apply below_alloc | apply below_drew | apply below_drewN)); have Q1 := Lib.hid q1; have Q2 : Hid (Below w.heap.size w z.val) := HWV.out z.val (by repeat (first | exact Below.refl _ _ | (with_reducible assumption) | apply below_later | apply below_alloc | apply below_drew | apply below_drewN)); clear q1)
        go_roundw
        case rel => exact ⟨i + 1, _, by go_num, by omega, by rw [List.length_set]; exact HL.out, Q2.out.setCell (p := ⟨go, i, none⟩) HG.out _, Q1.out.set HL.out i _, fun j hj => by
          rw [getD_setB (by rw [HL.out]; exact hlt)]
          split
          · rename_i e; rw [e, ← HX.out]; rfl
          · exact HALL.out j (by omega)⟩
        case measure => simp [intOf]; omega
    · obtain rfl : i = n := by omega
      have HF := Lib.hid (HE.out l HL.out HALL.out)
      go_wp2
      refine bodyPost_ret (v := .tuple #[.slice (some ⟨go, 0, none⟩) i i, .int .i64 q, .int .i64 0]) (by simp [results, Try.results42, go_sem]) rfl ?_
      exact ⟨_, rfl, ⟨_, HBL.out⟩, rfl, by
        show OwnBl _ _ _ _
        rw [← HF.out]
        exact HO.out⟩
set_option maxRecDepth 100000 in
set_option maxHeartbeats 800000 in
theorem same_ints (A B : Option Addr) (n c1 c2 : Nat) (f g : Nat → Int) (w : World) (hn : n ≤ 1000000) (ha : IsInts w A n f) (hb : IsInts w B n g) (he : ∀ i, i < n → f i = g i) :
    Gives Try.prog 23 #[.slice A n c1, .slice B n c2] w (.bool true) := by
  have HA := Lib.hid ha
  have HB := Lib.hid hb
  have HE := Lib.hid he
  clear ha hb he
  have q0 : ((n : Int) != (n : Int)) = false := by simp
  go_enter Try.func23, Try.ntmps23
  go_wp2
  go_loopw [5] (fun u wr => ∃ k : Nat, k ≤ n ∧ u = .int .i64 k ∧ ∃ x : Later w, wr = x.val) (fun v _ => n - (intOf v).toNat)
  case atStart => exact ⟨0, by omega, rfl, later_of (by repeat (first | exact Below.refl _ _ | (with_reducible assumption) | apply below_later | apply below_alloc | apply below_drew | apply below_drewN))⟩
  case round =>
    obtain ⟨k, hk, rfl, x, rfl⟩ := hrel
    by_cases hlt : k < n
    · obtain ⟨b1, o1, hA1, p1⟩ := HA.out.at_ (by omega)
      obtain ⟨b2, o2, hB1, p2⟩ := HB.out.at_ (by omega)
      subst hA1 hB1
      have l1 := p1.lt
      have l2 := p2.lt
      have d1 := p1.at_ k hlt
      have d2 := p2.at_ k hlt
      rw [HE.out k hlt] at d1
      clear p1 p2
      generalize g k = v at *
      go_wp2_with fail
      first | (with_reducible show Code.wp _ _ _ _ (Later.val _); refine wp_region_later_at _ (by kernel_rfl) (by kernel_rfl) ?_) | refine wp_region_later (by kernel_rfl) (by kernel_rfl) ?_
      repeat (go_big_quiet_step ((fail)))
      refine wpQuiet_nil ?_
      intro z5
      go_wp2
      go_roundw
      case rel => exact ⟨k + 1, by omega, by go_num, later_of (by repeat (first | exact Below.refl _ _ | (with_reducible assumption) | apply below_later | apply below_alloc | apply below_drew | apply below_drewN))⟩
      case measure => simp [intOf]; omega
    · obtain rfl : k = n := by omega
      go_wp2
      go_ret
      exact ⟨rfl, later_of (by repeat (first | exact Below.refl _ _ | (with_reducible assumption) | apply below_later | apply below_alloc | apply below_drew | apply below_drewN))⟩
def exR (b7 b8 : Nat) (i : Nat) : Row := if i = 0 then ⟨some ⟨b7, 0, none⟩, 3, 3, fun j => ([5, 4, 1] : List Int).getD j 0⟩ else ⟨some ⟨b8, 0, none⟩, 3, 3, fun j => ([6, 2, 2] : List Int).getD j 0⟩
def exF (i j : Nat) : Int := if i = 0 then ([5, 4, 1] : List Int).getD j 0 else ([6, 2, 2] : List Int).getD j 0
theorem ex_fT (b7 b8 : Nat) : fT (exR b7 b8) = exF := by
  funext i j
  unfold fT exR exF
  split <;> rfl
theorem ex_vals (b7 b8 : Nat) : Vals 2 3 (exR b7 b8) := by
  refine ⟨by decide, by decide, by decide, fun i hi => ?_, fun i hi j hj => ?_⟩
  · unfold exR; split <;> rfl
  · have h : ∀ i, i < 2 → ∀ j, j < 3 → 0 ≤ exF i j ∧ exF i j ≤ 1000 := by decide
    have := h i hi j hj
    rw [← ex_fT b7 b8] at this
    exact this
theorem ex_pick : pickL exF (turnI 2) 3 3 = [0, 1, 0] := by decide
def exH (j : Nat) : Int := ([5, 4, 3, 2] : List Int).getD j 0
theorem ex_half : leastH 4 exH = 7 := by decide
theorem ex_row : rowB 4 exH = true := by decide
theorem lit_ints {V : World} {b n : Nat} {l : List Int} (h : V.heap[b]? = some (.cells (cellsI l).toArray 3 (0, 0))) (hn : l.length = n) (hs : n ≤ 1000) : IsInts V (some ⟨b, 0, none⟩) n fun j => l.getD j 0 := by
  refine ⟨by omega, fun _ => ⟨b, 0, rfl, get_lt h, fun i hi => ?_⟩⟩
  have e : (cellsI l).toArray[0 + i]? = some (.int .i64 (l.getD i 0)) := by
    rw [Nat.zero_add, List.getElem?_toArray]
    exact cellsI_get (by omega)
  exact cell_of_heap h _ _ e
/-- The table of the example. -/
theorem ex_tab {V : World} {b7 b8 b9 : Nat} (h7 : V.heap[b7]? = some (.cells #[.int .i64 5, .int .i64 4, .int .i64 1] 3 (0, 0))) (h8 : V.heap[b8]? = some (.cells #[.int .i64 6, .int .i64 2, .int .i64 2] 3 (0, 0)))
    (h9 : V.heap[b9]? = some (.cells #[.slice (some ⟨b7, 0, none⟩) 3 3, .slice (some ⟨b8, 0, none⟩) 3 3] 23 (0, 0))) : IsTab V (some ⟨b9, 0, none⟩) 2 (exR b7 b8) := by
  refine ⟨by omega, fun _ => ⟨b9, 0, rfl, get_lt h9, fun i hi => ?_⟩, fun i hi => ?_⟩
  · match i, hi with
    | 0, _ => exact cell_of_heap h9 _ _ rfl
    | 1, _ => exact cell_of_heap h9 _ _ rfl
  · match i, hi with
    | 0, _ => exact ⟨lit_ints (n := 3) (l := [5, 4, 1]) h7 rfl (by omega), Nat.le_refl _⟩
    | 1, _ => exact ⟨lit_ints (n := 3) (l := [6, 2, 2]) h8 rfl (by omega), Nat.le_refl _⟩
set_option maxRecDepth 100000 in
set_option maxHeartbeats 3200000 in
theorem first_law (w : World) : Gives Try.prog 14 #[] w (.bool true) := by
  have IT : Hid (∀ V b7 b8 b9, V.heap[b7]? = some (.cells #[.int .i64 5, .int .i64 4, .int .i64 1] 3 (0, 0)) → V.heap[b8]? = some (.cells #[.int .i64 6, .int .i64 2, .int .i64 2] 3 (0, 0)) → V.heap[b9]? = some (.cells #[.slice (some ⟨b7, 0, none⟩) 3 3, .slice (some ⟨b8, 0, none⟩) 3 3] 23 (0, 0)) →
      Calls Try.prog 31 #[.slice (some ⟨b9, 0, none⟩) 2 2] V fun e w' => ∃ B c, e = .returned (.tuple #[.slice B 3 c, .int .i64 0]) ∧ ∃ x : Later V, w' = x.val ∧ IsInts w' B 3 fun i => ([0, 1, 0] : List Int).getD i 0) := fun V b7 b8 b9 h7 h8 h9 => by
    have h := InTurn_ok 2 2 3 _ (exR b7 b8) V (ex_vals b7 b8) (ex_tab h7 h8 h9)
    rw [ex_fT, ex_pick] at h
    refine Calls.mono h ?_
    rintro e w2 ⟨v, rfl, x, rfl, ho⟩
    obtain ⟨B, cB, rfl⟩ := ho.shape_n (n := 3) rfl
    exact ⟨B, cB, rfl, x, rfl, (ho.ints (by simp)).2⟩
  have HH : Hid (∀ V b, V.heap[b]? = some (.cells #[.int .i64 5, .int .i64 4, .int .i64 3, .int .i64 2] 3 (0, 0)) →
      Calls Try.prog 42 #[.slice (some ⟨b, 0, none⟩) 4 4] V fun e w' => ∃ B c, e = .returned (.tuple #[.slice B 4 c, .int .i64 7, .int .i64 0]) ∧ ∃ x : Later V, w' = x.val) := fun V b h => by
    have h1 := Halves_ok 4 4 _ exH V (lit_ints (l := [5, 4, 3, 2]) h rfl (by omega)) ex_row
    rw [ex_half] at h1
    refine Calls.mono h1 ?_
    rintro e w2 ⟨v, rfl, x, rfl, ho⟩
    obtain ⟨B, cB, rfl⟩ := ho.shape_n (partB_length 4 _)
    exact ⟨B, cB, rfl, x, rfl⟩
  have SI := Lib.hid fun w' A c1 B c2 (h1 : IsInts w' A 3 fun i => ([0, 1, 0] : List Int).getD i 0) (h2 : IsInts w' B 3 fun i => ([0, 1, 0] : List Int).getD i 0) => same_ints A B 3 c1 c2 _ _ w' (by omega) h1 h2 fun _ _ => rfl
  have A3 : ∀ (w : World) (a b c : Obj), (((w.alloc a).alloc b).alloc c).heap[w.heap.size]? = some a ∧ (((w.alloc a).alloc b).alloc c).heap[w.heap.size + 1]? = some b ∧ (((w.alloc a).alloc b).alloc c).heap[w.heap.size + 1 + 1]? = some c := fun w a b c => by
    refine ⟨?_, ?_, ?_⟩
    · exact (Below.heap_alloc _ _ _ (by simp; omega)).trans ((Below.heap_alloc _ _ _ (by simp)).trans (World.alloc_heap_new _ _))
    · have h := World.alloc_heap_new (w.alloc a) b
      rw [World.size_alloc] at h
      exact (Below.heap_alloc _ _ _ (by simp)).trans h
    · have h := World.alloc_heap_new ((w.alloc a).alloc b) c
      rw [World.size_alloc, World.size_alloc] at h
      exact h
  have A33 := Lib.hid A3
  have IT2 : Hid (∀ W1, W1 = ((w.alloc (.cells #[.int .i64 5, .int .i64 4, .int .i64 1] 3)).alloc (.cells #[.int .i64 6, .int .i64 2, .int .i64 2] 3)).alloc (.cells #[.slice (some ⟨w.heap.size, 0, none⟩) 3 3, .slice (some ⟨w.heap.size + 1, 0, none⟩) 3 3] 23) →
      Calls Try.prog 31 #[.slice (some ⟨w.heap.size + 1 + 1, 0, none⟩) 2 2] W1 fun e w' => ∃ B c, e = .returned (.tuple #[.slice B 3 c, .int .i64 0]) ∧ ∃ x : Later W1, w' = x.val ∧ IsInts w' B 3 fun i => ([0, 1, 0] : List Int).getD i 0) := fun W1 h => by
    subst h
    obtain ⟨a1, a2, a3⟩ := A33.out w (.cells #[.int .i64 5, .int .i64 4, .int .i64 1] 3) (.cells #[.int .i64 6, .int .i64 2, .int .i64 2] 3) (.cells #[.slice (some ⟨w.heap.size, 0, none⟩) 3 3, .slice (some ⟨w.heap.size + 1, 0, none⟩) 3 3] 23)
    exact IT.out _ _ _ _ a1 a2 a3
  clear A3 A33 IT
  have LT : Hid (∀ V : World, IsInts (V.alloc (.cells #[.int .i64 0, .int .i64 1, .int .i64 0] 3)) (some ⟨V.heap.size, 0, none⟩) 3 fun i => ([0, 1, 0] : List Int).getD i 0) := fun V => lit_ints (n := 3) (l := [0, 1, 0]) (World.alloc_heap_new _ _) rfl (by omega)
  go_enter Try.func14, Try.ntmps14
  go_wp2_with (first
    | (go_at_call 31; with_reducible refine Calls.mono (IT2.out _ rfl) ?_; rintro e w1 ⟨B, cB, rfl, z, rfl, io⟩; have IO := Lib.hid io; clear io)
    | (go_at_call 42; with_reducible refine Calls.mono (HH.out _ _ (World.alloc_heap_new _ _)) ?_; rintro e w1 ⟨B2, cB2, rfl, z2, rfl⟩)
    | (go_at_call 23; with_reducible refine Calls.mono (Gives.calls (SI.out _ _ _ _ _ (IO.out.below (by repeat (first | exact Below.refl _ _ | (with_reducible assumption) | apply below_later | apply below_alloc | apply below_drew | apply below_drewN))) (LT.out _))) ?_; rintro e w1 ⟨rfl, z4, rfl⟩))
  go_ret
  exact ⟨rfl, ⟨_, by repeat (first | exact Below.refl _ _ | (with_reducible assumption) | apply below_later | apply below_alloc | apply below_drew | apply below_drewN)⟩, rfl⟩
end Go.Proofs.Ytjmjafpjfhgfdaa
