/- Steps by sweeps: plain facts; and the way that follows them down. -/
import Derived.Test.YtelfinjnbncnlaaSKeeps
import Derived.Test.YtelfinjnbncnlaaUpto
import Derived.Test.YtelfinjnbncnlaaStepsLow
namespace Go.Proofs.Ytelfinjnbncnlaa

/-- Ahead of round N: what is nearer than N is known with all that follows. -/
structure Swp (n : Nat) (nx : Nat → List Nat) (may : Nat → Bool) (src : Nat → Bool) (o : Nat → Int) (N : Nat) : Prop where
  sgn : ∀ i, i < n → o i = -1 ∨ (0 ≤ o i ∧ o i ≤ N)
  orig : ∀ i, i < n → src i = true → o i = 0
  val : ∀ i, i < n → o i ≠ -1 → (o i = 0 ∧ src i = true) ∨ ∃ j, j < n ∧ i ∈ nx j ∧ may i = true ∧ o j ≠ -1 ∧ o i = o j + 1
  done : ∀ j, j < n → o j ≠ -1 → o j < N → ∀ i, i ∈ nx j → may i = true → o i ≠ -1 ∧ o i ≤ o j + 1
/-- In round N, at square i0, behind q0 of its neighbours. -/
structure SwI (n : Nat) (nx : Nat → List Nat) (may : Nat → Bool) (src : Nat → Bool) (o : Nat → Int) (N i0 q0 : Nat) : Prop where
  sgn : ∀ i, i < n → o i = -1 ∨ (0 ≤ o i ∧ o i ≤ (N : Int) + 1)
  orig : ∀ i, i < n → src i = true → o i = 0
  val : ∀ i, i < n → o i ≠ -1 → (o i = 0 ∧ src i = true) ∨ ∃ j, j < n ∧ i ∈ nx j ∧ may i = true ∧ o j ≠ -1 ∧ o i = o j + 1
  done : ∀ j, j < n → o j ≠ -1 → o j < N → ∀ i, i ∈ nx j → may i = true → o i ≠ -1 ∧ o i ≤ o j + 1
  now : ∀ i, i < n → may i = true → (∀ j, j ∈ nx i → i < i0 → o j = N → o i ≠ -1) ∧ (i = i0 → ∀ q j, q < q0 → (nx i)[q]? = some j → o j = N → o i ≠ -1)
section
variable {n : Nat} {nx : Nat → List Nat} {may src : Nat → Bool} {o o' : Nat → Int} {N i0 q0 : Nat}
theorem Swp.start (h : Swp n nx may src o N) : SwI n nx may src o N 0 0 :=
  ⟨fun i hi => (h.sgn i hi).imp id fun ⟨a, b⟩ => ⟨a, by omega⟩, h.orig, h.val, h.done, fun i hi hm => ⟨fun j _ hlt => absurd hlt (by omega), fun _ q j hq => absurd hq (by omega)⟩⟩
theorem Swp.top (h : Swp n nx may src o N) : ∀ i, i < n → o i ≤ N := fun i hi => by rcases h.sgn i hi with h | h <;> omega
theorem SwI.top (h : SwI n nx may src o N i0 q0) : ∀ i, i < n → o i ≤ ((N + 1 : Nat) : Int) := fun i hi => by rcases h.sgn i hi with h | h <;> omega
theorem SwI.next (h : SwI n nx may src o N i0 q0) (hq : (nx i0).length ≤ q0) : SwI n nx may src o N (i0 + 1) 0 :=
  ⟨h.sgn, h.orig, h.val, h.done, fun i hi hm => ⟨fun j hj hlt ho => by
    rcases Nat.lt_or_ge i i0 with h1 | h1
    · exact (h.now i hi hm).1 j hj h1 ho
    · obtain rfl : i = i0 := by omega
      obtain ⟨q, hq'⟩ := List.mem_iff_getElem?.1 hj
      exact (h.now i hi hm).2 rfl q j (Nat.lt_of_lt_of_le (List.getElem?_eq_some_iff.1 hq').1 hq) hq' ho, fun _ q j hq => absurd hq (by omega)⟩⟩
theorem SwI.skip {j : Nat} (h : SwI n nx may src o N i0 q0) (hj : (nx i0)[q0]? = some j) (hno : o i0 ≠ -1 ∨ o j ≠ N ∨ may i0 = false) : SwI n nx may src o N i0 (q0 + 1) :=
  ⟨h.sgn, h.orig, h.val, h.done, fun i hi hm => ⟨(h.now i hi hm).1, fun e q j' hq hj' ho => by
    rcases Nat.lt_or_ge q q0 with h1 | h1
    · exact (h.now i hi hm).2 e q j' h1 hj' ho
    · obtain rfl : q = q0 := by omega
      subst e
      rw [hj] at hj'
      obtain rfl := Option.some.inj hj'
      rcases hno with h2 | h2 | h2
      · exact h2
      · exact absurd ho h2
      · rw [hm] at h2; cases h2⟩⟩
theorem SwI.add {j : Nat} (h : SwI n nx may src o N i0 q0) (hx : ∀ i j, j < n → i ∈ nx j → i < n ∧ j ∈ nx i) (hi : i0 < n) (hj : (nx i0)[q0]? = some j) (h1 : o i0 = -1) (h2 : o j = N) (h3 : may i0 = true)
    (ho : ∀ i, o' i = if i = i0 then (N : Int) + 1 else o i) : SwI n nx may src o' N i0 (q0 + 1) := by
  have hjm := List.mem_of_getElem? hj
  obtain ⟨hjn, hij⟩ := hx j i0 hi hjm
  have hne : j ≠ i0 := fun e => by rw [e, h1] at h2; omega
  refine ⟨fun i hi' => ?_, fun i hi' hs => ?_, fun i hi' hne1 => ?_, fun j' hj' hn1 hlt i him hm => ?_, fun i hi' hm => ⟨fun j' hj' hlt e => ?_, fun e q j' _ _ _ => ?_⟩⟩
  · rw [ho]; split
    · right; omega
    · exact h.sgn i hi'
  · rw [ho, if_neg (fun e => by rw [e] at hs; have := h.orig i0 hi hs; omega)]; exact h.orig i hi' hs
  · rw [ho] at hne1 ⊢
    by_cases e : i = i0
    · subst e
      rw [if_pos rfl]
      exact .inr ⟨j, hjn, hij, h3, by rw [ho, if_neg hne]; omega, by rw [ho, if_neg hne, h2]⟩
    · rw [if_neg e] at hne1 ⊢
      rcases h.val i hi' hne1 with h4 | ⟨j2, k1, k2, k3, k4, k5⟩
      · exact .inl h4
      · have hj2 : j2 ≠ i0 := fun e => by rw [e] at k4; exact k4 h1
        exact .inr ⟨j2, k1, k2, k3, by rw [ho, if_neg hj2]; exact k4, by rw [ho, if_neg hj2]; exact k5⟩
  · rw [ho] at hn1 hlt
    by_cases e : j' = i0
    · rw [if_pos e] at hlt; omega
    · rw [if_neg e] at hn1 hlt
      obtain ⟨k1, k2⟩ := h.done j' hj' hn1 hlt i him hm
      have hi2 : i ≠ i0 := fun e => by rw [e] at k1; exact k1 h1
      rw [ho, ho, if_neg hi2, if_neg e]
      exact ⟨k1, k2⟩
  · rw [ho] at e
    have e2 : j' ≠ i0 := fun e' => by rw [if_pos e'] at e; omega
    rw [if_neg e2] at e
    rw [ho]
    split
    · omega
    · exact (h.now i hi' hm).1 j' hj' hlt e
  · subst e
    rw [ho, if_pos rfl]
    omega
theorem SwI.round (h : SwI n nx may src o N n 0) (hx : ∀ i j, j < n → i ∈ nx j → i < n ∧ j ∈ nx i) : Swp n nx may src o (N + 1) :=
  ⟨fun i hi => (h.sgn i hi).imp id fun ⟨a, b⟩ => ⟨a, by omega⟩, h.orig, h.val, fun j hj hn1 hlt i him hm => by
    obtain ⟨hin, hji⟩ := hx i j hj him
    rcases Int.lt_or_le (o j) N with h1 | h1
    · exact h.done j hj hn1 h1 i him hm
    · have e : o j = N := by omega
      have k := (h.now i hin hm).1 j hji hin e
      refine ⟨k, ?_⟩
      rcases h.sgn i hin with h2 | h2
      · exact absurd h2 k
      · omega⟩
theorem SwI.dist (h : SwI n nx may src o N n 0) (h0 : Swp n nx may src o N) (hx : ∀ i j, j < n → i ∈ nx j → i < n ∧ j ∈ nx i) (sl : List Nat) (hs : ∀ i, i ∈ sl ↔ i < n ∧ src i = true) : Dist n nx may sl o where
  sgn := fun i hi => (h0.sgn i hi).imp id And.left
  orig := fun i hi => h0.orig i ((hs i).1 hi).1 ((hs i).1 hi).2
  val := fun i hi hn1 => (h0.val i hi hn1).imp (fun ⟨a, b⟩ => ⟨a, (hs i).2 ⟨hi, b⟩⟩) id
  done := fun j hj hn1 i him hm => by
    obtain ⟨hin, hji⟩ := hx i j hj him
    rcases Int.lt_or_le (o j) N with h1 | h1
    · exact h0.done j hj hn1 h1 i him hm
    · have e : o j = N := by rcases h0.sgn j hj with h2 | h2 <;> omega
      have k := (h.now i hin hm).1 j hji hin e
      refine ⟨k, ?_⟩
      rcases h0.sgn i hin with h2 | h2
      · exact absurd h2 k
      · omega
end
/-- The first of a list that is so many steps away. -/
def firstAt (o : Nat → Int) (d : Int) : List Nat → Nat
  | [] => 0
  | j :: l => if o j = d then j else firstAt o d l
theorem firstAt_mem {o : Nat → Int} {d : Int} : ∀ {l : List Nat}, (∃ j, j ∈ l ∧ o j = d) → firstAt o d l ∈ l ∧ o (firstAt o d l) = d
  | [], h => by obtain ⟨j, hj, _⟩ := h; cases hj
  | j :: l, h => by
    unfold firstAt
    by_cases e : o j = d
    · rw [if_pos e]; exact ⟨List.mem_cons_self, e⟩
    · rw [if_neg e]
      obtain ⟨j', hj, e'⟩ := h
      rcases List.mem_cons.1 hj with rfl | hj
      · exact absurd e' e
      · obtain ⟨k1, k2⟩ := firstAt_mem ⟨j', hj, e'⟩
        exact ⟨List.mem_cons_of_mem _ k1, k2⟩
/-- The way down: d steps. -/
def downL (nx : Nat → List Nat) (o : Nat → Int) : Nat → Nat → List Nat
  | 0, _ => []
  | d + 1, x => firstAt o d (nx x) :: downL nx o d (firstAt o d (nx x))
def lastN (nx : Nat → List Nat) (o : Nat → Int) : Nat → Nat → Nat
  | 0, x => x
  | d + 1, x => lastN nx o d (firstAt o d (nx x))
theorem Dist.down {n : Nat} {nx : Nat → List Nat} {may : Nat → Bool} {sl : List Nat} {o : Nat → Int} (h : Dist n nx may sl o) (hx : ∀ i j, j < n → i ∈ nx j → i < n ∧ j ∈ nx i) {x d : Nat} (hxn : x < n) (hd : o x = (d : Int) + 1) :
    firstAt o d (nx x) ∈ nx x ∧ firstAt o d (nx x) < n ∧ o (firstAt o d (nx x)) = d := by
  rcases h.val x hxn (by omega) with ⟨e, _⟩ | ⟨j, hj, hm, _, _, e⟩
  · omega
  · obtain ⟨k1, k2⟩ := firstAt_mem (o := o) (d := d) (l := nx x) ⟨j, (hx x j hj hm).2, by omega⟩
    exact ⟨k1, (hx _ x hxn k1).1, k2⟩
theorem firstAt_same {o p : Nat → Int} {d : Int} : ∀ {l : List Nat}, (∀ j, j ∈ l → o j = p j) → firstAt o d l = firstAt p d l
  | [], _ => rfl
  | j :: l, h => by
    unfold firstAt
    rw [h j List.mem_cons_self, firstAt_same fun j' hj' => h j' (List.mem_cons_of_mem _ hj')]
theorem downL_same {n : Nat} {nx : Nat → List Nat} {may : Nat → Bool} {sl : List Nat} {o p : Nat → Int} (h : Dist n nx may sl o) (hx : ∀ i j, j < n → i ∈ nx j → i < n ∧ j ∈ nx i) (he : ∀ i, i < n → o i = p i) : ∀ (d x : Nat), x < n → o x = d → downL nx o d x = downL nx p d x
  | 0, _, _, _ => rfl
  | d + 1, x, hxn, hd => by
    obtain ⟨k1, k2, k3⟩ := h.down hx hxn (d := d) (by rw [hd]; omega)
    have e : firstAt o d (nx x) = firstAt p d (nx x) := firstAt_same fun j hj => he j (hx j x hxn hj).1
    unfold downL
    rw [← e, downL_same h hx he d _ k2 k3]
end Go.Proofs.Ytelfinjnbncnlaa
namespace Go.Proofs.Ytelfinjnbncnlaa
open Go.RowKit

theorem firstAt_get {o : Nat → Int} {d : Int} : ∀ {l : List Nat} {q j : Nat}, l[q]? = some j → o j = d → (∀ q', q' < q → ∀ j', l[q']? = some j' → o j' ≠ d) → firstAt o d l = j
  | [], q, j, h, _, _ => by simp at h
  | x :: l, 0, j, h, e, _ => by
    obtain rfl : x = j := by simpa using h
    unfold firstAt
    rw [if_pos e]
  | x :: l, q + 1, j, h, e, hb => by
    unfold firstAt
    rw [if_neg (hb 0 (by omega) x rfl)]
    exact firstAt_get (by simpa using h) e fun q' hq' j' hj' => hb (q' + 1) (by omega) j' (by simpa using hj')
/-- A square that has a sluice that is low enough. -/
def endB (m : Nat) (f a s : Nat → Int) (lv : Int) (x : Nat) : Bool := (decide (0 ≤ sillTo a s x m) && decide (sillTo a s x m ≤ lv)) && decide (f x ≤ lv)
def lowB (f : Nat → Int) (lv : Int) (x : Nat) : Bool := decide (f x ≤ lv)
/-- What Out keeps, with the neighbours beside it. -/
structure KO (V9 V : World) (yb g n : Nat) (l : List Int) (AN : Option Addr) (nl cN : Nat) (ln : List Int) : Prop where
  kl : KL V9 V g n l
  near : OwnI V yb (.slice AN nl cN) ln
  lt : g < yb
theorem KO.put {V9 V : World} {yb g n : Nat} {l : List Int} {AN : Option Addr} {nl cN : Nat} {ln : List Int} (h : KO V9 V yb g n l AN nl cN ln) (hl : l.length = n) (i : Nat) (x : Int) : KO V9 (V.setCell ⟨g, i, none⟩ (.int .i64 x)) yb g n (l.set i x) AN nl cN ln :=
  ⟨h.kl.put hl i x, h.near.far fun t ht => by have := (own_lt h.near t ht).1; have := h.lt; show g ≠ t; omega, h.lt⟩
theorem KL.grown {V9 V V' : World} {yb g n : Nat} {l l2 : List Int} {v : Value} (h : KL V9 V g n l) (ho : OwnI V yb v l2) (hy : V9.heap.size ≤ yb) (hlt : g < yb) (hg : V.grownBy V' v.ownBlock) : KL V9 V' g n l := by
  refine ⟨below_own h.below ho hy hg, ?_⟩
  have lg := (own_lt h.own g rfl).2
  rcases h.own.2 with h2 | ⟨g', cap, cur, e, hb, hh, rest⟩
  · exact ⟨h.own.1, .inl h2⟩
  · simp only [Value.slice.injEq, Option.some.injEq, Addr.mk.injEq] at e
    obtain ⟨⟨rfl, -⟩, hn, rfl⟩ := e
    exact ⟨h.own.1, .inr ⟨g, n, cur, by rw [← hn], hb, (hg.block g lg fun e => by have := (own_lt ho g e.symm).1; omega).trans hh, rest⟩⟩
def PostOut (w : World) (n W H : Nat) (may : Nat → Bool) (sl : List Nat) (k : Nat) (e : Ending) (w' : World) : Prop := ∃ v, ∃ o : Nat → Int, e = .returned v ∧ ∃ x : Later w, w' = x.val ∧ OwnI w' w.heap.size v (natN (k :: downL (near4 W H) o (o k).toNat k)) ∧ Dist n (near4 W H) may sl o
set_option maxRecDepth 100000 in
set_option maxHeartbeats 12800000 in
theorem rout_ok {W H n m : Nat} {f a s L : Nat → Int} (h : FenL W H n m f a s L) (cap capS k b off : Nat) (B : Option Addr) (w : World) (hk : k < n) (hp : Ints w b off n f) (hq : IsSlu w B m a s) :
    Calls Try.prog 40 #[.agg #[.int .i64 W, .int .i64 H, .slice (some ⟨b, off, none⟩) n cap, .slice B m capS], .int .i64 k] w (PostOut w n W H (lowB f (L k)) (filt (endB m f a s (L k)) n) k) := by
  obtain ⟨hW, hW2, hH1, hH, hn, hn1, hn2, hf, hm1, hm2, ha, hs⟩ := h.facts
  have RL : Hid (∀ w', Below w.heap.size w w' → GivesI 32 #[.agg #[.int .i64 W, .int .i64 H, .slice (some ⟨b, off, none⟩) n cap, .slice B m capS]] w' (tab n L)) := fun w' hb =>
    rlevels_any W H n cap m capS b off B f a s L w' hW hW2 hH1 hH hn (hp.later ⟨w', hb⟩) (hq.later ⟨w', hb⟩) hf ha hs h.lev h.pos (fun i hi => (h.high i hi).2)
  have NR : Hid (∀ (w' : World) (i : Nat), i < n → GivesI 33 #[.int .i64 W, .int .i64 H, .int .i64 i] w' (natN (near4 W H i))) := fun w' i hi => rnear_any W H i w' hW hW2 hH (hn ▸ hi)
  have SI : Hid (∀ (w' : World) (i : Nat), Below w.heap.size w w' → Gives Try.prog 35 #[.agg #[.int .i64 W, .int .i64 H, .slice (some ⟨b, off, none⟩) n cap, .slice B m capS], .int .i64 i] w' (.int .i64 (sillTo a s i m))) := fun w' i hb => rsill_any W H _ B n cap m capS a s i w' (hq.later ⟨w', hb⟩)
  have NX : Hid (∀ i j, j < n → i ∈ near4 W H j → i < n ∧ j ∈ near4 W H i) := fun i j hj hi => by rw [hn] at hj ⊢; exact ⟨near_lt hi hj, near_flip hj hi⟩
  have MK : ∀ w', (Instr.makeSlice 22 (.int .i64 (n : Int)) (.int .i64 (n : Int))).run Try.prog w' = .ok (.slice (some ⟨w'.heap.size, 0, none⟩) n n) (w'.alloc (.cells (madeCells #[Value.int .i64 0] n) 3)) := fun w' => make_ints w' n (by omega)
  have Hp := Lib.hid hp
  have HK := Lib.hid hk
  obtain ⟨i0, hi0, hz0, hz1, hz2⟩ := info_int
  clear hp hq h hm1 hm2 ha hs hf hn
  go_enter Try.func40, Try.ntmps40
  go_upto_region 1 with fail
  have BX : Hid (∀ V, Below (w.alloc (.cells #[.int .i64 W, .int .i64 H, .slice (some ⟨b, off, none⟩) n cap, .slice B m capS] 25)).heap.size (w.alloc (.cells #[.int .i64 W, .int .i64 H, .slice (some ⟨b, off, none⟩) n cap, .slice B m capS] 25)) V → V.heap[w.heap.size]? = some (.cells #[.int .i64 W, .int .i64 H, .slice (some ⟨b, off, none⟩) n cap, .slice B m capS] 25 (0, 0))) := fun V h =>
    (h.block _ (by simp)).trans (World.alloc_heap_new _ _)
  have HB9 : Hid (Below w.heap.size w (w.alloc (.cells #[.int .i64 W, .int .i64 H, .slice (some ⟨b, off, none⟩) n cap, .slice B m capS] 25))) := below_alloc (Below.refl _ _)
  obtain ⟨b2, hb2⟩ : ∃ b2, w.heap.size = b2 := ⟨_, rfl⟩
  rw [hb2] at BX ⊢
  clear hb2
  generalize w.alloc (.cells #[.int .i64 W, .int .i64 H, .slice (some ⟨b, off, none⟩) n cap, .slice B m capS] 25) = V9 at *
  have hM := BX.out V9 (Below.refl _ _)
  have m0 := cell_of_heap hM 0 _ rfl
  have m1 := cell_of_heap hM 1 _ rfl
  have m2 := cell_of_heap hM 2 _ rfl
  have m3 := cell_of_heap hM 3 _ rfl
  have lM := get_lt hM
  clear hM
  have hb9 := HB9.out
  go_upto_region 3 with (go_at_call 32; with_reducible refine Calls.mono (GivesI.calls (RL.out _ (by repeat (first | exact Below.refl _ _ | (with_reducible assumption) | apply below_later | apply below_alloc | apply below_drew | apply below_drewN)))) ?_; rintro e w1 ⟨v, rfl, z1, rfl, ho⟩; obtain ⟨A1, c1, rfl⟩ := ho.shape_n (n := n) (tab_len _ _); obtain ⟨gL, cL, eL, _, hgl, _⟩ := ho.form (tab_len n L) (by omega); simp only [Value.slice.injEq] at eL; obtain ⟨rfl, _, rfl⟩ := eL; obtain ⟨pc, _⟩ := ho.cell (tab_len n L) hk; rw [tab_get hk] at pc; clear ho)
  have hz1b : Below V9.heap.size V9 z1.val := z1.ok
  have kl0 : KL V9 (z1.val.alloc (.cells (madeCells #[Value.int .i64 0] n) 3)) z1.val.heap.size n (List.replicate n 0) :=
    ⟨below_alloc hz1b, made_own z1.val n _ hz1b.size (by omega)⟩
  clear MK m0 m1 m2 m3 pc hz1b lM
  generalize z1.val.heap.size = g at *
  generalize z1.val.alloc (.cells (madeCells #[Value.int .i64 0] n) 3) = V0 at *
  have KL0 := Lib.hid kl0
  clear kl0
  obtain ⟨lv, hlv⟩ : ∃ lv, L k = lv := ⟨_, rfl⟩
  rw [hlv]
  have HLVE := Lib.hid hlv
  clear hlv
  go_wp2_with fail
  go_loopw [7] (fun u wr => ∃ (i : Nat) (l : List Int), u = .int .i64 i ∧ i ≤ n ∧ KL V9 wr g n l ∧ l.length = n ∧ ∀ j, j < i → l.getD j 0 = if endB m f a s lv j then 0 else -1) (fun u _ => n - (intOf u).toNat)
  case atStart => exact ⟨0, _, rfl, by omega, KL0.out, by simp, by omega⟩
  case round =>
    obtain ⟨i, l, rfl, hi, kl, hlen, hall⟩ := hrel
    have KL1 := Lib.hid kl
    have HLEN := Lib.hid hlen
    have HALL := Lib.hid hall
    clear kl hlen hall KL0
    by_cases hlt : i < n
    · obtain ⟨ci, fz⟩ := KL1.out.own.cell HLEN.out hlt
      have fi := fz i
      have lg := (own_lt KL1.out.own g rfl).2
      go_upto_region 7 with fail
      have KL2 := Lib.hid (KL1.out.put HLEN.out i (-1))
      have HL2 : Hid ((l.set i (-1)).length = n) := by show _ = _; rw [List.length_set]; exact HLEN.out
      clear ci fz fi lg
      generalize wr.setCell ⟨g, i, none⟩ (.int .i64 (-1)) = V2 at *
      have hM := BX.out V2 KL2.out.below
      have m0 := cell_of_heap hM 0 _ rfl
      have m1 := cell_of_heap hM 1 _ rfl
      have m2 := cell_of_heap hM 2 _ rfl
      have m3 := cell_of_heap hM 3 _ rfl
      have lM := get_lt hM
      have hbw : Below w.heap.size w V2 := below_more hb9 KL2.out.below
      have SIi := Lib.hid fun w' hb => SI.out w' i hb
      have HEN : Hid (endB m f a s lv i = ((decide (0 ≤ sillTo a s i m) && decide (sillTo a s i m ≤ lv)) && decide (f i ≤ lv))) := rfl
      have HNO : Hid (endB m f a s lv i = false → ∀ j, j < i + 1 → (l.set i (-1)).getD j 0 = if endB m f a s lv j then 0 else -1) := fun he j hj => by
        rw [getD_put (by rw [HLEN.out]; exact hlt)]
        by_cases c : j = i
        · subst c; rw [if_pos rfl, he]; rfl
        · rw [if_neg c]; exact HALL.out j (by omega)
      have HYES : Hid (endB m f a s lv i = true → ∀ j, j < i + 1 → ((l.set i (-1)).set i 0).getD j 0 = if endB m f a s lv j then 0 else -1) := fun he j hj => by
        rw [getD_put (by rw [HL2.out]; exact hlt), getD_put (by rw [HLEN.out]; exact hlt)]
        by_cases c : j = i
        · subst c; rw [if_pos rfl, he]; rfl
        · rw [if_neg c, if_neg c]; exact HALL.out j (by omega)
      generalize sillTo a s i m = st at *
      generalize endB m f a s lv i = eb at *
      have hpi := Hp.out.later ⟨V2, hbw⟩
      have cf := hpi.at_ i hlt
      have lf := hpi.lt
      obtain ⟨fi, hfi⟩ : ∃ x, f i = x := ⟨_, rfl⟩
      rw [hfi] at cf HEN
      clear hM hpi hfi HALL KL1
      by_cases c1 : 0 ≤ st
      · have d1 : decide (0 ≤ st) = true := decide_eq_true c1
        by_cases c2 : st ≤ lv
        · have d2 : decide (st ≤ lv) = true := decide_eq_true c2
          by_cases c3 : fi ≤ lv
          · have d3 : decide (fi ≤ lv) = true := decide_eq_true c3
            have HY := Lib.hid (HYES.out (by rw [HEN.out, d1, d2, d3]; rfl))
            clear HNO HYES HEN
            go_wp2_with ((go_at_call 35; with_reducible refine Calls.mono (Gives.calls (SIi.out _ (by repeat (first | exact Below.refl _ _ | (with_reducible assumption) | apply below_later | apply below_alloc | apply below_drew | apply below_drewN)))) ?_; rintro e w1 ⟨rfl, z, rfl⟩); have KL3 := Lib.hid (KL2.out.later z); have fi2 := (KL3.out.own.cell HL2.out hlt).2 i; have ci2 := (KL3.out.own.cell HL2.out hlt).1; have lg2 := (own_lt KL3.out.own g rfl).2)
            go_roundw
            case rel => exact ⟨i + 1, _, by go_num, by omega, KL3.out.put HL2.out i 0, by rw [List.length_set]; exact HL2.out, HY.out⟩
            case measure => simp [intOf]; omega
          · have d3 : decide (fi ≤ lv) = false := decide_eq_false c3
            have HN := Lib.hid (HNO.out (by rw [HEN.out, d1, d2, d3]; rfl))
            clear HNO HYES HEN
            go_wp2_with (go_at_call 35; with_reducible refine Calls.mono (Gives.calls (SIi.out _ (by repeat (first | exact Below.refl _ _ | (with_reducible assumption) | apply below_later | apply below_alloc | apply below_drew | apply below_drewN)))) ?_; rintro e w1 ⟨rfl, z, rfl⟩)
            go_roundw
            case rel => exact ⟨i + 1, _, by go_num, by omega, KL2.out.later z, HL2.out, HN.out⟩
            case measure => simp [intOf]; omega
        · have d2 : decide (st ≤ lv) = false := decide_eq_false c2
          have HN := Lib.hid (HNO.out (by rw [HEN.out, d1, d2]; rfl))
          clear HNO HYES HEN
          go_wp2_with (go_at_call 35; with_reducible refine Calls.mono (Gives.calls (SIi.out _ (by repeat (first | exact Below.refl _ _ | (with_reducible assumption) | apply below_later | apply below_alloc | apply below_drew | apply below_drewN)))) ?_; rintro e w1 ⟨rfl, z, rfl⟩)
          go_roundw
          case rel => exact ⟨i + 1, _, by go_num, by omega, KL2.out.later z, HL2.out, HN.out⟩
          case measure => simp [intOf]; omega
      · have d1 : decide (0 ≤ st) = false := decide_eq_false c1
        have HN := Lib.hid (HNO.out (by rw [HEN.out, d1]; rfl))
        clear HNO HYES HEN
        go_wp2_with (go_at_call 35; with_reducible refine Calls.mono (Gives.calls (SIi.out _ (by repeat (first | exact Below.refl _ _ | (with_reducible assumption) | apply below_later | apply below_alloc | apply below_drew | apply below_drewN)))) ?_; rintro e w1 ⟨rfl, z, rfl⟩)
        go_roundw
        case rel => exact ⟨i + 1, _, by go_num, by omega, KL2.out.later z, HL2.out, HN.out⟩
        case measure => simp [intOf]; omega
    · obtain rfl : n = i := by omega
      have SW0 : Hid (Swp n (near4 W H) (lowB f lv) (endB m f a s lv) (fun x => l.getD x 0) 0) := by
        have hl : ∀ x, x < n → (l.getD x 0 = 0 ∧ endB m f a s lv x = true) ∨ l.getD x 0 = -1 ∧ endB m f a s lv x = false := fun x hx => by
          rw [HALL.out x hx]
          cases endB m f a s lv x <;> simp
        refine ⟨fun x hx => ?_, fun x hx hs => ?_, fun x hx hne => ?_, fun x hx hne hlt0 => ?_⟩
        · rcases hl x hx with ⟨e, _⟩ | ⟨e, _⟩
          · right; show 0 ≤ l.getD x 0 ∧ l.getD x 0 ≤ ((0 : Nat) : Int); rw [e]; omega
          · exact .inl e
        · rcases hl x hx with ⟨e, _⟩ | ⟨_, e⟩
          · exact e
          · rw [hs] at e; cases e
        · rcases hl x hx with ⟨e, e2⟩ | ⟨e, _⟩
          · exact .inl ⟨e, e2⟩
          · exact absurd e hne
        · rcases hl x hx with ⟨e, _⟩ | ⟨e, _⟩
          · have : l.getD x 0 < ((0 : Nat) : Int) := hlt0
            omega
          · exact absurd e hne
      have HSL : Hid (∀ x, x ∈ filt (endB m f a s lv) n ↔ x < n ∧ endB m f a s lv x = true) := fun x => by unfold filt; rw [List.mem_filter, List.mem_range]
      have MAY : Hid (∀ x, lowB f lv x = decide (f x ≤ lv)) := fun _ => rfl
      generalize hme : lowB f lv = may at *
      generalize hsr : endB m f a s lv = src at *
      generalize hsle : filt src n = sl at *
      have HME := Lib.hid hme
      have HSR := Lib.hid hsr
      have HSLE := Lib.hid hsle
      clear hme hsr hsle
      have KLS := Lib.hid KL1.out
      have HLS := Lib.hid HLEN.out
      clear HALL KL1 HLEN hlt hi
      go_wp2_with fail
      have hu0 := unset1_le l n
      go_loopg [9, 10] (unset1 l n + 1) (fun num s9 s10 wr => ∃ (c : Bool) (N : Nat) (l : List Int), s9 = .int .i64 N ∧ s10 = .bool c ∧ num = unset1 l n + (if c = true then 1 else 0) ∧ KL V9 wr g n l ∧ l.length = n ∧ N + unset1 l n ≤ n + (if c = true then 0 else 1) ∧
        (c = true → Swp n (near4 W H) may src (fun x => l.getD x 0) N) ∧ (c = false → Dist n (near4 W H) may sl (fun x => l.getD x 0)) ∧ ∀ x, x < n → l.getD x 0 ≤ N)
      case atStart => exact ⟨true, 0, l, rfl, rfl, rfl, KLS.out, HLS.out, by simp; omega, fun _ => SW0.out, fun h => (by cases h), SW0.out.top⟩
      case round =>
        clear KLS HLS SW0 hu0
        obtain ⟨c, N, l, rfl, rfl, hnum, kl, hlen, hNb, hsw, hds, hbd⟩ := hrel
        have KL2 := Lib.hid kl
        have HL2 := Lib.hid hlen
        have HNUM := Lib.hid hnum
        have HSW := Lib.hid hsw
        have HDS := Lib.hid hds
        have HBD := Lib.hid hbd
        clear kl hlen hnum hsw hds hbd
        cases c
        · have HD := Lib.hid (HDS.out (by trivial))
          have hN9 : N ≤ 257 := by simp at hNb; omega
          clear HDS HSW HNUM hNb
          obtain ⟨d0, hd0⟩ : ∃ d0, (l.getD k 0).toNat = d0 := ⟨_, rfl⟩
          have hd9 : d0 ≤ 257 := by have := HBD.out k hk; omega
          have HD0 := Lib.hid hd0
          have hlo := own_lt KL2.out.own g rfl
          go_wp2_with fail
          have HYB : Hid (OwnI (wr.alloc (.cells #[.int .i64 k] 3)) wr.heap.size (.slice (some ⟨wr.heap.size, 0, none⟩) 1 1) (natN [k])) := lit_own (V := wr) (k : Int) (Nat.le_refl _)
          have KLY : Hid (KL V9 (wr.alloc (.cells #[.int .i64 k] 3)) g n l) := KL2.out.later ⟨_, below_alloc (Below.refl _ _)⟩
          have hyl : wr.heap.size ≤ (wr.alloc (.cells #[.int .i64 k] 3)).heap.size := by simp
          have hvy : V9.heap.size ≤ wr.heap.size := KL2.out.below.size
          have hgy : g < wr.heap.size := hlo.2
          clear KL2 hlo
          generalize wr.alloc (.cells #[.int .i64 k] 3) = VB at *
          generalize wr.heap.size = yb at *
          go_loopg [1, 14] d0 (fun num s1 s14 wx => ∃ (x d : Nat) (dn : List Nat), s1 = .int .i64 x ∧ num = d ∧ x < n ∧ (l.getD x 0).toNat = d ∧ KL V9 wx g n l ∧ yb ≤ wx.heap.size ∧ OwnI wx yb s14 (natN (k :: dn)) ∧ dn ++ downL (near4 W H) (fun x => l.getD x 0) d x = downL (near4 W H) (fun x => l.getD x 0) d0 k ∧ dn.length + d = d0)
          case atStart => exact ⟨k, d0, [], rfl, rfl, hk, hd0, KLY.out, hyl, HYB.out, rfl, by simp⟩
          case round =>
            clear HYB KLY hyl hd0
            obtain ⟨x, d, dn, rfl, hnd, hxn, hxd, kl, hyw, hom, hdn, hdl⟩ := hrel
            have HND := Lib.hid hnd
            clear hnd
            have KL5 := Lib.hid kl
            have HOM := Lib.hid hom
            have HDN := Lib.hid hdn
            have HDL := Lib.hid hdl
            clear kl hom hdn
            obtain ⟨ox, _⟩ := KL5.out.own.cell HL2.out hxn
            have lg := (own_lt KL5.out.own g rfl).2
            cases d with
            | zero =>
              have c1 : ¬ 0 < l.getD x 0 := by omega
              have d1 : decide (0 < l.getD x 0) = false := decide_eq_false c1
              generalize l.getD x 0 = vx at *
              go_wp2_with fail
              go_ret
              have e : natN (k :: dn) = natN (k :: downL (near4 W H) (fun x => l.getD x 0) d0 k) := by
                have h : dn ++ [] = downL (near4 W H) (fun x => l.getD x 0) d0 k := HDN.out
                rw [List.append_nil] at h
                rw [h]
              exact ⟨_, fun x => l.getD x 0, rfl, ⟨_, below_more HB9.out KL5.out.below⟩, rfl, by rw [HD0.out, ← e]; exact HOM.out.mono (Nat.le_trans HB9.out.size hvy), by rw [HLVE.out, HME.out, HSR.out, HSLE.out]; exact HD.out⟩
            | succ d =>
              have hx1 : l.getD x 0 = (d : Int) + 1 := by omega
              have DW := Lib.hid (HD.out.down NX.out hxn hx1)
              have d1 : decide (0 < l.getD x 0) = true := decide_eq_true (by omega)
              have hd8 : d ≤ 256 := by omega
              rw [hx1] at ox d1
              clear hxd
              obtain ⟨nl, hnl⟩ : ∃ nl, (near4 W H x).length = nl := ⟨_, rfl⟩
              have HNL : Hid ((natN (near4 W H x)).length = nl) := by show _ = _; rw [← hnl]; simp [natN]
              have nl4 : nl ≤ 4 := hnl ▸ near_len W H x
              have HNL2 := Lib.hid hnl
              have HX1 := Lib.hid hx1
              clear hnl hx1
              have M0 := BX.out _ KL5.out.below
              have m0 := cell_of_heap M0 0 _ rfl
              have m1 := cell_of_heap M0 1 _ rfl
              have lM := get_lt M0
              clear M0
              go_upto_region 26 with (go_at_call 33; with_reducible refine Calls.mono (GivesI.calls (NR.out _ x hxn)) ?_; rintro e w2 ⟨vn, rfl, yn, rfl, hon⟩; obtain ⟨AN, capN, rfl⟩ := hon.shape_n (n := nl) HNL.out; have HON := Lib.hid (hon.ints (by rw [HNL.out]; omega)).2; clear hon)
              have KL6 := Lib.hid (KL5.out.later yn)
              have HOM6 := Lib.hid (HOM.out.later yn)
              have hyw6 : yb ≤ yn.val.heap.size := Nat.le_trans hyw yn.size
              clear ox lg m0 m1 lM KL5 HOM hyw
              generalize yn.val = VY at *
              go_wp2
              go_loopw [1, 16] (fun s1 u wq => ∃ q : Nat, s1 = .int .i64 x ∧ u = .int .i64 q ∧ q ≤ nl ∧ (∀ q', q' < q → ∀ j', (near4 W H x)[q']? = some j' → l.getD j' 0 ≠ d) ∧ ∃ y : Later VY, wq = y.val) (fun _ u _ => nl - (intOf u).toNat)
              case atStart => exact ⟨0, rfl, rfl, by omega, by omega, ⟨_, Below.refl _ _⟩, rfl⟩
              case round =>
                obtain ⟨q, rfl, rfl, hq, hsf, y, rfl⟩ := hrel
                have HSF := Lib.hid hsf
                clear hsf
                by_cases hql : q < nl
                · obtain ⟨gb, gf, hAN, pN⟩ := (HON.out.later y).at_ (by omega)
                  subst hAN
                  have cN := pN.at_ q hql
                  have lN := pN.lt
                  obtain ⟨j, hj⟩ : ∃ j, (near4 W H x)[q]? = some j := ⟨_, List.getElem?_eq_getElem (by rw [HNL2.out]; exact hql)⟩
                  rw [near_at hj] at cN
                  have HJ := Lib.hid hj
                  have hjn := (NX.out j x hxn (List.mem_of_getElem? hj)).1
                  have KL7 := Lib.hid (KL6.out.later y)
                  have HOM7 := Lib.hid (HOM6.out.later y)
                  have hyw7 : yb ≤ y.val.heap.size := Nat.le_trans hyw6 y.size
                  obtain ⟨oj, _⟩ := KL7.out.own.cell HL2.out hjn
                  obtain ⟨ox, _⟩ := KL7.out.own.cell HL2.out hxn
                  have lg := (own_lt KL7.out.own g rfl).2
                  rw [HX1.out] at ox
                  have ed : (d : Int) + 1 - 1 = (d : Int) := by omega
                  have HFA : Hid (l.getD j 0 = d → firstAt (fun x => l.getD x 0) d (near4 W H x) = j) := fun h => firstAt_get HJ.out h HSF.out
                  have HST : Hid (l.getD j 0 ≠ d → ∀ q', q' < q + 1 → ∀ j', (near4 W H x)[q']? = some j' → l.getD j' 0 ≠ d) := fun h q' hq' j' hj' => by
                    rcases Nat.lt_or_ge q' q with h1 | h1
                    · exact HSF.out q' h1 j' hj'
                    · obtain rfl : q' = q := by omega
                      rw [HJ.out] at hj'
                      obtain rfl := Option.some.inj hj'
                      exact h
                  clear pN hj
                  by_cases c1 : l.getD j 0 = d
                  · have HF := Lib.hid (HFA.out c1)
                    rw [c1] at oj
                    have HC1 := Lib.hid c1
                    clear c1 HFA HST
                    have d2 : ((d : Int) == (d : Int)) = true := by simp
                    go_wp2_with fail
                    refine wp_region_later (by kernel_rfl) (by kernel_rfl) ?_
                    repeat (go_big_quiet_step ((fail)))
                    refine wpQuiet_nil ?_
                    intro z3
                    have cN3 := (z3.cell _ _ lN).trans cN
                    have lN3 := Nat.lt_of_lt_of_le lN z3.size
                    have KL8 := Lib.hid (KL7.out.later z3)
                    have HOM8 := Lib.hid (HOM7.out.later z3)
                    have hyw8 : yb ≤ z3.val.heap.size := Nat.le_trans hyw7 z3.size
                    obtain ⟨lm, hlm⟩ : ∃ lm, (natN (k :: dn)).length = lm := ⟨_, rfl⟩
                    have hlm9 : lm ≤ 300 := by rw [← hlm]; simp only [natN, List.length_map, List.length_cons]; omega
                    have HLM := Lib.hid hlm
                    have HAPP : Hid (natN (k :: (dn ++ [j])) = natN (k :: dn) ++ [(j : Int)]) := by show _ = _; simp [natN]
                    clear hlm cN oj ox lg KL7 HOM7 hyw7 lN
                    generalize z3.val = Z3 at *
                    go_wp2_with (at_builtin; refine wpList_append_own _ rfl _ _ 22 rfl yb 3 i0 (.int .i64 0) 1 8 Try.underlying22 hi0 hz0 hz1 hz2 rfl (by decide) _ _ _ rfl ((own_row HOM8.out HLM.out).alloc _) ⟨_, 0, none⟩ 1 1 [.int .i64 (j : Nat)] rfl rfl lit_news one_int (by unfold maxLen; omega) (by omega) (by simp only [World.size_alloc]; omega) ?_; intro v5 w5 hown2 hgrow _; have HM5 : Hid (OwnI w5 yb v5 (natN (k :: dn) ++ [(j : Int)])) := push_own (P := Try.prog) (w := w5) (v := v5) (by rw [HLM.out]; exact hown2); have KL9 : Hid (KL V9 w5 g n l) := (KL8.out.later ⟨_, below_alloc (o := .cells #[.int .i64 (j : Int)] 3) (Below.refl _ Z3)⟩).grown (HOM8.out.alloc _) hvy hgy hgrow; have hyw9 : yb ≤ w5.heap.size := (by have h1 := hgrow.size; simp only [World.size_alloc] at h1; omega); clear hown2 hgrow)
                    go_roundg d
                    case measure => have := HND.out; omega
                    case rel =>
                      refine ⟨j, d, dn ++ [j], rfl, rfl, hjn, by rw [HC1.out]; omega, KL9.out, hyw9, by rw [HAPP.out]; exact HM5.out, ?_, by simp only [List.length_append, List.length_cons, List.length_nil]; omega⟩
                      have h : dn ++ downL (near4 W H) (fun x => l.getD x 0) (d + 1) x = downL (near4 W H) (fun x => l.getD x 0) d0 k := HDN.out
                      have e : downL (near4 W H) (fun x => l.getD x 0) (d + 1) x = j :: downL (near4 W H) (fun x => l.getD x 0) d j := by
                        show firstAt _ _ _ :: downL _ _ _ (firstAt _ _ _) = _
                        rw [HF.out]
                      rw [e] at h
                      rw [← h, List.append_assoc]
                      rfl
                  · have d2 : (l.getD j 0 == (d : Int)) = false := by simpa using c1
                    have HN6 := Lib.hid (HST.out c1)
                    clear HFA HST c1
                    generalize l.getD j 0 = vj at *
                    go_wp2_with fail
                    refine wp_region_later (by kernel_rfl) (by kernel_rfl) ?_
                    repeat (go_big_quiet_step ((fail)))
                    refine wpQuiet_nil ?_
                    intro z3
                    go_wp2_with fail
                    go_roundw
                    case rel => exact ⟨q + 1, rfl, by go_num, by omega, HN6.out, ⟨_, below_more y.ok z3.ok⟩, rfl⟩
                    case measure => simp [intOf]; omega
                · exfalso
                  obtain ⟨k1, _, k3⟩ := DW.out
                  obtain ⟨q', hq'⟩ := List.mem_iff_getElem?.1 k1
                  exact HSF.out q' (by have := (List.getElem?_eq_some_iff.1 hq').1; have := HNL2.out; omega) _ hq' k3
        · have hN9 : N ≤ n := by simp at hNb; omega
          have HNB : Hid (N + unset1 l n ≤ n) := by simp at hNb; exact hNb
          clear hNb
          go_wp2_with fail
          go_loopw [10, 11] (fun mv u wr => ∃ (c : Bool) (i : Nat) (l' : List Int), mv = .bool c ∧ u = .int .i64 i ∧ i ≤ n ∧ KL V9 wr g n l' ∧ l'.length = n ∧ SwI n (near4 W H) may src (fun x => l'.getD x 0) N i 0 ∧ (c = false → l' = l) ∧ (c = true → unset1 l' n + 1 ≤ unset1 l n)) (fun _ u _ => n - (intOf u).toNat)
          case atStart => exact ⟨false, 0, l, rfl, rfl, by omega, KL2.out, HL2.out, (HSW.out (by trivial)).start, fun _ => rfl, fun h => by cases h⟩
          case round =>
            obtain ⟨c, i, l', rfl, rfl, hi, kl, hlen, hsw, hst, hmv⟩ := hrel
            have KL3 := Lib.hid kl
            have HL3 := Lib.hid hlen
            have SW3 := Lib.hid hsw
            have HS3 := Lib.hid hst
            have HM3 := Lib.hid hmv
            clear kl hlen hsw hst hmv
            by_cases hlt : i < n
            · obtain ⟨nl, hnl⟩ : ∃ nl, (near4 W H i).length = nl := ⟨_, rfl⟩
              have HNL : Hid ((natN (near4 W H i)).length = nl) := by show _ = _; rw [← hnl]; simp [natN]
              have nl4 : nl ≤ 4 := hnl ▸ near_len W H i
              have HNL2 := Lib.hid hnl
              clear hnl
              have M0 := BX.out _ KL3.out.below
              have m0 := cell_of_heap M0 0 _ rfl
              have m1 := cell_of_heap M0 1 _ rfl
              have lM := get_lt M0
              clear M0
              have HGW := Lib.hid (own_lt KL3.out.own g rfl).2
              go_upto_region 18 with (go_at_call 33; with_reducible refine Calls.mono (GivesI.calls (NR.out _ i hlt)) ?_; rintro e w2 ⟨vn, rfl, yn, rfl, hon⟩; obtain ⟨AN, capN, rfl⟩ := hon.shape_n (n := nl) HNL.out; have HON := Lib.hid hon; clear hon)
              obtain ⟨yb, hyb⟩ : ∃ yb, wr.heap.size = yb := ⟨_, rfl⟩
              have HKO : Hid (KO V9 yn.val yb g n l' AN nl capN (natN (near4 W H i))) := ⟨KL3.out.later yn, hyb ▸ HON.out, hyb ▸ HGW.out⟩
              clear hyb HON m0 m1 lM
              generalize yn.val = VY at *
              go_wp2
              go_loopw [10, 13] (fun mv u wq => ∃ (c' : Bool) (q : Nat) (l2 : List Int), mv = .bool c' ∧ u = .int .i64 q ∧ q ≤ nl ∧ KO V9 wq yb g n l2 AN nl capN (natN (near4 W H i)) ∧ l2.length = n ∧ SwI n (near4 W H) may src (fun x => l2.getD x 0) N i q ∧ (c' = false → l2 = l) ∧ (c' = true → unset1 l2 n + 1 ≤ unset1 l n)) (fun _ u _ => nl - (intOf u).toNat)
              case atStart => exact ⟨c, 0, l', rfl, rfl, by omega, HKO.out, HL3.out, SW3.out, HS3.out, HM3.out⟩
              case round =>
                obtain ⟨c', q, l2, rfl, rfl, hq, ko, hlen, hsw, hst, hmv⟩ := hrel
                have KO4 := Lib.hid ko
                have HL4 := Lib.hid hlen
                have SW4 := Lib.hid hsw
                have HS4 := Lib.hid hst
                have HM4 := Lib.hid hmv
                clear ko hlen hsw hst hmv HKO KL3 HL3 SW3 HS3 HM3
                by_cases hql : q < nl
                · obtain ⟨gb, gf, hAN, pN⟩ := (KO4.out.near.ints (by rw [HNL.out]; omega)).2.at_ (by omega)
                  subst hAN
                  have cN := pN.at_ q hql
                  have lN := pN.lt
                  obtain ⟨j, hj⟩ : ∃ j, (near4 W H i)[q]? = some j := ⟨_, List.getElem?_eq_getElem (by rw [HNL2.out]; exact hql)⟩
                  rw [near_at hj] at cN
                  have HJ := Lib.hid hj
                  obtain ⟨hjn, hji⟩ := NX.out j i hlt (List.mem_of_getElem? hj)
                  have hbk := KO4.out.kl.below
                  have M0 := BX.out _ hbk
                  have m2 := cell_of_heap M0 2 _ rfl
                  have lM := get_lt M0
                  have hp5 := Hp.out.later ⟨_, below_more hb9 hbk⟩
                  have ci := hp5.at_ i hlt
                  have lb := hp5.lt
                  obtain ⟨oi, fzz⟩ := KO4.out.kl.own.cell HL4.out hlt
                  obtain ⟨oj, _⟩ := KO4.out.kl.own.cell HL4.out hjn
                  have foi := fzz i
                  have lg := (own_lt KO4.out.kl.own g rfl).2
                  have HSK : Hid (l2.getD i 0 ≠ -1 ∨ l2.getD j 0 ≠ N ∨ may i = false → SwI n (near4 W H) may src (fun x => l2.getD x 0) N i (q + 1)) := fun h => SW4.out.skip HJ.out h
                  have HAD : Hid (l2.getD i 0 < 0 → l2.getD j 0 = N → may i = true → SwI n (near4 W H) may src (fun x => (l2.set i ((N : Int) + 1)).getD x 0) N i (q + 1) ∧ unset1 (l2.set i ((N : Int) + 1)) n + 1 = unset1 l2 n) := fun h1 h2 h3 => by
                    have e1 : l2.getD i 0 = -1 := by rcases SW4.out.sgn i hlt with h | h
                                                     · exact h
                                                     · have : 0 ≤ l2.getD i 0 := h.1
                                                       omega
                    refine ⟨SW4.out.add NX.out hlt HJ.out e1 h2 h3 fun x => getD_put (by rw [HL4.out]; exact hlt), ?_⟩
                    have := unset1_set (x := (N : Int) + 1) HL4.out hlt e1 (by omega) n
                    rw [if_pos hlt] at this
                    exact this
                  have hmy := MAY.out i
                  have KP := Lib.hid (KO4.out.put HL4.out i ((N : Int) + 1))
                  generalize l2.getD i 0 = vi at *
                  generalize l2.getD j 0 = vj at *
                  obtain ⟨fi, hfi⟩ : ∃ x, f i = x := ⟨_, rfl⟩
                  rw [hfi] at ci hmy
                  have HMY := Lib.hid hmy
                  clear pN hj M0 hp5 fzz hfi hmy
                  by_cases c1 : vi < 0
                  · have d1 : decide (vi < 0) = true := decide_eq_true c1
                    by_cases c2 : vj = N
                    · subst c2
                      have d2 : ((N : Int) == (N : Int)) = true := by simp
                      by_cases c3 : fi ≤ lv
                      · have d3 : decide (fi ≤ lv) = true := decide_eq_true c3
                        have HA := Lib.hid (HAD.out c1 rfl (HMY.out.trans d3))
                        clear HAD HSK c1 c3
                        go_wp2_with fail
                        go_roundw
                        case rel =>
                          refine ⟨true, q + 1, l2.set i ((N : Int) + 1), rfl, by go_num, by omega, KP.out, by rw [List.length_set]; exact HL4.out, HA.out.1, fun h => (by cases h), fun _ => ?_⟩
                          have e := HA.out.2
                          cases c'
                          · rw [HS4.out rfl] at e ⊢; omega
                          · have := HM4.out rfl; omega
                        case measure => simp [intOf]; omega
                      · have d3 : decide (fi ≤ lv) = false := decide_eq_false c3
                        have HA := Lib.hid (HSK.out (.inr (.inr (HMY.out.trans d3))))
                        clear HAD HSK c1 c3
                        go_wp2_with fail
                        go_roundw
                        case rel => exact ⟨c', q + 1, l2, rfl, by go_num, by omega, KO4.out, HL4.out, HA.out, HS4.out, HM4.out⟩
                        case measure => simp [intOf]; omega
                    · have d2 : (vj == (N : Int)) = false := by simpa using c2
                      have HA := Lib.hid (HSK.out (.inr (.inl c2)))
                      clear HAD HSK c1 c2
                      go_wp2_with fail
                      go_roundw
                      case rel => exact ⟨c', q + 1, l2, rfl, by go_num, by omega, KO4.out, HL4.out, HA.out, HS4.out, HM4.out⟩
                      case measure => simp [intOf]; omega
                  · have d1 : decide (vi < 0) = false := decide_eq_false c1
                    have HA := Lib.hid (HSK.out (.inl (by omega)))
                    clear HAD HSK c1
                    go_wp2_with fail
                    go_roundw
                    case rel => exact ⟨c', q + 1, l2, rfl, by go_num, by omega, KO4.out, HL4.out, HA.out, HS4.out, HM4.out⟩
                    case measure => simp [intOf]; omega
                · obtain rfl : nl = q := by omega
                  have HNX := Lib.hid (SW4.out.next (by rw [HNL2.out]; exact Nat.le_refl _))
                  go_wp2_with fail
                  go_roundw
                  case rel => exact ⟨c', i + 1, l2, rfl, by go_num, by omega, KO4.out.kl, HL4.out, HNX.out, HS4.out, HM4.out⟩
                  case measure => simp [intOf]; omega
            · obtain rfl : n = i := by omega
              go_wp2_with fail
              go_roundg (unset1 l' n + (if c = true then 1 else 0))
              case measure =>
                have e := HNUM.out
                simp only [if_true] at e
                cases c
                · rw [HS3.out rfl]; simp; omega
                · have := HM3.out rfl; simp; omega
              case rel =>
                refine ⟨c, N + 1, l', by go_num, rfl, rfl, KL3.out, HL3.out, ?_, fun _ => SW3.out.round NX.out, fun h => ?_, fun x hx => ?_⟩
                · have e := HNB.out
                  cases c
                  · rw [HS3.out rfl]; simp; omega
                  · have := HM3.out rfl; simp; omega
                · have e := HS3.out h
                  have h3 := SW3.out
                  rw [e] at h3 ⊢
                  exact h3.dist (HSW.out (by trivial)) NX.out sl HSL.out
                · exact SW3.out.top x hx
end Go.Proofs.Ytelfinjnbncnlaa
namespace Go.Proofs.Ytelfinjnbncnlaa
open Go.RowKit

theorem low_any (W H : Int) (A B : Option Addr) (n cap m capS b1 b6 i : Nat) (f : Nat → Int) (y : Int) (w : World) (hi : i < n) (hp : IsInts w A n f)
    (g1 : w.heap[b1]? = some (.cells #[.int .i64 W, .int .i64 H, .slice A n cap, .slice B m capS] 25)) (g6 : w.cell? ⟨b6, 0, none⟩ = some (.int .i64 y)) (l6 : b6 < w.heap.size) :
    Gives Try.prog 56 #[.int .i64 i, .pointer (some ⟨b1, 0, none⟩), .pointer (some ⟨b6, 0, none⟩)] w (.bool (decide (f i ≤ y))) := by
  obtain ⟨ga, oa, rfl, pa⟩ := hp.at_ (by omega)
  have ca := pa.at_ i hi
  have la := pa.lt
  have m2 := cell_of_heap g1 2 _ rfl
  have l1 := get_lt g1
  clear pa hp g1
  obtain ⟨d, hd⟩ : ∃ d, decide (f i ≤ y) = d := ⟨_, rfl⟩
  rw [hd]
  generalize f i = fi at *
  go_enter Try.func56, Try.ntmps56
  go_wp2_with fail
  refine wp_region_later (by kernel_rfl) (by kernel_rfl) ?_
  repeat (go_big_quiet_step ((fail)))
  refine wpQuiet_nil ?_
  intro q
  go_wp2
  go_ret
  exact ⟨rfl, later_of (by repeat (first | exact Below.refl _ _ | (with_reducible assumption) | apply below_later | apply below_alloc | apply below_drew | apply below_drewN))⟩
set_option maxRecDepth 100000 in
set_option maxHeartbeats 1600000 in
theorem next_any (A : Option Addr) (n cap b1 b2 i x d : Nat) (o : Nat → Int) (w : World) (hi : i < n) (hx : x < n) (hp : IsInts w A n o) (ho : o x = (d : Int) + 1) (hd : d ≤ 1000)
    (g1 : w.cell? ⟨b1, 0, none⟩ = some (.slice A n cap)) (l1 : b1 < w.heap.size) (g2 : w.cell? ⟨b2, 0, none⟩ = some (.int .i64 x)) (l2 : b2 < w.heap.size) :
    Gives Try.prog 58 #[.int .i64 i, .pointer (some ⟨b1, 0, none⟩), .pointer (some ⟨b2, 0, none⟩)] w (.bool (decide (o i = d))) := by
  obtain ⟨ga, oa, rfl, pa⟩ := hp.at_ (by omega)
  have ca := pa.at_ i hi
  have cx := pa.at_ x hx
  have la := pa.lt
  rw [ho] at cx
  clear pa hp ho
  have e1 : (o i == (d : Int)) = decide (o i = d) := by by_cases h : o i = d <;> simp [h]
  obtain ⟨r, hr⟩ : ∃ r, decide (o i = d) = r := ⟨_, rfl⟩
  rw [hr] at e1 ⊢
  clear hr
  have e2 : (d : Int) + 1 - 1 = (d : Int) := by omega
  generalize o i = oi at *
  go_enter Try.func58, Try.ntmps58
  go_wp2_with fail
  refine wp_region_later (by kernel_rfl) (by kernel_rfl) ?_
  repeat (go_big_quiet_step ((fail)))
  refine wpQuiet_nil ?_
  intro q
  go_wp2
  go_ret
  exact ⟨rfl, later_of (by repeat (first | exact Below.refl _ _ | (with_reducible assumption) | apply below_later | apply below_alloc | apply below_drew | apply below_drewN))⟩
set_option maxRecDepth 100000 in
set_option maxHeartbeats 1600000 in
theorem nindex_any (m cap b1 b2 : Nat) (A : Option Addr) (c : Nat → Int) (p : Nat → Bool) (w : World) (hm : m ≤ 1000) (hp : IsInts w A m c)
    (hc : ∀ V, Below w.heap.size w V → ∀ k, k < m → Gives Try.prog 58 #[.int .i64 (c k), .pointer (some ⟨b1, 0, none⟩), .pointer (some ⟨b2, 0, none⟩)] V (.bool (p k))) :
    Calls Try.prog 57 #[.slice A m cap, .func (.func 58) #[] #[.pointer (some ⟨b1, 0, none⟩), .pointer (some ⟨b2, 0, none⟩)]] w fun e w' => ∃ r : Int, e = .returned (.int .i64 r) ∧ (∃ x : Later w, w' = x.val) ∧ ((∃ q : Nat, r = q ∧ q < m ∧ p q = true ∧ ∀ q', q' < q → p q' = false) ∨ (r = -1 ∧ ∀ q, q < m → p q = false)) := by
  have HP := Lib.hid hp
  have HC := Lib.hid hc
  clear hp hc
  go_enter Try.func57, Try.ntmps57
  go_wp2
  go_loopw [8] (fun u wr => ∃ k : Nat, k ≤ m ∧ u = .int .i64 k ∧ (∀ j, j < k → p j = false) ∧ ∃ x : Later w, wr = x.val) (fun u _ => m - (intOf u).toNat)
  case atStart => exact ⟨0, by omega, rfl, by omega, later_of (by repeat (first | exact Below.refl _ _ | (with_reducible assumption) | apply below_later | apply below_alloc | apply below_drew | apply below_drewN))⟩
  case round =>
    obtain ⟨k, hk, rfl, hall, x, rfl⟩ := hrel
    have HALL := Lib.hid hall
    clear hall
    by_cases hlt : k < m
    · obtain ⟨b, off, hB, q⟩ := (HP.out.later x).at_ (by omega)
      subst hB
      have ck := q.at_ k hlt
      have lb := q.lt
      clear q
      have A1 := Lib.hid (HC.out x.val x.ok k hlt)
      cases hF : p k
      · rw [hF] at A1
        have HN : Hid (∀ j, j < k + 1 → p j = false) := fun j hj => by
          rcases Nat.lt_or_ge j k with h | h
          · exact HALL.out j h
          · obtain rfl : j = k := by omega
            exact hF
        clear hF
        go_wp2_with (go_at_call 58; (first | (with_reducible show Calls _ _ _ (Later.val _) _; with_reducible refine Calls.mono (Later.call _ (A1.out)) ?_) | (with_reducible refine Calls.mono (Gives.calls (A1.out)) ?_)); rintro e w1 ⟨rfl, z, rfl⟩)
        go_roundw
        case rel => exact ⟨k + 1, by omega, by go_num, HN.out, later_of (by repeat (first | exact Below.refl _ _ | (with_reducible assumption) | apply below_later | apply below_alloc | apply below_drew | apply below_drewN))⟩
        case measure => simp [intOf]; omega
      · rw [hF] at A1
        have HT := Lib.hid hF
        clear hF
        go_wp2_with (go_at_call 58; (first | (with_reducible show Calls _ _ _ (Later.val _) _; with_reducible refine Calls.mono (Later.call _ (A1.out)) ?_) | (with_reducible refine Calls.mono (Gives.calls (A1.out)) ?_)); rintro e w1 ⟨rfl, z, rfl⟩)
        go_ret
        exact ⟨(k : Int), rfl, later_of (by repeat (first | exact Below.refl _ _ | (with_reducible assumption) | apply below_later | apply below_alloc | apply below_drew | apply below_drewN)), .inl ⟨k, rfl, hlt, HT.out, HALL.out⟩⟩
    · obtain rfl : k = m := by omega
      go_wp2
      go_ret
      exact ⟨(-1 : Int), rfl, later_of (by repeat (first | exact Below.refl _ _ | (with_reducible assumption) | apply below_later | apply below_alloc | apply below_drew | apply below_drewN)), .inr ⟨rfl, HALL.out⟩⟩
theorem endB_ls {m i : Nat} {f a s : Nat → Int} {lv : Int} (h : lv ≤ 1000) : endB m f a s lv i = (decide (lsTo a s m i ≤ lv) && decide (f i ≤ lv)) := by
  unfold endB lsTo
  congr 1
  by_cases h1 : 0 ≤ sillTo a s i m
  · rw [decide_eq_true h1, if_pos h1]; rfl
  · rw [decide_eq_false h1, if_neg h1, decide_eq_false (show ¬ (1001 : Int) ≤ lv by omega)]
    exact Bool.false_and _
theorem some_end {n m : Nat} {nx : Nat → List Nat} {f a s : Nat → Int} {lv : Int} {k : Nat} (hs : ∀ j, j < m → 0 ≤ s j) (h : Leaves n nx f (slOf m a s) lv k) (ha : ∀ j, j < m → 0 ≤ a j) : ∃ i, i ∈ filt (endB m f a s lv) n := by
  induction h with
  | on _ _ _ _ ih => exact ih
  | out hi hm h1 h2 =>
    rename_i i sv
    unfold slOf at hm
    obtain ⟨j, hj, e⟩ := List.mem_map.1 hm
    have hj := List.mem_range.1 hj
    simp only [Prod.mk.injEq] at e
    obtain ⟨e1, e2⟩ := e
    refine ⟨i, ?_⟩
    unfold filt
    rw [List.mem_filter, List.mem_range]
    refine ⟨hi, ?_⟩
    have ea : a j = (i : Int) := by have := ha j hj; omega
    rcases sill_facts (a := a) (s := s) (i := (i : Int)) hs with ⟨_, h4⟩ | ⟨j2, hj2, _, e4, h5⟩
    · exact absurd ea (h4 j hj)
    · have h6 := h5 j hj ea
      have h7 := hs j2 hj2
      unfold endB
      rw [decide_eq_true (show 0 ≤ sillTo a s i m by omega), decide_eq_true (show sillTo a s i m ≤ lv by omega), decide_eq_true h2]
      rfl
end Go.Proofs.Ytelfinjnbncnlaa
namespace Go.Proofs.Ytelfinjnbncnlaa
open Go.RowKit

theorem nodup_few : ∀ (n : Nat) (l : List Nat), l.Nodup → (∀ x ∈ l, x < n) → l.length ≤ n := by
  intro n
  induction n with
  | zero => intro l _ h; cases l with
    | nil => simp
    | cons a l => exact absurd (h a (by simp)) (by omega)
  | succ n ih =>
    intro l hl h
    by_cases hm : n ∈ l
    · have h1 := ih (l.erase n) (hl.erase n) fun x hx => by
        have h2 := (List.Nodup.mem_erase_iff hl).1 hx
        have := h x h2.2
        have := h2.1
        omega
      rw [List.length_erase_of_mem hm] at h1
      omega
    · have h1 := ih l hl fun x hx => by
        have := h x hx
        by_cases e : x = n
        · subst e; exact absurd hx hm
        · omega
      omega
theorem Dist.down_all {n : Nat} {nx : Nat → List Nat} {may : Nat → Bool} {sl : List Nat} {o : Nat → Int} (h : Dist n nx may sl o) (hx : ∀ i j, j < n → i ∈ nx j → i < n ∧ j ∈ nx i) : ∀ (d x : Nat), x < n → o x = d →
    (downL nx o d x).Nodup ∧ (∀ y, y ∈ downL nx o d x → y < n ∧ 0 ≤ o y ∧ o y < d) ∧ (downL nx o d x).length = d
  | 0, _, _, _ => ⟨List.nodup_nil, fun y hy => (by cases hy), rfl⟩
  | d + 1, x, hxn, hd => by
    obtain ⟨k1, k2, k3⟩ := h.down hx hxn (d := d) (by rw [hd]; omega)
    obtain ⟨i1, i2, i3⟩ := h.down_all hx d _ k2 k3
    refine ⟨?_, fun y hy => ?_, ?_⟩
    · show (firstAt o d (nx x) :: downL nx o d (firstAt o d (nx x))).Nodup
      refine List.nodup_cons.2 ⟨fun hm => ?_, i1⟩
      have := (i2 _ hm).2.2
      omega
    · rcases List.mem_cons.1 (show y ∈ firstAt o d (nx x) :: downL nx o d (firstAt o d (nx x)) from hy) with rfl | hy
      · exact ⟨k2, by omega, by omega⟩
      · obtain ⟨a1, a2, a3⟩ := i2 y hy
        exact ⟨a1, a2, by omega⟩
    · show (downL nx o d (firstAt o d (nx x))).length + 1 = d + 1
      rw [i3]
theorem Dist.le_n {n : Nat} {nx : Nat → List Nat} {may : Nat → Bool} {sl : List Nat} {o : Nat → Int} (h : Dist n nx may sl o) (hx : ∀ i j, j < n → i ∈ nx j → i < n ∧ j ∈ nx i) {x : Nat} (hxn : x < n) : (o x).toNat ≤ n := by
  rcases h.sgn x hxn with e | e
  · rw [e]; exact Nat.zero_le _
  · obtain ⟨i1, i2, i3⟩ := h.down_all hx (o x).toNat x hxn (by omega)
    have := nodup_few n _ i1 fun y hy => (i2 y hy).1
    omega
theorem ints_natN {w : World} {base n cap : Nat} {A : Option Addr} {l : List Nat} (h : OwnI w base (.slice A n cap) (natN l)) (hn : l.length = n) (hs : n ≤ 9223372036854775807) : IsInts w A n fun i => ((l.getD i 0 : Nat) : Int) := by
  have k := (h.ints (by simp only [natN, List.length_map]; omega)).2
  have e : (fun i => (natN l).getD i 0) = fun i => ((l.getD i 0 : Nat) : Int) := by
    funext i
    simp only [natN, List.getD_eq_getElem?_getD, List.getElem?_map]
    cases l[i]? <;> rfl
  rwa [e] at k
/-- The three boxes: the fen, the square, the level. -/
structure B3 (w V : World) (b3 b4 b5 : Nat) (F : Obj) (x : Int) (lv : Int) : Prop where
  below : Below w.heap.size w V
  h3 : V.heap[b3]? = some F
  h4 : V.heap[b4]? = some (.cells #[.int .i64 x] 3 (0, 0))
  h5 : V.heap[b5]? = some (.cells #[.int .i64 lv] 3 (0, 0))
theorem B3.to {w V V' : World} {b3 b4 b5 : Nat} {F : Obj} {x lv : Int} (h : B3 w V b3 b4 b5 F x lv) (hb : Below V.heap.size V V') : B3 w V' b3 b4 b5 F x lv :=
  ⟨below_more h.below hb, (hb.block _ (get_lt h.h3)).trans h.h3, (hb.block _ (get_lt h.h4)).trans h.h4, (hb.block _ (get_lt h.h5)).trans h.h5⟩
theorem B3.grown {w V V' : World} {b3 b4 b5 yb : Nat} {F : Obj} {x lv : Int} {v : Value} {l : List Int} (h : B3 w V b3 b4 b5 F x lv) (ho : OwnI V yb v l) (hy : w.heap.size ≤ yb) (h3 : b3 < yb) (h4 : b4 < yb) (h5 : b5 < yb) (hg : V.grownBy V' v.ownBlock) : B3 w V' b3 b4 b5 F x lv :=
  ⟨below_own h.below ho hy hg, (hg.block _ (get_lt h.h3) fun e => by have := (own_lt ho _ e.symm).1; omega).trans h.h3, (hg.block _ (get_lt h.h4) fun e => by have := (own_lt ho _ e.symm).1; omega).trans h.h4, (hg.block _ (get_lt h.h5) fun e => by have := (own_lt ho _ e.symm).1; omega).trans h.h5⟩
theorem own_kept {V V' : World} {base yb g n cap : Nat} {v : Value} {l l2 : List Int} (h : OwnI V base (.slice (some ⟨g, 0, none⟩) n cap) l) (hlt : g < yb) (ho : OwnI V yb v l2) (hg : V.grownBy V' v.ownBlock) : OwnI V' base (.slice (some ⟨g, 0, none⟩) n cap) l := by
  have lg := (own_lt h g rfl).2
  rcases h.2 with h2 | ⟨g', cap', cur, e, hb, hh, rest⟩
  · exact ⟨h.1, .inl h2⟩
  · simp only [Value.slice.injEq, Option.some.injEq, Addr.mk.injEq] at e
    obtain ⟨⟨rfl, -⟩, hn, rfl⟩ := e
    exact ⟨h.1, .inr ⟨g, cap, cur, by rw [← hn], hb, (hg.block g lg fun e => by have := (own_lt ho g e.symm).1; omega).trans hh, rest⟩⟩
theorem three_boxes (w : World) (F G K : Obj) : (((w.alloc F).alloc G).alloc K).heap[w.heap.size]? = some F ∧ (((w.alloc F).alloc G).alloc K).heap[w.heap.size + 1]? = some G ∧ (((w.alloc F).alloc G).alloc K).heap[w.heap.size + 1 + 1]? = some K := by
  have h1 : ((w.alloc F).alloc G).heap.size = w.heap.size + 1 + 1 := by simp
  refine ⟨?_, ?_, ?_⟩
  · exact (Below.heap_alloc _ _ _ (by rw [h1]; omega)).trans ((Below.heap_alloc _ _ _ (by simp)).trans (World.alloc_heap_new _ _))
  · exact (Below.heap_alloc _ _ _ (by rw [h1]; omega)).trans (box_two w F G)
  · have := World.alloc_heap_new ((w.alloc F).alloc G) K
    rwa [h1] at this
/-- While the ends are gathered: the boxes, the sills, the ends. -/
structure K1 (w V : World) (b3 b4 b5 : Nat) (F : Obj) (x lv : Int) (sb gs n cs yb : Nat) (sl : List Int) (v : Value) (l : List Int) : Prop where
  bx : B3 w V b3 b4 b5 F x lv
  sills : OwnI V sb (.slice (some ⟨gs, 0, none⟩) n cs) sl
  ends : OwnI V yb v l
  up : yb ≤ V.heap.size
theorem K1.to {w V V' : World} {b3 b4 b5 : Nat} {F : Obj} {x lv : Int} {sb gs n cs yb : Nat} {sl : List Int} {v : Value} {l : List Int} (h : K1 w V b3 b4 b5 F x lv sb gs n cs yb sl v l) (hb : Below V.heap.size V V') : K1 w V' b3 b4 b5 F x lv sb gs n cs yb sl v l :=
  ⟨h.bx.to hb, h.sills.later ⟨V', hb⟩, h.ends.later ⟨V', hb⟩, Nat.le_trans h.up hb.size⟩
theorem K1.grown {w V V' : World} {b3 b4 b5 : Nat} {F : Obj} {x lv : Int} {sb gs n cs yb : Nat} {sl : List Int} {v v' : Value} {l l' : List Int} (h : K1 w V b3 b4 b5 F x lv sb gs n cs yb sl v l) (hy : w.heap.size ≤ yb) (h3 : b3 < yb) (h4 : b4 < yb) (h5 : b5 < yb) (hs : gs < yb) (hg : V.grownBy V' v.ownBlock) (he : OwnI V' yb v' l') : K1 w V' b3 b4 b5 F x lv sb gs n cs yb sl v' l' :=
  ⟨h.bx.grown h.ends hy h3 h4 h5 hg, own_kept h.sills hs h.ends hg, he, Nat.le_trans h.up hg.size⟩
/-- The same with the steps and the way. -/
structure WO (w V : World) (b3 b4 b5 b11 : Nat) (F : Obj) (x : Int) (lv : Int) (gl n cl yb : Nat) (ol : List Int) (v : Value) (l : List Int) : Prop where
  bx : B3 w V b3 b4 b5 F x lv
  h11 : V.heap[b11]? = some (.cells #[.slice (some ⟨gl, 0, none⟩) n cl] 22 (0, 0))
  ol : ∃ ob, b3 < ob ∧ b4 < ob ∧ b5 < ob ∧ OwnI V ob (.slice (some ⟨gl, 0, none⟩) n cl) ol
  way : OwnI V yb v l
  lt : b3 < yb ∧ b4 < yb ∧ b5 < yb ∧ b11 < yb ∧ gl < yb ∧ w.heap.size ≤ yb ∧ w.heap.size ≤ b4 ∧ b4 ≠ b3 ∧ b4 ≠ b5
section
variable {w V : World} {b3 b4 b5 b11 : Nat} {F : Obj} {x lv : Int} {gl n cl yb : Nat} {ol : List Int} {v : Value} {l : List Int}
theorem WO.to {V' : World} (h : WO w V b3 b4 b5 b11 F x lv gl n cl yb ol v l) (hb : Below V.heap.size V V') : WO w V' b3 b4 b5 b11 F x lv gl n cl yb ol v l := by
  obtain ⟨ob, o1, o2, o3, o4⟩ := h.ol
  exact ⟨h.bx.to hb, (hb.block _ (get_lt h.h11)).trans h.h11, ⟨ob, o1, o2, o3, o4.later ⟨V', hb⟩⟩, h.way.later ⟨V', hb⟩, h.lt⟩
theorem WO.put (h : WO w V b3 b4 b5 b11 F x lv gl n cl yb ol v l) (y : Int) (hb : b4 ≠ b11) : WO w (V.setCell ⟨b4, 0, none⟩ (.int .i64 y)) b3 b4 b5 b11 F y lv gl n cl yb ol v l := by
  obtain ⟨ob, o1, o2, o3, o4⟩ := h.ol
  obtain ⟨k1, k2, k3, k4, k5, k6, k7, k8, k9⟩ := h.lt
  have far : ∀ c o, V.heap[c]? = some o → b4 ≠ c → (V.setCell ⟨b4, 0, none⟩ (.int .i64 y)).heap[c]? = some o := fun c o hc hne => (Below.heap_setCell _ _ _ _ (fun e => hne e.symm)).trans hc
  refine ⟨⟨h.bx.below.setCell (p := ⟨b4, 0, none⟩) k7 _, far _ _ h.bx.h3 k8, ?_, far _ _ h.bx.h5 k9⟩, far _ _ h.h11 hb, ⟨ob, o1, o2, o3, o4.far fun t ht => ?_⟩, h.way.far fun t ht => ?_, h.lt⟩
  · simp [World.setCell, Array.getElem?_modify, h.bx.h4]
  · have := (own_lt o4 t ht).1
    show b4 ≠ t
    omega
  · have := (own_lt h.way t ht).1
    show b4 ≠ t
    omega
theorem WO.grown {V' : World} {v' : Value} {l' : List Int} (h : WO w V b3 b4 b5 b11 F x lv gl n cl yb ol v l) (hg : V.grownBy V' v.ownBlock) (hw : OwnI V' yb v' l') : WO w V' b3 b4 b5 b11 F x lv gl n cl yb ol v' l' := by
  obtain ⟨ob, o1, o2, o3, o4⟩ := h.ol
  obtain ⟨k1, k2, k3, k4, k5, k6, k7⟩ := h.lt
  refine ⟨h.bx.grown h.way k6 k1 k2 k3 hg, (hg.block _ (get_lt h.h11) fun e => by have := (own_lt h.way _ e.symm).1; omega).trans h.h11, ⟨ob, o1, o2, o3, ?_⟩, hw, h.lt⟩
  have lg := (own_lt o4 gl rfl).2
  rcases o4.2 with h2 | ⟨g', cap, cur, e, hb, hh, rest⟩
  · exact ⟨o4.1, .inl h2⟩
  · simp only [Value.slice.injEq, Option.some.injEq, Addr.mk.injEq] at e
    obtain ⟨⟨rfl, -⟩, hn, rfl⟩ := e
    exact ⟨o4.1, .inr ⟨gl, cl, cur, by rw [← hn], hb, (hg.block gl lg fun e => by have := (own_lt h.way _ e.symm).1; omega).trans hh, rest⟩⟩
end
set_option maxRecDepth 100000 in
set_option maxHeartbeats 12800000 in
theorem wayOut_ok {W H n m : Nat} {f a s L : Nat → Int} (h : FenL W H n m f a s L) (cap capS k : Nat) (A B : Option Addr) (w : World) (hk : k < n) (hp : IsInts w A n f) (hq : IsSlu w B m a s) :
    Calls Try.prog 38 #[.agg #[.int .i64 W, .int .i64 H, .slice A n cap, .slice B m capS], .int .i64 k, .int .i64 (L k)] w (PostOut w n W H (lowB f (L k)) (filt (endB m f a s (L k)) n) k) := by
  obtain ⟨hW, hW2, hH1, hH, hn, hn1, hn2, hf, hm1, hm2, ha, hs⟩ := h.facts
  have hlv1 : L k ≤ 1000 := (h.high k hk).2
  have LS : Hid (∀ w', Below w.heap.size w w' → GivesI 54 #[.agg #[.int .i64 W, .int .i64 H, .slice A n cap, .slice B m capS]] w' (tab n (lsTo a s m))) := fun w' hb => leastSills_any h cap capS A B w' (hq.later ⟨w', hb⟩)
  have NR : Hid (∀ (w' : World) (i : Nat), i < n → GivesI 51 #[.int .i64 W, .int .i64 H, .int .i64 i] w' (natN (near4 W H i))) := fun w' i hi => near_any W H i w' hW hW2 hH (hn ▸ hi)
  have NX : Hid (∀ i j, j < n → i ∈ near4 W H j → i < n ∧ j ∈ near4 W H i) := fun i j hj hi => by rw [hn] at hj ⊢; exact ⟨near_lt hi hj, near_flip hj hi⟩
  have hse := some_end (n := n) hs ((h.lev k hk (L k)).2 (Int.le_refl _)) ha
  have HHN := Lib.hid hn
  have HPF := Lib.hid hp
  obtain ⟨i0, hi0, hz0, hz1, hz2⟩ := info_int
  obtain ⟨lv, hlv⟩ : ∃ lv, L k = lv := ⟨_, rfl⟩
  rw [hlv] at hse hlv1 ⊢
  have HEB : Hid (∀ i, endB m f a s lv i = (decide (lsTo a s m i ≤ lv) && decide (f i ≤ lv))) := fun i => endB_ls hlv1
  have HSE := Lib.hid hse
  clear hse
  generalize hend : endB m f a s lv = eb at *
  clear hend hp hq h hm1 hm2 ha hs hf hn hlv
  go_enter Try.func38, Try.ntmps38
  go_upto_region 1 with fail
  have tb := three_boxes w (.cells #[.int .i64 W, .int .i64 H, .slice A n cap, .slice B m capS] 25) (.cells #[.int .i64 k] 3) (.cells #[.int .i64 lv] 3)
  have HB0 : Hid (B3 w (((w.alloc (.cells #[.int .i64 W, .int .i64 H, .slice A n cap, .slice B m capS] 25)).alloc (.cells #[.int .i64 k] 3)).alloc (.cells #[.int .i64 lv] 3)) w.heap.size (w.heap.size + 1) (w.heap.size + 1 + 1) (.cells #[.int .i64 W, .int .i64 H, .slice A n cap, .slice B m capS] 25) k lv) := ⟨below_alloc (below_alloc (below_alloc (Below.refl _ _))), tb.1, tb.2.1, tb.2.2⟩
  have hzl : w.heap.size + 1 + 1 < (((w.alloc (.cells #[.int .i64 W, .int .i64 H, .slice A n cap, .slice B m capS] 25)).alloc (.cells #[.int .i64 k] 3)).alloc (.cells #[.int .i64 lv] 3)).heap.size := by simp
  clear tb
  generalize ((w.alloc (.cells #[.int .i64 W, .int .i64 H, .slice A n cap, .slice B m capS] 25)).alloc (.cells #[.int .i64 k] 3)).alloc (.cells #[.int .i64 lv] 3) = Z at *
  obtain ⟨b3, hb3⟩ : ∃ x, w.heap.size = x := ⟨_, rfl⟩
  obtain ⟨b4, hb4⟩ : ∃ x, w.heap.size + 1 = x := ⟨_, rfl⟩
  obtain ⟨b5, hb5⟩ : ∃ x, w.heap.size + 1 + 1 = x := ⟨_, rfl⟩
  have HLT : Hid (b3 < b4 ∧ b4 < b5 ∧ b5 < Z.heap.size ∧ w.heap.size ≤ b4) := by show _ ∧ _; omega
  rw [hb5] at HB0 ⊢
  rw [hb4] at HB0 ⊢
  rw [hb3] at HB0 ⊢
  clear hb3 hb4 hb5 hzl
  have LOW : Hid (∀ V x, B3 w V b3 b4 b5 (.cells #[.int .i64 W, .int .i64 H, .slice A n cap, .slice B m capS] 25) x lv → ∀ i : Nat, i < n → Gives Try.prog 56 #[.int .i64 i, .pointer (some ⟨b3, 0, none⟩), .pointer (some ⟨b5, 0, none⟩)] V (.bool (decide (f i ≤ lv)))) := fun V x hV i hi =>
    low_any W H A B n cap m capS b3 b5 i f lv V hi (HPF.out.later ⟨V, hV.below⟩) hV.h3 (cell_of_heap hV.h5 0 _ rfl) (get_lt hV.h5)
  have c30 := cell_of_heap HB0.out.h3 0 _ rfl
  have c31 := cell_of_heap HB0.out.h3 1 _ rfl
  have c32 := cell_of_heap HB0.out.h3 2 _ rfl
  have c33 := cell_of_heap HB0.out.h3 3 _ rfl
  have l3 := get_lt HB0.out.h3
  have hwz := HB0.out.below
  go_wp2_with (go_at_call 54; with_reducible refine Calls.mono (GivesI.calls (LS.out _ (by repeat (first | exact Below.refl _ _ | (with_reducible assumption) | apply below_later | apply below_alloc | apply below_drew | apply below_drewN)))) ?_; rintro e w1 ⟨v, rfl, z1, rfl, ho⟩; obtain ⟨gs, cs, ev, _, _, _⟩ := ho.form (tab_len n (lsTo a s m)) (by omega); subst ev; have HO := Lib.hid ho; clear ho)
  have HK0 : Hid (K1 w z1.val b3 b4 b5 (.cells #[.int .i64 W, .int .i64 H, .slice A n cap, .slice B m capS] 25) k lv Z.heap.size gs n cs z1.val.heap.size (tab n (lsTo a s m)) (.slice none 0 0) (natN (filt eb 0))) := ⟨HB0.out.to z1.ok, HO.out, OwnI.nil _ _, Nat.le_refl _⟩
  have HL1 : Hid (b3 < z1.val.heap.size ∧ b4 < z1.val.heap.size ∧ b5 < z1.val.heap.size ∧ gs < z1.val.heap.size ∧ w.heap.size ≤ z1.val.heap.size) := by
    have h1 := HLT.out
    have h2 := z1.ok.size
    have h3 := (own_lt HO.out gs rfl).2
    have h4 := hwz.size
    show _ ∧ _
    omega
  clear c30 c31 c32 c33 l3 hwz HO
  generalize z1.val.heap.size = yb at *
  generalize z1.val = V1 at *
  go_loopw [8, 19] (fun v u wr => ∃ i : Nat, u = .int .i64 i ∧ i ≤ n ∧ K1 w wr b3 b4 b5 (.cells #[.int .i64 W, .int .i64 H, .slice A n cap, .slice B m capS] 25) k lv Z.heap.size gs n cs yb (tab n (lsTo a s m)) v (natN (filt eb i))) (fun _ u _ => n - (intOf u).toNat)
  case atStart => exact ⟨0, rfl, by omega, HK0.out⟩
  case round =>
    obtain ⟨i, rfl, hi, k1⟩ := hrel
    have KM := Lib.hid k1
    clear k1 HK0
    by_cases hlt : i < n
    · obtain ⟨cs1, _⟩ := KM.out.sills.cell (tab_len n _) hlt
      rw [tab_get hlt] at cs1
      have lgs := (own_lt KM.out.sills gs rfl).2
      have c5 := cell_of_heap KM.out.bx.h5 0 _ rfl
      have l5 := get_lt KM.out.bx.h5
      have LWi := Lib.hid (LOW.out wr k KM.out.bx i hlt)
      have HE : Hid (eb i = (decide (lsTo a s m i ≤ lv) && decide (f i ≤ lv))) := HEB.out i
      obtain ⟨lm, hlm⟩ : ∃ lm, (natN (filt eb i)).length = lm := ⟨_, rfl⟩
      have hlm9 : lm ≤ 256 := by rw [← hlm]; have := filt_len eb i; simp only [natN, List.length_map]; omega
      have HLM := Lib.hid hlm
      have HNO : Hid (eb i = false → natN (filt eb (i + 1)) = natN (filt eb i)) := fun h => by rw [filt_no h]
      have HYES : Hid (eb i = true → natN (filt eb (i + 1)) = natN (filt eb i) ++ [(i : Int)]) := fun h => by rw [filt_yes h]; simp [natN]
      clear hlm
      generalize lsTo a s m i = ls at *
      generalize f i = fi at *
      by_cases h1 : ls ≤ lv
      · have d1 : decide (ls ≤ lv) = true := decide_eq_true h1
        by_cases h2 : fi ≤ lv
        · have d2 : decide (fi ≤ lv) = true := decide_eq_true h2
          have HE2 := Lib.hid (HYES.out (by rw [HE.out, d1, d2]; rfl))
          rw [d2] at LWi
          clear HNO HYES HE h1 h2
          go_upto_region 7 with (go_at_call 56; with_reducible refine Calls.mono (Gives.calls LWi.out) ?_; rintro e w1 ⟨rfl, z, rfl⟩)
          have KM2 := Lib.hid (KM.out.to z.ok)
          have hup := KM2.out.up
          clear cs1 lgs c5 l5 LWi
          generalize z.val = V2 at *
          generalize filt eb i = fl at *
          go_wp2_with (at_builtin; refine wpList_append_own _ rfl _ _ 22 rfl yb 3 i0 (.int .i64 0) 1 8 Try.underlying22 hi0 hz0 hz1 hz2 rfl (by decide) _ _ _ rfl ((own_row KM2.out.ends HLM.out).alloc _) ⟨_, 0, none⟩ 1 1 [.int .i64 (i : Nat)] rfl rfl lit_news one_int (by unfold maxLen; omega) (by omega) (by simp only [World.size_alloc]; omega) ?_; intro v5 w5 hown2 hgrow _; have HM5 : Hid (OwnI w5 yb v5 (natN fl ++ [(i : Int)])) := push_own (P := Try.prog) (w := w5) (v := v5) (by rw [HLM.out]; exact hown2); have KM5 := Lib.hid ((KM2.out.to (below_alloc (o := .cells #[.int .i64 (i : Int)] 3) (Below.refl _ V2))).grown HL1.out.2.2.2.2 HL1.out.1 HL1.out.2.1 HL1.out.2.2.1 HL1.out.2.2.2.1 hgrow HM5.out); clear hown2 hgrow)
          go_roundw
          case rel => exact ⟨i + 1, by go_num, by omega, by rw [HE2.out]; exact KM5.out⟩
          case measure => simp [intOf]; omega
        · have d2 : decide (fi ≤ lv) = false := decide_eq_false h2
          have HE2 := Lib.hid (HNO.out (by rw [HE.out, d1, d2]; rfl))
          rw [d2] at LWi
          clear HNO HYES HE h1 h2
          go_wp2_with (go_at_call 56; with_reducible refine Calls.mono (Gives.calls LWi.out) ?_; rintro e w1 ⟨rfl, z, rfl⟩)
          go_roundw
          case rel => exact ⟨i + 1, by go_num, by omega, by rw [HE2.out]; exact KM.out.to z.ok⟩
          case measure => simp [intOf]; omega
      · have d1 : decide (ls ≤ lv) = false := decide_eq_false h1
        have HE2 := Lib.hid (HNO.out (by rw [HE.out, d1]; rfl))
        clear HNO HYES HE h1
        go_wp2_with fail
        go_roundw
        case rel => exact ⟨i + 1, by go_num, by omega, by rw [HE2.out]; exact KM.out⟩
        case measure => simp [intOf]; omega
    · obtain rfl : n = i := by omega
      obtain ⟨e0, he0⟩ := HSE.out
      obtain ⟨kf, hkf⟩ : ∃ kf, (filt eb n).length = kf := ⟨_, rfl⟩
      have hkf0 : 0 < kf := by rw [← hkf]; exact List.length_pos_of_mem he0
      have hkf9 : kf ≤ 256 := by rw [← hkf]; have := filt_len eb n; omega
      have hsn : ∀ x, x ∈ filt eb n → x < n := fun x hx => by unfold filt at hx; exact List.mem_range.1 (List.mem_filter.1 hx).1
      obtain ⟨A8, c8, e8⟩ := KM.out.ends.shape_n (n := kf) (by simp only [natN, List.length_map]; exact hkf)
      subst e8
      have hi8 := ints_natN KM.out.ends hkf (by omega)
      have ST : Hid (Calls Try.prog 52 #[.agg #[.int .i64 W, .int .i64 H, .slice A n cap, .slice B m capS], .slice A8 kf c8, .func (.func 56) #[] #[.pointer (some ⟨b3, 0, none⟩), .pointer (some ⟨b5, 0, none⟩)]] wr (PostDi wr n (near4 W H) (lowB f lv) (filt eb n))) :=
        steps_low W H n cap m capS kf c8 A B A8 _ _ (lowB f lv) (filt eb n) wr hW hW2 hH1 hH HHN.out hkf hkf0 hkf9 hsn hi8 fun V hV i hi => LOW.out V k (KM.out.bx.to hV) i hi
      unfold PostDi at ST
      generalize lowB f lv = may at *
      generalize filt eb n = sl at *
      have c30 := cell_of_heap KM.out.bx.h3 0 _ rfl
      have c31 := cell_of_heap KM.out.bx.h3 1 _ rfl
      have c32 := cell_of_heap KM.out.bx.h3 2 _ rfl
      have c33 := cell_of_heap KM.out.bx.h3 3 _ rfl
      have l3 := get_lt KM.out.bx.h3
      clear hi8 hsn he0 hkf LOW HEB HSE
      go_upto_region 10 with (go_at_call 52; with_reducible refine Calls.mono ST.out ?_; rintro e w1 ⟨v9, ol, rfl, x9, rfl, ho9, hol, hd9⟩; obtain ⟨gl, cl, ev, _, _, _⟩ := ho9.form hol (by omega); subst ev; have HO9 := Lib.hid ho9; have HOL := Lib.hid hol; have HD := Lib.hid hd9; clear ho9 hol hd9)
      have hb11 : B3 w (x9.val.alloc (.cells #[.slice (some ⟨gl, 0, none⟩) n cl] 22)) b3 b4 b5 (.cells #[.int .i64 W, .int .i64 H, .slice A n cap, .slice B m capS] 25) k lv := (KM.out.bx.to x9.ok).to (below_alloc (Below.refl _ _))
      have h11 : (x9.val.alloc (.cells #[.slice (some ⟨gl, 0, none⟩) n cl] 22)).heap[x9.val.heap.size]? = some (.cells #[.slice (some ⟨gl, 0, none⟩) n cl] 22 (0, 0)) := World.alloc_heap_new _ _
      have ho11 : OwnI (x9.val.alloc (.cells #[.slice (some ⟨gl, 0, none⟩) n cl] 22)) wr.heap.size (.slice (some ⟨gl, 0, none⟩) n cl) ol := HO9.out.alloc _
      have hxs : x9.val.heap.size < (x9.val.alloc (.cells #[.slice (some ⟨gl, 0, none⟩) n cl] 22)).heap.size := by simp
      have hxr := x9.ok.size
      have hup := KM.out.up
      clear c30 c31 c32 c33 l3 HO9 ST
      have HB11 := Lib.hid hb11
      have H11 := Lib.hid h11
      have HO11 := Lib.hid ho11
      have c4 := cell_of_heap hb11.h4 0 _ rfl
      have l4 := get_lt hb11.h4
      clear hb11 h11 ho11
      obtain ⟨b11, hb11⟩ : ∃ x, x9.val.heap.size = x := ⟨_, rfl⟩
      rw [hb11] at H11 hxs hxr ⊢
      generalize x9.val.alloc (.cells #[.slice (some ⟨gl, 0, none⟩) n cl] 22) = X at *
      obtain ⟨ob, hob⟩ : ∃ x, wr.heap.size = x := ⟨_, rfl⟩
      rw [hob] at HO11 hxr hup
      clear hb11 hob
      have HLT2 : Hid (b3 < ob ∧ b4 < ob ∧ b5 < ob ∧ ob ≤ b11 ∧ b11 < X.heap.size ∧ gl < X.heap.size ∧ w.heap.size ≤ X.heap.size) := by
        have h1 := HL1.out
        have h2 := (own_lt HO11.out gl rfl).2
        have h3 := HB11.out.below.size
        show _ ∧ _
        omega
      go_wp2_with fail
      have HWO : Hid (WO w (X.alloc (.cells #[.int .i64 k] 3)) b3 b4 b5 b11 (.cells #[.int .i64 W, .int .i64 H, .slice A n cap, .slice B m capS] 25) k lv gl n cl X.heap.size ol (.slice (some ⟨X.heap.size, 0, none⟩) 1 1) (natN [k])) := by
        have h1 := HLT2.out
        have h2 := HLT.out
        exact ⟨HB11.out.to (below_alloc (Below.refl _ _)), (Below.heap_alloc _ _ _ (get_lt H11.out)).trans H11.out, ⟨ob, by omega, by omega, by omega, HO11.out.alloc _⟩, lit_own (k : Int) (Nat.le_refl _), by omega⟩
      have hne11 : b4 ≠ b11 := by have := HLT2.out; omega
      have hyl : X.heap.size ≤ (X.alloc (.cells #[.int .i64 k] 3)).heap.size := by simp
      have hwy : w.heap.size ≤ X.heap.size := HLT2.out.2.2.2.2.2.2
      obtain ⟨d0, hd0⟩ : ∃ d0, (ol.getD k 0).toNat = d0 := ⟨_, rfl⟩
      have hd9 : d0 ≤ 256 := by have := HD.out.le_n NX.out hk; simp only [hd0] at this; omega
      have HD0 := Lib.hid hd0
      clear c4 l4 KM HB11 H11 HO11 HLT2 HL1 hxr hup hxs
      generalize X.alloc (.cells #[.int .i64 k] 3) = VB at *
      generalize X.heap.size = yc at *
      go_loopg [12] d0 (fun num s12 wx => ∃ (x d : Nat) (dn : List Nat), num = d ∧ x < n ∧ (ol.getD x 0).toNat = d ∧ WO w wx b3 b4 b5 b11 (.cells #[.int .i64 W, .int .i64 H, .slice A n cap, .slice B m capS] 25) x lv gl n cl yc ol s12 (natN (k :: dn)) ∧ yc ≤ wx.heap.size ∧
        dn ++ downL (near4 W H) (fun x => ol.getD x 0) d x = downL (near4 W H) (fun x => ol.getD x 0) d0 k ∧ dn.length + d = d0)
      case atStart => exact ⟨k, d0, [], rfl, hk, hd0, HWO.out, hyl, rfl, by simp⟩
      case round =>
        clear HWO hyl hd0
        obtain ⟨x, d, dn, hnd, hxn, hxd, wo, hyw, hdn, hdl⟩ := hrel
        have HND := Lib.hid hnd
        have W5 := Lib.hid wo
        have HDN := Lib.hid hdn
        clear hnd wo hdn
        obtain ⟨_, _, _, _, hol5⟩ := W5.out.ol
        obtain ⟨ox, _⟩ := hol5.cell HOL.out hxn
        have lg := (own_lt hol5 gl rfl).2
        have c11 := cell_of_heap W5.out.h11 0 _ rfl
        have l11 := get_lt W5.out.h11
        have c4 := cell_of_heap W5.out.bx.h4 0 _ rfl
        have l4 := get_lt W5.out.bx.h4
        clear hol5
        cases d with
        | zero =>
          have c1 : ¬ 0 < ol.getD x 0 := by omega
          have d1 : decide (0 < ol.getD x 0) = false := decide_eq_false c1
          generalize ol.getD x 0 = vx at *
          go_wp2_with fail
          go_ret
          have e : natN (k :: dn) = natN (k :: downL (near4 W H) (fun x => ol.getD x 0) d0 k) := by
            have h : dn ++ [] = downL (near4 W H) (fun x => ol.getD x 0) d0 k := HDN.out
            rw [List.append_nil] at h
            rw [h]
          exact ⟨_, fun x => ol.getD x 0, rfl, ⟨_, W5.out.bx.below⟩, rfl, by rw [HD0.out, ← e]; exact W5.out.way.mono hwy, HD.out⟩
        | succ d =>
          have hx1 : ol.getD x 0 = (d : Int) + 1 := by omega
          have DW := Lib.hid (HD.out.down NX.out hxn hx1)
          have d1 : decide (0 < ol.getD x 0) = true := decide_eq_true (by omega)
          have hd8 : d ≤ 256 := by omega
          rw [hx1] at ox d1
          clear hxd
          obtain ⟨nl, hnl⟩ : ∃ nl, (near4 W H x).length = nl := ⟨_, rfl⟩
          have HNL : Hid ((natN (near4 W H x)).length = nl) := by show _ = _; rw [← hnl]; simp [natN]
          have nl4 : nl ≤ 4 := hnl ▸ near_len W H x
          have HNL2 := Lib.hid hnl
          have HX1 := Lib.hid hx1
          clear hnl hx1
          have c30 := cell_of_heap W5.out.bx.h3 0 _ rfl
          have c31 := cell_of_heap W5.out.bx.h3 1 _ rfl
          have l3 := get_lt W5.out.bx.h3
          go_upto_region 13 with (go_at_call 51; with_reducible refine Calls.mono (GivesI.calls (NR.out _ x hxn)) ?_; rintro e w2 ⟨vn, rfl, yn, rfl, hon⟩; obtain ⟨AN, capN, rfl⟩ := hon.shape_n (n := nl) HNL.out; have HON := Lib.hid (hon.ints (by rw [HNL.out]; omega)).2; clear hon)
          have W6 := Lib.hid (W5.out.to yn.ok)
          have hyw6 : yc ≤ yn.val.heap.size := Nat.le_trans hyw yn.size
          clear ox lg c11 l11 c4 l4 c30 c31 l3 W5 hyw
          generalize yn.val = VY at *
          have IX : Hid (Calls Try.prog 57 #[.slice AN nl capN, .func (.func 58) #[] #[.pointer (some ⟨b11, 0, none⟩), .pointer (some ⟨b4, 0, none⟩)]] VY fun e w' => ∃ r : Int, e = .returned (.int .i64 r) ∧ (∃ x : Later VY, w' = x.val) ∧ ((∃ q : Nat, r = q ∧ q < nl ∧ decide (ol.getD ((near4 W H x).getD q 0) 0 = d) = true ∧ ∀ q', q' < q → decide (ol.getD ((near4 W H x).getD q' 0) 0 = d) = false) ∨ (r = -1 ∧ ∀ q, q < nl → decide (ol.getD ((near4 W H x).getD q 0) 0 = d) = false))) :=
            nindex_any nl capN b11 b4 AN _ (fun q => decide (ol.getD ((near4 W H x).getD q 0) 0 = d)) VY (by omega) HON.out fun V hV q hq => by
              have W7 := W6.out.to hV
              obtain ⟨_, _, _, _, h5⟩ := W7.ol
              obtain ⟨j, hj⟩ : ∃ j, (near4 W H x)[q]? = some j := ⟨_, List.getElem?_eq_getElem (by rw [HNL2.out]; exact hq)⟩
              have e1 : (near4 W H x).getD q 0 = j := by rw [List.getD_eq_getElem?_getD, hj]; rfl
              rw [near_at hj, e1]
              exact next_any (some ⟨gl, 0, none⟩) n cl b11 b4 j x d (fun i => ol.getD i 0) V (NX.out j x hxn (List.mem_of_getElem? hj)).1 hxn (h5.ints (by rw [HOL.out]; omega)).2 HX1.out (by omega) (cell_of_heap W7.h11 0 _ rfl) (get_lt W7.h11) (cell_of_heap W7.bx.h4 0 _ rfl) (get_lt W7.bx.h4)
          go_upto_region 14 with (go_at_call 57; refine Calls.mono IX.out ?_; rintro e w3 ⟨r, rfl, ⟨yx, rfl⟩, hr⟩; have HRR := Lib.hid hr; clear hr)
          have hq : ∃ q j : Nat, r = q ∧ q < nl ∧ (near4 W H x)[q]? = some j ∧ ol.getD j 0 = d ∧ firstAt (fun x => ol.getD x 0) d (near4 W H x) = j := by
            have getq : ∀ q, q < nl → ∃ j, (near4 W H x)[q]? = some j ∧ (near4 W H x).getD q 0 = j := fun q hq => by
              have hj : (near4 W H x)[q]? = some ((near4 W H x)[q]'(by rw [HNL2.out]; exact hq)) := List.getElem?_eq_getElem (by rw [HNL2.out]; exact hq)
              exact ⟨_, hj, by rw [List.getD_eq_getElem?_getD, hj]; rfl⟩
            rcases HRR.out with ⟨q, rfl, hq, h1, h2⟩ | ⟨_, h2⟩
            · obtain ⟨j, hj, ej⟩ := getq q hq
              have e1 : ol.getD j 0 = d := by rw [← ej]; exact of_decide_eq_true h1
              refine ⟨q, j, rfl, hq, hj, e1, firstAt_get hj e1 fun q' hq' j' hj' => ?_⟩
              have := of_decide_eq_false (h2 q' hq')
              rw [show (near4 W H x).getD q' 0 = j' by rw [List.getD_eq_getElem?_getD, hj']; rfl] at this
              exact this
            · exfalso
              obtain ⟨k1, _, k3⟩ := DW.out
              obtain ⟨q', hq'⟩ := List.mem_iff_getElem?.1 k1
              have hql : q' < nl := by have := (List.getElem?_eq_some_iff.1 hq').1; have := HNL2.out; omega
              have := of_decide_eq_false (h2 q' hql)
              rw [show (near4 W H x).getD q' 0 = _ by rw [List.getD_eq_getElem?_getD, hq']] at this
              exact this k3
          obtain ⟨q, j, rfl, hql, hj, c1, hfa⟩ := hq
          have hjn := (NX.out j x hxn (List.mem_of_getElem? hj)).1
          have W7 := Lib.hid (W6.out.to yx.ok)
          have hyw7 : yc ≤ yx.val.heap.size := Nat.le_trans hyw6 yx.size
          obtain ⟨gb, gf, hAN, pN⟩ := (HON.out.later yx).at_ (by omega)
          subst hAN
          have cN := pN.at_ q hql
          have lN := pN.lt
          rw [near_at hj] at cN
          have HC1 := Lib.hid c1
          have HF := Lib.hid hfa
          clear pN hj c1 hfa HRR IX
          generalize yx.val = Y7 at *
          have c4 := cell_of_heap W7.out.bx.h4 0 _ rfl
          have l4 := get_lt W7.out.bx.h4
          have t4 : Y7.frozen? ⟨b4, 0, none⟩ = false := by simp [World.frozen?, W7.out.bx.h4]
          go_upto_region 15 with fail
          have W8 := Lib.hid (W7.out.put (j : Int) hne11)
          have hyw8 : yc ≤ (Y7.setCell ⟨b4, 0, none⟩ (.int .i64 (j : Int))).heap.size := by simp [World.setCell]; exact hyw7
          clear c4 l4 t4 cN lN W7 hyw7
          generalize Y7.setCell ⟨b4, 0, none⟩ (.int .i64 (j : Int)) = Y8 at *
          have c4 := cell_of_heap W8.out.bx.h4 0 _ rfl
          have l4 := get_lt W8.out.bx.h4
          obtain ⟨lm, hlm⟩ : ∃ lm, (natN (k :: dn)).length = lm := ⟨_, rfl⟩
          have hlm9 : lm ≤ 300 := by rw [← hlm]; simp only [natN, List.length_map, List.length_cons]; omega
          have HLM := Lib.hid hlm
          have HAPP : Hid (natN (k :: (dn ++ [j])) = natN (k :: dn) ++ [(j : Int)]) := by show _ = _; simp [natN]
          clear hlm
          go_wp2_with (at_builtin; refine wpList_append_own _ rfl _ _ 22 rfl yc 3 i0 (.int .i64 0) 1 8 Try.underlying22 hi0 hz0 hz1 hz2 rfl (by decide) _ _ _ rfl ((own_row W8.out.way HLM.out).alloc _) ⟨_, 0, none⟩ 1 1 [.int .i64 (j : Nat)] rfl rfl lit_news one_int (by unfold maxLen; omega) (by omega) (by simp only [World.size_alloc]; omega) ?_; intro v5 w5 hown2 hgrow _; have HM5 : Hid (OwnI w5 yc v5 (natN (k :: dn) ++ [(j : Int)])) := push_own (P := Try.prog) (w := w5) (v := v5) (by rw [HLM.out]; exact hown2); have W9 := Lib.hid ((W8.out.to (below_alloc (o := .cells #[.int .i64 (j : Int)] 3) (Below.refl _ Y8))).grown hgrow HM5.out); have hyw9 : yc ≤ w5.heap.size := (by have h1 := hgrow.size; simp only [World.size_alloc] at h1; omega); clear hown2 hgrow)
          go_roundg d
          case measure => have := HND.out; omega
          case rel =>
            refine ⟨j, d, dn ++ [j], rfl, hjn, by rw [HC1.out]; omega, by rw [HAPP.out]; exact W9.out, hyw9, ?_, by simp only [List.length_append, List.length_cons, List.length_nil]; omega⟩
            have h : dn ++ downL (near4 W H) (fun x => ol.getD x 0) (d + 1) x = downL (near4 W H) (fun x => ol.getD x 0) d0 k := HDN.out
            have e : downL (near4 W H) (fun x => ol.getD x 0) (d + 1) x = j :: downL (near4 W H) (fun x => ol.getD x 0) d j := by
              show firstAt _ _ _ :: downL _ _ _ (firstAt _ _ _) = _
              rw [HF.out]
            rw [e] at h
            rw [← h, List.append_assoc]
            rfl
end Go.Proofs.Ytelfinjnbncnlaa
namespace Go.Proofs.Ytelfinjnbncnlaa
open Go.RowKit

def lastZ (l : List Int) : Int := l.getD (l.length - 1) 0
/-- Where a square drains. -/
def Dr (W H n m : Nat) (f a s L : Nat → Int) (i : Nat) (y : Int) : Prop := ∃ o : Nat → Int, Dist n (near4 W H) (lowB f (L i)) (filt (endB m f a s (L i)) n) o ∧ y = lastZ (natN (i :: downL (near4 W H) o (o i).toNat i))
theorem Dr.same {W H n m : Nat} {f a s L : Nat → Int} {i : Nat} {y z : Int} (hx : ∀ i j, j < n → i ∈ near4 W H j → i < n ∧ j ∈ near4 W H i) (hi : i < n) (h : Dr W H n m f a s L i y) (k : Dr W H n m f a s L i z) : y = z := by
  obtain ⟨o, ho, rfl⟩ := h
  obtain ⟨p, hp, rfl⟩ := k
  have hs : ∀ x, x ∈ filt (endB m f a s (L i)) n → x < n := fun x hx => by unfold filt at hx; exact List.mem_range.1 (List.mem_filter.1 hx).1
  have e : ∀ x, x < n → o x = p x := fun x hx' => dist_unique ho hp hs hx'
  rw [← e i hi]
  rcases ho.sgn i hi with h1 | h1
  · rw [h1]; rfl
  · rw [downL_same ho hx e (o i).toNat i hi (by omega)]
theorem KO.to {V9 V V' : World} {yb g n : Nat} {l : List Int} {AN : Option Addr} {nl cN : Nat} {ln : List Int} (h : KO V9 V yb g n l AN nl cN ln) (hb : Below V.heap.size V V') : KO V9 V' yb g n l AN nl cN ln :=
  ⟨h.kl.later ⟨V', hb⟩, h.near.later ⟨V', hb⟩, h.lt⟩
def PostDr (w : World) (W H n m : Nat) (f a s L : Nat → Int) (P : Value → Value) (e : Ending) (w' : World) : Prop := ∃ v, ∃ t : Nat → Int, e = .returned (P v) ∧ ∃ x : Later w, w' = x.val ∧ OwnI w' w.heap.size v (tab n t) ∧ ∀ i, i < n → Dr W H n m f a s L i (t i)
theorem Drains_bad (W H : Int) (n cap m capS : Nat) (A B : Option Addr) (f a s : Nat → Int) (w : World) (hp : IsInts w A n f) (hq : IsSlu w B m a s) (hv : validF W H n f m a s = false) :
    Gives Try.prog 16 #[.agg #[.int .i64 W, .int .i64 H, .slice A n cap, .slice B m capS]] w (.tuple #[.slice none 0 0, .int .i64 30]) := by
  have V : Hid (∀ w', Below w.heap.size w w' → Gives Try.prog 23 #[.agg #[.int .i64 W, .int .i64 H, .slice A n cap, .slice B m capS]] w' (.bool false)) := fun w' hb => hv ▸ Valid_any W H A B n cap m capS f a s w' (hp.later ⟨w', hb⟩) (hq.later ⟨w', hb⟩)
  clear hp hq hv
  go_enter Try.func16, Try.ntmps16
  go_wp2_with (go_at_call 23; with_reducible refine Calls.mono (Gives.calls (V.out _ (by repeat (first | exact Below.refl _ _ | (with_reducible assumption) | apply below_later | apply below_alloc | apply below_drew | apply below_drewN)))) ?_; rintro e w1 ⟨rfl, z, rfl⟩)
  go_ret2
  exact ⟨rfl, later_of (by repeat (first | exact Below.refl _ _ | (with_reducible assumption) | apply below_later | apply below_alloc | apply below_drew | apply below_drewN))⟩
set_option maxRecDepth 100000 in
set_option maxHeartbeats 6400000 in
theorem drains_ok {W H n m : Nat} {f a s L : Nat → Int} (h : FenL W H n m f a s L) (cap capS : Nat) (A B : Option Addr) (w : World) (hp : IsInts w A n f) (hq : IsSlu w B m a s) :
    Calls Try.prog 16 #[.agg #[.int .i64 W, .int .i64 H, .slice A n cap, .slice B m capS]] w (PostDr w W H n m f a s L fun v => .tuple #[v, .int .i64 0]) := by
  obtain ⟨hW, hW2, hH1, hH, hn, hn1, hn2, hf, hm1, hm2, ha, hs⟩ := h.facts
  have V : Hid (∀ w', Below w.heap.size w w' → Gives Try.prog 23 #[.agg #[.int .i64 W, .int .i64 H, .slice A n cap, .slice B m capS]] w' (.bool true)) := fun w' hb => h.valid ▸ Valid_any W H A B n cap m capS f a s w' (hp.later ⟨w', hb⟩) (hq.later ⟨w', hb⟩)
  have LV : Hid (∀ w', Below w.heap.size w w' → GivesI 25 #[.agg #[.int .i64 W, .int .i64 H, .slice A n cap, .slice B m capS]] w' (tab n L)) := fun w' hb => levelsOf_tab h cap capS A B w' (hp.later ⟨w', hb⟩) (hq.later ⟨w', hb⟩)
  have WA : Hid (∀ (w' : World) (i : Nat), i < n → Below w.heap.size w w' → Calls Try.prog 38 #[.agg #[.int .i64 W, .int .i64 H, .slice A n cap, .slice B m capS], .int .i64 i, .int .i64 (L i)] w' (PostOut w' n W H (lowB f (L i)) (filt (endB m f a s (L i)) n) i)) := fun w' i hi hb => wayOut_ok h cap capS i A B w' hi (hp.later ⟨w', hb⟩) (hq.later ⟨w', hb⟩)
  have hwh : (W : Int) * (H : Int) = (n : Int) := by rw [← Int.natCast_mul, ← hn]
  have MK : ∀ w', (Instr.makeSlice 22 (.int .i64 (n : Int)) (.int .i64 (n : Int))).run Try.prog w' = .ok (.slice (some ⟨w'.heap.size, 0, none⟩) n n) (w'.alloc (.cells (madeCells #[Value.int .i64 0] n) 3)) := fun w' => make_ints w' n (by omega)
  have hwr : IntKind.i64.wrap ((W : Int) * (H : Int)) = (n : Int) := by rw [hwh]; exact IntWalk.i64_in _ ⟨by omega, by omega⟩
  have NX : Hid (∀ i j, j < n → i ∈ near4 W H j → i < n ∧ j ∈ near4 W H i) := fun i j hj hi => by rw [hn] at hj ⊢; exact ⟨near_lt hi hj, near_flip hj hi⟩
  clear hp hq h hm1 hm2 ha hs hf hn hwh
  unfold PostOut at WA
  go_enter Try.func16, Try.ntmps16
  go_upto_region 1 with fail
  have BX : Hid (∀ V, Below (w.alloc (.cells #[.int .i64 W, .int .i64 H, .slice A n cap, .slice B m capS] 25)).heap.size (w.alloc (.cells #[.int .i64 W, .int .i64 H, .slice A n cap, .slice B m capS] 25)) V → V.heap[w.heap.size]? = some (.cells #[.int .i64 W, .int .i64 H, .slice A n cap, .slice B m capS] 25 (0, 0))) := fun V h =>
    (h.block _ (by simp)).trans (World.alloc_heap_new _ _)
  have HB9 : Hid (Below w.heap.size w (w.alloc (.cells #[.int .i64 W, .int .i64 H, .slice A n cap, .slice B m capS] 25))) := below_alloc (Below.refl _ _)
  obtain ⟨b2, hb2⟩ : ∃ b2, w.heap.size = b2 := ⟨_, rfl⟩
  rw [hb2] at BX ⊢
  clear hb2
  generalize w.alloc (.cells #[.int .i64 W, .int .i64 H, .slice A n cap, .slice B m capS] 25) = V9 at *
  have hM := BX.out V9 (Below.refl _ _)
  have m0 := cell_of_heap hM 0 _ rfl
  have m1 := cell_of_heap hM 1 _ rfl
  have m2 := cell_of_heap hM 2 _ rfl
  have m3 := cell_of_heap hM 3 _ rfl
  have lM := get_lt hM
  have hb9 := HB9.out
  go_upto_region 4 with ((go_at_call 23; with_reducible refine Calls.mono (Gives.calls (V.out _ (by repeat (first | exact Below.refl _ _ | (with_reducible assumption) | apply below_later | apply below_alloc | apply below_drew | apply below_drewN)))) ?_; rintro e w1 ⟨rfl, z, rfl⟩); have hM2 := BX.out z.val (by repeat (first | exact Below.refl _ _ | (with_reducible assumption) | apply below_later | apply below_alloc | apply below_drew | apply below_drewN)); have m0 := cell_of_heap hM2 0 _ rfl; have m1 := cell_of_heap hM2 1 _ rfl; have lM := get_lt hM2)
  have kl0 : KL V9 (z.val.alloc (.cells (madeCells #[Value.int .i64 0] n) 3)) z.val.heap.size n (List.replicate n 0) := ⟨by repeat (first | exact Below.refl _ _ | (with_reducible assumption) | apply below_later | apply below_alloc | apply below_drew | apply below_drewN), made_own z.val n _ (by have := z.size; omega) (by omega)⟩
  clear MK m0 m1 m2 m3 lM hM hM2 hwr
  generalize z.val.heap.size = g at *
  generalize z.val.alloc (.cells (madeCells #[Value.int .i64 0] n) 3) = V0 at *
  have KL0 := Lib.hid kl0
  have hM := BX.out V0 kl0.below
  have hbv : Below w.heap.size w V0 := below_more hb9 kl0.below
  have m0 := cell_of_heap hM 0 _ rfl
  have m1 := cell_of_heap hM 1 _ rfl
  have m2 := cell_of_heap hM 2 _ rfl
  have m3 := cell_of_heap hM 3 _ rfl
  have lM := get_lt hM
  have lg := (own_lt kl0.own g rfl).2
  clear kl0 hM
  go_wp2_with (go_at_call 25; with_reducible refine Calls.mono (GivesI.calls (LV.out _ (by repeat (first | exact Below.refl _ _ | (with_reducible assumption) | apply below_later | apply below_alloc | apply below_drew | apply below_drewN)))) ?_; rintro e w1 ⟨v, rfl, z1, rfl, ho⟩; obtain ⟨A1, c1, rfl⟩ := ho.shape_n (n := n) (tab_len _ _); obtain ⟨gL, cL, eL, _, hgl, _⟩ := ho.form (tab_len n L) (by omega); simp only [Value.slice.injEq] at eL; obtain ⟨rfl, _, rfl⟩ := eL; have HO := Lib.hid ho; clear ho)
  have HKO : Hid (KO V9 z1.val V0.heap.size g n (List.replicate n 0) (some ⟨gL, 0, none⟩) n c1 (tab n L)) := ⟨KL0.out.later z1, HO.out, lg⟩
  clear m0 m1 m2 m3 lM lg KL0 HO hbv hgl
  generalize V0.heap.size = yb at *
  generalize z1.val = V1 at *
  go_loopw [20] (fun u wr => ∃ (i : Nat) (l : List Int), u = .int .i64 i ∧ i ≤ n ∧ KO V9 wr yb g n l (some ⟨gL, 0, none⟩) n c1 (tab n L) ∧ l.length = n ∧ ∀ j, j < i → Dr W H n m f a s L j (l.getD j 0)) (fun u _ => n - (intOf u).toNat)
  case atStart => exact ⟨0, _, rfl, by omega, HKO.out, by simp, by omega⟩
  case round =>
    obtain ⟨i, l, rfl, hi, ko, hlen, hall⟩ := hrel
    have KO1 := Lib.hid ko
    have HLEN := Lib.hid hlen
    have HALL := Lib.hid hall
    clear ko hlen hall HKO
    by_cases hlt : i < n
    · obtain ⟨cl, _⟩ := KO1.out.near.cell (tab_len n L) hlt
      rw [tab_get hlt] at cl
      have lgL := (own_lt KO1.out.near gL rfl).2
      have M0 := BX.out _ KO1.out.kl.below
      have m0 := cell_of_heap M0 0 _ rfl
      have m1 := cell_of_heap M0 1 _ rfl
      have m2 := cell_of_heap M0 2 _ rfl
      have m3 := cell_of_heap M0 3 _ rfl
      have lM := get_lt M0
      have WAi := Lib.hid (WA.out wr i hlt (below_more hb9 KO1.out.kl.below))
      have HDR : Hid (∀ o, Dist n (near4 W H) (lowB f (L i)) (filt (endB m f a s (L i)) n) o → Dr W H n m f a s L i (lastZ (natN (i :: downL (near4 W H) o (o i).toNat i)))) := fun o ho => ⟨o, ho, rfl⟩
      have HLE : Hid (∀ o, Dist n (near4 W H) (lowB f (L i)) (filt (endB m f a s (L i)) n) o → (o i).toNat ≤ n) := fun o ho => ho.le_n NX.out hlt
      have HDW : Hid (∀ o, Dist n (near4 W H) (lowB f (L i)) (filt (endB m f a s (L i)) n) o → (downL (near4 W H) o (o i).toNat i).length ≤ 256) := fun o ho => by
        rcases ho.sgn i hlt with e | e
        · rw [e]; exact Nat.zero_le _
        · have h1 := (ho.down_all NX.out (o i).toNat i hlt (by omega)).2.2
          have h2 := HLE.out o ho
          omega
      generalize lowB f (L i) = may at *
      generalize filt (endB m f a s (L i)) n = sl at *
      obtain ⟨li, hli⟩ : ∃ li, L i = li := ⟨_, rfl⟩
      rw [hli] at WAi cl
      clear M0 hli
      go_upto_region 8 with (go_at_call 38; refine Calls.mono WAi.out ?_; rintro e w1 ⟨v, o, rfl, x, rfl, ho, hd⟩; have HD1 := HDW.out o hd; have HD2 := Lib.hid (HDR.out o hd); generalize downL (near4 W H) o (o i).toNat i = dl at *; obtain ⟨lm, hlm⟩ : ∃ lm, dl.length = lm := ⟨_, rfl⟩; have hlz : (natN (i :: dl)).length = lm + 1 := (by simp [natN, hlm]); obtain ⟨g7, c7, e7, _, _, _⟩ := ho.form hlz (by omega); subst e7; obtain ⟨cz, _⟩ := ho.cell hlz (show lm < lm + 1 by omega); have lz := (own_lt ho g7 rfl).2; have HZ : Hid ((natN (i :: dl)).getD lm 0 = lastZ (natN (i :: dl))) := (by show _ = lastZ _; unfold lastZ; rw [hlz]; rfl); clear ho hd)
      rw [HZ.out] at cz
      have KO2 := Lib.hid (KO1.out.to x.ok)
      have lg := (own_lt KO2.out.kl.own g rfl).2
      obtain ⟨cg, fz⟩ := KO2.out.kl.own.cell HLEN.out hlt
      have fg := fz i
      have hlm9 : lm ≤ 256 := by rw [← hlm]; exact HD1
      generalize lastZ (natN (i :: dl)) = y at *
      clear cl lgL m0 m1 m2 m3 lM WAi HDR HLE HDW HZ fz HD1 hlz hlm
      generalize x.val = X at *
      go_wp2_with fail
      go_roundw
      case rel =>
        refine ⟨i + 1, l.set i y, by go_num, by omega, KO2.out.put HLEN.out i y, by rw [List.length_set]; exact HLEN.out, fun j hj => ?_⟩
        rw [getD_put (by rw [HLEN.out]; exact hlt)]
        by_cases c : j = i
        · subst c; rw [if_pos rfl]; exact HD2.out
        · rw [if_neg c]; exact HALL.out j (by omega)
      case measure => simp [intOf]; omega
    · obtain rfl : n = i := by omega
      go_wp2
      go_ret2
      refine ⟨_, fun j => l.getD j 0, rfl, ⟨_, below_more HB9.out KO1.out.kl.below⟩, rfl, ?_, HALL.out⟩
      rw [show tab n (fun j => l.getD j 0) = l from (list_eq (tab_len _ _) HLEN.out fun j hj => tab_get hj)]
      exact KO1.out.kl.own.mono HB9.out.size
end Go.Proofs.Ytelfinjnbncnlaa
namespace Go.Proofs.Ytelfinjnbncnlaa
open Go.RowKit

set_option maxRecDepth 100000 in
set_option maxHeartbeats 6400000 in
theorem rdrains_ok {W H n m : Nat} {f a s L : Nat → Int} (h : FenL W H n m f a s L) (cap capS b off : Nat) (B : Option Addr) (w : World) (hp : Ints w b off n f) (hq : IsSlu w B m a s) :
    Calls Try.prog 18 #[.agg #[.int .i64 W, .int .i64 H, .slice (some ⟨b, off, none⟩) n cap, .slice B m capS]] w (PostDr w W H n m f a s L fun v => v) := by
  obtain ⟨hW, hW2, hH1, hH, hn, hn1, hn2, hf, hm1, hm2, ha, hs⟩ := h.facts
  have WA : Hid (∀ (w' : World) (i : Nat), i < n → Below w.heap.size w w' → Calls Try.prog 40 #[.agg #[.int .i64 W, .int .i64 H, .slice (some ⟨b, off, none⟩) n cap, .slice B m capS], .int .i64 i] w' (PostOut w' n W H (lowB f (L i)) (filt (endB m f a s (L i)) n) i)) := fun w' i hi hb => rout_ok h cap capS i b off B w' hi (hp.later ⟨w', hb⟩) (hq.later ⟨w', hb⟩)
  have NX : Hid (∀ i j, j < n → i ∈ near4 W H j → i < n ∧ j ∈ near4 W H i) := fun i j hj hi => by rw [hn] at hj ⊢; exact ⟨near_lt hi hj, near_flip hj hi⟩
  obtain ⟨i0, hi0, hz0, hz1, hz2⟩ := info_int
  clear hp hq h hm1 hm2 ha hs hf hn
  unfold PostOut at WA
  go_enter Try.func18, Try.ntmps18
  go_upto_region 1 with fail
  have BX : Hid (∀ V, Below (w.alloc (.cells #[.int .i64 W, .int .i64 H, .slice (some ⟨b, off, none⟩) n cap, .slice B m capS] 25)).heap.size (w.alloc (.cells #[.int .i64 W, .int .i64 H, .slice (some ⟨b, off, none⟩) n cap, .slice B m capS] 25)) V → V.heap[w.heap.size]? = some (.cells #[.int .i64 W, .int .i64 H, .slice (some ⟨b, off, none⟩) n cap, .slice B m capS] 25 (0, 0))) := fun V h =>
    (h.block _ (by simp)).trans (World.alloc_heap_new _ _)
  have HB9 : Hid (Below w.heap.size w (w.alloc (.cells #[.int .i64 W, .int .i64 H, .slice (some ⟨b, off, none⟩) n cap, .slice B m capS] 25))) := below_alloc (Below.refl _ _)
  obtain ⟨b2, hb2⟩ : ∃ b2, w.heap.size = b2 := ⟨_, rfl⟩
  rw [hb2] at BX ⊢
  clear hb2
  generalize w.alloc (.cells #[.int .i64 W, .int .i64 H, .slice (some ⟨b, off, none⟩) n cap, .slice B m capS] 25) = V9 at *
  go_wp2_with fail
  go_loopw [3, 4] (fun v u wr => ∃ (i : Nat) (l : List Int), u = .int .i64 i ∧ i ≤ n ∧ Below V9.heap.size V9 wr ∧ OwnI wr V9.heap.size v l ∧ l.length = i ∧ ∀ j, j < i → Dr W H n m f a s L j (l.getD j 0)) (fun _ u _ => n - (intOf u).toNat)
  case atStart => exact ⟨0, [], rfl, by omega, Below.refl _ _, OwnI.nil _ _, rfl, by omega⟩
  case round =>
    obtain ⟨i, l, rfl, hi, hbe, hom, hlen, hall⟩ := hrel
    have HBE := Lib.hid hbe
    have HOM := Lib.hid hom
    have HLEN := Lib.hid hlen
    have HALL := Lib.hid hall
    clear hbe hom hlen hall
    have M0 := BX.out _ HBE.out
    have m0 := cell_of_heap M0 0 _ rfl
    have m1 := cell_of_heap M0 1 _ rfl
    have m2 := cell_of_heap M0 2 _ rfl
    have m3 := cell_of_heap M0 3 _ rfl
    have lM := get_lt M0
    clear M0
    by_cases hlt : i < n
    · have WAi := Lib.hid (WA.out wr i hlt (below_more HB9.out HBE.out))
      have HDR : Hid (∀ o, Dist n (near4 W H) (lowB f (L i)) (filt (endB m f a s (L i)) n) o → Dr W H n m f a s L i (lastZ (natN (i :: downL (near4 W H) o (o i).toNat i)))) := fun o ho => ⟨o, ho, rfl⟩
      have HDW : Hid (∀ o, Dist n (near4 W H) (lowB f (L i)) (filt (endB m f a s (L i)) n) o → (downL (near4 W H) o (o i).toNat i).length ≤ 256) := fun o ho => by
        rcases ho.sgn i hlt with e | e
        · rw [e]; exact Nat.zero_le _
        · have h1 := (ho.down_all NX.out (o i).toNat i hlt (by omega)).2.2
          have h2 := ho.le_n NX.out hlt
          omega
      generalize lowB f (L i) = may at *
      generalize filt (endB m f a s (L i)) n = sl at *
      go_upto_region 6 with (go_at_call 40; refine Calls.mono WAi.out ?_; rintro e w1 ⟨v, o, rfl, x, rfl, ho, hd⟩; have HD1 := HDW.out o hd; have HD2 := Lib.hid (HDR.out o hd); generalize downL (near4 W H) o (o i).toNat i = dl at *; obtain ⟨lm, hlm⟩ : ∃ lm, dl.length = lm := ⟨_, rfl⟩; have hlz : (natN (i :: dl)).length = lm + 1 := (by simp [natN, hlm]); obtain ⟨g7, c7, e7, _, _, _⟩ := ho.form hlz (by omega); subst e7; obtain ⟨cz, _⟩ := ho.cell hlz (show lm < lm + 1 by omega); have lz := (own_lt ho g7 rfl).2; have HZ : Hid ((natN (i :: dl)).getD lm 0 = lastZ (natN (i :: dl))) := (by show _ = lastZ _; unfold lastZ; rw [hlz]; rfl); clear ho hd)
      rw [HZ.out] at cz
      have HB2 := Lib.hid (below_more HBE.out x.ok)
      have HOM2 := Lib.hid (HOM.out.later x)
      have hlm9 : lm ≤ 256 := by rw [← hlm]; exact HD1
      have hvs := HB2.out.size
      generalize lastZ (natN (i :: dl)) = y at *
      clear m0 m1 m2 m3 lM WAi HDR HDW HZ HD1 hlz hlm
      generalize x.val = X at *
      go_wp2_with (at_builtin; refine wpList_append_own _ rfl _ _ 22 rfl V9.heap.size 3 i0 (.int .i64 0) 1 8 Try.underlying22 hi0 hz0 hz1 hz2 rfl (by decide) _ _ _ rfl ((own_row HOM2.out HLEN.out).alloc _) ⟨_, 0, none⟩ 1 1 [.int .i64 y] rfl rfl lit_news one_int (by unfold maxLen; omega) (by omega) (by simp only [World.size_alloc]; omega) ?_; intro v5 w5 hown2 hgrow _; have HM5 : Hid (OwnI w5 V9.heap.size v5 (l ++ [y])) := push_own (P := Try.prog) (w := w5) (v := v5) (by rw [HLEN.out]; exact hown2); have HB5 := Lib.hid (below_own (HB2.out.alloc hvs _) (HOM2.out.alloc _) (Nat.le_refl _) hgrow); clear hown2 hgrow)
      go_roundw
      case rel =>
        refine ⟨i + 1, l ++ [y], by go_num, by omega, HB5.out, HM5.out, by rw [List.length_append, HLEN.out]; rfl, fun j hj => ?_⟩
        rcases Nat.lt_or_ge j i with h1 | h1
        · rw [List.getD_eq_getElem?_getD, List.getElem?_append_left (by rw [HLEN.out]; exact h1), ← List.getD_eq_getElem?_getD]; exact HALL.out j h1
        · obtain rfl : j = i := by omega
          rw [List.getD_eq_getElem?_getD, List.getElem?_append_right (by rw [HLEN.out]; exact Nat.le_refl _), HLEN.out, Nat.sub_self]
          exact HD2.out
      case measure => simp [intOf]; omega
    · obtain rfl : n = i := by omega
      go_wp2
      go_ret
      refine ⟨_, fun j => l.getD j 0, rfl, ⟨_, below_more HB9.out HBE.out⟩, rfl, ?_, HALL.out⟩
      rw [show tab n (fun j => l.getD j 0) = l from (list_eq (tab_len _ _) HLEN.out fun j hj => tab_get hj)]
      exact HOM.out.mono HB9.out.size
end Go.Proofs.Ytelfinjnbncnlaa
