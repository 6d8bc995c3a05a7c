/- Levels, Depths, Volume: the program's and the law's own, walked. -/
import Derived.Test.YtelfinjnbncnlaaRLevels
import Derived.Test.YtelfinjnbncnlaaSLost
namespace Go.Proofs.Ytelfinjnbncnlaa
open Go.RowKit

/-- A list of one's own that is written, behind a world. -/
structure KC (V9 V : World) (g c n : Nat) (l : List Int) : Prop where
  below : Below V9.heap.size V9 V
  own : OwnI V V9.heap.size (.slice (some ⟨g, 0, none⟩) n c) l
theorem KC.later {V9 V : World} {g c n : Nat} {l : List Int} (h : KC V9 V g c n l) (x : Later V) : KC V9 x.val g c n l := ⟨below_more h.below x.ok, h.own.later x⟩
theorem KC.put {V9 V : World} {g c n : Nat} {l : List Int} (h : KC V9 V g c n l) (hl : l.length = n) (i : Nat) (x : Int) : KC V9 (V.setCell ⟨g, i, none⟩ (.int .i64 x)) g c n (l.set i x) :=
  ⟨h.below.setCell (p := ⟨g, i, none⟩) (own_lt h.own g rfl).1 _, h.own.set hl i x⟩
/-- A valid fen with its levels. -/
structure FenL (W H n m : Nat) (f a s L : Nat → Int) : Prop where
  valid : validF W H n f m a s = true
  lev : IsLevel n (near4 W H) f (slOf m a s) L
  pos : ∀ i, i < n → 0 ≤ L i
section
variable {W H n m : Nat} {f a s L : Nat → Int}
theorem FenL.facts (h : FenL W H n m f a s L) : 1 ≤ W ∧ W ≤ 16 ∧ 1 ≤ H ∧ H ≤ 16 ∧ n = W * H ∧ 1 ≤ n ∧ n ≤ 256 ∧ (∀ i, i < n → 0 ≤ f i ∧ f i ≤ 1000) ∧ 1 ≤ m ∧ m ≤ 20 ∧ (∀ j, j < m → 0 ≤ a j) ∧ (∀ j, j < m → 0 ≤ s j) := by
  obtain ⟨⟨⟨a1, a2⟩, a3, a4⟩, a5, a6, ⟨a7, a8⟩, a9⟩ := valid_facts h.valid
  have hn : n = W * H := by rw [← Int.natCast_mul] at a5; omega
  have hn1 : 1 ≤ n := by rw [hn]; exact Nat.mul_le_mul (show 1 ≤ W by omega) (show 1 ≤ H by omega)
  have hn2 : n ≤ 256 := by rw [hn]; exact Nat.mul_le_mul (show W ≤ 16 by omega) (show H ≤ 16 by omega)
  exact ⟨by omega, by omega, by omega, by omega, hn, hn1, hn2, a6, a7, a8, fun j hj => by have := a9 j hj; omega, fun j hj => by have := a9 j hj; omega⟩
theorem FenL.high (h : FenL W H n m f a s L) : ∀ i, i < n → f i ≤ L i ∧ L i ≤ 1000 := fun i hi =>
  ⟨((h.lev i hi (L i)).2 (Int.le_refl _)).high, (h.lev i hi 1000).1 (all_leave h.valid i hi)⟩
/-- What a call that gives a list, without an error, answers. -/
def PostLD (w : World) (c : List Int) (e : Ending) (w' : World) : Prop := ∃ v, e = .returned (.tuple #[v, .int .i64 0]) ∧ ∃ x : Later w, w' = x.val ∧ OwnI w' w.heap.size v c
theorem levelsOf_tab (h : FenL W H n m f a s L) (cap capS : Nat) (A B : Option Addr) (w : World) (hp : IsInts w A n f) (hq : IsSlu w B m a s) :
    GivesI 25 #[.agg #[.int .i64 W, .int .i64 H, .slice A n cap, .slice B m capS]] w (tab n L) := by
  have hv := h.valid
  obtain ⟨⟨⟨a1, a2⟩, a3, a4⟩, a5, a6, ⟨a7, a8⟩, a9⟩ := valid_facts hv
  obtain ⟨_, _, _, _, hn, hn1, _⟩ := h.facts
  obtain ⟨b, off, rfl, p⟩ := hp.at_ hn1
  obtain ⟨sb, so, rfl, q⟩ := hq.at_ a7
  have k := levelsOf_any W H n m cap capS b off sb so f (fun i => (a i).toNat) s w (by omega) (by omega) (by omega) (by omega) hn a7 a8 p ⟨q.lt, fun i hi => by
      rw [q.x i hi, show (((a i).toNat : Nat) : Int) = a i by have := a9 i hi; omega], q.y⟩ (fun i hi => by have := a9 i hi; omega) (fun i j hj hi => by rw [hn] at hi ⊢; exact near_lt hj hi) fun i hi => ⟨1000, all_leave hv i hi⟩
  refine Calls.mono k ?_
  rintro e w' ⟨v, l, rfl, x, rfl, ho, hl, hlev, _⟩
  have e : l = tab n L := list_eq hl (tab_len _ _) fun i hi => by rw [tab_get hi]; exact level_unique hlev h.lev hi
  exact ⟨v, rfl, x, rfl, e ▸ ho⟩
theorem Levels_tab (h : FenL W H n m f a s L) (cap capS : Nat) (A B : Option Addr) (w : World) (hp : IsInts w A n f) (hq : IsSlu w B m a s) :
    Calls Try.prog 21 #[.agg #[.int .i64 W, .int .i64 H, .slice A n cap, .slice B m capS]] w (PostLD w (tab n L)) := by
  refine Calls.mono (Levels_ok W H n cap m capS A B f a s w hp hq h.valid) ?_
  rintro e w' ⟨v, l, rfl, x, rfl, ho, hl, hlev, _⟩
  have e : l = tab n L := list_eq hl (tab_len _ _) fun i hi => by rw [tab_get hi]; exact level_unique hlev h.lev hi
  exact ⟨v, rfl, x, rfl, e ▸ ho⟩
/-- The levels, of which the first k are less their heights. -/
def depTo (n : Nat) (f L : Nat → Int) (k : Nat) : List Int := tab n fun i => if i < k then L i - f i else L i
theorem dep_get {i k : Nat} (hi : i < n) : (depTo n f L k).getD i 0 = if i < k then L i - f i else L i := tab_get hi
theorem dep_step {k : Nat} (hk : k < n) : (depTo n f L k).set k (L k - f k) = depTo n f L (k + 1) :=
  list_eq (n := n) (by rw [List.length_set]; exact tab_len _ _) (tab_len _ _) fun i hi => by
    rw [getD_put (by unfold depTo; rw [tab_len]; exact hk), dep_get hi, dep_get hi]
    by_cases c : i = k
    · subst c; rw [if_pos rfl, if_pos (by omega)]
    · rw [if_neg c]
      by_cases d : i < k
      · rw [if_pos d, if_pos (by omega)]
      · rw [if_neg d, if_neg (by omega)]
theorem dep_zero : depTo n f L 0 = tab n L := list_eq (n := n) (tab_len _ _) (tab_len _ _) fun i hi => by rw [dep_get hi, tab_get hi, if_neg (by omega)]
theorem dep_all : depTo n f L n = tab n fun i => L i - f i := list_eq (n := n) (tab_len _ _) (tab_len _ _) fun i hi => by rw [dep_get hi, tab_get hi, if_pos hi]
set_option maxRecDepth 100000 in
set_option maxHeartbeats 1600000 in
theorem rdepths_any (h : FenL W H n m f a s L) (cap capS b off : Nat) (B : Option Addr) (w : World) (hp : Ints w b off n f) (hq : IsSlu w B m a s) :
    GivesI 39 #[.agg #[.int .i64 W, .int .i64 H, .slice (some ⟨b, off, none⟩) n cap, .slice B m capS]] w (tab n fun i => L i - f i) := by
  obtain ⟨h1, h2, h3, h4, h5, hn1, hn2, hf, _, _, h6, h7⟩ := h.facts
  have LV : Hid (∀ w', Below w.heap.size w w' → GivesI 32 #[.agg #[.int .i64 W, .int .i64 H, .slice (some ⟨b, off, none⟩) n cap, .slice B m capS]] w' (tab n L)) := fun w' hb => rlevels_any W H n cap m capS b off B f a s L w' h1 h2 h3 h4 h5 (hp.later ⟨w', hb⟩) (hq.later ⟨w', hb⟩) hf h6 h7 h.lev h.pos fun i hi => (h.high i hi).2
  have hh := h.high
  have HP := Lib.hid hp
  have HF := Lib.hid hf
  have HH := Lib.hid hh
  clear hp hq hf hh h h5
  go_enter Try.func39, Try.ntmps39
  go_wp2_with (go_at_call 32; with_reducible refine Calls.mono (GivesI.calls (LV.out _ (by repeat (first | exact Below.refl _ _ | (with_reducible assumption) | apply below_later | apply below_alloc | apply below_drew | apply below_drewN)))) ?_; rintro e w1 ⟨v, rfl, y, rfl, ho⟩; obtain ⟨g, c, rfl, q1, q2, _⟩ := ho.form (n := n) (tab_len _ _) (by omega); have HO := Lib.hid ho; clear ho)
  have M0 : y.val.heap[w.heap.size]? = some (.cells #[.int .i64 W, .int .i64 H, .slice (some ⟨b, off, none⟩) n cap, .slice B m capS] 25) := (y.ok.block _ (by simp)).trans (World.alloc_heap_new _ _)
  have HB : Hid (Below w.heap.size w y.val) := by show Below _ _ _; repeat (first | exact Below.refl _ _ | (with_reducible assumption) | apply below_later | apply below_alloc | apply below_drew | apply below_drewN)
  have HM := Lib.hid M0
  have KC0 : Hid (KC (w.alloc (.cells #[.int .i64 W, .int .i64 H, .slice (some ⟨b, off, none⟩) n cap, .slice B m capS] 25)) y.val g c n (depTo n f L 0)) := ⟨y.ok, by rw [dep_zero]; exact HO.out⟩
  have BX : Hid (∀ V, Below (w.alloc (.cells #[.int .i64 W, .int .i64 H, .slice (some ⟨b, off, none⟩) n cap, .slice B m capS] 25)).heap.size (w.alloc (.cells #[.int .i64 W, .int .i64 H, .slice (some ⟨b, off, none⟩) n cap, .slice B m capS] 25)) V → V.heap[w.heap.size]? = some (.cells #[.int .i64 W, .int .i64 H, .slice (some ⟨b, off, none⟩) n cap, .slice B m capS] 25)) := fun V h =>
    (h.block _ (by simp)).trans (World.alloc_heap_new _ _)
  have HB9 : Hid (Below w.heap.size w (w.alloc (.cells #[.int .i64 W, .int .i64 H, .slice (some ⟨b, off, none⟩) n cap, .slice B m capS] 25))) := by show Below _ _ _; repeat (first | exact Below.refl _ _ | (with_reducible assumption) | apply below_later | apply below_alloc | apply below_drew | apply below_drewN)
  have hgw : w.heap.size < g := by simp at q1; omega
  have ng : w.heap.size ≠ g := by omega
  have ng' : g ≠ w.heap.size := by omega
  have HDG : Hid (∀ k, k < n → (depTo n f L k).getD k 0 = L k) := fun k hk => by rw [dep_get hk, if_neg (by omega)]
  have HDS : Hid (∀ k, k < n → (depTo n f L k).set k (L k - f k) = depTo n f L (k + 1)) := fun k hk => dep_step hk
  have HDA : Hid (depTo n f L n = tab n fun i => L i - f i) := dep_all
  have HDL : Hid (∀ k, (depTo n f L k).length = n) := fun k => tab_len _ _
  clear HO M0
  generalize depTo n f L = D at *
  generalize y.val = VY at *
  generalize w.alloc (.cells #[.int .i64 W, .int .i64 H, .slice (some ⟨b, off, none⟩) n cap, .slice B m capS] 25) = VZ at *
  go_loopw [4] (fun u wr => ∃ k : Nat, u = .int .i64 k ∧ k ≤ n ∧ KC VZ wr g c n (D k)) (fun u _ => n - (intOf u).toNat)
  case atStart => exact ⟨0, rfl, by omega, KC0.out⟩
  case round =>
    obtain ⟨k, rfl, hk, kc⟩ := hrel
    have KC1 := Lib.hid kc
    clear kc KC0
    by_cases hlt : k < n
    · have p := HP.out.later ⟨wr, below_more HB9.out KC1.out.below⟩
      have ci := p.at_ k hlt
      have lb := p.lt
      obtain ⟨co, fo⟩ := KC1.out.own.cell (HDL.out k) hlt
      rw [HDG.out k hlt] at co
      have fok := fo k
      have lg := (own_lt KC1.out.own g rfl).2
      have hf := HF.out k hlt
      have hh := HH.out k hlt
      have b0 : 0 ≤ L k - f k := by omega
      have b1 : L k - f k ≤ 1000 := by omega
      have E := Lib.hid (HDS.out k hlt)
      have M1 := BX.out _ KC1.out.below
      have m2 := cell_of_heap M1 2 _ rfl
      have lM := get_lt M1
      clear p fo hf hh M1
      have KC2 : Hid (∀ x : Later wr, KC VZ (x.val.setCell ⟨g, k, none⟩ (.int .i64 (L k - f k))) g c n (D (k + 1))) := fun x => E.out ▸ (KC1.out.later x).put (HDL.out k) k (L k - f k)
      generalize L k = lk at *
      generalize f k = fk at *
      go_wp2_with fail
      refine wp_region_tail 0 11 (by kernel_rfl) (by kernel_rfl) ?_
      simp only [List.take_succ_cons, List.take_zero, List.drop_succ_cons, List.drop_zero]
      repeat (go_big_quiet_step ((fail)))
      refine wpQuiet_nil ?_
      intro y9
      go_wp2
      refine calm_normal ?_
      go_wp2
      go_roundw
      case rel => exact ⟨k + 1, by go_num, by omega, KC2.out y9⟩
      case measure => simp [intOf]; omega
    · obtain rfl : k = n := by omega
      go_wp2_with fail
      go_ret
      rw [← HDA.out]
      exact ⟨_, rfl, ⟨_, below_more HB9.out KC1.out.below⟩, rfl, KC1.out.own.mono HB9.out.size⟩
theorem vol_low (h : FenL W H n m f a s L) : ∀ k, k ≤ n → -((1000 * k : Nat) : Int) ≤ sumN (fun i => L i - f i) k ∧ sumN (fun i => L i - f i) k ≤ ((1000 * k : Nat) : Int) :=
  sumN_low (c := 1000) fun i hi => by
    obtain ⟨_, _, _, _, _, _, _, hf, _⟩ := h.facts
    have := hf i hi
    have := h.high i hi
    omega
end
end Go.Proofs.Ytelfinjnbncnlaa
