/- Reed less pairs with full windows is beds less pools. -/
import Derived.Test.YtajfepogecakbaaDoorGrid
namespace Go.Proofs.YtajfepogecakbaaDoor

/-! Counting. -/
theorem nodup_le {α : Type} [BEq α] [LawfulBEq α] : ∀ {l k : List α}, l.Nodup → (∀ a ∈ l, a ∈ k) → l.length ≤ k.length
  | [], _, _, _ => Nat.zero_le _
  | a :: l, k, hn, hs => by
    rw [List.nodup_cons] at hn
    have ha := hs a (by simp)
    have := nodup_le (l := l) (k := k.erase a) hn.2 fun b hb => by
      have hne : b ≠ a := fun e => hn.1 (e ▸ hb)
      exact (List.mem_erase_of_ne hne).2 (hs b (List.mem_cons_of_mem _ hb))
    have hl := List.length_erase_of_mem ha
    have : 0 < k.length := List.length_pos_of_mem ha
    rw [List.length_cons]; omega
theorem card_le {l k : List Nat} (hn : l.Nodup) (R : Nat → Nat → Prop) (h1 : ∀ a ∈ l, ∃ b, b ∈ k ∧ R a b) (h2 : ∀ a ∈ l, ∀ a' ∈ l, ∀ b, R a b → R a' b → a = a') : l.length ≤ k.length := by
  classical
  let f : Nat → Nat := fun a => if h : a ∈ l then Classical.choose (h1 a h) else 0
  have hf : ∀ a ∈ l, f a ∈ k ∧ R a (f a) := fun a h => by
    have : f a = Classical.choose (h1 a h) := dif_pos h
    rw [this]; exact Classical.choose_spec (h1 a h)
  have hinj : ∀ a ∈ l, ∀ b ∈ l, f a = f b → a = b := fun a ha b hb e => h2 a ha b hb (f a) (hf a ha).2 (e ▸ (hf b hb).2)
  have hm : (l.map f).Nodup := by
    have gen : ∀ l : List Nat, l.Nodup → (∀ a ∈ l, ∀ b ∈ l, f a = f b → a = b) → (l.map f).Nodup := by
      intro l
      induction l with
      | nil => intro _ _; exact List.nodup_nil
      | cons c l ih2 =>
        intro hn hi
        rw [List.nodup_cons] at hn
        rw [List.map_cons, List.nodup_cons]
        refine ⟨fun hx => ?_, ih2 hn.2 fun a ha b hb => hi a (List.mem_cons_of_mem _ ha) b (List.mem_cons_of_mem _ hb)⟩
        obtain ⟨b, hb, e⟩ := List.mem_map.1 hx
        have := hi b (List.mem_cons_of_mem _ hb) c (by simp) e
        exact hn.1 (this ▸ hb)
    exact gen l hn hinj
  have := nodup_le hm fun x hx => by
    obtain ⟨a, ha, rfl⟩ := List.mem_map.1 hx
    exact (hf a ha).1
  rwa [List.length_map] at this
open Classical in
/-- How many of 0 to n - 1. -/
noncomputable def num (n : Nat) (p : Nat → Prop) : Nat := ((List.range n).filter fun i => decide (p i)).length
theorem num_congr {n : Nat} {p q : Nat → Prop} (h : ∀ i, i < n → (p i ↔ q i)) : num n p = num n q := by
  unfold num
  congr 1
  apply List.filter_congr
  intro i hi
  have := h i (List.mem_range.1 hi)
  rw [Bool.eq_iff_iff]; simp [this]
theorem num_split {n : Nat} (p q : Nat → Prop) : num n p = num n (fun i => p i ∧ q i) + num n (fun i => p i ∧ ¬ q i) := by
  unfold num
  generalize List.range n = l
  induction l with
  | nil => rfl
  | cons a l ih =>
    simp only [List.filter_cons]
    by_cases hp : p a <;> by_cases hq : q a <;> simp [hp, hq, ih] <;> omega
theorem nodup_filter_range (n : Nat) (p : Nat → Bool) : ((List.range n).filter p).Nodup := List.nodup_range.filter p
theorem num_le {n m : Nat} {p q : Nat → Prop} (R : Nat → Nat → Prop) (h1 : ∀ a, a < n → p a → ∃ b, b < m ∧ q b ∧ R a b) (h2 : ∀ a a' b, a < n → a' < n → p a → p a' → R a b → R a' b → a = a') : num n p ≤ num m q := by
  unfold num
  refine card_le (nodup_filter_range _ _) R ?_ ?_
  · intro a ha
    rw [List.mem_filter] at ha
    obtain ⟨b, hb, hq, hR⟩ := h1 a (List.mem_range.1 ha.1) (by simpa using ha.2)
    exact ⟨b, List.mem_filter.2 ⟨List.mem_range.2 hb, by simpa using hq⟩, hR⟩
  · intro a ha a' ha' b
    rw [List.mem_filter] at ha ha'
    exact h2 a a' b (List.mem_range.1 ha.1) (List.mem_range.1 ha'.1) (by simpa using ha.2) (by simpa using ha'.2)
theorem num_one {n k : Nat} (hk : k < n) : num n (fun i => i = k) = 1 := by
  have h1 := num_le (n := n) (m := 1) (p := fun i => i = k) (q := fun _ => True) (fun _ b => b = 0) (fun a _ _ => ⟨0, by omega, trivial, rfl⟩) (fun a a' b _ _ e e' _ _ => by rw [e, e'])
  have h2 := num_le (n := 1) (m := n) (q := fun i => i = k) (p := fun _ => True) (fun _ b => b = k) (fun a _ _ => ⟨k, hk, rfl, rfl⟩) (fun a a' b h h' _ _ _ _ => by omega)
  have : num 1 (fun _ => True) = 1 := by simp [num]
  omega
theorem comps_num (n : Nat) (R : Nat → Nat → Prop) : comps n R = num n (IsRoot R) := rfl

theorem lsum_filter {α : Type} (p : α → Bool) (l : List α) (f : α → Nat) : lsum (l.filter p) f + lsum (l.filter fun a => !p a) f = lsum l f := by
  induction l with
  | nil => rfl
  | cons a l ih =>
    simp only [List.filter_cons]
    cases p a <;> simp [lsum_cons] <;> omega

section
variable {W H : Nat} (reed : Nat → Bool)
def both (d : Dual) : Bool := reed d.u && reed d.v
def sEdges (W H : Nat) (reed : Nat → Bool) : List Dual := (edges W H).filter (both reed)
def cEdges (W H : Nat) (reed : Nat → Bool) : List Dual := (edges W H).filter fun d => !both reed d
theorem mem_parts {d : Dual} : d ∈ sEdges W H reed ++ cEdges W H reed ↔ d ∈ edges W H := by
  unfold sEdges cEdges
  rw [List.mem_append, List.mem_filter, List.mem_filter]
  cases h : both reed d <;> simp
theorem euler_grid (hW : 1 ≤ W) (hH : 1 ≤ H) : W * H + comps ((W - 1) * (H - 1) + 1) (Conn (dual (cEdges W H reed))) = comps (W * H) (Conn (prim (sEdges W H reed))) + (sEdges W H reed).length + 1 := by
  refine euler (all := sEdges W H reed ++ cEdges W H reed) (m := (W - 1) * (H - 1) + 1) ?_ ?_ ?_ ?_ ?_ ?_ _ _ rfl
  · intro A x hx
    have := even_edges (W := W) (H := H) hW A x hx
    rw [lsum_append]
    unfold sEdges cEdges
    rw [lsum_filter]
    exact this
  · intro d hd; exact (edges_lt ((mem_parts reed).1 hd)).1
  · intro d hd; exact (edges_lt ((mem_parts reed).1 hd)).2
  · rw [← whole_prim hW hH]
    refine comps_congr fun i j _ _ => ⟨fun h => h.mono fun e he => ?_, fun h => h.mono fun e he => ?_⟩
    · obtain ⟨d, hd, rfl⟩ := List.mem_map.1 he
      exact List.mem_map.2 ⟨d, (mem_parts reed).1 hd, rfl⟩
    · obtain ⟨d, hd, rfl⟩ := List.mem_map.1 he
      exact List.mem_map.2 ⟨d, (mem_parts reed).2 hd, rfl⟩
  · refine Eq.trans ?_ (whole_dual (W := W) (H := H))
    refine comps_congr fun i j _ _ => ⟨fun h => h.mono fun e he => ?_, fun h => h.mono fun e he => ?_⟩
    · obtain ⟨d, hd, rfl⟩ := List.mem_map.1 he
      exact List.mem_map.2 ⟨d, (mem_parts reed).1 hd, rfl⟩
    · obtain ⟨d, hd, rfl⟩ := List.mem_map.1 he
      exact List.mem_map.2 ⟨d, (mem_parts reed).2 hd, rfl⟩
  · have e0 : (sEdges W H reed ++ cEdges W H reed).length = (edges W H).length := by
      have := lsum_filter (both reed) (edges W H) fun _ => 1
      rw [lsum_const, lsum_const, lsum_const] at this
      rw [List.length_append]
      unfold sEdges cEdges
      omega
    rw [e0]
    exact edges_length hW hH

/-- Sets of squares: the beds, and every other square by itself. -/
theorem comps_beds : comps (W * H) (Conn (prim (sEdges W H reed))) = num (W * H) (fun i => IsRoot (Conn (prim (sEdges W H reed))) i ∧ reed i = true) + num (W * H) (fun i => reed i = false) := by
  rw [comps_num, num_split (IsRoot (Conn (prim (sEdges W H reed)))) (fun i => reed i = true)]
  congr 1
  apply num_congr
  intro i _
  constructor
  · rintro ⟨_, h⟩; simpa using h
  · intro h
    refine ⟨fun j hj hc => ?_, by simp [h]⟩
    have := (Conn.keeps (p := fun x => x = i) (fun a b hab => by
      obtain ⟨d, hd, e⟩ := List.mem_map.1 hab
      cases e
      have := (List.mem_filter.1 hd).2
      simp only [both, Bool.and_eq_true] at this
      constructor
      · intro e; rw [e, h] at this; exact absurd this.1 (by decide)
      · intro e; rw [e, h] at this; exact absurd this.2 (by decide)) hc).2 rfl
    omega

def Near (W : Nat) (i j : Nat) : Prop := (i % W ≤ j % W + 1 ∧ j % W ≤ i % W + 1) ∧ (i / W ≤ j / W + 1 ∧ j / W ≤ i / W + 1)
def Rim (W H i : Nat) : Prop := i % W = 0 ∨ i % W + 1 = W ∨ i / W = 0 ∨ i / W + 1 = H
/-- The places around a square. -/
def Around (W H i p : Nat) : Prop := p = pl W H (i % W) (i / W) ∨ p = pl W H (i % W + 1) (i / W) ∨ p = pl W H (i % W) (i / W + 1) ∨ p = pl W H (i % W + 1) (i / W + 1)
def FullAt (W H : Nat) (reed : Nat → Bool) (i : Nat) : Prop := i % W + 1 < W ∧ i / W + 1 < H ∧ reed i = true ∧ reed (i + 1) = true ∧ reed (i + W) = true ∧ reed (i + W + 1) = true

theorem around_in {i p : Nat} (h : Around W H i p) : ∃ a b, a ≤ 1 ∧ b ≤ 1 ∧ p = pl W H (i % W + a) (i / W + b) := by
  rcases h with h | h | h | h
  · exact ⟨0, 0, by omega, by omega, h⟩
  · exact ⟨1, 0, by omega, by omega, h⟩
  · exact ⟨0, 1, by omega, by omega, h⟩
  · exact ⟨1, 1, by omega, by omega, h⟩
theorem around_of {i a b : Nat} (ha : a ≤ 1) (hb : b ≤ 1) : Around W H i (pl W H (i % W + a) (i / W + b)) := by
  have ha' : a = 0 ∨ a = 1 := by omega
  have hb' : b = 0 ∨ b = 1 := by omega
  rcases ha' with rfl | rfl <;> rcases hb' with rfl | rfl
  · exact .inl rfl
  · exact .inr (.inr (.inl rfl))
  · exact .inr (.inl rfl)
  · exact .inr (.inr (.inr rfl))
/-- Two squares at one window are near each other. -/
theorem near_of_around {i j p : Nat} (h : Around W H i p) (k : Around W H j p) (h0 : p ≠ 0) : Near W i j := by
  obtain ⟨a, b, ha, hb, rfl⟩ := around_in h
  obtain ⟨c, d, hc, hd, e⟩ := around_in k
  obtain ⟨e1, e2⟩ := pl_inj h0 e
  unfold Near
  generalize i % W = x1 at *
  generalize j % W = x2 at *
  generalize i / W = y1 at *
  generalize j / W = y2 at *
  omega
/-- Two squares near each other have a place around both. -/
theorem around_of_near {i j : Nat} (h : Near W i j) : ∃ p, Around W H i p ∧ Around W H j p := by
  obtain ⟨⟨h1, h2⟩, h3, h4⟩ := h
  have key : ∀ s t : Nat, s ≤ t + 1 → t ≤ s + 1 → ∃ a b, a ≤ 1 ∧ b ≤ 1 ∧ s + a = t + b := fun s t h k => by
    rcases Nat.lt_trichotomy s t with h | h | h
    · exact ⟨1, 0, by omega, by omega, by omega⟩
    · exact ⟨0, 0, by omega, by omega, by omega⟩
    · exact ⟨0, 1, by omega, by omega, by omega⟩
  obtain ⟨a, b, ha, hb, e1⟩ := key _ _ h1 h2
  obtain ⟨c, d, hc, hd, e2⟩ := key _ _ h3 h4
  exact ⟨pl W H (i % W + a) (i / W + c), around_of ha hc, by rw [e1, e2]; exact around_of hb hd⟩
/-- A square on the rim has the outside around it. -/
theorem around_rim {i : Nat} (h : Rim W H i) : Around W H i 0 := by
  rcases h with h | h | h | h
  · exact .inl (by rw [pl_out]; omega)
  · exact .inr (.inl (by rw [pl_out]; omega))
  · exact .inl (by rw [pl_out]; omega)
  · exact .inr (.inr (.inl (by rw [pl_out]; omega)))
theorem rim_of_around {i : Nat} (hi : i < W * H) (h : Around W H i 0) : Rim W H i := by
  have hc := col_lt hi
  have hr := row_lt hi
  unfold Rim
  apply Classical.byContradiction
  intro hn
  have key : ∀ a b, a ≤ 1 → b ≤ 1 → pl W H (i % W + a) (i / W + b) ≠ 0 := fun a b ha hb => pl_in (by generalize i % W = x at *; omega) (by generalize i % W = x at *; omega) (by generalize i / W = y at *; omega) (by generalize i / W = y at *; omega)
  rcases h with h | h | h | h
  · exact key 0 0 (by omega) (by omega) h.symm
  · exact key 1 0 (by omega) (by omega) h.symm
  · exact key 0 1 (by omega) (by omega) h.symm
  · exact key 1 1 (by omega) (by omega) h.symm

theorem step_right {i : Nat} (h : i % W + 1 < W) : (i + 1) % W = i % W + 1 ∧ (i + 1) / W = i / W := by
  have e := cell_eq (W := W) i
  have k1 := cell_x (W := W) (x := i % W + 1) (y := i / W) h
  have k2 := cell_y (W := W) (x := i % W + 1) (y := i / W) h
  rw [show i / W * W + (i % W + 1) = i + 1 by omega] at k1 k2
  exact ⟨k1, k2⟩
theorem step_down (hW : 1 ≤ W) (i : Nat) : (i + W) % W = i % W ∧ (i + W) / W = i / W + 1 := ⟨Nat.add_mod_right _ _, Nat.add_div_right _ (by omega)⟩

/-- Both places beside an edge are around both its ends. -/
theorem edge_around (hW : 1 ≤ W) {d : Dual} (h : d ∈ edges W H) : (Around W H d.u d.f ∧ Around W H d.u d.g) ∧ (Around W H d.v d.f ∧ Around W H d.v d.g) := by
  obtain ⟨i, hi, ⟨h', rfl⟩ | ⟨_, rfl⟩⟩ := mem_edges.1 h
  · obtain ⟨e1, e2⟩ := step_right h'
    refine ⟨⟨.inr (.inl rfl), .inr (.inr (.inr rfl))⟩, ?_, ?_⟩
    · left; show pl W H (i % W + 1) (i / W) = pl W H ((i + 1) % W) ((i + 1) / W); rw [e1, e2]
    · right; right; left; show pl W H (i % W + 1) (i / W + 1) = pl W H ((i + 1) % W) ((i + 1) / W + 1); rw [e1, e2]
  · obtain ⟨e1, e2⟩ := step_down hW i
    refine ⟨⟨.inr (.inr (.inl rfl)), .inr (.inr (.inr rfl))⟩, ?_, ?_⟩
    · left; show pl W H (i % W) (i / W + 1) = pl W H ((i + W) % W) ((i + W) / W); rw [e1, e2]
    · right; left; show pl W H (i % W + 1) (i / W + 1) = pl W H ((i + W) % W + 1) ((i + W) / W); rw [e1, e2]

/-- Around a square that is not reed all places hang together over edges that are not of reed. -/
theorem around_conn {i p q : Nat} (hi : i < W * H) (hr : reed i = false) (hp : Around W H i p) (hq : Around W H i q) : Conn (dual (cEdges W H reed)) p q := by
  have hc := col_lt hi
  have hrow := row_lt hi
  have he := cell_eq (W := W) i
  -- right
  have R : Conn (dual (cEdges W H reed)) (pl W H (i % W + 1) (i / W)) (pl W H (i % W + 1) (i / W + 1)) := by
    by_cases h : i % W + 1 < W
    · exact .edge (List.mem_map.2 ⟨edR W H i, List.mem_filter.2 ⟨mem_edges.2 ⟨i, hi, .inl ⟨h, rfl⟩⟩, by show (!(reed i && reed (i + 1))) = true; rw [hr]; rfl⟩, rfl⟩)
    · rw [pl_out (j := i / W) (by omega), pl_out (j := i / W + 1) (by omega)]; exact .refl _
  have D : Conn (dual (cEdges W H reed)) (pl W H (i % W) (i / W + 1)) (pl W H (i % W + 1) (i / W + 1)) := by
    by_cases h : i / W + 1 < H
    · exact .edge (List.mem_map.2 ⟨edD W H i, List.mem_filter.2 ⟨mem_edges.2 ⟨i, hi, .inr ⟨h, rfl⟩⟩, by show (!(reed i && reed (i + W))) = true; rw [hr]; rfl⟩, rfl⟩)
    · rw [pl_out (i := i % W) (by omega), pl_out (i := i % W + 1) (by omega)]; exact .refl _
  have L : Conn (dual (cEdges W H reed)) (pl W H (i % W) (i / W)) (pl W H (i % W) (i / W + 1)) := by
    by_cases h : i % W = 0
    · rw [pl_out (j := i / W) (by omega), pl_out (j := i / W + 1) (by omega)]; exact .refl _
    · have k : (i / W) * W + (i % W - 1) = i - 1 := by omega
      have k2 := cell_x (W := W) (x := i % W - 1) (y := i / W) (by omega)
      have k3 := cell_y (W := W) (x := i % W - 1) (y := i / W) (by omega)
      rw [k] at k2 k3
      refine .edge (List.mem_map.2 ⟨edR W H (i - 1), List.mem_filter.2 ⟨mem_edges.2 ⟨i - 1, by omega, .inl ⟨by omega, rfl⟩⟩, ?_⟩, ?_⟩)
      · show (!(reed (i - 1) && reed (i - 1 + 1))) = true
        rw [Nat.sub_add_cancel (by omega), hr]; simp
      · show (pl W H ((i - 1) % W + 1) ((i - 1) / W), pl W H ((i - 1) % W + 1) ((i - 1) / W + 1)) = _
        rw [k2, k3, Nat.sub_add_cancel (Nat.pos_of_ne_zero h)]
  by_cases hp1 : p = pl W H (i % W) (i / W) ∧ False
  · exact hp1.2.elim
  · have U : ∀ x, Around W H i x → Conn (dual (cEdges W H reed)) x (pl W H (i % W + 1) (i / W + 1)) := by
      rintro x (rfl | rfl | rfl | rfl)
      · exact L.trans D
      · exact R
      · exact D
      · exact .refl _
    exact (U p hp).trans (U q hq).symm

variable {reed} {es : List (Nat × Nat)}
/-- What the pairs of squares that are not reed are. -/
def IsDry (W H : Nat) (reed : Nat → Bool) (es : List (Nat × Nat)) : Prop := ∀ i j, (i, j) ∈ es ↔ (i < W * H ∧ j < W * H ∧ reed i = false ∧ reed j = false ∧ Near W i j ∧ i ≠ j)

theorem dry_near (hes : IsDry W H reed es) {i j : Nat} (hi : i < W * H) (hj : j < W * H) (h1 : reed i = false) (h2 : reed j = false) (h : Near W i j) : Conn es i j := by
  by_cases e : i = j
  · subst e; exact .refl _
  · exact .edge ((hes i j).2 ⟨hi, hj, h1, h2, h, e⟩)
theorem dry_keep (hes : IsDry W H reed es) {i j : Nat} (h : Conn es i j) (hi : i < W * H ∧ reed i = false) : j < W * H ∧ reed j = false :=
  (Conn.keeps (p := fun x => x < W * H ∧ reed x = false) (fun a b hab => by
    obtain ⟨h1, h2, h3, h4, _⟩ := (hes a b).1 hab
    exact ⟨fun _ => ⟨h2, h4⟩, fun _ => ⟨h1, h3⟩⟩) h).1 hi
/-- Squares that hang together have places that hang together. -/
theorem places_conn (hes : IsDry W H reed es) {i j p q : Nat} (h : Conn es i j) (hi : i < W * H) (hr : reed i = false) (hp : Around W H i p) (hq : Around W H j q) : Conn (dual (cEdges W H reed)) p q := by
  induction h generalizing q with
  | refl => exact around_conn reed hi hr hp hq
  | @fwd v x hv e ih =>
    obtain ⟨h1, h2, h3, h4, h5, _⟩ := (hes v x).1 e
    obtain ⟨r, hr1, hr2⟩ := around_of_near (H := H) h5
    exact (ih hr1).trans (around_conn reed h2 h4 hr2 hq)
  | @bwd v x hv e ih =>
    obtain ⟨h1, h2, h3, h4, h5, _⟩ := (hes x v).1 e
    obtain ⟨r, hr1, hr2⟩ := around_of_near (H := H) h5
    exact (ih hr2).trans (around_conn reed h1 h3 hr1 hq)
/-- Over a set of squares away from the rim the places around stay around. -/
theorem places_keep (hW : 1 ≤ W) (hes : IsDry W H reed es) {r : Nat} (hr1 : r < W * H) (hr2 : reed r = false) (hno : ¬ ∃ c, c < W * H ∧ Rim W H c ∧ Conn es r c) {p q : Nat} (h : Conn (dual (cEdges W H reed)) p q) :
    (p ≠ 0 ∧ ∃ c, Conn es r c ∧ Around W H c p) ↔ (q ≠ 0 ∧ ∃ c, Conn es r c ∧ Around W H c q) := by
  refine Conn.keeps (p := fun x => x ≠ 0 ∧ ∃ c, Conn es r c ∧ Around W H c x) (fun a b hab => ?_) h
  obtain ⟨d, hd, e⟩ := List.mem_map.1 hab
  cases e
  obtain ⟨hd1, hd2⟩ := List.mem_filter.1 hd
  obtain ⟨⟨a1, a2⟩, a3, a4⟩ := edge_around hW hd1
  obtain ⟨lu, lv⟩ := (edges_lt hd1).1
  -- one end is no reed
  have hx : ∃ u, u < W * H ∧ reed u = false ∧ Around W H u d.f ∧ Around W H u d.g := by
    cases hu : reed d.u with
    | false => exact ⟨d.u, lu, hu, a1, a2⟩
    | true => exact ⟨d.v, lv, by simpa [both, hu] using hd2, a3, a4⟩
  obtain ⟨u, h1, h2, h3, h4⟩ := hx
  have key : ∀ x y, Around W H u x → Around W H u y → (x ≠ 0 ∧ ∃ c, Conn es r c ∧ Around W H c x) → (y ≠ 0 ∧ ∃ c, Conn es r c ∧ Around W H c y) := by
    rintro x y hx hy ⟨h0, c, hc, hcx⟩
    obtain ⟨c1, c2⟩ := dry_keep hes hc ⟨hr1, hr2⟩
    have hru : Conn es r u := hc.trans (dry_near hes c1 h1 c2 h2 (near_of_around hcx hx h0))
    refine ⟨fun e => hno ⟨u, h1, rim_of_around h1 (e ▸ hy), hru⟩, u, hru, hy⟩
  exact ⟨key _ _ h3 h4, key _ _ h4 h3⟩

/-- Which places are full windows. -/
def FullPl (W H : Nat) (reed : Nat → Bool) (p : Nat) : Prop := ∃ i, i < W * H ∧ FullAt W H reed i ∧ p = pl W H (i % W + 1) (i / W + 1)
theorem full_ne {p : Nat} (h : FullPl W H reed p) : p ≠ 0 := by
  obtain ⟨i, _, ⟨h1, h2, _⟩, rfl⟩ := h
  exact pl_in (Nat.le_add_left _ _) h1 (Nat.le_add_left _ _) h2
/-- The squares of a full window are reed. -/
theorem full_reed {p u : Nat} (h : FullPl W H reed p) (ha : Around W H u p) : reed u = true := by
  have h0 := full_ne h
  obtain ⟨i, hi, ⟨h1, h2, h3, h4, h5, h6⟩, rfl⟩ := h
  obtain ⟨a, b, hA, hB, e⟩ := around_in ha
  obtain ⟨e1, e2⟩ := pl_inj h0 e
  have cu := cell_eq (W := W) u
  have ci := cell_eq (W := W) i
  have hA' : a = 0 ∨ a = 1 := by omega
  have hB' : b = 0 ∨ b = 1 := by omega
  rcases hA' with rfl | rfl <;> rcases hB' with rfl | rfl
  · have : u = i + W + 1 := by rw [← cu, ← ci, show u / W = i / W + 1 by omega, show u % W = i % W + 1 by omega, Nat.add_mul]; omega
    rw [this]; exact h6
  · have : u = i + 1 := by rw [← cu, ← ci, show u / W = i / W by omega, show u % W = i % W + 1 by omega]; omega
    rw [this]; exact h4
  · have : u = i + W := by rw [← cu, ← ci, show u / W = i / W + 1 by omega, show u % W = i % W by omega, Nat.add_mul]; omega
    rw [this]; exact h5
  · have : u = i := by rw [← cu, ← ci, show u / W = i / W by omega, show u % W = i % W by omega]
    rw [this]; exact h3
theorem full_alone (hW : 1 ≤ W) {p q : Nat} (h : FullPl W H reed p) (hc : Conn (dual (cEdges W H reed)) q p) : q = p := by
  refine (Conn.keeps (p := fun x => x = p) (fun a b hab => ?_) hc).2 rfl
  obtain ⟨d, hd, e⟩ := List.mem_map.1 hab
  cases e
  obtain ⟨hd1, hd2⟩ := List.mem_filter.1 hd
  obtain ⟨⟨a1, a2⟩, a3, a4⟩ := edge_around hW hd1
  obtain ⟨lu, lv⟩ := (edges_lt hd1).1
  have no : ¬ (reed d.u = true ∧ reed d.v = true) := fun ⟨x, y⟩ => by simp [both, x, y] at hd2
  constructor
  · intro e; rw [e] at a1 a3; exact absurd ⟨full_reed h a1, full_reed h a3⟩ no
  · intro e; rw [e] at a2 a4; exact absurd ⟨full_reed h a2, full_reed h a4⟩ no
/-- A window that is not full has a square around that is no reed. -/
theorem not_full {p : Nat} (hp : p < (W - 1) * (H - 1) + 1) (h0 : p ≠ 0) (h : ¬ FullPl W H reed p) : ∃ c, c < W * H ∧ reed c = false ∧ Around W H c p := by
  obtain ⟨i, j, h1, h2, h3, h4, rfl⟩ := pl_sur h0 hp
  apply Classical.byContradiction
  intro hno
  have all : ∀ c, c < W * H → Around W H c (pl W H i j) → reed c = true := fun c hc ha => by
    cases hr : reed c with
    | true => rfl
    | false => exact absurd ⟨c, hc, hr, ha⟩ hno
  apply h
  have l0 := cell_lt (W := W) (H := H) (x := i - 1) (y := j - 1) (by omega) (by omega)
  have x0 := cell_x (W := W) (x := i - 1) (y := j - 1) (by omega)
  have y0 := cell_y (W := W) (x := i - 1) (y := j - 1) (by omega)
  have l1 := cell_lt (W := W) (H := H) (x := i) (y := j - 1) (by omega) (by omega)
  have l2 := cell_lt (W := W) (H := H) (x := i - 1) (y := j) (by omega) (by omega)
  have l3 := cell_lt (W := W) (H := H) (x := i) (y := j) (by omega) (by omega)
  have ej : j * W = (j - 1) * W + W := by
    have : j = j - 1 + 1 := by omega
    rw [this, Nat.add_mul, Nat.one_mul, Nat.add_sub_cancel]
  have plr : pl W H i j = pl W H (((j - 1) * W + (i - 1)) % W + 1) (((j - 1) * W + (i - 1)) / W + 1) := by rw [x0, y0, Nat.sub_add_cancel h1, Nat.sub_add_cancel h3]
  have arr : ∀ x y, x < W → (∃ a b, a ≤ 1 ∧ b ≤ 1 ∧ i = x + a ∧ j = y + b) → Around W H (y * W + x) (pl W H i j) := by
    rintro x y hx ⟨a, b, ha, hb, e1, e2⟩
    have := around_of (W := W) (H := H) (i := y * W + x) ha hb
    rw [cell_x hx, cell_y hx] at this
    rw [e1, e2]; exact this
  refine ⟨(j - 1) * W + (i - 1), l0, ⟨by omega, by rw [y0]; omega, all _ l0 (arr _ _ (by omega) ⟨1, 1, by omega, by omega, by omega, by omega⟩), ?_, ?_, ?_⟩, plr⟩
  · rw [show (j - 1) * W + (i - 1) + 1 = (j - 1) * W + i by omega]
    exact all _ l1 (arr _ _ h2 ⟨0, 1, by omega, by omega, by omega, by omega⟩)
  · rw [show (j - 1) * W + (i - 1) + W = j * W + (i - 1) by omega]
    exact all _ l2 (arr _ _ (by omega) ⟨1, 0, by omega, by omega, by omega, by omega⟩)
  · rw [show (j - 1) * W + (i - 1) + W + 1 = j * W + i by omega]
    exact all _ l3 (arr _ _ h2 ⟨0, 0, by omega, by omega, by omega, by omega⟩)

/-- A pool's first square. -/
def PoolRoot (W H : Nat) (reed : Nat → Bool) (es : List (Nat × Nat)) (i : Nat) : Prop := IsRoot (Conn es) i ∧ reed i = false ∧ ¬ ∃ c, c < W * H ∧ Rim W H c ∧ Conn es i c

theorem comps_places (hW : 1 ≤ W) (hes : IsDry W H reed es) : comps ((W - 1) * (H - 1) + 1) (Conn (dual (cEdges W H reed))) = num (W * H) (FullAt W H reed) + num (W * H) (PoolRoot W H reed es) + 1 := by
  rw [comps_num, num_split (IsRoot (Conn (dual (cEdges W H reed)))) (FullPl W H reed), num_split (fun p => IsRoot (Conn (dual (cEdges W H reed))) p ∧ ¬ FullPl W H reed p) (fun p => p = 0)]
  have A : num ((W - 1) * (H - 1) + 1) (fun p => IsRoot (Conn (dual (cEdges W H reed))) p ∧ FullPl W H reed p) = num (W * H) (FullAt W H reed) := by
    apply Nat.le_antisymm
    · refine num_le (fun p i => p = pl W H (i % W + 1) (i / W + 1)) (fun p _ hp => ?_) (fun a a' b _ _ _ _ e e' => by rw [e, e'])
      obtain ⟨i, hi, hf, e⟩ := hp.2
      exact ⟨i, hi, hf, e⟩
    · refine num_le (fun i p => p = pl W H (i % W + 1) (i / W + 1)) (fun i hi hf => ?_) (fun a a' b ha ha' hf hf' e e' => ?_)
      · have fp : FullPl W H reed (pl W H (i % W + 1) (i / W + 1)) := ⟨i, hi, hf, rfl⟩
        exact ⟨_, pl_lt _ _, ⟨fun j hj hc => by have := full_alone hW fp hc; omega, fp⟩, rfl⟩
      · obtain ⟨e1, e2⟩ := pl_inj (pl_in (Nat.le_add_left _ _) hf.1 (Nat.le_add_left _ _) hf.2.1) (e.symm.trans e')
        rw [← cell_eq (W := W) a, ← cell_eq (W := W) a', Nat.succ.inj e2, Nat.succ.inj e1]
  have Z : num ((W - 1) * (H - 1) + 1) (fun p => (IsRoot (Conn (dual (cEdges W H reed))) p ∧ ¬ FullPl W H reed p) ∧ p = 0) = 1 := by
    refine Eq.trans ?_ (num_one (n := (W - 1) * (H - 1) + 1) (k := 0) (by omega))
    refine num_congr fun p _ => ⟨fun h => h.2, fun h => ⟨⟨fun j hj => by omega, fun hf => full_ne hf h⟩, h⟩⟩
  have B : num ((W - 1) * (H - 1) + 1) (fun p => (IsRoot (Conn (dual (cEdges W H reed))) p ∧ ¬ FullPl W H reed p) ∧ ¬ p = 0) = num (W * H) (PoolRoot W H reed es) := by
    apply Nat.le_antisymm
    · -- from a place to the first square that hangs together with one around it
      refine num_le (fun p r => Conn (dual (cEdges W H reed)) p (pl W H (r % W) (r / W))) (fun p hp h => ?_) (fun a a' r _ _ h h' k k' => ?_)
      · obtain ⟨⟨h1, h2⟩, h3⟩ := h
        obtain ⟨c, c1, c2, c3⟩ := not_full hp h3 h2
        obtain ⟨r, r1, r2, r3⟩ := root_of (R := Conn es) .refl Conn.trans c
        obtain ⟨q1, q2⟩ := dry_keep hes r3.symm ⟨c1, c2⟩
        have hpr : Conn (dual (cEdges W H reed)) p (pl W H (r % W) (r / W)) := places_conn hes r3.symm c1 c2 c3 (.inl rfl)
        refine ⟨r, q1, ⟨r2, q2, ?_⟩, hpr⟩
        rintro ⟨x, x1, x2, x3⟩
        have := places_conn hes (r3.symm.trans x3) c1 c2 c3 (around_rim x2)
        exact h1 0 (by omega) this.symm
      · exact root_unique (R := Conn (dual (cEdges W H reed))) Conn.symm h.1.1 h'.1.1 (k.trans k'.symm)
    · refine num_le (fun r p => Conn (dual (cEdges W H reed)) p (pl W H (r % W) (r / W))) (fun r hr h => ?_) (fun a a' p ha ha' h h' k k' => ?_)
      · obtain ⟨h1, h2, h3⟩ := h
        have hw0 : pl W H (r % W) (r / W) ≠ 0 := fun e => h3 ⟨r, hr, rim_of_around hr (.inl e.symm), .refl _⟩
        obtain ⟨p, p1, p2, p3⟩ := root_of (R := Conn (dual (cEdges W H reed))) .refl Conn.trans (pl W H (r % W) (r / W))
        have hpk := (places_keep hW hes hr h2 h3 p3).2 ⟨hw0, r, .refl _, .inl rfl⟩
        refine ⟨p, Nat.lt_of_le_of_lt p1 (pl_lt _ _), ⟨⟨p2, fun hf => ?_⟩, hpk.1⟩, p3⟩
        obtain ⟨_, c, hc, hca⟩ := hpk
        obtain ⟨c1, c2⟩ := dry_keep hes hc ⟨hr, h2⟩
        have := full_reed hf hca
        rw [c2] at this; cases this
      · have hw0 : pl W H (a % W) (a / W) ≠ 0 := fun e => h.2.2 ⟨a, ha, rim_of_around ha (.inl e.symm), .refl _⟩
        have := (places_keep hW hes ha h.2.1 h.2.2 (k.symm.trans k')).1 ⟨hw0, a, .refl _, .inl rfl⟩
        obtain ⟨n0, c, hc, hca⟩ := this
        obtain ⟨c1, c2⟩ := dry_keep hes hc ⟨ha, h.2.1⟩
        have hnear : Near W c a' := near_of_around hca (.inl rfl) n0
        have : Conn es a a' := hc.trans (dry_near hes c1 ha' c2 h'.2.1 hnear)
        exact root_unique (R := Conn es) Conn.symm h.1 h'.1 this
  rw [A, Z, B]
  omega

/-- WINDOWS: the reed, less the pairs of neighbours that are both reed, with the full windows, is the beds less the pools. -/
theorem windows_main (hW : 1 ≤ W) (hH : 1 ≤ H) (hes : IsDry W H reed es) :
    num (W * H) (fun i => IsRoot (Conn (prim (sEdges W H reed))) i ∧ reed i = true) + (sEdges W H reed).length = num (W * H) (fun i => reed i = true) + num (W * H) (FullAt W H reed) + num (W * H) (PoolRoot W H reed es) := by
  have e := euler_grid (W := W) (H := H) reed hW hH
  rw [comps_beds, comps_places hW hes] at e
  have s := num_split (n := W * H) (fun _ => True) (fun i => reed i = true)
  have t : num (W * H) (fun _ => True) = W * H := by unfold num; rw [List.filter_eq_self.2 (by simp), List.length_range]
  have s1 : num (W * H) (fun i => True ∧ reed i = true) = num (W * H) (fun i => reed i = true) := num_congr fun i _ => by simp
  have s2 : num (W * H) (fun i => True ∧ ¬ reed i = true) = num (W * H) (fun i => reed i = false) := num_congr fun i _ => by simp
  rw [t, s1, s2] at s
  omega
end
end Go.Proofs.YtajfepogecakbaaDoor
