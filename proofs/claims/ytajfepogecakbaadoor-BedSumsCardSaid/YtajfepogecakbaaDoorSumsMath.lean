/- What the sizes and the sides of beds add up to; how beds are numbered. -/
import Derived.Test.YtajfepogecakbaaDoorSizes
import Derived.Test.YtajfepogecakbaaDoorNbrMath
namespace Go.Proofs.YtajfepogecakbaaDoor

theorem sumTo_congr {h k : Nat → Int} : ∀ {n : Nat}, (∀ i, i < n → h i = k i) → sumTo h n = sumTo k n
  | 0, _ => rfl
  | n + 1, e => by
    show sumTo h n + h n = sumTo k n + k n
    rw [sumTo_congr fun i hi => e i (by omega), e n (by omega)]
theorem sumTo_zero : ∀ (n : Nat), sumTo (fun _ => 0) n = 0
  | 0 => rfl
  | n + 1 => by show sumTo (fun _ => 0) n + 0 = 0; rw [sumTo_zero n]; rfl
theorem sumTo_add (h k : Nat → Int) : ∀ (n : Nat), sumTo (fun i => h i + k i) n = sumTo h n + sumTo k n
  | 0 => rfl
  | n + 1 => by
    show sumTo (fun i => h i + k i) n + (h n + k n) = sumTo h n + h n + (sumTo k n + k n)
    rw [sumTo_add h k n]; omega
theorem sumTo_mul (c : Int) (h : Nat → Int) : ∀ (n : Nat), sumTo (fun i => c * h i) n = c * sumTo h n
  | 0 => by simp [sumTo]
  | n + 1 => by
    show sumTo (fun i => c * h i) n + c * h n = c * (sumTo h n + h n)
    rw [sumTo_mul c h n, Int.mul_add]
theorem sumTo_one (c : Int) (j : Nat) : ∀ (n : Nat), sumTo (fun i => if (j : Int) = (i : Int) then c else 0) n = if j < n then c else 0
  | 0 => rfl
  | n + 1 => by
    show sumTo (fun i => if (j : Int) = (i : Int) then c else 0) n + (if (j : Int) = (n : Int) then c else 0) = _
    rw [sumTo_one c j n]
    by_cases h1 : j < n
    · rw [if_pos h1, if_neg (by omega), if_pos (by omega)]; omega
    · by_cases h2 : j = n
      · rw [if_neg h1, if_pos (by omega), if_pos (by omega)]; omega
      · rw [if_neg h1, if_neg (by omega), if_neg (by omega)]; rfl
/-- All parts together. -/
theorem sum_parts {no g : Nat → Int} {tot : Nat} : ∀ {k : Nat}, (∀ i, i < k → no i = -1 ∨ ∃ j : Nat, j < tot ∧ no i = (j : Int)) → sumTo (part no g k) tot = sumTo (fun i => if no i = -1 then 0 else g i) k
  | 0, _ => by
    show sumTo (fun _ => 0) tot = 0
    exact sumTo_zero tot
  | k + 1, h => by
    have e : part no g (k + 1) = fun j => part no g k j + (if no k = (j : Int) then g k else 0) := rfl
    rw [e, sumTo_add, sum_parts fun i hi => h i (by omega)]
    show _ = sumTo (fun i => if no i = -1 then 0 else g i) k + (if no k = -1 then 0 else g k)
    congr 1
    rcases h k (by omega) with h1 | ⟨j, hj, h1⟩
    · rw [if_pos h1, h1]
      rw [sumTo_congr (k := fun _ => 0) fun i _ => by rw [if_neg (by omega)]]
      exact sumTo_zero tot
    · rw [if_neg (by omega), h1, sumTo_one, if_pos hj]
theorem sum_list (no g : Nat → Int) (tot k : Nat) : sumTo (fun j => (parts no g tot k).getD j 0) tot = sumTo (part no g k) tot := sumTo_congr fun _ hj => parts_at hj
theorem sumTo_shift (h : Nat → Int) (d : Nat) (hz : ∀ i, i < d → h i = 0) : ∀ m, sumTo h (d + m) = sumTo (fun i => h (i + d)) m
  | 0 => by
    rw [Nat.add_zero, sumTo_congr (k := fun _ => 0) hz]
    exact sumTo_zero d
  | m + 1 => by
    show sumTo h (d + m) + h (d + m) = sumTo (fun i => h (i + d)) m + h (m + d)
    rw [sumTo_shift h d hz m, Nat.add_comm d m]
theorem sumTo_tail (k : Nat → Int) (m : Nat) : ∀ d, (∀ i, m ≤ i → i < m + d → k i = 0) → sumTo k (m + d) = sumTo k m
  | 0, _ => rfl
  | d + 1, hz => by
    show sumTo k (m + d) + k (m + d) = sumTo k m
    rw [sumTo_tail k m d fun i h1 h2 => hz i h1 (by omega), hz (m + d) (by omega) (by omega), Int.add_zero]
/-- A sum that is moved. -/
theorem sum_moved {h k : Nat → Int} {n d : Nat} (hd : d ≤ n) (hz : ∀ i, i < d → h i = 0) (he : ∀ i, i + d < n → k i = h (i + d)) (hk : ∀ i, n ≤ i + d → i < n → k i = 0) : sumTo h n = sumTo k n := by
  obtain ⟨m, rfl⟩ : ∃ m, n = d + m := ⟨n - d, by omega⟩
  rw [sumTo_shift h d hz m, Nat.add_comm d m, sumTo_tail k m d fun i h1 h2 => hk i (by omega) (by omega)]
  exact sumTo_congr fun i hi => (he i (by omega)).symm

/-- Pairs of reed: with the square above, with the square to the left. -/
def upP (W : Nat) (f : Nat → Int) (i : Nat) : Int := if f i = 1 ∧ 0 < i / W ∧ f (i - W) = 1 then 1 else 0
def leftP (W : Nat) (f : Nat → Int) (i : Nat) : Int := if f i = 1 ∧ 0 < i % W ∧ f (i - 1) = 1 then 1 else 0
def rightP (W : Nat) (f : Nat → Int) (i : Nat) : Int := if f i = 1 ∧ i % W + 1 < W ∧ f (i + 1) = 1 then 1 else 0
def downP (W H : Nat) (f : Nat → Int) (i : Nat) : Int := if f i = 1 ∧ i / W + 1 < H ∧ f (i + W) = 1 then 1 else 0
theorem ite_len (p : Prop) [Decidable p] (f : Nat → Int) (x : Nat) : ((((if p then [x] else []) : List Nat).filter (isReed f)).length : Int) = if p ∧ f x = 1 then 1 else 0 := by
  by_cases hp : p
  · rw [if_pos hp]
    by_cases hx : f x = 1
    · rw [if_pos ⟨hp, hx⟩]; simp [isReed, hx]
    · rw [if_neg (fun h => hx h.2)]; simp [isReed, hx]
  · rw [if_neg hp, if_neg (fun h => hp h.1)]; rfl
theorem reeds_four {W H : Nat} {f : Nat → Int} {i : Nat} (hW : 1 ≤ W) (hi : i < W * H) (hf : f i = 1) : ((reedsN W H f i : Nat) : Int) = upP W f i + leftP W f i + rightP W f i + downP W H f i := by
  unfold reedsN
  rw [nbrs_eq hW hi]
  unfold nbr4
  rw [List.filter_append, List.filter_append, List.filter_append, List.length_append, List.length_append, List.length_append]
  simp only [Int.natCast_add]
  rw [ite_len, ite_len, ite_len, ite_len]
  unfold upP leftP rightP downP
  simp only [hf, true_and]
theorem left_right {W H : Nat} {f : Nat → Int} (hW : 1 ≤ W) : sumTo (leftP W f) (W * H) = sumTo (rightP W f) (W * H) := by
  rcases Nat.eq_zero_or_pos (W * H) with h0 | h0
  · rw [h0]; rfl
  refine sum_moved (d := 1) h0 (fun i hi => ?_) (fun i hi => ?_) (fun i h1 h2 => ?_)
  · obtain rfl : i = 0 := by omega
    unfold leftP
    rw [if_neg (by simp)]
  · unfold leftP rightP
    have e : i + 1 - 1 = i := by omega
    rw [e]
    have hm : (0 < (i + 1) % W) ↔ i % W + 1 < W := by
      have h1 := Nat.mod_lt i (show 0 < W by omega)
      by_cases h : i % W + 1 < W
      · have : (i + 1) % W = i % W + 1 := by
          rw [Nat.add_mod]
          by_cases h2 : W = 1
          · omega
          · rw [Nat.mod_eq_of_lt (show 1 < W by omega), Nat.mod_eq_of_lt h]
        omega
      · have : (i + 1) % W = 0 := by
          have e1 : i % W + 1 = W := by omega
          have e2 := Nat.div_add_mod i W
          have : i + 1 = W * (i / W + 1) := by rw [Nat.mul_add]; omega
          rw [this]; exact Nat.mul_mod_right _ _
        omega
    have : (f i = 1 ∧ i % W + 1 < W ∧ f (i + 1) = 1) ↔ (f (i + 1) = 1 ∧ 0 < (i + 1) % W ∧ f i = 1) := by rw [hm]; constructor <;> (rintro ⟨a, b, c⟩; exact ⟨c, b, a⟩)
    simp only [this]
  · unfold rightP
    rw [if_neg]
    rintro ⟨_, h3, _⟩
    have e2 := Nat.div_add_mod i W
    have hlt : i / W < H := Nat.div_lt_of_lt_mul h2
    have : W * (i / W) + W ≤ W * H := by rw [← Nat.mul_succ]; exact Nat.mul_le_mul_left _ hlt
    omega
theorem up_down {W H : Nat} {f : Nat → Int} (hW : 1 ≤ W) (hH : 1 ≤ H) : sumTo (upP W f) (W * H) = sumTo (downP W H f) (W * H) := by
  have hWH : W ≤ W * H := Nat.le_mul_of_pos_right _ hH
  refine sum_moved (d := W) hWH (fun i hi => ?_) (fun i hi => ?_) (fun i h1 h2 => ?_)
  · unfold upP
    rw [if_neg]
    rw [Nat.div_eq_of_lt hi]
    omega
  · unfold upP downP
    have e : i + W - W = i := by omega
    rw [e, Nat.add_div_right _ (by omega)]
    have h3 : i / W + 1 < H := by
      have : (i + W) / W < H := Nat.div_lt_of_lt_mul hi
      rwa [Nat.add_div_right _ (by omega)] at this
    have : (f i = 1 ∧ i / W + 1 < H ∧ f (i + W) = 1) ↔ (f (i + W) = 1 ∧ 0 < (i / W).succ ∧ f i = 1) := ⟨fun h => ⟨h.2.2, Nat.succ_pos _, h.1⟩, fun h => ⟨h.2.2, h3, h.1⟩⟩
    simp only [this]
  · unfold downP
    rw [if_neg]
    rintro ⟨_, h3, _⟩
    have e2 := Nat.div_add_mod i W
    have h4 := Nat.mod_lt i (show 0 < W by omega)
    have : W * (i / W + 1 + 1) ≤ W * H := Nat.mul_le_mul_left _ h3
    rw [Nat.mul_add, Nat.mul_add] at this
    omega
theorem bedNo_reed {W H : Nat} {f : Nat → Int} {i : Nat} : bedNo W H f i = -1 ↔ ¬ f i = 1 := by
  unfold bedNo grp belBeds isReed
  by_cases h : f i = 1
  · rw [if_pos (by simpa using h)]
    constructor
    · intro e; omega
    · intro e; exact absurd h e
  · rw [if_neg (by simpa using h)]
    exact ⟨fun _ => h, fun _ => rfl⟩
/-- How many squares are reed. -/
def reedC (f : Nat → Int) (n : Nat) : Int := sumTo (fun i => if f i = 1 then 1 else 0) n
/-- How many pairs of neighbours are reed. -/
def pairC (W : Nat) (f : Nat → Int) (n : Nat) : Int := sumTo (fun i => leftP W f i + upP W f i) n
theorem sizes_sum {W H : Nat} {f : Nat → Int} (hW : 1 ≤ W) : sumTo (fun j => (sizesL W H f).getD j 0) (bedsN W H f) = reedC f (W * H) := by
  unfold sizesL reedC
  rw [sum_list, sum_parts fun i hi => bedNo_cases hW hi]
  exact sumTo_congr fun i _ => by
    by_cases h : f i = 1
    · rw [if_neg (fun e => bedNo_reed.1 e h), if_pos h]
    · rw [if_pos (bedNo_reed.2 h), if_neg h]
theorem sides_sum {W H : Nat} {f : Nat → Int} (hW : 1 ≤ W) (hH : 1 ≤ H) : sumTo (fun j => (sidesL W H f).getD j 0) (bedsN W H f) = 4 * reedC f (W * H) - 2 * pairC W f (W * H) := by
  unfold sidesL reedC pairC
  rw [sum_list, sum_parts fun i hi => bedNo_cases hW hi]
  have e : sumTo (fun i => if bedNo W H f i = -1 then 0 else 4 - ((reedsN W H f i : Nat) : Int)) (W * H) = sumTo (fun i => 4 * (if f i = 1 then 1 else 0) + ((-1) * (leftP W f i + upP W f i) + (-1) * (rightP W f i + downP W H f i))) (W * H) := sumTo_congr fun i hi => by
    by_cases h : f i = 1
    · rw [if_neg (fun e => bedNo_reed.1 e h), if_pos h, reeds_four hW hi h]; omega
    · rw [if_pos (bedNo_reed.2 h), if_neg h]
      unfold leftP upP rightP downP
      rw [if_neg (fun k => h k.1), if_neg (fun k => h k.1), if_neg (fun k => h k.1), if_neg (fun k => h k.1)]
      omega
  rw [e, sumTo_add, sumTo_add, sumTo_mul, sumTo_mul, sumTo_mul, sumTo_add, sumTo_add, left_right hW, up_down hW hH]
  omega
/-- How many beds begin before a square. -/
noncomputable def bedsTo (W H : Nat) (f : Nat → Int) (i : Nat) : Nat := setsTo (esBeds W H f) (belBeds f) i
/-- The number of a square's bed, against the beds that begin before the square. -/
theorem bed_next {W H : Nat} {f : Nat → Int} {i : Nat} (hW : 1 ≤ W) : bedNo W H f i ≤ (bedsTo W H f i : Nat) ∧ bedsTo W H f (i + 1) = bedsTo W H f i + if bedNo W H f i = ((bedsTo W H f i : Nat) : Int) then 1 else 0 := by
  unfold bedNo bedsTo grp
  have h2 := (rootOf_spec (esBeds W H f) i).1
  rw [setsTo_succ]
  by_cases hb : belBeds f i = true
  · rw [if_pos hb]
    have h1 := (net_beds (H := H) (f := f) hW).root hb rfl
    by_cases hr : rootOf (esBeds W H f) i = i
    · rw [hr] at h1 ⊢
      refine ⟨Int.le_refl _, ?_⟩
      rw [if_pos rfl, ind_pos h1]
    · have h4 : setsTo (esBeds W H f) (belBeds f) (rootOf (esBeds W H f) i) < setsTo (esBeds W H f) (belBeds f) i := num_lt (p := fun r => IsRoot (Conn (esBeds W H f)) r ∧ belBeds f r = true) (by omega) h1
      refine ⟨by omega, ?_⟩
      rw [if_neg (by omega), ind_neg (fun h => hr ((rootOf_root _).1 h.1))]
  · rw [if_neg hb]
    refine ⟨by omega, ?_⟩
    rw [if_neg (by omega), ind_neg (fun h => hb h.2)]
theorem beds_all {W H : Nat} {f : Nat → Int} : bedsTo W H f (W * H) = bedsN W H f := rfl
theorem beds_none {W H : Nat} {f : Nat → Int} : bedsTo W H f 0 = 0 := rfl
/-- Neighbouring reed has one bed. -/
theorem bed_near {W H : Nat} {f : Nat → Int} {i j : Nat} (hW : 1 ≤ W) (hi : i < W * H) (hf : f i = 1) (hg : f j = 1) (hn : j ∈ nbrs W H i) : bedNo W H f j = bedNo W H f i := by
  have hbi : belBeds f i = true := by simp [belBeds, isReed, hf]
  have hbj : belBeds f j = true := by simp [belBeds, isReed, hg]
  have hc := ((net_beds (H := H) (f := f) hW).link i j hi hbi hn hbj).2
  have := (rootOf_iff (esBeds W H f)).2 hc
  unfold bedNo grp
  rw [if_pos hbi, if_pos hbj, this]
theorem bed_left {W H : Nat} {f : Nat → Int} {i : Nat} (hW : 1 ≤ W) (hi : i < W * H) (hf : f i = 1) (hx : 0 < i % W) (hg : f (i - 1) = 1) : bedNo W H f (i - 1) = bedNo W H f i :=
  bed_near hW hi hf hg (by rw [nbrs_eq hW hi]; unfold nbr4; rw [if_pos hx]; simp)
theorem bed_up {W H : Nat} {f : Nat → Int} {i : Nat} (hW : 1 ≤ W) (hi : i < W * H) (hf : f i = 1) (hx : 0 < i / W) (hg : f (i - W) = 1) : bedNo W H f (i - W) = bedNo W H f i :=
  bed_near hW hi hf hg (by rw [nbrs_eq hW hi]; unfold nbr4; rw [if_pos hx]; simp)
end Go.Proofs.YtajfepogecakbaaDoor
