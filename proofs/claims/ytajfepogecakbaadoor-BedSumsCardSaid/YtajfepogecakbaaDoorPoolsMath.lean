/- How many pools: the sets that are not reed, less those that have a square on the rim. -/
import Derived.Test.YtajfepogecakbaaDoorNetMath
import Derived.Maps.Views
namespace Go.Proofs.YtajfepogecakbaaDoor
open Go.Maps Go.WideMaps

def rimB (W H i : Nat) : Bool := decide (i % W = 0) || decide (i % W + 1 = W) || decide (i / W = 0) || decide (i / W + 1 = H)
theorem rimB_iff {W H i : Nat} : rimB W H i = true ↔ Rim W H i := by
  unfold rimB Rim
  simp only [Bool.or_eq_true, decide_eq_true_eq, or_assoc]
def openB (W H : Nat) (nm : Nat → Int) (i : Nat) : Bool := decide (nm i ≠ -1) && rimB W H i
/-- The numbers of the first k squares on the rim that have one. -/
def openL (W H : Nat) (nm : Nat → Int) (k : Nat) : List Lit := ((List.range k).filter (openB W H nm)).map fun i => .int .i64 (nm i)
theorem openL_step {W H : Nat} {nm : Nat → Int} {k : Nat} : openL W H nm (k + 1) = openL W H nm k ++ if openB W H nm k = true then [.int .i64 (nm k)] else [] := by
  unfold openL
  rw [List.range_succ, List.filter_append, List.map_append]
  congr 1
  by_cases h : openB W H nm k = true
  · simp [h]
  · simp [h]
theorem openL_key {W H : Nat} {nm : Nat → Int} {k : Nat} : ∀ x ∈ openL W H nm k, WideAt.IsKeyLit x := by
  intro x hx
  obtain ⟨i, _, rfl⟩ := List.mem_map.1 hx
  trivial
theorem same_int (x : Int) : (Lit.int .i64 x).sameKey (.int .i64 x) = true := by simp [Lit.sameKey]
theorem addKey_fold (xs : List Lit) (hk : ∀ x ∈ xs, ∃ n, x = Lit.int .i64 n) : ∀ L : List Lit, L.Nodup → (xs.foldl addKey L).Nodup ∧ ∀ y, y ∈ xs.foldl addKey L ↔ y ∈ L ∨ y ∈ xs := by
  induction xs with
  | nil => intro L hL; exact ⟨hL, fun y => by simp⟩
  | cons x xs ih =>
    intro L hL
    obtain ⟨n, rfl⟩ := hk x (List.mem_cons_self ..)
    have hm : (L.any fun y => y.sameKey (.int .i64 n)) = true ↔ Lit.int .i64 n ∈ L := by
      rw [List.any_eq_true]
      constructor
      · rintro ⟨y, hy, h⟩
        rw [← WideAt.sameKey_eq h]; exact hy
      · intro h; exact ⟨_, h, same_int n⟩
    have hN : (addKey L (.int .i64 n)).Nodup ∧ ∀ y, y ∈ addKey L (.int .i64 n) ↔ y ∈ L ∨ y = .int .i64 n := by
      unfold addKey
      by_cases h : Lit.int .i64 n ∈ L
      · rw [if_pos (hm.2 h)]
        exact ⟨hL, fun y => ⟨.inl, fun k => k.elim id fun e => e ▸ h⟩⟩
      · rw [if_neg (fun k => h (hm.1 k))]
        refine ⟨List.nodup_append.2 ⟨hL, by simp, fun a ha b hb e => ?_⟩, fun y => by simp⟩
        obtain rfl : b = .int .i64 n := by simpa using hb
        exact h (e ▸ ha)
    obtain ⟨h1, h2⟩ := ih (fun y hy => hk y (List.mem_cons_of_mem _ hy)) _ hN.1
    rw [List.foldl_cons]
    refine ⟨h1, fun y => ?_⟩
    rw [h2, hN.2, List.mem_cons, or_assoc]
theorem nodup_same {α : Type} {l k : List α} (hl : l.Nodup) (hk : k.Nodup) (h : ∀ a, a ∈ l ↔ a ∈ k) : l.length = k.length := by
  letI : DecidableEq α := fun a b => Classical.propDecidable (a = b)
  exact Nat.le_antisymm (nodup_le hl fun a ha => (h a).1 ha) (nodup_le hk fun a ha => (h a).2 ha)

/-- How many pools a map has. -/
noncomputable def poolsN (W H : Nat) (f : Nat → Int) : Nat := num (W * H) (PoolRoot W H (isReed f) (esPools W H f))
section
variable {W H : Nat} {f : Nat → Int}
theorem pool_bel {i : Nat} : belPools f i = true ↔ isReed f i = false := by unfold belPools; simp
open Classical in
theorem open_count (hW : 1 ≤ W) {nm : Nat → Int} (hnm : ∀ i, i < W * H → nm i = grp (esPools W H f) (belPools f) i) :
    ((openL W H nm (W * H)).foldl addKey []).length + poolsN W H f = setsTo (esPools W H f) (belPools f) (W * H) := by
  have net := net_pools (W := W) (H := H) (f := f) hW
  have hs := num_split (n := W * H) (fun r => IsRoot (Conn (esPools W H f)) r ∧ belPools f r = true) (fun r => ∃ c, c < W * H ∧ Rim W H c ∧ Conn (esPools W H f) r c)
  have e2 : num (W * H) (fun r => (IsRoot (Conn (esPools W H f)) r ∧ belPools f r = true) ∧ ¬ ∃ c, c < W * H ∧ Rim W H c ∧ Conn (esPools W H f) r c) = poolsN W H f :=
    num_congr fun r _ => by unfold PoolRoot; rw [pool_bel, and_assoc]
  obtain ⟨h1, h2⟩ := addKey_fold (openL W H nm (W * H)) (fun x hx => by obtain ⟨i, _, rfl⟩ := List.mem_map.1 hx; exact ⟨_, rfl⟩) [] List.nodup_nil
  have e1 : ((openL W H nm (W * H)).foldl addKey []).length = num (W * H) (fun r => (IsRoot (Conn (esPools W H f)) r ∧ belPools f r = true) ∧ ∃ c, c < W * H ∧ Rim W H c ∧ Conn (esPools W H f) r c) := by
    unfold num
    rw [← List.length_map (f := fun r => Lit.int .i64 ((setsTo (esPools W H f) (belPools f) r : Nat) : Int))]
    refine nodup_same h1 ?_ fun x => ?_
    · refine List.nodup_iff_pairwise_ne.2 (List.pairwise_map.2 ?_)
      refine List.Pairwise.imp_of_mem ?_ (List.nodup_iff_pairwise_ne.1 (nodup_filter_range (W * H) _))
      intro a b ha hb hne heq
      simp only [List.mem_filter, List.mem_range, decide_eq_true_eq] at ha hb
      simp only [Lit.int.injEq, true_and] at heq
      rcases Nat.lt_trichotomy a b with h | h | h
      · have := num_lt (p := fun r => IsRoot (Conn (esPools W H f)) r ∧ belPools f r = true) h ha.2.1
        unfold setsTo at heq
        omega
      · exact hne h
      · have := num_lt (p := fun r => IsRoot (Conn (esPools W H f)) r ∧ belPools f r = true) h hb.2.1
        unfold setsTo at heq
        omega
    · rw [h2]
      simp only [List.not_mem_nil, false_or]
      constructor
      · intro hx
        obtain ⟨i, hi, rfl⟩ := List.mem_map.1 hx
        obtain ⟨hi1, hi2⟩ := List.mem_filter.1 hi
        have hiN := List.mem_range.1 hi1
        unfold openB at hi2
        simp only [Bool.and_eq_true, decide_eq_true_eq] at hi2
        obtain ⟨hi3, hi4⟩ := hi2
        rw [hnm i hiN] at hi3 ⊢
        have hb : belPools f i = true := by
          cases hb : belPools f i with
          | true => rfl
          | false => exact absurd (by unfold grp; rw [hb, if_neg (by simp)]) hi3
        obtain ⟨r0, r1, r2⟩ := rootOf_spec (esPools W H f) i
        refine List.mem_map.2 ⟨rootOf (esPools W H f) i, List.mem_filter.2 ⟨List.mem_range.2 (by omega), ?_⟩, by unfold grp; rw [if_pos hb]⟩
        exact @decide_eq_true _ (_) ⟨⟨r1, (net.bel_iff r2).2 hb⟩, i, hiN, rimB_iff.1 hi4, r2⟩
      · intro hx
        obtain ⟨r, hr, rfl⟩ := List.mem_map.1 hx
        simp only [List.mem_filter, List.mem_range, decide_eq_true_eq] at hr
        obtain ⟨hrN, ⟨hr1, hr2⟩, c, hc, hrim, hconn⟩ := hr
        have hb : belPools f c = true := (net.bel_iff hconn).1 hr2
        have hroot : rootOf (esPools W H f) c = r := by
          rw [← (rootOf_iff (esPools W H f)).2 hconn]; exact (rootOf_root _).1 hr1
        have hg : nm c = ((setsTo (esPools W H f) (belPools f) r : Nat) : Int) := by
          rw [hnm c hc]; unfold grp; rw [if_pos hb, hroot]
        refine List.mem_map.2 ⟨c, List.mem_filter.2 ⟨List.mem_range.2 hc, ?_⟩, by rw [hg]⟩
        unfold openB
        simp only [Bool.and_eq_true, decide_eq_true_eq]
        exact ⟨by omega, rimB_iff.2 hrim⟩
  rw [e1, ← e2]
  unfold setsTo
  exact hs.symm
end
end Go.Proofs.YtajfepogecakbaaDoor
