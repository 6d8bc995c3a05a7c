/- The examples with which each law of layer 6 ends: walked. -/
import Derived.Test.YtlljjaafejjeeaaKLongest
import Derived.Test.YtlljjaafejjeeaaKMarked
namespace Go.Proofs.Ytlljjaafejjeeaa
open Go.RowKit

set_option maxRecDepth 100000 in
set_option maxHeartbeats 800000 in
theorem same_ints (A B : Option Addr) (n c1 c2 : Nat) (f g : Nat → Int) (w : World) (hn : n ≤ 1000000) (ha : IsInts w A n f) (hb : IsInts w B n g) (he : ∀ i, i < n → f i = g i) :
    Gives Try.prog 20 #[.slice A n c1, .slice B n c2] w (.bool true) := by
  have HA := Lib.hid ha
  have HB := Lib.hid hb
  have HE := Lib.hid he
  clear ha hb he
  have q0 : ((n : Int) != (n : Int)) = false := by simp
  go_enter Try.func20, Try.ntmps20
  go_wp2
  go_loopw [5] (fun u wr => ∃ k : Nat, k ≤ n ∧ u = .int .i64 k ∧ ∃ x : Later w, wr = x.val) (fun v _ => n - (intOf v).toNat)
  case atStart => exact ⟨0, by omega, rfl, later_of (by repeat (first | exact Below.refl _ _ | (with_reducible assumption) | apply below_later | apply below_alloc | apply below_drew | apply below_drewN))⟩
  case round =>
    obtain ⟨k, hk, rfl, x, rfl⟩ := hrel
    by_cases hlt : k < n
    · obtain ⟨b1, o1, hA1, p1⟩ := HA.out.at_ (by omega)
      obtain ⟨b2, o2, hB1, p2⟩ := HB.out.at_ (by omega)
      subst hA1 hB1
      have l1 := p1.lt
      have l2 := p2.lt
      have d1 := p1.at_ k hlt
      have d2 := p2.at_ k hlt
      rw [HE.out k hlt] at d1
      clear p1 p2
      generalize g k = v at *
      go_wp2_with fail
      first | (with_reducible show Code.wp _ _ _ _ (Later.val _); refine wp_region_later_at _ (by kernel_rfl) (by kernel_rfl) ?_) | refine wp_region_later (by kernel_rfl) (by kernel_rfl) ?_
      repeat (go_big_quiet_step ((fail)))
      refine wpQuiet_nil ?_
      intro z5
      go_wp2
      go_roundw
      case rel => exact ⟨k + 1, by omega, by go_num, later_of (by repeat (first | exact Below.refl _ _ | (with_reducible assumption) | apply below_later | apply below_alloc | apply below_drew | apply below_drewN))⟩
      case measure => simp [intOf]; omega
    · obtain rfl : k = n := by omega
      go_wp2
      go_ret
      exact ⟨rfl, later_of (by repeat (first | exact Below.refl _ _ | (with_reducible assumption) | apply below_later | apply below_alloc | apply below_drew | apply below_drewN))⟩
/-- A call that returns a list of numbers of its own, and an error. -/
def PostIE (w : World) (l : List Int) (E : Int) (e : Ending) (w' : World) : Prop := ∃ v, e = .returned (.tuple #[v, .int .i64 E]) ∧ ∃ x : Later w, w' = x.val ∧ OwnI w' w.heap.size v l
theorem down_L {n : Nat} {s : Int} {X Y T : Nat → Int} (W : Watch n s X Y T) : Down (onL s X Y T) n (fun i => n - 1 - rank n (keyS T) i) := by
  have O := watch_ord W
  refine ⟨fun i k hi hk h => ?_, fun i hi => by omega⟩
  have := O.lt i k hi hk h
  have := O.le k hk
  have := O.le i hi
  omega
theorem down_F {n : Nat} {s : Int} {X Y T : Nat → Int} (W : Watch n s X Y T) : Down (onF s X Y T) n (rank n (keyS T)) := by
  have O := watch_ord W
  exact ⟨fun i k hi hk h => O.lt k i hk hi h, O.le⟩
/-- The longest bird of a watch. -/
def longW (n : Nat) (s : Int) (X Y T : Nat → Int) : List Nat := longM (onL s X Y T) n (hgt (onL s X Y T) n)
set_option maxRecDepth 100000 in
theorem Longest_ok (s : Int) (n cap : Nat) (A : Option Addr) (X Y T : Nat → Int) (w : World) (W : Watch n s X Y T) (hp : IsChs w A n X Y T) :
    Calls Try.prog 10 #[.slice A n cap, .int .i64 s] w (PostIE w (natZ (longW n s X Y T)) 0) := by
  have VA := Lib.hid fun (V : World) (h : IsChs V A n X Y T) => watch_iff.2 W ▸ kvalid_any s A n cap X Y T V fun _ => h
  have LO : Hid (∀ (V : World), IsChs V A n X Y T → GivesI 25 #[.agg #[.slice A n cap, .int .i64 s]] V (natZ (longW n s X Y T))) := fun V h => longest_any n cap A s X Y T _ V W h (down_L W)
  have HP := Lib.hid hp
  generalize natZ (longW n s X Y T) = res at *
  clear hp W
  go_enter Try.func10, Try.ntmps10
  go_wp2_with (first
    | (go_at_call 21; (first | (with_reducible show Calls _ _ _ (Later.val _) _; with_reducible refine Calls.mono (Later.call _ (VA.out _ (HP.out.below (by repeat (first | exact Below.refl _ _ | (with_reducible assumption) | apply below_later | apply below_alloc | apply below_drew | apply below_drewN))))) ?_) | (with_reducible refine Calls.mono (Gives.calls (VA.out _ (HP.out.below (by repeat (first | exact Below.refl _ _ | (with_reducible assumption) | apply below_later | apply below_alloc | apply below_drew | apply below_drewN))))) ?_)); rintro e w1 ⟨rfl, z, rfl⟩)
    | (go_at_call 25; with_reducible refine Calls.mono (GivesI.calls (LO.out _ (HP.out.below (by repeat (first | exact Below.refl _ _ | (with_reducible assumption) | apply below_later | apply below_alloc | apply below_drew | apply below_drewN))))) ?_; rintro e w1 ⟨v, rfl, z2, rfl, ho⟩; have HO := Lib.hid ho; clear ho))
  go_ret2
  exact ⟨_, rfl, ⟨_, by repeat (first | exact Below.refl _ _ | (with_reducible assumption) | apply below_later | apply below_alloc | apply below_drew | apply below_drewN)⟩, rfl, HO.out.mono z.size⟩
theorem Longest_bad (s : Int) (n cap : Nat) (A : Option Addr) (X Y T : Nat → Int) (w : World) (hp : n ≤ 30 → IsChs w A n X Y T) (hv : validW n s X Y T = false) :
    Gives Try.prog 10 #[.slice A n cap, .int .i64 s] w (.tuple #[.slice none 0 0, .int .i64 60]) := by
  have VA := Lib.hid fun (V : World) (h : n ≤ 30 → IsChs V A n X Y T) => hv ▸ kvalid_any s A n cap X Y T V h
  have HP := Lib.hid hp
  clear hp hv
  go_enter Try.func10, Try.ntmps10
  go_wp2_with (go_at_call 21; (first | (with_reducible show Calls _ _ _ (Later.val _) _; with_reducible refine Calls.mono (Later.call _ (VA.out _ (fun h => (HP.out h).below (by repeat (first | exact Below.refl _ _ | (with_reducible assumption) | apply below_later | apply below_alloc | apply below_drew | apply below_drewN))))) ?_) | (with_reducible refine Calls.mono (Gives.calls (VA.out _ (fun h => (HP.out h).below (by repeat (first | exact Below.refl _ _ | (with_reducible assumption) | apply below_later | apply below_alloc | apply below_drew | apply below_drewN))))) ?_)); rintro e w1 ⟨rfl, z, rfl⟩)
  go_ret2
  exact ⟨rfl, later_of (by repeat (first | exact Below.refl _ _ | (with_reducible assumption) | apply below_later | apply below_alloc | apply below_drew | apply below_drewN))⟩
def kexX (i : Nat) : Int := ([0, 3, 4] : List Int).getD i 0
def kexY (_ : Nat) : Int := 0
def kexT (i : Nat) : Int := ([0, 1, 2] : List Int).getD i 0
theorem ex_watch : Watch 3 2 kexX kexY kexT := ⟨by decide, by decide, by decide, by decide⟩
theorem ex_few : (matM (leadsR 2 kexX kexY kexT) 3 3).count (-1) = 2 := by decide
theorem ex_long : longW 3 2 kexX kexY kexT = [0, 2] := by decide
theorem ex_mark : lowN (20 * 30) 9 = 200 ∧ lowD (20 * 30) 9 = 3 ∧ markN 20 30 9 = 64 ∧ badC 20 30 9 = false := by decide
theorem kbox_top (w : World) (o p : Obj) : ((w.alloc o).alloc p).heap[w.heap.size + 1]? = some p := by
  have h := World.alloc_heap_new (w.alloc o) p
  rw [World.size_alloc] at h
  exact h
theorem sight9 {V : World} {b : Nat} (h : V.heap[b]? = some (.cells #[.int .i64 0, .int .i64 0, .int .i64 0, .int .i64 3, .int .i64 0, .int .i64 1, .int .i64 4, .int .i64 0, .int .i64 2] 44)) : IsChs V (some ⟨b, 0, none⟩) 3 kexX kexY kexT := by
  refine ⟨by omega, fun _ => ⟨b, 0, rfl, get_lt h, fun i hi => ?_, fun i hi => ?_, fun i hi => ?_⟩⟩
  all_goals
    match i, hi with
    | 0, _ => exact cell_of_heap h _ _ rfl
    | 1, _ => exact cell_of_heap h _ _ rfl
    | 2, _ => exact cell_of_heap h _ _ rfl
theorem lit2 {V : World} {b : Nat} (h : V.heap[b]? = some (.cells #[.int .i64 0, .int .i64 2] 3)) : IsInts V (some ⟨b, 0, none⟩) 2 fun i => (natZ [0, 2]).getD i 0 := by
  refine ⟨by omega, fun _ => ⟨b, 0, rfl, get_lt h, fun i hi => ?_⟩⟩
  match i, hi with
  | 0, _ => exact cell_of_heap h _ _ rfl
  | 1, _ => exact cell_of_heap h _ _ rfl
set_option maxRecDepth 100000 in
set_option maxHeartbeats 3200000 in
theorem awake_law (w : World) : Gives Try.prog 6 #[] w (.bool true) := by
  have FE : Hid (∀ w' A c, IsChs w' A 3 kexX kexY kexT → Gives Try.prog 7 #[.slice A 3 c, .int .i64 2] w' (.tuple #[.int .i64 2, .int .i64 0])) := fun w' A c h => by
    have h1 := Fewest_ok 2 3 c A kexX kexY kexT w' ex_watch h
    rw [ex_few] at h1
    exact h1
  have LO : Hid (∀ w' A c, IsChs w' A 3 kexX kexY kexT → Calls Try.prog 10 #[.slice A 3 c, .int .i64 2] w' fun e w2 => ∃ B cB, e = .returned (.tuple #[.slice B 2 cB, .int .i64 0]) ∧ ∃ x : Later w', w2 = x.val ∧ IsInts w2 B 2 fun i => (natZ [0, 2]).getD i 0) := fun w' A c h => by
    have h1 := Longest_ok 2 3 c A kexX kexY kexT w' ex_watch h
    rw [ex_long] at h1
    refine Calls.mono h1 ?_
    rintro e w2 ⟨v, rfl, x, rfl, ho⟩
    obtain ⟨B, cB, rfl⟩ := ho.shape_n (n := 2) rfl
    exact ⟨B, cB, rfl, x, rfl, (ho.ints (by simp [natZ])).2⟩
  have MA : Hid (∀ w', Gives Try.prog 19 #[.int .i64 20, .int .i64 30, .int .i64 9] w' (.tuple #[.agg #[.int .i64 200, .int .i64 3], .int .i64 64, .int .i64 0])) := fun w' => by
    obtain ⟨m1, m2, m3, m4⟩ := ex_mark
    have h1 := Marked_ok 20 30 9 w' m4 (by omega)
    have m5 : markN 20 30 ((9 : Nat) : Int) = 64 := m3
    rw [m5, m1, m2] at h1
    exact h1
  have SI := Lib.hid fun w' A c1 B c2 (h1 : IsInts w' A 2 fun i => (natZ [0, 2]).getD i 0) (h2 : IsInts w' B 2 fun i => (natZ [0, 2]).getD i 0) => same_ints A B 2 c1 c2 _ _ w' (by omega) h1 h2 fun _ _ => rfl
  have HX : Hid (∀ V, Below (w.alloc (.cells #[.int .i64 0, .int .i64 0, .int .i64 0, .int .i64 3, .int .i64 0, .int .i64 1, .int .i64 4, .int .i64 0, .int .i64 2] 44)).heap.size (w.alloc (.cells #[.int .i64 0, .int .i64 0, .int .i64 0, .int .i64 3, .int .i64 0, .int .i64 1, .int .i64 4, .int .i64 0, .int .i64 2] 44)) V → IsChs V (some ⟨w.heap.size, 0, none⟩) 3 kexX kexY kexT) := fun V h => sight9 ((h.block _ (by simp)).trans (World.alloc_heap_new _ _))
  go_enter Try.func6, Try.ntmps6
  go_wp2_with (first
    | (go_at_call 7; with_reducible refine Calls.mono (Gives.calls (FE.out _ _ _ (HX.out _ (by repeat (first | exact Below.refl _ _ | (with_reducible assumption) | apply below_later | apply below_alloc | apply below_drew | apply below_drewN))))) ?_; rintro e w1 ⟨rfl, z, rfl⟩)
    | (go_at_call 10; with_reducible refine Calls.mono (LO.out _ _ _ (HX.out _ (by repeat (first | exact Below.refl _ _ | (with_reducible assumption) | apply below_later | apply below_alloc | apply below_drew | apply below_drewN)))) ?_; rintro e w1 ⟨B, cB, rfl, z2, rfl, io⟩; have IO := Lib.hid io; clear io)
    | (go_at_call 19; with_reducible refine Calls.mono (Gives.calls (MA.out _)) ?_; rintro e w1 ⟨rfl, z3, rfl⟩)
    | (go_at_call 20; with_reducible refine Calls.mono (Gives.calls (SI.out _ _ _ _ _ (IO.out.below (by repeat (first | exact Below.refl _ _ | (with_reducible assumption) | apply below_later | apply below_alloc | apply below_drew | apply below_drewN))) (lit2 (kbox_top z3.val _ _)))) ?_; rintro e w1 ⟨rfl, z4, rfl⟩))
  go_ret
  exact ⟨rfl, ⟨_, by repeat (first | exact Below.refl _ _ | (with_reducible assumption) | apply below_later | apply below_alloc | apply below_drew | apply below_drewN)⟩, rfl⟩
end Go.Proofs.Ytlljjaafejjeeaa
