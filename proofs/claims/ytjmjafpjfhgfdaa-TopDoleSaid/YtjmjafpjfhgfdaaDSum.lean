/- dole's Worths, Sum and Most: walked. -/
import Derived.Test.YtjmjafpjfhgfdaaDWorths
namespace Go.Proofs.Ytjmjafpjfhgfdaa
open Go.RowKit

/-- A call that returns a list of numbers of its own, and an error. -/
def PostIE (w : World) (l : List Int) (E : Int) (e : Ending) (w' : World) : Prop := ∃ v, e = .returned (.tuple #[v, .int .i64 E]) ∧ ∃ x : Later w, w' = x.val ∧ OwnI w' w.heap.size v l
theorem errE_ok {k m : Nat} {R : Nat → Row} {c : Nat → Int} (h : errE k R m c = 0) : Vals k (R 0).n R ∧ m = (R 0).n ∧ ∀ j, j < m → 0 ≤ c j ∧ c j < k := by
  unfold errE at h
  split at h
  · cases h
  · split at h
    · cases h
    · rename_i h1 h2
      have h3 := shareB_iff.1 (by simpa using h2)
      exact ⟨tabB_iff.1 (by simpa using h1), h3⟩
theorem errE_cases (k m : Nat) (R : Nat → Row) (c : Nat → Int) : errE k R m c = 0 ∨ errE k R m c = 70 ∨ errE k R m c = 71 := by
  unfold errE
  split
  · simp
  · split <;> simp
theorem IsTab.addr {V : World} {A : Option Addr} {k : Nat} {R : Nat → Row} (hp : IsTab V A k R) (h : 0 < k) : ∃ b off, A = some ⟨b, off, none⟩ := by
  obtain ⟨b, off, hA, _⟩ := hp.at_ h
  exact ⟨b, off, hA⟩
/-- A cell of a table. -/
theorem tab_head {V : World} {b off k n : Nat} {R : Nat → Row} (hp : IsTab V (some ⟨b, off, none⟩) k R) (W : Vals k n R) {i : Nat} (hi : i < k) :
    ∃ B, b < V.heap.size ∧ V.cell? ⟨b, off + i, none⟩ = some (.slice B n (R i).c) ∧ IsInts V B n (R i).f := by
  obtain ⟨b', off', hA, la, p⟩ := hp.at_ (by omega)
  simp only [Option.some.injEq, Addr.mk.injEq, and_true] at hA
  obtain ⟨rfl, rfl⟩ := hA
  have ca := p i hi
  have hl := W.len i hi
  have hr := (hp.row i hi).1
  unfold Row.val at ca
  rw [hl] at ca hr
  exact ⟨(R i).a, la, ca, hr⟩
theorem tab_head0 {V : World} {b off k n : Nat} {R : Nat → Row} (hp : IsTab V (some ⟨b, off, none⟩) k R) (W : Vals k n R) :
    ∃ B, b < V.heap.size ∧ V.cell? ⟨b, off, none⟩ = some (.slice B n (R 0).c) ∧ IsInts V B n (R 0).f := tab_head hp W W.k1
theorem tab_cell {V : World} {b off k n : Nat} {R : Nat → Row} (hp : IsTab V (some ⟨b, off, none⟩) k R) (W : Vals k n R) {i j : Nat} (hi : i < k) (hj : j < n) :
    ∃ br br', b < V.heap.size ∧ V.cell? ⟨b, off + i, none⟩ = some (.slice (some ⟨br, br', none⟩) n (R i).c) ∧ br < V.heap.size ∧ V.cell? ⟨br, br' + j, none⟩ = some (.int .i64 ((R i).f j)) := by
  obtain ⟨B, la, ca, hr⟩ := tab_head hp W hi
  obtain ⟨br, or', hR, pr⟩ := hr.at_ (by omega)
  rw [hR] at ca
  exact ⟨br, or', la, ca, pr.lt, pr.at_ j (by omega)⟩
set_option maxRecDepth 100000 in
theorem Worths_bad (k cap m cS : Nat) (A S : Option Addr) (R : Nat → Row) (c : Nat → Int) (w : World) (hp : IsTab w A k R) (hc : IsInts w S m c) (h : errE k R m c ≠ 0) :
    Gives Try.prog 16 #[.slice A k cap, .slice S m cS] w (.tuple #[.slice none 0 0, .int .i64 (errE k R m c)]) := by
  have CH := Lib.hid fun (V : World) (hb : Below w.heap.size w V) => check_any k cap m cS A S R c V (hp.below hb) (hc.below hb)
  generalize errE k R m c = E at *
  have e1 : (E != 0) = true := by simpa using h
  clear hp hc h
  go_enter Try.func16, Try.ntmps16
  go_wp2_with (go_at_call 51; with_reducible refine Calls.mono (Gives.calls (CH.out _ (by repeat (first | exact Below.refl _ _ | (with_reducible assumption) | apply below_later | apply below_alloc | apply below_drew | apply below_drewN)))) ?_; rintro e w1 ⟨rfl, z, rfl⟩)
  go_ret2
  exact ⟨rfl, later_of (by repeat (first | exact Below.refl _ _ | (with_reducible assumption) | apply below_later | apply below_alloc | apply below_drew | apply below_drewN))⟩
set_option maxRecDepth 100000 in
theorem Worths_ok (k cap m cS : Nat) (A S : Option Addr) (R : Nat → Row) (c : Nat → Int) (w : World) (hp : IsTab w A k R) (hc : IsInts w S m c) (h : errE k R m c = 0) :
    Calls Try.prog 16 #[.slice A k cap, .slice S m cS] w (PostIE w (listN (ownW R c m) k) 0) := by
  obtain ⟨W, hm, _⟩ := errE_ok h
  have CH : Hid (∀ (V : World), Below w.heap.size w V → Gives Try.prog 51 #[.slice A k cap, .slice S m cS] V (.int .i64 0)) := fun V hb => h ▸ check_any k cap m cS A S R c V (hp.below hb) (hc.below hb)
  have WO := Lib.hid fun (V : World) (hb : Below w.heap.size w V) => worths_any k cap (R 0).n m cS A S R c V (by omega) W (hp.below hb) (hc.below hb)
  generalize listN (ownW R c m) k = res at *
  clear hp hc h W hm
  go_enter Try.func16, Try.ntmps16
  go_wp2_with (first
    | (go_at_call 51; with_reducible refine Calls.mono (Gives.calls (CH.out _ (by repeat (first | exact Below.refl _ _ | (with_reducible assumption) | apply below_later | apply below_alloc | apply below_drew | apply below_drewN)))) ?_; rintro e w1 ⟨rfl, z, rfl⟩)
    | (go_at_call 52; with_reducible refine Calls.mono (GivesI.calls (WO.out _ (by repeat (first | exact Below.refl _ _ | (with_reducible assumption) | apply below_later | apply below_alloc | apply below_drew | apply below_drewN)))) ?_; rintro e w1 ⟨v, rfl, z2, rfl, ho⟩; have HO := Lib.hid ho; clear ho))
  go_ret2
  exact ⟨_, rfl, ⟨_, by repeat (first | exact Below.refl _ _ | (with_reducible assumption) | apply below_later | apply below_alloc | apply below_drew | apply below_drewN)⟩, rfl, HO.out.mono z.size⟩
set_option maxRecDepth 100000 in
theorem Sum_bad (k cap m cS : Nat) (A S : Option Addr) (R : Nat → Row) (c : Nat → Int) (w : World) (hp : IsTab w A k R) (hc : IsInts w S m c) (h : errE k R m c ≠ 0) :
    Gives Try.prog 17 #[.slice A k cap, .slice S m cS] w (.tuple #[.int .i64 0, .int .i64 (errE k R m c)]) := by
  have CH := Lib.hid fun (V : World) (hb : Below w.heap.size w V) => check_any k cap m cS A S R c V (hp.below hb) (hc.below hb)
  generalize errE k R m c = E at *
  have e1 : (E != 0) = true := by simpa using h
  clear hp hc h
  go_enter Try.func17, Try.ntmps17
  go_wp2_with (go_at_call 51; with_reducible refine Calls.mono (Gives.calls (CH.out _ (by repeat (first | exact Below.refl _ _ | (with_reducible assumption) | apply below_later | apply below_alloc | apply below_drew | apply below_drewN)))) ?_; rintro e w1 ⟨rfl, z, rfl⟩)
  go_ret2
  exact ⟨rfl, later_of (by repeat (first | exact Below.refl _ _ | (with_reducible assumption) | apply below_later | apply below_alloc | apply below_drew | apply below_drewN))⟩
theorem ownW_bd {k n m : Nat} {R : Nat → Row} {c : Nat → Int} (W : Vals k n R) (hm : m ≤ n) {i : Nat} (hi : i < k) : 0 ≤ ownW R c m i ∧ ownW R c m i ≤ 12000 := by
  have h := wth_bd (f := (R i).f) (c := c) (o := (i : Nat)) (m := m) fun j hj => W.val i hi j (by omega)
  have := W.n12
  unfold ownW
  omega
set_option maxRecDepth 100000 in
set_option maxHeartbeats 1600000 in
theorem Sum_ok (k cap m cS : Nat) (A S : Option Addr) (R : Nat → Row) (c : Nat → Int) (w : World) (hp : IsTab w A k R) (hc : IsInts w S m c) (h : errE k R m c = 0) :
    Gives Try.prog 17 #[.slice A k cap, .slice S m cS] w (.tuple #[.int .i64 (sumN (ownW R c m) k), .int .i64 0]) := by
  obtain ⟨W, hm, _⟩ := errE_ok h
  have hk6 := W.k6
  have CH : Hid (∀ (V : World), Below w.heap.size w V → Gives Try.prog 51 #[.slice A k cap, .slice S m cS] V (.int .i64 0)) := fun V hb => h ▸ check_any k cap m cS A S R c V (hp.below hb) (hc.below hb)
  have WO := Lib.hid fun (V : World) (hb : Below w.heap.size w V) => worths_any k cap (R 0).n m cS A S R c V (by omega) W (hp.below hb) (hc.below hb)
  have LG := Lib.hid fun i (hi : i < k) => listN_get (g := ownW R c m) hi
  have LL := Lib.hid (listN_length (ownW R c m) k)
  have TB := Lib.hid fun i (hi : i < k) => ownW_bd (R := R) (c := c) (m := m) W (by omega) hi
  have SB := Lib.hid fun j (hj : j ≤ k) => sumN_bd (g := ownW R c m) (M := 12000) (k := j) fun i hi => TB.out i (by omega)
  have SS := Lib.hid (sumN_succ (ownW R c m))
  have S0 : Hid (sumN (ownW R c m) 0 = 0) := rfl
  generalize listN (ownW R c m) k = res at *
  generalize sumN (ownW R c m) = U at *
  generalize ownW R c m = T at *
  clear hp hc h W hm
  go_enter Try.func17, Try.ntmps17
  go_wp2_with (first
    | (go_at_call 51; with_reducible refine Calls.mono (Gives.calls (CH.out _ (by repeat (first | exact Below.refl _ _ | (with_reducible assumption) | apply below_later | apply below_alloc | apply below_drew | apply below_drewN)))) ?_; rintro e w1 ⟨rfl, z, rfl⟩)
    | (go_at_call 52; with_reducible refine Calls.mono (GivesI.calls (WO.out _ (by repeat (first | exact Below.refl _ _ | (with_reducible assumption) | apply below_later | apply below_alloc | apply below_drew | apply below_drewN)))) ?_; rintro e w1 ⟨v, rfl, z2, rfl, ho⟩; obtain ⟨O, cO, rfl⟩ := ho.shape_n LL.out; have HO := Lib.hid ho; clear ho))
  have HBZ : Hid (Below w.heap.size w z2.val) := by show Below _ _ _; repeat (first | exact Below.refl _ _ | (with_reducible assumption) | apply below_later | apply below_alloc | apply below_drew | apply below_drewN)
  have IO := Lib.hid (HO.out.ints (by rw [LL.out]; omega)).2
  clear HO
  generalize z2.val = Z at *
  go_loopw [7, 21] (fun u v wr => ∃ j : Nat, u = .int .i64 (U j) ∧ v = .int .i64 (j : Nat) ∧ j ≤ k ∧ ∃ x : Later Z, wr = x.val) (fun _ v _ => k - (intOf v).toNat)
  case atStart => exact ⟨0, by rw [S0.out], rfl, by omega, later_of (by repeat (first | exact Below.refl _ _ | (with_reducible assumption) | apply below_later | apply below_alloc | apply below_drew | apply below_drewN))⟩
  case round =>
    obtain ⟨j, rfl, rfl, hj, x, rfl⟩ := hrel
    by_cases hlt : j < k
    · obtain ⟨bb, oo, hB, q⟩ := (IO.out.later x).at_ (by omega)
      subst hB
      have cj := q.at_ j hlt
      have lq := q.lt
      rw [LG.out j hlt] at cj
      obtain ⟨b0, b1⟩ := SB.out j (by omega)
      obtain ⟨b2, b3⟩ := TB.out j (by omega)
      have HW := Lib.hid (SS.out j)
      clear q
      generalize T j = y at *
      generalize U j = s at *
      go_wp2
      go_roundw
      case rel => exact ⟨j + 1, by rw [HW.out], by go_num, by omega, later_of (by repeat (first | exact Below.refl _ _ | (with_reducible assumption) | apply below_later | apply below_alloc | apply below_drew | apply below_drewN))⟩
      case measure => simp [intOf]; omega
    · obtain rfl : j = k := by omega
      go_wp2
      go_ret2
      exact ⟨rfl, later_of (below_more HBZ.out x.ok)⟩
set_option maxRecDepth 100000 in
theorem Most_bad (k cap : Nat) (A : Option Addr) (R : Nat → Row) (w : World) (hp : IsTab w A k R) (h : tabB k R = false) :
    Gives Try.prog 18 #[.slice A k cap] w (.tuple #[.int .i64 0, .int .i64 70]) := by
  have VA := Lib.hid fun (V : World) (hb : Below w.heap.size w V) => h ▸ valid_any k cap A R V (hp.below hb)
  clear hp h
  go_enter Try.func18, Try.ntmps18
  go_wp2_with (go_at_call 20; with_reducible refine Calls.mono (Gives.calls (VA.out _ (by repeat (first | exact Below.refl _ _ | (with_reducible assumption) | apply below_later | apply below_alloc | apply below_drew | apply below_drewN)))) ?_; rintro e w1 ⟨rfl, z, rfl⟩)
  go_ret2
  exact ⟨rfl, later_of (by repeat (first | exact Below.refl _ _ | (with_reducible assumption) | apply below_later | apply below_alloc | apply below_drew | apply below_drewN))⟩
/-- The greatest values of the first strips. -/
def colT (R : Nat → Row) (k j : Nat) : Int := topN (fun i => (R i).f j) k
theorem topN_succ (g : Nat → Int) (k : Nat) : topN g (k + 1) = max (topN g k) (g k) := rfl
set_option maxRecDepth 100000 in
set_option maxHeartbeats 1600000 in
theorem Most_ok (k cap n : Nat) (A : Option Addr) (R : Nat → Row) (w : World) (hp : IsTab w A k R) (W : Vals k n R) :
    Gives Try.prog 18 #[.slice A k cap] w (.tuple #[.int .i64 (sumN (colT R k) n), .int .i64 0]) := by
  have hk6 := W.k6
  have hk1 := W.k1
  have hn12 := W.n12
  have VA : Hid (∀ (V : World), Below w.heap.size w V → Gives Try.prog 20 #[.slice A k cap] V (.bool true)) := fun V hb => (tabB_iff.2 ((W.len 0 hk1).symm ▸ W)) ▸ valid_any k cap A R V (hp.below hb)
  obtain ⟨b, off, rfl⟩ := hp.addr hk1
  have CE := Lib.hid fun (V : World) (hb : Below w.heap.size w V) (i j : Nat) (hi : i < k) (hj : j < n) => tab_cell (hp.below hb) W hi hj
  have HD := Lib.hid fun (V : World) (hb : Below w.heap.size w V) => tab_head0 (hp.below hb) W
  have VB := Lib.hid W.val
  have CB := Lib.hid fun (i j : Nat) (hi : i ≤ k) (hj : j < n) => topN_bd (g := fun i => (R i).f j) (k := i) fun q hq => W.val q (by omega) j hj
  have SB := Lib.hid fun j (hj : j ≤ n) => sumN_bd (g := colT R k) (M := 1000) (k := j) fun i hi => CB.out k i (Nat.le_refl _) (by omega)
  have SS := Lib.hid (sumN_succ (colT R k))
  have S0 : Hid (sumN (colT R k) 0 = 0) := rfl
  have TS := Lib.hid fun (j i : Nat) => topN_succ (fun i => (R i).f j) i
  have T0 : Hid (∀ j, topN (fun i => (R i).f j) 0 = 0) := fun _ => rfl
  have TE : Hid (∀ j, topN (fun i => (R i).f j) k = colT R k j) := fun _ => rfl
  generalize sumN (colT R k) = U at *
  generalize colT R k = C at *
  clear hp W
  go_enter Try.func18, Try.ntmps18
  go_wp2_with ((go_at_call 20; with_reducible refine Calls.mono (Gives.calls (VA.out _ (by repeat (first | exact Below.refl _ _ | (with_reducible assumption) | apply below_later | apply below_alloc | apply below_drew | apply below_drewN)))) ?_; rintro e w1 ⟨rfl, z, rfl⟩); obtain ⟨B, la, ca, _⟩ := HD.out z.val (by repeat (first | exact Below.refl _ _ | (with_reducible assumption) | apply below_later | apply below_alloc | apply below_drew | apply below_drewN)))
  have HBZ : Hid (Below w.heap.size w z.val) := z.ok
  clear la ca
  generalize z.val = Z at *
  go_loopw [4, 16] (fun u v wr => ∃ j : Nat, u = .int .i64 (U j) ∧ v = .int .i64 (j : Nat) ∧ j ≤ n ∧ ∃ x : Later Z, wr = x.val) (fun _ v _ => n - (intOf v).toNat)
  case atStart => exact ⟨0, by rw [S0.out], rfl, by omega, later_of (by repeat (first | exact Below.refl _ _ | (with_reducible assumption) | apply below_later | apply below_alloc | apply below_drew | apply below_drewN))⟩
  case round =>
    obtain ⟨j, rfl, rfl, hj, x, rfl⟩ := hrel
    by_cases hlt : j < n
    · have HBX : Hid (Below w.heap.size w x.val) := below_more HBZ.out x.ok
      have HXV : Hid (∀ V, Below x.val.heap.size x.val V → ∃ y : Later Z, V = y.val) := fun V h => ⟨⟨V, below_more x.ok h⟩, rfl⟩
      obtain ⟨b0, b1⟩ := SB.out j (by omega)
      have HW := Lib.hid (SS.out j)
      have TSj := Lib.hid (TS.out j)
      have T0j := Lib.hid (T0.out j)
      have TEj := Lib.hid (TE.out j)
      have CBj := Lib.hid fun i hi => CB.out i j hi hlt
      have CEj := Lib.hid fun V hb i hi => CE.out V hb i j hi hlt
      have VBj := Lib.hid fun i hi => VB.out i hi j hlt
      generalize topN (fun i => (R i).f j) = T at *
      generalize x.val = Q at *
      generalize U j = s at *
      have hg : decide ((j : Int) < (n : Int)) = true := by simp; omega
      go_wp2
      go_loopw [6, 21] (fun u v wr => ∃ i : Nat, u = .int .i64 (T i) ∧ v = .int .i64 (i : Nat) ∧ i ≤ k ∧ ∃ x : Later Q, wr = x.val) (fun _ v _ => k - (intOf v).toNat)
      case atStart => exact ⟨0, by rw [T0j.out], rfl, by omega, later_of (by repeat (first | exact Below.refl _ _ | (with_reducible assumption) | apply below_later | apply below_alloc | apply below_drew | apply below_drewN))⟩
      case round =>
        obtain ⟨i, rfl, rfl, hi, y, rfl⟩ := hrel
        by_cases hlt2 : i < k
        · obtain ⟨br, br', la, ca, lr, cr⟩ := CEj.out y.val (below_more HBX.out y.ok) i hlt2
          have TS1 := Lib.hid (TSj.out i)
          obtain ⟨b2, b3⟩ := CBj.out i (by omega)
          obtain ⟨b4, b5⟩ := VBj.out i hlt2
          have HN : Hid (T (i + 1) = max (T i) ((R i).f j)) := TS1.out
          generalize T i = ti at *
          generalize (R i).f j = fj at *
          generalize (R i).c = rc at *
          go_wp2
          all_goals
            go_roundw
            case rel => exact ⟨i + 1, by rw [HN.out]; try (congr 1; omega), by go_num, by omega, later_of (by repeat (first | exact Below.refl _ _ | (with_reducible assumption) | apply below_later | apply below_alloc | apply below_drew | apply below_drewN))⟩
            case measure => simp [intOf]; omega
        · obtain rfl : i = k := by omega
          obtain ⟨b2, b3⟩ := CBj.out i (by omega)
          have HN : Hid (U (j + 1) = s + T i) := by show _ = _; rw [HW.out, TEj.out]
          generalize T i = ti at *
          go_wp2
          first
            | (go_roundw
               case rel => exact ⟨j + 1, by rw [HN.out], by go_num, by omega, HXV.out _ (by repeat (first | exact Below.refl _ _ | (with_reducible assumption) | apply below_later | apply below_alloc | apply below_drew | apply below_drewN))⟩
               case measure => simp [intOf]; omega)
            | (refine ⟨⟨j + 1, by rw [HN.out], by go_num, by omega, HXV.out _ (by repeat (first | exact Below.refl _ _ | (with_reducible assumption) | apply below_later | apply below_alloc | apply below_drew | apply below_drewN))⟩, ?_⟩; simp [intOf]; omega)
    · obtain rfl : j = n := by omega
      go_wp2
      go_ret2
      exact ⟨rfl, later_of (below_more HBZ.out x.ok)⟩
end Go.Proofs.Ytjmjafpjfhgfdaa
