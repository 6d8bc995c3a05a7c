/- wale's plan: the first plan that has the greatest worth. -/
import Derived.Test.YtnjloomhhgilcaaWorths
import Derived.Deep.DeepCutAuto
namespace Go.Proofs.Ytnjloomhhgilcaa
open Go.RowKit

/-- The boxes that plan's closure reads: at, next, now. -/
structure PB (w : World) (ba bn bw gn gw n a : Nat) (now next : List Int) : Prop where
  a0 : w.cell? ⟨ba, 0, none⟩ = some (.int .i64 (a : Nat))
  n0 : w.cell? ⟨bn, 0, none⟩ = some (.slice (some ⟨gn, 0, none⟩) n n)
  w0 : w.cell? ⟨bw, 0, none⟩ = some (.slice (some ⟨gw, 0, none⟩) n n)
  nl : gn < w.heap.size
  wl : gw < w.heap.size
  nx : ∀ i, i < n → w.cell? ⟨gn, i, none⟩ = some (.int .i64 (next.getD i 0))
  nw : ∀ i, i < n → w.cell? ⟨gw, i, none⟩ = some (.int .i64 (now.getD i 0))
theorem PB.later {w : World} {ba bn bw gn gw n a : Nat} {now next : List Int} (h : PB w ba bn bw gn gw n a now next) (x : Later w) : PB x.val ba bn bw gn gw n a now next :=
  ⟨(x.cell _ _ (World.block_lt_of_cell? _ _ h.a0)).trans h.a0, (x.cell _ _ (World.block_lt_of_cell? _ _ h.n0)).trans h.n0, (x.cell _ _ (World.block_lt_of_cell? _ _ h.w0)).trans h.w0, x.lt _ h.nl, x.lt _ h.wl, fun i hi => (x.cell _ _ h.nl).trans (h.nx i hi), fun i hi => (x.cell _ _ h.wl).trans (h.nw i hi)⟩

set_option maxRecDepth 100000 in
set_option maxHeartbeats 3200000 in
theorem plan1_any (n ba bn bw gn gw a : Nat) (now next : List Int) (f t : Nat → Nat) (V : Nat → Int) (i : Nat) (w : World) (h : PB w ba bn bw gn gw n a now next) (ha : a < n) (ht : t i < n) (hv : -1000 ≤ V i ∧ V i ≤ 1000) (hs : next.getD (t i) 0 = nope ∨ (-1000000 ≤ next.getD (t i) 0 ∧ next.getD (t i) 0 ≤ 1000000)) :
    Gives Try.prog 57 #[.agg #[.int .i64 (f i : Nat), .int .i64 (t i : Nat), .int .i64 (V i)], .pointer (some ⟨ba, 0, none⟩), .pointer (some ⟨bn, 0, none⟩), .pointer (some ⟨bw, 0, none⟩)] w (.bool (stepB f t V now next a i)) := by
  have hb : Below w.heap.size w (w.alloc (.cells #[.int .i64 (f i : Nat), .int .i64 (t i : Nat), .int .i64 (V i)] 50)) := (Below.refl _ _).alloc (Nat.le_refl _) _
  have h2 : PB (w.alloc (.cells #[.int .i64 (f i : Nat), .int .i64 (t i : Nat), .int .i64 (V i)] 50)) ba bn bw gn gw n a now next := h.later ⟨_, hb⟩
  obtain ⟨e0, e1, e2, e3⟩ := box3 w (.int .i64 (f i : Nat)) (.int .i64 (t i : Nat)) (.int .i64 (V i)) 50
  have HB := Lib.hid hb
  have a0 := h2.a0
  have n0 := h2.n0
  have w0 := h2.w0
  have nl := h2.nl
  have wl := h2.wl
  have a1 := World.block_lt_of_cell? _ _ a0
  have n1 := World.block_lt_of_cell? _ _ n0
  have w1 := World.block_lt_of_cell? _ _ w0
  have cn := h2.nx _ ht
  have cw := h2.nw _ ha
  have HS : Hid (stepB f t V now next a i = (decide (f i = a) && decide (next.getD (t i) 0 ≠ nope) && decide (V i + next.getD (t i) 0 = now.getD a 0))) := rfl
  generalize stepB f t V now next a i = rr at *
  generalize next.getD (t i) 0 = r at *
  generalize now.getD a 0 = s at *
  unfold nope at hs HS
  clear h h2 hb
  obtain ⟨v1, v2⟩ := hv
  by_cases h1 : f i = a
  · have d1 : ((f i : Int) == (a : Int)) = true := by simp [h1]
    by_cases h2 : r = -9223372036854775808
    · have d2 : (r != -9223372036854775808) = false := by simp [h2]
      have HF : Hid (rr = false) := by show _ = _; rw [HS.out]; simp [h2]
      clear HS hs h1
      go_enter Try.func57, Try.ntmps57
      go_wp2_with fail
      obtain ⟨b9, hb9⟩ : ∃ b9, w.heap.size = b9 := ⟨_, rfl⟩
      rw [hb9] at e0 e1 e2 e3 ⊢
      clear hb9
      generalize w.alloc (.cells #[.int .i64 (f i : Nat), .int .i64 (t i : Nat), .int .i64 (V i)] 50) = Z at *
      refine wp_region_later (by kernel_rfl) (by kernel_rfl) ?_
      repeat (go_big_quiet_step ((fail)))
      refine wpQuiet_nil ?_
      intro q
      go_wp2
      go_ret
      exact ⟨ret_bool (by rw [HF.out]), later_of (below_more HB.out q.ok)⟩
    · have d2 : (r != -9223372036854775808) = true := by simp [h2]
      obtain ⟨s1, s2⟩ := hs.resolve_left h2
      have w2 : IntKind.i64.wrap (V i + r) = V i + r := IntWalk.i64_in _ ⟨by omega, by omega⟩
      have HF : Hid (rr = (V i + r == s)) := by show _ = _; rw [HS.out]; simp [h1, h2]; rfl
      clear HS hs h1 h2
      generalize hd3 : (V i + r == s) = d3 at *
      go_enter Try.func57, Try.ntmps57
      go_wp2_with fail
      obtain ⟨b9, hb9⟩ : ∃ b9, w.heap.size = b9 := ⟨_, rfl⟩
      rw [hb9] at e0 e1 e2 e3 ⊢
      clear hb9
      generalize w.alloc (.cells #[.int .i64 (f i : Nat), .int .i64 (t i : Nat), .int .i64 (V i)] 50) = Z at *
      refine wp_region_later (by kernel_rfl) (by kernel_rfl) ?_
      repeat (go_big_quiet_step ((fail)))
      refine wpQuiet_nil ?_
      intro q
      go_wp2
      go_ret
      exact ⟨ret_bool (by rw [HF.out]), later_of (below_more HB.out q.ok)⟩
  · have d1 : ((f i : Int) == (a : Int)) = false := by simp; omega
    have HF : Hid (rr = false) := by show _ = _; rw [HS.out]; simp [h1]
    clear HS hs h1
    go_enter Try.func57, Try.ntmps57
    go_wp2_with fail
    obtain ⟨b9, hb9⟩ : ∃ b9, w.heap.size = b9 := ⟨_, rfl⟩
    rw [hb9] at e0 e1 e2 e3 ⊢
    clear hb9
    generalize w.alloc (.cells #[.int .i64 (f i : Nat), .int .i64 (t i : Nat), .int .i64 (V i)] 50) = Z at *
    refine wp_region_later (by kernel_rfl) (by kernel_rfl) ?_
    repeat (go_big_quiet_step ((fail)))
    refine wpQuiet_nil ?_
    intro q
    go_wp2
    go_ret
    exact ⟨ret_bool (by rw [HF.out]), later_of (below_more HB.out q.ok)⟩

set_option maxRecDepth 100000 in
set_option maxHeartbeats 3200000 in
theorem pindex_any (n m cap ba bn bw gn gw a : Nat) (A : Option Addr) (now next : List Int) (f t : Nat → Nat) (V : Nat → Int) (w : World) (hp : IsChs w A m (fun i => (f i : Int)) (fun i => (t i : Int)) V) (h : PB w ba bn bw gn gw n a now next) (ha : a < n) (R : Rot n m f t V)
    (hs : ∀ s, s < n → next.getD s 0 = nope ∨ (-1000000 ≤ next.getD s 0 ∧ next.getD s 0 ≤ 1000000)) (hex : ∃ i, i < m ∧ stepB f t V now next a i = true) :
    Gives Try.prog 56 #[.slice A m cap, .func (.func 57) #[] #[.pointer (some ⟨ba, 0, none⟩), .pointer (some ⟨bn, 0, none⟩), .pointer (some ⟨bw, 0, none⟩)]] w (.int .i64 (pick m f t V now next a : Nat)) := by
  have hm := R.m40
  have HP := Lib.hid hp
  have HPB := Lib.hid h
  have HR := Lib.hid R
  have HS := Lib.hid hs
  have HX := Lib.hid hex
  have PK : Hid (∀ k, k < m → stepB f t V now next a k = true → (∀ j, j < k → stepB f t V now next a j = false) → pick m f t V now next a = k) := fun k hk h1 h2 => findN_spec _ m 0 k (Nat.zero_le _) (by omega) h1 fun j _ hj => h2 j hj
  clear hp h R hs hex
  go_enter Try.func56, Try.ntmps56
  go_wp2
  go_loopw [8] (fun u wr => ∃ k : Nat, k ≤ m ∧ u = .int .i64 k ∧ (∀ j, j < k → stepB f t V now next a j = false) ∧ ∃ x : Later w, wr = x.val) (fun u _ => m - (intOf u).toNat)
  case atStart => exact ⟨0, by omega, rfl, by omega, later_of (by repeat (first | exact Below.refl _ _ | (with_reducible assumption) | apply below_later | apply below_alloc | apply below_drew | apply below_drewN))⟩
  case round =>
    obtain ⟨k, hk, rfl, hall, x, rfl⟩ := hrel
    have HALL := Lib.hid hall
    clear hall
    by_cases hlt : k < m
    · obtain ⟨b, off, hB, p⟩ := (HP.out.later x).at_ (by omega)
      subst hB
      have cf := p.f k hlt
      have ct := p.t k hlt
      have cv := p.v k hlt
      have lb := p.lt
      clear p
      have A1 : Hid (Gives Try.prog 57 #[.agg #[.int .i64 (f k : Nat), .int .i64 (t k : Nat), .int .i64 (V k)], .pointer (some ⟨ba, 0, none⟩), .pointer (some ⟨bn, 0, none⟩), .pointer (some ⟨bw, 0, none⟩)] x.val (.bool (stepB f t V now next a k))) := plan1_any n ba bn bw gn gw a now next f t V k x.val (HPB.out.later x) ha (HR.out.t k hlt) (HR.out.v k hlt) (HS.out _ (HR.out.t k hlt))
      cases hF : stepB f t V now next a k
      · have F0 := Lib.hid hF
        rw [hF] at A1
        clear hF
        go_wp2_with (go_at_call 57; (first | (with_reducible show Calls _ _ _ (Later.val _) _; with_reducible refine Calls.mono (Later.call _ (A1.out)) ?_) | (with_reducible refine Calls.mono (Gives.calls (A1.out)) ?_)); rintro e w1 ⟨rfl, z, rfl⟩)
        go_roundw
        case rel => exact ⟨k + 1, by omega, by go_num, fun j hj => by
          rcases Nat.lt_or_ge j k with h1 | h1
          · exact HALL.out j h1
          · obtain rfl : j = k := by omega
            exact F0.out, later_of (by repeat (first | exact Below.refl _ _ | (with_reducible assumption) | apply below_later | apply below_alloc | apply below_drew | apply below_drewN))⟩
        case measure => simp [intOf]; omega
      · have F0 := Lib.hid hF
        rw [hF] at A1
        clear hF
        go_wp2_with (go_at_call 57; (first | (with_reducible show Calls _ _ _ (Later.val _) _; with_reducible refine Calls.mono (Later.call _ (A1.out)) ?_) | (with_reducible refine Calls.mono (Gives.calls (A1.out)) ?_)); rintro e w1 ⟨rfl, z, rfl⟩)
        go_ret
        exact ⟨ret_int (by rw [PK.out k hlt F0.out HALL.out]), later_of (by repeat (first | exact Below.refl _ _ | (with_reducible assumption) | apply below_later | apply below_alloc | apply below_drew | apply below_drewN))⟩
    · obtain ⟨i, hi, hi2⟩ := HX.out
      rw [HALL.out i (by omega)] at hi2
      cases hi2

def natZ (l : List Nat) : List Int := l.map fun i : Nat => (i : Int)
theorem natZ_length (l : List Nat) : (natZ l).length = l.length := by simp [natZ]
theorem cellsI_nat (l : List Nat) (k : Nat) : cellsI (natZ (l ++ [k])) = cellsI (natZ l) ++ [.int .i64 (k : Int)] := by simp [cellsI, natZ]
theorem one_set {w : World} {b : Nat} {u v : Value} {t : TypeId} (h : w.heap[b]? = some (.cells #[u] t (0, 0))) : (w.setCell ⟨b, 0, none⟩ v).heap[b]? = some (.cells #[v] t (0, 0)) := by
  simp [World.setCell, Array.getElem?_modify, h]
/-- What plan answers. -/
def PostPl (w : World) (l : List Nat) (e : Ending) (w' : World) : Prop := ∃ v, e = .returned (.tuple #[v, .bool true]) ∧ ∃ x : Later w, w' = x.val ∧ OwnI w' w.heap.size v (natZ l)

set_option maxRecDepth 100000 in
set_option maxHeartbeats 6400000 in
theorem plan_none (n m cap years start : Nat) (A : Option Addr) (f t : Nat → Nat) (V : Nat → Int) (w : World) (hy : years ≤ 100) (hs : start < n) (R : Rot n m f t V) (hp : IsChs w A m (fun i => (f i : Int)) (fun i => (t i : Int)) V) (hno : (wrow n m f t V years).getD start 0 = nope) :
    Gives Try.prog 37 #[.agg #[.int .i64 n, .slice A m cap], .int .i64 start, .int .i64 years] w (.tuple #[.slice none 0 0, .bool false]) := by
  have WO : Hid (∀ w, IsChs w A m (fun i => (f i : Int)) (fun i => (t i : Int)) V → Calls Try.prog 36 #[.agg #[.int .i64 n, .slice A m cap], .int .i64 years] w fun e w' => ∃ v, e = .returned v ∧ ∃ x : Later w, w' = x.val ∧ Tab w' w.heap.size v (years + 1) n (wrow n m f t V)) := fun w h => worths_any n m cap years A f t V w hy R h
  have HP := Lib.hid hp
  have HN := Lib.hid hno
  clear hp R hno
  go_enter Try.func37, Try.ntmps37
  go_wp2_with (go_at_call 36; refine Calls.mono (WO.out _ (HP.out.later ⟨_, by repeat (first | exact Below.refl _ _ | (with_reducible assumption) | apply below_later | apply below_alloc | apply below_drew | apply below_drewN)⟩)) ?_; rintro e w1 ⟨v, rfl, z, rfl, ht⟩; obtain ⟨go, co, rfl, hg1, hg2, hrows⟩ := ht.form (by omega); obtain ⟨gr, cgr, lgr, ogr, hlr⟩ := hrows years (by omega); have c4 := (ogr.cell hlr hs).1; rw [HN.out] at c4; unfold nope at c4; clear ht hrows ogr hlr)
  go_ret2
  exact ⟨rfl, later_of (by repeat (first | exact Below.refl _ _ | (with_reducible assumption) | apply below_later | apply below_alloc | apply below_drew | apply below_drewN))⟩

set_option maxRecDepth 100000 in
set_option maxHeartbeats 6400000 in
theorem plan_some (n m cap years start : Nat) (A : Option Addr) (f t : Nat → Nat) (V : Nat → Int) (w : World) (hy : years ≤ 100) (hs : start < n) (R : Rot n m f t V) (hp : IsChs w A m (fun i => (f i : Int)) (fun i => (t i : Int)) V) (hno : (wrow n m f t V years).getD start 0 ≠ nope) :
    Calls Try.prog 37 #[.agg #[.int .i64 n, .slice A m cap], .int .i64 start, .int .i64 years] w (PostPl w (planL n m f t V years start)) := by
  have hn8 := R.n8
  have hm40 := R.m40
  have WO : Hid (∀ w, IsChs w A m (fun i => (f i : Int)) (fun i => (t i : Int)) V → Calls Try.prog 36 #[.agg #[.int .i64 n, .slice A m cap], .int .i64 years] w fun e w' => ∃ v, e = .returned v ∧ ∃ x : Later w, w' = x.val ∧ Tab w' w.heap.size v (years + 1) n (wrow n m f t V)) := fun w h => worths_any n m cap years A f t V w hy R h
  have HP := Lib.hid hp
  have HN := Lib.hid hno
  have HR := Lib.hid R
  obtain ⟨s0, hs0⟩ : ∃ s0, (wrow n m f t V years).getD start 0 = s0 := ⟨_, rfl⟩
  have HS0 := Lib.hid hs0
  have hd0 : (s0 == -9223372036854775808) = false := by rw [← hs0]; simpa [nope] using hno
  clear hs0
  have hb : Below w.heap.size w (w.alloc (.cells #[.int .i64 n, .slice A m cap] 75)) := (Below.refl _ _).alloc (Nat.le_refl _) _
  have HB := Lib.hid hb
  have HPZ : Hid (IsChs (w.alloc (.cells #[.int .i64 n, .slice A m cap] 75)) A m (fun i => (f i : Int)) (fun i => (t i : Int)) V) := hp.later ⟨_, hb⟩
  obtain ⟨c0, c1, l0⟩ := box2 w (.int .i64 n) (.slice A m cap) 75
  obtain ⟨i0, hi0, hz0, hz1, hz2⟩ := info_int
  clear hp R hno hb
  go_enter Try.func37, Try.ntmps37
  go_wp2_with (go_at_call 36; refine Calls.mono (WO.out _ HPZ.out) ?_; rintro e w1 ⟨v, rfl, z, rfl, ht⟩; obtain ⟨go, co, rfl, hg1, hg2, hrows⟩ := ht.form (by omega); obtain ⟨gr, cgr, lgr, ogr, hlr⟩ := hrows years (by omega); have c4 := (ogr.cell hlr hs).1; rw [HS0.out] at c4; have HROWS := Lib.hid hrows; clear ht hrows ogr hlr)
  have d0 := (z.cell _ 0 l0).trans c0
  have d1 := (z.cell _ 1 l0).trans c1
  have l1 := z.lt _ l0
  have HBZ : Hid (Below w.heap.size w z.val) := below_later HB.out
  have HPP : Hid (IsChs z.val A m (fun i => (f i : Int)) (fun i => (t i : Int)) V) := HPZ.out.later z
  have hgo : w.heap.size < go := by simp at hg1; omega
  clear c0 c1 l0 c4 hg1 cgr lgr HPZ
  obtain ⟨b8, hb8⟩ : ∃ b8, w.heap.size = b8 := ⟨_, rfl⟩
  have HB8 := Lib.hid hb8
  rw [hb8] at d0 d1 l1 hgo ⊢
  clear hb8
  have hbp : Hid (Below z.val.heap.size z.val (z.val.alloc (.cells #[.int .i64 start] 3))) := (Below.refl _ _).alloc (Nat.le_refl _) _
  have hap : Hid ((z.val.alloc (.cells #[.int .i64 start] 3)).heap[z.val.heap.size]? = some (.cells #[.int .i64 start] 3 (0, 0))) := World.alloc_heap_new _ _
  have hsz : Hid (z.val.heap.size + 1 ≤ (z.val.alloc (.cells #[.int .i64 start] 3)).heap.size) := by show _ ≤ _; simp
  generalize z.val = P at *
  generalize P.alloc (.cells #[.int .i64 start] 3) = P1 at *
  obtain ⟨ba, hba⟩ : ∃ ba, P.heap.size = ba := ⟨_, rfl⟩
  have HBA := Lib.hid hba
  rw [hba] at hap hsz ⊢
  go_loopw [9, 28] (fun u v wr => ∃ (y a : Nat) (l : List Nat), v = .int .i64 (y : Nat) ∧ y ≤ years ∧ l.length = y ∧ a < n ∧ (wrow n m f t V (years - y)).getD a 0 ≠ nope ∧ l ++ planL n m f t V (years - y) a = planL n m f t V years start ∧ Below P.heap.size P wr ∧ wr.heap[ba]? = some (.cells #[.int .i64 (a : Nat)] 3 (0, 0)) ∧ OwnI wr (ba + 1) u (natZ l)) (fun _ v _ => years - (intOf v).toNat)
  case atStart => exact ⟨0, start, [], rfl, by omega, rfl, hs, by rw [Nat.sub_zero]; exact HN.out, by rw [Nat.sub_zero]; rfl, hbp.out, hap.out, OwnI.nil _ _⟩
  case round =>
    obtain ⟨y, a, l, rfl, hyy, hll, han, hne, hpl, hbl, hh, ho⟩ := hrel
    clear hap hsz hbp
    have HPL := Lib.hid hpl
    have HNE := Lib.hid hne
    have HH := Lib.hid hh
    have HO := Lib.hid ho
    have HBL := Lib.hid hbl
    have HLL := Lib.hid hll
    clear hpl hne hh ho hbl hll
    by_cases hlt : y < years
    · obtain ⟨d, hd⟩ : ∃ d, years - y = d + 1 := ⟨years - y - 1, by omega⟩
      obtain ⟨g1, k1, k2, k3, k4⟩ := HROWS.out (years - y) (by omega)
      obtain ⟨g2, r1, r2, r3, r4⟩ := HROWS.out (years - y - 1) (by omega)
      obtain ⟨hi, hsb, hfirst⟩ := pick_ok HR.out (y := d) han (by rw [← hd]; exact HNE.out)
      have HHB := Lib.hid hsb
      have HEX : Hid (∃ i, i < m ∧ stepB f t V (wrow n m f t V (d + 1)) (wrow n m f t V d) a i = true) := ⟨_, hi, hsb⟩
      have e9 : years - y - 1 = d := by omega
      have PL : Hid (planL n m f t V (d + 1) a = pick m f t V (wrow n m f t V (d + 1)) (wrow n m f t V d) a :: planL n m f t V d (t (pick m f t V (wrow n m f t V (d + 1)) (wrow n m f t V d) a))) := rfl
      have k5 : ∀ i, i < n → P.cell? ⟨g1, i, none⟩ = some (.int .i64 ((wrow n m f t V (d + 1)).getD i 0)) := fun i hi => by rw [← hd]; exact (k3.cell k4 hi).1
      have r5 : ∀ i, i < n → P.cell? ⟨g2, i, none⟩ = some (.int .i64 ((wrow n m f t V d).getD i 0)) := fun i hi => by rw [← e9]; exact (r3.cell r4 hi).1
      have K5 := Lib.hid k5
      have R5 := Lib.hid r5
      clear hsb hfirst k3 k4 r3 r4 k5 r5
      have HBL2 := HBL.out
      have q1 := (HBL2.cell (p := ⟨go, years - y, none⟩) hg2).trans k1
      have q2 := (HBL2.cell (p := ⟨go, years - y - 1, none⟩) hg2).trans r1
      have q3 := Nat.lt_of_lt_of_le hg2 HBL2.size
      have q4 := (HBL2.cell (p := ⟨b8, 1, none⟩) l1).trans d1
      have q5 := Nat.lt_of_lt_of_le l1 HBL2.size
      have q6 := Nat.lt_of_lt_of_le k2 HBL2.size
      have q7 := Nat.lt_of_lt_of_le r2 HBL2.size
      have t1 : ((years : Int) - (y : Int)).toNat = years - y := by omega
      have t2 : ((years : Int) - (y : Int) - 1).toNat = years - y - 1 := by omega
      have u1 : IntKind.i64.wrap ((years : Int) - (y : Int)) = (years : Int) - (y : Int) := IntWalk.i64_in _ ⟨by omega, by omega⟩
      have u2 : IntKind.i64.wrap ((years : Int) - (y : Int) - 1) = (years : Int) - (y : Int) - 1 := IntWalk.i64_in _ ⟨by omega, by omega⟩
      have u3 : (0 : Int) ≤ (years : Int) - (y : Int) := by omega
      have u4 : (years : Int) - (y : Int) < (years + 1 : Nat) := by omega
      have u5 : (0 : Int) ≤ (years : Int) - (y : Int) - 1 := by omega
      have u6 : (years : Int) - (y : Int) - 1 < (years + 1 : Nat) := by omega
      have K2 := Lib.hid k2
      have D1 := Lib.hid d1
      have L1 := Lib.hid l1
      have R2 := Lib.hid r2
      have HD := Lib.hid hd
      have hd1 : d ≤ 100 := by omega
      clear HBL2 k1 r1 hg2 l1 d1 d0 k2 r2 hd e9
      generalize wr = WR at *
      go_wp2_with fail
      go_cut [12, 13] (fun s12 s13 wx => ∃ bw bn : Nat, s12 = .pointer (some ⟨bw, 0, none⟩) ∧ s13 = .pointer (some ⟨bn, 0, none⟩) ∧ wx.cell? ⟨bw, 0, none⟩ = some (.slice (some ⟨g1, 0, none⟩) n n) ∧ wx.cell? ⟨bn, 0, none⟩ = some (.slice (some ⟨g2, 0, none⟩) n n) ∧ Below WR.heap.size WR wx)
      case first =>
        go_region
        all_goals
          go_wp2_with fail
          go_meet
          exact ⟨_, _, rfl, rfl, by simp [go_sem], by simp [go_sem], below_drew (((Below.refl _ _).alloc (Nat.le_refl _) _).alloc (by simp) _)⟩
      case rest =>
        obtain ⟨bw, bn, rfl, rfl, hw0, hn0, hbc⟩ := hcut
        have hsm : ∀ s, s < n → (wrow n m f t V d).getD s 0 = nope ∨ (-1000000 ≤ (wrow n m f t V d).getD s 0 ∧ (wrow n m f t V d).getD s 0 ≤ 1000000) := fun s hs => by
          have h := wrow_small HR.out d (by omega) s hs
          rcases h with h | h
          · exact .inl h
          · exact .inr ⟨by omega, by omega⟩
        have lba := get_lt HH.out
        have PBc : PB wc ba bn bw g2 g1 n a (wrow n m f t V (d + 1)) (wrow n m f t V d) :=
          ⟨(hbc.cell (p := ⟨ba, 0, none⟩) lba).trans (cell_of_heap HH.out 0 _ rfl), hn0, hw0, Nat.lt_of_lt_of_le q7 hbc.size, Nat.lt_of_lt_of_le q6 hbc.size,
            fun i hi => (hbc.cell (p := ⟨g2, i, none⟩) q7).trans ((HBL.out.cell (p := ⟨g2, i, none⟩) R2.out).trans (R5.out i hi)), fun i hi => (hbc.cell (p := ⟨g1, i, none⟩) q6).trans ((HBL.out.cell (p := ⟨g1, i, none⟩) K2.out).trans (K5.out i hi))⟩
        have HPC : Hid (IsChs wc A m (fun i => (f i : Int)) (fun i => (t i : Int)) V) := (HPP.out.later ⟨WR, HBL.out⟩).later ⟨wc, hbc⟩
        have IX := Lib.hid (pindex_any n m cap ba bn bw g2 g1 a A (wrow n m f t V (d + 1)) (wrow n m f t V d) f t V wc HPC.out PBc han HR.out hsm HEX.out)
        have v4 := (hbc.cell (p := ⟨b8, 1, none⟩) q5).trans q4
        have v5 := Nat.lt_of_lt_of_le q5 hbc.size
        have HOC : Hid (OwnI wc (ba + 1) u9 (natZ l)) := HO.out.later ⟨wc, hbc⟩
        have HHC : Hid (wc.heap[ba]? = some (.cells #[.int .i64 (a : Nat)] 3 (0, 0))) := (hbc.block _ lba).trans HH.out
        have HBC : Hid (Below P.heap.size P wc) := below_more HBL.out hbc
        have hti := HR.out.t _ hi
        clear PBc hsm q1 q2 q3 q4 q5 q6 q7 hw0 hn0 hbc HEX u1 u2 u3 u4 u5 u6 t1 t2 HH HO HBL
        generalize pick m f t V (wrow n m f t V (d + 1)) (wrow n m f t V d) a = i at *
        go_wp2_with (first
          | (go_at_call 56; refine Calls.mono (Gives.calls IX.out) ?_; rintro e w1 ⟨rfl, z1, rfl⟩)
          | (at_builtin; refine wpList_append_own_at _ rfl _ _ 30 rfl (ba + 1) 3 i0 (.int .i64 0) 1 8 Try.underlying30 hi0 hz0 hz1 hz2 rfl (by decide) _ _ _ rfl ((own_row (HOC.out.later z1) (natZ_length l)).alloc _) ⟨_, 0, none⟩ 1 1 [.int .i64 (i : Nat)] rfl rfl lit_news one_int ?g1 ?g2 ?g3 ?_))
        case g1 => have := HLL.out; unfold maxLen; omega
        case g2 => have := HLL.out; omega
        case g3 => have := get_lt HHC.out; have := z1.size; simp only [World.size_alloc]; omega
        intro v6 w6 hown2 hgrow _ hat
        have hb6 : Below P.heap.size P w6 := below_own (w1 := z1.val.alloc (.cells #[.int .i64 (i : Nat)] 3)) (below_alloc (below_later HBC.out)) ((own_row (HOC.out.later z1) (natZ_length l)).alloc _) (by omega) hgrow
        have lbc := get_lt HHC.out
        have hh6 : w6.heap[ba]? = some (.cells #[.int .i64 (a : Nat)] 3 (0, 0)) := by
          rw [hgrow.block ba (by have := z1.size; simp only [World.size_alloc]; omega) fun e => by
            have := (own_lt (own_row (HOC.out.later z1) (natZ_length l)) ba e.symm).1
            omega]
          exact (Below.heap_alloc _ _ _ (by have := z1.size; omega)).trans ((z1.ok.block _ lbc).trans HHC.out)
        have ho6 : OwnI w6 (ba + 1) v6 (natZ (l ++ [i])) := by
          unfold OwnI
          rw [natZ_length, List.length_append, cellsI_nat]
          exact hown2
        have HO6 := Lib.hid ho6
        have HH6 := Lib.hid hh6
        have HB6 := Lib.hid hb6
        obtain ⟨bb, oo, hA, p⟩ := (show IsChs w6 A m (fun i => (f i : Int)) (fun i => (t i : Int)) V from HPP.out.later ⟨w6, hb6⟩).at_ (by omega)
        have x1 := (hb6.cell (p := ⟨b8, 1, none⟩) L1.out).trans D1.out
        have x2 := Nat.lt_of_lt_of_le L1.out hb6.size
        have x3 := p.t i hi
        have x4 := p.lt
        have x5 : w6.frozen? ⟨ba, 0, none⟩ = false := by simp [World.frozen?, hh6]
        have x6 := cell_of_heap hh6 0 _ rfl
        have x7 := get_lt hh6
        have HA := Lib.hid hA
        rw [hA] at x1 ⊢
        clear hown2 hgrow hat ho6 hh6 hb6 hA p v4 v5 lbc
        go_wp2_with fail
        rw [← HA.out]
        go_roundw
        case rel =>
          refine ⟨y + 1, t i, l ++ [i], by go_num, by omega, ?_, hti, ?_, ?_, HB6.out.setCell (by simp; omega) _, one_set HH6.out, HO6.out.far fun g hg => ?_⟩
          · have := HLL.out; simp; omega
          · have e : years - (y + 1) = d := by have := HD.out; omega
            rw [e]
            exact (stepB_iff.1 HHB.out).2.1
          · have e : years - (y + 1) = d := by have := HD.out; omega
            have h := HPL.out
            rw [HD.out, PL.out] at h
            rw [e, List.append_assoc]
            exact h
          · have := (own_lt HO6.out g hg).1
            show ba ≠ g
            omega
        case measure => simp [intOf]; omega
    · obtain rfl : y = years := by omega
      have HF : Hid (l = planL n m f t V y start) := by
        show _ = _
        have := HPL.out
        rw [Nat.sub_self] at this
        simpa [planL] using this
      go_wp2
      go_ret2
      have h := HO.out.mono (base' := b8) (by omega)
      rw [HF.out, ← HB8.out] at h
      exact ⟨_, rfl, ⟨_, below_more HBZ.out HBL.out⟩, rfl, h⟩
end Go.Proofs.Ytnjloomhhgilcaa
