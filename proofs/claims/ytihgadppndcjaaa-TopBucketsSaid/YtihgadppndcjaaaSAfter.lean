/- sluice.After and the law's own: walked. -/
import Derived.Test.YtihgadppndcjaaaSRef
import Derived.Test.YtihgadppndcjaaaSOver
namespace Go.Proofs.Ytihgadppndcjaaa
open Go.RowKit

/-- Is it a square's number? -/
def inB (n : Nat) (x : Int) : Bool := decide (0 ≤ x ∧ x < n)
theorem cell_two (w : World) (o : Obj) (v : Value) (t : TypeId) : ((w.alloc o).alloc (.cells #[v] t)).cell? ⟨w.heap.size + 1, 0, none⟩ = some v :=
  cell_of_heap (by have := World.alloc_heap_new (w.alloc o) (.cells #[v] t); rwa [World.size_alloc] at this) 0 _ rfl
theorem after1_any (x : Int) (A : Option Addr) (n cap bk : Nat) (w : World) (h : w.cell? ⟨bk, 0, none⟩ = some (.slice A n cap)) : Gives Try.prog 74 #[.int .i64 x, .pointer (some ⟨bk, 0, none⟩)] w (.bool (!inB n x)) := by
  have lk := World.block_lt_of_cell? _ _ h
  have HR : Hid ((!inB n x) = (decide (x < 0) || decide ((n : Int) ≤ x))) := by
    show (!inB n x) = _
    unfold inB
    rw [Bool.eq_iff_iff]
    simp only [Bool.not_eq_true', decide_eq_false_iff_not, Bool.or_eq_true, decide_eq_true_eq]
    omega
  generalize (!inB n x) = r at *
  by_cases h1 : x < 0
  · go_enter Try.func74, Try.ntmps74
    go_wp2
    go_ret
    exact ⟨ret_bool (by rw [HR.out]; simp [h1]), later_of (by repeat (first | exact Below.refl _ _ | (with_reducible assumption) | apply below_later | apply below_alloc | apply below_drew | apply below_drewN))⟩
  · by_cases h2 : (n : Int) ≤ x
    all_goals
      go_enter Try.func74, Try.ntmps74
      go_wp2
      go_ret
      exact ⟨ret_bool (by rw [HR.out]; simp [h1, h2]), later_of (by repeat (first | exact Below.refl _ _ | (with_reducible assumption) | apply below_later | apply below_alloc | apply below_drew | apply below_drewN))⟩
set_option maxRecDepth 100000 in
set_option maxHeartbeats 1600000 in
theorem index_any (A B : Option Addr) (n cap bk m capB : Nat) (g : Nat → Int) (w : World) (hm : m ≤ 1000) (hp : IsInts w B m g) (h : w.cell? ⟨bk, 0, none⟩ = some (.slice A n cap)) :
    Calls Try.prog 82 #[.slice B m capB, .func (.func 74) #[] #[.pointer (some ⟨bk, 0, none⟩)]] w fun e w' => ∃ r : Int, e = .returned (.int .i64 r) ∧ (∃ x : Later w, w' = x.val) ∧ -1 ≤ r ∧ r ≤ m ∧ (0 ≤ r ↔ allB m (fun i => inB n (g i)) = false) := by
  have lk := World.block_lt_of_cell? _ _ h
  have HC := Lib.hid h
  have HP := Lib.hid hp
  clear h hp
  go_enter Try.func82, Try.ntmps82
  go_wp2
  go_loopw [8] (fun u wr => ∃ k : Nat, k ≤ m ∧ u = .int .i64 k ∧ (∀ j, j < k → inB n (g j) = true) ∧ ∃ x : Later w, wr = x.val) (fun u _ => m - (intOf u).toNat)
  case atStart => exact ⟨0, by omega, rfl, by omega, later_of (by repeat (first | exact Below.refl _ _ | (with_reducible assumption) | apply below_later | apply below_alloc | apply below_drew | apply below_drewN))⟩
  case round =>
    obtain ⟨k, hk, rfl, hall, x, rfl⟩ := hrel
    have HALL := Lib.hid hall
    clear hall
    by_cases hlt : k < m
    · obtain ⟨b, off, hB, p⟩ := (HP.out.later x).at_ (by omega)
      subst hB
      have ck := p.at_ k hlt
      have lb := p.lt
      clear p
      have A1 : Hid (Gives Try.prog 74 #[.int .i64 (g k), .pointer (some ⟨bk, 0, none⟩)] x.val (.bool (!inB n (g k)))) := after1_any (g k) A n cap bk x.val ((x.cell bk 0 lk).trans HC.out)
      cases hF : inB n (g k)
      · have F := Lib.hid hF
        rw [hF] at A1
        clear hF
        go_wp2_with (go_at_call 74; (first | (with_reducible show Calls _ _ _ (Later.val _) _; with_reducible refine Calls.mono (Later.call _ (A1.out)) ?_) | (with_reducible refine Calls.mono (Gives.calls (A1.out)) ?_)); rintro e w1 ⟨rfl, z, rfl⟩)
        go_ret
        exact ⟨(k : Int), rfl, later_of (by repeat (first | exact Below.refl _ _ | (with_reducible assumption) | apply below_later | apply below_alloc | apply below_drew | apply below_drewN)), by omega, by omega, fun _ => allB_false hlt F.out, fun _ => by omega⟩
      · have F := Lib.hid hF
        rw [hF] at A1
        clear hF
        go_wp2_with (go_at_call 74; (first | (with_reducible show Calls _ _ _ (Later.val _) _; with_reducible refine Calls.mono (Later.call _ (A1.out)) ?_) | (with_reducible refine Calls.mono (Gives.calls (A1.out)) ?_)); rintro e w1 ⟨rfl, z, rfl⟩)
        go_roundw
        case rel => exact ⟨k + 1, by omega, by go_num, all_step HALL.out F.out, later_of (by repeat (first | exact Below.refl _ _ | (with_reducible assumption) | apply below_later | apply below_alloc | apply below_drew | apply below_drewN))⟩
        case measure => simp [intOf]; omega
    · obtain rfl : k = m := by omega
      go_wp2
      go_ret
      exact ⟨-1, rfl, later_of (by repeat (first | exact Below.refl _ _ | (with_reducible assumption) | apply below_later | apply below_alloc | apply below_drew | apply below_drewN)), by omega, by omega, fun h => absurd h (by decide), fun h => by rw [allB_true HALL.out] at h; cases h⟩
set_option maxRecDepth 100000 in
set_option maxHeartbeats 1600000 in
theorem contains_any (A B : Option Addr) (n cap bk m capB : Nat) (g : Nat → Int) (w : World) (hm : m ≤ 1000) (hp : IsInts w B m g) (h : w.cell? ⟨bk, 0, none⟩ = some (.slice A n cap)) :
    Gives Try.prog 73 #[.slice B m capB, .func (.func 74) #[] #[.pointer (some ⟨bk, 0, none⟩)]] w (.bool (!allB m fun i => inB n (g i))) := by
  have IX := Lib.hid (index_any A B n cap bk m capB g w hm hp h)
  clear hp h
  generalize allB m (fun i => inB n (g i)) = q at *
  go_enter Try.func73, Try.ntmps73
  go_wp2_with (go_at_call 82; refine Calls.mono IX.out ?_; rintro e w1 ⟨r, rfl, ⟨x, rfl⟩, r1, r2, r3⟩; have R3 := Lib.hid r3; clear r3)
  go_ret
  exact ⟨ret_bool (by
    have := R3.out
    cases q
    · have : 0 ≤ r := this.2 rfl
      simp; omega
    · have : ¬ 0 ≤ r := fun h => by cases this.1 h
      simp; omega), later_of (by repeat (first | exact Below.refl _ _ | (with_reducible assumption) | apply below_later | apply below_alloc | apply below_drew | apply below_drewN))⟩
/-- What stands there when the first k squares of a list have run over; none: one could not. -/
def aft (W H : Nat) (b : List Int) (a : Nat → Nat) : Nat → Option (List Int)
  | 0 => some b
  | k + 1 => (aft W H b a k).bind fun c => if c.getD (a k) 0 < 4 then none else some (runL W H c (a k) 1)
theorem aft_none {W H : Nat} {b : List Int} {a : Nat → Nat} {k : Nat} (h : aft W H b a k = none) : ∀ m, k ≤ m → aft W H b a m = none
  | 0, hm => by obtain rfl : k = 0 := by omega
                exact h
  | m + 1, hm => by
    rcases Nat.lt_or_ge m k with h1 | h1
    · obtain rfl : k = m + 1 := by omega
      exact h
    · show (aft W H b a m).bind _ = none
      rw [aft_none h m h1]; rfl
theorem aft_step {W H : Nat} {b c : List Int} {a : Nat → Nat} {k : Nat} (h : aft W H b a k = some c) : aft W H b a (k + 1) = if c.getD (a k) 0 < 4 then none else some (runL W H c (a k) 1) := by
  show (aft W H b a k).bind _ = _
  rw [h]; rfl
/-- Right buckets, as a list. -/
structure BV (n : Nat) (b : List Int) : Prop where
  lb : b.length = n
  nb : NonN b
  few : wsum (fun _ => 1) 0 b ≤ 25600
theorem BV.step {W H n : Nat} {b : List Int} (h : BV n b) (hn : n = W * H) {at_ : Nat} (ha : at_ < n) (ht : 4 ≤ b.getD at_ 0) : BV n (runL W H b at_ 1) := by
  obtain ⟨r1, r2, r3⟩ := run_facts (t := 1) hn h.lb h.nb ha (by omega) (by omega)
  have := h.few
  exact ⟨by rw [runL_length]; exact h.lb, r1, by omega⟩
theorem bv_start {W H n : Nat} {f : Nat → Int} (hW : 1 ≤ W) (hW2 : W ≤ 16) (hn9 : n ≤ 256) (hf : ∀ i, i < n → 0 ≤ f i ∧ f i ≤ 100) : BV n ((List.range n).map f) :=
  let s := sv_start (H := H) hW hW2 hn9 hf
  ⟨s.lb, s.nb, s.few⟩
/-- What a call that gives a list, and a number, answers. -/
def PostLE (w : World) (c : List Int) (x : Value) (e : Ending) (w' : World) : Prop := ∃ v, e = .returned (.tuple #[v, x]) ∧ ∃ x : Later w, w' = x.val ∧ OwnI w' w.heap.size v c
set_option maxRecDepth 100000 in
set_option maxHeartbeats 3200000 in
theorem rafter_bv (W H n cap b off m capB : Nat) (B : Option Addr) (f : Nat → Int) (a : Nat → Nat) (w : World) (hW : 1 ≤ W) (hW2 : W ≤ 16) (hH1 : 1 ≤ H) (hH : H ≤ 16) (hn : n = W * H) (hm : m ≤ 1000) (p : Ints w b off n f) (bv : BV n ((List.range n).map f)) (hp : IsInts w B m fun i => (a i : Int)) (ha : ∀ i, i < m → a i < n) :
    Calls Try.prog 48 #[.int .i64 W, .int .i64 H, .slice (some ⟨b, off, none⟩) n cap, .slice B m capB] w fun e w' =>
      (aft W H ((List.range n).map f) a m = none → e = .returned (.tuple #[.slice none 0 0, .bool false]) ∧ ∃ x : Later w, w' = x.val) ∧ ∀ c, aft W H ((List.range n).map f) a m = some c → PostLE w c (.bool true) e w' := by
  have hn9 : n ≤ 256 := by rw [hn]; exact Nat.mul_le_mul hW2 hH
  have hn1 : 1 ≤ n := by rw [hn]; exact Nat.mul_le_mul hW hH1
  have BV0 := Lib.hid bv
  have HP := Lib.hid hp
  have HA := Lib.hid ha
  have HN := Lib.hid hn
  have hl := p.lt
  have Hp := Lib.hid p
  obtain ⟨b0, hb0⟩ : ∃ b0, (List.range n).map f = b0 := ⟨_, rfl⟩
  have hlb : b0.length = n := by rw [← hb0, List.length_map, List.length_range]
  have HB0 := Lib.hid hb0
  rw [hb0] at BV0 ⊢
  have RUN : Hid (∀ (g c1 : Nat) (V : World) (q : List Int) (k : Nat), k < m → BV n q → 4 ≤ q.getD (a k) 0 → OwnI V w.heap.size (.slice (some ⟨g, 0, none⟩) n c1) q → Calls Try.prog 72 #[.int .i64 W, .int .i64 H, .slice (some ⟨g, 0, none⟩) n c1, .int .i64 (a k : Nat), .int .i64 1] V fun e w' => e = .returned (.tuple #[]) ∧ Only (fun k => k = g) V w' ∧ OwnI w' w.heap.size (.slice (some ⟨g, 0, none⟩) n c1) (runL W H q (a k) 1)) := fun g c1 V q k hk bv h4 ho => rover_any W H n g c1 w.heap.size (a k) 1 q q V hW hW2 hH hn (ha k hk) bv.lb bv.nb bv.few (by omega) (by omega) ho
  clear p bv hp ha hn
  go_enter Try.func48, Try.ntmps48
  obtain ⟨i0, hi, hz0, hz1, hz2⟩ := info_int
  have hown : OwnI (w.alloc (.cells #[] 3)) w.heap.size (.slice (some ⟨w.heap.size, 0, none⟩) 0 0) [] := World.ownsRow_made w #[] 0 (Nat.le_refl _) (by unfold maxLen; omega) rfl
  have hnews := ints_news (Hp.out.later ⟨w.alloc (.cells #[] 3), by repeat (first | exact Below.refl _ _ | (with_reducible assumption) | apply below_later | apply below_alloc | apply below_drew | apply below_drewN)⟩)
  have HNW := Lib.hid hnews
  clear hnews Hp
  go_wp2_with (at_builtin; refine wpList_append_own _ rfl _ _ 22 rfl w.heap.size 3 i0 (.int .i64 0) 1 8 Try.underlying22 hi hz0 hz1 hz2 rfl (by decide) _ _ _ rfl hown ⟨b, off, none⟩ n cap (cellsI ((List.range n).map f)) rfl ?c1 HNW.out (cellsI_one _) ?c3 ?c4 ?c5 ?_)
  case c1 => rw [cellsI_length]; try simp
             try omega
  case c3 => simp only [maxLen]; omega
  case c4 => omega
  intro v' w1 hown2 hg1 _
  have HOW : OwnI w1 w.heap.size v' b0 := by
    unfold OwnI
    rw [hlb]
    first | exact hown2 | (rw [HB0.out] at hown2; exact hown2)
  have hbel : Below w.heap.size w w1 := below_own (by repeat (first | exact Below.refl _ _ | (with_reducible assumption) | apply below_later | apply below_alloc | apply below_drew | apply below_drewN)) hown (Nat.le_refl _) hg1
  obtain ⟨g1, c1, hv, q1, q2, _⟩ := HOW.form (n := n) hlb (by omega)
  subst hv
  have HO := Lib.hid HOW
  have HBL := Lib.hid hbel
  clear HOW hown hown2 hg1 HNW hbel hb0 hi hz0 hz1 hz2 HB0 hlb
  go_wp2_with fail
  go_loopw [11] (fun u wr => ∃ (k : Nat) (q : List Int), u = .int .i64 k ∧ k ≤ m ∧ Below w.heap.size w wr ∧ OwnI wr w.heap.size (.slice (some ⟨g1, 0, none⟩) n c1) q ∧ BV n q ∧ aft W H b0 a k = some q) (fun u _ => m - (intOf u).toNat)
  case atStart => exact ⟨0, b0, rfl, by omega, HBL.out, HO.out, BV0.out, rfl⟩
  case round =>
    obtain ⟨k, q, rfl, hk, hbl, ho, bv, haf⟩ := hrel
    have BL1 := Lib.hid hbl
    have HO1 := Lib.hid ho
    have BV1 := Lib.hid bv
    have AF := Lib.hid haf
    clear hbl ho bv haf HO BV0 HBL
    by_cases hlt : k < m
    · obtain ⟨gb, gf, hB, pB⟩ := (HP.out.later ⟨_, BL1.out⟩).at_ (by omega)
      subst hB
      have ck := pB.at_ k hlt
      have lB := pB.lt
      have hak := HA.out k hlt
      obtain ⟨cq, fq⟩ := HO1.out.cell BV1.out.lb hak
      have fq0 := fq (a k)
      have STEP := Lib.hid (aft_step AF.out)
      clear pB fq
      by_cases h4 : q.getD (a k) 0 < 4
      · rw [if_pos h4] at STEP
        generalize q.getD (a k) 0 = x at *
        go_wp2_with fail
        go_ret2
        exact ⟨fun _ => ⟨rfl, ⟨_, BL1.out⟩, rfl⟩, fun c hc => by rw [aft_none STEP.out m (by omega)] at hc; cases hc⟩
      · rw [if_neg h4] at STEP
        have R1 := Lib.hid (RUN.out g1 c1 _ q k hlt BV1.out (by omega) HO1.out)
        have BV2 := Lib.hid (BV1.out.step HN.out hak (by omega))
        have lg := own_lt HO1.out g1 rfl
        generalize hx : q.getD (a k) 0 = x at *
        clear hx
        go_wp2_with (go_at_call 72; refine Calls.mono R1.out ?_; rintro e w5 ⟨rfl, hO, ho2⟩; have HON := Lib.hid hO; have HO2 := Lib.hid ho2; clear hO ho2)
        go_roundw
        case rel => exact ⟨k + 1, _, by go_num, by omega, HON.out.below BL1.out (fun k hk => by subst hk; exact lg.1) BL1.out.size, HO2.out, BV2.out, STEP.out⟩
        case measure => simp [intOf]; omega
    · obtain rfl : k = m := by omega
      go_wp2
      go_ret2
      refine ⟨fun h => ?_, fun c hc => ?_⟩
      · rw [AF.out] at h; cases h
      · rw [AF.out] at hc
        obtain rfl := Option.some.inj hc
        exact ⟨_, rfl, ⟨_, BL1.out⟩, rfl, HO1.out⟩
theorem rafter_any (W H n cap b off m capB : Nat) (B : Option Addr) (f : Nat → Int) (a : Nat → Nat) (w : World) (hW : 1 ≤ W) (hW2 : W ≤ 16) (hH1 : 1 ≤ H) (hH : H ≤ 16) (hn : n = W * H) (hm : m ≤ 1000) (p : Ints w b off n f) (hf : ∀ i, i < n → 0 ≤ f i ∧ f i ≤ 100) (hp : IsInts w B m fun i => (a i : Int)) (ha : ∀ i, i < m → a i < n) :
    Calls Try.prog 48 #[.int .i64 W, .int .i64 H, .slice (some ⟨b, off, none⟩) n cap, .slice B m capB] w fun e w' =>
      (aft W H ((List.range n).map f) a m = none → e = .returned (.tuple #[.slice none 0 0, .bool false]) ∧ ∃ x : Later w, w' = x.val) ∧ ∀ c, aft W H ((List.range n).map f) a m = some c → PostLE w c (.bool true) e w' :=
  rafter_bv W H n cap b off m capB B f a w hW hW2 hH1 hH hn hm p (bv_start (H := H) hW hW2 (by rw [hn]; exact Nat.mul_le_mul hW2 hH) hf) hp ha
set_option maxRecDepth 100000 in
set_option maxHeartbeats 1600000 in
theorem after_bad (W H : Int) (n cap m capB : Nat) (A B : Option Addr) (f : Nat → Int) (w : World) (hp : IsInts w A n f) (hv : bucketsB W H n f = false) :
    Gives Try.prog 47 #[.int .i64 W, .int .i64 H, .slice A n cap, .slice B m capB] w (.tuple #[.slice none 0 0, .int .i64 31]) := by
  have V : Hid (∀ w', IsInts w' A n f → Gives Try.prog 70 #[.int .i64 W, .int .i64 H, .slice A n cap] w' (.bool false)) := fun w' h => hv ▸ areBuckets_any W H A n cap f w' h
  have HP := Lib.hid hp
  clear hp hv
  go_enter Try.func47, Try.ntmps47
  go_wp2_with (go_at_call 70; (first | (with_reducible show Calls _ _ _ (Later.val _) _; with_reducible refine Calls.mono (Later.call _ (V.out _ (HP.out.later ⟨_, by repeat (first | exact Below.refl _ _ | (with_reducible assumption) | apply below_later | apply below_alloc | apply below_drew | apply below_drewN)⟩))) ?_) | (with_reducible refine Calls.mono (Gives.calls (V.out _ (HP.out.later ⟨_, by repeat (first | exact Below.refl _ _ | (with_reducible assumption) | apply below_later | apply below_alloc | apply below_drew | apply below_drewN)⟩))) ?_)); rintro e w1 ⟨rfl, z, rfl⟩)
  go_ret2
  exact ⟨rfl, later_of (by repeat (first | exact Below.refl _ _ | (with_reducible assumption) | apply below_later | apply below_alloc | apply below_drew | apply below_drewN))⟩
set_option maxRecDepth 100000 in
set_option maxHeartbeats 1600000 in
theorem after_arg (W H : Int) (n cap m capB : Nat) (A B : Option Addr) (f g : Nat → Int) (w : World) (hm : m ≤ 1000) (hp : IsInts w A n f) (hq : IsInts w B m g) (hv : bucketsB W H n f = true) (hg : allB m (fun i => inB n (g i)) = false) :
    Gives Try.prog 47 #[.int .i64 W, .int .i64 H, .slice A n cap, .slice B m capB] w (.tuple #[.slice none 0 0, .int .i64 2]) := by
  have V : Hid (∀ w', IsInts w' A n f → Gives Try.prog 70 #[.int .i64 W, .int .i64 H, .slice A n cap] w' (.bool true)) := fun w' h => hv ▸ areBuckets_any W H A n cap f w' h
  have C : Hid (∀ w' bk, IsInts w' B m g → w'.cell? ⟨bk, 0, none⟩ = some (.slice A n cap) → Gives Try.prog 73 #[.slice B m capB, .func (.func 74) #[] #[.pointer (some ⟨bk, 0, none⟩)]] w' (.bool true)) := fun w' bk h1 h2 => by
    have h := contains_any A B n cap bk m capB g w' hm h1 h2
    rwa [hg] at h
  have HP := Lib.hid hp
  have HQ := Lib.hid hq
  have M0 : Hid ((w.alloc (.cells #[.slice A n cap] 22)).cell? ⟨w.heap.size, 0, none⟩ = some (.slice A n cap)) := cell_of_heap (World.alloc_heap_new _ _) 0 _ rfl
  clear hp hq hv hg
  go_enter Try.func47, Try.ntmps47
  go_wp2_with (first
    | (go_at_call 70; (first | (with_reducible show Calls _ _ _ (Later.val _) _; with_reducible refine Calls.mono (Later.call _ (V.out _ (HP.out.later ⟨_, by repeat (first | exact Below.refl _ _ | (with_reducible assumption) | apply below_later | apply below_alloc | apply below_drew | apply below_drewN)⟩))) ?_) | (with_reducible refine Calls.mono (Gives.calls (V.out _ (HP.out.later ⟨_, by repeat (first | exact Below.refl _ _ | (with_reducible assumption) | apply below_later | apply below_alloc | apply below_drew | apply below_drewN)⟩))) ?_)); rintro e w1 ⟨rfl, z, rfl⟩)
    | (go_at_call 73; (first | (with_reducible show Calls _ _ _ (Later.val _) _; with_reducible refine Calls.mono (Later.call _ (C.out _ _ (HQ.out.later ⟨_, by repeat (first | exact Below.refl _ _ | (with_reducible assumption) | apply below_later | apply below_alloc | apply below_drew | apply below_drewN)⟩) (by rw [Later.cell _ _ _ (by simp)]; exact M0.out))) ?_) | (with_reducible refine Calls.mono (Gives.calls (C.out _ _ (HQ.out.later ⟨_, by repeat (first | exact Below.refl _ _ | (with_reducible assumption) | apply below_later | apply below_alloc | apply below_drew | apply below_drewN)⟩) (by rw [Later.cell _ _ _ (by simp)]; exact M0.out))) ?_)); rintro e w1 ⟨rfl, z2, rfl⟩))
  go_ret2
  exact ⟨rfl, later_of (by repeat (first | exact Below.refl _ _ | (with_reducible assumption) | apply below_later | apply below_alloc | apply below_drew | apply below_drewN))⟩
set_option maxRecDepth 100000 in
set_option maxHeartbeats 3200000 in
theorem after_any (W H n cap b off m capB : Nat) (B : Option Addr) (f : Nat → Int) (a : Nat → Nat) (w : World) (hm : m ≤ 1000) (p : Ints w b off n f) (hv : bucketsB W H n f = true) (hp : IsInts w B m fun i => (a i : Int)) (ha : ∀ i, i < m → a i < n) :
    Calls Try.prog 47 #[.int .i64 W, .int .i64 H, .slice (some ⟨b, off, none⟩) n cap, .slice B m capB] w fun e w' =>
      (aft W H ((List.range n).map f) a m = none → e = .returned (.tuple #[.slice none 0 0, .int .i64 5]) ∧ ∃ x : Later w, w' = x.val) ∧ ∀ c, aft W H ((List.range n).map f) a m = some c → PostLE w c (.int .i64 0) e w' := by
  obtain ⟨⟨⟨a1, a2⟩, a3, a4⟩, a5, hf⟩ := buckets_facts hv
  have hn : n = W * H := by rw [← Int.natCast_mul] at a5; omega
  have hn9 : n ≤ 256 := by rw [hn]; exact Nat.mul_le_mul (show W ≤ 16 by omega) (show H ≤ 16 by omega)
  have hn1 : 1 ≤ n := by rw [hn]; exact Nat.mul_le_mul (show 1 ≤ W by omega) (show 1 ≤ H by omega)
  have hnn := p.lt
  have hpn : IsInts w (some ⟨b, off, none⟩) n f := ⟨by omega, fun _ => ⟨b, off, rfl, p⟩⟩
  have V : Hid (∀ w', IsInts w' (some ⟨b, off, none⟩) n f → Gives Try.prog 70 #[.int .i64 W, .int .i64 H, .slice (some ⟨b, off, none⟩) n cap] w' (.bool true)) := fun w' h => hv ▸ areBuckets_any W H _ n cap f w' h
  have hg : allB m (fun i => inB n (a i)) = true := allB_true fun i hi => decide_eq_true ⟨by omega, by have := ha i hi; omega⟩
  have C : Hid (∀ w' bk, IsInts w' B m (fun i => (a i : Int)) → w'.cell? ⟨bk, 0, none⟩ = some (.slice (some ⟨b, off, none⟩) n cap) → Gives Try.prog 73 #[.slice B m capB, .func (.func 74) #[] #[.pointer (some ⟨bk, 0, none⟩)]] w' (.bool false)) := fun w' bk h1 h2 => by
    have h := contains_any (some ⟨b, off, none⟩) B n cap bk m capB _ w' hm h1 h2
    rwa [hg] at h
  have BV0 := Lib.hid (bv_start (H := H) (show 1 ≤ W by omega) (show W ≤ 16 by omega) hn9 hf)
  have M0 : Hid ((w.alloc (.cells #[.slice (some ⟨b, off, none⟩) n cap] 22)).cell? ⟨w.heap.size, 0, none⟩ = some (.slice (some ⟨b, off, none⟩) n cap)) := cell_of_heap (World.alloc_heap_new _ _) 0 _ rfl
  have CL : Hid (∀ w', Below w.heap.size w w' → GivesI 68 #[.slice (some ⟨b, off, none⟩) n cap] w' ((List.range n).map f)) := fun w' h => clone_ints b off n cap f w' hn1 (by omega) (p.later ⟨w', h⟩)
  have HPN := Lib.hid hpn
  have HP := Lib.hid hp
  have HA := Lib.hid ha
  have HN := Lib.hid hn
  obtain ⟨b0, hb0⟩ : ∃ b0, (List.range n).map f = b0 := ⟨_, rfl⟩
  have hlb : Hid (b0.length = n) := by show _ = _; rw [← hb0, List.length_map, List.length_range]
  rw [hb0] at BV0 CL ⊢
  have RUN : Hid (∀ (g c1 base : Nat) (V : World) (q : List Int) (k : Nat), k < m → BV n q → 4 ≤ q.getD (a k) 0 → OwnI V base (.slice (some ⟨g, 0, none⟩) n c1) q → Calls Try.prog 75 #[.int .i64 W, .int .i64 H, .slice (some ⟨g, 0, none⟩) n c1, .int .i64 (a k : Nat), .int .i64 1] V fun e w' => e = .returned (.tuple #[]) ∧ Only (fun k => k = g) V w' ∧ OwnI w' base (.slice (some ⟨g, 0, none⟩) n c1) (runL W H q (a k) 1)) := fun g c1 base V q k hk bv h4 ho => run_any W H n g c1 base (a k) 1 q q V (by omega) (by omega) (by omega) hn (ha k hk) bv.lb bv.nb bv.few (by omega) (by omega) ho
  clear p hf hp ha hn hb0 hg hpn hv a5
  go_enter Try.func47, Try.ntmps47
  go_wp2_with (first
    | (go_at_call 70; (first | (with_reducible show Calls _ _ _ (Later.val _) _; with_reducible refine Calls.mono (Later.call _ (V.out _ (HPN.out.later ⟨_, by repeat (first | exact Below.refl _ _ | (with_reducible assumption) | apply below_later | apply below_alloc | apply below_drew | apply below_drewN)⟩))) ?_) | (with_reducible refine Calls.mono (Gives.calls (V.out _ (HPN.out.later ⟨_, by repeat (first | exact Below.refl _ _ | (with_reducible assumption) | apply below_later | apply below_alloc | apply below_drew | apply below_drewN)⟩))) ?_)); rintro e w1 ⟨rfl, z, rfl⟩)
    | (go_at_call 73; (first | (with_reducible show Calls _ _ _ (Later.val _) _; with_reducible refine Calls.mono (Later.call _ (C.out _ _ (HP.out.later ⟨_, by repeat (first | exact Below.refl _ _ | (with_reducible assumption) | apply below_later | apply below_alloc | apply below_drew | apply below_drewN)⟩) (by rw [Later.cell _ _ _ (by simp)]; exact M0.out))) ?_) | (with_reducible refine Calls.mono (Gives.calls (C.out _ _ (HP.out.later ⟨_, by repeat (first | exact Below.refl _ _ | (with_reducible assumption) | apply below_later | apply below_alloc | apply below_drew | apply below_drewN)⟩) (by rw [Later.cell _ _ _ (by simp)]; exact M0.out))) ?_)); rintro e w1 ⟨rfl, z2, rfl⟩)
    | (go_at_call 68; refine Calls.mono (GivesI.calls (CL.out _ (by repeat (first | exact Below.refl _ _ | (with_reducible assumption) | apply below_later | apply below_alloc | apply below_drew | apply below_drewN)))) ?_; rintro e w1 ⟨v, rfl, y, rfl, ho⟩; obtain ⟨g1, c1, hv, q1, q2, _⟩ := ho.form (n := n) hlb.out (by omega); subst hv; have HO := Lib.hid ho; clear ho))
  have HBL : Hid (Below w.heap.size w y.val) := by show Below _ _ _; repeat (first | exact Below.refl _ _ | (with_reducible assumption) | apply below_later | apply below_alloc | apply below_drew | apply below_drewN)
  have HOB : Hid (OwnI y.val w.heap.size (.slice (some ⟨g1, 0, none⟩) n c1) b0) := HO.out.mono (by have := z2.size; have := z.size; simp at *; omega)
  clear HO q2 q1
  generalize y.val = Y at *
  go_loopw [30] (fun u wr => ∃ (k : Nat) (q : List Int), u = .int .i64 k ∧ k ≤ m ∧ Below w.heap.size w wr ∧ OwnI wr w.heap.size (.slice (some ⟨g1, 0, none⟩) n c1) q ∧ BV n q ∧ aft W H b0 a k = some q) (fun u _ => m - (intOf u).toNat)
  case atStart => exact ⟨0, b0, rfl, by omega, HBL.out, HOB.out, BV0.out, rfl⟩
  case round =>
    obtain ⟨k, q, rfl, hk, hbl, ho, bv, haf⟩ := hrel
    have BL1 := Lib.hid hbl
    have HO1 := Lib.hid ho
    have BV1 := Lib.hid bv
    have AF := Lib.hid haf
    clear hbl ho bv haf HOB BV0 HBL
    by_cases hlt : k < m
    · obtain ⟨gb, gf, hB, pB⟩ := (HP.out.later ⟨_, BL1.out⟩).at_ (by omega)
      subst hB
      have ck := pB.at_ k hlt
      have lB := pB.lt
      have hak := HA.out k hlt
      obtain ⟨cq, fq⟩ := HO1.out.cell BV1.out.lb hak
      have fq0 := fq (a k)
      have STEP := Lib.hid (aft_step AF.out)
      clear pB fq
      by_cases h4 : q.getD (a k) 0 < 4
      · rw [if_pos h4] at STEP
        generalize q.getD (a k) 0 = x at *
        go_wp2_with fail
        go_ret2
        exact ⟨fun _ => ⟨rfl, ⟨_, BL1.out⟩, rfl⟩, fun c hc => by rw [aft_none STEP.out m (by omega)] at hc; cases hc⟩
      · rw [if_neg h4] at STEP
        have R1 := Lib.hid (RUN.out g1 c1 _ _ q k hlt BV1.out (by omega) HO1.out)
        have BV2 := Lib.hid (BV1.out.step HN.out hak (by omega))
        have lg := own_lt HO1.out g1 rfl
        generalize hx : q.getD (a k) 0 = x at *
        clear hx
        go_wp2_with (go_at_call 75; refine Calls.mono R1.out ?_; rintro e w5 ⟨rfl, hO, ho2⟩; have HON := Lib.hid hO; have HO2 := Lib.hid ho2; clear hO ho2)
        go_roundw
        case rel => exact ⟨k + 1, _, by go_num, by omega, HON.out.below BL1.out (fun k hk => by subst hk; exact lg.1) BL1.out.size, HO2.out, BV2.out, STEP.out⟩
        case measure => simp [intOf]; omega
    · obtain rfl : k = m := by omega
      go_wp2
      go_ret2
      refine ⟨fun h => ?_, fun c hc => ?_⟩
      · rw [AF.out] at h; cases h
      · rw [AF.out] at hc
        obtain rfl := Option.some.inj hc
        exact ⟨_, rfl, ⟨_, BL1.out⟩, rfl, HO1.out⟩
end Go.Proofs.Ytihgadppndcjaaa
