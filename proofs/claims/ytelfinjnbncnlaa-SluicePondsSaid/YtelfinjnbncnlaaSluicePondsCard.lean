/- Ponds by sweeps: plain facts. -/
import Derived.Test.YtelfinjnbncnlaaSDrains
import Derived.Test.YtelfinjnbncnlaaPonds
import Derived.Deep.RegionWith
import Derived.Test.YtelfinjnbncnlaaLevelsLaw
import Derived.Test.YtelfinjnbncnlaaSFen
namespace Go.Proofs.Ytelfinjnbncnlaa

/-- While the pond of square k0 is painted with number a. -/
structure PW (n : Nat) (nx : Nat → List Nat) (f L p : Nat → Int) (a : Nat) (k0 : Nat) (l : Nat → Int) : Prop where
  cur : ∀ x, x < n → l x = p x ∨ (l x = a ∧ p x = -1 ∧ Walks nx (fun j => decide (L j = L k0 ∧ f j < L k0)) [k0] x)
  src : l k0 = a
section
variable {n : Nat} {nx : Nat → List Nat} {f L p l l' : Nat → Int} {a k0 : Nat}
theorem PW.start (hk : k0 < n) (hp : p k0 = -1) (hl : ∀ x, x < n → l x = if x = k0 then (a : Int) else p x) : PW n nx f L p a k0 l :=
  ⟨fun x hx => by
    rw [hl x hx]
    by_cases e : x = k0
    · subst e; rw [if_pos rfl]; exact .inr ⟨rfl, hp, .at_ (by simp)⟩
    · rw [if_neg e]; exact .inl rfl, by rw [hl k0 hk, if_pos rfl]⟩
theorem PW.walk (h : PW n nx f L p a k0 l) (hp : ∀ i, i < n → p i = -1 ∨ (0 ≤ p i ∧ p i < a)) {x : Nat} (hx : x < n) (e : l x = a) : p x = -1 ∧ Walks nx (fun j => decide (L j = L k0 ∧ f j < L k0)) [k0] x := by
  rcases h.cur x hx with h1 | ⟨_, h2, h3⟩
  · rcases hp x hx with h4 | h4 <;> omega
  · exact ⟨h2, h3⟩
theorem PW.add (h : PW n nx f L p a k0 l) (hp : ∀ i, i < n → p i = -1 ∨ (0 ≤ p i ∧ p i < a)) (hw : f k0 < L k0) (hx : ∀ i j, j < n → i ∈ nx j → i < n ∧ j ∈ nx i) {x y : Nat} (hxn : x < n) (hy : y ∈ nx x) (h1 : l x < 0) (h2 : f x < L x) (h3 : l y = a) (h4 : L x = L y)
    (hl : ∀ i, l' i = if i = x then (a : Int) else l i) : PW n nx f L p a k0 l' ∧ l x = -1 := by
  obtain ⟨hyn, hxy⟩ := hx y x hxn hy
  obtain ⟨_, hwy⟩ := h.walk hp hyn h3
  have e1 := (walks_one hw hwy).1
  have hpx : l x = p x ∧ p x = -1 := by
    rcases h.cur x hxn with h5 | ⟨h5, _⟩
    · rcases hp x hxn with h6 | h6 <;> omega
    · omega
  refine ⟨⟨fun i hi => ?_, ?_⟩, by omega⟩
  · rw [hl]
    by_cases e : i = x
    · subst e
      rw [if_pos rfl]
      exact .inr ⟨rfl, hpx.2, .on hwy hxy (decide_eq_true ⟨by omega, by omega⟩)⟩
    · rw [if_neg e]; exact h.cur i hi
  · rw [hl, if_neg (fun e => by rw [← e, h.src] at h1; omega)]; exact h.src
/-- A square is not to be painted. -/
def NoP (nx : Nat → List Nat) (f L l : Nat → Int) (a : Nat) (x : Nat) : Prop := l x < 0 → f x < L x → ∀ y, y ∈ nx x → l y = a → L x ≠ L y
theorem PW.all {R : Nat → Nat → Bool} {k : Nat} (hR : Hangs nx f L R) (h : PW n nx f L p a k0 l) (hP : Ponds n nx f L k p a) (hw : f k0 < L k0) (hk : k0 < n) (hx : ∀ i j, j < n → i ∈ nx j → i < n ∧ j ∈ nx i) (hno : ∀ x, x < n → NoP nx f L l a x) :
    ∀ x, x < n → (decide (l x = a) = true ↔ R k0 x = true) := by
  have key : ∀ x, Walks nx (fun j => decide (L j = L k0 ∧ f j < L k0)) [k0] x → x < n ∧ l x = a := by
    intro x hwx
    induction hwx with
    | at_ hs =>
      obtain rfl := List.mem_singleton.1 hs
      exact ⟨hk, h.src⟩
    | on hwy hij hm ih =>
      rename_i x y
      obtain ⟨hyn, hly⟩ := ih
      obtain ⟨hxn, hyx⟩ := hx x y hyn hij
      obtain ⟨m1, m2⟩ := of_decide_eq_true hm
      obtain ⟨y1, y2⟩ := walks_one hw hwy
      obtain ⟨py, _⟩ := h.walk hP.sgn hyn hly
      refine ⟨hxn, ?_⟩
      rcases h.cur x hxn with h5 | ⟨h5, _⟩
      · rcases hP.sgn x hxn with h6 | h6
        · exact absurd (show L x = L y by omega) (hno x hxn (by omega) (by omega) y hyx hly)
        · have := hP.near x y hxn hyn hyx (by omega) y2 (by omega)
          omega
      · exact h5
  intro x hxn
  rw [decide_eq_true_iff, hR k0 x]
  exact ⟨fun e => (h.walk hP.sgn hxn e).2, fun hwx => (key x hwx).2⟩
theorem PW.tab (h : PW n nx f L p a k0 l) (hp : ∀ i, i < n → p i = -1 ∨ (0 ≤ p i ∧ p i < a)) : ∀ x, x < n → l x = if decide (l x = a) = true then (a : Int) else p x := fun x hx => by
  by_cases e : l x = a
  · rw [decide_eq_true e, if_pos rfl]; exact e
  · rw [decide_eq_false e, if_neg (by decide)]
    rcases h.cur x hx with h5 | ⟨h5, _⟩
    · exact h5
    · exact absurd h5 e
end
end Go.Proofs.Ytelfinjnbncnlaa
namespace Go.Proofs.Ytelfinjnbncnlaa
open Go.RowKit

theorem KO.to2 {V9 V V' : World} {yb g n : Nat} {l : List Int} {AN : Option Addr} {nl cN : Nat} {ln : List Int} (h : KO V9 V yb g n l AN nl cN ln) (hb : Below V.heap.size V V') : KO V9 V' yb g n l AN nl cN ln :=
  ⟨h.kl.later ⟨V', hb⟩, h.near.later ⟨V', hb⟩, h.lt⟩
set_option maxRecDepth 100000 in
set_option maxHeartbeats 12800000 in
theorem rponds_ok {W H n m : Nat} {f a s L : Nat → Int} (h : FenL W H n m f a s L) {R : Nat → Nat → Bool} (hR : Hangs (near4 W H) f L R) (cap capS b off : Nat) (B : Option Addr) (w : World) (hp : Ints w b off n f) (hq : IsSlu w B m a s) :
    GivesI 17 #[.agg #[.int .i64 W, .int .i64 H, .slice (some ⟨b, off, none⟩) n cap, .slice B m capS]] w (nums n R f L n) := by
  obtain ⟨hW, hW2, hH1, hH, hn, hn1, hn2, hf, hm1, hm2, ha, hs⟩ := h.facts
  have RL : Hid (∀ w', Below w.heap.size w w' → GivesI 32 #[.agg #[.int .i64 W, .int .i64 H, .slice (some ⟨b, off, none⟩) n cap, .slice B m capS]] w' (tab n L)) := fun w' hb =>
    rlevels_any W H n cap m capS b off B f a s L w' hW hW2 hH1 hH hn (hp.later ⟨w', hb⟩) (hq.later ⟨w', hb⟩) hf ha hs h.lev h.pos (fun i hi => (h.high i hi).2)
  have RD : Hid (∀ w', Below w.heap.size w w' → GivesI 39 #[.agg #[.int .i64 W, .int .i64 H, .slice (some ⟨b, off, none⟩) n cap, .slice B m capS]] w' (tab n fun i => L i - f i)) := fun w' hb => rdepths_any h cap capS b off B w' (hp.later ⟨w', hb⟩) (hq.later ⟨w', hb⟩)
  have NR : Hid (∀ (w' : World) (i : Nat), i < n → GivesI 33 #[.int .i64 W, .int .i64 H, .int .i64 i] w' (natN (near4 W H i))) := fun w' i hi => rnear_any W H i w' hW hW2 hH (hn ▸ hi)
  have NX : Hid (∀ i j, j < n → i ∈ near4 W H j → i < n ∧ j ∈ near4 W H i) := fun i j hj hi => by rw [hn] at hj ⊢; exact ⟨near_lt hi hj, near_flip hj hi⟩
  have PT : Hid (∀ k, k ≤ n → Ponds n (near4 W H) f L k (pondsTo R f L k).1 (pondsTo R f L k).2) := ponds_to hR (fun i hi => (h.high i hi).1) (fun i j hi hj => (NX.out j i hi hj).1) (fun i j hi hj => (NX.out j i hi hj).2)
  have HFL : Hid (∀ i, i < n → 0 ≤ f i ∧ f i ≤ L i ∧ L i ≤ 1000) := fun i hi => ⟨(hf i hi).1, h.high i hi⟩
  have MK : ∀ w', (Instr.makeSlice 22 (.int .i64 (n : Int)) (.int .i64 (n : Int))).run Try.prog w' = .ok (.slice (some ⟨w'.heap.size, 0, none⟩) n n) (w'.alloc (.cells (madeCells #[Value.int .i64 0] n) 3)) := fun w' => make_ints w' n (by omega)
  have HR := Lib.hid hR
  clear hp hq h hm1 hm2 ha hs hf hn hR
  go_enter Try.func17, Try.ntmps17
  go_upto_region 1 with fail
  have BX : Hid (∀ V, Below (w.alloc (.cells #[.int .i64 W, .int .i64 H, .slice (some ⟨b, off, none⟩) n cap, .slice B m capS] 25)).heap.size (w.alloc (.cells #[.int .i64 W, .int .i64 H, .slice (some ⟨b, off, none⟩) n cap, .slice B m capS] 25)) V → V.heap[w.heap.size]? = some (.cells #[.int .i64 W, .int .i64 H, .slice (some ⟨b, off, none⟩) n cap, .slice B m capS] 25 (0, 0))) := fun V h =>
    (h.block _ (by simp)).trans (World.alloc_heap_new _ _)
  have HB9 : Hid (Below w.heap.size w (w.alloc (.cells #[.int .i64 W, .int .i64 H, .slice (some ⟨b, off, none⟩) n cap, .slice B m capS] 25))) := below_alloc (Below.refl _ _)
  obtain ⟨b2, hb2⟩ : ∃ b2, w.heap.size = b2 := ⟨_, rfl⟩
  rw [hb2] at BX ⊢
  clear hb2
  generalize w.alloc (.cells #[.int .i64 W, .int .i64 H, .slice (some ⟨b, off, none⟩) n cap, .slice B m capS] 25) = V9 at *
  have HX : Hid (∀ V, Below V9.heap.size V9 V → (V.cell? ⟨b2, 0, none⟩ = some (.int .i64 W) ∧ V.cell? ⟨b2, 1, none⟩ = some (.int .i64 H) ∧ V.cell? ⟨b2, 2, none⟩ = some (.slice (some ⟨b, off, none⟩) n cap) ∧ V.cell? ⟨b2, 3, none⟩ = some (.slice B m capS)) ∧ b2 < V.heap.size) := fun V hV => by
    have hM := BX.out V hV
    exact ⟨⟨cell_of_heap hM 0 _ rfl, cell_of_heap hM 1 _ rfl, cell_of_heap hM 2 _ rfl, cell_of_heap hM 3 _ rfl⟩, get_lt hM⟩
  have hb9 := HB9.out
  obtain ⟨⟨m0, m1, m2, m3⟩, lM⟩ := HX.out V9 (Below.refl _ _)
  go_cut [3, 4] (fun s3 s4 wx => ∃ A3 c3 A4 c4, s3 = .slice A3 n c3 ∧ s4 = .slice A4 n c4 ∧ Below V9.heap.size V9 wx ∧ IsInts wx A3 n L ∧ IsInts wx A4 n fun i => L i - f i)
  case first =>
    go_region_with (first
      | (go_at_call 32; with_reducible refine Calls.mono (GivesI.calls (RL.out _ (by repeat (first | exact Below.refl _ _ | (with_reducible assumption) | apply below_later | apply below_alloc | apply below_drew | apply below_drewN)))) ?_; rintro e w1 ⟨v, rfl, z1, rfl, ho⟩; obtain ⟨A3, c3, rfl⟩ := ho.shape_n (n := n) (tab_len _ _); have HI3 := Lib.hid (own_tab ho (by omega)); clear ho; obtain ⟨⟨m0, m1, m2, m3⟩, lM⟩ := HX.out z1.val (by repeat (first | exact Below.refl _ _ | (with_reducible assumption) | apply below_later | apply below_alloc | apply below_drew | apply below_drewN)))
      | (go_at_call 39; with_reducible refine Calls.mono (GivesI.calls (RD.out _ (by repeat (first | exact Below.refl _ _ | (with_reducible assumption) | apply below_later | apply below_alloc | apply below_drew | apply below_drewN)))) ?_; rintro e w1 ⟨v, rfl, z2, rfl, ho⟩; obtain ⟨A4, c4, rfl⟩ := ho.shape_n (n := n) (tab_len _ _); have HI4 := Lib.hid (own_tab ho (by omega)); clear ho; obtain ⟨⟨m0, m1, m2, m3⟩, lM⟩ := HX.out z2.val (by repeat (first | exact Below.refl _ _ | (with_reducible assumption) | apply below_later | apply below_alloc | apply below_drew | apply below_drewN))))
    all_goals
      go_wp2_with fail
      go_meet
      exact ⟨_, _, _, _, rfl, rfl, by repeat (first | exact Below.refl _ _ | (with_reducible assumption) | apply below_later | apply below_alloc | apply below_drew | apply below_drewN), HI3.out.later ⟨_, by repeat (first | exact Below.refl _ _ | (with_reducible assumption) | apply below_later | apply below_alloc | apply below_drew | apply below_drewN)⟩, HI4.out.later ⟨_, by repeat (first | exact Below.refl _ _ | (with_reducible assumption) | apply below_later | apply below_alloc | apply below_drew | apply below_drewN)⟩⟩
  case rest =>
    obtain ⟨A3, c3, A4, c4, rfl, rfl, hbv, hi3, hi4⟩ := hcut
    have HBV := Lib.hid hbv
    have I3 := Lib.hid hi3
    have I4 := Lib.hid hi4
    clear hi3 hi4 m0 m1 m2 m3 lM
    have hvs := hbv.size
    go_upto_region 3 with fail
    have kl0 : KL wc (wc.alloc (.cells (madeCells #[Value.int .i64 0] n) 3)) wc.heap.size n (List.replicate n 0) := ⟨below_alloc (Below.refl _ _), made_own wc n _ (Nat.le_refl _) (by omega)⟩
    clear MK hbv
    have HGV : Hid (V9.heap.size ≤ wc.heap.size) := hvs
    obtain ⟨g, hg⟩ : ∃ g, wc.heap.size = g := ⟨_, rfl⟩
    rw [hg] at kl0 ⊢
    clear hg hvs
    generalize wc.alloc (.cells (madeCells #[Value.int .i64 0] n) 3) = V0 at *
    have KL0 := Lib.hid kl0
    clear kl0
    go_wp2_with fail
    go_loopw [6] (fun u wr => ∃ (i : Nat) (l : List Int), u = .int .i64 i ∧ i ≤ n ∧ KL wc wr g n l ∧ l.length = n ∧ ∀ j, j < i → l.getD j 0 = -1) (fun u _ => n - (intOf u).toNat)
    case atStart => exact ⟨0, _, rfl, by omega, KL0.out, by simp, by omega⟩
    case round =>
      obtain ⟨i, l, rfl, hi, kl, hlen, hall⟩ := hrel
      have KL1 := Lib.hid kl
      have HLEN := Lib.hid hlen
      have HALL := Lib.hid hall
      clear kl hlen hall KL0
      by_cases hlt : i < n
      · obtain ⟨ci, fz⟩ := KL1.out.own.cell HLEN.out hlt
        have fi := fz i
        have lg := (own_lt KL1.out.own g rfl).2
        clear fz
        go_wp2_with fail
        go_roundw
        case rel => exact ⟨i + 1, _, by go_num, by omega, KL1.out.put HLEN.out i (-1), by rw [List.length_set]; exact HLEN.out, fun j hj => by
          rw [getD_put (by rw [HLEN.out]; exact hlt)]
          by_cases c : j = i
          · rw [if_pos c]
          · rw [if_neg c]; exact HALL.out j (by omega)⟩
        case measure => simp [intOf]; omega
      · obtain rfl : n = i := by omega
        have hl : l = nums n R f L 0 := by
          rw [← nums_zero]
          exact list_eq HLEN.out (by simp) fun i hi => by rw [HALL.out i hi]; simp [List.getD_eq_getElem?_getD, hi]
        subst hl
        have KL2 := Lib.hid KL1.out
        clear KL1 HLEN HALL hi hlt
        go_wp2_with fail
        go_loopw [7, 8] (fun s7 s8 wr => ∃ k : Nat, s8 = .int .i64 k ∧ k ≤ n ∧ s7 = .int .i64 ((pondsTo R f L k).2 : Nat) ∧ KL wc wr g n (nums n R f L k)) (fun _ u _ => n - (intOf u).toNat)
        case atStart => exact ⟨0, rfl, by omega, rfl, KL2.out⟩
        case round =>
          clear KL2
          obtain ⟨k, rfl, hk, rfl, kl⟩ := hrel
          have KL3 := Lib.hid kl
          clear kl
          by_cases hlt : k < n
          · have PK := Lib.hid (PT.out k hk)
            have hfew := PK.out.few
            have hsg := PK.out.sgn k hlt
            have hfl := HFL.out k hlt
            have HSAME : Hid (f k = L k ∨ (pondsTo R f L k).1 k ≠ -1 → (pondsTo R f L (k + 1)).2 = (pondsTo R f L k).2 ∧ nums n R f L (k + 1) = nums n R f L k) := fun h => nums_same2 h
            have HNEW : Hid (∀ S : Nat → Bool, ¬ (f k = L k ∨ (pondsTo R f L k).1 k ≠ -1) → (∀ i, i < n → (S i = true ↔ R k i = true)) → nums n R f L (k + 1) = tab n fun i => if S i = true then ((pondsTo R f L k).2 : Int) else (pondsTo R f L k).1 i) := fun S h1 h2 => nums_new h1 h2
            have HCNT : Hid (¬ (f k = L k ∨ (pondsTo R f L k).1 k ≠ -1) → (pondsTo R f L (k + 1)).2 = (pondsTo R f L k).2 + 1) := fun h => nums_count h
            have HGET : Hid (∀ x, x < n → (nums n R f L k).getD x 0 = (pondsTo R f L k).1 x) := fun x hx => nums_get hx
            have HLN : Hid ((nums n R f L k).length = n) := nums_len
            obtain ⟨ok, fz⟩ := KL3.out.own.cell HLN.out hlt
            rw [HGET.out k hlt] at ok
            have fk := fz k
            have lg := (own_lt KL3.out.own g rfl).2
            obtain ⟨g4, o4, h4, p4⟩ := (I4.out.later ⟨_, KL3.out.below⟩).at_ (by omega)
            subst h4
            have c4k := p4.at_ k hlt
            have l4 := p4.lt
            generalize nums n R f L k = l0 at *
            generalize (pondsTo R f L k).2 = an at *
            generalize (pondsTo R f L k).1 = pk at *
            clear fz p4
            by_cases h1 : f k = L k
            · have HS := Lib.hid (HSAME.out (.inl h1))
              have e1 : L k - f k = 0 := by omega
              rw [e1] at c4k
              clear h1 e1 HSAME HNEW HCNT
              go_wp2_with fail
              go_roundw
              case rel => exact ⟨k + 1, by go_num, by omega, by rw [HS.out.1], by rw [HS.out.2]; exact KL3.out⟩
              case measure => simp [intOf]; omega
            · have e1 : (L k - f k == 0) = false := by simp; omega
              by_cases h2 : pk k = -1
              · have HNQ : Hid (¬ (f k = L k ∨ pk k ≠ -1)) := fun h => h.elim h1 fun h => h h2
                have hw : f k < L k := by omega
                have HW := Lib.hid hw
                have PS : Hid (PW n (near4 W H) f L pk an k (fun x => (l0.set k (an : Int)).getD x 0)) := PW.start hlt h2 fun x hx => by
                  show (l0.set k (an : Int)).getD x 0 = _
                  rw [getD_put (by rw [HLN.out]; exact hlt)]
                  by_cases e : x = k
                  · rw [if_pos e, if_pos e]
                  · rw [if_neg e, if_neg e]
                    exact HGET.out x hx
                rw [h2] at ok
                generalize L k - f k = dk at *
                clear h1 h2 hsg hfl HSAME hw
                go_upto_region 13 with fail
                have KL4 := Lib.hid (KL3.out.put HLN.out k (an : Int))
                have HL4 : Hid ((l0.set k (an : Int)).length = n) := by show _ = _; rw [List.length_set]; exact HLN.out
                clear ok fk lg c4k l4 KL3 HLN HGET
                generalize wr.setCell ⟨g, k, none⟩ (.int .i64 (an : Int)) = V4 at *
                generalize l0.set k (an : Int) = lz at *
                go_wp2_with fail
                go_loopg [9] (unset1 lz n + 1) (fun num s9 wr => ∃ (c : Bool) (l : List Int), s9 = .bool c ∧ num = unset1 l n + (if c = true then 1 else 0) ∧ KL wc wr g n l ∧ l.length = n ∧ PW n (near4 W H) f L pk an k (fun x => l.getD x 0) ∧ (c = false → ∀ x, x < n → NoP (near4 W H) f L (fun x => l.getD x 0) an x))
                case atStart => exact ⟨true, lz, rfl, rfl, KL4.out, HL4.out, PS.out, fun h => by cases h⟩
                case round =>
                  clear KL4 HL4 PS
                  obtain ⟨c, l, rfl, hnum, kl, hlen, hpw, hno⟩ := hrel
                  have KL5 := Lib.hid kl
                  have HL5 := Lib.hid hlen
                  have HNUM := Lib.hid hnum
                  have PW5 := Lib.hid hpw
                  have HNO := Lib.hid hno
                  clear kl hlen hnum hpw hno
                  cases c
                  · have HS9 := Lib.hid (PW5.out.all HR.out PK.out HW.out hlt NX.out (HNO.out (by trivial)))
                    have HE : Hid (nums n R f L (k + 1) = l) := by
                      show _ = _
                      rw [HNEW.out (fun x => decide (l.getD x 0 = an)) HNQ.out HS9.out]
                      exact list_eq (tab_len _ _) HL5.out fun x hx => by rw [tab_get hx]; exact (PW5.out.tab PK.out.sgn x hx).symm
                    have HC := Lib.hid (HCNT.out HNQ.out)
                    have ha9 : an ≤ 256 := by omega
                    clear HNO HNUM HNEW HCNT HS9
                    go_wp2_with fail
                    go_roundw
                    case rel => exact ⟨k + 1, by go_num, by omega, by rw [HC.out]; go_num, by rw [HE.out]; exact KL5.out⟩
                    case measure => simp [intOf]; omega
                  · go_wp2_with fail
                    go_loopw [9, 10] (fun mv u wr => ∃ (c : Bool) (i : Nat) (l' : List Int), mv = .bool c ∧ u = .int .i64 i ∧ i ≤ n ∧ KL wc wr g n l' ∧ l'.length = n ∧ PW n (near4 W H) f L pk an k (fun x => l'.getD x 0) ∧ (c = false → l' = l ∧ ∀ j, j < i → NoP (near4 W H) f L (fun x => l.getD x 0) an j) ∧ (c = true → unset1 l' n + 1 ≤ unset1 l n)) (fun _ u _ => n - (intOf u).toNat)
                    case atStart => exact ⟨false, 0, l, rfl, rfl, by omega, KL5.out, HL5.out, PW5.out, fun _ => ⟨rfl, fun j hj => by omega⟩, fun h => by cases h⟩
                    case round =>
                      clear KL5 HL5 PW5
                      obtain ⟨c, i, l', rfl, rfl, hi, kl, hlen, hpw, hst, hmv⟩ := hrel
                      have KL6 := Lib.hid kl
                      have HL6 := Lib.hid hlen
                      have PW6 := Lib.hid hpw
                      have HS6 := Lib.hid hst
                      have HM6 := Lib.hid hmv
                      clear kl hlen hpw hst hmv
                      by_cases hin : i < n
                      · obtain ⟨nl, hnl⟩ : ∃ nl, (near4 W H i).length = nl := ⟨_, rfl⟩
                        have HNL : Hid ((natN (near4 W H i)).length = nl) := by show _ = _; rw [← hnl]; simp [natN]
                        have nl4 : nl ≤ 4 := hnl ▸ near_len W H i
                        have HNL2 := Lib.hid hnl
                        clear hnl
                        obtain ⟨⟨m0, m1, m2, m3⟩, lM⟩ := HX.out wr (below_more HBV.out KL6.out.below)
                        have HGW := Lib.hid (own_lt KL6.out.own g rfl).2
                        go_upto_region 20 with (go_at_call 33; with_reducible refine Calls.mono (GivesI.calls (NR.out _ i hin)) ?_; rintro e w2 ⟨vn, rfl, yn, rfl, hon⟩; obtain ⟨AN, capN, rfl⟩ := hon.shape_n (n := nl) HNL.out; have HON := Lib.hid hon; clear hon)
                        obtain ⟨yb, hyb⟩ : ∃ yb, wr.heap.size = yb := ⟨_, rfl⟩
                        have HKO : Hid (KO wc yn.val yb g n l' AN nl capN (natN (near4 W H i))) := ⟨KL6.out.later yn, hyb ▸ HON.out, hyb ▸ HGW.out⟩
                        clear hyb HON m0 m1 m2 m3 lM
                        generalize yn.val = VY at *
                        go_wp2
                        go_loopw [9, 12] (fun mv u wq => ∃ (c' : Bool) (q : Nat) (l2 : List Int), mv = .bool c' ∧ u = .int .i64 q ∧ q ≤ nl ∧ KO wc wq yb g n l2 AN nl capN (natN (near4 W H i)) ∧ l2.length = n ∧ PW n (near4 W H) f L pk an k (fun x => l2.getD x 0) ∧
                          (c' = false → l2 = l ∧ (∀ j, j < i → NoP (near4 W H) f L (fun x => l.getD x 0) an j) ∧ (l.getD i 0 < 0 → f i < L i → ∀ q', q' < q → ∀ y, (near4 W H i)[q']? = some y → l.getD y 0 = an → L i ≠ L y)) ∧ (c' = true → unset1 l2 n + 1 ≤ unset1 l n)) (fun _ u _ => nl - (intOf u).toNat)
                        case atStart => exact ⟨c, 0, l', rfl, rfl, by omega, HKO.out, HL6.out, PW6.out, fun h => ⟨(HS6.out h).1, (HS6.out h).2, fun _ _ q' hq => absurd hq (by omega)⟩, HM6.out⟩
                        case round =>
                          obtain ⟨c', q, l2, rfl, rfl, hq, ko, hlen, hpw, hst, hmv⟩ := hrel
                          have KO4 := Lib.hid ko
                          have HL4 := Lib.hid hlen
                          have PW4 := Lib.hid hpw
                          have HS4 := Lib.hid hst
                          have HM4 := Lib.hid hmv
                          clear ko hlen hpw hst hmv HKO KL6 HL6 PW6 HS6 HM6
                          by_cases hql : q < nl
                          · obtain ⟨gb, gf, hAN, pN⟩ := (KO4.out.near.ints (by rw [HNL.out]; omega)).2.at_ (by omega)
                            subst hAN
                            have cN := pN.at_ q hql
                            have lN := pN.lt
                            obtain ⟨j, hj⟩ : ∃ j, (near4 W H i)[q]? = some j := ⟨_, List.getElem?_eq_getElem (by rw [HNL2.out]; exact hql)⟩
                            rw [near_at hj] at cN
                            have HJ := Lib.hid hj
                            have hjm := List.mem_of_getElem? hj
                            obtain ⟨hjn, hji⟩ := NX.out j i hin hjm
                            have hbk := KO4.out.kl.below
                            obtain ⟨g3, o3, h3, p3⟩ := (I3.out.later ⟨_, hbk⟩).at_ (by omega)
                            subst h3
                            obtain ⟨g5, o5, h5, p5⟩ := (I4.out.later ⟨_, hbk⟩).at_ (by omega)
                            simp only [Option.some.injEq, Addr.mk.injEq] at h5
                            obtain ⟨rfl, rfl, _⟩ := h5
                            have c3i := p3.at_ i hin
                            have c3j := p3.at_ j hjn
                            have l3 := p3.lt
                            have c4i := p5.at_ i hin
                            have l4 := p5.lt
                            obtain ⟨oi, _⟩ := KO4.out.kl.own.cell HL4.out hin
                            obtain ⟨oj, _⟩ := KO4.out.kl.own.cell HL4.out hjn
                            have lg := (own_lt KO4.out.kl.own g rfl).2
                            have hfi := HFL.out i hin
                            have HSK : Hid (c' = false → (l2.getD i 0 < 0 → f i < L i → l2.getD j 0 = an → L i ≠ L j) → l2 = l ∧ (∀ j, j < i → NoP (near4 W H) f L (fun x => l.getD x 0) an j) ∧ (l.getD i 0 < 0 → f i < L i → ∀ q', q' < q + 1 → ∀ y, (near4 W H i)[q']? = some y → l.getD y 0 = an → L i ≠ L y)) := fun h hn1 => by
                              obtain ⟨e1, e2, e3⟩ := HS4.out h
                              refine ⟨e1, e2, fun h1 h2 q' hq' y hy h3 => ?_⟩
                              rcases Nat.lt_or_ge q' q with h4 | h4
                              · exact e3 h1 h2 q' h4 y hy h3
                              · obtain rfl : q' = q := by omega
                                rw [HJ.out] at hy
                                obtain rfl := Option.some.inj hy
                                rw [e1] at hn1
                                exact hn1 h1 h2 h3
                            have HAD : Hid (l2.getD i 0 < 0 → f i < L i → l2.getD j 0 = an → L i = L j → PW n (near4 W H) f L pk an k (fun x => (l2.set i (an : Int)).getD x 0) ∧ unset1 (l2.set i (an : Int)) n + 1 = unset1 l2 n) := fun h1 h2 h3 h4 => by
                              obtain ⟨k1, k2⟩ := PW4.out.add PK.out.sgn HW.out NX.out hin hjm h1 h2 h3 h4 (l' := fun x => (l2.set i (an : Int)).getD x 0) fun x => getD_put (by rw [HL4.out]; exact hin)
                              refine ⟨k1, ?_⟩
                              have := unset1_set (x := (an : Int)) HL4.out hin k2 (by omega) n
                              rw [if_pos hin] at this
                              exact this
                            have HDP : Hid (0 < L i - f i ↔ f i < L i) := by show _ ↔ _; omega
                            generalize l2.getD i 0 = vi at *
                            generalize l2.getD j 0 = vj at *
                            generalize L i - f i = di at *
                            generalize hlie : L i = li at *
                            generalize hlje : L j = lj at *
                            clear pN hj p3 p5 hfi hlie hlje
                            by_cases c1 : vi < 0
                            · have d1 : decide (vi < 0) = true := decide_eq_true c1
                              by_cases c2 : 0 < di
                              · have d2 : decide (0 < di) = true := decide_eq_true c2
                                by_cases c3 : vj = an
                                · have d3 : (vj == (an : Int)) = true := by simp [c3]
                                  by_cases c5 : li = lj
                                  · have d4 : (li == lj) = true := by simp [c5]
                                    have HA := Lib.hid (HAD.out c1 (HDP.out.1 c2) c3 c5)
                                    clear HAD HSK HDP c1 c2 c3 c5
                                    go_wp2_with fail
                                    refine wp_region_later (by kernel_rfl) (by kernel_rfl) ?_
                                    repeat (go_big_quiet_step ((fail)))
                                    refine wpQuiet_nil ?_
                                    intro z3
                                    have KO5 := Lib.hid (KO4.out.to2 z3.ok)
                                    have fo5 := (KO5.out.kl.own.cell HL4.out hin).2 i
                                    have ci5 := (KO5.out.kl.own.cell HL4.out hin).1
                                    have lg5 := (own_lt KO5.out.kl.own g rfl).2
                                    have KP := Lib.hid (KO5.out.put HL4.out i (an : Int))
                                    go_wp2_with fail
                                    go_roundw
                                    case rel =>
                                      refine ⟨true, q + 1, l2.set i (an : Int), rfl, by go_num, by omega, KP.out, by rw [List.length_set]; exact HL4.out, HA.out.1, fun h => (by cases h), fun _ => ?_⟩
                                      have e := HA.out.2
                                      cases c'
                                      · rw [(HS4.out rfl).1] at e ⊢; omega
                                      · have := HM4.out rfl; omega
                                    case measure => simp [intOf]; omega
                                  · have d4 : (li == lj) = false := by simpa using c5
                                    have HC5 := Lib.hid c5
                                    clear HAD HDP c1 c2 c3 c5
                                    go_wp2_with fail
                                    refine wp_region_later (by kernel_rfl) (by kernel_rfl) ?_
                                    repeat (go_big_quiet_step ((fail)))
                                    refine wpQuiet_nil ?_
                                    intro z3
                                    go_wp2_with fail
                                    go_roundw
                                    case rel => exact ⟨c', q + 1, l2, rfl, by go_num, by omega, KO4.out.to2 z3.ok, HL4.out, PW4.out, fun h => HSK.out h (fun _ _ _ => HC5.out), HM4.out⟩
                                    case measure => simp [intOf]; omega
                                · have d3 : (vj == (an : Int)) = false := by simpa using c3
                                  have HC5 := Lib.hid c3
                                  clear HAD HDP c1 c2 c3
                                  go_wp2_with fail
                                  refine wp_region_later (by kernel_rfl) (by kernel_rfl) ?_
                                  repeat (go_big_quiet_step ((fail)))
                                  refine wpQuiet_nil ?_
                                  intro z3
                                  go_wp2_with fail
                                  go_roundw
                                  case rel => exact ⟨c', q + 1, l2, rfl, by go_num, by omega, KO4.out.to2 z3.ok, HL4.out, PW4.out, fun h => HSK.out h (fun _ _ h => absurd h HC5.out), HM4.out⟩
                                  case measure => simp [intOf]; omega
                              · have d2 : decide (0 < di) = false := decide_eq_false c2
                                have HC5 : Hid (¬ f i < li) := fun h => c2 (HDP.out.2 h)
                                clear HAD HDP c1 c2
                                go_wp2_with fail
                                refine wp_region_later (by kernel_rfl) (by kernel_rfl) ?_
                                repeat (go_big_quiet_step ((fail)))
                                refine wpQuiet_nil ?_
                                intro z3
                                go_wp2_with fail
                                go_roundw
                                case rel => exact ⟨c', q + 1, l2, rfl, by go_num, by omega, KO4.out.to2 z3.ok, HL4.out, PW4.out, fun h => HSK.out h (fun _ h _ => absurd h (by have := HC5.out; omega)), HM4.out⟩
                                case measure => simp [intOf]; omega
                            · have d1 : decide (vi < 0) = false := decide_eq_false c1
                              have HC5 := Lib.hid c1
                              clear HAD HDP c1
                              go_wp2_with fail
                              refine wp_region_later (by kernel_rfl) (by kernel_rfl) ?_
                              repeat (go_big_quiet_step ((fail)))
                              refine wpQuiet_nil ?_
                              intro z3
                              go_wp2_with fail
                              go_roundw
                              case rel => exact ⟨c', q + 1, l2, rfl, by go_num, by omega, KO4.out.to2 z3.ok, HL4.out, PW4.out, fun h => HSK.out h (fun h _ _ => absurd h (by have := HC5.out; omega)), HM4.out⟩
                              case measure => simp [intOf]; omega
                          · obtain rfl : nl = q := by omega
                            have HNX : Hid (c' = false → l2 = l ∧ ∀ j, j < i + 1 → NoP (near4 W H) f L (fun x => l.getD x 0) an j) := fun h => by
                              obtain ⟨e1, e2, e3⟩ := HS4.out h
                              refine ⟨e1, fun j hj => ?_⟩
                              rcases Nat.lt_or_ge j i with h1 | h1
                              · exact e2 j h1
                              · obtain rfl : j = i := by omega
                                intro h2 h3 y hy h4
                                obtain ⟨q', hq'⟩ := List.mem_iff_getElem?.1 hy
                                exact e3 h2 h3 q' (by have := (List.getElem?_eq_some_iff.1 hq').1; have := HNL2.out; omega) y hq' h4
                            go_wp2_with fail
                            go_roundw
                            case rel => exact ⟨c', i + 1, l2, rfl, by go_num, by omega, KO4.out.kl, HL4.out, PW4.out, HNX.out, HM4.out⟩
                            case measure => simp [intOf]; omega
                      · obtain rfl : n = i := by omega
                        go_wp2_with fail
                        go_roundg (unset1 l' n + (if c = true then 1 else 0))
                        case measure =>
                          have e := HNUM.out
                          simp only [if_true] at e
                          cases c
                          · rw [(HS6.out rfl).1]; simp; omega
                          · have := HM6.out rfl; simp; omega
                        case rel => exact ⟨c, l', rfl, rfl, KL6.out, HL6.out, PW6.out, fun h x hx => by obtain ⟨e1, e2⟩ := HS6.out h; rw [e1]; exact e2 x hx⟩
              · have hp0 : 0 ≤ pk k := by omega
                have d2 : decide (0 ≤ pk k) = true := decide_eq_true hp0
                have HS := Lib.hid (HSAME.out (.inr h2))
                clear h1 h2 hsg HSAME HNEW HCNT
                generalize pk k = v at *
                generalize L k - f k = dk at *
                go_wp2_with fail
                go_roundw
                case rel => exact ⟨k + 1, by go_num, by omega, by rw [HS.out.1], by rw [HS.out.2]; exact KL3.out⟩
                case measure => simp [intOf]; omega
          · obtain rfl : n = k := by omega
            go_wp2_with fail
            go_ret
            exact ⟨_, rfl, ⟨_, below_more hb9 (below_more HBV.out KL3.out.below)⟩, rfl, KL3.out.own.mono (Nat.le_trans hb9.size HGV.out)⟩
end Go.Proofs.Ytelfinjnbncnlaa
namespace Go.Proofs.Ytelfinjnbncnlaa
open Go.RowKit

set_option maxRecDepth 100000 in
set_option maxHeartbeats 6400000 in
theorem ponds_law (W H : Int) (A : Option Addr) (n cap : Nat) (f : Nat → Int) (B : Option Addr) (m capS : Nat) (a s : Nat → Int) (w : World) (hp : n ≤ 9223372036854775807 → IsInts w A n f) (hq : m ≤ 60 → IsSlu w B m a s) :
    Gives Try.prog 4 #[.agg #[.int .i64 W, .int .i64 H, .slice A n cap, .slice B m capS]] w (.bool true) := by
  have F1 : Hid (∀ w, Gives Try.prog 7 #[] w (.bool true)) := first_any
  have FW : Hid (∀ w, Gives Try.prog 6 #[.agg #[.int .i64 W, .int .i64 H, .slice A n cap, .slice B m capS]] w (.bool (decide (100 < n) || decide (30 < m)))) := fun w => fenLarge_any W H A B n cap m capS w
  have BX : Hid (∀ V, Below (w.alloc (.cells #[.int .i64 W, .int .i64 H, .slice A n cap, .slice B m capS] 25)).heap.size (w.alloc (.cells #[.int .i64 W, .int .i64 H, .slice A n cap, .slice B m capS] 25)) V → V.cell? ⟨w.heap.size, 0, none⟩ = some (.int .i64 W) ∧ V.cell? ⟨w.heap.size, 1, none⟩ = some (.int .i64 H) ∧ V.cell? ⟨w.heap.size, 2, none⟩ = some (.slice A n cap) ∧ V.cell? ⟨w.heap.size, 3, none⟩ = some (.slice B m capS) ∧ w.heap.size < V.heap.size) := fun V h => by
    have hM : V.heap[w.heap.size]? = some (.cells #[.int .i64 W, .int .i64 H, .slice A n cap, .slice B m capS] 25 (0, 0)) := (h.block _ (by simp)).trans (World.alloc_heap_new _ _)
    exact ⟨cell_of_heap hM 0 _ rfl, cell_of_heap hM 1 _ rfl, cell_of_heap hM 2 _ rfl, cell_of_heap hM 3 _ rfl, get_lt hM⟩
  cases hl : (decide (100 < n) || decide (30 < m)) with
  | true =>
    rw [hl] at FW
    clear hp hq hl
    go_enter Try.func4, Try.ntmps4
    go_wp2_with (first | (go_at_call 6; with_reducible refine Calls.mono (Gives.calls (FW.out _)) ?_; rintro e w1 ⟨rfl, z1, rfl⟩) | (go_at_call 7; with_reducible refine Calls.mono (Gives.calls (F1.out _)) ?_; rintro e w1 ⟨rfl, z4, rfl⟩))
    go_ret
    exact ⟨rfl, later_of (by repeat (first | exact Below.refl _ _ | (with_reducible assumption) | apply below_later | apply below_alloc | apply below_drew | apply below_drewN))⟩
  | false =>
    rw [hl] at FW
    simp only [Bool.or_eq_false_iff, decide_eq_false_iff_not] at hl
    have hp' := hp (by omega)
    have hq' := hq (by omega)
    have hn100 : n ≤ 100 := by omega
    clear hp hq hl
    cases hv : validF W H n f m a s with
    | false =>
      have C1 : Hid (∀ w', Below w.heap.size w w' → Gives Try.prog 15 #[.agg #[.int .i64 W, .int .i64 H, .slice A n cap, .slice B m capS]] w' (.tuple #[.slice none 0 0, .int .i64 30])) := fun w' h => Ponds_bad W H n cap m capS A B f a s w' (hp'.later ⟨w', h⟩) (hq'.later ⟨w', h⟩) hv
      have C3 : Hid (∀ w', Below w.heap.size w w' → Gives Try.prog 16 #[.agg #[.int .i64 W, .int .i64 H, .slice A n cap, .slice B m capS]] w' (.tuple #[.slice none 0 0, .int .i64 30])) := fun w' h => Drains_bad W H n cap m capS A B f a s w' (hp'.later ⟨w', h⟩) (hq'.later ⟨w', h⟩) hv
      have RV : Hid (∀ w', Below w.heap.size w w' → Gives Try.prog 10 #[.agg #[.int .i64 W, .int .i64 H, .slice A n cap, .slice B m capS]] w' (.bool false)) := fun w' h => hv ▸ rvalid_any W H A B n cap m capS f a s w' (by omega) (hp'.later ⟨w', h⟩) (hq'.later ⟨w', h⟩)
      clear hp' hq' hv
      go_enter Try.func4, Try.ntmps4
      go_wp2_with (first
        | ((go_at_call 6; with_reducible refine Calls.mono (Gives.calls (FW.out _)) ?_; rintro e w1 ⟨rfl, z1, rfl⟩); obtain ⟨p0, p1, p2, p3, p4⟩ := BX.out z1.val (by repeat (first | exact Below.refl _ _ | (with_reducible assumption) | apply below_later | apply below_alloc | apply below_drew | apply below_drewN)))
        | ((go_at_call 15; with_reducible refine Calls.mono (Gives.calls (C1.out _ (by repeat (first | exact Below.refl _ _ | (with_reducible assumption) | apply below_later | apply below_alloc | apply below_drew | apply below_drewN)))) ?_; rintro e w1 ⟨rfl, z2, rfl⟩); obtain ⟨p0, p1, p2, p3, p4⟩ := BX.out z2.val (by repeat (first | exact Below.refl _ _ | (with_reducible assumption) | apply below_later | apply below_alloc | apply below_drew | apply below_drewN)))
        | ((go_at_call 10; with_reducible refine Calls.mono (Gives.calls (RV.out _ (by repeat (first | exact Below.refl _ _ | (with_reducible assumption) | apply below_later | apply below_alloc | apply below_drew | apply below_drewN)))) ?_; rintro e w1 ⟨rfl, z3, rfl⟩); obtain ⟨p0, p1, p2, p3, p4⟩ := BX.out z3.val (by repeat (first | exact Below.refl _ _ | (with_reducible assumption) | apply below_later | apply below_alloc | apply below_drew | apply below_drewN)))
        | (go_at_call 16; with_reducible refine Calls.mono (Gives.calls (C3.out _ (by repeat (first | exact Below.refl _ _ | (with_reducible assumption) | apply below_later | apply below_alloc | apply below_drew | apply below_drewN)))) ?_; rintro e w1 ⟨rfl, z4, rfl⟩)
        | (go_at_call 7; with_reducible refine Calls.mono (Gives.calls (F1.out _)) ?_; rintro e w1 ⟨rfl, z9, rfl⟩))
      go_ret
      exact ⟨rfl, later_of (by repeat (first | exact Below.refl _ _ | (with_reducible assumption) | apply below_later | apply below_alloc | apply below_drew | apply below_drewN))⟩
    | true =>
      obtain ⟨⟨⟨a1', a2⟩, a3, a4⟩, hvz⟩ := valid_facts hv
      obtain ⟨W', rfl⟩ : ∃ x : Nat, W = x := ⟨W.toNat, by omega⟩
      obtain ⟨H', rfl⟩ : ∃ x : Nat, H = x := ⟨H.toNat, by omega⟩
      obtain ⟨L, hL⟩ := fen_levels hv
      obtain ⟨R, hR⟩ := hangs_there (near4 W' H') f L
      obtain ⟨_, _, _, _, hnn, hn1, hn2, _⟩ := hL.facts
      obtain ⟨b, off, rfl, p⟩ := hp'.at_ hn1
      have NX : Hid (∀ i j, j < n → i ∈ near4 W' H' j → i < n ∧ j ∈ near4 W' H' i) := fun i j hj hi => by rw [hnn] at hj ⊢; exact ⟨near_lt hi hj, near_flip hj hi⟩
      have C1 : Hid (∀ w', Below w.heap.size w w' → Calls Try.prog 15 #[.agg #[.int .i64 W', .int .i64 H', .slice (some ⟨b, off, none⟩) n cap, .slice B m capS]] w' (PostLD w' (nums n R f L n))) := fun w' h => ponds_ok hL hR cap capS _ B w' (hp'.later ⟨w', h⟩) (hq'.later ⟨w', h⟩)
      have C2 : Hid (∀ w', Below w.heap.size w w' → GivesI 17 #[.agg #[.int .i64 W', .int .i64 H', .slice (some ⟨b, off, none⟩) n cap, .slice B m capS]] w' (nums n R f L n)) := fun w' h => rponds_ok hL hR cap capS b off B w' (p.later ⟨w', h⟩) (hq'.later ⟨w', h⟩)
      have C3 : Hid (∀ w', Below w.heap.size w w' → Calls Try.prog 16 #[.agg #[.int .i64 W', .int .i64 H', .slice (some ⟨b, off, none⟩) n cap, .slice B m capS]] w' (PostDr w' W' H' n m f a s L fun v => .tuple #[v, .int .i64 0])) := fun w' h => drains_ok hL cap capS _ B w' (hp'.later ⟨w', h⟩) (hq'.later ⟨w', h⟩)
      have C4 : Hid (∀ w', Below w.heap.size w w' → Calls Try.prog 18 #[.agg #[.int .i64 W', .int .i64 H', .slice (some ⟨b, off, none⟩) n cap, .slice B m capS]] w' (PostDr w' W' H' n m f a s L fun v => v)) := fun w' h => rdrains_ok hL cap capS b off B w' (p.later ⟨w', h⟩) (hq'.later ⟨w', h⟩)
      have RV : Hid (∀ w', Below w.heap.size w w' → Gives Try.prog 10 #[.agg #[.int .i64 W', .int .i64 H', .slice (some ⟨b, off, none⟩) n cap, .slice B m capS]] w' (.bool true)) := fun w' h => hv ▸ rvalid_any W' H' _ B n cap m capS f a s w' (by omega) (hp'.later ⟨w', h⟩) (hq'.later ⟨w', h⟩)
      unfold PostLD at C1
      unfold PostDr at C3 C4
      have HLN : Hid ((nums n R f L n).length = n) := nums_len
      have SI : Hid (∀ (V : World) (A5 A6 : Option Addr) (c5 c6 nl : Nat) (l : List Int), nl ≤ 1000 → IsInts V A5 nl (fun i => l.getD i 0) → IsInts V A6 nl (fun i => l.getD i 0) → Gives Try.prog 11 #[.slice A5 nl c5, .slice A6 nl c6] V (.bool true)) := fun V A5 A6 c5 c6 nl l h1 h2 h3 => same_ints A5 A6 nl c5 c6 _ _ V (by omega) h2 h3 fun _ _ => rfl
      clear a1' a2 a3 a4 hvz hp' hq' hv hL hnn p hR
      by_cases h36 : 36 < n
      · have d1 : decide (36 < n) = true := decide_eq_true h36
        have d2 : decide ((36 : Int) < (n : Int)) = true := decide_eq_true (by omega)
        clear h36 C3 C4
        go_enter Try.func4, Try.ntmps4
        go_wp2_with (first
          | ((go_at_call 6; with_reducible refine Calls.mono (Gives.calls (FW.out _)) ?_; rintro e w1 ⟨rfl, z1, rfl⟩); obtain ⟨p0, p1, p2, p3, p4⟩ := BX.out z1.val (by repeat (first | exact Below.refl _ _ | (with_reducible assumption) | apply below_later | apply below_alloc | apply below_drew | apply below_drewN)))
          | (go_at_call 15; with_reducible refine Calls.mono (C1.out _ (by repeat (first | exact Below.refl _ _ | (with_reducible assumption) | apply below_later | apply below_alloc | apply below_drew | apply below_drewN))) ?_; rintro e w1 ⟨v, rfl, z2, rfl, ho⟩; obtain ⟨A2, c2, rfl⟩ := ho.shape_n (n := n) HLN.out; have HI2 := Lib.hid (show IsInts z2.val A2 n (fun i => (nums n R f L n).getD i 0) from (ho.ints (by rw [HLN.out]; omega)).2); clear ho; obtain ⟨p0, p1, p2, p3, p4⟩ := BX.out z2.val (by repeat (first | exact Below.refl _ _ | (with_reducible assumption) | apply below_later | apply below_alloc | apply below_drew | apply below_drewN)))
          | ((go_at_call 10; with_reducible refine Calls.mono (Gives.calls (RV.out _ (by repeat (first | exact Below.refl _ _ | (with_reducible assumption) | apply below_later | apply below_alloc | apply below_drew | apply below_drewN)))) ?_; rintro e w1 ⟨rfl, z3, rfl⟩); obtain ⟨p0, p1, p2, p3, p4⟩ := BX.out z3.val (by repeat (first | exact Below.refl _ _ | (with_reducible assumption) | apply below_later | apply below_alloc | apply below_drew | apply below_drewN)))
          | (go_at_call 17; with_reducible refine Calls.mono (GivesI.calls (C2.out _ (by repeat (first | exact Below.refl _ _ | (with_reducible assumption) | apply below_later | apply below_alloc | apply below_drew | apply below_drewN)))) ?_; rintro e w1 ⟨v, rfl, z4, rfl, ho⟩; obtain ⟨A4, c4, rfl⟩ := ho.shape_n (n := n) HLN.out; have HI4 := Lib.hid (show IsInts z4.val A4 n (fun i => (nums n R f L n).getD i 0) from (ho.ints (by rw [HLN.out]; omega)).2); clear ho; obtain ⟨p0, p1, p2, p3, p4⟩ := BX.out z4.val (by repeat (first | exact Below.refl _ _ | (with_reducible assumption) | apply below_later | apply below_alloc | apply below_drew | apply below_drewN)))
          | ((go_at_call 11; with_reducible refine Calls.mono (Gives.calls (SI.out z4.val A2 A4 c2 c4 n _ (by omega) (HI2.out.later ⟨z4.val, by repeat (first | exact Below.refl _ _ | (with_reducible assumption) | apply below_later | apply below_alloc | apply below_drew | apply below_drewN)⟩) HI4.out)) ?_; rintro e w1 ⟨rfl, z5, rfl⟩); obtain ⟨p0, p1, p2, p3, p4⟩ := BX.out z5.val (by repeat (first | exact Below.refl _ _ | (with_reducible assumption) | apply below_later | apply below_alloc | apply below_drew | apply below_drewN)))
          | (go_at_call 7; with_reducible refine Calls.mono (Gives.calls (F1.out _)) ?_; rintro e w1 ⟨rfl, z9, rfl⟩))
        go_ret
        exact ⟨rfl, later_of (by repeat (first | exact Below.refl _ _ | (with_reducible assumption) | apply below_later | apply below_alloc | apply below_drew | apply below_drewN))⟩
      · have d1 : decide (36 < n) = false := decide_eq_false h36
        have d2 : decide ((36 : Int) < (n : Int)) = false := decide_eq_false (by omega)
        clear h36
        go_enter Try.func4, Try.ntmps4
        go_wp2_with (first
          | ((go_at_call 6; with_reducible refine Calls.mono (Gives.calls (FW.out _)) ?_; rintro e w1 ⟨rfl, z1, rfl⟩); obtain ⟨p0, p1, p2, p3, p4⟩ := BX.out z1.val (by repeat (first | exact Below.refl _ _ | (with_reducible assumption) | apply below_later | apply below_alloc | apply below_drew | apply below_drewN)))
          | (go_at_call 15; with_reducible refine Calls.mono (C1.out _ (by repeat (first | exact Below.refl _ _ | (with_reducible assumption) | apply below_later | apply below_alloc | apply below_drew | apply below_drewN))) ?_; rintro e w1 ⟨v, rfl, z2, rfl, ho⟩; obtain ⟨A2, c2, rfl⟩ := ho.shape_n (n := n) HLN.out; have HI2 := Lib.hid (show IsInts z2.val A2 n (fun i => (nums n R f L n).getD i 0) from (ho.ints (by rw [HLN.out]; omega)).2); clear ho; obtain ⟨p0, p1, p2, p3, p4⟩ := BX.out z2.val (by repeat (first | exact Below.refl _ _ | (with_reducible assumption) | apply below_later | apply below_alloc | apply below_drew | apply below_drewN)))
          | ((go_at_call 10; with_reducible refine Calls.mono (Gives.calls (RV.out _ (by repeat (first | exact Below.refl _ _ | (with_reducible assumption) | apply below_later | apply below_alloc | apply below_drew | apply below_drewN)))) ?_; rintro e w1 ⟨rfl, z3, rfl⟩); obtain ⟨p0, p1, p2, p3, p4⟩ := BX.out z3.val (by repeat (first | exact Below.refl _ _ | (with_reducible assumption) | apply below_later | apply below_alloc | apply below_drew | apply below_drewN)))
          | (go_at_call 17; with_reducible refine Calls.mono (GivesI.calls (C2.out _ (by repeat (first | exact Below.refl _ _ | (with_reducible assumption) | apply below_later | apply below_alloc | apply below_drew | apply below_drewN)))) ?_; rintro e w1 ⟨v, rfl, z4, rfl, ho⟩; obtain ⟨A4, c4, rfl⟩ := ho.shape_n (n := n) HLN.out; have HI4 := Lib.hid (show IsInts z4.val A4 n (fun i => (nums n R f L n).getD i 0) from (ho.ints (by rw [HLN.out]; omega)).2); clear ho; obtain ⟨p0, p1, p2, p3, p4⟩ := BX.out z4.val (by repeat (first | exact Below.refl _ _ | (with_reducible assumption) | apply below_later | apply below_alloc | apply below_drew | apply below_drewN)))
          | (first
              | ((go_at_call 11; with_reducible refine Calls.mono (Gives.calls (SI.out z4.val A2 A4 c2 c4 n _ (by omega) (HI2.out.later ⟨z4.val, by repeat (first | exact Below.refl _ _ | (with_reducible assumption) | apply below_later | apply below_alloc | apply below_drew | apply below_drewN)⟩) HI4.out)) ?_; rintro e w1 ⟨rfl, z5, rfl⟩); obtain ⟨p0, p1, p2, p3, p4⟩ := BX.out z5.val (by repeat (first | exact Below.refl _ _ | (with_reducible assumption) | apply below_later | apply below_alloc | apply below_drew | apply below_drewN)))
              | (go_at_call 11; with_reducible refine Calls.mono (Gives.calls (SI.out z7.val A6 A7 c6 c7 n _ (by omega) (HI6.out.later ⟨z7.val, by repeat (first | exact Below.refl _ _ | (with_reducible assumption) | apply below_later | apply below_alloc | apply below_drew | apply below_drewN)⟩) HI7.out)) ?_; rintro e w1 ⟨rfl, z8, rfl⟩))
          | (go_at_call 16; with_reducible refine Calls.mono (C3.out _ (by repeat (first | exact Below.refl _ _ | (with_reducible assumption) | apply below_later | apply below_alloc | apply below_drew | apply below_drewN))) ?_; rintro e w1 ⟨v, t, rfl, z6, rfl, ho, ht⟩; obtain ⟨A6, c6, rfl⟩ := ho.shape_n (n := n) (tab_len _ _); have HI6 := Lib.hid (show IsInts z6.val A6 n (fun i => (tab n t).getD i 0) from (ho.ints (by rw [tab_len]; omega)).2); have HT6 := Lib.hid ht; clear ho ht; obtain ⟨p0, p1, p2, p3, p4⟩ := BX.out z6.val (by repeat (first | exact Below.refl _ _ | (with_reducible assumption) | apply below_later | apply below_alloc | apply below_drew | apply below_drewN)))
          | (go_at_call 18; with_reducible refine Calls.mono (C4.out _ (by repeat (first | exact Below.refl _ _ | (with_reducible assumption) | apply below_later | apply below_alloc | apply below_drew | apply below_drewN))) ?_; rintro e w1 ⟨v, t2, rfl, z7, rfl, ho, ht⟩; have e7 : tab n t2 = tab n t := list_eq (tab_len _ _) (tab_len _ _) (fun i hi => by rw [tab_get hi, tab_get hi]; exact Dr.same NX.out hi (ht i hi) (HT6.out i hi)); rw [e7] at ho; obtain ⟨A7, c7, rfl⟩ := ho.shape_n (n := n) (tab_len _ _); have HI7 := Lib.hid (show IsInts z7.val A7 n (fun i => (tab n t).getD i 0) from (ho.ints (by rw [tab_len]; omega)).2); clear ho ht e7; obtain ⟨p0, p1, p2, p3, p4⟩ := BX.out z7.val (by repeat (first | exact Below.refl _ _ | (with_reducible assumption) | apply below_later | apply below_alloc | apply below_drew | apply below_drewN)))
          | (go_at_call 7; with_reducible refine Calls.mono (Gives.calls (F1.out _)) ?_; rintro e w1 ⟨rfl, z9, rfl⟩))
        go_ret
        exact ⟨rfl, later_of (by repeat (first | exact Below.refl _ _ | (with_reducible assumption) | apply below_later | apply below_alloc | apply below_drew | apply below_drewN))⟩
end Go.Proofs.Ytelfinjnbncnlaa
namespace Go.Proofs.Ytelfinjnbncnlaa.cSluicePonds
open Go.ChangeShapes Go.WideShapes Go.ChangeAt Go.RowKit

set_option maxRecDepth 100000 in
theorem contract (H : Type) (enc : TypeId × Value → H) (W : World) (base : Nat) (args : Array Value) (ds gs : List (DataW H)) (before : List MemPlace)
    (hval : ∀ (j : Nat) t v, Try.f4.params[j]? = some t → args[j]? = some v → Value.okWide Try.prog W .any base t v)
    (hW : DataW.Whole enc Try.prog Try.f4.params.toList Rows.sluicePondsSpec.vars false W args.toList ds gs before) :
    Calls Try.prog 4 args W fun e W' => ∃ v, e = .returned v ∧ Rows.sluicePondsSpec.post enc Try.prog Try.f4 false true false false W args v W' := by
  have hlt : ∀ b ∈ before, b.block < W.heap.size := fun b hb => hW.lt b hb
  have hW' := hW
  obtain ⟨p, q, hA0, hV, rfl, hfz, hnd⟩ := hW
  have hA : DataW.TrodAll enc Try.prog W 0 (fun _ => true) true Try.f4.params.toList args.toList ds p := hA0
  rw [Try.params4] at hA hval
  obtain ⟨v0, d0, rfl, rfl, h0⟩ := trodAll_one hA
  obtain ⟨x0, y0, A0, n0, cap0, f0, B0, m0, capS0, sa0, ss0, rfl, wf0, ⟨hnc0, hcm0, hmc0, hms0⟩, hp0, hf0, hq0, hsf0⟩ := open_fen (fun b hb => hlt b (by simp [hb])) (hval 0 25 _ rfl rfl) h0
  refine (ponds_law x0 y0 A0 n0 cap0 f0 B0 m0 capS0 sa0 ss0 W hp0 (fun h => hq0 (by omega))).calls.mono fun e W' ⟨he, x, hx⟩ => ?_
  subst he hx
  exact ⟨_, rfl, law_post laid_out Try.underlying4 rfl (by kernel_rfl) (by kernel_rfl) hW' rfl x.ok⟩

set_option maxRecDepth 100000 in
theorem lifted (os : Os) (started : os.Started) (H : Type) (enc : TypeId × Value → H) (F : Stop.Interp) :
    ReturnsInHanded {} Try.checked os 4 .any ((OpenSpec.ofChange Rows.sluicePondsSpec).preRow enc Try.prog Try.f4 Rows.sluicePondsRow.domain false Rows.sluicePondsRow.laid) (((OpenSpec.ofChange Rows.sluicePondsSpec).at F).post enc Try.prog Try.f4 false true false false) := by
  have hx : ∃ places, DataW.whole enc Try.prog ((World.laidAll Try.prog os Rows.sluicePondsRow.laid).forCall (fun _ _ => 0) ⟨#[], #[.agg #[.int .i64 0, .int .i64 0, .slice none 0 0, .slice none 0 0]], []⟩).memory Try.f4.params.toList Rows.sluicePondsSpec.vars false #[Value.agg #[.int .i64 0, .int .i64 0, .slice none 0 0, .slice none 0 0]].toList 8 = some ([.agg [.lit (.int .i64 0), .lit (.int .i64 0), .nil, .nil]], [], places) :=
    ⟨[], by kernel_rfl⟩
  obtain ⟨places, hx⟩ := hx
  refine returnsInHanded_of_row (C := Try.checked) (s := OpenSpec.ofChange Rows.sluicePondsSpec) own started (by kernel_rfl) Try.func4
    (witness_row_at (enc := enc) (C := Try.checked) false (World.laidAll Try.prog os Rows.sluicePondsRow.laid) #[.agg #[.int .i64 0, .int .i64 0, .slice none 0 0, .slice none 0 0]] (World.laidAll_os _ _ _) (by kernel_rfl) (by kernel_rfl) (by kernel_rfl)
      (OpenSpec.preRow_of_cond 8 hx (by kernel_rfl) (fun k hk => by cases hk) (by kernel_rfl) (laidMet_laidAll _ (by kernel_rfl) (by kernel_rfl)))) ?_
  intro W base args ds gs before hval hW _ _ _ hL _ _
  exact contract H enc W base args ds gs before hval hW

theorem said : Rows.SluicePondsSaid :=
  OpenClaim.holds_of_cond 4 Try.f4 rfl rfl rfl rfl rfl rfl rfl ⟨rfl, rfl, rfl, rfl, rfl⟩ rfl rfl rfl rfl rfl (by kernel_rfl) Try.func4 (by kernel_rfl)
    (of_decide_eq_true (by kernel_rfl)) (by unfold Func.isWrapper; first | (rw [if_pos (by decide +kernel)]; kernel_rfl) | (rw [if_neg (by decide +kernel)]; exact ⟨rfl, rfl⟩))
    (fun os started H enc _ F => by rw [OpenClaim.pre_eq_preRow]; exact lifted os started H enc F)

end Go.Proofs.Ytelfinjnbncnlaa.cSluicePonds
