/- bed.draw: a map that is drawn anew. -/
import Derived.Test.YtajfepogecakbaaDoorBedValid
import Derived.Test.YtajfepogecakbaaDoorTail
import Derived.RegionTactic
import Derived.Test.YtajfepogecakbaaDoorAroundC
namespace Go.Proofs.YtajfepogecakbaaDoor
open Go.RowKit

def PostM (w : World) (W H : Int) (l : List Int) (e : Ending) (w' : World) : Prop := ∃ v, e = .returned (.agg #[.int .i64 W, .int .i64 H, v]) ∧ ∃ x : Later w, w' = x.val ∧ OwnI w' w.heap.size v l
def PostME (w : World) (W H : Int) (l : List Int) (E : Int) (e : Ending) (w' : World) : Prop := ∃ v, e = .returned (.tuple #[.agg #[.int .i64 W, .int .i64 H, v], .int .i64 E]) ∧ ∃ x : Later w, w' = x.val ∧ OwnI w' w.heap.size v l
/-- A call that returns a map whose squares are its own. -/
def GivesM (f : FuncId) (args : Array Value) (w : World) (W H : Int) (l : List Int) : Prop := Calls Tryd.prog f args w (PostM w W H l)
theorem GivesM.calls {f : FuncId} {args : Array Value} {w : World} {W H : Int} {l : List Int} (h : GivesM f args w W H l) :
    Calls Tryd.prog f args w fun e w' => ∃ v, e = .returned (.agg #[.int .i64 W, .int .i64 H, v]) ∧ ∃ x : Later w, w' = x.val ∧ OwnI w' w.heap.size v l := h
theorem GivesM.at_ {f : FuncId} {args : Array Value} {w : World} {W H : Int} {l : List Int} (x : Later w) (h : GivesM f args x.val W H l) :
    Calls Tryd.prog f args x.val fun e w' => ∃ v, e = .returned (.agg #[.int .i64 W, .int .i64 H, v]) ∧ ∃ y : Later w, w' = y.val ∧ OwnI w' x.val.heap.size v l :=
  Calls.mono h fun _ w' ⟨v, he, y, hy, ho⟩ => ⟨v, he, ⟨w', by rw [hy]; exact below_more x.ok y.ok⟩, rfl, ho⟩
/-- .. and an error. -/
def GivesME (f : FuncId) (args : Array Value) (w : World) (W H : Int) (l : List Int) (E : Int) : Prop :=
  Calls Tryd.prog f args w (PostME w W H l E)
theorem GivesME.calls {f : FuncId} {args : Array Value} {w : World} {W H E : Int} {l : List Int} (h : GivesME f args w W H l E) :
    Calls Tryd.prog f args w fun e w' => ∃ v, e = .returned (.tuple #[.agg #[.int .i64 W, .int .i64 H, v], .int .i64 E]) ∧ ∃ x : Later w, w' = x.val ∧ OwnI w' w.heap.size v l := h
theorem GivesME.at_ {f : FuncId} {args : Array Value} {w : World} {W H E : Int} {l : List Int} (x : Later w) (h : GivesME f args x.val W H l E) :
    Calls Tryd.prog f args x.val fun e w' => ∃ v, e = .returned (.tuple #[.agg #[.int .i64 W, .int .i64 H, v], .int .i64 E]) ∧ ∃ y : Later w, w' = y.val ∧ OwnI w' x.val.heap.size v l :=
  Calls.mono h fun _ w' ⟨v, he, y, hy, ho⟩ => ⟨v, he, ⟨w', by rw [hy]; exact below_more x.ok y.ok⟩, rfl, ho⟩

/-- A struct of three cells is written. -/
theorem put3 {w : World} {b : Nat} {u0 u1 u2 v0 v1 v2 : Value} {t : TypeId} (h : w.heap[b]? = some (.cells #[u0, u1, u2] t (0, 0))) :
    (((w.setCell ⟨b, 0, none⟩ v0).setCell ⟨b, 1, none⟩ v1).setCell ⟨b, 2, none⟩ v2).heap[b]? = some (.cells #[v0, v1, v2] t (0, 0)) := by
  simp [World.setCell, Array.getElem?_modify, h]
theorem cells3 {w : World} {b : Nat} {u0 u1 u2 : Value} {t : TypeId} (h : w.heap[b]? = some (.cells #[u0, u1, u2] t (0, 0))) :
    (w.cell? ⟨b, 0, none⟩ = some u0 ∧ w.cell? ⟨b, 1, none⟩ = some u1 ∧ w.cell? ⟨b, 2, none⟩ = some u2) ∧ w.frozen? ⟨b, 0, none⟩ = false ∧ w.frozen? ⟨b, 1, none⟩ = false ∧ w.frozen? ⟨b, 2, none⟩ = false :=
  ⟨⟨cell_of_heap h 0 _ rfl, cell_of_heap h 1 _ rfl, cell_of_heap h 2 _ rfl⟩, by simp [World.frozen?, h], by simp [World.frozen?, h], by simp [World.frozen?, h]⟩
theorem below_put3 {w w1 : World} {b : Nat} {v0 v1 v2 : Value} (h : Below w.heap.size w w1) (hb : w.heap.size ≤ b) : Below w.heap.size w (((w1.setCell ⟨b, 0, none⟩ v0).setCell ⟨b, 1, none⟩ v1).setCell ⟨b, 2, none⟩ v2) := below_set (below_set (below_set h hb) hb) hb
theorem own_put3 {w : World} {base b : Nat} {v v0 v1 v2 : Value} {l : List Int} (h : OwnI w base v l) (hb : ∀ g, v.ownBlock = some g → b ≠ g) : OwnI (((w.setCell ⟨b, 0, none⟩ v0).setCell ⟨b, 1, none⟩ v1).setCell ⟨b, 2, none⟩ v2) base v l := ((h.far (p := ⟨b, 0, none⟩) hb).far (p := ⟨b, 1, none⟩) hb).far (p := ⟨b, 2, none⟩) hb
/-- The first k squares are drawn. -/
def drawn (n k : Nat) (kf : Nat → Int) : List Int := (List.range n).map fun i => if i < k then kf i else 0
theorem drawn_length (n k : Nat) (kf : Nat → Int) : (drawn n k kf).length = n := by simp [drawn]
theorem drawn_zero (n : Nat) (kf : Nat → Int) : drawn n 0 kf = List.replicate n 0 := by
  apply List.ext_getElem <;> simp [drawn]
theorem drawn_all (n : Nat) (kf : Nat → Int) : drawn n n kf = (List.range n).map kf := by
  unfold drawn
  apply List.map_congr_left
  intro i hi
  rw [if_pos (List.mem_range.1 hi)]
theorem drawn_step {n k : Nat} (hk : k < n) (kf : Nat → Int) : drawn n (k + 1) kf = (drawn n k kf).set k (kf k) := by
  apply List.ext_getElem?
  intro i
  rw [List.getElem?_set]
  unfold drawn
  rcases Nat.lt_or_ge i n with h | h
  · by_cases e : k = i
    · subst e; simp [h]
    · rw [if_neg e]
      have : (i < k + 1) = (i < k) := by rw [eq_iff_iff]; omega
      simp [h, this]
  · rw [if_neg (by omega)]; simp [h]

set_option maxRecDepth 100000 in
set_option maxHeartbeats 3200000 in
theorem draw_turn (a c bm : Nat) (kf : Nat → Int) (w : World) (h1 : 1 ≤ a) (ha : a ≤ 30) (hc : c ≤ 30)
    (K : ∀ (x : Later w) (i : Nat), i < a * c → Gives Tryd.prog 88 #[.int .i64 ((i : Int) % (a : Int)), .int .i64 ((i : Int) / (a : Int)), .pointer (some ⟨bm, 0, none⟩)] x.val (.int .i64 (kf i))) :
    GivesM 83 #[.int .i64 a, .int .i64 c, .func (.func 88) #[] #[.pointer (some ⟨bm, 0, none⟩)]] w a c ((List.range (a * c)).map kf) := by
  obtain ⟨n, hn⟩ : ∃ n, a * c = n := ⟨_, rfl⟩
  rw [hn] at K ⊢
  have hmul : (a : Int) * (c : Int) = (n : Int) := by rw [← hn, Int.natCast_mul]
  have hn9 : n ≤ 900 := by rw [← hn]; exact Nat.mul_le_mul ha hc
  have HK := Lib.hid K
  have HM := Lib.hid hmul
  have hmb : (a : Int) * (c : Int) ≤ 900 := by omega
  have hm0 : 0 ≤ (a : Int) * (c : Int) := by omega
  have MK : ∀ w', (Instr.makeSlice 22 (.int .i64 ((a : Int) * (c : Int))) (.int .i64 ((a : Int) * (c : Int)))).run Tryd.prog w' = .ok (.slice (some ⟨w'.heap.size, 0, none⟩) n n) (w'.alloc (.cells (madeCells #[Value.int .i64 0] n) 3)) := fun w' => by rw [hmul]; exact make_ints w' n (by omega)
  have P0 := Lib.hid (drawn_zero n kf)
  have P1 := Lib.hid (drawn_all n kf)
  have P2 := Lib.hid (fun k (hk : k < n) => drawn_step hk kf)
  clear K hmul hn
  go_enter Tryd.func83, Tryd.ntmps83
  go_wp2
  go_loopw [19] (fun v wr => ∃ k : Nat, k ≤ n ∧ v = .int .i64 k ∧ ∃ x : Later w, wr = x.val ∧ OwnI wr (w.heap.size + 1) (.slice (some ⟨w.heap.size + 1, 0, none⟩) n n) (drawn n k kf) ∧ wr.heap[w.heap.size]? = some (.cells #[.int .i64 0, .int .i64 0, .slice none 0 0] 24) ∧ wr.heap[w.heap.size + 1 + 1]? = some (.cells #[.int .i64 a, .int .i64 c, .slice (some ⟨w.heap.size + 1, 0, none⟩) n n] 24)) (fun v _ => n - (intOf v).toNat)
  case atStart =>
    refine ⟨0, by omega, rfl, ⟨_, (by repeat (first | exact Below.refl _ _ | (with_reducible assumption) | apply below_later | apply below_alloc | apply below_drew | apply below_drewN))⟩, rfl, ?_, ?_, ?_⟩
    · rw [P0.out]
      have := made_own (w.alloc (.cells #[.int .i64 0, .int .i64 0, .slice none 0 0] 24)) n (w.heap.size + 1) (by simp) (by omega)
      rw [World.size_alloc] at this
      exact this.alloc _
    · rw [Below.heap_alloc _ _ _ (by simp; omega), Below.heap_alloc _ _ _ (by simp)]; exact World.alloc_heap_new w _
    · have := World.alloc_heap_new ((w.alloc (.cells #[.int .i64 0, .int .i64 0, .slice none 0 0] 24)).alloc (.cells (madeCells #[Value.int .i64 0] n) 3)) (.cells #[.int .i64 a, .int .i64 c, .slice (some ⟨w.heap.size + 1, 0, none⟩) n n] 24)
      simp only [World.size_alloc] at this
      exact this
  case round =>
    obtain ⟨k, hk, rfl, x, rfl, ho, g1, g2⟩ := hrel
    have c0 : x.val.cell? ⟨w.heap.size + 1 + 1, 0, none⟩ = some (.int .i64 a) := cell_of_heap g2 0 _ rfl
    have c1 : x.val.cell? ⟨w.heap.size + 1 + 1, 1, none⟩ = some (.int .i64 c) := cell_of_heap g2 1 _ rfl
    have c2 : x.val.cell? ⟨w.heap.size + 1 + 1, 2, none⟩ = some (.slice (some ⟨w.heap.size + 1, 0, none⟩) n n) := cell_of_heap g2 2 _ rfl
    have l2 : w.heap.size + 1 + 1 < x.val.heap.size := (Array.getElem?_eq_some_iff.1 g2).1
    have l0 : w.heap.size < x.val.heap.size := by omega
    have l1 : w.heap.size + 1 < x.val.heap.size := by omega
    have HO := Lib.hid ho
    have G1 := Lib.hid g1
    have G2 := Lib.hid g2
    clear ho g1 g2
    by_cases hlt : k < n
    · have hlt' : (k : Int) < (a : Int) * (c : Int) := by rw [HM.out]; omega
      have b1 : (k : Int) % (a : Int) < 30 := by have := Int.emod_lt_of_pos (k : Int) (show (0 : Int) < a by omega); omega
      have b2 : 0 ≤ (k : Int) % (a : Int) := Int.emod_nonneg _ (by omega)
      have b3 : (k : Int) / (a : Int) < 900 := by have := Int.ediv_le_self (a : Int) (show 0 ≤ (k : Int) by omega); omega
      have b4 : 0 ≤ (k : Int) / (a : Int) := Int.ediv_nonneg (by omega) (by omega)
      obtain ⟨_, fz⟩ := HO.out.cell (drawn_length n k kf) hlt
      have fz0 := fz k
      clear fz
      go_wp2_with fail
      refine wp_region_tail 0 12 (by kernel_rfl) (by kernel_rfl) ?_
      simp only [List.take_succ_cons, List.take_zero, List.drop_succ_cons, List.drop_zero]
      repeat (go_big_quiet_step ((go_at_call 88; (with_reducible refine Later.call _ (HK.out ⟨_, by repeat (first | exact Below.refl _ _ | (with_reducible assumption) | apply below_later | apply below_alloc | apply below_drew | apply below_drewN)⟩ k hlt)))))
      refine wpQuiet_nil ?_
      intro y
      have yo := HO.out.later y
      have y1 := (y.ok.block _ l0).trans G1.out
      have y2 := (y.ok.block _ l2).trans G2.out
      have yf := (y.frozen (w.heap.size + 1) k l1).trans fz0
      have YO := Lib.hid yo
      have Y1 := Lib.hid y1
      have Y2 := Lib.hid y2
      clear yo y1 y2
      go_wp2
      refine calm_normal ?_
      go_wp2
      go_roundw
      case rel =>
        refine ⟨k + 1, by omega, by go_num, ⟨_, below_set (below_later (below_later (Below.refl _ _))) (by simp)⟩, rfl, ?_, ?_, ?_⟩
        · rw [P2.out k hlt]
          exact YO.out.set (drawn_length n k kf) k _
        · exact (Below.heap_setCell _ _ _ _ (by simp)).trans Y1.out
        · exact (Below.heap_setCell _ _ _ _ (by simp)).trans Y2.out
      case measure => simp [intOf]; omega
    · obtain rfl : k = n := by omega
      have hlt' : ¬ (k : Int) < (a : Int) * (c : Int) := by rw [HM.out]; omega
      have fz0 : ∀ j, x.val.frozen? ⟨w.heap.size, j, none⟩ = false := fun j => by simp [World.frozen?, G1.out]
      have e0 : x.val.cell? ⟨w.heap.size, 0, none⟩ = some (.int .i64 0) := cell_of_heap G1.out 0 _ rfl
      have e1 : x.val.cell? ⟨w.heap.size, 1, none⟩ = some (.int .i64 0) := cell_of_heap G1.out 1 _ rfl
      have e2 : x.val.cell? ⟨w.heap.size, 2, none⟩ = some (.slice none 0 0) := cell_of_heap G1.out 2 _ rfl
      have f0 := fz0 0
      have f1 := fz0 1
      have f2 := fz0 2
      clear fz0
      go_wp2
      have k3 := put3 (v0 := .int .i64 a) (v1 := .int .i64 c) (v2 := .slice (some ⟨w.heap.size + 1, 0, none⟩) k k) G1.out
      have r0 := cell_of_heap k3 0 _ rfl
      have r1 := cell_of_heap k3 1 _ rfl
      have r2 := cell_of_heap k3 2 _ rfl
      refine bodyPost_ret (v := .agg #[.int .i64 a, .int .i64 c, .slice (some ⟨w.heap.size + 1, 0, none⟩) k k]) (by simp [results, Tryd.results83, go_sem, r0, r1, r2]) rfl ?_
      refine ⟨_, rfl, ⟨_, below_put3 x.ok (Nat.le_refl _)⟩, rfl, ?_⟩
      rw [← P1.out]
      exact own_put3 (HO.out.mono (by omega)) (fun g hg => by simp [Value.ownBlock] at hg; omega)
set_option maxRecDepth 100000 in
set_option maxHeartbeats 3200000 in
theorem draw_flip (a c bm : Nat) (kf : Nat → Int) (w : World) (h1 : 1 ≤ a) (ha : a ≤ 30) (hc : c ≤ 30)
    (K : ∀ (x : Later w) (i : Nat), i < a * c → Gives Tryd.prog 87 #[.int .i64 ((i : Int) % (a : Int)), .int .i64 ((i : Int) / (a : Int)), .pointer (some ⟨bm, 0, none⟩)] x.val (.int .i64 (kf i))) :
    GivesM 83 #[.int .i64 a, .int .i64 c, .func (.func 87) #[] #[.pointer (some ⟨bm, 0, none⟩)]] w a c ((List.range (a * c)).map kf) := by
  obtain ⟨n, hn⟩ : ∃ n, a * c = n := ⟨_, rfl⟩
  rw [hn] at K ⊢
  have hmul : (a : Int) * (c : Int) = (n : Int) := by rw [← hn, Int.natCast_mul]
  have hn9 : n ≤ 900 := by rw [← hn]; exact Nat.mul_le_mul ha hc
  have HK := Lib.hid K
  have HM := Lib.hid hmul
  have hmb : (a : Int) * (c : Int) ≤ 900 := by omega
  have hm0 : 0 ≤ (a : Int) * (c : Int) := by omega
  have MK : ∀ w', (Instr.makeSlice 22 (.int .i64 ((a : Int) * (c : Int))) (.int .i64 ((a : Int) * (c : Int)))).run Tryd.prog w' = .ok (.slice (some ⟨w'.heap.size, 0, none⟩) n n) (w'.alloc (.cells (madeCells #[Value.int .i64 0] n) 3)) := fun w' => by rw [hmul]; exact make_ints w' n (by omega)
  have P0 := Lib.hid (drawn_zero n kf)
  have P1 := Lib.hid (drawn_all n kf)
  have P2 := Lib.hid (fun k (hk : k < n) => drawn_step hk kf)
  clear K hmul hn
  go_enter Tryd.func83, Tryd.ntmps83
  go_wp2
  go_loopw [19] (fun v wr => ∃ k : Nat, k ≤ n ∧ v = .int .i64 k ∧ ∃ x : Later w, wr = x.val ∧ OwnI wr (w.heap.size + 1) (.slice (some ⟨w.heap.size + 1, 0, none⟩) n n) (drawn n k kf) ∧ wr.heap[w.heap.size]? = some (.cells #[.int .i64 0, .int .i64 0, .slice none 0 0] 24) ∧ wr.heap[w.heap.size + 1 + 1]? = some (.cells #[.int .i64 a, .int .i64 c, .slice (some ⟨w.heap.size + 1, 0, none⟩) n n] 24)) (fun v _ => n - (intOf v).toNat)
  case atStart =>
    refine ⟨0, by omega, rfl, ⟨_, (by repeat (first | exact Below.refl _ _ | (with_reducible assumption) | apply below_later | apply below_alloc | apply below_drew | apply below_drewN))⟩, rfl, ?_, ?_, ?_⟩
    · rw [P0.out]
      have := made_own (w.alloc (.cells #[.int .i64 0, .int .i64 0, .slice none 0 0] 24)) n (w.heap.size + 1) (by simp) (by omega)
      rw [World.size_alloc] at this
      exact this.alloc _
    · rw [Below.heap_alloc _ _ _ (by simp; omega), Below.heap_alloc _ _ _ (by simp)]; exact World.alloc_heap_new w _
    · have := World.alloc_heap_new ((w.alloc (.cells #[.int .i64 0, .int .i64 0, .slice none 0 0] 24)).alloc (.cells (madeCells #[Value.int .i64 0] n) 3)) (.cells #[.int .i64 a, .int .i64 c, .slice (some ⟨w.heap.size + 1, 0, none⟩) n n] 24)
      simp only [World.size_alloc] at this
      exact this
  case round =>
    obtain ⟨k, hk, rfl, x, rfl, ho, g1, g2⟩ := hrel
    have c0 : x.val.cell? ⟨w.heap.size + 1 + 1, 0, none⟩ = some (.int .i64 a) := cell_of_heap g2 0 _ rfl
    have c1 : x.val.cell? ⟨w.heap.size + 1 + 1, 1, none⟩ = some (.int .i64 c) := cell_of_heap g2 1 _ rfl
    have c2 : x.val.cell? ⟨w.heap.size + 1 + 1, 2, none⟩ = some (.slice (some ⟨w.heap.size + 1, 0, none⟩) n n) := cell_of_heap g2 2 _ rfl
    have l2 : w.heap.size + 1 + 1 < x.val.heap.size := (Array.getElem?_eq_some_iff.1 g2).1
    have l0 : w.heap.size < x.val.heap.size := by omega
    have l1 : w.heap.size + 1 < x.val.heap.size := by omega
    have HO := Lib.hid ho
    have G1 := Lib.hid g1
    have G2 := Lib.hid g2
    clear ho g1 g2
    by_cases hlt : k < n
    · have hlt' : (k : Int) < (a : Int) * (c : Int) := by rw [HM.out]; omega
      have b1 : (k : Int) % (a : Int) < 30 := by have := Int.emod_lt_of_pos (k : Int) (show (0 : Int) < a by omega); omega
      have b2 : 0 ≤ (k : Int) % (a : Int) := Int.emod_nonneg _ (by omega)
      have b3 : (k : Int) / (a : Int) < 900 := by have := Int.ediv_le_self (a : Int) (show 0 ≤ (k : Int) by omega); omega
      have b4 : 0 ≤ (k : Int) / (a : Int) := Int.ediv_nonneg (by omega) (by omega)
      obtain ⟨_, fz⟩ := HO.out.cell (drawn_length n k kf) hlt
      have fz0 := fz k
      clear fz
      go_wp2_with fail
      refine wp_region_tail 0 12 (by kernel_rfl) (by kernel_rfl) ?_
      simp only [List.take_succ_cons, List.take_zero, List.drop_succ_cons, List.drop_zero]
      repeat (go_big_quiet_step ((go_at_call 87; (with_reducible refine Later.call _ (HK.out ⟨_, by repeat (first | exact Below.refl _ _ | (with_reducible assumption) | apply below_later | apply below_alloc | apply below_drew | apply below_drewN)⟩ k hlt)))))
      refine wpQuiet_nil ?_
      intro y
      have yo := HO.out.later y
      have y1 := (y.ok.block _ l0).trans G1.out
      have y2 := (y.ok.block _ l2).trans G2.out
      have yf := (y.frozen (w.heap.size + 1) k l1).trans fz0
      have YO := Lib.hid yo
      have Y1 := Lib.hid y1
      have Y2 := Lib.hid y2
      clear yo y1 y2
      go_wp2
      refine calm_normal ?_
      go_wp2
      go_roundw
      case rel =>
        refine ⟨k + 1, by omega, by go_num, ⟨_, below_set (below_later (below_later (Below.refl _ _))) (by simp)⟩, rfl, ?_, ?_, ?_⟩
        · rw [P2.out k hlt]
          exact YO.out.set (drawn_length n k kf) k _
        · exact (Below.heap_setCell _ _ _ _ (by simp)).trans Y1.out
        · exact (Below.heap_setCell _ _ _ _ (by simp)).trans Y2.out
      case measure => simp [intOf]; omega
    · obtain rfl : k = n := by omega
      have hlt' : ¬ (k : Int) < (a : Int) * (c : Int) := by rw [HM.out]; omega
      have fz0 : ∀ j, x.val.frozen? ⟨w.heap.size, j, none⟩ = false := fun j => by simp [World.frozen?, G1.out]
      have e0 : x.val.cell? ⟨w.heap.size, 0, none⟩ = some (.int .i64 0) := cell_of_heap G1.out 0 _ rfl
      have e1 : x.val.cell? ⟨w.heap.size, 1, none⟩ = some (.int .i64 0) := cell_of_heap G1.out 1 _ rfl
      have e2 : x.val.cell? ⟨w.heap.size, 2, none⟩ = some (.slice none 0 0) := cell_of_heap G1.out 2 _ rfl
      have f0 := fz0 0
      have f1 := fz0 1
      have f2 := fz0 2
      clear fz0
      go_wp2
      have k3 := put3 (v0 := .int .i64 a) (v1 := .int .i64 c) (v2 := .slice (some ⟨w.heap.size + 1, 0, none⟩) k k) G1.out
      have r0 := cell_of_heap k3 0 _ rfl
      have r1 := cell_of_heap k3 1 _ rfl
      have r2 := cell_of_heap k3 2 _ rfl
      refine bodyPost_ret (v := .agg #[.int .i64 a, .int .i64 c, .slice (some ⟨w.heap.size + 1, 0, none⟩) k k]) (by simp [results, Tryd.results83, go_sem, r0, r1, r2]) rfl ?_
      refine ⟨_, rfl, ⟨_, below_put3 x.ok (Nat.le_refl _)⟩, rfl, ?_⟩
      rw [← P1.out]
      exact own_put3 (HO.out.mono (by omega)) (fun g hg => by simp [Value.ownBlock] at hg; omega)
set_option maxRecDepth 100000 in
set_option maxHeartbeats 3200000 in
theorem draw_spread (a c bm : Nat) (kf : Nat → Int) (w : World) (h1 : 1 ≤ a) (ha : a ≤ 30) (hc : c ≤ 30)
    (K : ∀ (x : Later w) (i : Nat), i < a * c → Gives Tryd.prog 84 #[.int .i64 ((i : Int) % (a : Int)), .int .i64 ((i : Int) / (a : Int)), .pointer (some ⟨bm, 0, none⟩)] x.val (.int .i64 (kf i))) :
    GivesM 83 #[.int .i64 a, .int .i64 c, .func (.func 84) #[] #[.pointer (some ⟨bm, 0, none⟩)]] w a c ((List.range (a * c)).map kf) := by
  obtain ⟨n, hn⟩ : ∃ n, a * c = n := ⟨_, rfl⟩
  rw [hn] at K ⊢
  have hmul : (a : Int) * (c : Int) = (n : Int) := by rw [← hn, Int.natCast_mul]
  have hn9 : n ≤ 900 := by rw [← hn]; exact Nat.mul_le_mul ha hc
  have HK := Lib.hid K
  have HM := Lib.hid hmul
  have hmb : (a : Int) * (c : Int) ≤ 900 := by omega
  have hm0 : 0 ≤ (a : Int) * (c : Int) := by omega
  have MK : ∀ w', (Instr.makeSlice 22 (.int .i64 ((a : Int) * (c : Int))) (.int .i64 ((a : Int) * (c : Int)))).run Tryd.prog w' = .ok (.slice (some ⟨w'.heap.size, 0, none⟩) n n) (w'.alloc (.cells (madeCells #[Value.int .i64 0] n) 3)) := fun w' => by rw [hmul]; exact make_ints w' n (by omega)
  have P0 := Lib.hid (drawn_zero n kf)
  have P1 := Lib.hid (drawn_all n kf)
  have P2 := Lib.hid (fun k (hk : k < n) => drawn_step hk kf)
  clear K hmul hn
  go_enter Tryd.func83, Tryd.ntmps83
  go_wp2
  go_loopw [19] (fun v wr => ∃ k : Nat, k ≤ n ∧ v = .int .i64 k ∧ ∃ x : Later w, wr = x.val ∧ OwnI wr (w.heap.size + 1) (.slice (some ⟨w.heap.size + 1, 0, none⟩) n n) (drawn n k kf) ∧ wr.heap[w.heap.size]? = some (.cells #[.int .i64 0, .int .i64 0, .slice none 0 0] 24) ∧ wr.heap[w.heap.size + 1 + 1]? = some (.cells #[.int .i64 a, .int .i64 c, .slice (some ⟨w.heap.size + 1, 0, none⟩) n n] 24)) (fun v _ => n - (intOf v).toNat)
  case atStart =>
    refine ⟨0, by omega, rfl, ⟨_, (by repeat (first | exact Below.refl _ _ | (with_reducible assumption) | apply below_later | apply below_alloc | apply below_drew | apply below_drewN))⟩, rfl, ?_, ?_, ?_⟩
    · rw [P0.out]
      have := made_own (w.alloc (.cells #[.int .i64 0, .int .i64 0, .slice none 0 0] 24)) n (w.heap.size + 1) (by simp) (by omega)
      rw [World.size_alloc] at this
      exact this.alloc _
    · rw [Below.heap_alloc _ _ _ (by simp; omega), Below.heap_alloc _ _ _ (by simp)]; exact World.alloc_heap_new w _
    · have := World.alloc_heap_new ((w.alloc (.cells #[.int .i64 0, .int .i64 0, .slice none 0 0] 24)).alloc (.cells (madeCells #[Value.int .i64 0] n) 3)) (.cells #[.int .i64 a, .int .i64 c, .slice (some ⟨w.heap.size + 1, 0, none⟩) n n] 24)
      simp only [World.size_alloc] at this
      exact this
  case round =>
    obtain ⟨k, hk, rfl, x, rfl, ho, g1, g2⟩ := hrel
    have c0 : x.val.cell? ⟨w.heap.size + 1 + 1, 0, none⟩ = some (.int .i64 a) := cell_of_heap g2 0 _ rfl
    have c1 : x.val.cell? ⟨w.heap.size + 1 + 1, 1, none⟩ = some (.int .i64 c) := cell_of_heap g2 1 _ rfl
    have c2 : x.val.cell? ⟨w.heap.size + 1 + 1, 2, none⟩ = some (.slice (some ⟨w.heap.size + 1, 0, none⟩) n n) := cell_of_heap g2 2 _ rfl
    have l2 : w.heap.size + 1 + 1 < x.val.heap.size := (Array.getElem?_eq_some_iff.1 g2).1
    have l0 : w.heap.size < x.val.heap.size := by omega
    have l1 : w.heap.size + 1 < x.val.heap.size := by omega
    have HO := Lib.hid ho
    have G1 := Lib.hid g1
    have G2 := Lib.hid g2
    clear ho g1 g2
    by_cases hlt : k < n
    · have hlt' : (k : Int) < (a : Int) * (c : Int) := by rw [HM.out]; omega
      have b1 : (k : Int) % (a : Int) < 30 := by have := Int.emod_lt_of_pos (k : Int) (show (0 : Int) < a by omega); omega
      have b2 : 0 ≤ (k : Int) % (a : Int) := Int.emod_nonneg _ (by omega)
      have b3 : (k : Int) / (a : Int) < 900 := by have := Int.ediv_le_self (a : Int) (show 0 ≤ (k : Int) by omega); omega
      have b4 : 0 ≤ (k : Int) / (a : Int) := Int.ediv_nonneg (by omega) (by omega)
      obtain ⟨_, fz⟩ := HO.out.cell (drawn_length n k kf) hlt
      have fz0 := fz k
      clear fz
      go_wp2_with fail
      refine wp_region_tail 0 12 (by kernel_rfl) (by kernel_rfl) ?_
      simp only [List.take_succ_cons, List.take_zero, List.drop_succ_cons, List.drop_zero]
      repeat (go_big_quiet_step ((go_at_call 84; (with_reducible refine Later.call _ (HK.out ⟨_, by repeat (first | exact Below.refl _ _ | (with_reducible assumption) | apply below_later | apply below_alloc | apply below_drew | apply below_drewN)⟩ k hlt)))))
      refine wpQuiet_nil ?_
      intro y
      have yo := HO.out.later y
      have y1 := (y.ok.block _ l0).trans G1.out
      have y2 := (y.ok.block _ l2).trans G2.out
      have yf := (y.frozen (w.heap.size + 1) k l1).trans fz0
      have YO := Lib.hid yo
      have Y1 := Lib.hid y1
      have Y2 := Lib.hid y2
      clear yo y1 y2
      go_wp2
      refine calm_normal ?_
      go_wp2
      go_roundw
      case rel =>
        refine ⟨k + 1, by omega, by go_num, ⟨_, below_set (below_later (below_later (Below.refl _ _))) (by simp)⟩, rfl, ?_, ?_, ?_⟩
        · rw [P2.out k hlt]
          exact YO.out.set (drawn_length n k kf) k _
        · exact (Below.heap_setCell _ _ _ _ (by simp)).trans Y1.out
        · exact (Below.heap_setCell _ _ _ _ (by simp)).trans Y2.out
      case measure => simp [intOf]; omega
    · obtain rfl : k = n := by omega
      have hlt' : ¬ (k : Int) < (a : Int) * (c : Int) := by rw [HM.out]; omega
      have fz0 : ∀ j, x.val.frozen? ⟨w.heap.size, j, none⟩ = false := fun j => by simp [World.frozen?, G1.out]
      have e0 : x.val.cell? ⟨w.heap.size, 0, none⟩ = some (.int .i64 0) := cell_of_heap G1.out 0 _ rfl
      have e1 : x.val.cell? ⟨w.heap.size, 1, none⟩ = some (.int .i64 0) := cell_of_heap G1.out 1 _ rfl
      have e2 : x.val.cell? ⟨w.heap.size, 2, none⟩ = some (.slice none 0 0) := cell_of_heap G1.out 2 _ rfl
      have f0 := fz0 0
      have f1 := fz0 1
      have f2 := fz0 2
      clear fz0
      go_wp2
      have k3 := put3 (v0 := .int .i64 a) (v1 := .int .i64 c) (v2 := .slice (some ⟨w.heap.size + 1, 0, none⟩) k k) G1.out
      have r0 := cell_of_heap k3 0 _ rfl
      have r1 := cell_of_heap k3 1 _ rfl
      have r2 := cell_of_heap k3 2 _ rfl
      refine bodyPost_ret (v := .agg #[.int .i64 a, .int .i64 c, .slice (some ⟨w.heap.size + 1, 0, none⟩) k k]) (by simp [results, Tryd.results83, go_sem, r0, r1, r2]) rfl ?_
      refine ⟨_, rfl, ⟨_, below_put3 x.ok (Nat.le_refl _)⟩, rfl, ?_⟩
      rw [← P1.out]
      exact own_put3 (HO.out.mono (by omega)) (fun g hg => by simp [Value.ownBlock] at hg; omega)
set_option maxRecDepth 100000 in
set_option maxHeartbeats 3200000 in
theorem draw_mow (a c bm : Nat) (kf : Nat → Int) (w : World) (h1 : 1 ≤ a) (ha : a ≤ 30) (hc : c ≤ 30)
    (K : ∀ (x : Later w) (i : Nat), i < a * c → Gives Tryd.prog 86 #[.int .i64 ((i : Int) % (a : Int)), .int .i64 ((i : Int) / (a : Int)), .pointer (some ⟨bm, 0, none⟩)] x.val (.int .i64 (kf i))) :
    GivesM 83 #[.int .i64 a, .int .i64 c, .func (.func 86) #[] #[.pointer (some ⟨bm, 0, none⟩)]] w a c ((List.range (a * c)).map kf) := by
  obtain ⟨n, hn⟩ : ∃ n, a * c = n := ⟨_, rfl⟩
  rw [hn] at K ⊢
  have hmul : (a : Int) * (c : Int) = (n : Int) := by rw [← hn, Int.natCast_mul]
  have hn9 : n ≤ 900 := by rw [← hn]; exact Nat.mul_le_mul ha hc
  have HK := Lib.hid K
  have HM := Lib.hid hmul
  have hmb : (a : Int) * (c : Int) ≤ 900 := by omega
  have hm0 : 0 ≤ (a : Int) * (c : Int) := by omega
  have MK : ∀ w', (Instr.makeSlice 22 (.int .i64 ((a : Int) * (c : Int))) (.int .i64 ((a : Int) * (c : Int)))).run Tryd.prog w' = .ok (.slice (some ⟨w'.heap.size, 0, none⟩) n n) (w'.alloc (.cells (madeCells #[Value.int .i64 0] n) 3)) := fun w' => by rw [hmul]; exact make_ints w' n (by omega)
  have P0 := Lib.hid (drawn_zero n kf)
  have P1 := Lib.hid (drawn_all n kf)
  have P2 := Lib.hid (fun k (hk : k < n) => drawn_step hk kf)
  clear K hmul hn
  go_enter Tryd.func83, Tryd.ntmps83
  go_wp2
  go_loopw [19] (fun v wr => ∃ k : Nat, k ≤ n ∧ v = .int .i64 k ∧ ∃ x : Later w, wr = x.val ∧ OwnI wr (w.heap.size + 1) (.slice (some ⟨w.heap.size + 1, 0, none⟩) n n) (drawn n k kf) ∧ wr.heap[w.heap.size]? = some (.cells #[.int .i64 0, .int .i64 0, .slice none 0 0] 24) ∧ wr.heap[w.heap.size + 1 + 1]? = some (.cells #[.int .i64 a, .int .i64 c, .slice (some ⟨w.heap.size + 1, 0, none⟩) n n] 24)) (fun v _ => n - (intOf v).toNat)
  case atStart =>
    refine ⟨0, by omega, rfl, ⟨_, (by repeat (first | exact Below.refl _ _ | (with_reducible assumption) | apply below_later | apply below_alloc | apply below_drew | apply below_drewN))⟩, rfl, ?_, ?_, ?_⟩
    · rw [P0.out]
      have := made_own (w.alloc (.cells #[.int .i64 0, .int .i64 0, .slice none 0 0] 24)) n (w.heap.size + 1) (by simp) (by omega)
      rw [World.size_alloc] at this
      exact this.alloc _
    · rw [Below.heap_alloc _ _ _ (by simp; omega), Below.heap_alloc _ _ _ (by simp)]; exact World.alloc_heap_new w _
    · have := World.alloc_heap_new ((w.alloc (.cells #[.int .i64 0, .int .i64 0, .slice none 0 0] 24)).alloc (.cells (madeCells #[Value.int .i64 0] n) 3)) (.cells #[.int .i64 a, .int .i64 c, .slice (some ⟨w.heap.size + 1, 0, none⟩) n n] 24)
      simp only [World.size_alloc] at this
      exact this
  case round =>
    obtain ⟨k, hk, rfl, x, rfl, ho, g1, g2⟩ := hrel
    have c0 : x.val.cell? ⟨w.heap.size + 1 + 1, 0, none⟩ = some (.int .i64 a) := cell_of_heap g2 0 _ rfl
    have c1 : x.val.cell? ⟨w.heap.size + 1 + 1, 1, none⟩ = some (.int .i64 c) := cell_of_heap g2 1 _ rfl
    have c2 : x.val.cell? ⟨w.heap.size + 1 + 1, 2, none⟩ = some (.slice (some ⟨w.heap.size + 1, 0, none⟩) n n) := cell_of_heap g2 2 _ rfl
    have l2 : w.heap.size + 1 + 1 < x.val.heap.size := (Array.getElem?_eq_some_iff.1 g2).1
    have l0 : w.heap.size < x.val.heap.size := by omega
    have l1 : w.heap.size + 1 < x.val.heap.size := by omega
    have HO := Lib.hid ho
    have G1 := Lib.hid g1
    have G2 := Lib.hid g2
    clear ho g1 g2
    by_cases hlt : k < n
    · have hlt' : (k : Int) < (a : Int) * (c : Int) := by rw [HM.out]; omega
      have b1 : (k : Int) % (a : Int) < 30 := by have := Int.emod_lt_of_pos (k : Int) (show (0 : Int) < a by omega); omega
      have b2 : 0 ≤ (k : Int) % (a : Int) := Int.emod_nonneg _ (by omega)
      have b3 : (k : Int) / (a : Int) < 900 := by have := Int.ediv_le_self (a : Int) (show 0 ≤ (k : Int) by omega); omega
      have b4 : 0 ≤ (k : Int) / (a : Int) := Int.ediv_nonneg (by omega) (by omega)
      obtain ⟨_, fz⟩ := HO.out.cell (drawn_length n k kf) hlt
      have fz0 := fz k
      clear fz
      go_wp2_with fail
      refine wp_region_tail 0 12 (by kernel_rfl) (by kernel_rfl) ?_
      simp only [List.take_succ_cons, List.take_zero, List.drop_succ_cons, List.drop_zero]
      repeat (go_big_quiet_step ((go_at_call 86; (with_reducible refine Later.call _ (HK.out ⟨_, by repeat (first | exact Below.refl _ _ | (with_reducible assumption) | apply below_later | apply below_alloc | apply below_drew | apply below_drewN)⟩ k hlt)))))
      refine wpQuiet_nil ?_
      intro y
      have yo := HO.out.later y
      have y1 := (y.ok.block _ l0).trans G1.out
      have y2 := (y.ok.block _ l2).trans G2.out
      have yf := (y.frozen (w.heap.size + 1) k l1).trans fz0
      have YO := Lib.hid yo
      have Y1 := Lib.hid y1
      have Y2 := Lib.hid y2
      clear yo y1 y2
      go_wp2
      refine calm_normal ?_
      go_wp2
      go_roundw
      case rel =>
        refine ⟨k + 1, by omega, by go_num, ⟨_, below_set (below_later (below_later (Below.refl _ _))) (by simp)⟩, rfl, ?_, ?_, ?_⟩
        · rw [P2.out k hlt]
          exact YO.out.set (drawn_length n k kf) k _
        · exact (Below.heap_setCell _ _ _ _ (by simp)).trans Y1.out
        · exact (Below.heap_setCell _ _ _ _ (by simp)).trans Y2.out
      case measure => simp [intOf]; omega
    · obtain rfl : k = n := by omega
      have hlt' : ¬ (k : Int) < (a : Int) * (c : Int) := by rw [HM.out]; omega
      have fz0 : ∀ j, x.val.frozen? ⟨w.heap.size, j, none⟩ = false := fun j => by simp [World.frozen?, G1.out]
      have e0 : x.val.cell? ⟨w.heap.size, 0, none⟩ = some (.int .i64 0) := cell_of_heap G1.out 0 _ rfl
      have e1 : x.val.cell? ⟨w.heap.size, 1, none⟩ = some (.int .i64 0) := cell_of_heap G1.out 1 _ rfl
      have e2 : x.val.cell? ⟨w.heap.size, 2, none⟩ = some (.slice none 0 0) := cell_of_heap G1.out 2 _ rfl
      have f0 := fz0 0
      have f1 := fz0 1
      have f2 := fz0 2
      clear fz0
      go_wp2
      have k3 := put3 (v0 := .int .i64 a) (v1 := .int .i64 c) (v2 := .slice (some ⟨w.heap.size + 1, 0, none⟩) k k) G1.out
      have r0 := cell_of_heap k3 0 _ rfl
      have r1 := cell_of_heap k3 1 _ rfl
      have r2 := cell_of_heap k3 2 _ rfl
      refine bodyPost_ret (v := .agg #[.int .i64 a, .int .i64 c, .slice (some ⟨w.heap.size + 1, 0, none⟩) k k]) (by simp [results, Tryd.results83, go_sem, r0, r1, r2]) rfl ?_
      refine ⟨_, rfl, ⟨_, below_put3 x.ok (Nat.le_refl _)⟩, rfl, ?_⟩
      rw [← P1.out]
      exact own_put3 (HO.out.mono (by omega)) (fun g hg => by simp [Value.ownBlock] at hg; omega)
end Go.Proofs.YtajfepogecakbaaDoor
