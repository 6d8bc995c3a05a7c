/- slices.Repeat at one number. -/
import Derived.Test.YtelfinjnbncnlaaOwnI
import Derived.Test.YtelfinjnbncnlaaTail
import Derived.Test.YtelfinjnbncnlaaShelf3
import Derived.Laws.CopyOwn
import Derived.Laws.CopyRow
import Derived.Lib.Builder
namespace Go.Proofs.Ytelfinjnbncnlaa
open Go.RowKit

/-- k times x, then zeros: n cells. -/
def rep (n k : Nat) (x : Int) : List Value := (List.range n).map fun i => if i < k then .int .i64 x else .int .i64 0
theorem rep_length (n k : Nat) (x : Int) : (rep n k x).length = n := by simp [rep]
theorem rep_get {n k i : Nat} {x : Int} (h : i < n) : (rep n k x)[i]? = some (if i < k then .int .i64 x else .int .i64 0) := by simp [rep, h]
theorem rep_zero (n : Nat) (x : Int) : rep n 0 x = cellsI (List.replicate n 0) := by
  apply List.ext_getElem <;> simp [rep, cellsI]
theorem rep_all (n : Nat) (x : Int) : rep n n x = cellsI (List.replicate n x) := by
  apply List.ext_getElem
  · simp [rep, cellsI]
  · intro i h1 h2
    have : i < n := by rw [rep_length] at h1; exact h1
    simp [rep, cellsI, this]
theorem rep_splice {n k m : Nat} {x : Int} (h : k + m ≤ n) : splice (rep n k x) k (List.replicate m (.int .i64 x)) = rep n (k + m) x := by
  apply List.ext_getElem?
  intro i
  unfold splice
  rw [List.length_replicate]
  rcases Nat.lt_or_ge i k with h1 | h1
  · rw [List.getElem?_append_left (by rw [List.length_take, rep_length]; omega), List.getElem?_take_of_lt h1, rep_get (by omega), rep_get (by omega), if_pos h1, if_pos (by omega)]
  · rw [List.getElem?_append_right (by rw [List.length_take, rep_length]; omega), List.length_take, rep_length, Nat.min_eq_left (by omega)]
    rcases Nat.lt_or_ge (i - k) m with h2 | h2
    · rw [List.getElem?_append_left (by rw [List.length_replicate]; exact h2), rep_get (by omega), if_pos (by omega)]
      simp [h2]
    · rw [List.getElem?_append_right (by rw [List.length_replicate]; exact h2), List.length_replicate, List.getElem?_drop]
      have e : k + m + (i - k - m) = i := by omega
      rw [e]
      rcases Nat.lt_or_ge i n with h3 | h3
      · rw [rep_get h3, rep_get h3, if_neg (by omega), if_neg (by omega)]
      · rw [List.getElem?_eq_none (by rw [rep_length]; exact h3), List.getElem?_eq_none (by rw [rep_length]; exact h3)]

theorem made_rep (w : World) (n : Nat) (x : Int) : (w.alloc (.cells (madeCells #[Value.int .i64 0] n) 3)).heap[w.heap.size]? = some (.cells (rep n 0 x).toArray 3 (0, 0)) := by
  rw [World.alloc_heap_new, rep_zero, ← madeI]
theorem size_int : (Try.prog.info? 3).map (·.size) = some 1 := by kernel_rfl

theorem src_one {w : World} {g o : Nat} {v : Option Value} (h : w.cell? ⟨g, o, none⟩ = v) : ∀ j, j < 1 → w.cell? ((⟨g, o, none⟩ : Addr).add j) = v := fun j hj => by
  obtain rfl : j = 0 := by omega
  simpa [Addr.add] using h
theorem copy_rep (w : World) (g k m n dl dc sl sc : Nat) (x : Int) (a : Addr) (hg : w.heap[g]? = some (.cells (rep n k x).toArray 3 (0, 0))) (hm : m = Nat.min sl dl) (hfit : k + m ≤ n) (hsrc : ∀ j, j < m → w.cell? (a.add j) = some (.int .i64 x)) :
    ∃ w', (Builtin.copy_ #[22, 22] 3 #[.slice (some ⟨g, k, none⟩) dl dc, .slice (some a) sl sc]).run Try.prog w = .ok (.int .i64 m) w' ∧ w'.heap[g]? = some (.cells (rep n (k + m) x).toArray 3 (0, 0)) ∧ Below g w w' := by
  have hr := run_copy_row (P := Try.prog) w 22 22 3 3 g k dl dc a sl sc (rep n k x).toArray 3 (List.replicate m (.int .i64 x)) Try.underlying22 size_int hg (by rw [List.length_replicate]; exact hm)
    (fun j v hj => by
      rw [List.getElem?_replicate] at hj
      split at hj
      · rename_i h; rw [← Option.some.inj hj]; exact hsrc j h
      · cases hj) (by rw [List.length_replicate, List.size_toArray, rep_length]; exact hfit) (fun u hu => by rw [List.eq_of_mem_replicate hu]; rfl)
  rw [List.length_replicate] at hr
  refine ⟨_, hr, ?_, below_setRow (Below.refl _ _) (Nat.le_refl _) _⟩
  have h2 := setRow_heap w g (rep n k x).toArray (((rep n k x).toArray.toList.take k ++ List.replicate m (Value.int .i64 x) ++ (rep n k x).toArray.toList.drop (k + m)).toArray) 3 _ hg
  rw [h2, ← rep_splice hfit]
  simp [splice]

set_option maxRecDepth 100000 in
set_option maxHeartbeats 1600000 in
theorem repeat_any (g0 o0 c0 n : Nat) (x : Int) (w : World) (h1 : 1 ≤ n) (hn : n ≤ 100000) (hc : w.cell? ⟨g0, o0, none⟩ = some (.int .i64 x)) :
    Calls Try.prog 36 #[.slice (some ⟨g0, o0, none⟩) 1 c0, .int .i64 n] w fun e w' => ∃ g, e = .returned (.slice (some ⟨g, 0, none⟩) n n) ∧ g = w.heap.size ∧ ∃ y : Later w, w' = y.val ∧ OwnI w' w.heap.size (.slice (some ⟨g, 0, none⟩) n n) (List.replicate n x) := by
  have lg := World.block_lt_of_cell? _ _ hc
  have BM : Hid (∀ w, Calls Try.prog 55 #[.int .u64 1, .int .u64 n] w fun e w' => e = .returned (.tuple #[.int .u64 0, .int .u64 n]) ∧ w' = w) := fun w => by
    have := Try.bits_Mul 1 n (by omega) (by omega) w
    rw [Nat.one_mul, Nat.div_eq_of_lt (by omega), Nat.mod_eq_of_lt (by omega)] at this
    exact this
  have MK : ∀ w', (Instr.makeSlice 22 (.int .i64 (n : Int)) (.int .i64 (n : Int))).run Try.prog w' = .ok (.slice (some ⟨w'.heap.size, 0, none⟩) n n) (w'.alloc (.cells (madeCells #[Value.int .i64 0] n) 3)) := fun w' => make_ints w' n (by omega)
  go_enter Try.func36, Try.ntmps36
  go_wp2_with (go_at_call 55; refine Calls.mono (BM.out _) ?_; rintro e w1 ⟨rfl, rfl⟩; obtain ⟨w2, hr, hg2, hb2⟩ := copy_rep (w1.alloc (.cells (madeCells #[Value.int .i64 0] n) 3)) w1.heap.size 0 1 n n n 1 c0 x ⟨g0, o0, none⟩ (made_rep w1 n x) (by show 1 = min 1 n; omega) (by omega) (src_one ((cell_alloc1 lg).trans hc)))
  have hg3 := Lib.hid hg2
  have hb3 := (show Below w1.heap.size w1 (w1.alloc (.cells (madeCells #[Value.int .i64 0] n) 3)) by repeat (first | exact Below.refl _ _ | (with_reducible assumption) | apply below_later | apply below_alloc | apply below_drew | apply below_drewN)).trans hb2
  clear hg2 hb2 hr
  go_loopw [8] (fun v wr => ∃ k : Nat, 1 ≤ k ∧ k ≤ n ∧ v = .int .i64 k ∧ wr.heap[w1.heap.size]? = some (.cells (rep n k x).toArray 3 (0, 0)) ∧ ∃ y : Later w1, wr = y.val) (fun v _ => n - (intOf v).toNat)
  case atStart => exact ⟨1, by omega, by omega, rfl, hg3.out, ⟨w2, hb3⟩, rfl⟩
  case round =>
    obtain ⟨k, hk1, hk, rfl, hg, y, rfl⟩ := hrel
    have HG := Lib.hid hg
    clear hg
    by_cases hlt : k < n
    · go_wp2_with fail
      refine wp_region_tail 1 7 (by kernel_rfl) (by kernel_rfl) ?_
      simp only [List.take_succ_cons, List.take_zero, List.drop_succ_cons, List.drop_zero]
      repeat (go_big_quiet_step ((fail)))
      refine wpQuiet_nil ?_
      intro z
      obtain ⟨w5, hr, hg5, hb5⟩ := copy_rep z.val w1.heap.size k (Nat.min k (n - k)) n (n - k) (n - k) k n x ⟨w1.heap.size, 0, none⟩ ((z.ok.block _ (Array.getElem?_eq_some_iff.1 HG.out).1).trans HG.out) rfl (by show k + min k (n - k) ≤ n; omega) (fun j hj => by
        have hj2 : j < k := Nat.lt_of_lt_of_le hj (Nat.min_le_left _ _)
        have c := Lib.cell_of_heap ((z.ok.block _ (Array.getElem?_eq_some_iff.1 HG.out).1).trans HG.out) j
        rw [List.getElem?_toArray, rep_get (by omega), if_pos hj2] at c
        unfold Addr.add
        split
        · rename_i h; subst h; exact c
        · simpa using c)
      have hmin : 1 ≤ Nat.min k (n - k) ∧ Nat.min k (n - k) ≤ n - k := by show 1 ≤ min k (n - k) ∧ min k (n - k) ≤ n - k; omega
      generalize Nat.min k (n - k) = m at *
      have HG5 := Lib.hid hg5
      have HB5 := Lib.hid ((below_more y.ok z.ok).trans hb5)
      clear hg5 hb5
      go_wp2
      refine calm_normal ?_
      go_wp2
      go_roundw
      case rel => exact ⟨k + m, by omega, by omega, by go_num, HG5.out, ⟨w5, HB5.out⟩, rfl⟩
      case measure => simp [intOf]; omega
    · obtain rfl : k = n := by omega
      go_wp2
      go_ret
      refine ⟨_, rfl, rfl, y, rfl, ?_⟩
      unfold OwnI
      rw [List.length_replicate, ← rep_all]
      exact ⟨by rw [rep_length, Nat.mul_one], .inr ⟨_, k, _, rfl, Nat.le_refl _, HG.out, Nat.le_refl _, by unfold maxLen; omega, by simp [rep_length], by rw [Nat.mul_one]; exact List.take_of_length_le (by rw [rep_length]; exact Nat.le_refl _)⟩⟩
end Go.Proofs.Ytelfinjnbncnlaa
