/- strings.SplitSeq at a separator of one byte: what its iterator hands over. -/
import Derived.Test.YtajfepogecakbaaDoorSeqRegion
import Derived.Test.YtajfepogecakbaaDoorSplitMath
import Derived.Test.YtajfepogecakbaaDoorShelf2
import Derived.Deep.QuietTactic
import Derived.BigQuiet
import Derived.Outline
import Derived.OneCell
namespace Go.Proofs.YtajfepogecakbaaDoor
open Go.RowKit
attribute [local go_sem] Oper.semAt_some

theorem cell_of_box {w : World} {b : Nat} {cs : Array Value} {t : TypeId} {z : Nat × Nat} (h : w.heap[b]? = some (.cells cs t z)) (i : Nat) (v : Value) (hi : cs[i]? = some v) : w.cell? ⟨b, i, none⟩ = some v := by
  simp [World.cell?, h, hi]
theorem thaw_of_box {w : World} {b : Nat} {cs : Array Value} {t : TypeId} (h : w.heap[b]? = some (.cells cs t (0, 0))) (i : Nat) : w.frozen? ⟨b, i, none⟩ = false := by
  simp [World.frozen?, h]
theorem box_set {w : World} {b : Nat} {u v : Value} {t : TypeId} (h : w.heap[b]? = some (.cells #[u] t (0, 0))) : (w.setCell ⟨b, 0, none⟩ v).heap[b]? = some (.cells #[v] t (0, 0)) := by
  exact one_setCell h
theorem setCell_block_ne (w : World) {b b' : Nat} (v : Value) (h : b' ≠ b) : (w.setCell ⟨b, 0, none⟩ v).heap[b']? = w.heap[b']? := Below.heap_setCell w _ v b' (fun e => h e)
/-- How long the string in a box is. -/
def sizeAt (w : World) (b : Nat) : Nat := match w.cell? ⟨b, 0, none⟩ with
  | some (.string s) => s.size
  | _ => 0
theorem sizeAt_of {w : World} {b : Nat} {s : ByteArray} {t : TypeId} {z : Nat × Nat} (h : w.heap[b]? = some (.cells #[.string s] t z)) : sizeAt w b = s.size := by
  unfold sizeAt
  rw [cell_of_box h 0 (.string s) rfl]

set_option maxHeartbeats 800000 in
theorem splitSeq_any (s : ByteArray) (c : UInt8) (w : World) :
    Calls Tryd.prog 63 #[.string s, .string ⟨#[c]⟩] w fun e w' =>
      e = .returned (.func (.func 105) #[] #[.pointer (some ⟨w.heap.size + 1, 0, none⟩), .pointer (some ⟨w.heap.size, 0, none⟩), .pointer (some ⟨w.heap.size + 2, 0, none⟩)]) ∧ w' = ((w.alloc (.cells #[.string s] 9)).alloc (.cells #[.string ⟨#[c]⟩] 9)).alloc (.cells #[.int .i64 0] 3) := by
  have H : Hid (∀ w, Calls Tryd.prog 97 #[.string s, .string ⟨#[c]⟩, .int .i64 0] w fun e w' =>
      e = .returned (.func (.func 105) #[] #[.pointer (some ⟨w.heap.size + 1, 0, none⟩), .pointer (some ⟨w.heap.size, 0, none⟩), .pointer (some ⟨w.heap.size + 2, 0, none⟩)]) ∧ w' = ((w.alloc (.cells #[.string s] 9)).alloc (.cells #[.string ⟨#[c]⟩] 9)).alloc (.cells #[.int .i64 0] 3)) := by
    intro w
    go_enter Tryd.func97, Tryd.ntmps97
    go_wp2
    go_ret
    exact ⟨rfl, rfl⟩
  go_enter Tryd.func63, Tryd.ntmps63
  go_wp2_with (go_at_call 97; refine (H.out _).mono ?_; rintro e w' ⟨rfl, rfl⟩)
  go_ret
  exact ⟨rfl, rfl⟩

set_option maxRecDepth 100000 in
set_option maxHeartbeats 3200000 in
theorem splitSeq1_iter (s : List UInt8) (hs : s.length ≤ 1000000) (c : UInt8) (w : World) (bs bc bk : Nat) (hne : bs ≠ bc) (hne2 : bs ≠ bk)
    (h1 : w.heap[bs]? = some (.cells #[.string ⟨s.toArray⟩] 9)) (h2 : w.heap[bc]? = some (.cells #[.string ⟨#[c]⟩] 9)) (h3 : w.heap[bk]? = some (.cells #[.int .i64 0] 3)) :
    IterC Tryd.prog 105 #[.pointer (some ⟨bc, 0, none⟩), .pointer (some ⟨bs, 0, none⟩), .pointer (some ⟨bk, 0, none⟩)] (fun b => b = bs ∨ b = bc ∨ b = bk) (wordVals (pieces c s)) w := by
  intro l J Jx S W0 hsub hsame hsz stJ stJx hround h0
  have ls := (Array.getElem?_eq_some_iff.1 h1).1
  have lc := (Array.getElem?_eq_some_iff.1 h2).1
  have lk := (Array.getElem?_eq_some_iff.1 h3).1
  have k1 : W0.heap[bs]? = some (.cells #[.string ⟨s.toArray⟩] 9) := (hsame _ (.inl rfl)).2.trans h1
  have k2 : W0.heap[bc]? = some (.cells #[.string ⟨#[c]⟩] 9) := (hsame _ (.inr (.inl rfl))).2.trans h2
  have k3 : W0.heap[bk]? = some (.cells #[.int .i64 0] 3) := (hsame _ (.inr (.inr rfl))).2.trans h3
  have c1 : W0.cell? ⟨bs, 0, none⟩ = some (.string ⟨s.toArray⟩) := cell_of_box k1 0 _ rfl
  have c2 : W0.cell? ⟨bc, 0, none⟩ = some (.string ⟨#[c]⟩) := cell_of_box k2 0 _ rfl
  have HR := Lib.hid hround
  have HJ := Lib.hid stJ
  have HS := Lib.hid hsub
  have K1 := Lib.hid k1
  have K2 := Lib.hid k2
  have K3 := Lib.hid k3
  have H0 := Lib.hid h0
  have NE := Lib.hid hne
  have NE2 := Lib.hid hne2
  clear hround stJ stJx hsub hsame h1 h2 h3 k1 k2 k3 h0 hne hne2
  refine callsIn_of_wp Tryd.func105 rfl trivial ?_ rfl
  simp only [Tryd.ntmps105, List.size_toArray, List.length_cons, List.length_nil, Nat.reduceAdd, Nat.reduceSub, Array.replicate_succ, Array.replicate_zero, List.push_toArray, List.append_toArray, List.nil_append, List.cons_append]
  gi_wp2
  gi_loopw [7] (fun v wr => ∃ (k : Nat) (r : List UInt8), r.length ≤ s.length ∧ (pieces c s).drop k = pieces c r ∧ ∃ T, (∀ b, S b → T b) ∧ J T k wr ∧ wr.heap[bs]? = some (.cells #[.string ⟨r.toArray⟩] 9) ∧ wr.heap[bc]? = some (.cells #[.string ⟨#[c]⟩] 9) ∧ wr.heap[bk]? = some (.cells #[.int .i64 0] 3)) (fun v wr => sizeAt wr bs)
  case atStart => exact ⟨0, s, Nat.le_refl _, rfl, S, fun _ h => h, H0.out, K1.out, K2.out, K3.out⟩
  case round =>
    obtain ⟨k, r, hr, hdrop, T, hT, hj, g1, g2, g3⟩ := hrel
    have c1 : wr.cell? ⟨bs, 0, none⟩ = some (.string ⟨r.toArray⟩) := cell_of_box g1 0 _ rfl
    have c2 : wr.cell? ⟨bc, 0, none⟩ = some (.string ⟨#[c]⟩) := cell_of_box g2 0 _ rfl
    have c3 : wr.cell? ⟨bk, 0, none⟩ = some (.int .i64 0) := cell_of_box g3 0 _ rfl
    have G1 := Lib.hid g1
    have G2 := Lib.hid g2
    have G3 := Lib.hid g3
    have HT := Lib.hid hT
    have HJ2 := Lib.hid hj
    have HD := Lib.hid hdrop
    clear hT hj g1 g2 g3 hdrop
    have I1 : Hid (∀ w, Calls Tryd.prog 107 #[.string ⟨r.toArray⟩, .string ⟨#[c]⟩] w fun e w' => e = .returned (.int .i64 (Lib.indexByte r c)) ∧ w' = w) := fun w => by
      simpa using Tryd.strings_Index_one ⟨r.toArray⟩ c w
    by_cases hlt : Lib.indexByte r c < 0
    · obtain ⟨e1, e2⟩ := index_none hlt
      rw [e1] at I1
      clear hlt e1
      obtain ⟨q1, q2, q3⟩ := drop_head (HD.out.trans e2)
      have hY : Hid (∀ W1, J T k W1 → YieldAt Fence.wide 0 Tryd.prog l #[.string ⟨r.toArray⟩] W1 fun e W' => Kept T W1 W' ∧ ((e = .returned (.bool true) ∧ J T (k + 1) W') ∨ (e = .returned (.bool false) ∧ Jx T k W'))) := fun W1 hW1 => by
        have := HR.out T k W1 (by rw [wordVals_length]; exact q3) hW1
        rw [wordVals_get q1] at this
        exact this
      have Q3 := Lib.hid q3
      have hlen : (pieces c s).length = k + 1 := by
        have := congrArg List.length q2
        simp at this
        omega
      have HL := Lib.hid hlen
      clear q1 q2 e2 q3 hlen
      gi_wp2_with (gi_at_call 107; refine (callsIn_wide.2 (I1.out _)).mono ?_; rintro e w1 ⟨rfl, rfl⟩; obtain ⟨fn, tmps, assign, body, hyy, hR⟩ := hY.out w1 HJ2.out)
      refine hR.mono ?_
      clear hR hyy
      rintro e W' ⟨hkp, (⟨rfl, hJ'⟩ | ⟨rfl, hx'⟩)⟩
      · have HJ3 := Lib.hid hJ'
        clear hJ' hkp
        gi_wp2
        go_end0
        refine ⟨⟨_, rfl⟩, T, HT.out, .inl ?_⟩
        rw [wordVals_length, HL.out]
        exact HJ3.out
      · have HX2 := Lib.hid hx'
        clear hx' hkp
        gi_wp2
        go_end0
        exact ⟨⟨_, rfl⟩, T, HT.out, .inr ⟨k, by rw [wordVals_length]; exact Q3.out, HX2.out⟩⟩
    · obtain ⟨j, e1, e2, e3⟩ := index_some (by omega : 0 ≤ Lib.indexByte r c)
      rw [e1] at I1
      clear hlt e1
      obtain ⟨q1, q2, q3⟩ := drop_head (HD.out.trans e3)
      have hY : Hid (∀ W1, J T k W1 → YieldAt Fence.wide 0 Tryd.prog l #[.string ⟨(r.take j).toArray⟩] W1 fun e W' => Kept T W1 W' ∧ ((e = .returned (.bool true) ∧ J T (k + 1) W') ∨ (e = .returned (.bool false) ∧ Jx T k W'))) := fun W1 hW1 => by
        have := HR.out T k W1 (by rw [wordVals_length]; exact q3) hW1
        rw [wordVals_get q1] at this
        exact this
      have Q3 := Lib.hid q3
      have Q2 := Lib.hid q2
      have ex := bytes_take r j
      have ey := bytes_drop r (j + 1) (by omega)
      clear q1 q2 e3 q3
      gi_wp2_with (gi_at_call 107; refine (callsIn_wide.2 (I1.out _)).mono ?_; rintro e w1 ⟨rfl, rfl⟩; obtain ⟨fn, tmps, assign, body, hyy, hR⟩ := hY.out w1 HJ2.out)
      refine hR.mono ?_
      clear hR hyy
      have ls := (Array.getElem?_eq_some_iff.1 G1.out).1
      have lc := (Array.getElem?_eq_some_iff.1 G2.out).1
      have lk := (Array.getElem?_eq_some_iff.1 G3.out).1
      rintro e W' ⟨hkp, (⟨rfl, hJ'⟩ | ⟨rfl, hx'⟩)⟩
      · have HJ3 := Lib.hid hJ'
        have b1 := (hkp.same _ (HT.out _ (HS.out _ (.inl rfl))) ls).trans G1.out
        have b2 := (hkp.same _ (HT.out _ (HS.out _ (.inr (.inl rfl)))) lc).trans G2.out
        have b3 := (hkp.same _ (HT.out _ (HS.out _ (.inr (.inr rfl)))) lk).trans G3.out
        have c4 : W'.cell? ⟨bs, 0, none⟩ = some (.string ⟨r.toArray⟩) := cell_of_box b1 0 _ rfl
        have c5 : W'.cell? ⟨bc, 0, none⟩ = some (.string ⟨#[c]⟩) := cell_of_box b2 0 _ rfl
        have c6 := thaw_of_box b1 0
        have B1 := Lib.hid b1
        have B2 := Lib.hid b2
        have B3 := Lib.hid b3
        clear hJ' hkp b1 b2 b3 c1 c2 c3
        gi_wp2
        go_roundw
        case rel =>
          refine ⟨k + 1, r.drop (j + 1), by simp; omega, Q2.out, T, HT.out, ?_, one_setCell B1.out, ?_, ?_⟩
          · exact HJ.out T T _ W' _ HJ3.out (Takes.refl _ _) (Only.setCell _ (HT.out _ (HS.out _ (.inl rfl))))
          · rw [setCell_block_ne _ _ (Ne.symm NE.out)]; exact B2.out
          · rw [setCell_block_ne _ _ (Ne.symm NE2.out)]; exact B3.out
        case measure =>
          rw [sizeAt_of (one_setCell B1.out), sizeAt_of G1.out]
          show (r.drop (j + 1)).toArray.size < r.toArray.size
          rw [List.size_toArray, List.size_toArray, List.length_drop]
          omega
      · have HX2 := Lib.hid hx'
        clear hx' hkp
        gi_wp2
        refine bodyPost_ret (results_none rfl _ _ _) rfl ?_
        exact ⟨⟨_, rfl⟩, T, HT.out, .inr ⟨k, by rw [wordVals_length]; exact Q3.out, HX2.out⟩⟩
end Go.Proofs.YtajfepogecakbaaDoor
