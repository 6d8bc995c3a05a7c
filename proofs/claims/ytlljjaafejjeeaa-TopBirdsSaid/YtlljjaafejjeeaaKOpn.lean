/- wader's walk that opens sightings: apart's closure. -/
import Derived.Test.YtlljjaafejjeeaaKBirds
import Derived.Test.YtlljjaafejjeeaaKDual
namespace Go.Proofs.Ytlljjaafejjeeaa
open Go.RowKit

theorem opnL_skip {R : Nat → List Bool × List Bool → List Bool × List Bool} {L : Nat → Nat → Bool} {be : List Int} {i n d k : Nat} {s : List Bool × List Bool} (hk : n - (d + 1) = k) (h : s.2.getD k true = true ∨ L i k = false) : opnL R L be i n (d + 1) s = opnL R L be i n d s := by
  rw [opnL, hk, if_pos h]
theorem opnL_go {R : Nat → List Bool × List Bool → List Bool × List Bool} {L : Nat → Nat → Bool} {be : List Int} {i n d k j : Nat} {s : List Bool × List Bool} (hk : n - (d + 1) = k) (h1 : s.2.getD k true = false) (h2 : L i k = true) (hj : be.getD k 0 = (j : Nat)) : opnL R L be i n (d + 1) s = opnL R L be i n d (R j (s.1, s.2.set k true)) := by
  rw [opnL, hk, if_neg (by rw [h1, h2]; simp), hj, Int.toNat_natCast]
/-- What apart's closure reads and writes. -/
structure PS (B w : World) (bo bb bc bw bk go gc n cap cb : Nat) (A F : Option Addr) (s : Int) (op cu : List Bool) : Prop where
  below : Below B.heap.size B w
  xo : w.heap[bo]? = some (.cells #[.slice (some ⟨go, 0, none⟩) n n] 64 (0, 0))
  xb : w.heap[bb]? = some (.cells #[.slice F n cb] 24 (0, 0))
  xc : w.heap[bc]? = some (.cells #[.slice (some ⟨gc, 0, none⟩) n n] 64 (0, 0))
  xk : w.heap[bk]? = some (.cells #[.func (.func 42) #[] #[.pointer (some ⟨bo, 0, none⟩), .pointer (some ⟨bb, 0, none⟩), .pointer (some ⟨bc, 0, none⟩), .pointer (some ⟨bw, 0, none⟩), .pointer (some ⟨bk, 0, none⟩)]] 65 (0, 0))
  xw : w.heap[bw]? = some (.cells #[.slice A n cap, .int .i64 s] 53 (0, 0))
  oo : OwnBl w B.heap.size (.slice (some ⟨go, 0, none⟩) n n) op
  oc : OwnBl w B.heap.size (.slice (some ⟨gc, 0, none⟩) n n) cu
  ne : (go ≠ bo ∧ go ≠ bb ∧ go ≠ bc ∧ go ≠ bk ∧ go ≠ bw) ∧ (gc ≠ bo ∧ gc ≠ bb ∧ gc ≠ bc ∧ gc ≠ bk ∧ gc ≠ bw) ∧ go ≠ gc
section
variable {B w : World} {bo bb bc bw bk go gc n cap cb : Nat} {A F : Option Addr} {s : Int} {op cu : List Bool}
theorem PS.later (h : PS B w bo bb bc bw bk go gc n cap cb A F s op cu) (x : Later w) : PS B x.val bo bb bc bw bk go gc n cap cb A F s op cu :=
  ⟨below_more h.below x.ok, (x.ok.block _ (get_lt h.xo)).trans h.xo, (x.ok.block _ (get_lt h.xb)).trans h.xb, (x.ok.block _ (get_lt h.xc)).trans h.xc, (x.ok.block _ (get_lt h.xk)).trans h.xk, (x.ok.block _ (get_lt h.xw)).trans h.xw, h.oo.later x, h.oc.later x, h.ne⟩
theorem PS.open_ (h : PS B w bo bb bc bw bk go gc n cap cb A F s op cu) (hl : op.length = n) (i : Nat) (x : Bool) : PS B (w.setCell ⟨go, i, none⟩ (.bool x)) bo bb bc bw bk go gc n cap cb A F s (op.set i x) cu := by
  obtain ⟨⟨a1, a2, a3, a4, a5⟩, _, a9⟩ := h.ne
  exact ⟨h.below.setCell (p := ⟨go, i, none⟩) (own_lt h.oo go rfl).1 _, box_far h.xo a1, box_far h.xb a2, box_far h.xc a3, box_far h.xk a4, box_far h.xw a5, h.oo.set hl i x, h.oc.far fun g hg => by
    obtain rfl : gc = g := by simpa [Value.ownBlock] using hg
    exact a9, h.ne⟩
theorem PS.cut_ (h : PS B w bo bb bc bw bk go gc n cap cb A F s op cu) (hl : cu.length = n) (i : Nat) (x : Bool) : PS B (w.setCell ⟨gc, i, none⟩ (.bool x)) bo bb bc bw bk go gc n cap cb A F s op (cu.set i x) := by
  obtain ⟨_, ⟨a1, a2, a3, a4, a5⟩, a9⟩ := h.ne
  exact ⟨h.below.setCell (p := ⟨gc, i, none⟩) (own_lt h.oc gc rfl).1 _, box_far h.xo a1, box_far h.xb a2, box_far h.xc a3, box_far h.xk a4, box_far h.xw a5, h.oo.far fun g hg => by
    obtain rfl : go = g := by simpa [Value.ownBlock] using hg
    exact fun e => a9 e.symm, h.oc.set hl i x, h.ne⟩
end
set_option maxRecDepth 100000 in
set_option maxHeartbeats 6400000 in
theorem opn_any (B : World) (bo bb bc bw bk go gc n cap cb : Nat) (A F : Option Addr) (s : Int) (X Y T : Nat → Int) (be : List Int) (S : Nat → Prop) (W : Watch n s X Y T) (hp : IsChs B A n X Y T) (hF : IsInts B F n fun i => be.getD i 0) (hS : Clo (leadsR s X Y T) n be S S) (hok : OkM (leadsR s X Y T) n be) :
    ∀ (f i : Nat) (op cu : List Bool) (w : World), i < n → (∀ k, k < n → leadsR s X Y T i k = true → S k) → op.length = n → cu.length = n → cu.count false < f → PS B w bo bb bc bw bk go gc n cap cb A F s op cu →
    Calls Try.prog 42 #[.int .i64 i, .pointer (some ⟨bo, 0, none⟩), .pointer (some ⟨bb, 0, none⟩), .pointer (some ⟨bc, 0, none⟩), .pointer (some ⟨bw, 0, none⟩), .pointer (some ⟨bk, 0, none⟩)] w fun e w' =>
      e = .returned (.tuple #[]) ∧ PS B w' bo bb bc bw bk go gc n cap cb A F s (opn (leadsR s X Y T) be n f i (op, cu)).1 (opn (leadsR s X Y T) be n f i (op, cu)).2 := by
  intro f
  induction f with
  | zero => intro i op cu w _ _ _ _ h; omega
  | succ f ih =>
    intro i op cu w hi hSi hol hcl hc has
    have hn30 := W.n30
    have LD : Hid (∀ (V : World) (k : Nat), k < n → Below B.heap.size B V → Gives Try.prog 43 #[.agg #[.slice A n cap, .int .i64 s], .int .i64 i, .int .i64 k] V (.bool (leadsR s X Y T i k))) := fun V k hk hb => leads_any s n cap i k A X Y T V hi hk W (hp.below hb)
    have IH := Lib.hid ih
    have OP : Hid (∀ j s', j < n → (∀ k, k < n → leadsR s X Y T j k = true → S k) → s'.1.length = n → s'.2.length = n → s'.2.count false < f → OpnPost (leadsR s X Y T) be n j 0 S s' (opn (leadsR s X Y T) be n f j s')) := fun j s' a b c d e => (opn_post hS hok f j s' a b c d e).1
    have HE : Hid (opn (leadsR s X Y T) be n (f + 1) i (op, cu) = opnL (opn (leadsR s X Y T) be n f) (leadsR s X Y T) be i n n (op.set i true, cu)) := rfl
    have HSI := Lib.hid hSi
    have HS := Lib.hid hS
    have HOKB := Lib.hid hok
    generalize opn (leadsR s X Y T) be n (f + 1) i (op, cu) = res at *
    generalize leadsR s X Y T = L at *
    generalize opn L be n f = R at *
    have HAS := Lib.hid has
    have HOL := Lib.hid hol
    have HCL := Lib.hid hcl
    have HC := Lib.hid hc
    have HF := Lib.hid hF
    obtain ⟨x0, _, x2⟩ := box_facts has.xo
    obtain ⟨y0, _, y2⟩ := box_facts has.xb
    obtain ⟨t3, t4, t5⟩ := has.oo.cell hol hi
    have t6 := t4 i
    have n1 := has.ne.1.2.1
    have n2 : bb ≠ go := fun e => n1 e.symm
    have AS1 := Lib.hid (has.open_ hol i true)
    have HOL1 : Hid ((op.set i true).length = n) := by show _ = _; rw [List.length_set]; exact hol
    clear ih has hol hcl hc hp W hok hS hSi t4 hF
    go_enter Try.func42, Try.ntmps42
    go_wp2_with fail
    clear x0 x2 y0 y2 t3 t5 t6 HAS
    go_loopw [13] (fun u wr => ∃ (k d : Nat) (op' cu' : List Bool), u = .int .i64 (k : Nat) ∧ k + d = n ∧ op'.length = n ∧ cu'.length = n ∧ cu'.count false ≤ f ∧ PS B wr bo bb bc bw bk go gc n cap cb A F s op' cu' ∧ res = opnL R L be i n d (op', cu')) (fun u _ => n - (intOf u).toNat)
    case atStart => exact ⟨0, n, op.set i true, cu, rfl, by omega, HOL1.out, HCL.out, by have := HC.out; omega, AS1.out, HE.out⟩
    case round =>
      obtain ⟨k, d, op', cu', rfl, hkd, hol', hcl', hc', has', he'⟩ := hrel
      clear AS1 HOL1 HCL HC HE HOL
      have HAS := Lib.hid has'
      have HOL := Lib.hid hol'
      have HCL := Lib.hid hcl'
      have HC := Lib.hid hc'
      have HE := Lib.hid he'
      obtain ⟨x0, _, x2⟩ := box_facts has'.xc
      have xw := has'.xw
      have w0 := cell_of_heap xw 0 _ rfl
      have w1 := cell_of_heap xw 1 _ rfl
      have w2 := get_lt xw
      have hBw := Lib.hid has'.below
      have n1 := has'.ne.2.1.2.2.1
      clear xw has' hol' hcl' hc' he'
      by_cases hlt : k < n
      · obtain ⟨d', hd⟩ : ∃ d', d = d' + 1 := ⟨d - 1, by omega⟩
        subst hd
        have hkn : n - (d' + 1) = k := by omega
        obtain ⟨t3, t4, t5⟩ := HAS.out.oc.cell HCL.out hlt
        have t6 := t4 k
        have LD1 := Lib.hid fun V hb => LD.out V k hlt hb
        clear t4 LD
        cases hT : cu'.getD k true
        case true =>
          rw [hT] at t3
          have HN : Hid (res = opnL R L be i n d' (op', cu')) := by show _ = _; rw [HE.out, opnL_skip hkn (.inl hT)]
          clear hT HE
          go_wp2_with fail
          go_roundw
          case rel => exact ⟨k + 1, d', op', cu', by go_num, by omega, HOL.out, HCL.out, HC.out, HAS.out, HN.out⟩
          case measure => simp [intOf]; omega
        case false =>
          rw [hT] at t3
          have HT := Lib.hid hT
          clear hT
          cases hL : L i k
          case false =>
            rw [hL] at LD1
            have HN : Hid (res = opnL R L be i n d' (op', cu')) := by show _ = _; rw [HE.out, opnL_skip hkn (.inr hL)]
            clear hL HE
            go_wp2_with (go_at_call 43; with_reducible refine Calls.mono (Gives.calls (LD1.out _ hBw.out)) ?_; rintro e w1 ⟨rfl, y, rfl⟩)
            go_roundw
            case rel => exact ⟨k + 1, d', op', cu', by go_num, by omega, HOL.out, HCL.out, HC.out, HAS.out.later y, HN.out⟩
            case measure => simp [intOf]; omega
          case true =>
            rw [hL] at LD1
            have HL := Lib.hid hL
            have hSk := HSI.out k hlt hL
            obtain ⟨hne, hcl⟩ := HS.out k hlt hSk
            obtain ⟨j, hj, hbj, _⟩ := (HOKB.out k hlt).resolve_left hne
            have HCJ : Hid (∀ k', k' < n → L j k' = true → S k') := fun k' a b => hcl k' a (by rw [hbj, Int.toNat_natCast]; exact b)
            have HBJ := Lib.hid hbj
            clear hL hSk hne hcl
            generalize hWR : wr = WR at *
            clear hWR
            go_wp2_with (go_at_call 43; with_reducible refine Calls.mono (Gives.calls (LD1.out _ hBw.out)) ?_; rintro e w1 ⟨rfl, y, rfl⟩)
            have AS2 : Hid (PS B (y.val.setCell ⟨gc, k, none⟩ (.bool true)) bo bb bc bw bk go gc n cap cb A F s op' (cu'.set k true)) := (HAS.out.later y).cut_ HCL.out k true
            generalize y.val.setCell ⟨gc, k, none⟩ (.bool true) = V2 at *
            have HCL2 : Hid ((cu'.set k true).length = n) := by show _ = _; rw [List.length_set]; exact HCL.out
            clear x0 x2 w0 w1 w2 t3 t5 t6 hBw LD1
            obtain ⟨y0, _, y2⟩ := box_facts AS2.out.xb
            obtain ⟨k0, _, k2⟩ := box_facts AS2.out.xk
            obtain ⟨bF, oF, hBF, pF⟩ := (HF.out.below AS2.out.below).at_ (by omega)
            have cF := pF.at_ k hlt
            have lF := pF.lt
            rw [hbj] at cF
            rw [hBF] at y0
            have HBFO := Lib.hid hBF
            clear pF hbj hBF
            have HLt := Lib.hid (count_setF (l := cu') (k := k) (by rw [HCL.out]; exact hlt) HT.out)
            have HC2 : Hid ((cu'.set k true).count false < f) := by have := HLt.out; have := HC.out; show _ < _; omega
            have P1 := Lib.hid (OP.out j (op', cu'.set k true) hj HCJ.out HOL.out HCL2.out HC2.out)
            have IH1 : Hid (∀ V : World, PS B V bo bb bc bw bk go gc n cap cb A F s op' (cu'.set k true) → Calls Try.prog 42 #[.int .i64 j, .pointer (some ⟨bo, 0, none⟩), .pointer (some ⟨bb, 0, none⟩), .pointer (some ⟨bc, 0, none⟩), .pointer (some ⟨bw, 0, none⟩), .pointer (some ⟨bk, 0, none⟩)] V fun e w' => e = .returned (.tuple #[]) ∧ PS B w' bo bb bc bw bk go gc n cap cb A F s (R j (op', cu'.set k true)).1 (R j (op', cu'.set k true)).2) := fun V h => IH.out j op' (cu'.set k true) V hj HCJ.out HOL.out HCL2.out HC2.out h
            have HN : Hid (res = opnL R L be i n d' (R j (op', cu'.set k true))) := HE.out.trans (opnL_go hkn HT.out HL.out HBJ.out)
            clear HE IH OP
            generalize R j (op', cu'.set k true) = r at *
            obtain ⟨ro, rc⟩ := r
            refine wp_region_tail 0 5 (by kernel_rfl) (by kernel_rfl) ?_
            simp only [List.take_succ_cons, List.take_zero, List.drop_succ_cons, List.drop_zero]
            repeat (go_big_quiet_step ((fail)))
            refine wpQuiet_nil ?_
            intro z
            go_wp2_with (go_at_call 42; with_reducible refine Calls.mono (IH1.out _ (AS2.out.later z)) ?_; rintro e w' ⟨rfl, has3⟩; have AS3 := Lib.hid has3; clear has3)
            refine calm_normal ?_
            go_wp2_with fail
            go_roundw
            case rel => exact ⟨k + 1, d', ro, rc, by go_num, by omega, P1.out.l1, P1.out.l2, by
              have h1 := countF_le (cu'.set k true) rc (HCL2.out.trans P1.out.l2.symm) fun q h1 h2 => P1.out.g2 q (by have := HCL2.out; omega) h2
              have := HC2.out
              omega, AS3.out, HN.out⟩
            case measure => simp [intOf]; omega
      · obtain rfl : d = 0 := by omega
        obtain rfl : k = n := by omega
        have HN : Hid (res = (op', cu')) := HE.out
        clear HE
        go_wp2_with fail
        go_end0
        exact ⟨rfl, by rw [HN.out]; exact HAS.out⟩
end Go.Proofs.Ytlljjaafejjeeaa
