/- wader's walk that makes a matching greater: withOne's closure. -/
import Derived.Test.YtlljjaafejjeeaaKLead
namespace Go.Proofs.Ytlljjaafejjeeaa
open Go.RowKit

/-- What withOne's closure reads and writes. -/
structure AS (B w : World) (bo bt bw bk go co gt n cap : Nat) (A : Option Addr) (s : Int) (out : List Int) (tr : List Bool) : Prop where
  below : Below B.heap.size B w
  xo : w.heap[bo]? = some (.cells #[.slice (some ⟨go, 0, none⟩) n co] 24 (0, 0))
  xt : w.heap[bt]? = some (.cells #[.slice (some ⟨gt, 0, none⟩) n n] 64 (0, 0))
  xk : w.heap[bk]? = some (.cells #[.func (.func 52) #[] #[.pointer (some ⟨bo, 0, none⟩), .pointer (some ⟨bt, 0, none⟩), .pointer (some ⟨bw, 0, none⟩), .pointer (some ⟨bk, 0, none⟩)]] 45 (0, 0))
  xw : w.heap[bw]? = some (.cells #[.slice A n cap, .int .i64 s] 53 (0, 0))
  oo : OwnI w B.heap.size (.slice (some ⟨go, 0, none⟩) n co) out
  ot : OwnBl w B.heap.size (.slice (some ⟨gt, 0, none⟩) n n) tr
  ne : (go ≠ bo ∧ go ≠ bt ∧ go ≠ bk ∧ go ≠ bw) ∧ (gt ≠ bo ∧ gt ≠ bt ∧ gt ≠ bk ∧ gt ≠ bw) ∧ go ≠ gt
section
variable {B w : World} {bo bt bw bk go co gt n cap : Nat} {A : Option Addr} {s : Int} {out : List Int} {tr : List Bool}
theorem AS.later (h : AS B w bo bt bw bk go co gt n cap A s out tr) (x : Later w) : AS B x.val bo bt bw bk go co gt n cap A s out tr :=
  ⟨below_more h.below x.ok, (x.ok.block _ (get_lt h.xo)).trans h.xo, (x.ok.block _ (get_lt h.xt)).trans h.xt, (x.ok.block _ (get_lt h.xk)).trans h.xk, (x.ok.block _ (get_lt h.xw)).trans h.xw, h.oo.later x, h.ot.later x, h.ne⟩
theorem AS.put (h : AS B w bo bt bw bk go co gt n cap A s out tr) (hl : out.length = n) (i : Nat) (x : Int) : AS B (w.setCell ⟨go, i, none⟩ (.int .i64 x)) bo bt bw bk go co gt n cap A s (out.set i x) tr := by
  obtain ⟨⟨a1, a2, a3, a4⟩, _, a9⟩ := h.ne
  exact ⟨h.below.setCell (p := ⟨go, i, none⟩) (own_lt h.oo go rfl).1 _, box_far h.xo a1, box_far h.xt a2, box_far h.xk a3, box_far h.xw a4, h.oo.set hl i x, h.ot.far fun g hg => by
    obtain rfl : gt = g := by simpa [Value.ownBlock] using hg
    exact a9, h.ne⟩
theorem AS.mark (h : AS B w bo bt bw bk go co gt n cap A s out tr) (hl : tr.length = n) (i : Nat) (x : Bool) : AS B (w.setCell ⟨gt, i, none⟩ (.bool x)) bo bt bw bk go co gt n cap A s out (tr.set i x) := by
  obtain ⟨_, ⟨a1, a2, a3, a4⟩, a9⟩ := h.ne
  exact ⟨h.below.setCell (p := ⟨gt, i, none⟩) (own_lt h.ot gt rfl).1 _, box_far h.xo a1, box_far h.xt a2, box_far h.xk a3, box_far h.xw a4, h.oo.far fun g hg => by
    obtain rfl : go = g := by simpa [Value.ownBlock] using hg
    exact fun e => a9 e.symm, h.ot.set hl i x, h.ne⟩
end
/-- What the closure answers. -/
def PostAug (B : World) (bo bt bw bk go co gt n cap : Nat) (A : Option Addr) (s : Int) (r : Bool × List Bool × List Int) (e : Ending) (w' : World) : Prop :=
  e = .returned (.bool r.1) ∧ AS B w' bo bt bw bk go co gt n cap A s r.2.2 r.2.1
set_option maxRecDepth 100000 in
set_option maxHeartbeats 6400000 in
theorem aug_any (B : World) (bo bt bw bk go co gt n cap : Nat) (A : Option Addr) (s : Int) (X Y T : Nat → Int) (W : Watch n s X Y T) (hp : IsChs B A n X Y T) :
    ∀ (f i : Nat) (out : List Int) (tr : List Bool) (w : World), i < n → tr.length = n → out.length = n → OkM (leadsR s X Y T) n out → tr.count false < f → AS B w bo bt bw bk go co gt n cap A s out tr →
    Calls Try.prog 52 #[.int .i64 i, .pointer (some ⟨bo, 0, none⟩), .pointer (some ⟨bt, 0, none⟩), .pointer (some ⟨bw, 0, none⟩), .pointer (some ⟨bk, 0, none⟩)] w (PostAug B bo bt bw bk go co gt n cap A s (aug (leadsR s X Y T) n f i tr out)) := by
  intro f
  induction f with
  | zero => intro i out tr w _ _ _ _ h; omega
  | succ f ih =>
    intro i out tr w hi htl hol hok hc has
    have hn30 := W.n30
    have LD : Hid (∀ (V : World) (k : Nat), k < n → Below B.heap.size B V → Gives Try.prog 43 #[.agg #[.slice A n cap, .int .i64 s], .int .i64 i, .int .i64 k] V (.bool (leadsR s X Y T i k))) := fun V k hk hb => leads_any s n cap i k A X Y T V hi hk W (hp.below hb)
    have IH := Lib.hid ih
    have AP : Hid (∀ j tr out, j < n → tr.length = n → out.length = n → OkM (leadsR s X Y T) n out → tr.count false < f → AugPost (leadsR s X Y T) n j 0 tr out (aug (leadsR s X Y T) n f j tr out)) := fun j tr out a b c d e => aug_post f j tr out a b c d e
    have HE : Hid (aug (leadsR s X Y T) n (f + 1) i tr out = augL (aug (leadsR s X Y T) n f) (leadsR s X Y T) i n n tr out) := rfl
    generalize aug (leadsR s X Y T) n (f + 1) i tr out = res at *
    generalize leadsR s X Y T = L at *
    generalize aug L n f = R at *
    have HAS := Lib.hid has
    have HOK := Lib.hid hok
    have HTL := Lib.hid htl
    have HOL := Lib.hid hol
    have HC := Lib.hid hc
    obtain ⟨x0, _, x2⟩ := box_facts has.xo
    clear ih has hok htl hol hc hp W
    go_enter Try.func52, Try.ntmps52
    go_wp2_with fail
    clear x0 x2
    go_loopw [10] (fun u wr => ∃ (k d : Nat) (tr' : List Bool) (out' : List Int), u = .int .i64 (k : Nat) ∧ k + d = n ∧ tr'.length = n ∧ out'.length = n ∧ OkM L n out' ∧ tr'.count false ≤ f ∧ AS B wr bo bt bw bk go co gt n cap A s out' tr' ∧ res = augL R L i n d tr' out') (fun u _ => n - (intOf u).toNat)
    case atStart => exact ⟨0, n, tr, out, rfl, by omega, HTL.out, HOL.out, HOK.out, by have := HC.out; omega, HAS.out, HE.out⟩
    case round =>
      obtain ⟨k, d, tr', out', rfl, hkd, htl', hol', hok', hc', has', he'⟩ := hrel
      clear HAS HTL HOL HC HE HOK
      have HAS := Lib.hid has'
      have HOK := Lib.hid hok'
      have HTL := Lib.hid htl'
      have HOL := Lib.hid hol'
      have HC := Lib.hid hc'
      have HE := Lib.hid he'
      obtain ⟨x0, _, x2⟩ := box_facts has'.xo
      obtain ⟨t0, _, t2⟩ := box_facts has'.xt
      have xw := has'.xw
      have w0 := cell_of_heap xw 0 _ rfl
      have w1 := cell_of_heap xw 1 _ rfl
      have w2 := get_lt xw
      have hBw := Lib.hid has'.below
      clear xw has' hok' htl' hol' hc' he'
      by_cases hlt : k < n
      · obtain ⟨d', hd⟩ : ∃ d', d = d' + 1 := ⟨d - 1, by omega⟩
        subst hd
        have hkn : n - (d' + 1) = k := by omega
        obtain ⟨t3, t4, t5⟩ := HAS.out.ot.cell HTL.out hlt
        have LD1 := Lib.hid fun V hb => LD.out V k hlt hb
        have t6 := t4 k
        clear t4 LD
        cases hT : tr'.getD k true
        case true =>
          rw [hT] at t3
          have HN : Hid (res = augL R L i n d' tr' out') := by show _ = _; rw [HE.out, augL_skip hkn (.inl hT)]
          clear hT HE
          go_wp2_with fail
          go_roundw
          case rel => exact ⟨k + 1, d', tr', out', by go_num, by omega, HTL.out, HOL.out, HOK.out, HC.out, HAS.out, HN.out⟩
          case measure => simp [intOf]; omega
        case false =>
          rw [hT] at t3
          have HT := Lib.hid hT
          clear hT
          cases hL : L i k
          case false =>
            rw [hL] at LD1
            have HN : Hid (res = augL R L i n d' tr' out') := by show _ = _; rw [HE.out, augL_skip hkn (.inr hL)]
            clear hL HE
            go_wp2_with (go_at_call 43; with_reducible refine Calls.mono (Gives.calls (LD1.out _ hBw.out)) ?_; rintro e w1 ⟨rfl, y, rfl⟩)
            go_roundw
            case rel => exact ⟨k + 1, d', tr', out', by go_num, by omega, HTL.out, HOL.out, HOK.out, HC.out, HAS.out.later y, HN.out⟩
            case measure => simp [intOf]; omega
          case true =>
            rw [hL] at LD1
            have HL := Lib.hid hL
            clear hL
            generalize hWR : wr = WR at *
            clear hWR
            go_wp2_with (go_at_call 43; with_reducible refine Calls.mono (Gives.calls (LD1.out _ hBw.out)) ?_; rintro e w1 ⟨rfl, y, rfl⟩)
            have AS2 : Hid (AS B (y.val.setCell ⟨gt, k, none⟩ (.bool true)) bo bt bw bk go co gt n cap A s out' (tr'.set k true)) := (HAS.out.later y).mark HTL.out k true
            generalize y.val.setCell ⟨gt, k, none⟩ (.bool true) = V2 at *
            have HTL2 : Hid ((tr'.set k true).length = n) := by show _ = _; rw [List.length_set]; exact HTL.out
            clear x0 x2 t0 t2 w0 w1 w2 t3 t5 t6 hBw LD1
            obtain ⟨x0, _, x2⟩ := box_facts AS2.out.xo
            obtain ⟨k0, _, k2⟩ := box_facts AS2.out.xk
            obtain ⟨o3, o4⟩ := AS2.out.oo.cell HOL.out hlt
            have o5 := (own_lt AS2.out.oo go rfl).2
            have o6 := o4 k
            clear o4
            rcases HOK.out k hlt with hm | ⟨j, hj, hoj, hLj⟩
            · rw [hm] at o3
              have HN : Hid (res = (true, tr'.set k true, out'.set k (i : Int))) := by show _ = _; rw [HE.out, augL_free hkn HT.out HL.out hm]
              clear hm HE
              refine wp_region_later (by kernel_rfl) (by kernel_rfl) ?_
              repeat (go_big_quiet_step ((fail)))
              refine wpQuiet_nil ?_
              intro z
              have z0 := (z.cell _ 0 x2).trans x0
              have z1 := z.lt _ x2
              have z2 := z.lt _ o5
              have z3 := (z.frozen go k o5).trans o6
              have z4 := (z.cell _ k o5).trans o3
              go_wp2_with fail
              go_ret
              exact ⟨ret_bool (by rw [HN.out]), by rw [HN.out]; exact (AS2.out.later z).put HOL.out k i⟩
            · rw [hoj] at o3
              have hne : ((j : Int) == -1) = false := by simp
              have HLt := Lib.hid (count_setF (l := tr') (k := k) (by rw [HTL.out]; exact hlt) HT.out)
              have HC2 : Hid ((tr'.set k true).count false < f) := by have := HLt.out; have := HC.out; show _ < _; omega
              have HJ := Lib.hid hoj
              have P1 := Lib.hid (AP.out j (tr'.set k true) out' hj HTL2.out HOL.out HOK.out HC2.out)
              have IH1 : Hid (∀ V : World, AS B V bo bt bw bk go co gt n cap A s out' (tr'.set k true) → Calls Try.prog 52 #[.int .i64 j, .pointer (some ⟨bo, 0, none⟩), .pointer (some ⟨bt, 0, none⟩), .pointer (some ⟨bw, 0, none⟩), .pointer (some ⟨bk, 0, none⟩)] V fun e w' => e = .returned (.bool (R j (tr'.set k true) out').1) ∧ AS B w' bo bt bw bk go co gt n cap A s (R j (tr'.set k true) out').2.2 (R j (tr'.set k true) out').2.1) := fun V h => IH.out j out' (tr'.set k true) V hj HTL2.out HOL.out HOK.out HC2.out h
              have AY : Hid ((R j (tr'.set k true) out').1 = true → res = (true, (R j (tr'.set k true) out').2.1, (R j (tr'.set k true) out').2.2.set k (i : Int))) := fun h => HE.out.trans (augL_yes hkn HT.out HL.out HJ.out h)
              have AN : Hid ((R j (tr'.set k true) out').1 = false → res = augL R L i n d' (R j (tr'.set k true) out').2.1 (R j (tr'.set k true) out').2.2) := fun h => HE.out.trans (augL_no hkn HT.out HL.out HJ.out h)
              clear hoj HE IH AP
              generalize R j (tr'.set k true) out' = r at *
              obtain ⟨rb, rt, ro⟩ := r
              cases rb
              case true =>
                have HN : Hid (res = (true, rt, ro.set k (i : Int))) := AY.out rfl
                clear AY AN
                refine wp_region_tail 0 11 (by kernel_rfl) (by kernel_rfl) ?_
                simp only [List.take_succ_cons, List.take_zero, List.drop_succ_cons, List.drop_zero]
                repeat (go_big_quiet_step ((fail)))
                refine wpQuiet_nil ?_
                intro z
                go_wp2_with (go_at_call 52; with_reducible refine Calls.mono (IH1.out _ (AS2.out.later z)) ?_; rintro e w' ⟨rfl, has3⟩; have AS3 := Lib.hid has3; clear has3)
                refine calm_normal ?_
                obtain ⟨y0, _, y2⟩ := box_facts AS3.out.xo
                obtain ⟨_, o4⟩ := AS3.out.oo.cell P1.out.len hlt
                have y5 := (own_lt AS3.out.oo go rfl).2
                have y6 := o4 k
                clear o4
                go_wp2_with fail
                go_ret
                exact ⟨ret_bool (by rw [HN.out]), by rw [HN.out]; exact AS3.out.put P1.out.len k i⟩
              case false =>
                have HN : Hid (res = augL R L i n d' rt ro) := AN.out rfl
                clear AY AN
                refine wp_region_tail 0 11 (by kernel_rfl) (by kernel_rfl) ?_
                simp only [List.take_succ_cons, List.take_zero, List.drop_succ_cons, List.drop_zero]
                repeat (go_big_quiet_step ((fail)))
                refine wpQuiet_nil ?_
                intro z
                go_wp2_with (go_at_call 52; with_reducible refine Calls.mono (IH1.out _ (AS2.out.later z)) ?_; rintro e w' ⟨rfl, has3⟩; have AS3 := Lib.hid has3; clear has3)
                refine calm_normal ?_
                go_wp2_with fail
                go_roundw
                case rel => exact ⟨k + 1, d', rt, ro, by go_num, by omega, P1.out.trl, P1.out.len, P1.out.okm, by
                  have h1 := countF_le (tr'.set k true) rt (HTL2.out.trans P1.out.trl.symm) fun q h1 h2 => P1.out.grow q (by have := HTL2.out; omega) h2
                  have := HC2.out
                  omega, AS3.out, HN.out⟩
                case measure => simp [intOf]; omega
      · obtain rfl : d = 0 := by omega
        obtain rfl : k = n := by omega
        have HN : Hid (res = (false, tr', out')) := HE.out
        clear HE
        go_wp2_with fail
        go_ret
        exact ⟨ret_bool (by rw [HN.out]), by rw [HN.out]; exact HAS.out⟩
end Go.Proofs.Ytlljjaafejjeeaa
