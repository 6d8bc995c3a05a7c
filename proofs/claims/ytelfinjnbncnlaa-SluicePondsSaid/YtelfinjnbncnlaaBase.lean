/- Small words for all walks of this seat: worlds that come later than a world, posts in memory, bounds of products. -/
import Derived.Test.YtelfinjnbncnlaaProg
import Derived.WalkKit
import Derived.WalkSpells
import Derived.Lib.Hide
import Derived.Deep.QuietTactic
import Derived.BigQuiet
namespace Go.Proofs.Ytelfinjnbncnlaa
open Go.RowKit

/-- A world that comes later than w: what lay in w lies in it as it lay. -/
structure Later (w : World) where
  val : World
  ok : Below w.heap.size w val

instance laterThere (w : World) : Nonempty (Later w) := ⟨⟨w, Below.refl _ _⟩⟩

theorem Later.cell {w : World} (x : Later w) (b o : Nat) (h : b < w.heap.size) : x.val.cell? ⟨b, o, none⟩ = w.cell? ⟨b, o, none⟩ := x.ok.cell (p := ⟨b, o, none⟩) h
theorem Later.frozen {w : World} (x : Later w) (b o : Nat) (h : b < w.heap.size) : x.val.frozen? ⟨b, o, none⟩ = w.frozen? ⟨b, o, none⟩ := x.ok.frozen (p := ⟨b, o, none⟩) h
theorem Later.size {w : World} (x : Later w) : w.heap.size ≤ x.val.heap.size := x.ok.size

theorem Later.lt {w : World} (x : Later w) (n : Nat) (h : n < w.heap.size) : n < x.val.heap.size := Nat.lt_of_lt_of_le h x.ok.size

theorem below_more {w w1 w2 : World} (h : Below w.heap.size w w1) (k : Below w1.heap.size w1 w2) : Below w.heap.size w w2 := h.trans (k.mono h.size)
theorem below_later {w w1 : World} {x : Later w1} (h : Below w.heap.size w w1) : Below w.heap.size w x.val := below_more h x.ok
theorem below_alloc {w w1 : World} {o : Obj} (h : Below w.heap.size w w1) : Below w.heap.size w (w1.alloc o) := h.alloc h.size o
theorem below_drew {w w1 : World} (h : Below w.heap.size w w1) : Below w.heap.size w w1.drew := h.drew
theorem below_drewN {w w1 : World} {n : Nat} (h : Below w.heap.size w w1) : Below w.heap.size w (w1.drewN n) := ⟨h.os, h.tape, h.output, h.size, h.block⟩
theorem later_of {w w' : World} (h : Below w.heap.size w w') : ∃ x : Later w, w' = x.val := ⟨⟨w', h⟩, rfl⟩

/-! A row of the call's own, in later worlds. -/
theorem grown_of_later {w : World} (x : Later w) : w.grownBy x.val none := ⟨x.ok.os, x.ok.tape, x.ok.output, x.ok.size, fun i hi _ => x.ok.block i hi⟩
theorem own_later {w : World} {base : Nat} {e : TypeId} {size : Nat} {v : Value} {n : Nat} {xs : List Value} (h : w.ownsRow base e size v n xs) (x : Later w) : x.val.ownsRow base e size v n xs :=
  h.kept (grown_of_later x) (by cases v.ownBlock <;> simp)
theorem own_lt {w : World} {base : Nat} {e : TypeId} {size : Nat} {v : Value} {n : Nat} {xs : List Value} (h : w.ownsRow base e size v n xs) : ∀ g, v.ownBlock = some g → base ≤ g ∧ g < w.heap.size := by
  intro g hg
  rcases h.2 with ⟨rfl, _⟩ | ⟨g', cap, cur, rfl, hb, hh, _⟩
  · simp [Value.ownBlock] at hg
  · have : g' = g := by simpa [Value.ownBlock] using hg
    subst this
    exact ⟨hb, (Array.getElem?_eq_some_iff.1 hh).1⟩
theorem below_own {w w1 w2 : World} {base : Nat} {e : TypeId} {size : Nat} {v : Value} {n : Nat} {xs : List Value} (h : Below w.heap.size w w1) (hown : w1.ownsRow base e size v n xs) (hb : w.heap.size ≤ base) (hg : w1.grownBy w2 v.ownBlock) : Below w.heap.size w w2 :=
  h.grown hg h.size fun k hk => Nat.le_trans hb (own_lt hown k hk).1
/-- What an append onto an owned row leaves of the blocks made behind it. -/
theorem grown_cell {w0 w1 w2 : World} {base : Nat} {e : TypeId} {size : Nat} {v : Value} {n : Nat} {xs : List Value} (hg : w1.grownBy w2 v.ownBlock) (hown : w0.ownsRow base e size v n xs) {k : Nat} (o : Nat) (hk : w0.heap.size ≤ k) (hk2 : k < w1.heap.size) : w2.cell? ⟨k, o, none⟩ = w1.cell? ⟨k, o, none⟩ :=
  World.cell?_of_block (hg.block k hk2 fun e => by have := own_lt hown k e.symm; omega)
theorem grown_cell_old {w1 w2 : World} {base : Nat} {e : TypeId} {size : Nat} {v : Value} {n : Nat} {xs : List Value} (hg : w1.grownBy w2 v.ownBlock) (hown : w1.ownsRow base e size v n xs) {k : Nat} (o : Nat) (hk : k < base) (hk2 : k < w1.heap.size) : w2.cell? ⟨k, o, none⟩ = w1.cell? ⟨k, o, none⟩ :=
  World.cell?_of_block (hg.block k hk2 fun e => by have := own_lt hown k e.symm; omega)
theorem later_var {P : Program} {w : World} {name : String} {cs : Array Value} (h : w.var? P name = some cs) (x : Later w) : x.val.var? P name = some cs := by
  unfold World.var? at h ⊢
  cases hg : P.globalNamed name with
  | none => rw [hg] at h; simp at h
  | some g =>
    rw [hg] at h
    simp only [Option.bind_some] at h ⊢
    rcases Nat.lt_or_ge g w.heap.size with hlt | hge
    · rw [x.ok.block g hlt]; exact h
    · rw [Array.getElem?_eq_none hge] at h; simp at h

/-- The plain contract: a value, and a later world. -/
def Gives (P : Program) (f : FuncId) (args : Array Value) (w : World) (v : Value) : Prop :=
  Calls P f args w fun e w' => e = .returned v ∧ ∃ x : Later w, w' = x.val

theorem Gives.calls {P : Program} {f : FuncId} {args : Array Value} {w : World} {v : Value} (h : Gives P f args w v) : Calls P f args w fun e w' => e = .returned v ∧ ∃ x : Later w, w' = x.val := h

/-- A callee's contract, met in a later world. -/
theorem Later.call {P : Program} {f : FuncId} {args : Array Value} {w : World} {v : Value} (x : Later w)
    (h : Gives P f args x.val v) : Calls P f args x.val fun e w'' => e = .returned v ∧ ∃ y : Later w, w'' = y.val :=
  Calls.mono h fun _ w'' ⟨he, y, hy⟩ => ⟨he, ⟨w'', by rw [hy]; exact below_more x.ok y.ok⟩, rfl⟩

/-- A region that draws its order, whose operations read and whose callees turn nothing that was there. -/
theorem wp_region_later_at {P : Program} {id : Nat} {Q : Exit → Act → World → Prop} {a : Act} {w : World} (x : Later w) {l : List Oper} (hm : P.follows .mixedOrders = true) (hB : Region.lexB .any l.toArray = true)
    (h : wpQuiet P l.toArray (fun w' => ∃ x : Later w, w' = x.val) (fun a' => ∀ x : Later w, Q .normal a' x.val) l a) : (Code.region id l.toArray true).wp P Q a x.val := by
  refine wp_region_quiet (C := fun w' => ∃ x : Later w, w' = x.val) hm hB ⟨⟨x.val.drew, x.ok.drew⟩, rfl⟩ ?_
  have e : (fun a' => ∀ w', (∃ x : Later w, w' = x.val) → Q .normal a' w') = fun a' => ∀ x : Later w, Q .normal a' x.val := by
    funext a'
    apply propext
    constructor
    · intro h x
      exact h _ ⟨x, rfl⟩
    · rintro h w' ⟨x, rfl⟩
      exact h x
  rw [e]
  exact h
theorem wp_region_later {P : Program} {id : Nat} {Q : Exit → Act → World → Prop} {a : Act} {w : World} {l : List Oper} (hm : P.follows .mixedOrders = true) (hB : Region.lexB .any l.toArray = true)
    (h : wpQuiet P l.toArray (fun w' => ∃ x : Later w, w' = x.val) (fun a' => ∀ x : Later w, Q .normal a' x.val) l a) : (Code.region id l.toArray true).wp P Q a w :=
  wp_region_later_at ⟨w, Below.refl _ _⟩ hm hB h

theorem mul_bd {a b : Int} (m n : Int) (h0 : -m ≤ a) (h1 : a ≤ m) (h2 : -n ≤ b) (h3 : b ≤ n) : -(m*n) ≤ a*b ∧ a*b ≤ m*n := by
  have hm : 0 ≤ m := by omega
  have hn : 0 ≤ n := by omega
  have e1 : 0 ≤ (m - a) * (n + b) := Int.mul_nonneg (by omega) (by omega)
  have e2 : 0 ≤ (m + a) * (n - b) := Int.mul_nonneg (by omega) (by omega)
  have e3 : 0 ≤ (m - a) * (n - b) := Int.mul_nonneg (by omega) (by omega)
  have e4 : 0 ≤ (m + a) * (n + b) := Int.mul_nonneg (by omega) (by omega)
  simp only [Int.sub_mul, Int.mul_sub, Int.add_mul, Int.mul_add] at e1 e2 e3 e4
  omega

theorem ret_int {k : IntKind} {a b : Int} (h : a = b) : Ending.returned (.int k a) = .returned (.int k b) := by rw [h]
theorem ret_bool {a b : Bool} (h : a = b) : Ending.returned (.bool a) = .returned (.bool b) := by rw [h]
section
variable {w : World} {b o : Nat} {o1 o2 o3 o4 : Obj}
theorem cell_alloc2 (h : b < w.heap.size) : ((w.alloc o1).alloc o2).cell? ⟨b, o, none⟩ = w.cell? ⟨b, o, none⟩ := by
  rw [World.cell?_alloc_lt _ _ _ (by simp; omega), World.cell?_alloc_lt _ _ _ (by simpa using h)]
theorem cell_alloc3 (h : b < w.heap.size) : (((w.alloc o1).alloc o2).alloc o3).cell? ⟨b, o, none⟩ = w.cell? ⟨b, o, none⟩ := by
  rw [World.cell?_alloc_lt _ _ _ (by simp; omega), cell_alloc2 h]
theorem cell_alloc4 (h : b < w.heap.size) : ((((w.alloc o1).alloc o2).alloc o3).alloc o4).cell? ⟨b, o, none⟩ = w.cell? ⟨b, o, none⟩ := by
  rw [World.cell?_alloc_lt _ _ _ (by simp; omega), cell_alloc3 h]
end
attribute [go_sem] cell_alloc2 cell_alloc3 cell_alloc4
attribute [go_sem] Later.cell Later.frozen Later.lt
end Go.Proofs.Ytelfinjnbncnlaa
