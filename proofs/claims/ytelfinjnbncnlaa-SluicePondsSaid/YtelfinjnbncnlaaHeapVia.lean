/- The methods of outlets, by way of the interface that a heap takes. -/
import Derived.Test.YtelfinjnbncnlaaHeapM
namespace Go.Proofs.Ytelfinjnbncnlaa
open Go.RowKit

theorem nil_chk (a : Array TypeId) (t : TypeId) (p : Addr) (x y : String) : Builtin.ssaWrapNilChk_ a t #[.pointer (some p), strVal x, strVal y] = pure (.pointer (some p)) := rfl
theorem row_Len : (Array.find? (fun x => x.name == "Len") Try.t71.methods).map (fun m => (m.path, m.func)) = some (#[], some (80, false)) := by kernel_rfl
theorem via_Len (k bo : Nat) (v : Value) (w : World) (h : w.cell? ⟨bo, 0, none⟩ = some v) : (method (k + 1) 71 (.pointer (some ⟨bo, 0, none⟩)) "Len").run Try.prog w = .ok (80, v) w := by
  have r := row_Len
  cases hm : Array.find? (fun x => x.name == "Len") Try.t71.methods with
  | none => rw [hm] at r; cases r
  | some m =>
    rw [hm] at r
    simp only [Option.map_some, Option.some.injEq, Prod.mk.injEq] at r
    unfold method
    simp [go_sem, hm, r.1, r.2, follow, receiverAt, Place.get, nil_chk, h]
theorem row_Less : (Array.find? (fun x => x.name == "Less") Try.t71.methods).map (fun m => (m.path, m.func)) = some (#[], some (81, false)) := by kernel_rfl
theorem via_Less (k bo : Nat) (v : Value) (w : World) (h : w.cell? ⟨bo, 0, none⟩ = some v) : (method (k + 1) 71 (.pointer (some ⟨bo, 0, none⟩)) "Less").run Try.prog w = .ok (81, v) w := by
  have r := row_Less
  cases hm : Array.find? (fun x => x.name == "Less") Try.t71.methods with
  | none => rw [hm] at r; cases r
  | some m =>
    rw [hm] at r
    simp only [Option.map_some, Option.some.injEq, Prod.mk.injEq] at r
    unfold method
    simp [go_sem, hm, r.1, r.2, follow, receiverAt, Place.get, nil_chk, h]
theorem row_Swap : (Array.find? (fun x => x.name == "Swap") Try.t71.methods).map (fun m => (m.path, m.func)) = some (#[], some (82, false)) := by kernel_rfl
theorem via_Swap (k bo : Nat) (v : Value) (w : World) (h : w.cell? ⟨bo, 0, none⟩ = some v) : (method (k + 1) 71 (.pointer (some ⟨bo, 0, none⟩)) "Swap").run Try.prog w = .ok (82, v) w := by
  have r := row_Swap
  cases hm : Array.find? (fun x => x.name == "Swap") Try.t71.methods with
  | none => rw [hm] at r; cases r
  | some m =>
    rw [hm] at r
    simp only [Option.map_some, Option.some.injEq, Prod.mk.injEq] at r
    unfold method
    simp [go_sem, hm, r.1, r.2, follow, receiverAt, Place.get, nil_chk, h]
theorem row_Push : (Array.find? (fun x => x.name == "Push") Try.t71.methods).map (fun m => (m.path, m.func)) = some (#[], some (84, true)) := by kernel_rfl
theorem via_Push (k : Nat) (v : Value) (w : World) : (method (k + 1) 71 v "Push").run Try.prog w = .ok (84, v) w := by
  have r := row_Push
  cases hm : Array.find? (fun x => x.name == "Push") Try.t71.methods with
  | none => rw [hm] at r; cases r
  | some m =>
    rw [hm] at r
    simp only [Option.map_some, Option.some.injEq, Prod.mk.injEq] at r
    unfold method
    simp [go_sem, hm, r.1, r.2, follow, receiverAt, Place.get]
theorem row_Pop : (Array.find? (fun x => x.name == "Pop") Try.t71.methods).map (fun m => (m.path, m.func)) = some (#[], some (83, true)) := by kernel_rfl
theorem via_Pop (k : Nat) (v : Value) (w : World) : (method (k + 1) 71 v "Pop").run Try.prog w = .ok (83, v) w := by
  have r := row_Pop
  cases hm : Array.find? (fun x => x.name == "Pop") Try.t71.methods with
  | none => rw [hm] at r; cases r
  | some m =>
    rw [hm] at r
    simp only [Option.map_some, Option.some.injEq, Prod.mk.injEq] at r
    unfold method
    simp [go_sem, hm, r.1, r.2, follow, receiverAt, Place.get]
end Go.Proofs.Ytelfinjnbncnlaa
