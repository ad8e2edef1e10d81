/-
  Operations by their runs: a store of one cell, a delete. No conditions but those that each law names.
-/
import Derived.Test.YtlldkcelkgnalaaLane
import Derived.Test.YtlldkcelkgnalaaWl
namespace Go.Proofs.Ytlldkcelkgnalaa
open Go.ChangeShapes Go.WideShapes Go.ChangeAt Go.RowKit

/-- A store of one cell. -/
theorem exec_store_one {P : Program} {o : Oper} {a : Act} {w : World} {ty : TypeId} {x y : Operand} {b p : Nat} {v u : Value} (ho : o.op = .store ty x y) (hx : a.eval x = .pointer (some ⟨b, p, none⟩)) (hy : a.eval y = v) (hs : (P.info? ty).map (·.size) = some 1) (h1 : v.oneCell' = true)
    (hc : w.cell? ⟨b, p, none⟩ = some u) (hf : w.frozen? ⟨b, p, none⟩ = false) : (execOp a.eval o).run P w = .ok .skip (w.setCell ⟨b, p, none⟩ v) := by
  have hst := run_storeCells_cells (P := P) b p [v] 0 w (fun j hj => by
    obtain rfl : j = 0 := by simpa using hj
    show (w.cell? ⟨b, p, none⟩).isSome = true; rw [hc]; rfl) (fun j hj => by
    obtain rfl : j = 0 := by simpa using hj
    exact hf) (fun z hz => by rw [List.mem_singleton] at hz; rw [hz]; exact h1)
  have hv : v.cells = #[v] := by cases v <;> first | rfl | cases h1
  cases hq : P.info? ty with
  | none => simp [hq] at hs
  | some i =>
    have hi : i.size = 1 := by simpa [hq] using hs
    have hrun : (storeVar ty ⟨b, p, none⟩ v).run P w = .ok () (w.setCell ⟨b, p, none⟩ v) := by
      simp [storeVar, sizeOf, typeInfo, hq, hv, hi, hst]
      rfl
    unfold execOp
    simp only [ho, hx, hy, Instr.storeAt, Instr.sureAddr, Sem.run_bind, Sem.run_pure, Result.andThen_ok, hrun]
theorem exec_delete {P : Program} {o : Oper} {a : Act} {w w' : World} {t k : TypeId} {m x : Operand} {mv kv v : Value} (ho : o.op = .call { callee := .builtin .delete, args := #[m, x], argTypes := #[t, k] }) (hm : a.eval m = mv) (hx : a.eval x = kv) (hr : (Builtin.delete_ #[t, k] o.type #[mv, kv]).run P w = .ok v w') : (execOp a.eval o).run P w = .ok (.value v) w' := by
  unfold execOp; simp only [ho, resolve, invoke, builtin, Sem.run_bind, Sem.run_pure, Result.andThen_ok, List.map_toArray, List.map_cons, List.map_nil, hm, hx, hr]
end Go.Proofs.Ytlldkcelkgnalaa
