/-
  Blocks of an opaque world looked up; whole structs loaded and stored as one block. No conditions but those that each law names.
-/
import Derived.Test.YtlldkcelkgnalaaBoxed
import Derived.Laws.Rows
import Derived.Deep.MidRow
import Derived.Laws.ResultCell
namespace Go.Proofs.Ytlldkcelkgnalaa
open Go.ChangeShapes Go.WideShapes Go.ChangeAt Go.RowKit

section
variable {w : World} {n m : Nat} {o o' : Obj} {cs cs' : Array Value} {t : TypeId}
theorem alloc_at (h : n = w.heap.size) : (w.alloc o).heap[n]? = some o := by rw [h]; exact alloc_block
theorem alloc_old (h : n < w.heap.size) (k : w.heap[n]? = some o') : (w.alloc o).heap[n]? = some o' := (alloc_block_old h).trans k
theorem boxed_at (h : n < w.heap.size) : (boxed w n cs t).heap[n]? = some (.cells cs t (0, 0)) := boxed_block h
theorem boxed_old (h : m ≠ n) (k : w.heap[m]? = some o') : (boxed w n cs t).heap[m]? = some o' := (boxed_block_other h).trans k
theorem drew_old (k : w.heap[m]? = some o') : w.drew.heap[m]? = some o' := k
theorem boxed_again : boxed (boxed w n cs t) n cs' t = boxed w n cs' t := by
  unfold boxed
  congr 1
  apply Array.ext_getElem?
  intro i
  simp only [Array.getElem?_setIfInBounds, Array.size_setIfInBounds]
  by_cases e : n = i <;> simp [e]
theorem boxed_cell_lt {i : Nat} (h : m < n) : (boxed w n cs t).cell? ⟨m, i, none⟩ = w.cell? ⟨m, i, none⟩ := boxed_cell_other (by omega)
theorem boxed_cell_gt {i : Nat} (h : n < m) : (boxed w n cs t).cell? ⟨m, i, none⟩ = w.cell? ⟨m, i, none⟩ := boxed_cell_other (by omega)
theorem boxed_frozen_lt {i : Nat} (h : m < n) : (boxed w n cs t).frozen? ⟨m, i, none⟩ = w.frozen? ⟨m, i, none⟩ := boxed_frozen_other (by omega)
theorem boxed_frozen_gt {i : Nat} (h : n < m) : (boxed w n cs t).frozen? ⟨m, i, none⟩ = w.frozen? ⟨m, i, none⟩ := boxed_frozen_other (by omega)
theorem boxed_set_lt {i : Nat} {v : Value} (h : m < n) : (boxed w n cs t).setCell ⟨m, i, none⟩ v = boxed (w.setCell ⟨m, i, none⟩ v) n cs t := boxed_set_other (by omega)
theorem boxed_set_gt {i : Nat} {v : Value} (h : n < m) : (boxed w n cs t).setCell ⟨m, i, none⟩ v = boxed (w.setCell ⟨m, i, none⟩ v) n cs t := boxed_set_other (by omega)
attribute [simp, go_sem] boxed_again
attribute [simp, go_sem] boxed_cell_lt boxed_cell_gt boxed_frozen_lt boxed_frozen_gt boxed_set_lt boxed_set_gt
theorem row_boxed (h : w.heap[n]? = some (.cells cs t (0, 0))) : w.setRow n cs' = boxed w n cs' t := by
  unfold World.setRow boxed
  congr 1
  apply Array.ext_getElem?
  intro i
  rw [Array.getElem?_modify, Array.getElem?_setIfInBounds]
  by_cases e : n = i
  · subst e
    rw [if_pos rfl, if_pos rfl, if_pos (Array.getElem?_eq_some_iff.1 h).1, h]; rfl
  · simp [e]
end

/-- A struct out of its block, and a value. -/
theorem results_row_tmp {P : Program} {fn : Func} {p u : Tmp} {ty : TypeId} (h : fn.results = #[.cell p ty, .tmp u]) (tmps : Array Value) (w : World) (g : Nat) (t : TypeId) (cs : Array Value) (fr : Nat × Nat) (d : TypeDesc)
    (hp : tmps.getD p undef = .pointer (some ⟨g, 0, none⟩)) (hg : w.heap[g]? = some (.cells cs t fr)) (hu : P.underlying ty = some d) (hd : (match d with | .struct _ | .array _ _ => true | _ => false) = true) (hi : (P.info? ty).map (·.size) = some cs.size) :
    (results fn tmps).run P w = .ok (.tuple #[.agg cs, tmps.getD u undef]) w := by
  rw [results_cell_tmp h, hp]
  simp [asAddr, run_loadVar_row w g t ty cs fr d hg hu hd hi]

section
variable {P : Program} {ops : Array Oper} {Q : Exit → Act → World → Prop} {a : Act} {w : World} {rest : List Oper} {o : Oper}
/-- A whole struct out of its block, in one step. -/
theorem wl_load {t : TypeId} {x : Operand} {g m : Nat} {cs : Array Value} {d : TypeDesc} {fr : Nat × Nat} (hu : P.underlying t = some d) (hd : (match d with | .struct _ | .array _ _ => true | _ => false) = true) (hi : (P.info? t).map (·.size) = some m)
    (ho : o.op = .load t x) (hw : Region.wanted o (yielded ops a.tmps) = true) (hx : a.eval x = .pointer (some ⟨g, 0, none⟩)) (hg : w.heap[g]? = some (.cells cs t fr))
    (hs : cs.size = m) (h : wpList P ops Q rest (a.put o.dst (.agg cs)) w) : wpList P ops Q (o :: rest) a w := by
  refine wpList_step fun K hK => ?_
  rw [if_pos hw]
  exact wp_load_row t x ho g hx t cs fr d hg hu hd (by rw [hi, hs]) (hK _ _ h)
/-- A whole struct into its block, in one step. -/
theorem wl_store {t : TypeId} {x y : Operand} {g m : Nat} {cs cs' : Array Value} (hi : (P.info? t).map (·.size) = some m)
    (ho : o.op = .store t x y) (hw : Region.wanted o (yielded ops a.tmps) = true) (hx : a.eval x = .pointer (some ⟨g, 0, none⟩)) (hy : a.eval y = .agg cs') (hg : w.heap[g]? = some (.cells cs t (0, 0)))
    (hc : cs.size = m) (hc' : cs'.size = m) (h1 : cs'.all (·.oneCell') = true) (h : wpList P ops Q rest (a.put o.dst undef) (boxed w g cs' t)) : wpList P ops Q (o :: rest) a w := by
  refine wpList_step fun K hK => ?_
  rw [if_pos hw]
  refine wp_store_row t x y ho g cs' hx hy t cs hg (by rw [hi, hc']) (by rw [hc, hc']) h1 (hK _ _ ?_)
  rw [row_boxed hg]
  exact h
end
end Go.Proofs.Ytlldkcelkgnalaa
