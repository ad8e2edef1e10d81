/-
  Orders by their fields: which may be, what their kinds name, the law's order that may be; whole orders loaded and stored as one block. No conditions but those that each law names.
-/
import Derived.Test.YtambppcnmggocaaNt
import Derived.Laws.Rows
import Derived.Deep.MidRow
namespace Go.Proofs.Ytambppcnmggocaa
set_option maxRecDepth 20000
open Go.ChangeShapes Go.WideShapes Go.ChangeAt Go.RowKit

section
variable {w : World} {n m : Nat} {o o' : Obj} {cs cs' : Array Value} {t : TypeId}
theorem alloc_at (h : n = w.heap.size) : (w.alloc o).heap[n]? = some o := by rw [h]; exact alloc_block
theorem alloc_old (h : n < w.heap.size) (k : w.heap[n]? = some o') : (w.alloc o).heap[n]? = some o' := (alloc_block_old h).trans k
theorem boxed_at (h : n < w.heap.size) : (boxed w n cs t).heap[n]? = some (.cells cs t (0, 0)) := boxed_block h
theorem boxed_old (h : m ≠ n) (k : w.heap[m]? = some o') : (boxed w n cs t).heap[m]? = some o' := (boxed_block_other h).trans k
theorem drew_old (k : w.heap[m]? = some o') : w.drew.heap[m]? = some o' := k
theorem boxed_again : boxed (boxed w n cs t) n cs' t = boxed w n cs' t := by
  unfold boxed
  congr 1
  apply Array.ext_getElem?
  intro i
  simp only [Array.getElem?_setIfInBounds, Array.size_setIfInBounds]
  by_cases e : n = i <;> simp [e]
theorem boxed_cell_lt {i : Nat} (h : m < n) : (boxed w n cs t).cell? ⟨m, i, none⟩ = w.cell? ⟨m, i, none⟩ := boxed_cell_other (by omega)
theorem boxed_cell_gt {i : Nat} (h : n < m) : (boxed w n cs t).cell? ⟨m, i, none⟩ = w.cell? ⟨m, i, none⟩ := boxed_cell_other (by omega)
theorem boxed_frozen_lt {i : Nat} (h : m < n) : (boxed w n cs t).frozen? ⟨m, i, none⟩ = w.frozen? ⟨m, i, none⟩ := boxed_frozen_other (by omega)
theorem boxed_frozen_gt {i : Nat} (h : n < m) : (boxed w n cs t).frozen? ⟨m, i, none⟩ = w.frozen? ⟨m, i, none⟩ := boxed_frozen_other (by omega)
theorem boxed_set_lt {i : Nat} {v : Value} (h : m < n) : (boxed w n cs t).setCell ⟨m, i, none⟩ v = boxed (w.setCell ⟨m, i, none⟩ v) n cs t := boxed_set_other (by omega)
theorem boxed_set_gt {i : Nat} {v : Value} (h : n < m) : (boxed w n cs t).setCell ⟨m, i, none⟩ v = boxed (w.setCell ⟨m, i, none⟩ v) n cs t := boxed_set_other (by omega)
attribute [simp, go_sem] boxed_again
attribute [simp, go_sem] boxed_cell_lt boxed_cell_gt boxed_frozen_lt boxed_frozen_gt boxed_set_lt boxed_set_gt
theorem row_boxed (h : w.heap[n]? = some (.cells cs t (0, 0))) : w.setRow n cs' = boxed w n cs' t := by
  unfold World.setRow boxed
  congr 1
  apply Array.ext_getElem?
  intro i
  rw [Array.getElem?_modify, Array.getElem?_setIfInBounds]
  by_cases e : n = i
  · subst e
    rw [if_pos rfl, if_pos rfl, if_pos (Array.getElem?_eq_some_iff.1 h).1, h]; rfl
  · simp [e]
end

section
variable {P : Program} {ops : Array Oper} {Q : Exit → Act → World → Prop} {a : Act} {w : World} {rest : List Oper} {o : Oper}
/-- A whole struct out of its block, in one step. -/
theorem wl_load {t : TypeId} {x : Operand} {g m : Nat} {cs : Array Value} {d : TypeDesc} {fr : Nat × Nat} (hu : P.underlying t = some d) (hd : (match d with | .struct _ | .array _ _ => true | _ => false) = true) (hi : (P.info? t).map (·.size) = some m)
    (ho : o.op = .load t x) (hw : Region.wanted o (yielded ops a.tmps) = true) (hx : a.eval x = .pointer (some ⟨g, 0, none⟩)) (hg : w.heap[g]? = some (.cells cs t fr))
    (hs : cs.size = m) (h : wpList P ops Q rest (a.put o.dst (.agg cs)) w) : wpList P ops Q (o :: rest) a w := by
  refine wpList_step fun K hK => ?_
  rw [if_pos hw]
  exact wp_load_row t x ho g hx t cs fr d hg hu hd (by rw [hi, hs]) (hK _ _ h)
/-- A whole struct into its block, in one step. -/
theorem wl_store {t : TypeId} {x y : Operand} {g m : Nat} {cs cs' : Array Value} (hi : (P.info? t).map (·.size) = some m)
    (ho : o.op = .store t x y) (hw : Region.wanted o (yielded ops a.tmps) = true) (hx : a.eval x = .pointer (some ⟨g, 0, none⟩)) (hy : a.eval y = .agg cs') (hg : w.heap[g]? = some (.cells cs t (0, 0)))
    (hc : cs.size = m) (hc' : cs'.size = m) (h1 : cs'.all (·.oneCell') = true) (h : wpList P ops Q rest (a.put o.dst undef) (boxed w g cs' t)) : wpList P ops Q (o :: rest) a w := by
  refine wpList_step fun K hK => ?_
  rw [if_pos hw]
  refine wp_store_row t x y ho g cs' hx hy t cs hg (by rw [hi, hc']) (by rw [hc, hc']) h1 (hK _ _ ?_)
  rw [row_boxed hg]
  exact h
end
theorem info16 : (Try.prog.info? 27).map (·.size) = some 16 := by kernel_rfl

instance pvEq (x y : Pv) : Decidable (x = y) := decidable_of_iff (x.a = y.a ∧ x.u = y.u ∧ x.e = y.e ∧ x.t = y.t ∧ x.g = y.g ∧ x.l = y.l) (by cases x; cases y; simp)
instance nvEq (x y : Nv) : Decidable (x = y) := decidable_of_iff (x.k = y.k ∧ x.s = y.s ∧ x.c = y.c ∧ x.t = y.t ∧ x.a = y.a ∧ x.v = y.v) (by cases x; cases y; simp)
/-- An order, by its fields. -/
structure Ov where
  k : Int
  s : Int
  p : Int
  n : Int
  P : Pv
  A : Nv
instance ovEq (x y : Ov) : Decidable (x = y) := decidable_of_iff (x.k = y.k ∧ x.s = y.s ∧ x.p = y.p ∧ x.n = y.n ∧ x.P = y.P ∧ x.A = y.A) (by cases x; cases y; simp)
def Pv.zero : Pv := ⟨0, 0, 0, 0, false, false⟩
def Ov.zero : Ov := ⟨0, 0, 0, 0, Pv.zero, Nv.zero⟩
def Ov.val (o : Ov) : Value := .agg #[.int .u8 o.k, .int .i64 o.s, .int .i64 o.p, .int .i64 o.n, .int .i64 o.P.a, .int .u8 o.P.u, .int .i64 o.P.e, .int .i64 o.P.t, .bool o.P.g, .bool o.P.l, .int .u8 o.A.k, .int .i64 o.A.s, .int .i64 o.A.c, .int .i64 o.A.t, .int .i64 o.A.a, .int .u8 o.A.v]
def Ov.Wf (o : Ov) : Prop := (0 ≤ o.k ∧ o.k < 256) ∧ (-9223372036854775808 ≤ o.s ∧ o.s ≤ 9223372036854775807) ∧ (-9223372036854775808 ≤ o.p ∧ o.p ≤ 9223372036854775807) ∧ (-9223372036854775808 ≤ o.n ∧ o.n ≤ 9223372036854775807) ∧ o.P.Wf ∧ o.A.Wf
/-- What a kind names. -/
def nm (k : Int) : Int := if k = 1 then 1 else if k = 2 ∨ k = 3 then 2 else if 4 ≤ k ∧ k ≤ 8 then 3 else if k = 9 then 4 else if k = 10 then 5 else 0
theorem nm_ways {P : Prop} (k : Int) (h0 : nm k = 0 → k ≠ 1 → P) (h1 : nm k = 1 → k = 1 → P) (h2 : nm k = 2 → k ≠ 1 → P) (h3 : nm k = 3 → k ≠ 1 → P) (h4 : nm k = 4 → k ≠ 1 → P) (h5 : nm k = 5 → k ≠ 1 → P) : P := by
  by_cases c1 : k = 1
  · exact h1 (by unfold nm; rw [if_pos c1]) c1
  by_cases c2 : k = 2 ∨ k = 3
  · exact h2 (by unfold nm; rw [if_neg c1, if_pos c2]) c1
  by_cases c3 : 4 ≤ k ∧ k ≤ 8
  · exact h3 (by unfold nm; rw [if_neg c1, if_neg c2, if_pos c3]) c1
  by_cases c4 : k = 9
  · exact h4 (by unfold nm; rw [if_neg c1, if_neg c2, if_neg c3, if_pos c4]) c1
  by_cases c5 : k = 10
  · exact h5 (by unfold nm; rw [if_neg c1, if_neg c2, if_neg c3, if_neg c4, if_pos c5]) c1
  · exact h0 (by unfold nm; rw [if_neg c1, if_neg c2, if_neg c3, if_neg c4, if_neg c5]) c1
/-- With what its kind names alone. -/
def Ov.named (o : Ov) : Ov :=
  if nm o.k = 1 then ⟨o.k, 0, 0, 0, o.P, Nv.zero⟩ else if nm o.k = 2 then ⟨o.k, o.s, o.p, 0, Pv.zero, Nv.zero⟩ else if nm o.k = 3 then ⟨o.k, o.s, 0, 0, Pv.zero, Nv.zero⟩
  else if nm o.k = 4 then ⟨o.k, 0, 0, o.n, Pv.zero, Nv.zero⟩ else if nm o.k = 5 then ⟨o.k, 0, 0, 0, Pv.zero, o.A⟩ else ⟨o.k, 0, 0, 0, Pv.zero, Nv.zero⟩
/-- May what it names be? (Of a plan Pn.right tells.) -/
def Ov.Num (o : Ov) : Prop := nm o.k = 1 ∨ (nm o.k = 2 ∧ 0 ≤ o.s ∧ o.s < 32 ∧ 0 ≤ o.p ∧ o.p < 8) ∨ (nm o.k = 3 ∧ 0 ≤ o.s ∧ o.s < 32) ∨ (nm o.k = 4 ∧ 1 ≤ o.n ∧ o.n ≤ 60) ∨ (nm o.k = 5 ∧ o.A.Ans)
instance Ov.numDec (o : Ov) : Decidable o.Num := by unfold Ov.Num; infer_instance
def Ov.right (o : Ov) : Int := if o.Num ∧ o = o.named then (if o.k = 1 then Pn.right o.P.a o.P.u o.P.e o.P.t else 0) else 1

set_option maxHeartbeats 1000000 in
theorem names_any (k : Int) (w : World) : Calls Try.prog 39 #[.int .u8 k] w fun x w' => x = .returned (.int .u8 (nm k)) ∧ w = w' := by
  by_cases h : k = 1 ∨ k = 2 ∨ k = 3 ∨ k = 4 ∨ k = 5 ∨ k = 6 ∨ k = 7 ∨ k = 8 ∨ k = 9 ∨ k = 10
  · rcases h with rfl | rfl | rfl | rfl | rfl | rfl | rfl | rfl | rfl | rfl
    all_goals
      go_enter Try.func39, Try.ntmps39
      go_wp2
      go_ret
      exact ⟨rfl, rfl⟩
  · have d1 : (k == 1) = false := by rw [beq_eq_false_iff_ne]; omega
    have d2 : (k == 2) = false := by rw [beq_eq_false_iff_ne]; omega
    have d3 : (k == 3) = false := by rw [beq_eq_false_iff_ne]; omega
    have d4 : (k == 4) = false := by rw [beq_eq_false_iff_ne]; omega
    have d5 : (k == 5) = false := by rw [beq_eq_false_iff_ne]; omega
    have d6 : (k == 6) = false := by rw [beq_eq_false_iff_ne]; omega
    have d7 : (k == 7) = false := by rw [beq_eq_false_iff_ne]; omega
    have d8 : (k == 8) = false := by rw [beq_eq_false_iff_ne]; omega
    have d9 : (k == 9) = false := by rw [beq_eq_false_iff_ne]; omega
    have d10 : (k == 10) = false := by rw [beq_eq_false_iff_ne]; omega
    have e : nm k = 0 := by unfold nm; rw [if_neg (by omega), if_neg (by omega), if_neg (by omega), if_neg (by omega), if_neg (by omega)]
    clear h
    rw [e]
    clear e
    go_enter Try.func39, Try.ntmps39
    go_wp2
    go_ret
    exact ⟨rfl, rfl⟩
theorem names_is (k c : Int) (w : World) (h : nm k = c) : Calls Try.prog 39 #[.int .u8 k] w fun x w' => x = .returned (.int .u8 c) ∧ w = w' := by subst h; exact names_any k w
end Go.Proofs.Ytambppcnmggocaa
