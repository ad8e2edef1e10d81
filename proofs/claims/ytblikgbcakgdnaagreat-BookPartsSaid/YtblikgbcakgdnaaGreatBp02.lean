/-
  A notice, by its fields. No conditions.
-/
import Derived.Test.YtblikgbcakgdnaaGreatProg
import Derived.WalkKit
import Derived.ProofKit
import Derived.OpenShut
import Derived.Handy
import Derived.Lib.Hide
import Derived.Deep.QuietTactic
import Derived.BigQuiet
import Derived.Laws.Rows
import Derived.Deep.MidRow
import Derived.Laws.ResultCell
set_option linter.unusedSimpArgs false
set_option linter.unusedVariables false
namespace Go.Proofs.YtblikgbcakgdnaaGreat

/-- A notice, by its fields. -/
structure Nv where
  k : Int
  s : Int
  c : Int
  t : Int
  a : Int
  v : Int
def Nv.cs (n : Nv) : List Value := [.int .u8 n.k, .int .i64 n.s, .int .i64 n.c, .int .i64 n.t, .int .i64 n.a, .int .u8 n.v]
def Nv.val (n : Nv) : Value := .agg #[.int .u8 n.k, .int .i64 n.s, .int .i64 n.c, .int .i64 n.t, .int .i64 n.a, .int .u8 n.v]
/-- A notice as it may come in. -/
def Nv.Wf (n : Nv) : Prop := (0 ≤ n.k ∧ n.k < 256) ∧ (-9223372036854775808 ≤ n.s ∧ n.s ≤ 9223372036854775807) ∧ (-9223372036854775808 ≤ n.c ∧ n.c ≤ 9223372036854775807) ∧ (-9223372036854775808 ≤ n.t ∧ n.t ≤ 9223372036854775807) ∧ (-9223372036854775808 ≤ n.a ∧ n.a ≤ 9223372036854775807) ∧ (0 ≤ n.v ∧ n.v < 256)
def Nv.zero : Nv := ⟨0, 0, 0, 0, 0, 0⟩
instance nvEq (x y : Nv) : Decidable (x = y) := decidable_of_iff (x.k = y.k ∧ x.s = y.s ∧ x.c = y.c ∧ x.t = y.t ∧ x.a = y.a ∧ x.v = y.v) (by cases x; cases y; simp)
end Go.Proofs.YtblikgbcakgdnaaGreat
/-
  A class of worlds for regions that draw their order: all that are, below the next block, as a given world is. A region whose operations read old memory only, and whose callees only make new blocks, is walked once, in the text's order. No conditions.
-/
namespace Go.Proofs.YtblikgbcakgdnaaGreat
open Go.ChangeShapes Go.WideShapes Go.ChangeAt Go.RowKit

theorem bcell {W w1 : World} (hb : Below W.heap.size W w1) : (∀ b o, b < W.heap.size → w1.cell? ⟨b, o, none⟩ = W.cell? ⟨b, o, none⟩) ∧ (∀ b o, b < W.heap.size → w1.frozen? ⟨b, o, none⟩ = W.frozen? ⟨b, o, none⟩) :=
  ⟨fun b o h => hb.cell (p := ⟨b, o, none⟩) h, fun b o h => hb.frozen (p := ⟨b, o, none⟩) h⟩

theorem Below.drewN' {B : Nat} {w w' : World} (h : Below B w w') (n : Nat) : Below B w (w'.drewN n) := ⟨h.os, h.tape, h.output, h.size, h.block⟩

/-- The worlds that are as W was below W's next block. -/
def Later (W : World) : Type := { w' : World // Below W.heap.size W w' }
instance laterNonempty (W : World) : Nonempty (Later W) := ⟨⟨W, Below.refl _ _⟩⟩
def over (W : World) (x : Later W) : World := x.1
theorem over_cell (W : World) (x : Later W) (b o : Nat) (h : b < W.heap.size) : (over W x).cell? ⟨b, o, none⟩ = W.cell? ⟨b, o, none⟩ := Below.cell (p := ⟨b, o, none⟩) x.2 h
theorem over_frozen (W : World) (x : Later W) (b o : Nat) (h : b < W.heap.size) : (over W x).frozen? ⟨b, o, none⟩ = W.frozen? ⟨b, o, none⟩ := Below.frozen (p := ⟨b, o, none⟩) x.2 h
attribute [simp, go_sem] over_cell over_frozen

theorem ret_int {k : IntKind} {a b : Int} (h : a = b) : Ending.returned (.int k a) = .returned (.int k b) := by rw [h]
end Go.Proofs.YtblikgbcakgdnaaGreat
/-
  A world that is known in one block: 'boxed w B cs t' is w with the cells cs in block B. For worlds of which little else is known: stores into that block turn the cells that are written out. No conditions but those that each law names.
-/
namespace Go.Proofs.YtblikgbcakgdnaaGreat
open Go.ChangeShapes Go.WideShapes Go.ChangeAt Go.RowKit

def boxed (w : World) (B : Nat) (cs : Array Value) (t : TypeId) : World := { w with heap := w.heap.setIfInBounds B (.cells cs t) }

section
variable {w : World} {B n i : Nat} {cs : Array Value} {t : TypeId} {v : Value}

theorem boxed_size : (boxed w B cs t).heap.size = w.heap.size := by simp [boxed]
theorem boxed_block (h : B < w.heap.size) : (boxed w B cs t).heap[B]? = some (.cells cs t) := by simp [boxed, h]
theorem boxed_block_other (h : n ≠ B) : (boxed w B cs t).heap[n]? = w.heap[n]? := by
  simp only [boxed]; rw [Array.getElem?_setIfInBounds_ne (Ne.symm h)]

theorem boxed_set : (boxed w B cs t).setCell ⟨B, i, none⟩ v = boxed w B (cs.setIfInBounds i v) t := by
  unfold boxed World.setCell
  congr 1
  apply Array.ext_getElem?
  intro k
  simp only [Array.getElem?_modify, Array.getElem?_setIfInBounds]
  by_cases hk : B = k
  · subst hk
    by_cases hb : B < w.heap.size <;> simp [hb]
  · simp [hk]
theorem boxed_set_other (h : n ≠ B) : (boxed w B cs t).setCell ⟨n, i, none⟩ v = boxed (w.setCell ⟨n, i, none⟩ v) B cs t := by
  unfold boxed World.setCell
  congr 1
  apply Array.ext_getElem?
  intro k
  simp only [Array.getElem?_modify, Array.getElem?_setIfInBounds, Array.size_modify]
  by_cases hk : B = k
  · subst hk
    by_cases hb : B < w.heap.size <;> simp [hb, h]
  · simp [hk]
theorem boxed_cell (h : B < w.heap.size) : (boxed w B cs t).cell? ⟨B, i, none⟩ = cs[i]? := by
  simp [World.cell?, boxed_block h]
theorem boxed_cell_other (h : n ≠ B) : (boxed w B cs t).cell? ⟨n, i, none⟩ = w.cell? ⟨n, i, none⟩ := by
  simp only [World.cell?]; rw [boxed_block_other h]
theorem boxed_frozen : (boxed w B cs t).frozen? ⟨B, i, none⟩ = false := by
  unfold World.frozen?
  by_cases h : B < w.heap.size
  · rw [boxed_block h]; simp
  · rw [Array.getElem?_eq_none (by rw [boxed_size]; exact Nat.le_of_not_lt h)]
theorem boxed_frozen_other (h : n ≠ B) : (boxed w B cs t).frozen? ⟨n, i, none⟩ = w.frozen? ⟨n, i, none⟩ := by
  simp only [World.frozen?]; rw [boxed_block_other h]
attribute [simp, go_sem] boxed_size boxed_set boxed_cell boxed_frozen
attribute [simp, go_sem] boxed_set_other boxed_cell_other boxed_frozen_other

/-- It is so already. -/
theorem boxed_self (h : w.heap[B]? = some (.cells cs t)) : w = boxed w B cs t := by
  have hlt : B < w.heap.size := by
    rcases Nat.lt_or_ge B w.heap.size with h' | h'
    · exact h'
    · rw [Array.getElem?_eq_none h'] at h; cases h
  unfold boxed
  have : w.heap.setIfInBounds B (.cells cs t) = w.heap := by
    apply Array.ext_getElem?
    intro k
    rw [Array.getElem?_setIfInBounds]
    by_cases hk : B = k
    · subst hk; rw [if_pos rfl, if_pos hlt, h]
    · rw [if_neg hk]
  rw [this]
theorem boxed_below {b : Nat} {a : World} (h : Below b a w) (hB : b ≤ B) : Below b a (boxed w B cs t) :=
  ⟨h.os, h.tape, h.output, by rw [boxed_size]; exact h.size, fun k hk => by rw [boxed_block_other (by omega)]; exact h.block k hk⟩
theorem alloc_block {o : Obj} : (w.alloc o).heap[w.heap.size]? = some o := by show (w.heap.push o)[w.heap.size]? = some o; simp
theorem alloc_block_old {o : Obj} (h : n < w.heap.size) : (w.alloc o).heap[n]? = w.heap[n]? := Below.heap_alloc w o n h
/-- A block that was known, behind a call that makes new blocks alone. -/
theorem below_block {a : World} {o : Obj} (hb : Below a.heap.size a w) (h : a.heap[n]? = some o) : w.heap[n]? = some o := by
  have hlt : n < a.heap.size := by
    rcases Nat.lt_or_ge n a.heap.size with h' | h'
    · exact h'
    · rw [Array.getElem?_eq_none h'] at h; cases h
  rw [hb.block n hlt, h]
end

/-- The two new blocks of a call, behind another call that makes new blocks alone. -/
theorem two_of {w w1 : World} {cs cs' : Array Value} {t t' : TypeId}
    (hb : Below ((w.alloc (.cells cs t)).alloc (.cells cs' t')).heap.size ((w.alloc (.cells cs t)).alloc (.cells cs' t')) w1) :
    Below w.heap.size w w1 ∧ w.heap.size < w1.heap.size ∧ w.heap.size + 1 < w1.heap.size ∧ w1 = boxed (boxed w1 w.heap.size cs t) (w.heap.size + 1) cs' t' := by
  have hz := hb.size
  have b0 : w1.heap[w.heap.size]? = some (.cells cs t) := below_block hb (by rw [alloc_block_old (by simp), alloc_block])
  have b1 : w1.heap[w.heap.size + 1]? = some (.cells cs' t') := below_block hb (by rw [← World.size_alloc w (.cells cs t), alloc_block])
  refine ⟨(((Below.refl _ _).alloc (Nat.le_refl _) _).alloc (by simp) _).trans (hb.mono (by simp; omega)), by simp at hz; omega, by simp at hz; omega, ?_⟩
  rw [← boxed_self b0, ← boxed_self b1]

/-- Two blocks that are known, behind a call that makes new blocks alone. -/
theorem two_again {w wx w2 : World} {B : Nat} {cs cs' : Array Value} {t t' : TypeId} (h0 : Below B w wx) (hz : B + 1 < wx.heap.size)
    (hb : Below (boxed (boxed wx B cs t) (B + 1) cs' t').heap.size (boxed (boxed wx B cs t) (B + 1) cs' t') w2) :
    Below B w w2 ∧ B + 1 < w2.heap.size ∧ w2 = boxed (boxed w2 B cs t) (B + 1) cs' t' := by
  have hs := hb.size
  have b0 : w2.heap[B]? = some (.cells cs t) := below_block hb (by rw [boxed_block_other (by omega), boxed_block (by omega)])
  have b1 : w2.heap[B + 1]? = some (.cells cs' t') := below_block hb (by rw [boxed_block (by rw [boxed_size]; exact hz)])
  rw [boxed_size, boxed_size] at hs
  have hq : Below B wx (boxed (boxed wx B cs t) (B + 1) cs' t') := boxed_below (boxed_below (Below.refl _ _) (Nat.le_refl B)) (Nat.le_succ B)
  refine ⟨h0.trans (hq.trans (hb.mono (by rw [boxed_size, boxed_size]; omega))), by omega, ?_⟩
  rw [← boxed_self b0, ← boxed_self b1]


/-- One block that is known, behind a call that makes new blocks alone. -/
theorem keep0 {w w2 : World} {cs : Array Value} {t : TypeId} (hb : Below (w.alloc (.cells cs t)).heap.size (w.alloc (.cells cs t)) w2) :
    Below w.heap.size w w2 ∧ w.heap.size < w2.heap.size ∧ w2 = boxed w2 w.heap.size cs t := by
  have hs := hb.size
  rw [World.size_alloc] at hs
  exact ⟨((Below.refl _ _).alloc (Nat.le_refl _) _).trans (hb.mono (by rw [World.size_alloc]; omega)), by omega, boxed_self (below_block hb alloc_block)⟩
end Go.Proofs.YtblikgbcakgdnaaGreat
/-
  Blocks of an opaque world looked up; whole structs loaded and stored as one block. No conditions but those that each law names.
-/
namespace Go.Proofs.YtblikgbcakgdnaaGreat
open Go.ChangeShapes Go.WideShapes Go.ChangeAt Go.RowKit

section
variable {w : World} {n m : Nat} {o o' : Obj} {cs cs' : Array Value} {t : TypeId}
theorem alloc_at (h : n = w.heap.size) : (w.alloc o).heap[n]? = some o := by rw [h]; exact alloc_block
theorem alloc_old (h : n < w.heap.size) (k : w.heap[n]? = some o') : (w.alloc o).heap[n]? = some o' := (alloc_block_old h).trans k
theorem boxed_at (h : n < w.heap.size) : (boxed w n cs t).heap[n]? = some (.cells cs t (0, 0)) := boxed_block h
theorem boxed_old (h : m ≠ n) (k : w.heap[m]? = some o') : (boxed w n cs t).heap[m]? = some o' := (boxed_block_other h).trans k
theorem drew_old (k : w.heap[m]? = some o') : w.drew.heap[m]? = some o' := k
theorem boxed_again : boxed (boxed w n cs t) n cs' t = boxed w n cs' t := by
  unfold boxed
  congr 1
  apply Array.ext_getElem?
  intro i
  simp only [Array.getElem?_setIfInBounds, Array.size_setIfInBounds]
  by_cases e : n = i <;> simp [e]
theorem boxed_cell_lt {i : Nat} (h : m < n) : (boxed w n cs t).cell? ⟨m, i, none⟩ = w.cell? ⟨m, i, none⟩ := boxed_cell_other (by omega)
theorem boxed_cell_gt {i : Nat} (h : n < m) : (boxed w n cs t).cell? ⟨m, i, none⟩ = w.cell? ⟨m, i, none⟩ := boxed_cell_other (by omega)
theorem boxed_frozen_lt {i : Nat} (h : m < n) : (boxed w n cs t).frozen? ⟨m, i, none⟩ = w.frozen? ⟨m, i, none⟩ := boxed_frozen_other (by omega)
theorem boxed_frozen_gt {i : Nat} (h : n < m) : (boxed w n cs t).frozen? ⟨m, i, none⟩ = w.frozen? ⟨m, i, none⟩ := boxed_frozen_other (by omega)
theorem boxed_set_lt {i : Nat} {v : Value} (h : m < n) : (boxed w n cs t).setCell ⟨m, i, none⟩ v = boxed (w.setCell ⟨m, i, none⟩ v) n cs t := boxed_set_other (by omega)
theorem boxed_set_gt {i : Nat} {v : Value} (h : n < m) : (boxed w n cs t).setCell ⟨m, i, none⟩ v = boxed (w.setCell ⟨m, i, none⟩ v) n cs t := boxed_set_other (by omega)
attribute [simp, go_sem] boxed_again
attribute [simp, go_sem] boxed_cell_lt boxed_cell_gt boxed_frozen_lt boxed_frozen_gt boxed_set_lt boxed_set_gt
theorem row_boxed (h : w.heap[n]? = some (.cells cs t (0, 0))) : w.setRow n cs' = boxed w n cs' t := by
  unfold World.setRow boxed
  congr 1
  apply Array.ext_getElem?
  intro i
  rw [Array.getElem?_modify, Array.getElem?_setIfInBounds]
  by_cases e : n = i
  · subst e
    rw [if_pos rfl, if_pos rfl, if_pos (Array.getElem?_eq_some_iff.1 h).1, h]; rfl
  · simp [e]
end

/-- A struct out of its block, and a value. -/
theorem results_row_tmp {P : Program} {fn : Func} {p u : Tmp} {ty : TypeId} (h : fn.results = #[.cell p ty, .tmp u]) (tmps : Array Value) (w : World) (g : Nat) (t : TypeId) (cs : Array Value) (fr : Nat × Nat) (d : TypeDesc)
    (hp : tmps.getD p undef = .pointer (some ⟨g, 0, none⟩)) (hg : w.heap[g]? = some (.cells cs t fr)) (hu : P.underlying ty = some d) (hd : (match d with | .struct _ | .array _ _ => true | _ => false) = true) (hi : (P.info? ty).map (·.size) = some cs.size) :
    (results fn tmps).run P w = .ok (.tuple #[.agg cs, tmps.getD u undef]) w := by
  rw [results_cell_tmp h, hp]
  simp [asAddr, run_loadVar_row w g t ty cs fr d hg hu hd hi]

section
variable {P : Program} {ops : Array Oper} {Q : Exit → Act → World → Prop} {a : Act} {w : World} {rest : List Oper} {o : Oper}
/-- A whole struct out of its block, in one step. -/
theorem wl_load {t : TypeId} {x : Operand} {g m : Nat} {cs : Array Value} {d : TypeDesc} {fr : Nat × Nat} (hu : P.underlying t = some d) (hd : (match d with | .struct _ | .array _ _ => true | _ => false) = true) (hi : (P.info? t).map (·.size) = some m)
    (ho : o.op = .load t x) (hw : Region.wanted o (yielded ops a.tmps) = true) (hx : a.eval x = .pointer (some ⟨g, 0, none⟩)) (hg : w.heap[g]? = some (.cells cs t fr))
    (hs : cs.size = m) (h : wpList P ops Q rest (a.put o.dst (.agg cs)) w) : wpList P ops Q (o :: rest) a w := by
  refine wpList_step fun K hK => ?_
  rw [if_pos hw]
  exact wp_load_row t x ho g hx t cs fr d hg hu hd (by rw [hi, hs]) (hK _ _ h)
/-- A whole struct into its block, in one step. -/
theorem wl_store {t : TypeId} {x y : Operand} {g m : Nat} {cs cs' : Array Value} (hi : (P.info? t).map (·.size) = some m)
    (ho : o.op = .store t x y) (hw : Region.wanted o (yielded ops a.tmps) = true) (hx : a.eval x = .pointer (some ⟨g, 0, none⟩)) (hy : a.eval y = .agg cs') (hg : w.heap[g]? = some (.cells cs t (0, 0)))
    (hc : cs.size = m) (hc' : cs'.size = m) (h1 : cs'.all (·.oneCell') = true) (h : wpList P ops Q rest (a.put o.dst undef) (boxed w g cs' t)) : wpList P ops Q (o :: rest) a w := by
  refine wpList_step fun K hK => ?_
  rw [if_pos hw]
  refine wp_store_row t x y ho g cs' hx hy t cs hg (by rw [hi, hc']) (by rw [hc, hc']) h1 (hK _ _ ?_)
  rw [row_boxed hg]
  exact h
end
end Go.Proofs.YtblikgbcakgdnaaGreat
