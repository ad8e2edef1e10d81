/-
  A notice, by its fields. No conditions.
-/
import Derived.Test.YtblikgbcakgdnaaGreatProg
import Derived.WalkKit
import Derived.ProofKit
import Derived.OpenShut
import Derived.Handy
import Derived.Lib.Hide
import Derived.Deep.QuietTactic
import Derived.BigQuiet
import Derived.Laws.Rows
import Derived.Deep.MidRow
import Derived.Laws.ResultCell
set_option linter.unusedSimpArgs false
set_option linter.unusedVariables false
namespace Go.Proofs.YtblikgbcakgdnaaGreat

/-- A notice, by its fields. -/
structure Nv where
  k : Int
  s : Int
  c : Int
  t : Int
  a : Int
  v : Int
def Nv.cs (n : Nv) : List Value := [.int .u8 n.k, .int .i64 n.s, .int .i64 n.c, .int .i64 n.t, .int .i64 n.a, .int .u8 n.v]
def Nv.val (n : Nv) : Value := .agg #[.int .u8 n.k, .int .i64 n.s, .int .i64 n.c, .int .i64 n.t, .int .i64 n.a, .int .u8 n.v]
/-- A notice as it may come in. -/
def Nv.Wf (n : Nv) : Prop := (0 ≤ n.k ∧ n.k < 256) ∧ (-9223372036854775808 ≤ n.s ∧ n.s ≤ 9223372036854775807) ∧ (-9223372036854775808 ≤ n.c ∧ n.c ≤ 9223372036854775807) ∧ (-9223372036854775808 ≤ n.t ∧ n.t ≤ 9223372036854775807) ∧ (-9223372036854775808 ≤ n.a ∧ n.a ≤ 9223372036854775807) ∧ (0 ≤ n.v ∧ n.v < 256)
def Nv.zero : Nv := ⟨0, 0, 0, 0, 0, 0⟩
instance nvEq (x y : Nv) : Decidable (x = y) := decidable_of_iff (x.k = y.k ∧ x.s = y.s ∧ x.c = y.c ∧ x.t = y.t ∧ x.a = y.a ∧ x.v = y.v) (by cases x; cases y; simp)
end Go.Proofs.YtblikgbcakgdnaaGreat
/-
  A class of worlds for regions that draw their order: all that are, below the next block, as a given world is. A region whose operations read old memory only, and whose callees only make new blocks, is walked once, in the text's order. No conditions.
-/
namespace Go.Proofs.YtblikgbcakgdnaaGreat
open Go.ChangeShapes Go.WideShapes Go.ChangeAt Go.RowKit

theorem bcell {W w1 : World} (hb : Below W.heap.size W w1) : (∀ b o, b < W.heap.size → w1.cell? ⟨b, o, none⟩ = W.cell? ⟨b, o, none⟩) ∧ (∀ b o, b < W.heap.size → w1.frozen? ⟨b, o, none⟩ = W.frozen? ⟨b, o, none⟩) :=
  ⟨fun b o h => hb.cell (p := ⟨b, o, none⟩) h, fun b o h => hb.frozen (p := ⟨b, o, none⟩) h⟩

theorem Below.drewN' {B : Nat} {w w' : World} (h : Below B w w') (n : Nat) : Below B w (w'.drewN n) := ⟨h.os, h.tape, h.output, h.size, h.block⟩

/-- The worlds that are as W was below W's next block. -/
def Later (W : World) : Type := { w' : World // Below W.heap.size W w' }
instance laterNonempty (W : World) : Nonempty (Later W) := ⟨⟨W, Below.refl _ _⟩⟩
def over (W : World) (x : Later W) : World := x.1
theorem over_cell (W : World) (x : Later W) (b o : Nat) (h : b < W.heap.size) : (over W x).cell? ⟨b, o, none⟩ = W.cell? ⟨b, o, none⟩ := Below.cell (p := ⟨b, o, none⟩) x.2 h
theorem over_frozen (W : World) (x : Later W) (b o : Nat) (h : b < W.heap.size) : (over W x).frozen? ⟨b, o, none⟩ = W.frozen? ⟨b, o, none⟩ := Below.frozen (p := ⟨b, o, none⟩) x.2 h
attribute [simp, go_sem] over_cell over_frozen

theorem ret_int {k : IntKind} {a b : Int} (h : a = b) : Ending.returned (.int k a) = .returned (.int k b) := by rw [h]
theorem ret_bool {a b : Bool} (h : a = b) : Ending.returned (.bool a) = .returned (.bool b) := by rw [h]
end Go.Proofs.YtblikgbcakgdnaaGreat
/-
  A world that is known in one block: 'boxed w B cs t' is w with the cells cs in block B. For worlds of which little else is known: stores into that block turn the cells that are written out. No conditions but those that each law names.
-/
namespace Go.Proofs.YtblikgbcakgdnaaGreat
open Go.ChangeShapes Go.WideShapes Go.ChangeAt Go.RowKit

def boxed (w : World) (B : Nat) (cs : Array Value) (t : TypeId) : World := { w with heap := w.heap.setIfInBounds B (.cells cs t) }

section
variable {w : World} {B n i : Nat} {cs : Array Value} {t : TypeId} {v : Value}

theorem boxed_size : (boxed w B cs t).heap.size = w.heap.size := by simp [boxed]
theorem boxed_block (h : B < w.heap.size) : (boxed w B cs t).heap[B]? = some (.cells cs t) := by simp [boxed, h]
theorem boxed_block_other (h : n ≠ B) : (boxed w B cs t).heap[n]? = w.heap[n]? := by
  simp only [boxed]; rw [Array.getElem?_setIfInBounds_ne (Ne.symm h)]

theorem boxed_set : (boxed w B cs t).setCell ⟨B, i, none⟩ v = boxed w B (cs.setIfInBounds i v) t := by
  unfold boxed World.setCell
  congr 1
  apply Array.ext_getElem?
  intro k
  simp only [Array.getElem?_modify, Array.getElem?_setIfInBounds]
  by_cases hk : B = k
  · subst hk
    by_cases hb : B < w.heap.size <;> simp [hb]
  · simp [hk]
theorem boxed_set_other (h : n ≠ B) : (boxed w B cs t).setCell ⟨n, i, none⟩ v = boxed (w.setCell ⟨n, i, none⟩ v) B cs t := by
  unfold boxed World.setCell
  congr 1
  apply Array.ext_getElem?
  intro k
  simp only [Array.getElem?_modify, Array.getElem?_setIfInBounds, Array.size_modify]
  by_cases hk : B = k
  · subst hk
    by_cases hb : B < w.heap.size <;> simp [hb, h]
  · simp [hk]
theorem boxed_cell (h : B < w.heap.size) : (boxed w B cs t).cell? ⟨B, i, none⟩ = cs[i]? := by
  simp [World.cell?, boxed_block h]
theorem boxed_cell_other (h : n ≠ B) : (boxed w B cs t).cell? ⟨n, i, none⟩ = w.cell? ⟨n, i, none⟩ := by
  simp only [World.cell?]; rw [boxed_block_other h]
theorem boxed_frozen : (boxed w B cs t).frozen? ⟨B, i, none⟩ = false := by
  unfold World.frozen?
  by_cases h : B < w.heap.size
  · rw [boxed_block h]; simp
  · rw [Array.getElem?_eq_none (by rw [boxed_size]; exact Nat.le_of_not_lt h)]
theorem boxed_frozen_other (h : n ≠ B) : (boxed w B cs t).frozen? ⟨n, i, none⟩ = w.frozen? ⟨n, i, none⟩ := by
  simp only [World.frozen?]; rw [boxed_block_other h]
attribute [simp, go_sem] boxed_size boxed_set boxed_cell boxed_frozen
attribute [simp, go_sem] boxed_set_other boxed_cell_other boxed_frozen_other

/-- It is so already. -/
theorem boxed_self (h : w.heap[B]? = some (.cells cs t)) : w = boxed w B cs t := by
  have hlt : B < w.heap.size := by
    rcases Nat.lt_or_ge B w.heap.size with h' | h'
    · exact h'
    · rw [Array.getElem?_eq_none h'] at h; cases h
  unfold boxed
  have : w.heap.setIfInBounds B (.cells cs t) = w.heap := by
    apply Array.ext_getElem?
    intro k
    rw [Array.getElem?_setIfInBounds]
    by_cases hk : B = k
    · subst hk; rw [if_pos rfl, if_pos hlt, h]
    · rw [if_neg hk]
  rw [this]
theorem boxed_below {b : Nat} {a : World} (h : Below b a w) (hB : b ≤ B) : Below b a (boxed w B cs t) :=
  ⟨h.os, h.tape, h.output, by rw [boxed_size]; exact h.size, fun k hk => by rw [boxed_block_other (by omega)]; exact h.block k hk⟩
/-- What is below is as it was, above a block that is known: back to the world at hand. -/
theorem below_boxed {b : Nat} {a : World} (h : Below b a (boxed w B cs t)) (hB : b ≤ B) : Below b a w :=
  ⟨h.os, h.tape, h.output, by have := h.size; rwa [boxed_size] at this, fun k hk => by rw [← h.block k hk, boxed_block_other (by omega)]⟩
theorem alloc_block {o : Obj} : (w.alloc o).heap[w.heap.size]? = some o := by show (w.heap.push o)[w.heap.size]? = some o; simp
theorem alloc_block_old {o : Obj} (h : n < w.heap.size) : (w.alloc o).heap[n]? = w.heap[n]? := Below.heap_alloc w o n h
/-- A block that was known, behind a call that makes new blocks alone. -/
theorem below_block {a : World} {o : Obj} (hb : Below a.heap.size a w) (h : a.heap[n]? = some o) : w.heap[n]? = some o := by
  have hlt : n < a.heap.size := by
    rcases Nat.lt_or_ge n a.heap.size with h' | h'
    · exact h'
    · rw [Array.getElem?_eq_none h'] at h; cases h
  rw [hb.block n hlt, h]
end

/-- The two new blocks of a call, behind another call that makes new blocks alone. -/
theorem two_of {w w1 : World} {cs cs' : Array Value} {t t' : TypeId}
    (hb : Below ((w.alloc (.cells cs t)).alloc (.cells cs' t')).heap.size ((w.alloc (.cells cs t)).alloc (.cells cs' t')) w1) :
    Below w.heap.size w w1 ∧ w.heap.size < w1.heap.size ∧ w.heap.size + 1 < w1.heap.size ∧ w1 = boxed (boxed w1 w.heap.size cs t) (w.heap.size + 1) cs' t' := by
  have hz := hb.size
  have b0 : w1.heap[w.heap.size]? = some (.cells cs t) := below_block hb (by rw [alloc_block_old (by simp), alloc_block])
  have b1 : w1.heap[w.heap.size + 1]? = some (.cells cs' t') := below_block hb (by rw [← World.size_alloc w (.cells cs t), alloc_block])
  refine ⟨(((Below.refl _ _).alloc (Nat.le_refl _) _).alloc (by simp) _).trans (hb.mono (by simp; omega)), by simp at hz; omega, by simp at hz; omega, ?_⟩
  rw [← boxed_self b0, ← boxed_self b1]

/-- Two blocks that are known, behind a call that makes new blocks alone. -/
theorem two_again {w wx w2 : World} {B : Nat} {cs cs' : Array Value} {t t' : TypeId} (h0 : Below B w wx) (hz : B + 1 < wx.heap.size)
    (hb : Below (boxed (boxed wx B cs t) (B + 1) cs' t').heap.size (boxed (boxed wx B cs t) (B + 1) cs' t') w2) :
    Below B w w2 ∧ B + 1 < w2.heap.size ∧ w2 = boxed (boxed w2 B cs t) (B + 1) cs' t' := by
  have hs := hb.size
  have b0 : w2.heap[B]? = some (.cells cs t) := below_block hb (by rw [boxed_block_other (by omega), boxed_block (by omega)])
  have b1 : w2.heap[B + 1]? = some (.cells cs' t') := below_block hb (by rw [boxed_block (by rw [boxed_size]; exact hz)])
  rw [boxed_size, boxed_size] at hs
  have hq : Below B wx (boxed (boxed wx B cs t) (B + 1) cs' t') := boxed_below (boxed_below (Below.refl _ _) (Nat.le_refl B)) (Nat.le_succ B)
  refine ⟨h0.trans (hq.trans (hb.mono (by rw [boxed_size, boxed_size]; omega))), by omega, ?_⟩
  rw [← boxed_self b0, ← boxed_self b1]


/-- One block that is known, behind a call that makes new blocks alone. -/
theorem keep0 {w w2 : World} {cs : Array Value} {t : TypeId} (hb : Below (w.alloc (.cells cs t)).heap.size (w.alloc (.cells cs t)) w2) :
    Below w.heap.size w w2 ∧ w.heap.size < w2.heap.size ∧ w2 = boxed w2 w.heap.size cs t := by
  have hs := hb.size
  rw [World.size_alloc] at hs
  exact ⟨((Below.refl _ _).alloc (Nat.le_refl _) _).trans (hb.mono (by rw [World.size_alloc]; omega)), by omega, boxed_self (below_block hb alloc_block)⟩
end Go.Proofs.YtblikgbcakgdnaaGreat
/-
  Blocks of an opaque world looked up; whole structs loaded and stored as one block. No conditions but those that each law names.
-/
namespace Go.Proofs.YtblikgbcakgdnaaGreat
open Go.ChangeShapes Go.WideShapes Go.ChangeAt Go.RowKit

section
variable {w : World} {n m : Nat} {o o' : Obj} {cs cs' : Array Value} {t : TypeId}
theorem alloc_at (h : n = w.heap.size) : (w.alloc o).heap[n]? = some o := by rw [h]; exact alloc_block
theorem alloc_old (h : n < w.heap.size) (k : w.heap[n]? = some o') : (w.alloc o).heap[n]? = some o' := (alloc_block_old h).trans k
theorem boxed_at (h : n < w.heap.size) : (boxed w n cs t).heap[n]? = some (.cells cs t (0, 0)) := boxed_block h
theorem boxed_old (h : m ≠ n) (k : w.heap[m]? = some o') : (boxed w n cs t).heap[m]? = some o' := (boxed_block_other h).trans k
theorem drew_old (k : w.heap[m]? = some o') : w.drew.heap[m]? = some o' := k
theorem boxed_again : boxed (boxed w n cs t) n cs' t = boxed w n cs' t := by
  unfold boxed
  congr 1
  apply Array.ext_getElem?
  intro i
  simp only [Array.getElem?_setIfInBounds, Array.size_setIfInBounds]
  by_cases e : n = i <;> simp [e]
theorem boxed_cell_lt {i : Nat} (h : m < n) : (boxed w n cs t).cell? ⟨m, i, none⟩ = w.cell? ⟨m, i, none⟩ := boxed_cell_other (by omega)
theorem boxed_cell_gt {i : Nat} (h : n < m) : (boxed w n cs t).cell? ⟨m, i, none⟩ = w.cell? ⟨m, i, none⟩ := boxed_cell_other (by omega)
theorem boxed_frozen_lt {i : Nat} (h : m < n) : (boxed w n cs t).frozen? ⟨m, i, none⟩ = w.frozen? ⟨m, i, none⟩ := boxed_frozen_other (by omega)
theorem boxed_frozen_gt {i : Nat} (h : n < m) : (boxed w n cs t).frozen? ⟨m, i, none⟩ = w.frozen? ⟨m, i, none⟩ := boxed_frozen_other (by omega)
theorem boxed_set_lt {i : Nat} {v : Value} (h : m < n) : (boxed w n cs t).setCell ⟨m, i, none⟩ v = boxed (w.setCell ⟨m, i, none⟩ v) n cs t := boxed_set_other (by omega)
theorem boxed_set_gt {i : Nat} {v : Value} (h : n < m) : (boxed w n cs t).setCell ⟨m, i, none⟩ v = boxed (w.setCell ⟨m, i, none⟩ v) n cs t := boxed_set_other (by omega)
attribute [simp, go_sem] boxed_again
attribute [simp, go_sem] boxed_cell_lt boxed_cell_gt boxed_frozen_lt boxed_frozen_gt boxed_set_lt boxed_set_gt
theorem row_boxed (h : w.heap[n]? = some (.cells cs t (0, 0))) : w.setRow n cs' = boxed w n cs' t := by
  unfold World.setRow boxed
  congr 1
  apply Array.ext_getElem?
  intro i
  rw [Array.getElem?_modify, Array.getElem?_setIfInBounds]
  by_cases e : n = i
  · subst e
    rw [if_pos rfl, if_pos rfl, if_pos (Array.getElem?_eq_some_iff.1 h).1, h]; rfl
  · simp [e]
end

/-- A struct out of its block, and a value. -/
theorem results_row_tmp {P : Program} {fn : Func} {p u : Tmp} {ty : TypeId} (h : fn.results = #[.cell p ty, .tmp u]) (tmps : Array Value) (w : World) (g : Nat) (t : TypeId) (cs : Array Value) (fr : Nat × Nat) (d : TypeDesc)
    (hp : tmps.getD p undef = .pointer (some ⟨g, 0, none⟩)) (hg : w.heap[g]? = some (.cells cs t fr)) (hu : P.underlying ty = some d) (hd : (match d with | .struct _ | .array _ _ => true | _ => false) = true) (hi : (P.info? ty).map (·.size) = some cs.size) :
    (results fn tmps).run P w = .ok (.tuple #[.agg cs, tmps.getD u undef]) w := by
  rw [results_cell_tmp h, hp]
  simp [asAddr, run_loadVar_row w g t ty cs fr d hg hu hd hi]

section
variable {P : Program} {ops : Array Oper} {Q : Exit → Act → World → Prop} {a : Act} {w : World} {rest : List Oper} {o : Oper}
/-- A whole struct out of its block, in one step. -/
theorem wl_load {t : TypeId} {x : Operand} {g m : Nat} {cs : Array Value} {d : TypeDesc} {fr : Nat × Nat} (hu : P.underlying t = some d) (hd : (match d with | .struct _ | .array _ _ => true | _ => false) = true) (hi : (P.info? t).map (·.size) = some m)
    (ho : o.op = .load t x) (hw : Region.wanted o (yielded ops a.tmps) = true) (hx : a.eval x = .pointer (some ⟨g, 0, none⟩)) (hg : w.heap[g]? = some (.cells cs t fr))
    (hs : cs.size = m) (h : wpList P ops Q rest (a.put o.dst (.agg cs)) w) : wpList P ops Q (o :: rest) a w := by
  refine wpList_step fun K hK => ?_
  rw [if_pos hw]
  exact wp_load_row t x ho g hx t cs fr d hg hu hd (by rw [hi, hs]) (hK _ _ h)
/-- A whole struct into its block, in one step. -/
theorem wl_store {t : TypeId} {x y : Operand} {g m : Nat} {cs cs' : Array Value} (hi : (P.info? t).map (·.size) = some m)
    (ho : o.op = .store t x y) (hw : Region.wanted o (yielded ops a.tmps) = true) (hx : a.eval x = .pointer (some ⟨g, 0, none⟩)) (hy : a.eval y = .agg cs') (hg : w.heap[g]? = some (.cells cs t (0, 0)))
    (hc : cs.size = m) (hc' : cs'.size = m) (h1 : cs'.all (·.oneCell') = true) (h : wpList P ops Q rest (a.put o.dst undef) (boxed w g cs' t)) : wpList P ops Q (o :: rest) a w := by
  refine wpList_step fun K hK => ?_
  rw [if_pos hw]
  refine wp_store_row t x y ho g cs' hx hy t cs hg (by rw [hi, hc']) (by rw [hc, hc']) h1 (hK _ _ ?_)
  rw [row_boxed hg]
  exact h
end
end Go.Proofs.YtblikgbcakgdnaaGreat
/-
  A cycle by its fields: how it begins, what it asks, what becomes of it; and the contracts of what package cycle calls within. No conditions but those that each law names.
-/
namespace Go.Proofs.YtblikgbcakgdnaaGreat
set_option maxRecDepth 20000
open Go.ChangeShapes Go.WideShapes Go.ChangeAt Go.RowKit

theorem info8 : (Tryz.prog.info? 112).map (·.size) = some 8 := by kernel_rfl
theorem info6 : (Tryz.prog.info? 46).map (·.size) = some 6 := by kernel_rfl
def Nv.arr (n : Nv) : Array Value := #[.int .u8 n.k, .int .i64 n.s, .int .i64 n.c, .int .i64 n.t, .int .i64 n.a, .int .u8 n.v]
theorem Nv.arr_one (n : Nv) : n.arr.all (·.oneCell') = true := by cases n; simp [Nv.arr, Value.oneCell']
/-- A cycle, by its fields: its number, its day, its phase, its amount, its credit, its try, its next day; is something sent? -/
structure Cv where
  n : Int
  d : Int
  p : Int
  a : Int
  u : Int
  t : Int
  x : Int
  g : Bool
instance cvEq (x y : Cv) : Decidable (x = y) := decidable_of_iff (x.n = y.n ∧ x.d = y.d ∧ x.p = y.p ∧ x.a = y.a ∧ x.u = y.u ∧ x.t = y.t ∧ x.x = y.x ∧ x.g = y.g) (by cases x; cases y; simp)
def Cv.arr (c : Cv) : Array Value := #[.int .i64 c.n, .int .i64 c.d, .int .u8 c.p, .int .i64 c.a, .int .i64 c.u, .int .i64 c.t, .int .i64 c.x, .bool c.g]
theorem Cv.arr_one (c : Cv) : c.arr.all (·.oneCell') = true := by cases c; simp [Cv.arr, Value.oneCell']
def Cv.val (c : Cv) : Value := .agg c.arr
def Cv.to (c : Cv) (p : Int) : Cv := { c with p := p }
namespace Cy
def paid (g : Bool) : Int := if g then 3 else 7
def begin_ (n d a u : Int) (g : Bool) : Cv := if a = 0 then ⟨n, d, paid g, a, u, 0, 0, g⟩ else ⟨n, d, 1, a, u, 1, 0, g⟩
def delay (t : Int) : Int := if t = 1 then 1 else if t = 2 then 3 else 7
def kind (p : Int) : Int := if p = 1 then 1 else if p = 3 then 3 else if p = 4 then 5 else if p = 5 then 4 else if p = 6 then 2 else 0
end Cy
def Cv.back (c : Cv) : Cv := if c.a = 0 then c.to 9 else c.to 6
def Cv.charged (c : Cv) (v today : Int) (o : Bool) : Cv :=
  if v = 1 then (if o then c.back else c.to (Cy.paid c.g)) else if v = 2 ∧ o = false ∧ c.t < 4 then { c with p := 2, x := today + Cy.delay c.t } else c.to 8
def Cv.allocated (c : Cv) (v : Int) (o : Bool) : Cv := if v = 1 then (if o then c.to 5 else c.to 4) else c.back
def Cv.shipped (c : Cv) (v : Int) : Cv := if v = 1 then c.to 7 else c.to 5
/-- What a cycle asks. -/
def Cv.ask (s : Int) (c : Cv) : Nv := if Cy.kind c.p = 0 then Nv.zero else ⟨Cy.kind c.p, s, c.n, if c.p = 1 then c.t else 0, if c.p = 1 ∨ c.p = 6 then c.a else 0, 0⟩
/-- Is it the answer to what it asks? -/
def Cv.Heard (s : Int) (c : Cv) (m : Nv) : Prop := Cy.kind c.p ≠ 0 ∧ m.v ≠ 0 ∧ ({ m with v := 0 } : Nv) = c.ask s
instance Cv.heardDec (s : Int) (c : Cv) (m : Nv) : Decidable (c.Heard s m) := by unfold Cv.Heard; infer_instance
/-- What becomes of it. -/
def Cv.next (c : Cv) (v today : Int) (o : Bool) : Cv := if c.p = 1 then c.charged v today o else if c.p = 3 then c.allocated v o else if c.p = 4 then c.shipped v else if c.p = 5 then c.back else c.to 9
def Cv.hear (s : Int) (c : Cv) (m : Nv) (today : Int) (o : Bool) : Cv := if c.Heard s m then c.next m.v today o else c
def Cv.card (c : Cv) : Cv := if c.p = 2 then { c with p := 1, x := 0, t := c.t + 1 } else c
def Cv.over (c : Cv) : Cv := if c.p = 2 then { c with p := 8, x := 0 } else c
def Cv.wake (c : Cv) (today : Int) : Cv := if today < c.x then c else c.card

set_option maxHeartbeats 400000 in
theorem paid_any (g : Bool) (w : World) : Calls Tryz.prog 125 #[.bool g] w fun e w' => e = .returned (.int .u8 (Cy.paid g)) ∧ w = w' := by
  cases g
  all_goals
    go_enter Tryz.func125, Tryz.ntmps125
    go_wp2
    go_ret
    exact ⟨rfl, rfl⟩
set_option maxHeartbeats 400000 in
theorem cyto_any (n d p a u t x : Int) (g : Bool) (q : Int) (w : World) : Calls Tryz.prog 117 #[.agg #[.int .i64 n, .int .i64 d, .int .u8 p, .int .i64 a, .int .i64 u, .int .i64 t, .int .i64 x, .bool g], .int .u8 q] w fun e w' => e = .returned (Cv.to ⟨n, d, p, a, u, t, x, g⟩ q).val ∧ Below w.heap.size w w' := by
  go_enter Tryz.func117, Tryz.ntmps117
  go_wp2
  refine bodyPost_ret (v := .agg #[.int .i64 n, .int .i64 d, .int .u8 q, .int .i64 a, .int .i64 u, .int .i64 t, .int .i64 x, .bool g]) ?_ rfl ⟨rfl, by go_grown⟩
  simp [results, Tryz.results117, go_sem]

theorem cyto_is (n d p a u t x : Int) (g : Bool) (q : Int) (w : World) : Calls Tryz.prog 117 #[.agg #[.int .i64 n, .int .i64 d, .int .u8 p, .int .i64 a, .int .i64 u, .int .i64 t, .int .i64 x, .bool g], .int .u8 q] w fun e w' => e = .returned (.agg #[.int .i64 n, .int .i64 d, .int .u8 q, .int .i64 a, .int .i64 u, .int .i64 t, .int .i64 x, .bool g]) ∧ Below w.heap.size w w' := cyto_any n d p a u t x g q w
set_option maxHeartbeats 400000 in
theorem cyback_any (n d p a u t x : Int) (g : Bool) (w : World) : Calls Tryz.prog 116 #[.agg #[.int .i64 n, .int .i64 d, .int .u8 p, .int .i64 a, .int .i64 u, .int .i64 t, .int .i64 x, .bool g]] w fun e w' => e = .returned (.agg #[.int .i64 n, .int .i64 d, .int .u8 (if a = 0 then 9 else 6), .int .i64 a, .int .i64 u, .int .i64 t, .int .i64 x, .bool g]) ∧ Below w.heap.size w w' := by
  by_cases h : a = 0
  · have h1 : (a == 0) = true := by simpa using h
    rw [if_pos h]
    clear h
    go_enter Tryz.func116, Tryz.ntmps116
    go_wp2_with (fail)
    refine (cyto_is _ _ _ _ _ _ _ _ _ _).mono ?_
    rintro e w1 ⟨rfl, hb⟩
    obtain ⟨hw, z0, z1, e1⟩ := two_of hb
    rw [e1]
    have HW := Lib.hid hw
    clear e1 hb hw
    go_wp2
    refine bodyPost_ret (v := .agg #[.int .i64 n, .int .i64 d, .int .u8 9, .int .i64 a, .int .i64 u, .int .i64 t, .int .i64 x, .bool g]) ?_ rfl ⟨rfl, boxed_below (boxed_below HW.out (Nat.le_refl _)) (by omega)⟩
    simp [results, Tryz.results116, go_sem, z1]
  · have h1 : (a == 0) = false := by simpa using h
    rw [if_neg h]
    clear h
    go_enter Tryz.func116, Tryz.ntmps116
    go_wp2_with (fail)
    refine (cyto_is _ _ _ _ _ _ _ _ _ _).mono ?_
    rintro e w1 ⟨rfl, hb⟩
    obtain ⟨hw, z0, z1, e1⟩ := two_of hb
    rw [e1]
    have HW := Lib.hid hw
    clear e1 hb hw
    go_wp2
    refine bodyPost_ret (v := .agg #[.int .i64 n, .int .i64 d, .int .u8 6, .int .i64 a, .int .i64 u, .int .i64 t, .int .i64 x, .bool g]) ?_ rfl ⟨rfl, boxed_below (boxed_below HW.out (Nat.le_refl _)) (by omega)⟩
    simp [results, Tryz.results116, go_sem, z1]
set_option maxHeartbeats 400000 in
theorem delay_any (t : Int) (w : World) : Calls Tryz.prog 126 #[.int .i64 t] w fun e w' => e = .returned (.int .i64 (Cy.delay t)) ∧ w = w' := by
  by_cases h : t = 1
  · subst h
    go_enter Tryz.func126, Tryz.ntmps126
    go_wp2
    go_ret
    exact ⟨rfl, rfl⟩
  by_cases h2 : t = 2
  · subst h2
    go_enter Tryz.func126, Tryz.ntmps126
    go_wp2
    go_ret
    exact ⟨rfl, rfl⟩
  · have h3 : (t == 1) = false := by simpa using h
    have h4 : (t == 2) = false := by simpa using h2
    rw [show Cy.delay t = 7 by unfold Cy.delay; rw [if_neg h, if_neg h2]]
    clear h h2
    go_enter Tryz.func126, Tryz.ntmps126
    go_wp2
    go_ret
    exact ⟨rfl, rfl⟩
set_option maxHeartbeats 400000 in
theorem cyended_any (n d p a u t x : Int) (g : Bool) (w : World) : Calls Tryz.prog 123 #[.agg #[.int .i64 n, .int .i64 d, .int .u8 p, .int .i64 a, .int .i64 u, .int .i64 t, .int .i64 x, .bool g]] w fun e w' => e = .returned (.bool (decide (7 ≤ p))) ∧ Below w.heap.size w w' := by
  go_enter Tryz.func123, Tryz.ntmps123
  go_wp2
  go_ret
  exact ⟨by simp, by go_grown⟩
/-- How it begins. -/
theorem cbegin_yes {n d a u : Int} {g : Bool} (h : a = 0) : Cy.begin_ n d a u g = ⟨n, d, Cy.paid g, a, u, 0, 0, g⟩ := if_pos h
theorem cbegin_no {n d a u : Int} {g : Bool} (h : a ≠ 0) : Cy.begin_ n d a u g = ⟨n, d, 1, a, u, 1, 0, g⟩ := if_neg h
set_option maxHeartbeats 400000 in
theorem cybegin_any (n d a u : Int) (g : Bool) (w : World) : Calls Tryz.prog 111 #[.int .i64 n, .int .i64 d, .int .i64 a, .int .i64 u, .bool g] w fun e w' => e = .returned (Cy.begin_ n d a u g).val ∧ Below w.heap.size w w' := by
  by_cases h : a = 0
  · have h1 : (a == 0) = true := by simpa using h
    rw [cbegin_yes h]
    clear h
    cases g
    all_goals
      go_enter Tryz.func111, Tryz.ntmps111
      go_wp2_with (go_at_call 125; refine (paid_any _ _).mono ?_; rintro e w' ⟨rfl, rfl⟩)
      first
        | (refine bodyPost_ret (v := .agg #[.int .i64 n, .int .i64 d, .int .u8 3, .int .i64 a, .int .i64 u, .int .i64 0, .int .i64 0, .bool true]) ?_ rfl ⟨rfl, by go_grown⟩; (simp [results, Tryz.results111, go_sem, Cy.paid]; done))
        | (refine bodyPost_ret (v := .agg #[.int .i64 n, .int .i64 d, .int .u8 7, .int .i64 a, .int .i64 u, .int .i64 0, .int .i64 0, .bool false]) ?_ rfl ⟨rfl, by go_grown⟩; simp [results, Tryz.results111, go_sem, Cy.paid])
  · have h1 : (a == 0) = false := by simpa using h
    rw [cbegin_no h]
    clear h
    go_enter Tryz.func111, Tryz.ntmps111
    go_wp2
    refine bodyPost_ret (v := .agg #[.int .i64 n, .int .i64 d, .int .u8 1, .int .i64 a, .int .i64 u, .int .i64 1, .int .i64 0, .bool g]) ?_ rfl ⟨rfl, by go_grown⟩
    simp [results, Tryz.results111, go_sem]
set_option maxHeartbeats 400000 in
theorem cypass_any (n d : Int) (w : World) : Calls Tryz.prog 109 #[.int .i64 n, .int .i64 d] w fun e w' => e = .returned (.agg #[.int .i64 n, .int .i64 d, .int .u8 10, .int .i64 0, .int .i64 0, .int .i64 0, .int .i64 0, .bool false]) ∧ Below w.heap.size w w' := by
  go_enter Tryz.func109, Tryz.ntmps109
  go_wp2
  refine bodyPost_ret (v := .agg #[.int .i64 n, .int .i64 d, .int .u8 10, .int .i64 0, .int .i64 0, .int .i64 0, .int .i64 0, .bool false]) ?_ rfl ⟨rfl, by go_grown⟩
  simp [results, Tryz.results109, go_sem]
/-- Another card, the end, another day. -/
theorem card_yes {n d a u t x : Int} {g : Bool} : Cv.card ⟨n, d, 2, a, u, t, x, g⟩ = ⟨n, d, 1, a, u, t + 1, 0, g⟩ := rfl
theorem card_no {n d p a u t x : Int} {g : Bool} (h : p ≠ 2) : Cv.card ⟨n, d, p, a, u, t, x, g⟩ = ⟨n, d, p, a, u, t, x, g⟩ := if_neg h
theorem over_yes {n d a u t x : Int} {g : Bool} : Cv.over ⟨n, d, 2, a, u, t, x, g⟩ = ⟨n, d, 8, a, u, t, 0, g⟩ := rfl
theorem over_no {n d p a u t x : Int} {g : Bool} (h : p ≠ 2) : Cv.over ⟨n, d, p, a, u, t, x, g⟩ = ⟨n, d, p, a, u, t, x, g⟩ := if_neg h
set_option maxHeartbeats 400000 in
theorem cycard_any (n d p a u t x : Int) (g : Bool) (w : World) (h0 : -9223372036854775808 ≤ t) (h1 : t < 9223372036854775807) : Calls Tryz.prog 97 #[.agg #[.int .i64 n, .int .i64 d, .int .u8 p, .int .i64 a, .int .i64 u, .int .i64 t, .int .i64 x, .bool g]] w fun e w' => e = .returned (Cv.card ⟨n, d, p, a, u, t, x, g⟩).val ∧ Below w.heap.size w w' := by
  by_cases h : p = 2
  · subst h
    rw [card_yes]
    have e1 : wrap64 (t + 1) = t + 1 := by unfold wrap64; omega
    have E1 := Lib.hid e1
    clear e1
    go_enter Tryz.func97, Tryz.ntmps97
    go_wp2
    refine bodyPost_ret (v := .agg #[.int .i64 n, .int .i64 d, .int .u8 1, .int .i64 a, .int .i64 u, .int .i64 (t + 1), .int .i64 0, .bool g]) ?_ rfl ⟨rfl, by go_grown⟩
    simp [results, Tryz.results97, go_sem]
  · have h2 : (p == 2) = false := by simpa using h
    have h3 : (p != 2) = true := by simpa using h
    rw [card_no h]
    clear h
    go_enter Tryz.func97, Tryz.ntmps97
    go_wp2
    refine bodyPost_ret (v := .agg #[.int .i64 n, .int .i64 d, .int .u8 p, .int .i64 a, .int .i64 u, .int .i64 t, .int .i64 x, .bool g]) ?_ rfl ⟨rfl, by go_grown⟩
    simp [results, Tryz.results97, go_sem]
set_option maxHeartbeats 400000 in
theorem cyover_any (n d p a u t x : Int) (g : Bool) (w : World) : Calls Tryz.prog 96 #[.agg #[.int .i64 n, .int .i64 d, .int .u8 p, .int .i64 a, .int .i64 u, .int .i64 t, .int .i64 x, .bool g]] w fun e w' => e = .returned (Cv.over ⟨n, d, p, a, u, t, x, g⟩).val ∧ Below w.heap.size w w' := by
  by_cases h : p = 2
  · subst h
    rw [over_yes]
    go_enter Tryz.func96, Tryz.ntmps96
    go_wp2
    refine bodyPost_ret (v := .agg #[.int .i64 n, .int .i64 d, .int .u8 8, .int .i64 a, .int .i64 u, .int .i64 t, .int .i64 0, .bool g]) ?_ rfl ⟨rfl, by go_grown⟩
    simp [results, Tryz.results96, go_sem]
  · have h2 : (p == 2) = false := by simpa using h
    have h3 : (p != 2) = true := by simpa using h
    rw [over_no h]
    clear h
    go_enter Tryz.func96, Tryz.ntmps96
    go_wp2
    refine bodyPost_ret (v := .agg #[.int .i64 n, .int .i64 d, .int .u8 p, .int .i64 a, .int .i64 u, .int .i64 t, .int .i64 x, .bool g]) ?_ rfl ⟨rfl, by go_grown⟩
    simp [results, Tryz.results96, go_sem]
set_option maxHeartbeats 400000 in
theorem cywake_any (n d p a u t x : Int) (g : Bool) (y : Int) (w : World) (h0 : -9223372036854775808 ≤ t) (h1 : t < 9223372036854775807) : Calls Tryz.prog 87 #[.agg #[.int .i64 n, .int .i64 d, .int .u8 p, .int .i64 a, .int .i64 u, .int .i64 t, .int .i64 x, .bool g], .int .i64 y] w fun e w' => e = .returned (Cv.wake ⟨n, d, p, a, u, t, x, g⟩ y).val ∧ Below w.heap.size w w' := by
  by_cases h : y < x
  · rw [show Cv.wake ⟨n, d, p, a, u, t, x, g⟩ y = ⟨n, d, p, a, u, t, x, g⟩ from if_pos h]
    go_enter Tryz.func87, Tryz.ntmps87
    go_wp2
    refine bodyPost_ret (v := .agg #[.int .i64 n, .int .i64 d, .int .u8 p, .int .i64 a, .int .i64 u, .int .i64 t, .int .i64 x, .bool g]) ?_ rfl ⟨rfl, by go_grown⟩
    simp [results, Tryz.results87, go_sem]
  · rw [show Cv.wake ⟨n, d, p, a, u, t, x, g⟩ y = Cv.card ⟨n, d, p, a, u, t, x, g⟩ from if_neg h]
    have h2 : decide (y < x) = false := by simpa using h
    have H0 := Lib.hid h0
    have H1 := Lib.hid h1
    obtain ⟨c, hc⟩ : ∃ c, Cv.card ⟨n, d, p, a, u, t, x, g⟩ = c := ⟨_, rfl⟩
    rw [hc]
    have HC := Lib.hid hc
    clear h hc h0 h1
    obtain ⟨n', d', p', a', u', t', x', g'⟩ := c
    go_enter Tryz.func87, Tryz.ntmps87
    go_wp2_with (fail)
    refine (cycard_any _ _ _ _ _ _ _ _ _ H0.out H1.out).mono ?_
    rw [HC.out]
    dsimp only [Cv.val, Cv.arr]
    rintro e w1 ⟨rfl, hb⟩
    obtain ⟨hw, z0, z1, e1⟩ := two_of hb
    rw [e1]
    have HW := Lib.hid hw
    clear e1 hb hw
    go_wp2
    refine bodyPost_ret (v := .agg #[.int .i64 n', .int .i64 d', .int .u8 p', .int .i64 a', .int .i64 u', .int .i64 t', .int .i64 x', .bool g']) ?_ rfl ⟨rfl, boxed_below (boxed_below HW.out (Nat.le_refl _)) (by omega)⟩
    simp [results, Tryz.results87, go_sem, z1]
end Go.Proofs.YtblikgbcakgdnaaGreat
