/-
  A world that is known in one block: 'boxed w B cs t' is w with the cells cs in block B. For worlds of which little else is known: stores into that block turn the cells that are written out. No conditions but those that each law names.
-/
import Derived.Test.YtlldkcelkgnalaaOver
namespace Go.Proofs.Ytlldkcelkgnalaa
open Go.ChangeShapes Go.WideShapes Go.ChangeAt Go.RowKit

def boxed (w : World) (B : Nat) (cs : Array Value) (t : TypeId) : World := { w with heap := w.heap.setIfInBounds B (.cells cs t) }

section
variable {w : World} {B n i : Nat} {cs : Array Value} {t : TypeId} {v : Value}

theorem boxed_size : (boxed w B cs t).heap.size = w.heap.size := by simp [boxed]
theorem boxed_block (h : B < w.heap.size) : (boxed w B cs t).heap[B]? = some (.cells cs t) := by simp [boxed, h]
theorem boxed_block_other (h : n ≠ B) : (boxed w B cs t).heap[n]? = w.heap[n]? := by
  simp only [boxed]; rw [Array.getElem?_setIfInBounds_ne (Ne.symm h)]

theorem boxed_set : (boxed w B cs t).setCell ⟨B, i, none⟩ v = boxed w B (cs.setIfInBounds i v) t := by
  unfold boxed World.setCell
  congr 1
  apply Array.ext_getElem?
  intro k
  simp only [Array.getElem?_modify, Array.getElem?_setIfInBounds]
  by_cases hk : B = k
  · subst hk
    by_cases hb : B < w.heap.size <;> simp [hb]
  · simp [hk]
theorem boxed_set_other (h : n ≠ B) : (boxed w B cs t).setCell ⟨n, i, none⟩ v = boxed (w.setCell ⟨n, i, none⟩ v) B cs t := by
  unfold boxed World.setCell
  congr 1
  apply Array.ext_getElem?
  intro k
  simp only [Array.getElem?_modify, Array.getElem?_setIfInBounds, Array.size_modify]
  by_cases hk : B = k
  · subst hk
    by_cases hb : B < w.heap.size <;> simp [hb, h]
  · simp [hk]
theorem boxed_cell (h : B < w.heap.size) : (boxed w B cs t).cell? ⟨B, i, none⟩ = cs[i]? := by
  simp [World.cell?, boxed_block h]
theorem boxed_cell_other (h : n ≠ B) : (boxed w B cs t).cell? ⟨n, i, none⟩ = w.cell? ⟨n, i, none⟩ := by
  simp only [World.cell?]; rw [boxed_block_other h]
theorem boxed_frozen : (boxed w B cs t).frozen? ⟨B, i, none⟩ = false := by
  unfold World.frozen?
  by_cases h : B < w.heap.size
  · rw [boxed_block h]; simp
  · rw [Array.getElem?_eq_none (by rw [boxed_size]; exact Nat.le_of_not_lt h)]
theorem boxed_frozen_other (h : n ≠ B) : (boxed w B cs t).frozen? ⟨n, i, none⟩ = w.frozen? ⟨n, i, none⟩ := by
  simp only [World.frozen?]; rw [boxed_block_other h]
attribute [simp, go_sem] boxed_size boxed_set boxed_cell boxed_frozen
attribute [simp, go_sem] boxed_set_other boxed_cell_other boxed_frozen_other

/-- It is so already. -/
theorem boxed_self (h : w.heap[B]? = some (.cells cs t)) : w = boxed w B cs t := by
  have hlt : B < w.heap.size := by
    rcases Nat.lt_or_ge B w.heap.size with h' | h'
    · exact h'
    · rw [Array.getElem?_eq_none h'] at h; cases h
  unfold boxed
  have : w.heap.setIfInBounds B (.cells cs t) = w.heap := by
    apply Array.ext_getElem?
    intro k
    rw [Array.getElem?_setIfInBounds]
    by_cases hk : B = k
    · subst hk; rw [if_pos rfl, if_pos hlt, h]
    · rw [if_neg hk]
  rw [this]
theorem boxed_below {b : Nat} {a : World} (h : Below b a w) (hB : b ≤ B) : Below b a (boxed w B cs t) :=
  ⟨h.os, h.tape, h.output, by rw [boxed_size]; exact h.size, fun k hk => by rw [boxed_block_other (by omega)]; exact h.block k hk⟩
/-- What is below is as it was, above a block that is known: back to the world at hand. -/
theorem below_boxed {b : Nat} {a : World} (h : Below b a (boxed w B cs t)) (hB : b ≤ B) : Below b a w :=
  ⟨h.os, h.tape, h.output, by have := h.size; rwa [boxed_size] at this, fun k hk => by rw [← h.block k hk, boxed_block_other (by omega)]⟩
theorem alloc_block {o : Obj} : (w.alloc o).heap[w.heap.size]? = some o := by show (w.heap.push o)[w.heap.size]? = some o; simp
theorem alloc_block_old {o : Obj} (h : n < w.heap.size) : (w.alloc o).heap[n]? = w.heap[n]? := Below.heap_alloc w o n h
/-- A block that was known, behind a call that makes new blocks alone. -/
theorem below_block {a : World} {o : Obj} (hb : Below a.heap.size a w) (h : a.heap[n]? = some o) : w.heap[n]? = some o := by
  have hlt : n < a.heap.size := by
    rcases Nat.lt_or_ge n a.heap.size with h' | h'
    · exact h'
    · rw [Array.getElem?_eq_none h'] at h; cases h
  rw [hb.block n hlt, h]
end

/-- The two new blocks of a call, behind another call that makes new blocks alone. -/
theorem two_of {w w1 : World} {cs cs' : Array Value} {t t' : TypeId}
    (hb : Below ((w.alloc (.cells cs t)).alloc (.cells cs' t')).heap.size ((w.alloc (.cells cs t)).alloc (.cells cs' t')) w1) :
    Below w.heap.size w w1 ∧ w.heap.size < w1.heap.size ∧ w.heap.size + 1 < w1.heap.size ∧ w1 = boxed (boxed w1 w.heap.size cs t) (w.heap.size + 1) cs' t' := by
  have hz := hb.size
  have b0 : w1.heap[w.heap.size]? = some (.cells cs t) := below_block hb (by rw [alloc_block_old (by simp), alloc_block])
  have b1 : w1.heap[w.heap.size + 1]? = some (.cells cs' t') := below_block hb (by rw [← World.size_alloc w (.cells cs t), alloc_block])
  refine ⟨(((Below.refl _ _).alloc (Nat.le_refl _) _).alloc (by simp) _).trans (hb.mono (by simp; omega)), by simp at hz; omega, by simp at hz; omega, ?_⟩
  rw [← boxed_self b0, ← boxed_self b1]

/-- Two blocks that are known, behind a call that makes new blocks alone. -/
theorem two_again {w wx w2 : World} {B : Nat} {cs cs' : Array Value} {t t' : TypeId} (h0 : Below B w wx) (hz : B + 1 < wx.heap.size)
    (hb : Below (boxed (boxed wx B cs t) (B + 1) cs' t').heap.size (boxed (boxed wx B cs t) (B + 1) cs' t') w2) :
    Below B w w2 ∧ B + 1 < w2.heap.size ∧ w2 = boxed (boxed w2 B cs t) (B + 1) cs' t' := by
  have hs := hb.size
  have b0 : w2.heap[B]? = some (.cells cs t) := below_block hb (by rw [boxed_block_other (by omega), boxed_block (by omega)])
  have b1 : w2.heap[B + 1]? = some (.cells cs' t') := below_block hb (by rw [boxed_block (by rw [boxed_size]; exact hz)])
  rw [boxed_size, boxed_size] at hs
  have hq : Below B wx (boxed (boxed wx B cs t) (B + 1) cs' t') := boxed_below (boxed_below (Below.refl _ _) (Nat.le_refl B)) (Nat.le_succ B)
  refine ⟨h0.trans (hq.trans (hb.mono (by rw [boxed_size, boxed_size]; omega))), by omega, ?_⟩
  rw [← boxed_self b0, ← boxed_self b1]


/-- One block that is known, behind a call that makes new blocks alone. -/
theorem keep0 {w w2 : World} {cs : Array Value} {t : TypeId} (hb : Below (w.alloc (.cells cs t)).heap.size (w.alloc (.cells cs t)) w2) :
    Below w.heap.size w w2 ∧ w.heap.size < w2.heap.size ∧ w2 = boxed w2 w.heap.size cs t := by
  have hs := hb.size
  rw [World.size_alloc] at hs
  exact ⟨((Below.refl _ _).alloc (Nat.le_refl _) _).trans (hb.mono (by rw [World.size_alloc]; omega)), by omega, boxed_self (below_block hb alloc_block)⟩
theorem keep1 {w wx w2 : World} {b B : Nat} {cs : Array Value} {t : TypeId} (h0 : Below b w wx) (hB : b ≤ B) (hz : B < wx.heap.size) (hb : Below (boxed wx B cs t).heap.size (boxed wx B cs t) w2) :
    Below b w w2 ∧ B < w2.heap.size ∧ w2 = boxed w2 B cs t := by
  have hs := hb.size
  rw [boxed_size] at hs
  exact ⟨h0.trans ((boxed_below (Below.refl _ _) hB).trans (hb.mono (by rw [boxed_size]; omega))), by omega, boxed_self (below_block hb (boxed_block hz))⟩
/-- A block is made behind one that is known; then a call that makes new blocks alone. -/
theorem keep1_alloc {w wx w2 : World} {b B : Nat} {cs cs' : Array Value} {t t' : TypeId} (h0 : Below b w wx) (hB : b ≤ B) (hz : B < wx.heap.size)
    (hb : Below ((boxed wx B cs t).alloc (.cells cs' t')).heap.size ((boxed wx B cs t).alloc (.cells cs' t')) w2) :
    Below b w w2 ∧ B < w2.heap.size ∧ wx.heap.size < w2.heap.size ∧ w2 = boxed (boxed w2 B cs t) wx.heap.size cs' t' := by
  have hs := hb.size
  rw [World.size_alloc, boxed_size] at hs
  have b0 : w2.heap[B]? = some (.cells cs t) := below_block hb (by rw [alloc_block_old (by rw [boxed_size]; exact hz), boxed_block hz])
  have b1 : w2.heap[wx.heap.size]? = some (.cells cs' t') := below_block hb (by rw [← boxed_size (w := wx) (B := B) (cs := cs) (t := t), alloc_block])
  refine ⟨h0.trans (((boxed_below (Below.refl _ _) hB).alloc (by rw [boxed_size]; omega) _).trans (hb.mono (by rw [World.size_alloc, boxed_size]; omega))), by omega, by omega, ?_⟩
  rw [← boxed_self b0, ← boxed_self b1]
theorem keep2 {w wx w2 : World} {b B C : Nat} {cs cs' : Array Value} {t t' : TypeId} (h0 : Below b w wx) (hB : b ≤ B) (hC : B < C) (hz : C < wx.heap.size)
    (hb : Below (boxed (boxed wx B cs t) C cs' t').heap.size (boxed (boxed wx B cs t) C cs' t') w2) :
    Below b w w2 ∧ B < w2.heap.size ∧ C < w2.heap.size ∧ w2 = boxed (boxed w2 B cs t) C cs' t' := by
  have hs := hb.size
  rw [boxed_size, boxed_size] at hs
  have b0 : w2.heap[B]? = some (.cells cs t) := below_block hb (by rw [boxed_block_other (by omega), boxed_block (by omega)])
  have b1 : w2.heap[C]? = some (.cells cs' t') := below_block hb (by rw [boxed_block (by rw [boxed_size]; exact hz)])
  refine ⟨h0.trans ((boxed_below (boxed_below (Below.refl _ _) hB) (by omega)).trans (hb.mono (by rw [boxed_size, boxed_size]; omega))), by omega, by omega, ?_⟩
  rw [← boxed_self b0, ← boxed_self b1]
/-- A block is made in a world of which only what lies below is known; then a call that makes new blocks alone. -/
theorem keep_alloc {w wx w2 : World} {b : Nat} {cs : Array Value} {t : TypeId} (h0 : Below b w wx) (hB : b ≤ wx.heap.size) (hb : Below (wx.alloc (.cells cs t)).heap.size (wx.alloc (.cells cs t)) w2) :
    Below b w w2 ∧ wx.heap.size < w2.heap.size ∧ w2 = boxed w2 wx.heap.size cs t := by
  obtain ⟨h1, h2, h3⟩ := keep0 hb
  exact ⟨h0.trans (h1.mono hB), h2, h3⟩
/-- Two blocks are made behind one that is known; then a call that makes new blocks alone. -/
theorem keep1_alloc2 {w wx w2 : World} {b B : Nat} {cs cs' cs'' : Array Value} {t t' t'' : TypeId} (h0 : Below b w wx) (hB : b ≤ B) (hz : B < wx.heap.size)
    (hb : Below (((boxed wx B cs t).alloc (.cells cs' t')).alloc (.cells cs'' t'')).heap.size (((boxed wx B cs t).alloc (.cells cs' t')).alloc (.cells cs'' t'')) w2) :
    Below b w w2 ∧ B < w2.heap.size ∧ wx.heap.size + 1 < w2.heap.size ∧ w2 = boxed (boxed w2 B cs t) (wx.heap.size + 1) cs'' t'' := by
  have hs := hb.size
  rw [World.size_alloc, World.size_alloc, boxed_size] at hs
  have b0 : w2.heap[B]? = some (.cells cs t) := below_block hb (by rw [alloc_block_old (by rw [World.size_alloc, boxed_size]; omega), alloc_block_old (by rw [boxed_size]; exact hz), boxed_block hz])
  have b1 : w2.heap[wx.heap.size + 1]? = some (.cells cs'' t'') := below_block hb (by rw [← boxed_size (w := wx) (B := B) (cs := cs) (t := t), ← World.size_alloc (boxed wx B cs t) (.cells cs' t'), alloc_block])
  refine ⟨h0.trans ((((boxed_below (Below.refl _ _) hB).alloc (by rw [boxed_size]; omega) _).alloc (by rw [World.size_alloc, boxed_size]; omega) _).trans (hb.mono (by rw [World.size_alloc, World.size_alloc, boxed_size]; omega))), by omega, by omega, ?_⟩
  rw [← boxed_self b0, ← boxed_self b1]
end Go.Proofs.Ytlldkcelkgnalaa
