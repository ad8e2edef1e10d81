/-
  A world that is known in three blocks. No conditions but those that each law names.
-/
import Derived.Test.YtcgglphphdpplaaWl
namespace Go.Proofs.Ytcgglphphdpplaa
open Go.ChangeShapes Go.WideShapes Go.ChangeAt Go.RowKit

/-- Three new blocks of a call, behind another call that makes new blocks alone; and again. -/
theorem box3 {w w1 : World} {cs0 cs1 cs2 : Array Value} {t0 t1 t2 : TypeId} (hb : Below (((w.alloc (.cells cs0 t0)).alloc (.cells cs1 t1)).alloc (.cells cs2 t2)).heap.size (((w.alloc (.cells cs0 t0)).alloc (.cells cs1 t1)).alloc (.cells cs2 t2)) w1) :
    Below w.heap.size w w1 ∧ w.heap.size < w1.heap.size ∧ w.heap.size + 1 < w1.heap.size ∧ w.heap.size + 1 + 1 < w1.heap.size ∧ w1 = boxed (boxed (boxed w1 w.heap.size cs0 t0) (w.heap.size + 1) cs1 t1) (w.heap.size + 1 + 1) cs2 t2 := by
  have hz := hb.size
  have b0 : w1.heap[w.heap.size]? = some (.cells cs0 t0) := below_block hb (alloc_old (by simp; omega) (alloc_old (by simp) (alloc_at rfl)))
  have b1 : w1.heap[w.heap.size + 1]? = some (.cells cs1 t1) := below_block hb (alloc_old (by simp) (alloc_at (by simp)))
  have b2 : w1.heap[w.heap.size + 1 + 1]? = some (.cells cs2 t2) := below_block hb (alloc_at (by simp))
  simp at hz
  refine ⟨((((Below.refl _ _).alloc (Nat.le_refl _) _).alloc (by simp) _).alloc (by simp; omega) _).trans (hb.mono (by simp; omega)), by omega, by omega, by omega, ?_⟩
  rw [← boxed_self b0, ← boxed_self b1, ← boxed_self b2]
theorem box3_again {w wx w2 : World} {B : Nat} {cs0 cs1 cs2 : Array Value} {t0 t1 t2 : TypeId} (h0 : Below B w wx) (hz : B + 1 + 1 < wx.heap.size)
    (hb : Below (boxed (boxed (boxed wx B cs0 t0) (B + 1) cs1 t1) (B + 1 + 1) cs2 t2).heap.size (boxed (boxed (boxed wx B cs0 t0) (B + 1) cs1 t1) (B + 1 + 1) cs2 t2) w2) :
    Below B w w2 ∧ B + 1 + 1 < w2.heap.size ∧ w2 = boxed (boxed (boxed w2 B cs0 t0) (B + 1) cs1 t1) (B + 1 + 1) cs2 t2 := by
  have hs := hb.size
  have b0 : w2.heap[B]? = some (.cells cs0 t0) := below_block hb (boxed_old (by omega) (boxed_old (by omega) (boxed_at (by omega))))
  have b1 : w2.heap[B + 1]? = some (.cells cs1 t1) := below_block hb (boxed_old (by omega) (boxed_at (by rw [boxed_size]; omega)))
  have b2 : w2.heap[B + 1 + 1]? = some (.cells cs2 t2) := below_block hb (boxed_at (by rw [boxed_size, boxed_size]; omega))
  rw [boxed_size, boxed_size, boxed_size] at hs
  have hq : Below B wx (boxed (boxed (boxed wx B cs0 t0) (B + 1) cs1 t1) (B + 1 + 1) cs2 t2) := boxed_below (boxed_below (boxed_below (Below.refl _ _) (Nat.le_refl B)) (by omega)) (by omega)
  refine ⟨h0.trans (hq.trans (hb.mono (by rw [boxed_size, boxed_size, boxed_size]; omega))), by omega, ?_⟩
  rw [← boxed_self b0, ← boxed_self b1, ← boxed_self b2]
section
variable {wx : World} {B : Nat} {c0 c1 c2 : Array Value} {t0 t1 t2 : TypeId} {o o' : Obj}
/-- The first two of three known blocks, with a block or two that are made behind them. -/
theorem look0 (h : B + 1 + 1 < wx.heap.size) : (boxed (boxed (boxed wx B c0 t0) (B + 1) c1 t1) (B + 1 + 1) c2 t2).heap[B]? = some (.cells c0 t0 (0, 0)) :=
  boxed_old (by omega) (boxed_old (by omega) (boxed_at (by omega)))
theorem look1 (h : B + 1 + 1 < wx.heap.size) : (boxed (boxed (boxed wx B c0 t0) (B + 1) c1 t1) (B + 1 + 1) c2 t2).heap[B + 1]? = some (.cells c1 t1 (0, 0)) :=
  boxed_old (by omega) (boxed_at (by rw [boxed_size]; omega))
theorem look0_1 (h : B + 1 + 1 < wx.heap.size) : ((boxed (boxed (boxed wx B c0 t0) (B + 1) c1 t1) (B + 1 + 1) c2 t2).alloc o).heap[B]? = some (.cells c0 t0 (0, 0)) := alloc_old (by simp; omega) (look0 h)
theorem look1_1 (h : B + 1 + 1 < wx.heap.size) : ((boxed (boxed (boxed wx B c0 t0) (B + 1) c1 t1) (B + 1 + 1) c2 t2).alloc o).heap[B + 1]? = some (.cells c1 t1 (0, 0)) := alloc_old (by simp; omega) (look1 h)
theorem look0_2 (h : B + 1 + 1 < wx.heap.size) : (((boxed (boxed (boxed wx B c0 t0) (B + 1) c1 t1) (B + 1 + 1) c2 t2).alloc o).alloc o').heap[B]? = some (.cells c0 t0 (0, 0)) := alloc_old (by simp; omega) (look0_1 h)
theorem look1_2 (h : B + 1 + 1 < wx.heap.size) : (((boxed (boxed (boxed wx B c0 t0) (B + 1) c1 t1) (B + 1 + 1) c2 t2).alloc o).alloc o').heap[B + 1]? = some (.cells c1 t1 (0, 0)) := alloc_old (by simp; omega) (look1_1 h)
end
end Go.Proofs.Ytcgglphphdpplaa
