/-
  A world that is known in two or three blocks, behind a call. No conditions but those that each law names.
-/
import Derived.Test.YthilcefikhnilaaBox3
namespace Go.Proofs.Ythilcefikhnilaa
open Go.ChangeShapes Go.WideShapes Go.ChangeAt Go.RowKit

/-- A block is made behind two that are known; then a call that makes new blocks alone. -/
theorem keep2_alloc {w wx w2 : World} {b B C : Nat} {cs cs' cs'' : Array Value} {t t' t'' : TypeId} (h0 : Below b w wx) (hB : b ≤ B) (hC : B < C) (hz : C < wx.heap.size)
    (hb : Below ((boxed (boxed wx B cs t) C cs' t').alloc (.cells cs'' t'')).heap.size ((boxed (boxed wx B cs t) C cs' t').alloc (.cells cs'' t'')) w2) :
    Below b w w2 ∧ B < w2.heap.size ∧ C < w2.heap.size ∧ wx.heap.size < w2.heap.size ∧ w2 = boxed (boxed (boxed w2 B cs t) C cs' t') wx.heap.size cs'' t'' := by
  have hs := hb.size
  rw [World.size_alloc, boxed_size, boxed_size] at hs
  have b0 : w2.heap[B]? = some (.cells cs t (0, 0)) := below_block hb (alloc_old (by rw [boxed_size, boxed_size]; omega) (boxed_old (by omega) (boxed_at (by omega))))
  have b1 : w2.heap[C]? = some (.cells cs' t' (0, 0)) := below_block hb (alloc_old (by rw [boxed_size, boxed_size]; omega) (boxed_at (by rw [boxed_size]; omega)))
  have b2 : w2.heap[wx.heap.size]? = some (.cells cs'' t'' (0, 0)) := below_block hb (alloc_at (by rw [boxed_size, boxed_size]))
  refine ⟨h0.trans (((boxed_below (boxed_below (Below.refl _ _) hB) (by omega)).alloc (by rw [boxed_size, boxed_size]; have := h0.size; omega) _).trans (hb.mono (by rw [World.size_alloc, boxed_size, boxed_size]; omega))), by omega, by omega, by omega, ?_⟩
  rw [← boxed_self b0, ← boxed_self b1, ← boxed_self b2]
/-- Three known blocks wherever they lie; a call that makes new blocks alone, and one behind a new block. -/
theorem keep3 {w wx w2 : World} {b B C D : Nat} {cs cs' cs'' : Array Value} {t t' t'' : TypeId} (h0 : Below b w wx) (hB : b ≤ B) (hC : B < C) (hD : C < D) (hz : D < wx.heap.size)
    (hb : Below (boxed (boxed (boxed wx B cs t) C cs' t') D cs'' t'').heap.size (boxed (boxed (boxed wx B cs t) C cs' t') D cs'' t'') w2) :
    Below b w w2 ∧ B < w2.heap.size ∧ C < w2.heap.size ∧ D < w2.heap.size ∧ w2 = boxed (boxed (boxed w2 B cs t) C cs' t') D cs'' t'' := by
  have hs := hb.size
  rw [boxed_size, boxed_size, boxed_size] at hs
  have b0 : w2.heap[B]? = some (.cells cs t (0, 0)) := below_block hb (boxed_old (by omega) (boxed_old (by omega) (boxed_at (by omega))))
  have b1 : w2.heap[C]? = some (.cells cs' t' (0, 0)) := below_block hb (boxed_old (by omega) (boxed_at (by rw [boxed_size]; omega)))
  have b2 : w2.heap[D]? = some (.cells cs'' t'' (0, 0)) := below_block hb (boxed_at (by rw [boxed_size, boxed_size]; omega))
  refine ⟨h0.trans ((boxed_below (boxed_below (boxed_below (Below.refl _ _) hB) (by omega)) (by omega)).trans (hb.mono (by rw [boxed_size, boxed_size, boxed_size]; omega))), by omega, by omega, by omega, ?_⟩
  rw [← boxed_self b0, ← boxed_self b1, ← boxed_self b2]
end Go.Proofs.Ythilcefikhnilaa
