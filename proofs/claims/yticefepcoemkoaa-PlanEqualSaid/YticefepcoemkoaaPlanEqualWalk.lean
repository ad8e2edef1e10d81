/-
  The walk of the law PlanEqual: it returns true, whatever the input, and makes new blocks alone. No conditions.
-/
import Derived.Test.YticefepcoemkoaaPlanWalks
namespace Go.Proofs.Yticefepcoemkoaa
set_option maxRecDepth 20000
open Go.ChangeShapes Go.WideShapes Go.ChangeAt Go.RowKit

/-- A third block behind two that are known; then a call that makes new blocks alone. -/
theorem keep2_alloc {w wx w3 : World} {B : Nat} {cs cs' cs'' : Array Value} {t t' t'' : TypeId} (h0 : Below B w wx) (hz : B + 1 < wx.heap.size)
    (hb : Below ((boxed (boxed wx B cs t) (B + 1) cs' t').alloc (.cells cs'' t'')).heap.size ((boxed (boxed wx B cs t) (B + 1) cs' t').alloc (.cells cs'' t'')) w3) :
    Below B w w3 ∧ B + 1 < w3.heap.size ∧ wx.heap.size < w3.heap.size ∧ w3 = boxed (boxed (boxed w3 B cs t) (B + 1) cs' t') wx.heap.size cs'' t'' := by
  have hs := hb.size
  rw [World.size_alloc, boxed_size, boxed_size] at hs
  have b0 : w3.heap[B]? = some (.cells cs t) := below_block hb (by rw [alloc_block_old (by rw [boxed_size, boxed_size]; omega), boxed_block_other (by omega), boxed_block (by omega)])
  have b1 : w3.heap[B + 1]? = some (.cells cs' t') := below_block hb (by rw [alloc_block_old (by rw [boxed_size, boxed_size]; omega), boxed_block (by rw [boxed_size]; omega)])
  have b2 : w3.heap[wx.heap.size]? = some (.cells cs'' t'') := below_block hb (by rw [show wx.heap.size = (boxed (boxed wx B cs t) (B + 1) cs' t').heap.size by rw [boxed_size, boxed_size]]; exact alloc_block)
  have hq : Below B wx (boxed (boxed wx B cs t) (B + 1) cs' t') := boxed_below (boxed_below (Below.refl _ _) (Nat.le_refl B)) (Nat.le_succ B)
  refine ⟨h0.trans ((hq.alloc (by rw [boxed_size, boxed_size]; omega) _).trans (hb.mono (by rw [World.size_alloc, boxed_size, boxed_size]; omega))), by omega, by omega, ?_⟩
  rw [← boxed_self b0, ← boxed_self b1, ← boxed_self b2]
/-- Three blocks that are known, behind a call that makes new blocks alone. -/
theorem keep3 {w wx w3 : World} {B C : Nat} {cs cs' cs'' : Array Value} {t t' t'' : TypeId} (h0 : Below B w wx) (hC : B + 1 < C) (hz : C < wx.heap.size)
    (hb : Below (boxed (boxed (boxed wx B cs t) (B + 1) cs' t') C cs'' t'').heap.size (boxed (boxed (boxed wx B cs t) (B + 1) cs' t') C cs'' t'') w3) :
    Below B w w3 ∧ C < w3.heap.size ∧ w3 = boxed (boxed (boxed w3 B cs t) (B + 1) cs' t') C cs'' t'' := by
  have hs := hb.size
  rw [boxed_size, boxed_size, boxed_size] at hs
  have b0 : w3.heap[B]? = some (.cells cs t) := below_block hb (by rw [boxed_block_other (by omega), boxed_block_other (by omega), boxed_block (by omega)])
  have b1 : w3.heap[B + 1]? = some (.cells cs' t') := below_block hb (by rw [boxed_block_other (by omega), boxed_block (by rw [boxed_size]; omega)])
  have b2 : w3.heap[C]? = some (.cells cs'' t'') := below_block hb (by rw [boxed_block (by rw [boxed_size, boxed_size]; omega)])
  have hq : Below B wx (boxed (boxed (boxed wx B cs t) (B + 1) cs' t') C cs'' t'') := boxed_below (boxed_below (boxed_below (Below.refl _ _) (Nat.le_refl B)) (Nat.le_succ B)) (by omega)
  refine ⟨h0.trans (hq.trans (hb.mono (by rw [boxed_size, boxed_size, boxed_size]; omega))), by omega, ?_⟩
  rw [← boxed_self b0, ← boxed_self b1, ← boxed_self b2]

theorem part_more {a p q n : Int} (h : 0 ≤ a) (h1 : p ≤ q) (h2 : 1 ≤ n) : a * p / n ≤ a * q / n :=
  Int.ediv_le_ediv (by omega) (Int.mul_le_mul_of_nonneg_left h1 h)

set_option maxHeartbeats 4000000 in
theorem planEqual_all (a u e t a' u' e' t' : Int) (g l g' l' : Bool) (k j y : Int) (wu : 0 ≤ u ∧ u < 256) (wu' : 0 ≤ u' ∧ u' < 256) (k0 : 0 ≤ k) (k1 : k < 256) (j0 : 0 ≤ j) (j1 : j < 256) (y0 : 0 ≤ y) (y1 : y < 65536) (w : World) :
    Calls Try.prog 7 #[.agg #[.int .i64 a, .int .u8 u, .int .i64 e, .int .i64 t, .bool g, .bool l], .agg #[.int .i64 a', .int .u8 u', .int .i64 e', .int .i64 t', .bool g', .bool l'], .int .u8 k, .int .u8 j, .int .u16 y] w fun e w' => e = .returned (.bool true) ∧ Below w.heap.size w w' := by
  obtain ⟨a0, a1⟩ := Pn.nP_ok a
  obtain ⟨b0, b1⟩ := Pn.nP_ok a'
  have WU := Lib.hid wu
  have WU' := Lib.hid wu'
  clear wu wu'
  go_enter Try.func7, Try.ntmps7
  go_wp2_with (fail)
  refine (near_any a u e t g l _ WU.out).mono ?_
  rintro x w1 ⟨rfl, hb1⟩
  obtain ⟨hw1, s1, z1, e1⟩ := two_of hb1
  rw [e1]
  have HW1 := Lib.hid hw1
  clear e1 hb1 hw1
  go_wp2_with (fail)
  refine (near_any a' u' e' t' g' l' _ WU'.out).mono ?_
  rintro x w2 ⟨rfl, hb2⟩
  obtain ⟨hw2, z2, e2⟩ := two_again HW1.out z1 hb2
  rw [e2]
  have s2 : w.heap.size < w2.heap.size := by omega
  have HW2 := Lib.hid hw2
  clear e2 hb2 hw2 HW1 z1
  have n1 : w.heap.size ≠ w2.heap.size := by omega
  have n2 : w.heap.size + 1 ≠ w2.heap.size := by omega
  go_wp2_with (fail)
  refine (change_yes _ _ _ _ _ _ _ _ _ _ _ _ _ _ _ a0 (by omega) a0 (by omega) k0 (by omega) (by omega) (by omega)).mono ?_
  rintro x w3 ⟨rfl, hb3⟩
  obtain ⟨hw3, z3, c3, e3⟩ := keep2_alloc HW2.out z2 hb3
  rw [e3]
  have s3 : w.heap.size < w3.heap.size := by omega
  have HW3 := Lib.hid hw3
  clear e3 hb3 hw3 HW2
  have hC : w.heap.size + 1 < w2.heap.size := z2
  have hCn : w2.heap.size ≠ w.heap.size := by omega
  have hCm : w2.heap.size ≠ w.heap.size + 1 := by omega
  clear z2 s2
  generalize w2.heap.size = C at *
  go_wp2_with (fail)
  refine (change_yes _ _ _ _ _ _ _ _ _ _ _ _ _ _ _ a0 (by omega) b0 (by omega) k0 (by omega) (by omega) (by omega)).mono ?_
  rintro x w4 ⟨rfl, hb4⟩
  obtain ⟨hw4, z4, e4⟩ := keep3 HW3.out hC c3 hb4
  rw [e4]
  have s4 : w.heap.size < w4.heap.size := by omega
  have t4 : w.heap.size + 1 < w4.heap.size := by omega
  have HW4 := Lib.hid hw4
  clear e4 hb4 hw4 HW3 c3 z3 s3
  go_wp2_with (fail)
  refine (change_yes _ _ _ _ _ _ _ _ _ _ _ _ _ _ _ a0 (by omega) b0 (by omega) (by omega) (by omega) (by omega) (by omega)).mono ?_
  rintro x w5 ⟨rfl, hb5⟩
  obtain ⟨hw5, z5, e5⟩ := keep3 HW4.out hC z4 hb5
  rw [e5]
  have s5 : w.heap.size < w5.heap.size := by omega
  have HW5 := Lib.hid hw5
  clear e5 hb5 hw5 HW4 z4 s4 t4
  have m1 := part_more (n := k + j + 1 + y % 400) a0 (show k ≤ k + j by omega) (by omega)
  have m2 := part_more (n := k + j + 1 + y % 400) b0 (show k ≤ k + j by omega) (by omega)
  go_wp2_with (fail)
  refine (pnawake_any _).mono ?_
  rintro x w6 ⟨rfl, hb6⟩
  have hw6 := (keep3 HW5.out hC z5 hb6).1
  clear hb6
  go_wp2
  go_ret
  exact ⟨rfl, hw6⟩

theorem planEqual_walk (a u e t : Int) (g l : Bool) (h : (⟨a, u, e, t, g, l⟩ : Pv).Wf) (a' u' e' t' : Int) (g' l' : Bool) (h' : (⟨a', u', e', t', g', l'⟩ : Pv).Wf) (k : Int) (wk : (Lit.int .u8 k).wf = true) (j : Int) (wj : (Lit.int .u8 j).wf = true) (y : Int) (wy : (Lit.int .u16 y).wf = true) (w : World) :
    Calls Try.prog 7 #[.agg #[.int .i64 a, .int .u8 u, .int .i64 e, .int .i64 t, .bool g, .bool l], .agg #[.int .i64 a', .int .u8 u', .int .i64 e', .int .i64 t', .bool g', .bool l'], .int .u8 k, .int .u8 j, .int .u16 y] w fun e w' => e = .returned (.bool true) ∧ Below w.heap.size w w' :=
  planEqual_all a u e t a' u' e' t' g l g' l' k j y h.2.1 h'.2.1 (wf_u8 wk).1 (wf_u8 wk).2 (wf_u8 wj).1 (wf_u8 wj).2 (wf_u16 wy).1 (wf_u16 wy).2 w
end Go.Proofs.Yticefepcoemkoaa
