/-
  The walk of the law CycleOld where the answer is one of its own, turned. No conditions.
-/
import Derived.Test.YthilcefikhnilaaCyKeeps
namespace Go.Proofs.Ythilcefikhnilaa
set_option maxRecDepth 20000
open Go.ChangeShapes Go.WideShapes Go.ChangeAt Go.RowKit

set_option maxHeartbeats 8000000 in
theorem old_b0 (q a t h y : Int) (o : Bool) (n' d' p' a' u' t' x' : Int) (g' : Bool) (k0 s0 c0 t0 m0 : Int) (K S C T M V : Int) (w : World)
    (HC : Hid (∀ w, Calls Try.prog 17 #[.int .u8 q, .int .u16 7, .int .u16 9, .int .u32 a, .int .i32 5, .int .u8 t, .int .u16 3, .bool true] w fun e w' => e = .returned (.agg #[.int .i64 n', .int .i64 d', .int .u8 p', .int .i64 a', .int .i64 u', .int .i64 t', .int .i64 x', .bool g']) ∧ Below w.heap.size w w'))
    (HA : Hid (∀ w, Calls Try.prog 18 #[.int .i64 2, .agg #[.int .i64 n', .int .i64 d', .int .u8 p', .int .i64 a', .int .i64 u', .int .i64 t', .int .i64 x', .bool g']] w fun e w' => e = .returned (.tuple #[.agg #[.int .u8 k0, .int .i64 s0, .int .i64 c0, .int .i64 t0, .int .i64 m0, .int .u8 0], .bool true]) ∧ Below w.heap.size w w'))
    (HH : Hid (∀ w, Calls Try.prog 21 #[.int .i64 2, .agg #[.int .i64 n', .int .i64 d', .int .u8 p', .int .i64 a', .int .i64 u', .int .i64 t', .int .i64 x', .bool g'], .agg #[.int .u8 k0, .int .i64 (s0 + 1), .int .i64 c0, .int .i64 t0, .int .i64 m0, .int .u8 1], .int .i64 y, .bool o] w fun e w' => e = .returned (.tuple #[.agg #[.int .i64 n', .int .i64 d', .int .u8 p', .int .i64 a', .int .i64 u', .int .i64 t', .int .i64 x', .bool g'], .int .i64 10]) ∧ Below w.heap.size w w'))
    (hy0 : 0 ≤ y) (hy1 : y < 65536) (hh : 0 ≤ h ∧ h < 256) (hge : 128 ≤ h) (hr : h % 6 = 0) (hb9 : (1 ≤ k0 ∧ k0 ≤ 5) ∧ (0 ≤ s0 ∧ s0 ≤ 100) ∧ (0 ≤ c0 ∧ c0 ≤ 100) ∧ (0 ≤ t0 ∧ t0 ≤ 100) ∧ 0 ≤ m0 ∧ m0 ≤ 8589934592) :
    Calls Try.prog 6 #[.int .u8 q, .int .u32 a, .int .u8 t, .agg #[.int .u8 K, .int .i64 S, .int .i64 C, .int .i64 T, .int .i64 M, .int .u8 V], .int .u8 h, .int .u16 y, .bool o] w fun e w' => e = .returned (.bool true) ∧ Below w.heap.size w w' := by
  obtain ⟨hh0, hh1⟩ := hh
  obtain ⟨⟨hk0, hk1⟩, ⟨hs0, hs1⟩, ⟨hc0, hc1⟩, ⟨ht0, ht1⟩, hm0, hm1⟩ := hb9
  have dh : decide (128 ≤ h) = true := by simp; omega
  have er : h.tmod 6 = 0 := by rw [Int.tmod_eq_emod_of_nonneg hh0]; exact hr
  have d1 : (s0 + 1 == s0) = false := by rw [beq_eq_false_iff_ne]; omega
  clear hge hr
  go_enter Try.func6, Try.ntmps6
  go_wp2_with (fail)
  refine (HC.out _).mono ?_
  rintro e w1 ⟨rfl, hb⟩
  obtain ⟨hw, z0, e1⟩ := keep0 hb
  rw [e1]
  have HW1 := Lib.hid hw
  clear e1 hb hw
  go_wp2_with (fail)
  refine (HA.out _).mono ?_
  rintro e w2 ⟨rfl, hb⟩
  obtain ⟨hw, z1, z2, e1⟩ := keep1_alloc HW1.out (Nat.le_refl _) z0 hb
  rw [e1]
  have HW2 := Lib.hid hw
  clear e1 hb hw HW1
  have z3 : w.heap.size < w2.heap.size + 1 := by omega
  have z4 : w1.heap.size < w2.heap.size + 1 := by omega
  have z5 : w.heap.size < w2.heap.size + 1 + 1 := by omega
  have z6 : w1.heap.size < w2.heap.size + 1 + 1 := by omega
  go_wp2_with (fail)
  refine (HH.out _).mono ?_
  rintro e w3 ⟨rfl, hb⟩
  have ha3 : w3.heap[w.heap.size]? = some (.cells #[.int .u8 k0, .int .i64 (s0 + 1), .int .i64 c0, .int .i64 t0, .int .i64 m0, .int .u8 1] 35 (0, 0)) := below_block hb (by (repeat (first | assumption | (with_reducible refine alloc_at ?_; (focus (first | omega | (simp; done) | (simp; omega)))) | (with_reducible refine boxed_at ?_; (focus (first | omega | (simp; done) | (simp; omega)))) | (with_reducible refine alloc_old ?_ ?_; (focus (first | omega | (simp; done) | (simp; omega)))) | (with_reducible refine boxed_old ?_ ?_; (focus (first | omega | (simp; done) | (simp; omega)))) | (with_reducible refine drew_old ?_))))
  have hc3 : w3.heap[w1.heap.size]? = some (.cells #[.int .i64 n', .int .i64 d', .int .u8 p', .int .i64 a', .int .i64 u', .int .i64 t', .int .i64 x', .bool g'] 25 (0, 0)) := below_block hb (by (repeat (first | assumption | (with_reducible refine alloc_at ?_; (focus (first | omega | (simp; done) | (simp; omega)))) | (with_reducible refine boxed_at ?_; (focus (first | omega | (simp; done) | (simp; omega)))) | (with_reducible refine alloc_old ?_ ?_; (focus (first | omega | (simp; done) | (simp; omega)))) | (with_reducible refine boxed_old ?_ ?_; (focus (first | omega | (simp; done) | (simp; omega)))) | (with_reducible refine drew_old ?_))))
  have hn3 : w3.heap[w2.heap.size]? = some (.cells #[.int .u8 k0, .int .i64 s0, .int .i64 c0, .int .i64 t0, .int .i64 m0, .int .u8 0] 35 (0, 0)) := below_block hb (by (repeat (first | assumption | (with_reducible refine alloc_at ?_; (focus (first | omega | (simp; done) | (simp; omega)))) | (with_reducible refine boxed_at ?_; (focus (first | omega | (simp; done) | (simp; omega)))) | (with_reducible refine alloc_old ?_ ?_; (focus (first | omega | (simp; done) | (simp; omega)))) | (with_reducible refine boxed_old ?_ ?_; (focus (first | omega | (simp; done) | (simp; omega)))) | (with_reducible refine drew_old ?_))))
  have hm3 : w3.heap[w2.heap.size + 1 + 1]? = some (.cells #[.int .u8 k0, .int .i64 (s0 + 1), .int .i64 c0, .int .i64 t0, .int .i64 m0, .int .u8 0] 35 (0, 0)) := below_block hb (by (repeat (first | assumption | (with_reducible refine alloc_at ?_; (focus (first | omega | (simp; done) | (simp; omega)))) | (with_reducible refine boxed_at ?_; (focus (first | omega | (simp; done) | (simp; omega)))) | (with_reducible refine alloc_old ?_ ?_; (focus (first | omega | (simp; done) | (simp; omega)))) | (with_reducible refine boxed_old ?_ ?_; (focus (first | omega | (simp; done) | (simp; omega)))) | (with_reducible refine drew_old ?_))))
  have hb3 : Below w.heap.size w w3 := by
    refine Below.trans ?_ (hb.mono (by simp; omega))
    have hB2 := HW2.out
    (repeat (first | assumption | (with_reducible exact Below.refl _ _) | (with_reducible refine boxed_below ?_ ?_; rotate_left; (focus (first | omega | (simp; done) | (simp; omega)))) | (with_reducible refine Below.alloc ?_ ?_ _; rotate_left; (focus (first | omega | (simp; done) | (simp; omega)))) | (with_reducible refine Below.drew ?_)))
  have l1 : w.heap.size < w3.heap.size := (Array.getElem?_eq_some_iff.1 ha3).1
  have l2 : w1.heap.size < w3.heap.size := (Array.getElem?_eq_some_iff.1 hc3).1
  have l3 : w2.heap.size < w3.heap.size := (Array.getElem?_eq_some_iff.1 hn3).1
  have l4 : w2.heap.size + 1 + 1 < w3.heap.size := (Array.getElem?_eq_some_iff.1 hm3).1
  obtain ⟨i0, i1, i2, i3, i4, i5⟩ := cells6 ha3
  obtain ⟨j0, j1, j2, j3, j4, j5⟩ := cells6 hn3
  obtain ⟨f0, f1, f2, f3, f4, f5⟩ := cells6 hm3
  have HC3 := Lib.hid hc3
  have HB3 := Lib.hid hb3
  clear ha3 hc3 hn3 hm3 hb3 hb HW2
  go_wp2_with (fail)
  refine (cyawake_any _).mono ?_
  rintro e w4 ⟨rfl, hb⟩
  have hc4 : w4.heap[w1.heap.size]? = some (.cells #[.int .i64 n', .int .i64 d', .int .u8 p', .int .i64 a', .int .i64 u', .int .i64 t', .int .i64 x', .bool g'] 25 (0, 0)) := below_block hb (alloc_old l2 HC3.out)
  have hx4 : w4.heap[w3.heap.size]? = some (.cells #[.int .i64 n', .int .i64 d', .int .u8 p', .int .i64 a', .int .i64 u', .int .i64 t', .int .i64 x', .bool g'] 25 (0, 0)) := below_block hb (alloc_at rfl)
  obtain ⟨r0, r1, r2, r3, r4, r5, r6, r7⟩ := cells8 hc4
  obtain ⟨b0, b1, b2, b3, b4, b5, b6, b7⟩ := cells8 hx4
  have HB4 := Lib.hid ((HB3.out.alloc (by exact HB3.out.size) _).trans (hb.mono (by simp; omega)))
  clear hb hc4 hx4 i0 i1 i2 i3 i4 i5 j0 j1 j2 j3 j4 j5 f0 f1 f2 f3 f4 f5
  go_wp2
  go_ret
  exact ⟨by simp, HB4.out⟩
set_option maxHeartbeats 8000000 in
theorem old_b1 (q a t h y : Int) (o : Bool) (n' d' p' a' u' t' x' : Int) (g' : Bool) (k0 s0 c0 t0 m0 : Int) (K S C T M V : Int) (w : World)
    (HC : Hid (∀ w, Calls Try.prog 17 #[.int .u8 q, .int .u16 7, .int .u16 9, .int .u32 a, .int .i32 5, .int .u8 t, .int .u16 3, .bool true] w fun e w' => e = .returned (.agg #[.int .i64 n', .int .i64 d', .int .u8 p', .int .i64 a', .int .i64 u', .int .i64 t', .int .i64 x', .bool g']) ∧ Below w.heap.size w w'))
    (HA : Hid (∀ w, Calls Try.prog 18 #[.int .i64 2, .agg #[.int .i64 n', .int .i64 d', .int .u8 p', .int .i64 a', .int .i64 u', .int .i64 t', .int .i64 x', .bool g']] w fun e w' => e = .returned (.tuple #[.agg #[.int .u8 k0, .int .i64 s0, .int .i64 c0, .int .i64 t0, .int .i64 m0, .int .u8 0], .bool true]) ∧ Below w.heap.size w w'))
    (HH : Hid (∀ w, Calls Try.prog 21 #[.int .i64 2, .agg #[.int .i64 n', .int .i64 d', .int .u8 p', .int .i64 a', .int .i64 u', .int .i64 t', .int .i64 x', .bool g'], .agg #[.int .u8 k0, .int .i64 s0, .int .i64 (c0 + 1), .int .i64 t0, .int .i64 m0, .int .u8 1], .int .i64 y, .bool o] w fun e w' => e = .returned (.tuple #[.agg #[.int .i64 n', .int .i64 d', .int .u8 p', .int .i64 a', .int .i64 u', .int .i64 t', .int .i64 x', .bool g'], .int .i64 10]) ∧ Below w.heap.size w w'))
    (hy0 : 0 ≤ y) (hy1 : y < 65536) (hh : 0 ≤ h ∧ h < 256) (hge : 128 ≤ h) (hr : h % 6 = 1) (hb9 : (1 ≤ k0 ∧ k0 ≤ 5) ∧ (0 ≤ s0 ∧ s0 ≤ 100) ∧ (0 ≤ c0 ∧ c0 ≤ 100) ∧ (0 ≤ t0 ∧ t0 ≤ 100) ∧ 0 ≤ m0 ∧ m0 ≤ 8589934592) :
    Calls Try.prog 6 #[.int .u8 q, .int .u32 a, .int .u8 t, .agg #[.int .u8 K, .int .i64 S, .int .i64 C, .int .i64 T, .int .i64 M, .int .u8 V], .int .u8 h, .int .u16 y, .bool o] w fun e w' => e = .returned (.bool true) ∧ Below w.heap.size w w' := by
  obtain ⟨hh0, hh1⟩ := hh
  obtain ⟨⟨hk0, hk1⟩, ⟨hs0, hs1⟩, ⟨hc0, hc1⟩, ⟨ht0, ht1⟩, hm0, hm1⟩ := hb9
  have dh : decide (128 ≤ h) = true := by simp; omega
  have er : h.tmod 6 = 1 := by rw [Int.tmod_eq_emod_of_nonneg hh0]; exact hr
  have d1 : (c0 + 1 == c0) = false := by rw [beq_eq_false_iff_ne]; omega
  clear hge hr
  go_enter Try.func6, Try.ntmps6
  go_wp2_with (fail)
  refine (HC.out _).mono ?_
  rintro e w1 ⟨rfl, hb⟩
  obtain ⟨hw, z0, e1⟩ := keep0 hb
  rw [e1]
  have HW1 := Lib.hid hw
  clear e1 hb hw
  go_wp2_with (fail)
  refine (HA.out _).mono ?_
  rintro e w2 ⟨rfl, hb⟩
  obtain ⟨hw, z1, z2, e1⟩ := keep1_alloc HW1.out (Nat.le_refl _) z0 hb
  rw [e1]
  have HW2 := Lib.hid hw
  clear e1 hb hw HW1
  have z3 : w.heap.size < w2.heap.size + 1 := by omega
  have z4 : w1.heap.size < w2.heap.size + 1 := by omega
  have z5 : w.heap.size < w2.heap.size + 1 + 1 := by omega
  have z6 : w1.heap.size < w2.heap.size + 1 + 1 := by omega
  go_wp2_with (fail)
  refine (HH.out _).mono ?_
  rintro e w3 ⟨rfl, hb⟩
  have ha3 : w3.heap[w.heap.size]? = some (.cells #[.int .u8 k0, .int .i64 s0, .int .i64 (c0 + 1), .int .i64 t0, .int .i64 m0, .int .u8 1] 35 (0, 0)) := below_block hb (by (repeat (first | assumption | (with_reducible refine alloc_at ?_; (focus (first | omega | (simp; done) | (simp; omega)))) | (with_reducible refine boxed_at ?_; (focus (first | omega | (simp; done) | (simp; omega)))) | (with_reducible refine alloc_old ?_ ?_; (focus (first | omega | (simp; done) | (simp; omega)))) | (with_reducible refine boxed_old ?_ ?_; (focus (first | omega | (simp; done) | (simp; omega)))) | (with_reducible refine drew_old ?_))))
  have hc3 : w3.heap[w1.heap.size]? = some (.cells #[.int .i64 n', .int .i64 d', .int .u8 p', .int .i64 a', .int .i64 u', .int .i64 t', .int .i64 x', .bool g'] 25 (0, 0)) := below_block hb (by (repeat (first | assumption | (with_reducible refine alloc_at ?_; (focus (first | omega | (simp; done) | (simp; omega)))) | (with_reducible refine boxed_at ?_; (focus (first | omega | (simp; done) | (simp; omega)))) | (with_reducible refine alloc_old ?_ ?_; (focus (first | omega | (simp; done) | (simp; omega)))) | (with_reducible refine boxed_old ?_ ?_; (focus (first | omega | (simp; done) | (simp; omega)))) | (with_reducible refine drew_old ?_))))
  have hn3 : w3.heap[w2.heap.size]? = some (.cells #[.int .u8 k0, .int .i64 s0, .int .i64 c0, .int .i64 t0, .int .i64 m0, .int .u8 0] 35 (0, 0)) := below_block hb (by (repeat (first | assumption | (with_reducible refine alloc_at ?_; (focus (first | omega | (simp; done) | (simp; omega)))) | (with_reducible refine boxed_at ?_; (focus (first | omega | (simp; done) | (simp; omega)))) | (with_reducible refine alloc_old ?_ ?_; (focus (first | omega | (simp; done) | (simp; omega)))) | (with_reducible refine boxed_old ?_ ?_; (focus (first | omega | (simp; done) | (simp; omega)))) | (with_reducible refine drew_old ?_))))
  have hm3 : w3.heap[w2.heap.size + 1 + 1]? = some (.cells #[.int .u8 k0, .int .i64 s0, .int .i64 (c0 + 1), .int .i64 t0, .int .i64 m0, .int .u8 0] 35 (0, 0)) := below_block hb (by (repeat (first | assumption | (with_reducible refine alloc_at ?_; (focus (first | omega | (simp; done) | (simp; omega)))) | (with_reducible refine boxed_at ?_; (focus (first | omega | (simp; done) | (simp; omega)))) | (with_reducible refine alloc_old ?_ ?_; (focus (first | omega | (simp; done) | (simp; omega)))) | (with_reducible refine boxed_old ?_ ?_; (focus (first | omega | (simp; done) | (simp; omega)))) | (with_reducible refine drew_old ?_))))
  have hb3 : Below w.heap.size w w3 := by
    refine Below.trans ?_ (hb.mono (by simp; omega))
    have hB2 := HW2.out
    (repeat (first | assumption | (with_reducible exact Below.refl _ _) | (with_reducible refine boxed_below ?_ ?_; rotate_left; (focus (first | omega | (simp; done) | (simp; omega)))) | (with_reducible refine Below.alloc ?_ ?_ _; rotate_left; (focus (first | omega | (simp; done) | (simp; omega)))) | (with_reducible refine Below.drew ?_)))
  have l1 : w.heap.size < w3.heap.size := (Array.getElem?_eq_some_iff.1 ha3).1
  have l2 : w1.heap.size < w3.heap.size := (Array.getElem?_eq_some_iff.1 hc3).1
  have l3 : w2.heap.size < w3.heap.size := (Array.getElem?_eq_some_iff.1 hn3).1
  have l4 : w2.heap.size + 1 + 1 < w3.heap.size := (Array.getElem?_eq_some_iff.1 hm3).1
  obtain ⟨i0, i1, i2, i3, i4, i5⟩ := cells6 ha3
  obtain ⟨j0, j1, j2, j3, j4, j5⟩ := cells6 hn3
  obtain ⟨f0, f1, f2, f3, f4, f5⟩ := cells6 hm3
  have HC3 := Lib.hid hc3
  have HB3 := Lib.hid hb3
  clear ha3 hc3 hn3 hm3 hb3 hb HW2
  go_wp2_with (fail)
  refine (cyawake_any _).mono ?_
  rintro e w4 ⟨rfl, hb⟩
  have hc4 : w4.heap[w1.heap.size]? = some (.cells #[.int .i64 n', .int .i64 d', .int .u8 p', .int .i64 a', .int .i64 u', .int .i64 t', .int .i64 x', .bool g'] 25 (0, 0)) := below_block hb (alloc_old l2 HC3.out)
  have hx4 : w4.heap[w3.heap.size]? = some (.cells #[.int .i64 n', .int .i64 d', .int .u8 p', .int .i64 a', .int .i64 u', .int .i64 t', .int .i64 x', .bool g'] 25 (0, 0)) := below_block hb (alloc_at rfl)
  obtain ⟨r0, r1, r2, r3, r4, r5, r6, r7⟩ := cells8 hc4
  obtain ⟨b0, b1, b2, b3, b4, b5, b6, b7⟩ := cells8 hx4
  have HB4 := Lib.hid ((HB3.out.alloc (by exact HB3.out.size) _).trans (hb.mono (by simp; omega)))
  clear hb hc4 hx4 i0 i1 i2 i3 i4 i5 j0 j1 j2 j3 j4 j5 f0 f1 f2 f3 f4 f5
  go_wp2
  go_ret
  exact ⟨by simp, HB4.out⟩
set_option maxHeartbeats 8000000 in
theorem old_b2 (q a t h y : Int) (o : Bool) (n' d' p' a' u' t' x' : Int) (g' : Bool) (k0 s0 c0 t0 m0 : Int) (K S C T M V : Int) (w : World)
    (HC : Hid (∀ w, Calls Try.prog 17 #[.int .u8 q, .int .u16 7, .int .u16 9, .int .u32 a, .int .i32 5, .int .u8 t, .int .u16 3, .bool true] w fun e w' => e = .returned (.agg #[.int .i64 n', .int .i64 d', .int .u8 p', .int .i64 a', .int .i64 u', .int .i64 t', .int .i64 x', .bool g']) ∧ Below w.heap.size w w'))
    (HA : Hid (∀ w, Calls Try.prog 18 #[.int .i64 2, .agg #[.int .i64 n', .int .i64 d', .int .u8 p', .int .i64 a', .int .i64 u', .int .i64 t', .int .i64 x', .bool g']] w fun e w' => e = .returned (.tuple #[.agg #[.int .u8 k0, .int .i64 s0, .int .i64 c0, .int .i64 t0, .int .i64 m0, .int .u8 0], .bool true]) ∧ Below w.heap.size w w'))
    (HH : Hid (∀ w, Calls Try.prog 21 #[.int .i64 2, .agg #[.int .i64 n', .int .i64 d', .int .u8 p', .int .i64 a', .int .i64 u', .int .i64 t', .int .i64 x', .bool g'], .agg #[.int .u8 k0, .int .i64 s0, .int .i64 c0, .int .i64 (t0 + 1), .int .i64 m0, .int .u8 1], .int .i64 y, .bool o] w fun e w' => e = .returned (.tuple #[.agg #[.int .i64 n', .int .i64 d', .int .u8 p', .int .i64 a', .int .i64 u', .int .i64 t', .int .i64 x', .bool g'], .int .i64 10]) ∧ Below w.heap.size w w'))
    (hy0 : 0 ≤ y) (hy1 : y < 65536) (hh : 0 ≤ h ∧ h < 256) (hge : 128 ≤ h) (hr : h % 6 = 2) (hb9 : (1 ≤ k0 ∧ k0 ≤ 5) ∧ (0 ≤ s0 ∧ s0 ≤ 100) ∧ (0 ≤ c0 ∧ c0 ≤ 100) ∧ (0 ≤ t0 ∧ t0 ≤ 100) ∧ 0 ≤ m0 ∧ m0 ≤ 8589934592) :
    Calls Try.prog 6 #[.int .u8 q, .int .u32 a, .int .u8 t, .agg #[.int .u8 K, .int .i64 S, .int .i64 C, .int .i64 T, .int .i64 M, .int .u8 V], .int .u8 h, .int .u16 y, .bool o] w fun e w' => e = .returned (.bool true) ∧ Below w.heap.size w w' := by
  obtain ⟨hh0, hh1⟩ := hh
  obtain ⟨⟨hk0, hk1⟩, ⟨hs0, hs1⟩, ⟨hc0, hc1⟩, ⟨ht0, ht1⟩, hm0, hm1⟩ := hb9
  have dh : decide (128 ≤ h) = true := by simp; omega
  have er : h.tmod 6 = 2 := by rw [Int.tmod_eq_emod_of_nonneg hh0]; exact hr
  have d1 : (t0 + 1 == t0) = false := by rw [beq_eq_false_iff_ne]; omega
  clear hge hr
  go_enter Try.func6, Try.ntmps6
  go_wp2_with (fail)
  refine (HC.out _).mono ?_
  rintro e w1 ⟨rfl, hb⟩
  obtain ⟨hw, z0, e1⟩ := keep0 hb
  rw [e1]
  have HW1 := Lib.hid hw
  clear e1 hb hw
  go_wp2_with (fail)
  refine (HA.out _).mono ?_
  rintro e w2 ⟨rfl, hb⟩
  obtain ⟨hw, z1, z2, e1⟩ := keep1_alloc HW1.out (Nat.le_refl _) z0 hb
  rw [e1]
  have HW2 := Lib.hid hw
  clear e1 hb hw HW1
  have z3 : w.heap.size < w2.heap.size + 1 := by omega
  have z4 : w1.heap.size < w2.heap.size + 1 := by omega
  have z5 : w.heap.size < w2.heap.size + 1 + 1 := by omega
  have z6 : w1.heap.size < w2.heap.size + 1 + 1 := by omega
  go_wp2_with (fail)
  refine (HH.out _).mono ?_
  rintro e w3 ⟨rfl, hb⟩
  have ha3 : w3.heap[w.heap.size]? = some (.cells #[.int .u8 k0, .int .i64 s0, .int .i64 c0, .int .i64 (t0 + 1), .int .i64 m0, .int .u8 1] 35 (0, 0)) := below_block hb (by (repeat (first | assumption | (with_reducible refine alloc_at ?_; (focus (first | omega | (simp; done) | (simp; omega)))) | (with_reducible refine boxed_at ?_; (focus (first | omega | (simp; done) | (simp; omega)))) | (with_reducible refine alloc_old ?_ ?_; (focus (first | omega | (simp; done) | (simp; omega)))) | (with_reducible refine boxed_old ?_ ?_; (focus (first | omega | (simp; done) | (simp; omega)))) | (with_reducible refine drew_old ?_))))
  have hc3 : w3.heap[w1.heap.size]? = some (.cells #[.int .i64 n', .int .i64 d', .int .u8 p', .int .i64 a', .int .i64 u', .int .i64 t', .int .i64 x', .bool g'] 25 (0, 0)) := below_block hb (by (repeat (first | assumption | (with_reducible refine alloc_at ?_; (focus (first | omega | (simp; done) | (simp; omega)))) | (with_reducible refine boxed_at ?_; (focus (first | omega | (simp; done) | (simp; omega)))) | (with_reducible refine alloc_old ?_ ?_; (focus (first | omega | (simp; done) | (simp; omega)))) | (with_reducible refine boxed_old ?_ ?_; (focus (first | omega | (simp; done) | (simp; omega)))) | (with_reducible refine drew_old ?_))))
  have hn3 : w3.heap[w2.heap.size]? = some (.cells #[.int .u8 k0, .int .i64 s0, .int .i64 c0, .int .i64 t0, .int .i64 m0, .int .u8 0] 35 (0, 0)) := below_block hb (by (repeat (first | assumption | (with_reducible refine alloc_at ?_; (focus (first | omega | (simp; done) | (simp; omega)))) | (with_reducible refine boxed_at ?_; (focus (first | omega | (simp; done) | (simp; omega)))) | (with_reducible refine alloc_old ?_ ?_; (focus (first | omega | (simp; done) | (simp; omega)))) | (with_reducible refine boxed_old ?_ ?_; (focus (first | omega | (simp; done) | (simp; omega)))) | (with_reducible refine drew_old ?_))))
  have hm3 : w3.heap[w2.heap.size + 1 + 1]? = some (.cells #[.int .u8 k0, .int .i64 s0, .int .i64 c0, .int .i64 (t0 + 1), .int .i64 m0, .int .u8 0] 35 (0, 0)) := below_block hb (by (repeat (first | assumption | (with_reducible refine alloc_at ?_; (focus (first | omega | (simp; done) | (simp; omega)))) | (with_reducible refine boxed_at ?_; (focus (first | omega | (simp; done) | (simp; omega)))) | (with_reducible refine alloc_old ?_ ?_; (focus (first | omega | (simp; done) | (simp; omega)))) | (with_reducible refine boxed_old ?_ ?_; (focus (first | omega | (simp; done) | (simp; omega)))) | (with_reducible refine drew_old ?_))))
  have hb3 : Below w.heap.size w w3 := by
    refine Below.trans ?_ (hb.mono (by simp; omega))
    have hB2 := HW2.out
    (repeat (first | assumption | (with_reducible exact Below.refl _ _) | (with_reducible refine boxed_below ?_ ?_; rotate_left; (focus (first | omega | (simp; done) | (simp; omega)))) | (with_reducible refine Below.alloc ?_ ?_ _; rotate_left; (focus (first | omega | (simp; done) | (simp; omega)))) | (with_reducible refine Below.drew ?_)))
  have l1 : w.heap.size < w3.heap.size := (Array.getElem?_eq_some_iff.1 ha3).1
  have l2 : w1.heap.size < w3.heap.size := (Array.getElem?_eq_some_iff.1 hc3).1
  have l3 : w2.heap.size < w3.heap.size := (Array.getElem?_eq_some_iff.1 hn3).1
  have l4 : w2.heap.size + 1 + 1 < w3.heap.size := (Array.getElem?_eq_some_iff.1 hm3).1
  obtain ⟨i0, i1, i2, i3, i4, i5⟩ := cells6 ha3
  obtain ⟨j0, j1, j2, j3, j4, j5⟩ := cells6 hn3
  obtain ⟨f0, f1, f2, f3, f4, f5⟩ := cells6 hm3
  have HC3 := Lib.hid hc3
  have HB3 := Lib.hid hb3
  clear ha3 hc3 hn3 hm3 hb3 hb HW2
  go_wp2_with (fail)
  refine (cyawake_any _).mono ?_
  rintro e w4 ⟨rfl, hb⟩
  have hc4 : w4.heap[w1.heap.size]? = some (.cells #[.int .i64 n', .int .i64 d', .int .u8 p', .int .i64 a', .int .i64 u', .int .i64 t', .int .i64 x', .bool g'] 25 (0, 0)) := below_block hb (alloc_old l2 HC3.out)
  have hx4 : w4.heap[w3.heap.size]? = some (.cells #[.int .i64 n', .int .i64 d', .int .u8 p', .int .i64 a', .int .i64 u', .int .i64 t', .int .i64 x', .bool g'] 25 (0, 0)) := below_block hb (alloc_at rfl)
  obtain ⟨r0, r1, r2, r3, r4, r5, r6, r7⟩ := cells8 hc4
  obtain ⟨b0, b1, b2, b3, b4, b5, b6, b7⟩ := cells8 hx4
  have HB4 := Lib.hid ((HB3.out.alloc (by exact HB3.out.size) _).trans (hb.mono (by simp; omega)))
  clear hb hc4 hx4 i0 i1 i2 i3 i4 i5 j0 j1 j2 j3 j4 j5 f0 f1 f2 f3 f4 f5
  go_wp2
  go_ret
  exact ⟨by simp, HB4.out⟩
set_option maxHeartbeats 8000000 in
theorem old_b3 (q a t h y : Int) (o : Bool) (n' d' p' a' u' t' x' : Int) (g' : Bool) (k0 s0 c0 t0 m0 : Int) (K S C T M V : Int) (w : World)
    (HC : Hid (∀ w, Calls Try.prog 17 #[.int .u8 q, .int .u16 7, .int .u16 9, .int .u32 a, .int .i32 5, .int .u8 t, .int .u16 3, .bool true] w fun e w' => e = .returned (.agg #[.int .i64 n', .int .i64 d', .int .u8 p', .int .i64 a', .int .i64 u', .int .i64 t', .int .i64 x', .bool g']) ∧ Below w.heap.size w w'))
    (HA : Hid (∀ w, Calls Try.prog 18 #[.int .i64 2, .agg #[.int .i64 n', .int .i64 d', .int .u8 p', .int .i64 a', .int .i64 u', .int .i64 t', .int .i64 x', .bool g']] w fun e w' => e = .returned (.tuple #[.agg #[.int .u8 k0, .int .i64 s0, .int .i64 c0, .int .i64 t0, .int .i64 m0, .int .u8 0], .bool true]) ∧ Below w.heap.size w w'))
    (HH : Hid (∀ w, Calls Try.prog 21 #[.int .i64 2, .agg #[.int .i64 n', .int .i64 d', .int .u8 p', .int .i64 a', .int .i64 u', .int .i64 t', .int .i64 x', .bool g'], .agg #[.int .u8 k0, .int .i64 s0, .int .i64 c0, .int .i64 t0, .int .i64 (m0 + 1), .int .u8 1], .int .i64 y, .bool o] w fun e w' => e = .returned (.tuple #[.agg #[.int .i64 n', .int .i64 d', .int .u8 p', .int .i64 a', .int .i64 u', .int .i64 t', .int .i64 x', .bool g'], .int .i64 10]) ∧ Below w.heap.size w w'))
    (hy0 : 0 ≤ y) (hy1 : y < 65536) (hh : 0 ≤ h ∧ h < 256) (hge : 128 ≤ h) (hr : h % 6 = 3) (hb9 : (1 ≤ k0 ∧ k0 ≤ 5) ∧ (0 ≤ s0 ∧ s0 ≤ 100) ∧ (0 ≤ c0 ∧ c0 ≤ 100) ∧ (0 ≤ t0 ∧ t0 ≤ 100) ∧ 0 ≤ m0 ∧ m0 ≤ 8589934592) :
    Calls Try.prog 6 #[.int .u8 q, .int .u32 a, .int .u8 t, .agg #[.int .u8 K, .int .i64 S, .int .i64 C, .int .i64 T, .int .i64 M, .int .u8 V], .int .u8 h, .int .u16 y, .bool o] w fun e w' => e = .returned (.bool true) ∧ Below w.heap.size w w' := by
  obtain ⟨hh0, hh1⟩ := hh
  obtain ⟨⟨hk0, hk1⟩, ⟨hs0, hs1⟩, ⟨hc0, hc1⟩, ⟨ht0, ht1⟩, hm0, hm1⟩ := hb9
  have dh : decide (128 ≤ h) = true := by simp; omega
  have er : h.tmod 6 = 3 := by rw [Int.tmod_eq_emod_of_nonneg hh0]; exact hr
  have d1 : (m0 + 1 == m0) = false := by rw [beq_eq_false_iff_ne]; omega
  clear hge hr
  go_enter Try.func6, Try.ntmps6
  go_wp2_with (fail)
  refine (HC.out _).mono ?_
  rintro e w1 ⟨rfl, hb⟩
  obtain ⟨hw, z0, e1⟩ := keep0 hb
  rw [e1]
  have HW1 := Lib.hid hw
  clear e1 hb hw
  go_wp2_with (fail)
  refine (HA.out _).mono ?_
  rintro e w2 ⟨rfl, hb⟩
  obtain ⟨hw, z1, z2, e1⟩ := keep1_alloc HW1.out (Nat.le_refl _) z0 hb
  rw [e1]
  have HW2 := Lib.hid hw
  clear e1 hb hw HW1
  have z3 : w.heap.size < w2.heap.size + 1 := by omega
  have z4 : w1.heap.size < w2.heap.size + 1 := by omega
  have z5 : w.heap.size < w2.heap.size + 1 + 1 := by omega
  have z6 : w1.heap.size < w2.heap.size + 1 + 1 := by omega
  go_wp2_with (fail)
  refine (HH.out _).mono ?_
  rintro e w3 ⟨rfl, hb⟩
  have ha3 : w3.heap[w.heap.size]? = some (.cells #[.int .u8 k0, .int .i64 s0, .int .i64 c0, .int .i64 t0, .int .i64 (m0 + 1), .int .u8 1] 35 (0, 0)) := below_block hb (by (repeat (first | assumption | (with_reducible refine alloc_at ?_; (focus (first | omega | (simp; done) | (simp; omega)))) | (with_reducible refine boxed_at ?_; (focus (first | omega | (simp; done) | (simp; omega)))) | (with_reducible refine alloc_old ?_ ?_; (focus (first | omega | (simp; done) | (simp; omega)))) | (with_reducible refine boxed_old ?_ ?_; (focus (first | omega | (simp; done) | (simp; omega)))) | (with_reducible refine drew_old ?_))))
  have hc3 : w3.heap[w1.heap.size]? = some (.cells #[.int .i64 n', .int .i64 d', .int .u8 p', .int .i64 a', .int .i64 u', .int .i64 t', .int .i64 x', .bool g'] 25 (0, 0)) := below_block hb (by (repeat (first | assumption | (with_reducible refine alloc_at ?_; (focus (first | omega | (simp; done) | (simp; omega)))) | (with_reducible refine boxed_at ?_; (focus (first | omega | (simp; done) | (simp; omega)))) | (with_reducible refine alloc_old ?_ ?_; (focus (first | omega | (simp; done) | (simp; omega)))) | (with_reducible refine boxed_old ?_ ?_; (focus (first | omega | (simp; done) | (simp; omega)))) | (with_reducible refine drew_old ?_))))
  have hn3 : w3.heap[w2.heap.size]? = some (.cells #[.int .u8 k0, .int .i64 s0, .int .i64 c0, .int .i64 t0, .int .i64 m0, .int .u8 0] 35 (0, 0)) := below_block hb (by (repeat (first | assumption | (with_reducible refine alloc_at ?_; (focus (first | omega | (simp; done) | (simp; omega)))) | (with_reducible refine boxed_at ?_; (focus (first | omega | (simp; done) | (simp; omega)))) | (with_reducible refine alloc_old ?_ ?_; (focus (first | omega | (simp; done) | (simp; omega)))) | (with_reducible refine boxed_old ?_ ?_; (focus (first | omega | (simp; done) | (simp; omega)))) | (with_reducible refine drew_old ?_))))
  have hm3 : w3.heap[w2.heap.size + 1 + 1]? = some (.cells #[.int .u8 k0, .int .i64 s0, .int .i64 c0, .int .i64 t0, .int .i64 (m0 + 1), .int .u8 0] 35 (0, 0)) := below_block hb (by (repeat (first | assumption | (with_reducible refine alloc_at ?_; (focus (first | omega | (simp; done) | (simp; omega)))) | (with_reducible refine boxed_at ?_; (focus (first | omega | (simp; done) | (simp; omega)))) | (with_reducible refine alloc_old ?_ ?_; (focus (first | omega | (simp; done) | (simp; omega)))) | (with_reducible refine boxed_old ?_ ?_; (focus (first | omega | (simp; done) | (simp; omega)))) | (with_reducible refine drew_old ?_))))
  have hb3 : Below w.heap.size w w3 := by
    refine Below.trans ?_ (hb.mono (by simp; omega))
    have hB2 := HW2.out
    (repeat (first | assumption | (with_reducible exact Below.refl _ _) | (with_reducible refine boxed_below ?_ ?_; rotate_left; (focus (first | omega | (simp; done) | (simp; omega)))) | (with_reducible refine Below.alloc ?_ ?_ _; rotate_left; (focus (first | omega | (simp; done) | (simp; omega)))) | (with_reducible refine Below.drew ?_)))
  have l1 : w.heap.size < w3.heap.size := (Array.getElem?_eq_some_iff.1 ha3).1
  have l2 : w1.heap.size < w3.heap.size := (Array.getElem?_eq_some_iff.1 hc3).1
  have l3 : w2.heap.size < w3.heap.size := (Array.getElem?_eq_some_iff.1 hn3).1
  have l4 : w2.heap.size + 1 + 1 < w3.heap.size := (Array.getElem?_eq_some_iff.1 hm3).1
  obtain ⟨i0, i1, i2, i3, i4, i5⟩ := cells6 ha3
  obtain ⟨j0, j1, j2, j3, j4, j5⟩ := cells6 hn3
  obtain ⟨f0, f1, f2, f3, f4, f5⟩ := cells6 hm3
  have HC3 := Lib.hid hc3
  have HB3 := Lib.hid hb3
  clear ha3 hc3 hn3 hm3 hb3 hb HW2
  go_wp2_with (fail)
  refine (cyawake_any _).mono ?_
  rintro e w4 ⟨rfl, hb⟩
  have hc4 : w4.heap[w1.heap.size]? = some (.cells #[.int .i64 n', .int .i64 d', .int .u8 p', .int .i64 a', .int .i64 u', .int .i64 t', .int .i64 x', .bool g'] 25 (0, 0)) := below_block hb (alloc_old l2 HC3.out)
  have hx4 : w4.heap[w3.heap.size]? = some (.cells #[.int .i64 n', .int .i64 d', .int .u8 p', .int .i64 a', .int .i64 u', .int .i64 t', .int .i64 x', .bool g'] 25 (0, 0)) := below_block hb (alloc_at rfl)
  obtain ⟨r0, r1, r2, r3, r4, r5, r6, r7⟩ := cells8 hc4
  obtain ⟨b0, b1, b2, b3, b4, b5, b6, b7⟩ := cells8 hx4
  have HB4 := Lib.hid ((HB3.out.alloc (by exact HB3.out.size) _).trans (hb.mono (by simp; omega)))
  clear hb hc4 hx4 i0 i1 i2 i3 i4 i5 j0 j1 j2 j3 j4 j5 f0 f1 f2 f3 f4 f5
  go_wp2
  go_ret
  exact ⟨by simp, HB4.out⟩
set_option maxHeartbeats 8000000 in
theorem old_b4 (q a t h y : Int) (o : Bool) (n' d' p' a' u' t' x' : Int) (g' : Bool) (k0 s0 c0 t0 m0 : Int) (K S C T M V : Int) (w : World)
    (HC : Hid (∀ w, Calls Try.prog 17 #[.int .u8 q, .int .u16 7, .int .u16 9, .int .u32 a, .int .i32 5, .int .u8 t, .int .u16 3, .bool true] w fun e w' => e = .returned (.agg #[.int .i64 n', .int .i64 d', .int .u8 p', .int .i64 a', .int .i64 u', .int .i64 t', .int .i64 x', .bool g']) ∧ Below w.heap.size w w'))
    (HA : Hid (∀ w, Calls Try.prog 18 #[.int .i64 2, .agg #[.int .i64 n', .int .i64 d', .int .u8 p', .int .i64 a', .int .i64 u', .int .i64 t', .int .i64 x', .bool g']] w fun e w' => e = .returned (.tuple #[.agg #[.int .u8 k0, .int .i64 s0, .int .i64 c0, .int .i64 t0, .int .i64 m0, .int .u8 0], .bool true]) ∧ Below w.heap.size w w'))
    (HH : Hid (∀ w, Calls Try.prog 21 #[.int .i64 2, .agg #[.int .i64 n', .int .i64 d', .int .u8 p', .int .i64 a', .int .i64 u', .int .i64 t', .int .i64 x', .bool g'], .agg #[.int .u8 (1 + k0 % 5), .int .i64 s0, .int .i64 c0, .int .i64 t0, .int .i64 m0, .int .u8 1], .int .i64 y, .bool o] w fun e w' => e = .returned (.tuple #[.agg #[.int .i64 n', .int .i64 d', .int .u8 p', .int .i64 a', .int .i64 u', .int .i64 t', .int .i64 x', .bool g'], .int .i64 10]) ∧ Below w.heap.size w w'))
    (hy0 : 0 ≤ y) (hy1 : y < 65536) (hh : 0 ≤ h ∧ h < 256) (hge : 128 ≤ h) (hr : h % 6 = 4) (hb9 : (1 ≤ k0 ∧ k0 ≤ 5) ∧ (0 ≤ s0 ∧ s0 ≤ 100) ∧ (0 ≤ c0 ∧ c0 ≤ 100) ∧ (0 ≤ t0 ∧ t0 ≤ 100) ∧ 0 ≤ m0 ∧ m0 ≤ 8589934592) :
    Calls Try.prog 6 #[.int .u8 q, .int .u32 a, .int .u8 t, .agg #[.int .u8 K, .int .i64 S, .int .i64 C, .int .i64 T, .int .i64 M, .int .u8 V], .int .u8 h, .int .u16 y, .bool o] w fun e w' => e = .returned (.bool true) ∧ Below w.heap.size w w' := by
  obtain ⟨hh0, hh1⟩ := hh
  obtain ⟨⟨hk0, hk1⟩, ⟨hs0, hs1⟩, ⟨hc0, hc1⟩, ⟨ht0, ht1⟩, hm0, hm1⟩ := hb9
  have dh : decide (128 ≤ h) = true := by simp; omega
  have er : h.tmod 6 = 4 := by rw [Int.tmod_eq_emod_of_nonneg hh0]; exact hr
  have ek : k0.tmod 5 = k0 % 5 := Int.tmod_eq_emod_of_nonneg (by omega)
  have d1 : (1 + k0 % 5 == k0) = false := by rw [beq_eq_false_iff_ne]; omega
  clear hge hr
  go_enter Try.func6, Try.ntmps6
  go_wp2_with (fail)
  refine (HC.out _).mono ?_
  rintro e w1 ⟨rfl, hb⟩
  obtain ⟨hw, z0, e1⟩ := keep0 hb
  rw [e1]
  have HW1 := Lib.hid hw
  clear e1 hb hw
  go_wp2_with (fail)
  refine (HA.out _).mono ?_
  rintro e w2 ⟨rfl, hb⟩
  obtain ⟨hw, z1, z2, e1⟩ := keep1_alloc HW1.out (Nat.le_refl _) z0 hb
  rw [e1]
  have HW2 := Lib.hid hw
  clear e1 hb hw HW1
  have z3 : w.heap.size < w2.heap.size + 1 := by omega
  have z4 : w1.heap.size < w2.heap.size + 1 := by omega
  have z5 : w.heap.size < w2.heap.size + 1 + 1 := by omega
  have z6 : w1.heap.size < w2.heap.size + 1 + 1 := by omega
  go_wp2_with (fail)
  refine (HH.out _).mono ?_
  rintro e w3 ⟨rfl, hb⟩
  have ha3 : w3.heap[w.heap.size]? = some (.cells #[.int .u8 (1 + k0 % 5), .int .i64 s0, .int .i64 c0, .int .i64 t0, .int .i64 m0, .int .u8 1] 35 (0, 0)) := below_block hb (by (repeat (first | assumption | (with_reducible refine alloc_at ?_; (focus (first | omega | (simp; done) | (simp; omega)))) | (with_reducible refine boxed_at ?_; (focus (first | omega | (simp; done) | (simp; omega)))) | (with_reducible refine alloc_old ?_ ?_; (focus (first | omega | (simp; done) | (simp; omega)))) | (with_reducible refine boxed_old ?_ ?_; (focus (first | omega | (simp; done) | (simp; omega)))) | (with_reducible refine drew_old ?_))))
  have hc3 : w3.heap[w1.heap.size]? = some (.cells #[.int .i64 n', .int .i64 d', .int .u8 p', .int .i64 a', .int .i64 u', .int .i64 t', .int .i64 x', .bool g'] 25 (0, 0)) := below_block hb (by (repeat (first | assumption | (with_reducible refine alloc_at ?_; (focus (first | omega | (simp; done) | (simp; omega)))) | (with_reducible refine boxed_at ?_; (focus (first | omega | (simp; done) | (simp; omega)))) | (with_reducible refine alloc_old ?_ ?_; (focus (first | omega | (simp; done) | (simp; omega)))) | (with_reducible refine boxed_old ?_ ?_; (focus (first | omega | (simp; done) | (simp; omega)))) | (with_reducible refine drew_old ?_))))
  have hn3 : w3.heap[w2.heap.size]? = some (.cells #[.int .u8 k0, .int .i64 s0, .int .i64 c0, .int .i64 t0, .int .i64 m0, .int .u8 0] 35 (0, 0)) := below_block hb (by (repeat (first | assumption | (with_reducible refine alloc_at ?_; (focus (first | omega | (simp; done) | (simp; omega)))) | (with_reducible refine boxed_at ?_; (focus (first | omega | (simp; done) | (simp; omega)))) | (with_reducible refine alloc_old ?_ ?_; (focus (first | omega | (simp; done) | (simp; omega)))) | (with_reducible refine boxed_old ?_ ?_; (focus (first | omega | (simp; done) | (simp; omega)))) | (with_reducible refine drew_old ?_))))
  have hm3 : w3.heap[w2.heap.size + 1 + 1]? = some (.cells #[.int .u8 (1 + k0 % 5), .int .i64 s0, .int .i64 c0, .int .i64 t0, .int .i64 m0, .int .u8 0] 35 (0, 0)) := below_block hb (by (repeat (first | assumption | (with_reducible refine alloc_at ?_; (focus (first | omega | (simp; done) | (simp; omega)))) | (with_reducible refine boxed_at ?_; (focus (first | omega | (simp; done) | (simp; omega)))) | (with_reducible refine alloc_old ?_ ?_; (focus (first | omega | (simp; done) | (simp; omega)))) | (with_reducible refine boxed_old ?_ ?_; (focus (first | omega | (simp; done) | (simp; omega)))) | (with_reducible refine drew_old ?_))))
  have hb3 : Below w.heap.size w w3 := by
    refine Below.trans ?_ (hb.mono (by simp; omega))
    have hB2 := HW2.out
    (repeat (first | assumption | (with_reducible exact Below.refl _ _) | (with_reducible refine boxed_below ?_ ?_; rotate_left; (focus (first | omega | (simp; done) | (simp; omega)))) | (with_reducible refine Below.alloc ?_ ?_ _; rotate_left; (focus (first | omega | (simp; done) | (simp; omega)))) | (with_reducible refine Below.drew ?_)))
  have l1 : w.heap.size < w3.heap.size := (Array.getElem?_eq_some_iff.1 ha3).1
  have l2 : w1.heap.size < w3.heap.size := (Array.getElem?_eq_some_iff.1 hc3).1
  have l3 : w2.heap.size < w3.heap.size := (Array.getElem?_eq_some_iff.1 hn3).1
  have l4 : w2.heap.size + 1 + 1 < w3.heap.size := (Array.getElem?_eq_some_iff.1 hm3).1
  obtain ⟨i0, i1, i2, i3, i4, i5⟩ := cells6 ha3
  obtain ⟨j0, j1, j2, j3, j4, j5⟩ := cells6 hn3
  obtain ⟨f0, f1, f2, f3, f4, f5⟩ := cells6 hm3
  have HC3 := Lib.hid hc3
  have HB3 := Lib.hid hb3
  clear ha3 hc3 hn3 hm3 hb3 hb HW2
  go_wp2_with (fail)
  refine (cyawake_any _).mono ?_
  rintro e w4 ⟨rfl, hb⟩
  have hc4 : w4.heap[w1.heap.size]? = some (.cells #[.int .i64 n', .int .i64 d', .int .u8 p', .int .i64 a', .int .i64 u', .int .i64 t', .int .i64 x', .bool g'] 25 (0, 0)) := below_block hb (alloc_old l2 HC3.out)
  have hx4 : w4.heap[w3.heap.size]? = some (.cells #[.int .i64 n', .int .i64 d', .int .u8 p', .int .i64 a', .int .i64 u', .int .i64 t', .int .i64 x', .bool g'] 25 (0, 0)) := below_block hb (alloc_at rfl)
  obtain ⟨r0, r1, r2, r3, r4, r5, r6, r7⟩ := cells8 hc4
  obtain ⟨b0, b1, b2, b3, b4, b5, b6, b7⟩ := cells8 hx4
  have HB4 := Lib.hid ((HB3.out.alloc (by exact HB3.out.size) _).trans (hb.mono (by simp; omega)))
  clear hb hc4 hx4 i0 i1 i2 i3 i4 i5 j0 j1 j2 j3 j4 j5 f0 f1 f2 f3 f4 f5
  go_wp2
  go_ret
  exact ⟨by simp, HB4.out⟩
set_option maxHeartbeats 8000000 in
theorem old_b5 (q a t h y : Int) (o : Bool) (n' d' p' a' u' t' x' : Int) (g' : Bool) (k0 s0 c0 t0 m0 : Int) (K S C T M V p1 t1 x1 : Int) (w : World)
    (HC : Hid (∀ w, Calls Try.prog 17 #[.int .u8 q, .int .u16 7, .int .u16 9, .int .u32 a, .int .i32 5, .int .u8 t, .int .u16 3, .bool true] w fun e w' => e = .returned (.agg #[.int .i64 n', .int .i64 d', .int .u8 p', .int .i64 a', .int .i64 u', .int .i64 t', .int .i64 x', .bool g']) ∧ Below w.heap.size w w'))
    (HA : Hid (∀ w, Calls Try.prog 18 #[.int .i64 2, .agg #[.int .i64 n', .int .i64 d', .int .u8 p', .int .i64 a', .int .i64 u', .int .i64 t', .int .i64 x', .bool g']] w fun e w' => e = .returned (.tuple #[.agg #[.int .u8 k0, .int .i64 s0, .int .i64 c0, .int .i64 t0, .int .i64 m0, .int .u8 0], .bool true]) ∧ Below w.heap.size w w'))
    (HH : Hid (∀ w, Calls Try.prog 21 #[.int .i64 2, .agg #[.int .i64 n', .int .i64 d', .int .u8 p', .int .i64 a', .int .i64 u', .int .i64 t', .int .i64 x', .bool g'], .agg #[.int .u8 k0, .int .i64 s0, .int .i64 c0, .int .i64 t0, .int .i64 m0, .int .u8 1], .int .i64 y, .bool o] w fun e w' => e = .returned (.tuple #[.agg #[.int .i64 n', .int .i64 d', .int .u8 p1, .int .i64 a', .int .i64 u', .int .i64 t1, .int .i64 x1, .bool g'], .int .i64 0]) ∧ Below w.heap.size w w'))
    (hy0 : 0 ≤ y) (hy1 : y < 65536) (hh : 0 ≤ h ∧ h < 256) (hge : 128 ≤ h) (hr : h % 6 = 5) (hb9 : (1 ≤ k0 ∧ k0 ≤ 5) ∧ (0 ≤ s0 ∧ s0 ≤ 100) ∧ (0 ≤ c0 ∧ c0 ≤ 100) ∧ (0 ≤ t0 ∧ t0 ≤ 100) ∧ 0 ≤ m0 ∧ m0 ≤ 8589934592) (hp : p1 ≠ p') :
    Calls Try.prog 6 #[.int .u8 q, .int .u32 a, .int .u8 t, .agg #[.int .u8 K, .int .i64 S, .int .i64 C, .int .i64 T, .int .i64 M, .int .u8 V], .int .u8 h, .int .u16 y, .bool o] w fun e w' => e = .returned (.bool true) ∧ Below w.heap.size w w' := by
  obtain ⟨hh0, hh1⟩ := hh
  obtain ⟨⟨hk0, hk1⟩, ⟨hs0, hs1⟩, ⟨hc0, hc1⟩, ⟨ht0, ht1⟩, hm0, hm1⟩ := hb9
  have dh : decide (128 ≤ h) = true := by simp; omega
  have er : h.tmod 6 = 5 := by rw [Int.tmod_eq_emod_of_nonneg hh0]; exact hr
  have dp : (p1 == p') = false := by simpa using hp
  clear hge hr hp
  go_enter Try.func6, Try.ntmps6
  go_wp2_with (fail)
  refine (HC.out _).mono ?_
  rintro e w1 ⟨rfl, hb⟩
  obtain ⟨hw, z0, e1⟩ := keep0 hb
  rw [e1]
  have HW1 := Lib.hid hw
  clear e1 hb hw
  go_wp2_with (fail)
  refine (HA.out _).mono ?_
  rintro e w2 ⟨rfl, hb⟩
  obtain ⟨hw, z1, z2, e1⟩ := keep1_alloc HW1.out (Nat.le_refl _) z0 hb
  rw [e1]
  have HW2 := Lib.hid hw
  clear e1 hb hw HW1
  have z3 : w.heap.size < w2.heap.size + 1 := by omega
  have z4 : w1.heap.size < w2.heap.size + 1 := by omega
  have z5 : w.heap.size < w2.heap.size + 1 + 1 := by omega
  have z6 : w1.heap.size < w2.heap.size + 1 + 1 := by omega
  go_wp2_with (fail)
  refine (HH.out _).mono ?_
  rintro e w3 ⟨rfl, hb⟩
  have ha3 : w3.heap[w.heap.size]? = some (.cells #[.int .u8 k0, .int .i64 s0, .int .i64 c0, .int .i64 t0, .int .i64 m0, .int .u8 1] 35 (0, 0)) := below_block hb (by (repeat (first | assumption | (with_reducible refine alloc_at ?_; (focus (first | omega | (simp; done) | (simp; omega)))) | (with_reducible refine boxed_at ?_; (focus (first | omega | (simp; done) | (simp; omega)))) | (with_reducible refine alloc_old ?_ ?_; (focus (first | omega | (simp; done) | (simp; omega)))) | (with_reducible refine boxed_old ?_ ?_; (focus (first | omega | (simp; done) | (simp; omega)))) | (with_reducible refine drew_old ?_))))
  have hc3 : w3.heap[w1.heap.size]? = some (.cells #[.int .i64 n', .int .i64 d', .int .u8 p', .int .i64 a', .int .i64 u', .int .i64 t', .int .i64 x', .bool g'] 25 (0, 0)) := below_block hb (by (repeat (first | assumption | (with_reducible refine alloc_at ?_; (focus (first | omega | (simp; done) | (simp; omega)))) | (with_reducible refine boxed_at ?_; (focus (first | omega | (simp; done) | (simp; omega)))) | (with_reducible refine alloc_old ?_ ?_; (focus (first | omega | (simp; done) | (simp; omega)))) | (with_reducible refine boxed_old ?_ ?_; (focus (first | omega | (simp; done) | (simp; omega)))) | (with_reducible refine drew_old ?_))))
  have hn3 : w3.heap[w2.heap.size]? = some (.cells #[.int .u8 k0, .int .i64 s0, .int .i64 c0, .int .i64 t0, .int .i64 m0, .int .u8 0] 35 (0, 0)) := below_block hb (by (repeat (first | assumption | (with_reducible refine alloc_at ?_; (focus (first | omega | (simp; done) | (simp; omega)))) | (with_reducible refine boxed_at ?_; (focus (first | omega | (simp; done) | (simp; omega)))) | (with_reducible refine alloc_old ?_ ?_; (focus (first | omega | (simp; done) | (simp; omega)))) | (with_reducible refine boxed_old ?_ ?_; (focus (first | omega | (simp; done) | (simp; omega)))) | (with_reducible refine drew_old ?_))))
  have hm3 : w3.heap[w2.heap.size + 1 + 1]? = some (.cells #[.int .u8 k0, .int .i64 s0, .int .i64 c0, .int .i64 t0, .int .i64 m0, .int .u8 0] 35 (0, 0)) := below_block hb (by (repeat (first | assumption | (with_reducible refine alloc_at ?_; (focus (first | omega | (simp; done) | (simp; omega)))) | (with_reducible refine boxed_at ?_; (focus (first | omega | (simp; done) | (simp; omega)))) | (with_reducible refine alloc_old ?_ ?_; (focus (first | omega | (simp; done) | (simp; omega)))) | (with_reducible refine boxed_old ?_ ?_; (focus (first | omega | (simp; done) | (simp; omega)))) | (with_reducible refine drew_old ?_))))
  have hb3 : Below w.heap.size w w3 := by
    refine Below.trans ?_ (hb.mono (by simp; omega))
    have hB2 := HW2.out
    (repeat (first | assumption | (with_reducible exact Below.refl _ _) | (with_reducible refine boxed_below ?_ ?_; rotate_left; (focus (first | omega | (simp; done) | (simp; omega)))) | (with_reducible refine Below.alloc ?_ ?_ _; rotate_left; (focus (first | omega | (simp; done) | (simp; omega)))) | (with_reducible refine Below.drew ?_)))
  have l1 : w.heap.size < w3.heap.size := (Array.getElem?_eq_some_iff.1 ha3).1
  have l2 : w1.heap.size < w3.heap.size := (Array.getElem?_eq_some_iff.1 hc3).1
  have l3 : w2.heap.size < w3.heap.size := (Array.getElem?_eq_some_iff.1 hn3).1
  have l4 : w2.heap.size + 1 + 1 < w3.heap.size := (Array.getElem?_eq_some_iff.1 hm3).1
  obtain ⟨i0, i1, i2, i3, i4, i5⟩ := cells6 ha3
  obtain ⟨j0, j1, j2, j3, j4, j5⟩ := cells6 hn3
  obtain ⟨f0, f1, f2, f3, f4, f5⟩ := cells6 hm3
  have HC3 := Lib.hid hc3
  have HB3 := Lib.hid hb3
  clear ha3 hc3 hn3 hm3 hb3 hb HW2
  go_wp2_with (fail)
  refine (cyawake_any _).mono ?_
  rintro e w4 ⟨rfl, hb⟩
  have hc4 : w4.heap[w1.heap.size]? = some (.cells #[.int .i64 n', .int .i64 d', .int .u8 p', .int .i64 a', .int .i64 u', .int .i64 t', .int .i64 x', .bool g'] 25 (0, 0)) := below_block hb (alloc_old l2 HC3.out)
  have hx4 : w4.heap[w3.heap.size]? = some (.cells #[.int .i64 n', .int .i64 d', .int .u8 p1, .int .i64 a', .int .i64 u', .int .i64 t1, .int .i64 x1, .bool g'] 25 (0, 0)) := below_block hb (alloc_at rfl)
  obtain ⟨r0, r1, r2, r3, r4, r5, r6, r7⟩ := cells8 hc4
  obtain ⟨b0, b1, b2, b3, b4, b5, b6, b7⟩ := cells8 hx4
  have HB4 := Lib.hid ((HB3.out.alloc (by exact HB3.out.size) _).trans (hb.mono (by simp; omega)))
  clear hb hc4 hx4 i0 i1 i2 i3 i4 i5 j0 j1 j2 j3 j4 j5 f0 f1 f2 f3 f4 f5
  go_wp2
  go_ret
  exact ⟨by simp, HB4.out⟩
end Go.Proofs.Ythilcefikhnilaa
