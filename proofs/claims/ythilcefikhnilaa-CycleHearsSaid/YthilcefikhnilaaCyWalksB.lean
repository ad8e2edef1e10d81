/-
  The walk of the law CycleHears: it returns true, whatever the input. No conditions.
-/
import Derived.Test.YthilcefikhnilaaCyWalksA
import Derived.Test.YthilcefikhnilaaKeep2
namespace Go.Proofs.Ythilcefikhnilaa
set_option maxRecDepth 20000
open Go.ChangeShapes Go.WideShapes Go.ChangeAt Go.RowKit

set_option maxHeartbeats 4000000 in
theorem cycleHears_walk (q : Int) (w0 : (Lit.int .u8 q).wf = true) (a : Int) (w1 : (Lit.int .u32 a).wf = true) (t : Int) (w2 : (Lit.int .u8 t).wf = true) (v : Int) (w3 : (Lit.int .u8 v).wf = true) (y : Int) (w4 : (Lit.int .u16 y).wf = true) (g o : Bool) (w : World) :
    Calls Try.prog 5 #[.int .u8 q, .int .u32 a, .int .u8 t, .int .u8 v, .int .u16 y, .bool g, .bool o] w fun e w' => e = .returned (.bool true) ∧ Below w.heap.size w w' := by
  have hq := wf_u8 w0
  have ha := wf_u32 w1
  have ht := wf_u8 w2
  obtain ⟨hv0, hv1⟩ := wf_u8 w3
  obtain ⟨hy0, hy1⟩ := wf_u16 w4
  clear w0 w1 w2 w3 w4
  have h1t := (at_try (q := q) (n := 7) (d := 9) (a := a) (u := 5) (x := 3) (g := g) ht.1).1
  obtain ⟨D, hD⟩ : ∃ D, Cy.at_ q 7 9 a 5 t 3 g = D := ⟨_, rfl⟩
  have HC : Hid (∀ w, Calls Try.prog 17 #[.int .u8 q, .int .u16 7, .int .u16 9, .int .u32 a, .int .i32 5, .int .u8 t, .int .u16 3, .bool g] w fun e w' => e = .returned D.val ∧ Below w.heap.size w w') := fun w => by
    rw [← hD]; exact cyat_any q 7 9 a 5 t 3 g w hq ht (by omega) (by omega) ha (by omega) (by omega)
  rw [hD] at h1t
  have H1T := Lib.hid h1t
  clear hD hq ha ht h1t
  obtain ⟨n', d', p', a', u', t', x', g'⟩ := D
  dsimp only at H1T
  obtain ⟨A, hA⟩ : ∃ A, Cv.ask 2 ⟨n', d', p', a', u', t', x', g'⟩ = A := ⟨_, rfl⟩
  obtain ⟨b, hb⟩ : ∃ b, Cv.asks ⟨n', d', p', a', u', t', x', g'⟩ = b := ⟨_, rfl⟩
  have HA := Lib.hid hA
  have HB := Lib.hid hb
  clear hA hb
  obtain ⟨K, S, C, T, M, V⟩ := A
  cases b
  · go_enter Try.func5, Try.ntmps5
    go_wp2_with (fail)
    refine (HC.out _).mono ?_
    dsimp only [Cv.val, Cv.arr]
    rintro e w1 ⟨rfl, hb⟩
    have HB1 := Lib.hid hb
    clear hb
    have hz : w.heap.size ≤ w1.heap.size := HB1.out.size
    go_wp2_with (fail)
    refine (cyasks_any _ _ _ _ _ _ _ _ _ _).mono ?_
    rw [HA.out, HB.out]
    dsimp only [Nv.arr]
    rintro e w2 ⟨rfl, hb⟩
    obtain ⟨hw, z1, e1⟩ := keep_alloc HB1.out HB1.out.size hb
    rw [e1]
    have HW2 := Lib.hid hw
    clear e1 hb hw HB1
    go_wp2_with (fail)
    refine (cyawake_any _).mono ?_
    rintro e w3 ⟨rfl, hb3⟩
    have HB3 := Lib.hid hb3
    clear hb3
    go_wp2
    go_ret
    refine ⟨rfl, ?_⟩
    have hB := HW2.out
    refine Below.trans ?_ (HB3.out.mono (by simp; omega))
    (repeat (first | assumption | (with_reducible exact Below.refl _ _) | (with_reducible refine boxed_below ?_ ?_; rotate_left; (focus (first | omega | (simp; done) | (simp; omega)))) | (with_reducible refine Below.alloc ?_ ?_ _; rotate_left; (focus (first | omega | (simp; done) | (simp; omega)))) | (with_reducible refine Below.drew ?_)))
  obtain ⟨V1, hV1⟩ : ∃ V1, v % 5 = V1 := ⟨_, rfl⟩
  have ev : v.tmod 5 = V1 := by rw [Int.tmod_eq_emod_of_nonneg hv0]; exact hV1
  obtain ⟨E, hE⟩ : ∃ E, Cv.hear 2 ⟨n', d', p', a', u', t', x', g'⟩ ⟨K, S, C, T, M, V1⟩ y o = E := ⟨_, rfl⟩
  obtain ⟨r, i, hr, hi, hri⟩ : ∃ r i, Cv.herr 2 ⟨n', d', p', a', u', t', x', g'⟩ ⟨K, S, C, T, M, V1⟩ = r ∧ decide (Cv.Heard 2 ⟨n', d', p', a', u', t', x', g'⟩ ⟨K, S, C, T, M, V1⟩) = i ∧ ((r = 0 ∧ i = true) ∨ (r = 10 ∧ i = false)) := by
    refine ⟨_, _, rfl, rfl, ?_⟩
    unfold Cv.herr
    by_cases h : Cv.Heard 2 ⟨n', d', p', a', u', t', x', g'⟩ ⟨K, S, C, T, M, V1⟩
    · exact .inl ⟨if_pos h, decide_eq_true h⟩
    · exact .inr ⟨if_neg h, decide_eq_false h⟩
  have HE := Lib.hid hE
  have HR := Lib.hid hr
  have HI := Lib.hid hi
  clear hE hr hi hV1
  obtain ⟨n1, d1, p1, a1, u1, t1, x1, g1⟩ := E
  rcases hri with ⟨rfl, rfl⟩ | ⟨rfl, rfl⟩
  all_goals
    go_enter Try.func5, Try.ntmps5
    go_wp2_with (fail)
    refine (HC.out _).mono ?_
    dsimp only [Cv.val, Cv.arr]
    rintro e w1 ⟨rfl, hb⟩
    have HB1 := Lib.hid hb
    clear hb
    have hz : w.heap.size ≤ w1.heap.size := HB1.out.size
    go_wp2_with (fail)
    refine (cyasks_any _ _ _ _ _ _ _ _ _ _).mono ?_
    rw [HA.out, HB.out]
    dsimp only [Nv.arr]
    rintro e w2 ⟨rfl, hb⟩
    obtain ⟨hw, z1, e1⟩ := keep_alloc HB1.out HB1.out.size hb
    rw [e1]
    have HW2 := Lib.hid hw
    clear e1 hb hw HB1
    go_wp2_with (fail)
    refine (cyhear_any _ _ _ _ _ _ _ _ _ _ _ _ _ _ _ _ _ _ (by omega) (by omega)).mono ?_
    rw [HE.out, HR.out]
    dsimp only [Cv.val, Cv.arr]
    rintro e w3 ⟨rfl, hb⟩
    obtain ⟨hw, z2, z3, e1⟩ := keep1_alloc HW2.out hz z1 hb
    rw [e1]
    have HW3 := Lib.hid hw
    clear e1 hb hw HW2
    go_wp2_with (fail)
    refine (refhear_any _ _ _ _ _ _ _ _ _ _ _ _ _ _ _ _ _ _ H1T.out (by omega) (by omega)).mono ?_
    rw [HE.out, HI.out]
    dsimp only [Cv.val, Cv.arr]
    rintro e w4 ⟨rfl, hb⟩
    obtain ⟨hw, z4, z5, z6, e1⟩ := keep2_alloc HW3.out hz z1 z3 hb
    rw [e1]
    have HW4 := Lib.hid hw
    clear e1 hb hw HW3
    go_wp2_with (fail)
    refine (cyawake_any _).mono ?_
    rintro e w5 ⟨rfl, hb5⟩
    have hx : w5.heap[w3.heap.size]? = some (.cells #[.int .i64 n1, .int .i64 d1, .int .u8 p1, .int .i64 a1, .int .i64 u1, .int .i64 t1, .int .i64 x1, .bool g1] 25 (0, 0)) := below_block hb5 (by (repeat (first | assumption | (with_reducible refine alloc_at ?_; (focus (first | omega | (simp; done) | (simp; omega)))) | (with_reducible refine boxed_at ?_; (focus (first | omega | (simp; done) | (simp; omega)))) | (with_reducible refine alloc_old ?_ ?_; (focus (first | omega | (simp; done) | (simp; omega)))) | (with_reducible refine boxed_old ?_ ?_; (focus (first | omega | (simp; done) | (simp; omega)))) | (with_reducible refine drew_old ?_))))
    have hy : w5.heap[w4.heap.size]? = some (.cells #[.int .i64 n1, .int .i64 d1, .int .u8 p1, .int .i64 a1, .int .i64 u1, .int .i64 t1, .int .i64 x1, .bool g1] 29 (0, 0)) := below_block hb5 (by (repeat (first | assumption | (with_reducible refine alloc_at ?_; (focus (first | omega | (simp; done) | (simp; omega)))) | (with_reducible refine boxed_at ?_; (focus (first | omega | (simp; done) | (simp; omega)))) | (with_reducible refine alloc_old ?_ ?_; (focus (first | omega | (simp; done) | (simp; omega)))) | (with_reducible refine boxed_old ?_ ?_; (focus (first | omega | (simp; done) | (simp; omega)))) | (with_reducible refine drew_old ?_))))
    obtain ⟨c0, c1, c2, c3, c4, c5, c6, c7⟩ := cells8 hx
    obtain ⟨r0, r1, r2, r3, r4, r5, r6, r7⟩ := cells8 hy
    have HB5 := Lib.hid hb5
    clear hx hy hb5
    go_wp2
    go_ret
    refine ⟨by simp, ?_⟩
    have hB := HW4.out
    refine Below.trans ?_ (HB5.out.mono (by simp; omega))
    (repeat (first | assumption | (with_reducible exact Below.refl _ _) | (with_reducible refine boxed_below ?_ ?_; rotate_left; (focus (first | omega | (simp; done) | (simp; omega)))) | (with_reducible refine Below.alloc ?_ ?_ _; rotate_left; (focus (first | omega | (simp; done) | (simp; omega)))) | (with_reducible refine Below.drew ?_)))
end Go.Proofs.Ythilcefikhnilaa
