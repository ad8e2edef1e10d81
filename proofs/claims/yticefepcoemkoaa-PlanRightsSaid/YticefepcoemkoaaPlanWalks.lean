/-
  The walks of the laws PlanRights, PlanChanges, PlanEqual: each returns true, whatever the input, and makes new blocks alone. No conditions.
-/
import Derived.Test.YticefepcoemkoaaPlan
import Derived.Test.YticefepcoemkoaaPlanRow
namespace Go.Proofs.Yticefepcoemkoaa
set_option maxRecDepth 20000
open Go.ChangeShapes Go.WideShapes Go.ChangeAt Go.RowKit

set_option maxHeartbeats 1000000 in
theorem planRights_walk (a u e t : Int) (g l : Bool) (h : (⟨a, u, e, t, g, l⟩ : Pv).Wf) (w : World) :
    Calls Try.prog 3 #[.agg #[.int .i64 a, .int .u8 u, .int .i64 e, .int .i64 t, .bool g, .bool l]] w fun e w' => e = .returned (.bool true) ∧ Below w.heap.size w w' := by
  obtain ⟨_, wu, _, _⟩ := h
  dsimp only at wu
  have WU := Lib.hid wu
  clear wu
  have hr := Pn.right_near a u e t
  have ht : (Pn.right a u e t == Pn.right a u e t) = true := by simp
  go_enter Try.func3, Try.ntmps3
  go_wp2
  refine region_over (by kernel_rfl) (by kernel_rfl) ?_
  repeat (go_big_quiet_step (first | (go_at_call 8; exact over_call (pnawake_any _)) | (go_at_call 9; exact over_call (plright_any _ _ _ _ _ _ _)) | (go_at_call 10; exact over_call (lwright_any _ _ _ _ _ _ _)) | (go_at_call 11; exact over_call (near_any _ _ _ _ _ _ _ WU.out))))
  refine wpQuiet_nil ?_
  rintro _ ⟨x, rfl⟩
  go_wp2
  go_ret
  exact ⟨rfl, ((Below.refl _ _).alloc (Nat.le_refl _) _).trans ((over_below _ x).mono (by simp))⟩

set_option maxHeartbeats 4000000 in
theorem planChanges_yes (a u e t a' u' e' t' : Int) (g l g' l' : Bool) (p n : Int) (wu : 0 ≤ u ∧ u < 256) (wu' : 0 ≤ u' ∧ u' < 256) (h0 : 1 ≤ n) (h1 : 0 ≤ p) (h2 : p ≤ n) (h3 : n ≤ 9223372036854775807) (w : World) :
    Calls Try.prog 6 #[.agg #[.int .i64 a, .int .u8 u, .int .i64 e, .int .i64 t, .bool g, .bool l], .agg #[.int .i64 a', .int .u8 u', .int .i64 e', .int .i64 t', .bool g', .bool l'], .int .i64 p, .int .i64 n] w fun e w' => e = .returned (.bool true) ∧ Below w.heap.size w w' := by
  obtain ⟨x0, x1⟩ := Pn.nP_ok a
  obtain ⟨y0, y1⟩ := Pn.nP_ok a'
  obtain ⟨b0, b1⟩ := Dv.part_bd x0 h1 h2 h0
  obtain ⟨c0, c1⟩ := Dv.part_bd y0 h1 h2 h0
  have WU := Lib.hid wu
  have WU' := Lib.hid wu'
  clear wu wu'
  go_enter Try.func6, Try.ntmps6
  go_wp2_with (fail)
  refine (near_any a u e t g l _ WU.out).mono ?_
  rintro x w1 ⟨rfl, hb1⟩
  obtain ⟨hw1, _, z1, e1⟩ := two_of hb1
  rw [e1]
  have s1 : w.heap.size < w1.heap.size := by omega
  have HW1 := Lib.hid hw1
  clear e1 hb1 hw1
  go_wp2_with (fail)
  refine (near_any a' u' e' t' g' l' _ WU'.out).mono ?_
  rintro x w2 ⟨rfl, hb2⟩
  obtain ⟨hw2, z2, e2⟩ := two_again HW1.out z1 hb2
  rw [e2]
  have s2 : w.heap.size < w2.heap.size := by omega
  have HW2 := Lib.hid hw2
  clear e2 hb2 hw2 HW1 z1
  go_wp2_with (fail)
  refine (change_yes _ _ _ _ _ _ _ _ _ _ _ _ _ _ _ x0 (by omega) y0 (by omega) h1 h2 h0 h3).mono ?_
  rintro x w3 ⟨rfl, hb3⟩
  obtain ⟨hw3, z3, e3⟩ := two_again HW2.out z2 hb3
  rw [e3]
  have s3 : w.heap.size < w3.heap.size := by omega
  have HW3 := Lib.hid hw3
  clear e3 hb3 hw3 HW2 z2
  go_wp2_with (fail)
  refine (part_yes _ _ _ _ x0 (by omega) h1 h2 h0 h3).mono ?_
  rintro x w4 ⟨rfl, hb4⟩
  obtain ⟨hw4, z4, e4⟩ := two_again HW3.out z3 hb4
  rw [e4]
  have s4 : w.heap.size < w4.heap.size := by omega
  have HW4 := Lib.hid hw4
  clear e4 hb4 hw4 HW3 z3
  go_wp2_with (fail)
  refine (part_yes _ _ _ _ y0 (by omega) h1 h2 h0 h3).mono ?_
  rintro x w5 ⟨rfl, hb5⟩
  obtain ⟨hw5, z5, e5⟩ := two_again HW4.out z4 hb5
  rw [e5]
  have s5 : w.heap.size < w5.heap.size := by omega
  have HW5 := Lib.hid hw5
  clear e5 hb5 hw5 HW4 z4
  go_wp2_with (fail)
  refine (pnawake_any _).mono ?_
  rintro x w6 ⟨rfl, hb6⟩
  obtain ⟨hw6, z6, e6⟩ := two_again HW5.out z5 hb6
  rw [e6]
  have s6 : w.heap.size < w6.heap.size := by omega
  have HW6 := Lib.hid hw6
  clear e6 hb6 hw6 HW5 z5
  go_wp2
  go_ret
  exact ⟨rfl, boxed_below (boxed_below HW6.out (Nat.le_refl _)) (by omega)⟩

set_option maxHeartbeats 4000000 in
theorem planChanges_no (a u e t a' u' e' t' : Int) (g l g' l' : Bool) (p n : Int) (wu : 0 ≤ u ∧ u < 256) (wu' : 0 ≤ u' ∧ u' < 256) (h : n < 1 ∨ 1 ≤ n ∧ p < 0 ∨ 1 ≤ n ∧ 0 ≤ p ∧ n < p) (w : World) :
    Calls Try.prog 6 #[.agg #[.int .i64 a, .int .u8 u, .int .i64 e, .int .i64 t, .bool g, .bool l], .agg #[.int .i64 a', .int .u8 u', .int .i64 e', .int .i64 t', .bool g', .bool l'], .int .i64 p, .int .i64 n] w fun e w' => e = .returned (.bool true) ∧ Below w.heap.size w w' := by
  obtain ⟨x0, x1⟩ := Pn.nP_ok a
  obtain ⟨y0, y1⟩ := Pn.nP_ok a'
  have H := Lib.hid h
  clear h
  have WU := Lib.hid wu
  have WU' := Lib.hid wu'
  clear wu wu'
  go_enter Try.func6, Try.ntmps6
  go_wp2_with (fail)
  refine (near_any a u e t g l _ WU.out).mono ?_
  rintro x w1 ⟨rfl, hb1⟩
  obtain ⟨hw1, _, z1, e1⟩ := two_of hb1
  rw [e1]
  have s1 : w.heap.size < w1.heap.size := by omega
  have HW1 := Lib.hid hw1
  clear e1 hb1 hw1
  go_wp2_with (fail)
  refine (near_any a' u' e' t' g' l' _ WU'.out).mono ?_
  rintro x w2 ⟨rfl, hb2⟩
  obtain ⟨hw2, z2, e2⟩ := two_again HW1.out z1 hb2
  rw [e2]
  have s2 : w.heap.size < w2.heap.size := by omega
  have HW2 := Lib.hid hw2
  clear e2 hb2 hw2 HW1 z1
  go_wp2_with (fail)
  refine (change_arg _ _ _ _ _ _ _ _ _ _ _ _ _ _ _ x0 (by omega) H.out).mono ?_
  rintro x w3 ⟨rfl, hb3⟩
  obtain ⟨hw3, z3, e3⟩ := two_again HW2.out z2 hb3
  rw [e3]
  have s3 : w.heap.size < w3.heap.size := by omega
  have HW3 := Lib.hid hw3
  clear e3 hb3 hw3 HW2 z2
  go_wp2_with (fail)
  refine (part_arg _ _ _ _ x0 (by omega) H.out).mono ?_
  rintro x w4 ⟨rfl, hb4⟩
  obtain ⟨hw4, z4, e4⟩ := two_again HW3.out z3 hb4
  rw [e4]
  have s4 : w.heap.size < w4.heap.size := by omega
  have HW4 := Lib.hid hw4
  clear e4 hb4 hw4 HW3 z3
  go_wp2_with (fail)
  refine (part_arg _ _ _ _ y0 (by omega) H.out).mono ?_
  rintro x w5 ⟨rfl, hb5⟩
  obtain ⟨hw5, z5, e5⟩ := two_again HW4.out z4 hb5
  rw [e5]
  have s5 : w.heap.size < w5.heap.size := by omega
  have HW5 := Lib.hid hw5
  clear e5 hb5 hw5 HW4 z4
  go_wp2_with (fail)
  refine (pnawake_any _).mono ?_
  rintro x w6 ⟨rfl, hb6⟩
  obtain ⟨hw6, z6, e6⟩ := two_again HW5.out z5 hb6
  rw [e6]
  have s6 : w.heap.size < w6.heap.size := by omega
  have HW6 := Lib.hid hw6
  clear e6 hb6 hw6 HW5 z5
  go_wp2
  go_ret
  exact ⟨rfl, boxed_below (boxed_below HW6.out (Nat.le_refl _)) (by omega)⟩

theorem planChanges_walk (a u e t : Int) (g l : Bool) (h : (⟨a, u, e, t, g, l⟩ : Pv).Wf) (a' u' e' t' : Int) (g' l' : Bool) (h' : (⟨a', u', e', t', g', l'⟩ : Pv).Wf) (p : Int) (_ : (Lit.int .i64 p).wf = true) (n : Int) (wn : (Lit.int .i64 n).wf = true) (w : World) :
    Calls Try.prog 6 #[.agg #[.int .i64 a, .int .u8 u, .int .i64 e, .int .i64 t, .bool g, .bool l], .agg #[.int .i64 a', .int .u8 u', .int .i64 e', .int .i64 t', .bool g', .bool l'], .int .i64 p, .int .i64 n] w fun e w' => e = .returned (.bool true) ∧ Below w.heap.size w w' := by
  by_cases c : 1 ≤ n ∧ 0 ≤ p ∧ p ≤ n
  · exact planChanges_yes a u e t a' u' e' t' g l g' l' p n h.2.1 h'.2.1 c.1 c.2.1 c.2.2 (wf_i64 wn).2 w
  · exact planChanges_no a u e t a' u' e' t' g l g' l' p n h.2.1 h'.2.1 (by omega) w
end Go.Proofs.Yticefepcoemkoaa
