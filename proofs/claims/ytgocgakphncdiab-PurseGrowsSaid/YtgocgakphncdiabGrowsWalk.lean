/-
  The walks of the laws PurseGrows and PurseBack: each returns true, whatever the input, and makes new blocks alone. No conditions.
-/
import Derived.Test.YtgocgakphncdiabShare
namespace Go.Proofs.Ytgocgakphncdiab
open Go.ChangeShapes Go.WideShapes Go.ChangeAt Go.RowKit

set_option maxHeartbeats 1000000 in
theorem purseGrows_yes (a p n m : Int) (w : World) (h0 : 0 ≤ a) (h1 : a ≤ 1125899906842624) (g0 : 0 ≤ p) (g1 : p ≤ n) (n0 : 1 ≤ n) (n1 : n ≤ 9223372036854775807) (m0 : 0 ≤ m) (m1 : m ≤ 4294967295) :
    Calls Try.prog 3 #[.int .i64 a, .int .i64 p, .int .i64 n, .int .u32 m] w fun e w' => e = .returned (.bool true) ∧ Below w.heap.size w w' := by
  obtain ⟨b0, b1⟩ := Dv.part_bd h0 g0 g1 n0
  have d0 : 0 ≤ a / (1 + m) := Int.ediv_nonneg h0 (by omega)
  have d1 : a / (1 + m) ≤ a := Int.ediv_le_self _ h0
  have mo := Dv.part_mono (show a - a / (1 + m) ≤ a by omega) g0 n0
  have AL := Lib.hid (@Dv.all a n n0)
  have ZE := Lib.hid (show a * 0 / n = 0 by simp)
  have z : ((1 + m : Int) == 0) = false := beq_eq_false_iff_ne.2 (by omega)
  have z2 : (1 + m : Int) ≠ 0 := by omega
  go_enter Try.func3, Try.ntmps3
  go_wp2_with (fail)
  refine (part_yes _ _ _ _ h0 h1 g0 g1 n0 n1).mono ?_
  rintro e w1 ⟨rfl, hb1⟩
  go_wp2_with (fail)
  refine (part_yes _ n _ _ h0 h1 (by omega) (by omega) n0 n1).mono ?_
  rintro e w2 ⟨rfl, hb2⟩
  rw [AL.out]
  go_wp2_with (fail)
  refine (part_yes _ 0 _ _ h0 h1 (by omega) (by omega) n0 n1).mono ?_
  rintro e w3 ⟨rfl, hb3⟩
  rw [ZE.out]
  go_wp2_with (fail)
  refine (part_yes (a - a / (1 + m)) _ _ _ (by omega) (by omega) g0 g1 n0 n1).mono ?_
  rintro e w4 ⟨rfl, hb4⟩
  go_wp2_with (fail)
  refine (pawake_any _).mono ?_
  rintro e w5 ⟨rfl, hb5⟩
  have hh := (((hb1.trans (hb2.mono hb1.size)).trans (hb3.mono (by have := hb1.size; have := hb2.size; omega))).trans (hb4.mono (by have := hb1.size; have := hb2.size; have := hb3.size; omega))).trans (hb5.mono (by have := hb1.size; have := hb2.size; have := hb3.size; have := hb4.size; omega))
  go_wp2
  go_ret
  exact ⟨rfl, hh⟩

set_option maxHeartbeats 1000000 in
theorem purseGrows_walk (a : Int) (_ : (Lit.int .i64 a).wf = true) (p : Int) (_ : (Lit.int .i64 p).wf = true) (n : Int) (wn : (Lit.int .i64 n).wf = true) (m : Int) (wm : (Lit.int .u32 m).wf = true) (w : World) :
    Calls Try.prog 3 #[.int .i64 a, .int .i64 p, .int .i64 n, .int .u32 m] w fun e w' => e = .returned (.bool true) ∧ Below w.heap.size w w' := by
  have r2 : -9223372036854775808 ≤ n ∧ n ≤ 9223372036854775807 := by simpa [Lit.wf, IntKind.min, IntKind.max, IntKind.bits, IntKind.signed] using wn
  have rm : 0 ≤ m ∧ m ≤ 4294967295 := by simpa [Lit.wf, IntKind.min, IntKind.max, IntKind.bits, IntKind.signed] using wm
  by_cases h : (0 ≤ a ∧ a ≤ 1125899906842624) ∧ 1 ≤ n ∧ 0 ≤ p ∧ p ≤ n
  · exact purseGrows_yes a p n m w h.1.1 h.1.2 h.2.2.1 h.2.2.2 h.2.1 r2.2 rm.1 rm.2
  · have h' : (a < 0 ∨ 1125899906842624 < a) ∨ (0 ≤ a ∧ a ≤ 1125899906842624) ∧ (n < 1 ∨ 1 ≤ n ∧ p < 0 ∨ 1 ≤ n ∧ 0 ≤ p ∧ n < p) := by omega
    clear h
    rcases h' with h | ⟨⟨h0, h1⟩, h⟩
    all_goals
      go_enter Try.func3, Try.ntmps3
      go_wp2_with (fail)
      first | refine (part_money _ _ _ _ h).mono ?_ | refine (part_arg _ _ _ _ h0 h1 h).mono ?_
      rintro e w1 ⟨rfl, hb1⟩
      go_wp2_with (fail)
      refine (pawake_any _).mono ?_
      rintro e w2 ⟨rfl, hb2⟩
      have hh := hb1.trans (hb2.mono hb1.size)
      go_wp2
      go_ret
      exact ⟨rfl, hh⟩

set_option maxHeartbeats 1000000 in
theorem purseBack_walk (a : Int) (_ : (Lit.int .i64 a).wf = true) (b : Int) (_ : (Lit.int .i64 b).wf = true) (p : Int) (wp : (Lit.int .i32 p).wf = true) (n : Int) (wn : (Lit.int .i32 n).wf = true) (w : World) :
    Calls Try.prog 4 #[.int .i64 a, .int .i64 b, .int .i32 p, .int .i32 n] w fun e w' => e = .returned (.bool true) ∧ Below w.heap.size w w' := by
  have r2 : -2147483648 ≤ n ∧ n ≤ 2147483647 := by simpa [Lit.wf, IntKind.min, IntKind.max, IntKind.bits, IntKind.signed] using wn
  have r1 : -2147483648 ≤ p ∧ p ≤ 2147483647 := by simpa [Lit.wf, IntKind.min, IntKind.max, IntKind.bits, IntKind.signed] using wp
  have s : ((a < -1125899906842624 ∨ 1125899906842624 < a) ∨ (-1125899906842624 ≤ a ∧ a ≤ 1125899906842624) ∧ (b < -1125899906842624 ∨ 1125899906842624 < b) ∨
      (-1125899906842624 ≤ a ∧ a ≤ 1125899906842624) ∧ (-1125899906842624 ≤ b ∧ b ≤ 1125899906842624) ∧ (a + b < -1125899906842624 ∨ 1125899906842624 < a + b)) ∨
      (-1125899906842624 ≤ a ∧ a ≤ 1125899906842624) ∧ (-1125899906842624 ≤ b ∧ b ≤ 1125899906842624) ∧ (-1125899906842624 ≤ a + b ∧ a + b ≤ 1125899906842624) := by omega
  have EQ := Lib.hid (show a + b - b = a by omega)
  have h : (a < 0 ∨ 1125899906842624 < a) ∨ (0 ≤ a ∧ a ≤ 1125899906842624) ∧ ((n < 1 ∨ 1 ≤ n ∧ p < 0 ∨ 1 ≤ n ∧ 0 ≤ p ∧ n < p) ∨ 1 ≤ n ∧ 0 ≤ p ∧ p ≤ n) := by omega
  rcases h with h | ⟨⟨h0, h1⟩, (h | ⟨n0, g0, g1⟩)⟩
  rotate_left 2
  · obtain ⟨b0, b1⟩ := Dv.part_bd h0 g0 g1 n0
    obtain ⟨c0, c1⟩ := Dv.part_bd b0 g0 g1 n0
    rcases s with s | ⟨s0, s1, s2⟩
    · go_enter Try.func4, Try.ntmps4
      have S := Lib.hid s
      clear s
      go_wp2_with (fail)
      refine (add_no _ _ _ S.out).mono ?_
      rintro e w1 ⟨rfl, rfl⟩
      go_wp2_with (fail)
      refine (part_yes _ _ _ _ h0 h1 g0 g1 n0 (by omega)).mono ?_
      rintro e w2 ⟨rfl, hb2⟩
      go_wp2_with (fail)
      refine (part_yes _ _ _ _ b0 (by omega) g0 g1 n0 (by omega)).mono ?_
      rintro e w3 ⟨rfl, hb3⟩
      go_wp2_with (fail)
      refine (pawake_any _).mono ?_
      rintro e w4 ⟨rfl, hb4⟩
      have hh := (hb2.trans (hb3.mono hb2.size)).trans (hb4.mono (by have := hb2.size; have := hb3.size; omega))
      go_wp2
      go_ret
      exact ⟨rfl, hh⟩
    · go_enter Try.func4, Try.ntmps4
      go_wp2_with (fail)
      refine (add_yes _ _ _ s0 s1 s2).mono ?_
      rintro e w1 ⟨rfl, rfl⟩
      go_wp2_with (fail)
      refine (less_yes _ _ _ s2 s1 (by omega)).mono ?_
      rintro e w1 ⟨rfl, rfl⟩
      rw [EQ.out]
      go_wp2_with (fail)
      refine (part_yes _ _ _ _ h0 h1 g0 g1 n0 (by omega)).mono ?_
      rintro e w2 ⟨rfl, hb2⟩
      go_wp2_with (fail)
      refine (part_yes _ _ _ _ b0 (by omega) g0 g1 n0 (by omega)).mono ?_
      rintro e w3 ⟨rfl, hb3⟩
      go_wp2_with (fail)
      refine (pawake_any _).mono ?_
      rintro e w4 ⟨rfl, hb4⟩
      have hh := (hb2.trans (hb3.mono hb2.size)).trans (hb4.mono (by have := hb2.size; have := hb3.size; omega))
      go_wp2
      go_ret
      exact ⟨rfl, hh⟩
  all_goals
    rcases s with s | ⟨s0, s1, s2⟩
    · have S := Lib.hid s
      clear s
      go_enter Try.func4, Try.ntmps4
      go_wp2_with (fail)
      refine (add_no _ _ _ S.out).mono ?_
      rintro e w1 ⟨rfl, rfl⟩
      go_wp2_with (fail)
      first | refine (part_money _ _ _ _ h).mono ?_ | refine (part_arg _ _ _ _ h0 h1 h).mono ?_
      rintro e w2 ⟨rfl, hb2⟩
      go_wp2_with (fail)
      refine (pawake_any _).mono ?_
      rintro e w3 ⟨rfl, hb3⟩
      have hh := hb2.trans (hb3.mono hb2.size)
      go_wp2
      go_ret
      exact ⟨rfl, hh⟩
    · go_enter Try.func4, Try.ntmps4
      go_wp2_with (fail)
      refine (add_yes _ _ _ s0 s1 s2).mono ?_
      rintro e w1 ⟨rfl, rfl⟩
      go_wp2_with (fail)
      refine (less_yes _ _ _ s2 s1 (by omega)).mono ?_
      rintro e w1 ⟨rfl, rfl⟩
      rw [EQ.out]
      go_wp2_with (fail)
      first | refine (part_money _ _ _ _ h).mono ?_ | refine (part_arg _ _ _ _ h0 h1 h).mono ?_
      rintro e w2 ⟨rfl, hb2⟩
      go_wp2_with (fail)
      refine (pawake_any _).mono ?_
      rintro e w3 ⟨rfl, hb3⟩
      have hh := hb2.trans (hb3.mono hb2.size)
      go_wp2
      go_ret
      exact ⟨rfl, hh⟩
end Go.Proofs.Ytgocgakphncdiab
