/-
  The walks of the laws SeasonNths and SeasonArgs: each returns true, whatever the input, and makes new blocks alone. No conditions.
-/
import Derived.Test.YtgocgakphncdiaaRefNth
namespace Go.Proofs.Ytgocgakphncdiaa
open Go.ChangeShapes Go.WideShapes Go.ChangeAt Go.RowKit

set_option maxHeartbeats 1000000 in
theorem seasonNths_walk (a0 : Int) (w0 : (Lit.int .u32 a0).wf = true) (a1 : Int) (w1 : (Lit.int .u8 a1).wf = true) (a2 : Int) (w2 : (Lit.int .u16 a2).wf = true) (a3 : Int) (w3 : (Lit.int .u16 a3).wf = true) (w : World) :
    Calls Try.prog 3 #[.int .u32 a0, .int .u8 a1, .int .u16 a2, .int .u16 a3] w fun e w' => e = .returned (.bool true) ∧ Below w.heap.size w w' := by
  have r0 : 0 ≤ a0 ∧ a0 ≤ 4294967295 := by simpa [Lit.wf, IntKind.min, IntKind.max, IntKind.bits, IntKind.signed] using w0
  have r1 : 0 ≤ a1 ∧ a1 ≤ 255 := by simpa [Lit.wf, IntKind.min, IntKind.max, IntKind.bits, IntKind.signed] using w1
  have r2 : 0 ≤ a2 ∧ a2 ≤ 65535 := by simpa [Lit.wf, IntKind.min, IntKind.max, IntKind.bits, IntKind.signed] using w2
  have r3 : 0 ≤ a3 ∧ a3 ≤ 65535 := by simpa [Lit.wf, IntKind.min, IntKind.max, IntKind.bits, IntKind.signed] using w3
  clear w0 w1 w2 w3
  obtain ⟨k, d, h⟩ := Cal.at_of (a0 % 3652059) (by omega) (by omega)
  have H := Lib.hid h
  clear h
  cases ho : Cal.okN (a1 % 4) (a0 % 3652059) k (1 + a2 % 1000) (a3 % 20000)
  all_goals
    have HO := Lib.hid ho
    clear ho
    go_enter Try.func3, Try.ntmps3
    go_wp2_with fail
    first | refine (nth_yes _ _ _ _ _ _ _ H.out (by omega) (by omega) (by omega) (by omega) (by omega) (by omega) HO.out).mono ?_ | refine (nth_long _ _ _ _ _ _ _ H.out (by omega) (by omega) (by omega) (by omega) (by omega) (by omega) HO.out).mono ?_
    rintro e w1 ⟨rfl, h1⟩
    go_wp2_with fail
    first | refine (rnth_yes _ _ _ _ _ _ _ H.out (by omega) (by omega) (by omega) (by omega) (by omega) (by omega) HO.out).mono ?_ | refine (rnth_no _ _ _ _ _ _ _ H.out (by omega) (by omega) (by omega) (by omega) (by omega) (by omega) HO.out).mono ?_
    rintro e w2 ⟨rfl, h2⟩
    go_wp2_with fail
    refine (sawake_any _).mono ?_
    rintro e w3 ⟨rfl, h3⟩
    have hh := (h1.trans (h2.mono h1.size)).trans (h3.mono (by have := h1.size; have := h2.size; omega))
    go_wp2
    go_ret
    exact ⟨rfl, hh⟩

set_option maxHeartbeats 2000000 in
theorem seasonArgs_walk (a : Int) (_ : (Lit.int .i64 a).wf = true) (u : Int) (w1 : (Lit.int .u8 u).wf = true) (e : Int) (_ : (Lit.int .i64 e).wf = true) (n : Int) (_ : (Lit.int .i64 n).wf = true) (w : World) :
    Calls Try.prog 4 #[.int .i64 a, .int .u8 u, .int .i64 e, .int .i64 n] w fun e w' => e = .returned (.bool true) ∧ Below w.heap.size w w' := by
  have r1 : 0 ≤ u ∧ u ≤ 255 := by simpa [Lit.wf, IntKind.min, IntKind.max, IntKind.bits, IntKind.signed] using w1
  by_cases g : (u ≤ 3 ∧ 1 ≤ e ∧ e ≤ 1000) ∧ (0 ≤ a ∧ a ≤ 3652058) ∧ 0 ≤ n ∧ n ≤ 3652058
  · obtain ⟨⟨u1, e0, e1⟩, ⟨a0, a1⟩, n0, n1⟩ := g
    obtain ⟨k, d, h⟩ := Cal.at_of a a0 a1
    have H := Lib.hid h
    clear h
    have t1 : decide (a < 0) = false := by simp; omega
    have t2 : decide (3652058 < a) = false := by simp; omega
    have t3 : decide (n < 0) = false := by simp; omega
    have t4 : decide (3652058 < n) = false := by simp; omega
    cases ho : Cal.okN u a k e n
    all_goals
      have HO := Lib.hid ho
      clear ho
      go_enter Try.func4, Try.ntmps4
      go_wp2_with fail
      first | refine (nth_yes _ _ _ _ _ _ _ H.out (by omega) (by omega) (by omega) (by omega) (by omega) (by omega) HO.out).mono ?_ | refine (nth_long _ _ _ _ _ _ _ H.out (by omega) (by omega) (by omega) (by omega) (by omega) (by omega) HO.out).mono ?_
      rintro e w1 ⟨rfl, h1⟩
      go_wp2_with fail
      refine (sawake_any _).mono ?_
      rintro e w2 ⟨rfl, h2⟩
      have hh := h1.trans (h2.mono h1.size)
      go_wp2_with (go_at_call 18; refine (sright_yes _ _ _ (by omega) (by omega) (by omega)).mono ?_; rintro e w' ⟨rfl, rfl⟩)
      go_ret
      exact ⟨rfl, hh⟩
  · have N := Lib.hid (show NoArg a u e n by unfold NoArg; omega)
    have c : (3 < u ∨ u ≤ 3 ∧ e < 1 ∨ u ≤ 3 ∧ 1 ≤ e ∧ 1000 < e) ∨ (u ≤ 3 ∧ 1 ≤ e ∧ e ≤ 1000) ∧ (a < 0 ∨ 0 ≤ a ∧ 3652058 < a ∨ (0 ≤ a ∧ a ≤ 3652058) ∧ n < 0 ∨ (0 ≤ a ∧ a ≤ 3652058) ∧ 0 ≤ n ∧ 3652058 < n) := by omega
    clear g
    rcases c with (c | ⟨c, c'⟩ | ⟨c, c', c''⟩) | ⟨⟨u1, e0, e1⟩, (c | ⟨c, c'⟩ | ⟨⟨c, c'⟩, c''⟩ | ⟨⟨c, c'⟩, c'', c3⟩)⟩
    all_goals
      try have t1 : decide (a < 0) = false := by simp; omega
      try have t2 : decide (3652058 < a) = false := by simp; omega
      try have t3 : decide (n < 0) = false := by simp; omega
      try have t5 : decide (u ≤ 3) = false := by simp; omega
      try have t6 : decide (1 ≤ e) = false := by simp; omega
      try have t7 : decide (e ≤ 1000) = false := by simp; omega
      go_enter Try.func4, Try.ntmps4
      go_wp2_with fail
      refine (nth_arg _ _ _ _ _ N.out).mono ?_
      rintro e w1 ⟨rfl, h1⟩
      go_wp2_with fail
      refine (sawake_any _).mono ?_
      rintro e w2 ⟨rfl, h2⟩
      have hh := h1.trans (h2.mono h1.size)
      go_wp2_with (go_at_call 18; (first | refine (sright_yes _ _ _ (by omega) (by omega) (by omega)).mono ?_ | refine (sright_no _ _ _ (by omega)).mono ?_); rintro e w' ⟨rfl, rfl⟩)
      go_ret
      exact ⟨rfl, hh⟩
end Go.Proofs.Ytgocgakphncdiaa
