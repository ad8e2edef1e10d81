/-
  The walk of the law SeasonErrs: it returns true, whatever the input, and makes new blocks alone. No conditions.
-/
import Derived.Test.YtgocgakphncdiaaRefNth
namespace Go.Proofs.Ytgocgakphncdiaa
open Go.ChangeShapes Go.WideShapes Go.ChangeAt Go.RowKit

set_option maxHeartbeats 2000000 in
theorem seasonErrs_walk (a : Int) (_ : (Lit.int .i64 a).wf = true) (u : Int) (w1 : (Lit.int .u8 u).wf = true) (e : Int) (_ : (Lit.int .i64 e).wf = true) (n : Int) (_ : (Lit.int .i64 n).wf = true) (w : World) :
    Calls Try.prog 8 #[.int .i64 a, .int .u8 u, .int .i64 e, .int .i64 n] w fun e w' => e = .returned (.bool true) ∧ Below w.heap.size w w' := by
  have r1 : 0 ≤ u ∧ u ≤ 255 := by simpa [Lit.wf, IntKind.min, IntKind.max, IntKind.bits, IntKind.signed] using w1
  by_cases g : (u ≤ 3 ∧ 1 ≤ e ∧ e ≤ 1000) ∧ (0 ≤ a ∧ a ≤ 3652058) ∧ 0 ≤ n ∧ n ≤ 3652058
  · obtain ⟨⟨u1, e0, e1⟩, ⟨a0, a1⟩, n0, n1⟩ := g
    obtain ⟨k, d, h⟩ := Cal.at_of a a0 a1
    obtain ⟨c, hc⟩ := Cal.cnt_of (u := u) h e0 n0 n1
    have cb : c ≤ 3652059 := by
      by_cases q : c < 1
      · omega
      · have := hc.le h e0 (by omega); omega
    have cn := hc.nn
    have H := Lib.hid h
    have HC := Lib.hid hc
    clear h hc
    have t0 : decide (3 < u) = false := by simp; omega
    have t1 : decide (e < 1) = false := by simp; omega
    have t2 : decide (1000 < e) = false := by simp; omega
    have t3 : decide (a < 0) = false := by simp; omega
    have t4 : decide (3652058 < a) = false := by simp; omega
    have t5 : decide (n < 0) = false := by simp; omega
    have t6 : decide (3652058 < n) = false := by simp; omega
    have cs : n < a ∨ a ≤ n ∧ Cal.okN u a k e c = false ∨ a ≤ n ∧ Cal.okN u a k e c = true := by
      cases Cal.okN u a k e c <;> simp <;> omega
    rcases cs with cs | ⟨cs, ho⟩ | ⟨cs, ho⟩
    all_goals
      try have HO := Lib.hid ho
      try clear ho
      go_enter Try.func8, Try.ntmps8
      go_wp2_with fail
      refine (count_yes _ _ _ _ _ _ _ _ H.out (by omega) (by omega) (by omega) (by omega) (by omega) (by omega) HC.out).mono ?_
      rintro e w1 ⟨rfl, h1⟩
      go_wp2_with fail
      first
        | refine (span_before _ _ _ _ _ _ _ H.out (by omega) (by omega) (by omega) (by omega) (by omega) (by omega) cs).mono ?_
        | refine (span_yes _ _ _ _ _ _ _ _ H.out (by omega) (by omega) (by omega) (by omega) (by omega) (by omega) cs HC.out HO.out).mono ?_
        | refine (span_long _ _ _ _ _ _ _ _ H.out (by omega) (by omega) (by omega) (by omega) (by omega) (by omega) cs HC.out HO.out).mono ?_
      rintro e w2 ⟨rfl, h2⟩
      go_wp2_with fail
      refine (sawake_any _).mono ?_
      rintro e w3 ⟨rfl, h3⟩
      have hh := (h1.trans (h2.mono h1.size)).trans (h3.mono (by have := h1.size; have := h2.size; omega))
      go_wp2
      go_ret
      exact ⟨rfl, hh⟩
  · have N := Lib.hid (show NoArg a u e n by unfold NoArg; omega)
    have c : 3 < u ∨ u ≤ 3 ∧ (e < 1 ∨ 1 ≤ e ∧ (1000 < e ∨ e ≤ 1000 ∧ (a < 0 ∨ 0 ≤ a ∧ (3652058 < a ∨ a ≤ 3652058 ∧ (n < 0 ∨ 0 ≤ n ∧ 3652058 < n))))) := by omega
    clear g
    rcases c with c | ⟨c0, c | ⟨c1, c | ⟨c2, c | ⟨c3, c | ⟨c4, c | ⟨c5, c⟩⟩⟩⟩⟩⟩
    all_goals
      try have t0 : decide (3 < u) = false := by simp; omega
      try have t1 : decide (e < 1) = false := by simp; omega
      try have t2 : decide (1000 < e) = false := by simp; omega
      try have t3 : decide (a < 0) = false := by simp; omega
      try have t4 : decide (3652058 < a) = false := by simp; omega
      try have t5 : decide (n < 0) = false := by simp; omega
      go_enter Try.func8, Try.ntmps8
      go_wp2_with fail
      refine (count_arg _ _ _ _ _ N.out).mono ?_
      rintro e w1 ⟨rfl, h1⟩
      go_wp2_with fail
      refine (span_arg _ _ _ _ _ N.out).mono ?_
      rintro e w2 ⟨rfl, h2⟩
      go_wp2_with fail
      refine (sawake_any _).mono ?_
      rintro e w3 ⟨rfl, h3⟩
      have hh := (h1.trans (h2.mono h1.size)).trans (h3.mono (by have := h1.size; have := h2.size; omega))
      go_wp2
      go_ret
      exact ⟨rfl, hh⟩
end Go.Proofs.Ytgocgakphncdiaa
