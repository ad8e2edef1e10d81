/-
  The walks of the laws PurseAdds, PurseShares, PurseGrows, PurseBack: each returns true, whatever the input, and makes new blocks alone. No conditions.
-/
import Derived.Test.YtgocgakphncdiaaShare
namespace Go.Proofs.Ytgocgakphncdiaa
open Go.ChangeShapes Go.WideShapes Go.ChangeAt Go.RowKit

set_option maxHeartbeats 400000 in
theorem lright_yes (n : Int) (w : World) (h : -1125899906842624 ≤ n ∧ n ≤ 1125899906842624) :
    Calls Try.prog 25 #[.int .i64 n] w fun e w' => e = .returned (.bool true) ∧ w = w' := by
  obtain ⟨h0, h1⟩ := h
  go_enter Try.func25, Try.ntmps25
  go_wp2
  go_ret
  exact ⟨rfl, rfl⟩
set_option maxHeartbeats 400000 in
theorem lright_no (n : Int) (w : World) (h : n < -1125899906842624 ∨ 1125899906842624 < n) :
    Calls Try.prog 25 #[.int .i64 n] w fun e w' => e = .returned (.bool false) ∧ w = w' := by
  rcases h with h | h
  · have t : decide (-1125899906842624 ≤ n) = false := by simp; omega
    go_enter Try.func25, Try.ntmps25
    go_wp2
    go_ret
    exact ⟨rfl, rfl⟩
  · have t : decide (n ≤ 1125899906842624) = false := by simp; omega
    go_enter Try.func25, Try.ntmps25
    go_wp2
    go_ret
    exact ⟨rfl, rfl⟩

set_option maxHeartbeats 2000000 in
set_option maxRecDepth 100000 in
theorem purseAdds_walk (a : Int) (_ : (Lit.int .i64 a).wf = true) (b : Int) (_ : (Lit.int .i64 b).wf = true) (w : World) :
    Calls Try.prog 11 #[.int .i64 a, .int .i64 b] w fun e w' => e = .returned (.bool true) ∧ Below w.heap.size w w' := by
  have h : (a < -1125899906842624 ∨ 1125899906842624 < a) ∨ (-1125899906842624 ≤ a ∧ a ≤ 1125899906842624) ∧ (b < -1125899906842624 ∨ 1125899906842624 < b) ∨
      (-1125899906842624 ≤ a ∧ a ≤ 1125899906842624) ∧ (-1125899906842624 ≤ b ∧ b ≤ 1125899906842624) ∧ ((a + b < -1125899906842624 ∨ 1125899906842624 < a + b) ∨ (-1125899906842624 ≤ a + b ∧ a + b ≤ 1125899906842624)) ∧ ((a - b < -1125899906842624 ∨ 1125899906842624 < a - b) ∨ (-1125899906842624 ≤ a - b ∧ a - b ≤ 1125899906842624)) := by omega
  rcases h with h | ⟨h, g⟩ | ⟨h, g, (k | k), (l | l)⟩
  all_goals
    go_enter Try.func11, Try.ntmps11
    go_wp2_with (first
      | (go_at_call 23; (first | refine (add_no _ _ _ (by omega)).mono ?_ | refine (add_yes _ _ _ (by omega) (by omega) (by omega)).mono ?_); rintro e w' ⟨rfl, rfl⟩)
      | (go_at_call 24; (first | refine (less_no _ _ _ (by omega)).mono ?_ | refine (less_yes _ _ _ (by omega) (by omega) (by omega)).mono ?_); rintro e w' ⟨rfl, rfl⟩)
      | (go_at_call 25; (first | refine (lright_no _ _ (by omega)).mono ?_ | refine (lright_yes _ _ (by omega)).mono ?_); rintro e w' ⟨rfl, rfl⟩)
      | fail)
    refine (pawake_any _).mono ?_
    rintro e w1 ⟨rfl, hb⟩
    go_wp2_with (first
      | (go_at_call 27; (first | refine (pright_no _ _ (by omega)).mono ?_ | refine (pright_yes _ _ (by omega)).mono ?_); rintro e w' ⟨rfl, rfl⟩)
      | (go_at_call 25; (first | refine (lright_no _ _ (by omega)).mono ?_ | refine (lright_yes _ _ (by omega)).mono ?_); rintro e w' ⟨rfl, rfl⟩)
      | fail)
    go_ret
    exact ⟨rfl, hb⟩

set_option maxHeartbeats 2000000 in
set_option maxRecDepth 100000 in
theorem purseShares_walk (a : Int) (_ : (Lit.int .i64 a).wf = true) (p : Int) (_ : (Lit.int .i64 p).wf = true) (n : Int) (wn : (Lit.int .i64 n).wf = true) (w : World) :
    Calls Try.prog 13 #[.int .i64 a, .int .i64 p, .int .i64 n] w fun e w' => e = .returned (.bool true) ∧ Below w.heap.size w w' := by
  have r2 : -9223372036854775808 ≤ n ∧ n ≤ 9223372036854775807 := by simpa [Lit.wf, IntKind.min, IntKind.max, IntKind.bits, IntKind.signed] using wn
  by_cases h : (0 ≤ a ∧ a ≤ 1125899906842624) ∧ 1 ≤ n ∧ 0 ≤ p ∧ p ≤ n
  · obtain ⟨⟨h0, h1⟩, n0, g0, g1⟩ := h
    obtain ⟨b0, b1⟩ := Dv.part_bd h0 g0 g1 n0
    obtain ⟨c0, c1⟩ := Dv.part_bd h0 (show 0 ≤ n - p by omega) (show n - p ≤ n by omega) n0
    obtain ⟨d0, d1⟩ := @Dv.left_01 a p n n0
    go_enter Try.func13, Try.ntmps13
    go_wp2_with (fail)
    refine (share_yes _ _ _ _ h0 h1 g0 g1 n0 r2.2).mono ?_
    rintro e w1 ⟨rfl, hb1⟩
    go_wp2_with (fail)
    refine (part_yes _ _ _ _ h0 h1 g0 g1 n0 r2.2).mono ?_
    rintro e w2 ⟨rfl, hb2⟩
    go_wp2_with (fail)
    refine (part_yes _ (n - p) _ _ h0 h1 (by omega) (by omega) n0 r2.2).mono ?_
    rintro e w3 ⟨rfl, hb3⟩
    have es : a * p / n + a * (n - p) / n + (a - a * p / n - a * (n - p) / n) = a := by omega
    have dd : a - a * p / n - a * (n - p) / n = 0 ∨ a - a * p / n - a * (n - p) / n = 1 := by omega
    have t0 : (a - a * p / n - a * (n - p) / n == 0) = true ∨ (a - a * p / n - a * (n - p) / n == 0) = false ∧ (a - a * p / n - a * (n - p) / n == 1) = true := by
      rcases dd with dd | dd <;> rw [dd] <;> decide
    clear dd
    generalize a * p / n = x at *
    generalize a * (n - p) / n = y at *
    have es' : (x + y + (a - x - y) == a) = true := by rw [beq_iff_eq]; exact es
    clear es
    go_wp2_with (fail)
    refine (pawake_any _).mono ?_
    rintro e w4 ⟨rfl, hb4⟩
    have hh := ((hb1.trans (hb2.mono hb1.size)).trans (hb3.mono (by have := hb1.size; have := hb2.size; omega))).trans (hb4.mono (by have := hb1.size; have := hb2.size; have := hb3.size; omega))
    rcases t0 with t0 | ⟨t0, t1⟩
    all_goals
      go_wp2
      go_ret
      exact ⟨rfl, hh⟩
  · have h' : (a < 0 ∨ 1125899906842624 < a) ∨ (0 ≤ a ∧ a ≤ 1125899906842624) ∧ (n < 1 ∨ 1 ≤ n ∧ p < 0 ∨ 1 ≤ n ∧ 0 ≤ p ∧ n < p) := by omega
    clear h
    rcases h' with h | ⟨⟨h0, h1⟩, h⟩
    all_goals
      go_enter Try.func13, Try.ntmps13
      go_wp2_with (fail)
      first | refine (share_money _ _ _ _ h).mono ?_ | refine (share_arg _ _ _ _ h0 h1 h).mono ?_
      rintro e w1 ⟨rfl, hb1⟩
      go_wp2_with (fail)
      first | refine (part_money _ _ _ _ h).mono ?_ | refine (part_arg _ _ _ _ h0 h1 h).mono ?_
      rintro e w2 ⟨rfl, hb2⟩
      go_wp2_with (fail)
      refine (pawake_any _).mono ?_
      rintro e w3 ⟨rfl, hb3⟩
      have hh := (hb1.trans (hb2.mono hb1.size)).trans (hb3.mono (by have := hb1.size; have := hb2.size; omega))
      go_wp2
      go_ret
      exact ⟨rfl, hh⟩
end Go.Proofs.Ytgocgakphncdiaa
