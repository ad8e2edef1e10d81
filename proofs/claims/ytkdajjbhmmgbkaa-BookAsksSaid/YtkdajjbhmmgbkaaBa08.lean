/-
  Contracts of package purse but for its list: what may be, sums, differences, parts, shares. No conditions but the numbers' own ranges.
-/
import Derived.Lib.Hide
import Derived.Test.YtkdajjbhmmgbkaaProg
import Derived.Test.YtkdajjbhmmgbkaaBa02
import Derived.Test.YtkdajjbhmmgbkaaBa07
set_option linter.unusedSimpArgs false
set_option linter.unusedVariables false
namespace Go.Proofs.Ytkdajjbhmmgbkaa
open Go.ChangeShapes Go.WideShapes Go.ChangeAt Go.RowKit

namespace Dv
theorem part_bd {a p w : Int} (h0 : 0 ≤ a) (h1 : 0 ≤ p) (h2 : p ≤ w) (h3 : 1 ≤ w) : 0 ≤ a * p / w ∧ a * p / w ≤ a := by
  have e := Int.mul_nonneg h0 h1
  have f := Int.mul_le_mul_of_nonneg_left h2 h0
  refine ⟨Int.ediv_nonneg e (by omega), ?_⟩
  have : a * p / w < a + 1 := by
    apply Int.ediv_lt_of_lt_mul (by omega)
    rw [Int.add_mul, Int.one_mul]; omega
  omega
theorem words {a p w : Int} (h0 : 0 ≤ a) (h4 : a ≤ 1125899906842624) (h1 : 0 ≤ p) (h2 : p ≤ w) (h3 : 1 ≤ w) :
    0 ≤ a * p / 18446744073709551616 ∧ a * p / 18446744073709551616 < w ∧ 0 ≤ a * p % 18446744073709551616 ∧ a * p % 18446744073709551616 ≤ 18446744073709551615 ∧
    (a * p / 18446744073709551616 * 18446744073709551616 + a * p % 18446744073709551616) / w = a * p / w := by
  have e := Int.mul_nonneg h0 h1
  have f := Int.mul_le_mul_of_nonneg_left h2 h0
  have g := Int.mul_le_mul_of_nonneg_right h4 (show 0 ≤ w by omega)
  generalize a * p = x at *
  generalize a * w = y at *
  refine ⟨by omega, by omega, by omega, by omega, by rw [show x / 18446744073709551616 * 18446744073709551616 + x % 18446744073709551616 = x by omega]⟩
theorem all {a w : Int} (h3 : 1 ≤ w) : a * w / w = a := Int.mul_ediv_cancel _ (by omega)
end Dv

set_option maxHeartbeats 400000 in
theorem pright_yes (n : Int) (w : World) (h : -1125899906842624 ≤ n ∧ n ≤ 1125899906842624) :
    Calls Try.prog 99 #[.int .i64 n] w fun e w' => e = .returned (.bool true) ∧ w = w' := by
  obtain ⟨h0, h1⟩ := h
  go_enter Try.func99, Try.ntmps99
  go_wp2
  go_ret
  exact ⟨rfl, rfl⟩
set_option maxHeartbeats 400000 in
theorem partable_yes (n : Int) (w : World) (h0 : 0 ≤ n) (h1 : n ≤ 1125899906842624) :
    Calls Try.prog 111 #[.int .i64 n] w fun e w' => e = .returned (.bool true) ∧ w = w' := by
  go_enter Try.func111, Try.ntmps111
  go_wp2_with (go_at_call 99; refine (pright_yes _ _ (by omega)).mono ?_; rintro e w' ⟨rfl, rfl⟩)
  go_ret
  exact ⟨rfl, rfl⟩
set_option maxHeartbeats 1000000 in
theorem scaled_any (a p n : Int) (w : World) (h0 : 0 ≤ a) (h1 : a ≤ 1125899906842624) (g0 : 0 ≤ p) (g1 : p ≤ n) (n0 : 1 ≤ n) (n1 : n ≤ 9223372036854775807) :
    Calls Try.prog 112 #[.int .i64 a, .int .i64 p, .int .i64 n] w fun e w' => e = .returned (.int .i64 (a * p / n)) ∧ Below w.heap.size w w' := by
  obtain ⟨b0, b1⟩ := Dv.part_bd h0 g0 g1 n0
  obtain ⟨c0, c1, c2, c3, c4⟩ := Dv.words h0 h1 g0 g1 n0
  have C4 := Lib.hid c4
  clear c4
  go_enter Try.func112, Try.ntmps112
  go_wp2_with (go_at_call 116; refine (mul64_any a p _ h0 (by omega) g0 (by omega)).mono ?_; rintro e w' ⟨rfl, rfl⟩)
  refine (div64_any _ _ _ _ c2 c3 c0 c1 (by omega)).mono ?_
  rintro e w1 ⟨rfl, hb⟩
  rw [C4.out]
  go_wp2
  go_ret
  exact ⟨rfl, hb⟩

theorem part_yes (a p n : Int) (w : World) (h0 : 0 ≤ a) (h1 : a ≤ 1125899906842624) (g0 : 0 ≤ p) (g1 : p ≤ n) (n0 : 1 ≤ n) (n1 : n ≤ 9223372036854775807) :
    Calls Try.prog 105 #[.int .i64 a, .int .i64 p, .int .i64 n] w fun e w' => e = .returned (.tuple #[.int .i64 (a * p / n), .int .i64 0]) ∧ Below w.heap.size w w' := by
  have t : decide (n < 1) = false := by simp; omega
  have t' : decide (p < 0) = false := by simp; omega
  have t'' : decide (n < p) = false := by simp; omega
  go_enter Try.func105, Try.ntmps105
  go_wp2_with (go_at_call 111; refine (partable_yes _ _ h0 h1).mono ?_; rintro e w' ⟨rfl, rfl⟩)
  refine (scaled_any _ _ _ _ h0 h1 g0 g1 n0 n1).mono ?_
  rintro e w1 ⟨rfl, hb⟩
  go_wp2
  go_ret2
  exact ⟨rfl, hb⟩

theorem add_yes (a b : Int) (w : World) (ha : -1125899906842624 ≤ a ∧ a ≤ 1125899906842624) (hb : -1125899906842624 ≤ b ∧ b ≤ 1125899906842624) (hs : -1125899906842624 ≤ a + b ∧ a + b ≤ 1125899906842624) :
    Calls Try.prog 84 #[.int .i64 a, .int .i64 b] w fun e w' => e = .returned (.tuple #[.int .i64 (a + b), .int .i64 0]) ∧ w = w' := by
  go_enter Try.func84, Try.ntmps84
  go_wp2_with (go_at_call 99; refine (pright_yes _ _ (by omega)).mono ?_; rintro e w' ⟨rfl, rfl⟩)
  go_ret2
  exact ⟨rfl, rfl⟩
theorem less_yes (a b : Int) (w : World) (ha : -1125899906842624 ≤ a ∧ a ≤ 1125899906842624) (hb : -1125899906842624 ≤ b ∧ b ≤ 1125899906842624) (hs : -1125899906842624 ≤ a - b ∧ a - b ≤ 1125899906842624) :
    Calls Try.prog 75 #[.int .i64 a, .int .i64 b] w fun e w' => e = .returned (.tuple #[.int .i64 (a - b), .int .i64 0]) ∧ w = w' := by
  go_enter Try.func75, Try.ntmps75
  go_wp2_with (go_at_call 99; refine (pright_yes _ _ (by omega)).mono ?_; rintro e w' ⟨rfl, rfl⟩)
  go_ret2
  exact ⟨rfl, rfl⟩
end Go.Proofs.Ytkdajjbhmmgbkaa
/-
  Contracts of season.Right and of package plan's Right; which plans may be; remainders of words without a sign. No conditions.
-/
namespace Go.Proofs.Ytkdajjbhmmgbkaa
set_option maxRecDepth 20000
open Go.ChangeShapes Go.WideShapes Go.ChangeAt Go.RowKit

namespace Pn
/-- May a plan be? -/
def right (a u e t : Int) : Int := if 3 < u ∨ e < 1 ∨ 1000 < e ∨ t < 0 ∨ 1000 < t then 1 else if a < 0 ∨ 1073741824 < a then 9 else 0
def nP (a : Int) : Int := a % 18446744073709551616 % 1073741825
def nU (u : Int) : Int := u % 4
def nE (e : Int) : Int := 1 + e % 18446744073709551616 % 1000
def nT (t : Int) : Int := t % 18446744073709551616 % 1001
/-- The ways that a plan can go. -/
theorem ways {P : Prop} (a u e t : Int) (h1 : 3 < u → P) (h2 : u ≤ 3 → e < 1 → P) (h3 : u ≤ 3 → 1 ≤ e → 1000 < e → P) (h4 : u ≤ 3 → 1 ≤ e → e ≤ 1000 → t < 0 → P) (h5 : u ≤ 3 → 1 ≤ e → e ≤ 1000 → 0 ≤ t → 1000 < t → P)
    (h6 : u ≤ 3 → 1 ≤ e → e ≤ 1000 → 0 ≤ t → t ≤ 1000 → a < 0 → P) (h7 : u ≤ 3 → 1 ≤ e → e ≤ 1000 → 0 ≤ t → t ≤ 1000 → 0 ≤ a → 1073741824 < a → P) (h8 : u ≤ 3 → 1 ≤ e → e ≤ 1000 → 0 ≤ t → t ≤ 1000 → 0 ≤ a → a ≤ 1073741824 → P) : P := by
  by_cases c1 : 3 < u
  · exact h1 c1
  by_cases c2 : e < 1
  · exact h2 (by omega) c2
  by_cases c3 : 1000 < e
  · exact h3 (by omega) (by omega) c3
  by_cases c4 : t < 0
  · exact h4 (by omega) (by omega) (by omega) c4
  by_cases c5 : 1000 < t
  · exact h5 (by omega) (by omega) (by omega) (by omega) c5
  by_cases c6 : a < 0
  · exact h6 (by omega) (by omega) (by omega) (by omega) (by omega) c6
  by_cases c7 : 1073741824 < a
  · exact h7 (by omega) (by omega) (by omega) (by omega) (by omega) (by omega) c7
  · exact h8 (by omega) (by omega) (by omega) (by omega) (by omega) (by omega) (by omega)
end Pn

set_option maxHeartbeats 400000 in
theorem sright_yes (u e : Int) (w : World) (h : u ≤ 3) (h1 : 1 ≤ e) (h2 : e ≤ 1000) :
    Calls Try.prog 96 #[.int .u8 u, .int .i64 e] w fun e w' => e = .returned (.bool true) ∧ w = w' := by
  go_enter Try.func96, Try.ntmps96
  go_wp2
  go_ret
  exact ⟨rfl, rfl⟩
set_option maxHeartbeats 400000 in
theorem sright_no (u e : Int) (w : World) (h : 3 < u ∨ u ≤ 3 ∧ e < 1 ∨ u ≤ 3 ∧ 1 ≤ e ∧ 1000 < e) :
    Calls Try.prog 96 #[.int .u8 u, .int .i64 e] w fun e w' => e = .returned (.bool false) ∧ w = w' := by
  rcases h with h | ⟨g, h⟩ | ⟨g, k, h⟩
  · have t : decide (u ≤ 3) = false := by simp; omega
    go_enter Try.func96, Try.ntmps96
    go_wp2
    go_ret
    exact ⟨rfl, rfl⟩
  · have t : decide (1 ≤ e) = false := by simp; omega
    go_enter Try.func96, Try.ntmps96
    go_wp2
    go_ret
    exact ⟨rfl, rfl⟩
  · have t : decide (e ≤ 1000) = false := by simp; omega
    go_enter Try.func96, Try.ntmps96
    go_wp2
    go_ret
    exact ⟨rfl, rfl⟩

set_option maxHeartbeats 1000000 in
theorem plright_any (a u e t : Int) (g l : Bool) (w : World) :
    Calls Try.prog 67 #[.agg #[.int .i64 a, .int .u8 u, .int .i64 e, .int .i64 t, .bool g, .bool l]] w fun x w' => x = .returned (.int .i64 (Pn.right a u e t)) ∧ Below w.heap.size w w' := by
  refine Pn.ways a u e t ?_ ?_ ?_ ?_ ?_ ?_ ?_ ?_
  all_goals
    intros
    first | (rw [show Pn.right a u e t = 1 by unfold Pn.right; rw [if_pos (by omega)]]) | (rw [show Pn.right a u e t = 9 by unfold Pn.right; rw [if_neg (by omega), if_pos (by omega)]]) | (rw [show Pn.right a u e t = 0 by unfold Pn.right; rw [if_neg (by omega), if_neg (by omega)]])
    try have d1 : decide (t < 0) = false := by simp; omega
    try have d2 : decide (t < 0) = true := by simp; omega
    try have d3 : decide (1000 < t) = false := by simp; omega
    try have d4 : decide (1000 < t) = true := by simp; omega
    try have d5 : decide (a < 0) = false := by simp; omega
    try have d6 : decide (a < 0) = true := by simp; omega
    try have d7 : decide (1073741824 < a) = false := by simp; omega
    try have d8 : decide (1073741824 < a) = true := by simp; omega
    go_enter Try.func67, Try.ntmps67
    go_wp2_with (go_at_call 96; (first | refine (sright_yes _ _ _ (by omega) (by omega) (by omega)).mono ?_ | refine (sright_no _ _ _ (by omega)).mono ?_); rintro e w' ⟨rfl, rfl⟩)
    go_ret
    exact ⟨rfl, by go_grown⟩

end Go.Proofs.Ytkdajjbhmmgbkaa
/-
  Contracts of package plan's Right and Change, of the law's own look at what may be, and of the law's plan that may be. No conditions.
-/
namespace Go.Proofs.Ytkdajjbhmmgbkaa
set_option maxRecDepth 20000
open Go.ChangeShapes Go.WideShapes Go.ChangeAt Go.RowKit


/-- Change: both parts. -/
theorem change_yes (a b p n u e t u' e' t' : Int) (g l g' l' : Bool) (w : World) (ha : 0 ≤ a) (ha1 : a ≤ 1125899906842624) (hb : 0 ≤ b) (hb1 : b ≤ 1125899906842624) (g0 : 0 ≤ p) (g1 : p ≤ n) (n0 : 1 ≤ n) (n1 : n ≤ 9223372036854775807) :
    Calls Try.prog 83 #[.agg #[.int .i64 a, .int .u8 u, .int .i64 e, .int .i64 t, .bool g, .bool l], .agg #[.int .i64 b, .int .u8 u', .int .i64 e', .int .i64 t', .bool g', .bool l'], .int .i64 p, .int .i64 n] w
      fun x w' => x = .returned (.tuple #[.int .i64 (a * p / n), .int .i64 (b * p / n), .int .i64 0]) ∧ Below w.heap.size w w' := by
  go_enter Try.func83, Try.ntmps83
  go_wp2_with (fail)
  refine (part_yes _ _ _ _ ha ha1 g0 g1 n0 n1).mono ?_
  rintro x w1 ⟨rfl, hb1'⟩
  obtain ⟨hw, z0, z1, e1⟩ := two_of hb1'
  rw [e1]
  have HW := Lib.hid hw
  clear hw e1 hb1'
  go_wp2_with (fail)
  refine (part_yes _ _ _ _ hb hb1 g0 g1 n0 n1).mono ?_
  rintro x w2 ⟨rfl, hb2⟩
  have hw2 := (two_again HW.out z1 hb2).1
  clear hb2
  go_wp2
  go_ret3
  exact ⟨rfl, hw2⟩
end Go.Proofs.Ytkdajjbhmmgbkaa
