/-
  Contracts of package purse but for its list: what may be, sums, differences, parts, shares. No conditions but the numbers' own ranges.
-/
import Derived.Test.YtcgglphphdpplaaDivWalk
import Derived.Lib.Hide
namespace Go.Proofs.Ytcgglphphdpplaa
open Go.ChangeShapes Go.WideShapes Go.ChangeAt Go.RowKit

namespace Dv
theorem part_bd {a p w : Int} (h0 : 0 ≤ a) (h1 : 0 ≤ p) (h2 : p ≤ w) (h3 : 1 ≤ w) : 0 ≤ a * p / w ∧ a * p / w ≤ a := by
  have e := Int.mul_nonneg h0 h1
  have f := Int.mul_le_mul_of_nonneg_left h2 h0
  refine ⟨Int.ediv_nonneg e (by omega), ?_⟩
  have : a * p / w < a + 1 := by
    apply Int.ediv_lt_of_lt_mul (by omega)
    rw [Int.add_mul, Int.one_mul]; omega
  omega
theorem words {a p w : Int} (h0 : 0 ≤ a) (h4 : a ≤ 1125899906842624) (h1 : 0 ≤ p) (h2 : p ≤ w) (h3 : 1 ≤ w) :
    0 ≤ a * p / 18446744073709551616 ∧ a * p / 18446744073709551616 < w ∧ 0 ≤ a * p % 18446744073709551616 ∧ a * p % 18446744073709551616 ≤ 18446744073709551615 ∧
    (a * p / 18446744073709551616 * 18446744073709551616 + a * p % 18446744073709551616) / w = a * p / w := by
  have e := Int.mul_nonneg h0 h1
  have f := Int.mul_le_mul_of_nonneg_left h2 h0
  have g := Int.mul_le_mul_of_nonneg_right h4 (show 0 ≤ w by omega)
  generalize a * p = x at *
  generalize a * w = y at *
  refine ⟨by omega, by omega, by omega, by omega, by rw [show x / 18446744073709551616 * 18446744073709551616 + x % 18446744073709551616 = x by omega]⟩
theorem left_01 {a p w : Int} (h3 : 1 ≤ w) : 0 ≤ a - a * p / w - a * (w - p) / w ∧ a - a * p / w - a * (w - p) / w ≤ 1 := by
  have e := Int.mul_ediv_add_emod (a * p) w
  have f := Int.mul_ediv_add_emod (a * (w - p)) w
  have g : a * (w - p) = a * w - a * p := Int.mul_sub _ _ _
  have m := Int.emod_nonneg (a * p) (show w ≠ 0 by omega)
  have m' := Int.emod_lt_of_pos (a * p) (show 0 < w by omega)
  have n := Int.emod_nonneg (a * (w - p)) (show w ≠ 0 by omega)
  have n' := Int.emod_lt_of_pos (a * (w - p)) (show 0 < w by omega)
  generalize a * p % w = r at *
  generalize a * (w - p) % w = s at *
  generalize hx : a * p / w = x at *
  generalize hy : a * (w - p) / w = y at *
  have k : (a - x - y) * w = r + s := by
    rw [Int.sub_mul, Int.sub_mul, Int.mul_comm x w, Int.mul_comm y w]; omega
  constructor
  · apply Int.le_of_not_gt; intro c
    have := Int.mul_le_mul_of_nonneg_right (show a - x - y ≤ -1 by omega) (show 0 ≤ w by omega)
    omega
  · apply Int.le_of_not_gt; intro c
    have := Int.mul_le_mul_of_nonneg_right (show 2 ≤ a - x - y by omega) (show 0 ≤ w by omega)
    omega
theorem part_mono {a b p w : Int} (h : a ≤ b) (h1 : 0 ≤ p) (h3 : 1 ≤ w) : a * p / w ≤ b * p / w :=
  Int.ediv_le_ediv (by omega) (Int.mul_le_mul_of_nonneg_right h h1)
theorem all {a w : Int} (h3 : 1 ≤ w) : a * w / w = a := Int.mul_ediv_cancel _ (by omega)
end Dv

set_option maxHeartbeats 400000 in
theorem pright_yes (n : Int) (w : World) (h : -1125899906842624 ≤ n ∧ n ≤ 1125899906842624) :
    Calls Try.prog 81 #[.int .i64 n] w fun e w' => e = .returned (.bool true) ∧ w = w' := by
  obtain ⟨h0, h1⟩ := h
  go_enter Try.func81, Try.ntmps81
  go_wp2
  go_ret
  exact ⟨rfl, rfl⟩
set_option maxHeartbeats 400000 in
theorem pright_no (n : Int) (w : World) (h : n < -1125899906842624 ∨ 1125899906842624 < n) :
    Calls Try.prog 81 #[.int .i64 n] w fun e w' => e = .returned (.bool false) ∧ w = w' := by
  rcases h with h | h
  · have t : decide (-1125899906842624 ≤ n) = false := by simp; omega
    go_enter Try.func81, Try.ntmps81
    go_wp2
    go_ret
    exact ⟨rfl, rfl⟩
  · have t : decide (n ≤ 1125899906842624) = false := by simp; omega
    go_enter Try.func81, Try.ntmps81
    go_wp2
    go_ret
    exact ⟨rfl, rfl⟩

set_option maxHeartbeats 400000 in
theorem partable_yes (n : Int) (w : World) (h0 : 0 ≤ n) (h1 : n ≤ 1125899906842624) :
    Calls Try.prog 92 #[.int .i64 n] w fun e w' => e = .returned (.bool true) ∧ w = w' := by
  go_enter Try.func92, Try.ntmps92
  go_wp2_with (go_at_call 81; refine (pright_yes _ _ (by omega)).mono ?_; rintro e w' ⟨rfl, rfl⟩)
  go_ret
  exact ⟨rfl, rfl⟩
set_option maxHeartbeats 400000 in
theorem partable_no (n : Int) (w : World) (h : n < 0 ∨ 1125899906842624 < n) :
    Calls Try.prog 92 #[.int .i64 n] w fun e w' => e = .returned (.bool false) ∧ w = w' := by
  rcases h with h | h
  · have t : decide (0 ≤ n) = false := by simp; omega
    go_enter Try.func92, Try.ntmps92
    go_wp2
    go_ret
    exact ⟨rfl, rfl⟩
  · go_enter Try.func92, Try.ntmps92
    go_wp2_with (go_at_call 81; refine (pright_no _ _ (by omega)).mono ?_; rintro e w' ⟨rfl, rfl⟩)
    go_ret
    exact ⟨rfl, rfl⟩

set_option maxHeartbeats 1000000 in
theorem scaled_any (a p n : Int) (w : World) (h0 : 0 ≤ a) (h1 : a ≤ 1125899906842624) (g0 : 0 ≤ p) (g1 : p ≤ n) (n0 : 1 ≤ n) (n1 : n ≤ 9223372036854775807) :
    Calls Try.prog 93 #[.int .i64 a, .int .i64 p, .int .i64 n] w fun e w' => e = .returned (.int .i64 (a * p / n)) ∧ Below w.heap.size w w' := by
  obtain ⟨b0, b1⟩ := Dv.part_bd h0 g0 g1 n0
  obtain ⟨c0, c1, c2, c3, c4⟩ := Dv.words h0 h1 g0 g1 n0
  have C4 := Lib.hid c4
  clear c4
  go_enter Try.func93, Try.ntmps93
  go_wp2_with (go_at_call 97; refine (mul64_any a p _ h0 (by omega) g0 (by omega)).mono ?_; rintro e w' ⟨rfl, rfl⟩)
  refine (div64_any _ _ _ _ c2 c3 c0 c1 (by omega)).mono ?_
  rintro e w1 ⟨rfl, hb⟩
  rw [C4.out]
  go_wp2
  go_ret
  exact ⟨rfl, hb⟩

theorem part_money (a p n : Int) (w : World) (h : a < 0 ∨ 1125899906842624 < a) :
    Calls Try.prog 86 #[.int .i64 a, .int .i64 p, .int .i64 n] w fun e w' => e = .returned (.tuple #[.int .i64 0, .int .i64 9]) ∧ Below w.heap.size w w' := by
  go_enter Try.func86, Try.ntmps86
  go_wp2_with (go_at_call 92; refine (partable_no _ _ h).mono ?_; rintro e w' ⟨rfl, rfl⟩)
  go_ret2
  exact ⟨rfl, Below.refl _ _⟩
theorem part_arg (a p n : Int) (w : World) (h0 : 0 ≤ a) (h1 : a ≤ 1125899906842624) (h : n < 1 ∨ 1 ≤ n ∧ p < 0 ∨ 1 ≤ n ∧ 0 ≤ p ∧ n < p) :
    Calls Try.prog 86 #[.int .i64 a, .int .i64 p, .int .i64 n] w fun e w' => e = .returned (.tuple #[.int .i64 0, .int .i64 1]) ∧ Below w.heap.size w w' := by
  rcases h with h | ⟨h, g⟩ | ⟨h, g, k⟩
  · have t : decide (n < 1) = true := by simp; omega
    go_enter Try.func86, Try.ntmps86
    go_wp2_with (go_at_call 92; refine (partable_yes _ _ h0 h1).mono ?_; rintro e w' ⟨rfl, rfl⟩)
    go_ret2
    exact ⟨rfl, Below.refl _ _⟩
  · have t : decide (n < 1) = false := by simp; omega
    have t' : decide (p < 0) = true := by simp; omega
    go_enter Try.func86, Try.ntmps86
    go_wp2_with (go_at_call 92; refine (partable_yes _ _ h0 h1).mono ?_; rintro e w' ⟨rfl, rfl⟩)
    go_ret2
    exact ⟨rfl, Below.refl _ _⟩
  · have t : decide (n < 1) = false := by simp; omega
    have t' : decide (p < 0) = false := by simp; omega
    go_enter Try.func86, Try.ntmps86
    go_wp2_with (go_at_call 92; refine (partable_yes _ _ h0 h1).mono ?_; rintro e w' ⟨rfl, rfl⟩)
    go_ret2
    exact ⟨rfl, Below.refl _ _⟩
theorem part_yes (a p n : Int) (w : World) (h0 : 0 ≤ a) (h1 : a ≤ 1125899906842624) (g0 : 0 ≤ p) (g1 : p ≤ n) (n0 : 1 ≤ n) (n1 : n ≤ 9223372036854775807) :
    Calls Try.prog 86 #[.int .i64 a, .int .i64 p, .int .i64 n] w fun e w' => e = .returned (.tuple #[.int .i64 (a * p / n), .int .i64 0]) ∧ Below w.heap.size w w' := by
  have t : decide (n < 1) = false := by simp; omega
  have t' : decide (p < 0) = false := by simp; omega
  have t'' : decide (n < p) = false := by simp; omega
  go_enter Try.func86, Try.ntmps86
  go_wp2_with (go_at_call 92; refine (partable_yes _ _ h0 h1).mono ?_; rintro e w' ⟨rfl, rfl⟩)
  refine (scaled_any _ _ _ _ h0 h1 g0 g1 n0 n1).mono ?_
  rintro e w1 ⟨rfl, hb⟩
  go_wp2
  go_ret2
  exact ⟨rfl, hb⟩

theorem add_yes (a b : Int) (w : World) (ha : -1125899906842624 ≤ a ∧ a ≤ 1125899906842624) (hb : -1125899906842624 ≤ b ∧ b ≤ 1125899906842624) (hs : -1125899906842624 ≤ a + b ∧ a + b ≤ 1125899906842624) :
    Calls Try.prog 66 #[.int .i64 a, .int .i64 b] w fun e w' => e = .returned (.tuple #[.int .i64 (a + b), .int .i64 0]) ∧ w = w' := by
  go_enter Try.func66, Try.ntmps66
  go_wp2_with (go_at_call 81; refine (pright_yes _ _ (by omega)).mono ?_; rintro e w' ⟨rfl, rfl⟩)
  go_ret2
  exact ⟨rfl, rfl⟩
theorem add_no (a b : Int) (w : World) (h : (a < -1125899906842624 ∨ 1125899906842624 < a) ∨ (-1125899906842624 ≤ a ∧ a ≤ 1125899906842624) ∧ (b < -1125899906842624 ∨ 1125899906842624 < b) ∨
      (-1125899906842624 ≤ a ∧ a ≤ 1125899906842624) ∧ (-1125899906842624 ≤ b ∧ b ≤ 1125899906842624) ∧ (a + b < -1125899906842624 ∨ 1125899906842624 < a + b)) :
    Calls Try.prog 66 #[.int .i64 a, .int .i64 b] w fun e w' => e = .returned (.tuple #[.int .i64 0, .int .i64 9]) ∧ w = w' := by
  rcases h with h | ⟨h, g⟩ | ⟨h, g, k⟩
  all_goals
    go_enter Try.func66, Try.ntmps66
    go_wp2_with (go_at_call 81; (first | refine (pright_no _ _ (by omega)).mono ?_ | refine (pright_yes _ _ (by omega)).mono ?_); rintro e w' ⟨rfl, rfl⟩)
    go_ret2
    exact ⟨rfl, rfl⟩
theorem less_yes (a b : Int) (w : World) (ha : -1125899906842624 ≤ a ∧ a ≤ 1125899906842624) (hb : -1125899906842624 ≤ b ∧ b ≤ 1125899906842624) (hs : -1125899906842624 ≤ a - b ∧ a - b ≤ 1125899906842624) :
    Calls Try.prog 61 #[.int .i64 a, .int .i64 b] w fun e w' => e = .returned (.tuple #[.int .i64 (a - b), .int .i64 0]) ∧ w = w' := by
  go_enter Try.func61, Try.ntmps61
  go_wp2_with (go_at_call 81; refine (pright_yes _ _ (by omega)).mono ?_; rintro e w' ⟨rfl, rfl⟩)
  go_ret2
  exact ⟨rfl, rfl⟩
theorem less_no (a b : Int) (w : World) (h : (a < -1125899906842624 ∨ 1125899906842624 < a) ∨ (-1125899906842624 ≤ a ∧ a ≤ 1125899906842624) ∧ (b < -1125899906842624 ∨ 1125899906842624 < b) ∨
      (-1125899906842624 ≤ a ∧ a ≤ 1125899906842624) ∧ (-1125899906842624 ≤ b ∧ b ≤ 1125899906842624) ∧ (a - b < -1125899906842624 ∨ 1125899906842624 < a - b)) :
    Calls Try.prog 61 #[.int .i64 a, .int .i64 b] w fun e w' => e = .returned (.tuple #[.int .i64 0, .int .i64 9]) ∧ w = w' := by
  rcases h with h | ⟨h, g⟩ | ⟨h, g, k⟩
  all_goals
    go_enter Try.func61, Try.ntmps61
    go_wp2_with (go_at_call 81; (first | refine (pright_no _ _ (by omega)).mono ?_ | refine (pright_yes _ _ (by omega)).mono ?_); rintro e w' ⟨rfl, rfl⟩)
    go_ret2
    exact ⟨rfl, rfl⟩
end Go.Proofs.Ytcgglphphdpplaa
