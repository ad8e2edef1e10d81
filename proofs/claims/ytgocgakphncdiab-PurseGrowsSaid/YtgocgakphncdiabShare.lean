/-
  Contracts of the function that shares an amount in two, and of the statements' own example. No conditions but the numbers' own ranges.
-/
import Derived.Test.YtgocgakphncdiabPurse
namespace Go.Proofs.Ytgocgakphncdiab
open Go.ChangeShapes Go.WideShapes Go.ChangeAt Go.RowKit

theorem ret_four {a b c d e f g h : Int} (h1 : a = e) (h2 : b = f) (h3 : c = g) (h4 : d = h) : Ending.returned (.tuple #[.int .i64 a, .int .i64 b, .int .i64 c, .int .i64 d]) = .returned (.tuple #[.int .i64 e, .int .i64 f, .int .i64 g, .int .i64 h]) := by rw [h1, h2, h3, h4]

set_option maxHeartbeats 400000 in
theorem share_money (a p n : Int) (w : World) (h : a < 0 ∨ 1125899906842624 < a) :
    Calls Try.prog 11 #[.int .i64 a, .int .i64 p, .int .i64 n] w fun e w' => e = .returned (.tuple #[.int .i64 0, .int .i64 0, .int .i64 0, .int .i64 9]) ∧ Below w.heap.size w w' := by
  go_enter Try.func11, Try.ntmps11
  go_wp2_with (fail)
  refine (part_money _ _ _ _ h).mono ?_
  rintro e w1 ⟨rfl, hb⟩
  go_wp2
  exact bodyPost_ret (v := .tuple #[.int .i64 0, .int .i64 0, .int .i64 0, .int .i64 9]) (by simp [results, Try.results11, go_sem]) rfl ⟨rfl, hb⟩
set_option maxHeartbeats 400000 in
theorem share_arg (a p n : Int) (w : World) (h0 : 0 ≤ a) (h1 : a ≤ 1125899906842624) (h : n < 1 ∨ 1 ≤ n ∧ p < 0 ∨ 1 ≤ n ∧ 0 ≤ p ∧ n < p) :
    Calls Try.prog 11 #[.int .i64 a, .int .i64 p, .int .i64 n] w fun e w' => e = .returned (.tuple #[.int .i64 0, .int .i64 0, .int .i64 0, .int .i64 1]) ∧ Below w.heap.size w w' := by
  go_enter Try.func11, Try.ntmps11
  go_wp2_with (fail)
  refine (part_arg _ _ _ _ h0 h1 h).mono ?_
  rintro e w1 ⟨rfl, hb⟩
  go_wp2
  exact bodyPost_ret (v := .tuple #[.int .i64 0, .int .i64 0, .int .i64 0, .int .i64 1]) (by simp [results, Try.results11, go_sem]) rfl ⟨rfl, hb⟩
set_option maxHeartbeats 1000000 in
theorem share_yes (a p n : Int) (w : World) (h0 : 0 ≤ a) (h1 : a ≤ 1125899906842624) (g0 : 0 ≤ p) (g1 : p ≤ n) (n0 : 1 ≤ n) (n1 : n ≤ 9223372036854775807) :
    Calls Try.prog 11 #[.int .i64 a, .int .i64 p, .int .i64 n] w fun e w' => e = .returned (.tuple #[.int .i64 (a * p / n), .int .i64 (a * (n - p) / n), .int .i64 (a - a * p / n - a * (n - p) / n), .int .i64 0]) ∧ Below w.heap.size w w' := by
  obtain ⟨b0, b1⟩ := Dv.part_bd h0 g0 g1 n0
  obtain ⟨c0, c1⟩ := Dv.part_bd h0 (show 0 ≤ n - p by omega) (show n - p ≤ n by omega) n0
  go_enter Try.func11, Try.ntmps11
  go_wp2_with (fail)
  refine (part_yes _ _ _ _ h0 h1 g0 g1 n0 n1).mono ?_
  rintro e w1 ⟨rfl, hb⟩
  go_wp2_with (fail)
  refine (scaled_any _ (n - p) _ _ h0 h1 (by omega) (by omega) n0 n1).mono ?_
  rintro e w2 ⟨rfl, hb2⟩
  generalize hx : a * p / n = x at *
  generalize hy : a * (n - p) / n = y at *
  have HX := Lib.hid hx
  have HY := Lib.hid hy
  clear hx hy
  go_wp2
  exact bodyPost_ret (v := .tuple #[.int .i64 x, .int .i64 y, .int .i64 (a - x - y), .int .i64 0]) (by simp [results, Try.results11, go_sem]) rfl ⟨ret_four HX.out.symm HY.out.symm (by rw [HX.out, HY.out]) rfl, hb.trans (hb2.mono hb.size)⟩

set_option maxHeartbeats 400000 in
theorem pawake_any (w : World) : Calls Try.prog 6 #[] w fun e w' => e = .returned (.bool true) ∧ Below w.heap.size w w' := by
  go_enter Try.func6, Try.ntmps6
  go_wp2_with fail
  refine (share_yes 100 1 3 _ (by omega) (by omega) (by omega) (by omega) (by omega) (by omega)).mono ?_
  rintro e w1 ⟨rfl, hb⟩
  go_wp2
  go_ret
  exact ⟨rfl, hb⟩
end Go.Proofs.Ytgocgakphncdiab
