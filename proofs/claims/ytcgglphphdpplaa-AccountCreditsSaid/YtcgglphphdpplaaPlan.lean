/-
  Contracts of package plan's Right and Change, of the law's own look at what may be, and of the law's plan that may be. No conditions.
-/
import Derived.Test.YtcgglphphdpplaaPurse
import Derived.Test.YtcgglphphdpplaaPlRight
import Derived.Lib.Hide
namespace Go.Proofs.Ytcgglphphdpplaa
set_option maxRecDepth 20000
open Go.ChangeShapes Go.WideShapes Go.ChangeAt Go.RowKit


theorem ret_plan {a a' u u' e e' t t' : Int} {g l : Bool} (h1 : a = a') (h2 : u = u') (h3 : e = e') (h4 : t = t') : Ending.returned (.agg #[.int .i64 a, .int .u8 u, .int .i64 e, .int .i64 t, .bool g, .bool l]) = .returned (.agg #[.int .i64 a', .int .u8 u', .int .i64 e', .int .i64 t', .bool g, .bool l]) := by rw [h1, h2, h3, h4]


/-- Change: both parts. -/
theorem change_yes (a b p n u e t u' e' t' : Int) (g l g' l' : Bool) (w : World) (ha : 0 ≤ a) (ha1 : a ≤ 1125899906842624) (hb : 0 ≤ b) (hb1 : b ≤ 1125899906842624) (g0 : 0 ≤ p) (g1 : p ≤ n) (n0 : 1 ≤ n) (n1 : n ≤ 9223372036854775807) :
    Calls Try.prog 65 #[.agg #[.int .i64 a, .int .u8 u, .int .i64 e, .int .i64 t, .bool g, .bool l], .agg #[.int .i64 b, .int .u8 u', .int .i64 e', .int .i64 t', .bool g', .bool l'], .int .i64 p, .int .i64 n] w
      fun x w' => x = .returned (.tuple #[.int .i64 (a * p / n), .int .i64 (b * p / n), .int .i64 0]) ∧ Below w.heap.size w w' := by
  go_enter Try.func65, Try.ntmps65
  go_wp2_with (fail)
  refine (part_yes _ _ _ _ ha ha1 g0 g1 n0 n1).mono ?_
  rintro x w1 ⟨rfl, hb1'⟩
  obtain ⟨hw, z0, z1, e1⟩ := two_of hb1'
  rw [e1]
  have HW := Lib.hid hw
  clear hw e1 hb1'
  go_wp2_with (fail)
  refine (part_yes _ _ _ _ hb hb1 g0 g1 n0 n1).mono ?_
  rintro x w2 ⟨rfl, hb2⟩
  have hw2 := (two_again HW.out z1 hb2).1
  clear hb2
  go_wp2
  go_ret3
  exact ⟨rfl, hw2⟩
theorem change_arg (a b p n u e t u' e' t' : Int) (g l g' l' : Bool) (w : World) (ha : 0 ≤ a) (ha1 : a ≤ 1125899906842624) (h : n < 1 ∨ 1 ≤ n ∧ p < 0 ∨ 1 ≤ n ∧ 0 ≤ p ∧ n < p) :
    Calls Try.prog 65 #[.agg #[.int .i64 a, .int .u8 u, .int .i64 e, .int .i64 t, .bool g, .bool l], .agg #[.int .i64 b, .int .u8 u', .int .i64 e', .int .i64 t', .bool g', .bool l'], .int .i64 p, .int .i64 n] w
      fun x w' => x = .returned (.tuple #[.int .i64 0, .int .i64 0, .int .i64 1]) ∧ Below w.heap.size w w' := by
  have H := Lib.hid h
  clear h
  go_enter Try.func65, Try.ntmps65
  go_wp2_with (fail)
  refine (part_arg _ _ _ _ ha ha1 H.out).mono ?_
  rintro x w1 ⟨rfl, hb1'⟩
  have hw := (two_of hb1').1
  clear hb1'
  go_wp2
  go_ret3
  exact ⟨rfl, hw⟩

end Go.Proofs.Ytcgglphphdpplaa
