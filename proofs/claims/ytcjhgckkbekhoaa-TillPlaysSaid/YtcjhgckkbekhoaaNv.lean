/-
  A notice, by its fields. No conditions.
-/
import Derived.Test.YtcjhgckkbekhoaaProg
namespace Go.Proofs.Ytcjhgckkbekhoaa

/-- A notice, by its fields. -/
structure Nv where
  k : Int
  s : Int
  c : Int
  t : Int
  a : Int
  v : Int
def Nv.cs (n : Nv) : List Value := [.int .u8 n.k, .int .i64 n.s, .int .i64 n.c, .int .i64 n.t, .int .i64 n.a, .int .u8 n.v]
def Nv.val (n : Nv) : Value := .agg #[.int .u8 n.k, .int .i64 n.s, .int .i64 n.c, .int .i64 n.t, .int .i64 n.a, .int .u8 n.v]
/-- A notice as it may come in. -/
def Nv.Wf (n : Nv) : Prop := (0 ≤ n.k ∧ n.k < 256) ∧ (-9223372036854775808 ≤ n.s ∧ n.s ≤ 9223372036854775807) ∧ (-9223372036854775808 ≤ n.c ∧ n.c ≤ 9223372036854775807) ∧ (-9223372036854775808 ≤ n.t ∧ n.t ≤ 9223372036854775807) ∧ (-9223372036854775808 ≤ n.a ∧ n.a ≤ 9223372036854775807) ∧ (0 ≤ n.v ∧ n.v < 256)
def Nv.zero : Nv := ⟨0, 0, 0, 0, 0, 0⟩
instance nvEq (x y : Nv) : Decidable (x = y) := decidable_of_iff (x.k = y.k ∧ x.s = y.s ∧ x.c = y.c ∧ x.t = y.t ∧ x.a = y.a ∧ x.v = y.v) (by cases x; cases y; simp)
end Go.Proofs.Ytcjhgckkbekhoaa
