/-
  A plan, by its fields. No conditions.
-/
import Derived.Test.YtcgglphphdpplaaProg
namespace Go.Proofs.Ytcgglphphdpplaa

/-- A plan, by its fields. -/
structure Pv where
  a : Int
  u : Int
  e : Int
  t : Int
  g : Bool
  l : Bool
def Pv.cs (p : Pv) : List Value := [.int .i64 p.a, .int .u8 p.u, .int .i64 p.e, .int .i64 p.t, .bool p.g, .bool p.l]
/-- A plan as it may come in. -/
def Pv.Wf (p : Pv) : Prop := (-9223372036854775808 ≤ p.a ∧ p.a ≤ 9223372036854775807) ∧ (0 ≤ p.u ∧ p.u < 256) ∧ (-9223372036854775808 ≤ p.e ∧ p.e ≤ 9223372036854775807) ∧ (-9223372036854775808 ≤ p.t ∧ p.t ≤ 9223372036854775807)
end Go.Proofs.Ytcgglphphdpplaa
