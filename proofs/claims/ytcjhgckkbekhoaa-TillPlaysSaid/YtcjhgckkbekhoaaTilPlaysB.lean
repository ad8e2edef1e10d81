/-
  The walk of the law TillPlays, of any number of acts. No conditions.
-/
import Derived.Test.YtcjhgckkbekhoaaTilPlaysWalk
namespace Go.Proofs.Ytcjhgckkbekhoaa
open Go.ChangeShapes Go.WideShapes Go.ChangeAt Go.RowKit

theorem tillPlays_walk {w : World} (A : Option Addr) (c : Nat) (l : List At6) (hr : RdAt6 w w.heap.size A l) (hw : ∀ p ∈ l, p.Wf) : Calls Try.prog 3 #[.slice A l.length c] w fun e w' => e = .returned (.bool true) ∧ Below w.heap.size w w' := by
  by_cases h : l.length ≤ 60
  · exact tillPlays_in A _ c l hr hw rfl h
  · exact tillPlays_far A _ c (by omega)
end Go.Proofs.Ytcjhgckkbekhoaa
