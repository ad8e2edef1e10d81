/-
  A region that draws its order and makes one block: the ways meet in one frame. No conditions.
-/
import Derived.Test.YtlldkcelkgnalaaLiveO
import Derived.Test.YtlldkcelkgnalaaLaneT
import Derived.Test.YtlldkcelkgnalaaExec
namespace Go.Proofs.Ytlldkcelkgnalaa
open Go.ChangeShapes Go.WideShapes Go.ChangeAt Go.RowKit

theorem region_frame1 {P : Program} {c : Code} {Q : Exit → Act → World → Prop} {a : Act} {w : World} (Facts : Nat → World → Prop) (fr : Nat → Act)
    (h : c.wp P (fun e a' w' => e = .normal ∧ ∃ Z, a' = fr Z ∧ Facts Z w') a w) (hk : ∀ Z w', Facts Z w' → Q .normal (fr Z) w') : c.wp P Q a w :=
  wp_mono h (by rintro e a' w' ⟨rfl, Z, rfl, hf⟩; exact hk _ _ hf)
end Go.Proofs.Ytlldkcelkgnalaa
