/-
  A class of worlds for regions that draw their order: all that are, below the next block, as a given world is. A region whose operations read old memory only, and whose callees only make new blocks, is walked once, in the text's order. No conditions.
-/
import Derived.WalkKit
import Derived.ProofKit
import Derived.OpenShut
import Derived.Handy
import Derived.Lib.Hide
import Derived.Deep.QuietTactic
import Derived.BigQuiet
namespace Go.Proofs.Ytlldkcelkgnalaa
open Go.ChangeShapes Go.WideShapes Go.ChangeAt Go.RowKit

theorem bcell {W w1 : World} (hb : Below W.heap.size W w1) : (∀ b o, b < W.heap.size → w1.cell? ⟨b, o, none⟩ = W.cell? ⟨b, o, none⟩) ∧ (∀ b o, b < W.heap.size → w1.frozen? ⟨b, o, none⟩ = W.frozen? ⟨b, o, none⟩) :=
  ⟨fun b o h => hb.cell (p := ⟨b, o, none⟩) h, fun b o h => hb.frozen (p := ⟨b, o, none⟩) h⟩

theorem Below.drewN' {B : Nat} {w w' : World} (h : Below B w w') (n : Nat) : Below B w (w'.drewN n) := ⟨h.os, h.tape, h.output, h.size, h.block⟩

/-- The worlds that are as W was below W's next block. -/
def Later (W : World) : Type := { w' : World // Below W.heap.size W w' }
instance laterNonempty (W : World) : Nonempty (Later W) := ⟨⟨W, Below.refl _ _⟩⟩
def over (W : World) (x : Later W) : World := x.1
theorem over_below (W : World) (x : Later W) : Below W.heap.size W (over W x) := x.2
theorem over_cell (W : World) (x : Later W) (b o : Nat) (h : b < W.heap.size) : (over W x).cell? ⟨b, o, none⟩ = W.cell? ⟨b, o, none⟩ := Below.cell (p := ⟨b, o, none⟩) x.2 h
theorem over_frozen (W : World) (x : Later W) (b o : Nat) (h : b < W.heap.size) : (over W x).frozen? ⟨b, o, none⟩ = W.frozen? ⟨b, o, none⟩ := Below.frozen (p := ⟨b, o, none⟩) x.2 h
attribute [simp, go_sem] over_cell over_frozen

/-- A region that draws its order, in the class of the worlds that are as this one was below its next block. -/
theorem region_over {P : Program} {id : Nat} {Q : Exit → Act → World → Prop} {a : Act} {w : World} {l : List Oper} (hm : P.follows .mixedOrders = true) (hB : Region.lexB .any l.toArray = true)
    (h : wpQuiet P l.toArray (fun w' => ∃ x, w' = over w x) (fun a' => ∀ w', (∃ x, w' = over w x) → Q .normal a' w') l a) : (Code.region id l.toArray true).wp P Q a w :=
  wp_region_quiet (C := fun w' => ∃ x, w' = over w x) hm hB ⟨⟨w.drew, (Below.refl _ _).drew⟩, rfl⟩ (by simpa using h)

/-- A callee that makes new blocks alone. -/
theorem over_call {P : Program} {f : FuncId} {args : Array Value} {w : World} {x : Later w} {v : Value}
    (h : Calls P f args (over w x) fun e w' => e = .returned v ∧ Below (over w x).heap.size (over w x) w') : Calls P f args (over w x) fun e w' => e = .returned v ∧ ∃ y, w' = over w y :=
  h.mono fun _ w' ⟨he, hb⟩ => ⟨he, ⟨w', x.2.trans (hb.mono x.2.size)⟩, rfl⟩
/-- A callee that leaves the world alone. -/
theorem over_same {P : Program} {f : FuncId} {args : Array Value} {w : World} {x : Later w} {v : Value}
    (h : Calls P f args (over w x) fun e w' => e = .returned v ∧ over w x = w') : Calls P f args (over w x) fun e w' => e = .returned v ∧ ∃ y, w' = over w y :=
  h.mono fun _ _ ⟨he, hb⟩ => ⟨he, x, hb.symm⟩

theorem ret_int {k : IntKind} {a b : Int} (h : a = b) : Ending.returned (.int k a) = .returned (.int k b) := by rw [h]
theorem ret_bool {a b : Bool} (h : a = b) : Ending.returned (.bool a) = .returned (.bool b) := by rw [h]
end Go.Proofs.Ytlldkcelkgnalaa
