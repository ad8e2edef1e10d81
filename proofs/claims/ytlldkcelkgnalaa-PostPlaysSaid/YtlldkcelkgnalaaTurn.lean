/-
  What a call that turns some blocks alone, and makes new ones, leaves. No conditions but those that each law names.
-/
import Derived.Test.YtlldkcelkgnalaaMem
namespace Go.Proofs.Ytlldkcelkgnalaa
set_option maxRecDepth 20000
open Go.ChangeShapes Go.WideShapes Go.ChangeAt Go.RowKit

/-- Nothing but F's blocks, and what is new, has turned. -/
structure Turn (F : Nat → Prop) (w w' : World) : Prop where
  os : w'.os = w.os
  tape : w'.tape = w.tape
  output : w'.output = w.output
  size : w.heap.size ≤ w'.heap.size
  block : ∀ i, i < w.heap.size → ¬ F i → w'.heap[i]? = w.heap[i]?
def grow (F : Nat → Prop) (w w' : World) : Nat → Prop := fun i => F i ∨ (w.heap.size ≤ i ∧ i < w'.heap.size)
theorem Turn.refl (F : Nat → Prop) (w : World) : Turn F w w := ⟨rfl, rfl, rfl, Nat.le_refl _, fun _ _ _ => rfl⟩
theorem Turn.trans {F F' : Nat → Prop} {w w1 w2 : World} (h : Turn F w w1) (k : Turn F' w1 w2) (hF : ∀ i, F' i → F i ∨ w.heap.size ≤ i) : Turn F w w2 :=
  ⟨k.os.trans h.os, k.tape.trans h.tape, k.output.trans h.output, Nat.le_trans h.size k.size, fun i hi hn => (k.block i (Nat.lt_of_lt_of_le hi h.size) fun hf => by
    rcases hF i hf with h' | h'
    · exact hn h'
    · omega).trans (h.block i hi hn)⟩
theorem Turn.next {F : Nat → Prop} {w w1 w2 : World} (h : Turn F w w1) (k : Turn (grow F w w1) w1 w2) : Turn F w w2 := h.trans k fun i hi => by
  rcases hi with h' | h'
  · exact .inl h'
  · exact .inr h'.1
theorem Turn.of_below {F : Nat → Prop} {w w' : World} (h : Below w.heap.size w w') : Turn F w w' := ⟨h.os, h.tape, h.output, h.size, fun i hi _ => h.block i hi⟩
theorem Turn.below {F : Nat → Prop} {w w' : World} (h : Turn F w w') {B : Nat} (hF : ∀ i, F i → B ≤ i) (hB : B ≤ w.heap.size) : Below B w w' :=
  ⟨h.os, h.tape, h.output, h.size, fun i hi => h.block i (by omega) fun hf => by have := hF i hf; omega⟩
theorem Turn.grown {F : Nat → Prop} {w w' : World} {row : Option Nat} (h : w.grownBy w' row) (hF : ∀ i, row = some i → F i) : Turn F w w' :=
  ⟨h.os, h.tape, h.output, h.size, fun i hi hn => h.block i hi fun e => hn (hF i e.symm)⟩
theorem Turn.drewN {F : Nat → Prop} {w w' : World} (h : Turn F w w') (n : Nat) : Turn F w (w'.drewN n) := ⟨h.os, h.tape, h.output, h.size, h.block⟩
theorem grow_same {F : Nat → Prop} {w w' : World} (h : w'.heap.size = w.heap.size) : grow F w w' = F := by
  funext i
  apply propext
  exact ⟨fun hi => by rcases hi with h' | h'; exact h'; omega, .inl⟩
theorem grow_grow {F : Nat → Prop} {w w1 w2 : World} (h1 : w.heap.size ≤ w1.heap.size) (h2 : w1.heap.size ≤ w2.heap.size) : grow (grow F w w1) w1 w2 = grow F w w2 := by
  funext i
  apply propext
  unfold grow
  constructor
  · rintro ((h | h) | h)
    · exact .inl h
    · exact .inr (by omega)
    · exact .inr (by omega)
  · rintro (h | h)
    · exact .inl (.inl h)
    · by_cases hi : i < w1.heap.size
      · exact .inl (.inr (by omega))
      · exact .inr (by omega)

end Go.Proofs.Ytlldkcelkgnalaa
