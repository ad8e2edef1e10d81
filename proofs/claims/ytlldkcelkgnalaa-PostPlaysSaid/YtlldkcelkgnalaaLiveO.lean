/-
  A thing in a walk: its blocks lie behind an old world, and apart from others (N); each call leaves it so. No conditions.
-/
import Derived.Test.YtlldkcelkgnalaaTurn
namespace Go.Proofs.Ytlldkcelkgnalaa
open Go.ChangeShapes Go.WideShapes Go.ChangeAt Go.RowKit

/-- What is said of a thing and its blocks stays where these do. -/
structure Thing (Ob : World → (Nat → Prop) → Prop) : Prop where
  kept : ∀ {w w' : World} {F : Nat → Prop}, Ob w F → (∀ i, F i → w'.heap[i]? = w.heap[i]?) → w.heap.size ≤ w'.heap.size → Ob w' F
  lt : ∀ {w : World} {F : Nat → Prop} {i : Nat}, Ob w F → F i → i < w.heap.size
def LiveO (Ob : World → (Nat → Prop) → Prop) (w0 : World) (N : Nat → Prop) (w : World) : Prop :=
  ∃ F, Ob w F ∧ (∀ i, F i → w0.heap.size ≤ i ∧ ¬ N i) ∧ Below w0.heap.size w0 w
/-- What a call leaves. -/
structure KeptO (w0 : World) (N : Nat → Prop) (w w' : World) : Prop where
  size : w.heap.size ≤ w'.heap.size
  block : ∀ i, N i → w'.heap[i]? = w.heap[i]?
  old : ∀ i, i < w0.heap.size → w'.heap[i]? = w.heap[i]?
/-- What a call on a thing says. -/
def PostO (w : World) (F : Nat → Prop) (Ob : World → (Nat → Prop) → Prop) (w' : World) : Prop := Ob w' (grow F w w') ∧ Turn F w w'

section
variable {Ob Ob' : World → (Nat → Prop) → Prop} {w0 : World} {N : Nat → Prop} {w w' : World}
theorem LiveO.old (h : LiveO Ob w0 N w) : Below w0.heap.size w0 w := by obtain ⟨F, _, _, h⟩ := h; exact h
theorem LiveO.imp (h : LiveO Ob w0 N w) (hi : ∀ F, Ob w F → Ob' w F) : LiveO Ob' w0 N w := by obtain ⟨F, h, h2⟩ := h; exact ⟨F, hi F h, h2⟩
theorem LiveO.below (T : Thing Ob) (h : LiveO Ob w0 N w) (hb : Below w.heap.size w w') : LiveO Ob w0 N w' := by
  obtain ⟨F, h, h2, h3⟩ := h
  exact ⟨F, T.kept h (fun i hi => hb.block i (T.lt h hi)) hb.size, h2, h3.trans (hb.mono h3.size)⟩
/-- Other blocks too are apart from it: those that are new. -/
theorem LiveO.more (T : Thing Ob) (h : LiveO Ob w0 N w) (hb : Below w.heap.size w w') : LiveO Ob w0 (fun i => N i ∨ (w.heap.size ≤ i ∧ i < w'.heap.size)) w' := by
  obtain ⟨F, h, h2, h3⟩ := h
  refine ⟨F, T.kept h (fun i hi => hb.block i (T.lt h hi)) hb.size, fun i hi => ⟨(h2 i hi).1, ?_⟩, h3.trans (hb.mono h3.size)⟩
  rintro (h' | h')
  · exact (h2 i hi).2 h'
  · have := T.lt h hi; omega
theorem LiveO.less {N' : Nat → Prop} (h : LiveO Ob w0 N w) (hN : ∀ i, N' i → N i) : LiveO Ob w0 N' w := by
  obtain ⟨F, h, h2, h3⟩ := h
  exact ⟨F, h, fun i hi => ⟨(h2 i hi).1, fun hn => (h2 i hi).2 (hN i hn)⟩, h3⟩
/-- Other blocks may be written. -/
theorem LiveO.turned (T : Thing Ob) (h : LiveO Ob w0 N w) (hs : w.heap.size ≤ w'.heap.size) (hk : ∀ i, ¬ N i → w'.heap[i]? = w.heap[i]?) (hb : Below w0.heap.size w0 w') : LiveO Ob w0 N w' := by
  obtain ⟨F, h, h2, h3⟩ := h
  exact ⟨F, T.kept h (fun i hi => hk i (h2 i hi).2) hs, h2, hb⟩
theorem LiveO.post {F : Nat → Prop} (hN : ∀ i, N i → i < w.heap.size) (h2 : ∀ i, F i → w0.heap.size ≤ i ∧ ¬ N i) (h3 : Below w0.heap.size w0 w) (hp : PostO w F Ob' w') : LiveO Ob' w0 N w' ∧ KeptO w0 N w w' := by
  obtain ⟨h5, h6⟩ := hp
  have hs := h3.size
  refine ⟨⟨_, h5, fun i hi => ?_, h3.trans (h6.below (fun i hi => (h2 i hi).1) hs)⟩, h6.size, fun i hi => h6.block i (hN i hi) fun hf => (h2 i hf).2 hi, fun i hi => h6.block i (by omega) fun hf => by have := (h2 i hf).1; omega⟩
  rcases hi with h' | h'
  · exact h2 i h'
  · exact ⟨by omega, fun hn => by have := hN i hn; omega⟩
/-- Two things at once, the second one apart from the first. -/
theorem LiveO.made {w1 : World} (T : Thing Ob) (h : LiveO Ob w0 N w) (hb : Below w.heap.size w w1) (F : Nat → Prop) (hF : ∀ i, F i → w.heap.size ≤ i) : LiveO Ob w0 (fun i => N i ∨ F i) w1 := by
  obtain ⟨F1, h, h2, h3⟩ := h
  refine ⟨F1, T.kept h (fun i hi => hb.block i (T.lt h hi)) hb.size, fun i hi => ⟨(h2 i hi).1, ?_⟩, h3.trans (hb.mono h3.size)⟩
  rintro (h' | h')
  · exact (h2 i hi).2 h'
  · have := T.lt h hi; have := hF i h'; omega
/-- Other blocks may be written, and made: those are apart, too. -/
theorem LiveO.grown (T : Thing Ob) (h : LiveO Ob w0 N w) (hs : w.heap.size ≤ w'.heap.size) (hk : ∀ i, i < w.heap.size → ¬ N i → w'.heap[i]? = w.heap[i]?) (hb : Below w0.heap.size w0 w') : LiveO Ob w0 (fun i => N i ∨ w.heap.size ≤ i) w' := by
  obtain ⟨F, h, h2, h3⟩ := h
  refine ⟨F, T.kept h (fun i hi => hk i (T.lt h hi) (h2 i hi).2) hs, fun i hi => ⟨(h2 i hi).1, ?_⟩, hb⟩
  rintro (h' | h')
  · exact (h2 i hi).2 h'
  · have := T.lt h hi; omega
theorem LiveO.drew (T : Thing Ob) (h : LiveO Ob w0 N w) : LiveO Ob w0 N w.drew := h.below T (Below.drew (Below.refl _ _))
/-- A block is made that is apart. -/
theorem LiveO.alloc (T : Thing Ob) (h : LiveO Ob w0 N w) (o : Obj) : LiveO Ob w0 (fun i => N i ∨ i = w.heap.size) (w.alloc o) :=
  (h.more T ((Below.refl _ _).alloc (Nat.le_refl _) o)).less fun i hi => by
    rcases hi with h' | h'
    · exact .inl h'
    · exact .inr ⟨by omega, by rw [World.size_alloc]; omega⟩
/-- A block that is apart is written. -/
theorem LiveO.boxed (T : Thing Ob) (h : LiveO Ob w0 N w) {g : Nat} {cs : Array Value} {t : TypeId} (hg : N g) (h0 : w0.heap.size ≤ g) : LiveO Ob w0 N (boxed w g cs t) :=
  h.turned T (by rw [boxed_size]; exact Nat.le_refl _) (fun i hi => boxed_block_other fun e => hi (e ▸ hg)) (boxed_below h.old h0)
theorem LiveO.setCell (T : Thing Ob) (h : LiveO Ob w0 N w) {p : Addr} {v : Value} (hg : N p.block) (h0 : w0.heap.size ≤ p.block) : LiveO Ob w0 N (w.setCell p v) :=
  h.turned T (by simp [World.setCell]) (fun i hi => Below.heap_setCell w p v i fun e => hi (e ▸ hg)) (h.old.setCell h0 v)
/-- Where it begins: a thing that was just made. -/
theorem LiveO.new {F : Nat → Prop} (h : Ob w' F) (hF : ∀ i, F i → w.heap.size ≤ i) (hb : Below w.heap.size w w') : LiveO Ob w (fun _ => False) w' := ⟨F, h, fun i hi => ⟨hF i hi, fun h => h⟩, hb⟩
theorem KeptO.at_ (h : KeptO w0 N w w') {i : Nat} {o : Obj} (hi : N i) (hw : w.heap[i]? = some o) : w'.heap[i]? = some o := (h.block i hi).trans hw
theorem KeptO.old_at (h : KeptO w0 N w w') {i : Nat} {o : Obj} (hi : i < w0.heap.size) (hw : w.heap[i]? = some o) : w'.heap[i]? = some o := (h.old i hi).trans hw
end
end Go.Proofs.Ytlldkcelkgnalaa
