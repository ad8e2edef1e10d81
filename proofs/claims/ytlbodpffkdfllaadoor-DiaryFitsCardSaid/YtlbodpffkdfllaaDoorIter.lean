/-
  A range over a function, walked at the fence that asks nothing, where each round goes on: the caller's word J between two rounds, with the loop's record and the block for deferred calls at their places. No conditions.
-/
import Derived.RangeFuncBox
import Derived.RangeFuncLeaves
import Derived.RangeFuncCalls
import Derived.RangeFuncBound
import Derived.Shelf.Abstract
import Derived.WalkKit
import Derived.OwnWalkIn
import Derived.TacticsInMore
import Derived.LoopNIn
import Derived.LoopIn
import Derived.Test.YtlbodpffkdfllaaDoorRows
namespace Go.Proofs.YtlbodpffkdfllaaDoor
open Go.RowKit Go.Shelf

/-- An iterator at hand: called with yield it hands over xs, one by one, whatever R is that each round carries on. -/
def Gives {α : Type} (P : Program) (l gf : Nat) (lb : Array Value) (encs : α → Array Value) (xs : List α) (J : List α → World → Prop) : Prop :=
  ∀ (R : List α → World → Prop), (∀ pre W, R pre W → J pre W) → (∀ pre W, R pre W → R pre W.drew) →
    (∀ pre x W, R pre W → pre ++ [x] <+: xs → YieldAt Fence.wide 0 P l (encs x) W fun e W' => e = .returned (.bool true) ∧ R (pre ++ [x]) W') →
    ∀ W1, R [] W1 → CallsIn Fence.wide 0 P gf (#[.func (.yield l) #[] #[]] ++ lb) W1 fun e W' => (∃ v, e = .returned v) ∧ R xs W'

/-- How a round ends: it goes on, J holds, and the loop's own blocks lie as they lay. -/
structure RoundEnd {α : Type} (J : List α → World → Prop) (xs : List α) (D : Nat) (W : World) (e : Exit) (W' : World) : Prop where
  norm : e = .normal
  goes : J xs W'
  kept : ∀ i, i = D + 1 ∨ i = D → ∀ o, W.heap[i]? = some o → o.isCells = false → W'.heap[i]? = some o

theorem range_over {α : Type} {P : Program} {g : Operand} {ps : Array Tmp} {assign body : Code} {Q : Exit → Act → World → Prop} {a : Act} {w : World}
    {gf : Nat} {lb : Array Value} (hg : a.eval g = .func (.func gf) #[] lb) (eg : ∀ args w, (callFunc gf args).run P w = .ok (.enter gf args) w)
    (encs : α → Array Value) (hps : ∀ x, (encs x).size = ps.size) (xs : List α) (J : List α → World → Prop)
    (hJp : ∀ pre W o o', J pre W → W.heap[w.heap.size + 1]? = some o' → o'.isCells = false → J pre (W.putObj (w.heap.size + 1) o)) (hJd : ∀ pre W, J pre W → J pre W.drew)
    (h0 : ∀ o, J [] ((w.alloc (.deferred (some []))).alloc o))
    (hiter : Gives P (w.heap.size + 1) gf lb encs xs J)
    (a₁ : α → Act)
    (hassign : ∀ (x : α) (W : World) (K : Act → World → Prop), K (a₁ x) W →
      assign.wpIn (Fence.wide.inRound (w.heap.size + 1)) 0 P (Exit.then K (fun _ _ _ => False)) { tmps := (ps.zip (encs x)).foldl (fun t (p, v) => t.setIfInBounds p v) a.tmps, defers := [] } W)
    (hbody : ∀ (pre : List α) (x : α) (W : World), J pre W → pre ++ [x] <+: xs → w.heap.size + 1 < W.heap.size →
      body.wpIn (Fence.wide.inRound (w.heap.size + 1)) 0 P (fun e _ W' => RoundEnd J (pre ++ [x]) w.heap.size W e W') (a₁ x) W)
    (hdone : ∀ W, J xs W → W.heap[w.heap.size]? = some (.deferred (some [])) → Q .normal { a with defers := { target := .collected w.heap.size, args := #[] } :: a.defers } W) :
    (Code.rangeFunc g ps assign body).wpIn Fence.wide 0 P Q a w := by
  refine wpIn_rangeFunc ?_
  intro fn hfn
  generalize hD : w.heap.size = D at *
  let rec_ : LoopState → Option Code → Loop := fun st pe => { state := st, pending := pe, fn, tmps := a.tmps, params := ps, assign, body, defers := D }
  refine ⟨D + 1, [{ target := .collected D, args := #[] }], (w.alloc (.deferred (some []))).alloc (.loop (rec_ .ready none)), { target := .fn (.func gf) lb, args := #[.func (.yield (D + 1)) #[] #[]] }, (w.alloc (.deferred (some []))).alloc (.loop (rec_ .ready none)), gf,
    #[.func (.yield (D + 1)) #[] #[]] ++ lb, (w.alloc (.deferred (some []))).alloc (.loop (rec_ .ready none)), ?_, ?_, fun _ _ => trivial, ?_, fun h => by simp [Fence.wide] at h, ?_⟩
  · have := run_enterLoop_outer (P := P) (w := w) fn a.tmps ps assign body
    rw [hD] at this
    exact this
  · simp only [resolve, hg]
    simp [go_sem]
  · simp [invoke, go_sem, eg]
  · have hL1 : ((w.alloc (.deferred (some []))).alloc (.loop (rec_ .ready none))).heap[D + 1]? = some (.loop (rec_ .ready none)) := by
      have := World.alloc_heap_new (w.alloc (.deferred (some []))) (.loop (rec_ .ready none)); rwa [World.size_alloc, hD] at this
    have hK1 : ((w.alloc (.deferred (some []))).alloc (.loop (rec_ .ready none))).heap[D]? = some (.deferred (some [])) := by
      have := World.alloc_heap_new w (.deferred (some []))
      rw [hD] at this
      exact (Below.heap_alloc _ _ _ (by simp [hD])).trans this
    refine (hiter (fun pre W => J pre W ∧ W.heap[D + 1]? = some (.loop (rec_ .ready none)) ∧ W.heap[D]? = some (.deferred (some []))) (fun _ _ h => h.1) (fun pre W h => ⟨hJd pre W h.1, h.2⟩) ?_ _ ⟨h0 _, hL1, hK1⟩).mono ?_
    · rintro pre x W ⟨hi, hl, hk⟩ hpre
      have hlt : D + 1 < W.heap.size := (Array.getElem?_eq_some_iff.1 hl).1
      have hy := run_yield (P := P) (args := encs x) hl (hps x)
      refine ⟨fn, _, assign, body, hy, roundIn_of_wpIn hfn (hassign x W _ ⟨_, run_beginRound hl rfl, ?_⟩)⟩
      have hl2 : (W.putObj (D + 1) (.loop { rec_ .ready none with state := .busy })).heap[D + 1]? = some (.loop { rec_ .ready none with state := .busy }) := World.putObj_heap_same hlt
      have hk2 : (W.putObj (D + 1) (.loop { rec_ .ready none with state := .busy })).heap[D]? = some (.deferred (some [])) := (World.putObj_heap_other (by omega)).trans hk
      refine wpIn_mono (hbody pre x _ (hJp pre W _ _ hi hl rfl) hpre (by simp; exact hlt)) ?_
      rintro e a3 W3 ⟨rfl, hj3, hk3⟩
      have hl3 := hk3 (D + 1) (.inl rfl) _ hl2 rfl
      have hd3 := hk3 D (.inr rfl) _ hk2 rfl
      exact ⟨_, _, run_endRound (P := P) none hl3, rfl, hJp _ _ _ _ hj3 hl3 rfl, World.putObj_heap_same (Array.getElem?_eq_some_iff.1 hl3).1, (World.putObj_heap_other (by omega)).trans hd3⟩
    · rintro e W2 ⟨⟨v, rfl⟩, hj, hl, hk⟩
      refine ⟨none, _, by have := run_endLoop (P := P) hl (by simp [rec_]); exact this, ?_⟩
      exact hdone _ (hJp _ _ _ _ hj hl rfl) ((World.putObj_heap_other (by omega)).trans hk)
end Go.Proofs.YtlbodpffkdfllaaDoor
