/-
  The loop of two laws: a plate, and one of the document's own. No program; memory alone.
-/
import Derived.Test.YtlbodpffkdfllaaActs
import Derived.Test.YtlbodpffkdfllaaPlMake
namespace Go.Proofs.Ytlbodpffkdfllaa
open Go.ChangeShapes Go.WideShapes Go.ChangeAt Go.RowKit
open Rf (sl ys rv)

theorem rput_size (r : Rf.R) (i : Int) (b : List Int) : (r.put i b).acts ≤ r.acts + 1 ∧ (r.put i b).wet.length ≤ r.wet.length + 1 := by
  have ha : r.act.acts ≤ r.acts + 1 := by unfold Rf.R.act; split <;> (first | (simp; done) | (simp; omega) | omega)
  unfold Rf.R.put
  split
  · exact ⟨by omega, by omega⟩
  · split
    · exact ⟨ha, by simp [Rf.R.laid, Rf.act_wet]⟩
    · split
      · exact ⟨ha, by simp [Rf.R.laid, Rf.act_wet]⟩
      · exact ⟨ha, by rw [Rf.act_wet]; omega⟩
theorem rf_size (a : Ac) (r : Rf.R) : (a.rf r).acts ≤ r.acts + 1 ∧ (a.rf r).wet.length ≤ r.wet.length + 1 := by
  have ha : r.act.acts ≤ r.acts + 1 := by unfold Rf.R.act; split <;> (first | (simp; done) | (simp; omega) | omega)
  unfold Ac.rf
  split
  · unfold Rf.R.flush
    split
    · exact ⟨ha, Nat.zero_le _⟩
    · exact ⟨ha, by rw [Rf.act_wet]; omega⟩
  · split
    · exact ⟨by show r.acts ≤ _; omega, by show r.wet.length ≤ _; omega⟩
    · split
      · exact ⟨by show r.acts ≤ _; omega, Nat.zero_le _⟩
      · exact rput_size r _ _

/-- The loop: a plate, and one of the document's own that lies in block X. -/
structure SR (w : World) (X g j : Nat) (wr : World) (v1 v2 : Value) (r : Rf.R) (st : Pl.St) (bs : List Nat) (ps : List (Int × Nat)) (N G : Nat → Prop) : Prop where
  live : Live w N wr g st (3 + 2 * j)
  mem : Rf.M wr G v1 v2 r bs ps
  sub : ∀ i, G i → N i
  nlt : ∀ i, N i → i < wr.heap.size
  nx : N X
  gx : ¬ G X
  wx : w.heap.size ≤ X
  blk : wr.heap[X]? = some (.cells #[v1, v2, .int .i64 r.left, .int .i64 r.spare, .bool r.off, .int .i64 r.acts] 29 (0, 0))
  acts : r.acts ≤ j
  wet : r.wet.length ≤ j
section
variable {w : World} {X g j : Nat} {wr : World} {v1 v2 : Value} {r : Rf.R} {st : Pl.St} {bs : List Nat} {ps : List (Int × Nat)} {N G : Nat → Prop}
theorem SR.drew (h : SR w X g j wr v1 v2 r st bs ps N G) : SR w X g j wr.drew v1 v2 r st bs ps N G :=
  ⟨h.live.below ((Below.refl _ _).drew), h.mem.below ((Below.refl _ _).drew), h.sub, h.nlt, h.nx, h.gx, h.wx, h.blk, h.acts, h.wet⟩
theorem SR.up (h : SR w X g j wr v1 v2 r st bs ps N G) (hj : j < 1000) : SR w X g (j + 1) wr v1 v2 r st bs ps N G :=
  ⟨h.live.mono (by omega) (by omega), h.mem, h.sub, h.nlt, h.nx, h.gx, h.wx, h.blk, by have := h.acts; omega, by have := h.wet; omega⟩
theorem SR.lt (h : SR w X g j wr v1 v2 r st bs ps N G) : X < wr.heap.size := (Array.getElem?_eq_some_iff.1 h.blk).1
theorem SR.next {w4 : World} {v1' v2' : Value} {r' : Rf.R} {st' : Pl.St} {bs' : List Nat} {ps' : List (Int × Nat)} {N' G' : Nat → Prop} (h : SR w X g j wr v1 v2 r st bs ps N G) (hl : Live w N' w4 g st' (3 + 2 * j + 2)) (hm : Rf.M w4 G' v1' v2' r' bs' ps')
    (hN : ∀ i, N i → N' i) (hG : ∀ i, G' i → N' i) (hlt : ∀ i, N' i → i < w4.heap.size) (hk : Kept w N wr w4) (hg : ∀ i, G' i → G i ∨ wr.heap.size ≤ i) (ha : r'.acts ≤ r.acts + 1) (hw : r'.wet.length ≤ r.wet.length + 1) (hj : j < 1000) :
    ∃ w6, w4 = boxed w6 X #[v1, v2, .int .i64 r.left, .int .i64 r.spare, .bool r.off, .int .i64 r.acts] 29 ∧ X < w6.heap.size ∧ SR w X g (j + 1) (boxed w6 X #[v1', v2', .int .i64 r'.left, .int .i64 r'.spare, .bool r'.off, .int .i64 r'.acts] 29) v1' v2' r' st' bs' ps' N' G' := by
  have hX := h.lt
  have hs := hk.size
  have hb : w4.heap[X]? = some (.cells #[v1, v2, .int .i64 r.left, .int .i64 r.spare, .bool r.off, .int .i64 r.acts] 29 (0, 0)) := (hk.block X h.nx).trans h.blk
  have hgx : ¬ G' X := fun hx => by
    rcases hg X hx with h' | h'
    · exact h.gx h'
    · omega
  have hoth : ∀ (D : Array Value) i, i ≠ X → (boxed w4 X D 29).heap[i]? = w4.heap[i]? := fun D i hi => boxed_block_other hi
  refine ⟨w4, boxed_self hb, by omega, ?_, hm.kept (fun i hi => hoth _ i fun e => hgx (e ▸ hi)) (by rw [boxed_size]; exact Nat.le_refl _), hG, fun i hi => by rw [boxed_size]; exact hlt i hi, hN X h.nx, hgx, h.wx, boxed_block (by omega), by have := h.acts; omega, by have := h.wet; omega⟩
  have := hl.turned (w' := boxed w4 X #[v1', v2', .int .i64 r'.left, .int .i64 r'.spare, .bool r'.off, .int .i64 r'.acts] 29) (by rw [boxed_size]; exact Nat.le_refl _) (fun i hi => hoth _ i fun e => hi (e ▸ hN X h.nx)) (boxed_below hl.old h.wx)
  exact this.mono (by omega) (by omega)
end

theorem SR.start {w w5 : World} {g : Nat} {v1 v2 : Value} {r : Rf.R} {st : Pl.St} {bs : List Nat} {ps : List (Int × Nat)} {N G : Nat → Prop} (h5 : Live w N w5 g st 3) (hm : Rf.M w5 G v1 v2 r bs ps) (hG : ∀ i, G i → N i) (hN : ∀ i, N i → i < w5.heap.size) (ha : r.acts ≤ 0) (hw : r.wet.length = 0) :
    SR w w5.heap.size g 0 (w5.alloc (.cells #[v1, v2, .int .i64 r.left, .int .i64 r.spare, .bool r.off, .int .i64 r.acts] 29)) v1 v2 r st bs ps (fun i => N i ∨ (w5.heap.size ≤ i ∧ i < (w5.alloc (.cells #[v1, v2, .int .i64 r.left, .int .i64 r.spare, .bool r.off, .int .i64 r.acts] 29)).heap.size)) G := by
  have hb : Below w5.heap.size w5 (w5.alloc (.cells #[v1, v2, .int .i64 r.left, .int .i64 r.spare, .bool r.off, .int .i64 r.acts] 29)) := (Below.refl _ _).alloc (Nat.le_refl _) _
  refine ⟨h5.more hb, hm.below hb, fun i hi => .inl (hG i hi), fun i hi => ?_, .inr ⟨Nat.le_refl _, by rw [World.size_alloc]; omega⟩, fun hx => absurd (hN _ (hG _ hx)) (Nat.lt_irrefl _), h5.old.size, alloc_block, by omega, by omega⟩
  rcases hi with h' | h'
  · have := hN i h'; rw [World.size_alloc]; omega
  · exact h'.2
end Go.Proofs.Ytlbodpffkdfllaa
