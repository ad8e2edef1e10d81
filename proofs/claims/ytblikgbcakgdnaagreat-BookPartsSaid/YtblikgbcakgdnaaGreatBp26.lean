/-
  The document's own Step: Change. No conditions but the sizes.
-/
import Derived.Test.YtblikgbcakgdnaaGreatBp25
set_option linter.unusedSimpArgs false
set_option linter.unusedVariables false
namespace Go.Proofs.YtblikgbcakgdnaaGreat
set_option maxRecDepth 100000
open Go.ChangeShapes Go.WideShapes Go.ChangeAt Go.RowKit

/-- A slice reads as these plans, below block B. -/
def Pls (w : World) (B : Nat) (v : Value) (ps : List Pv) : Prop := ∃ A c, v = .slice A ps.length c ∧ ps.length ≤ c ∧ c ≤ maxLen ∧ ∀ k p, ps[k]? = some p → ∃ g o, A = some ⟨g, o, none⟩ ∧ g < B ∧ w.rangeAt g (o + k * 6) p.arr.toList
theorem Pls.kept {w w' : World} {B : Nat} {v : Value} {ps : List Pv} (h : Pls w B v ps) (hk : ∀ i, i < B → w'.heap[i]? = w.heap[i]?) : Pls w' B v ps := by
  obtain ⟨A, c, h1, h2, h3, h4⟩ := h
  refine ⟨A, c, h1, h2, h3, fun k p hp => ?_⟩
  obtain ⟨g, o, h5, h6, h7⟩ := h4 k p hp
  exact ⟨g, o, h5, h6, fun j u hu => (World.cell?_of_block (a := ⟨g, o + k * 6 + j, none⟩) (hk g h6)).trans (h7 j u hu)⟩
theorem Pls.more {w : World} {B B' : Nat} {v : Value} {ps : List Pv} (h : Pls w B v ps) (hb : B ≤ B') : Pls w B' v ps := by
  obtain ⟨A, c, h1, h2, h3, h4⟩ := h
  refine ⟨A, c, h1, h2, h3, fun k p hp => ?_⟩
  obtain ⟨g, o, h5, h6, h7⟩ := h4 k p hp
  exact ⟨g, o, h5, by omega, h7⟩
theorem Pls.below {w w' : World} {B : Nat} {v : Value} {ps : List Pv} (h : Pls w B v ps) (hb : Below B w w') : Pls w' B v ps := h.kept fun i hi => hb.block i hi
theorem Pv.one (p : Pv) : ∀ u ∈ p.arr.toList, u.oneCell' = true := by
  intro u hu
  simp [Pv.arr] at hu
  rcases hu with rfl | rfl | rfl | rfl | rfl | rfl <;> rfl
end Go.Proofs.YtblikgbcakgdnaaGreat
