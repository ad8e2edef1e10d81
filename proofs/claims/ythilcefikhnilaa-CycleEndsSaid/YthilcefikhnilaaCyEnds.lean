/-
  The walk of the law CycleEnds: it returns true, whatever the input. No conditions.
-/
import Derived.Test.YthilcefikhnilaaCyKeeps
namespace Go.Proofs.Ythilcefikhnilaa
set_option maxRecDepth 20000
open Go.ChangeShapes Go.WideShapes Go.ChangeAt Go.RowKit

/-- How many answers it takes at most, from a phase and a try. -/
def Cy.left (p t : Int) : Int := if p = 1 then 13 - 2 * t else if p = 2 then 12 - 2 * t else if p = 3 then 4 else if p = 4 then 3 else if p = 5 then 2 else if p = 6 then 1 else 0
/-- What holds of a cycle on its way, and of how often it has asked: charges e1, refunds e2, allocations e3, releases e4, shipments e5. -/
structure Cy.Way (g : Bool) (p t e1 e2 e3 e4 e5 : Int) : Prop where
  ph : 1 ≤ p ∧ p ≤ 9
  ch : p = 1 → 1 ≤ t ∧ t ≤ 4 ∧ e1 = t - 1
  wa : p = 2 → 1 ≤ t ∧ t ≤ 3 ∧ e1 = t
  r1 : 0 ≤ e1 ∧ e1 ≤ 4
  r2 : 0 ≤ e2 ∧ e2 ≤ 1
  r3 : 0 ≤ e3 ∧ e3 ≤ 1
  r4 : 0 ≤ e4 ∧ e4 ≤ 1
  r5 : 0 ≤ e5 ∧ e5 ≤ 1
  z3 : p ≤ 3 → e3 = 0
  z5 : p ≤ 4 → e5 = 0
  z4 : p ≤ 5 → e4 = 0
  z2 : p ≤ 6 → e2 = 0
  no : g = false → p ≠ 3 ∧ p ≠ 4 ∧ p ≠ 5 ∧ e3 = 0 ∧ e4 = 0 ∧ e5 = 0
theorem way_begin {a : Int} (g : Bool) : Cy.Way g (Cy.begin_ 1 1 a 0 g).p (Cy.begin_ 1 1 a 0 g).t 0 0 0 0 0 ∧ Cy.left (Cy.begin_ 1 1 a 0 g).p (Cy.begin_ 1 1 a 0 g).t ≤ 11 := by
  by_cases h : a = 0
  · rw [begin_yes h]
    cases g
    · show Cy.Way false 7 0 0 0 0 0 0 ∧ Cy.left 7 0 ≤ 11
      exact ⟨⟨(by decide), (fun h => absurd h (by decide)), (fun h => absurd h (by decide)), (by decide), (by decide), (by decide), (by decide), (by decide), fun _ => rfl, fun _ => rfl, fun _ => rfl, fun _ => rfl, fun _ => (by decide)⟩, (by decide)⟩
    · show Cy.Way true 3 0 0 0 0 0 0 ∧ Cy.left 3 0 ≤ 11
      exact ⟨⟨(by decide), (fun h => absurd h (by decide)), (fun h => absurd h (by decide)), (by decide), (by decide), (by decide), (by decide), (by decide), fun _ => rfl, fun _ => rfl, fun _ => rfl, fun _ => rfl, fun h => absurd h (by decide)⟩, (by decide)⟩
  · rw [begin_no h]
    show Cy.Way g 1 1 0 0 0 0 0 ∧ Cy.left 1 1 ≤ 11
    exact ⟨⟨(by decide), (fun _ => (by decide)), (fun h => absurd h (by decide)), (by decide), (by decide), (by decide), (by decide), (by decide), fun _ => rfl, fun _ => rfl, fun _ => rfl, fun _ => rfl, fun _ => (by decide)⟩, (by decide)⟩
theorem way_card {g : Bool} {t e1 e2 e3 e4 e5 : Int} (h : Cy.Way g 2 t e1 e2 e3 e4 e5) : Cy.Way g 1 (t + 1) e1 e2 e3 e4 e5 ∧ Cy.left 1 (t + 1) + 1 ≤ Cy.left 2 t := by
  have hw := h.wa rfl
  refine ⟨⟨by decide, fun _ => ⟨by omega, by omega, by omega⟩, fun h => absurd h (by decide), h.r1, h.r2, h.r3, h.r4, h.r5, fun _ => h.z3 (by decide), fun _ => h.z5 (by decide), fun _ => h.z4 (by decide), fun _ => h.z2 (by decide), fun hg => ⟨by decide, by decide, by decide, (h.no hg).2.2.2⟩⟩, ?_⟩
  unfold Cy.left
  simp
  omega
/-- One charge more. -/
theorem way_1 {g o : Bool} {a t x v e1 e2 e3 e4 e5 : Int} (h : Cy.Way g 1 t e1 e2 e3 e4 e5) : Cy.Way g (Cv.next ⟨1, 1, 1, a, 0, t, x, g⟩ v 1 o).p (Cv.next ⟨1, 1, 1, a, 0, t, x, g⟩ v 1 o).t (e1 + 1) e2 e3 e4 e5 ∧ Cy.left (Cv.next ⟨1, 1, 1, a, 0, t, x, g⟩ v 1 o).p (Cv.next ⟨1, 1, 1, a, 0, t, x, g⟩ v 1 o).t + 1 ≤ Cy.left 1 t := by
  have hc := h.ch rfl
  have h1 := h.r1
  have h2 := h.z2 (by decide)
  have h3 := h.z3 (by decide)
  have h4 := h.z4 (by decide)
  have h5 := h.z5 (by decide)
  subst h2 h3 h4 h5
  have hd : ∀ p, (p = 6 ∨ p = 7 ∨ p = 8 ∨ p = 9 ∨ (p = 3 ∧ g = true)) → Cy.Way g p t (e1 + 1) 0 0 0 0 ∧ Cy.left p t + 1 ≤ Cy.left 1 t := fun p hp =>
    ⟨⟨by omega, fun e => by omega, fun e => by omega, by omega, by omega, by omega, by omega, by omega, fun _ => rfl, fun _ => rfl, fun _ => rfl, fun _ => rfl, fun e => ⟨fun q => by rcases hp with q' | q' | q' | q' | ⟨_, q'⟩ <;> first | omega | (rw [e] at q'; cases q'), by omega, by omega, rfl, rfl, rfl⟩⟩, by
      rcases hp with rfl | rfl | rfl | rfl | ⟨rfl, _⟩ <;> (unfold Cy.left; simp; omega)⟩
  show Cy.Way g (Cv.charged _ _ _ _).p (Cv.charged _ _ _ _).t _ _ _ _ _ ∧ Cy.left (Cv.charged _ _ _ _).p (Cv.charged _ _ _ _).t + 1 ≤ _
  unfold Cv.charged
  split
  · split
    · unfold Cv.back Cv.to
      split
      · exact hd 9 (by omega)
      · exact hd 6 (by omega)
    · unfold Cv.to Cy.paid
      cases g
      · exact hd 7 (by omega)
      · exact hd 3 (.inr (.inr (.inr (.inr ⟨rfl, rfl⟩))))
  split
  · rename_i hs
    have ht4 : t < 4 := hs.2.2
    dsimp only
    refine ⟨⟨by decide, fun e => absurd e (by decide), fun _ => by omega, by omega, by omega, by omega, by omega, by omega, fun _ => rfl, fun _ => rfl, fun _ => rfl, fun _ => rfl, fun _ => ⟨by decide, by decide, by decide, rfl, rfl, rfl⟩⟩, ?_⟩
    unfold Cy.left; simp; omega
  · exact hd 8 (by omega)
theorem way_3 {g o : Bool} {a t x v e1 e2 e3 e4 e5 : Int} (h : Cy.Way g 3 t e1 e2 e3 e4 e5) : Cy.Way g (Cv.next ⟨1, 1, 3, a, 0, t, x, g⟩ v 1 o).p (Cv.next ⟨1, 1, 3, a, 0, t, x, g⟩ v 1 o).t e1 e2 (e3 + 1) e4 e5 ∧ Cy.left (Cv.next ⟨1, 1, 3, a, 0, t, x, g⟩ v 1 o).p (Cv.next ⟨1, 1, 3, a, 0, t, x, g⟩ v 1 o).t + 1 ≤ Cy.left 3 t := by
  have h1 := h.r1
  have h2 := h.z2 (by decide)
  have h3 := h.z3 (by decide)
  have h4 := h.z4 (by decide)
  have h5 := h.z5 (by decide)
  have hg : g ≠ false := fun e => (h.no e).1 rfl
  subst h2 h3 h4 h5
  have hd : ∀ p, (p = 4 ∨ p = 5 ∨ p = 6 ∨ p = 9) → Cy.Way g p t e1 0 (0 + 1) 0 0 ∧ Cy.left p t + 1 ≤ Cy.left 3 t := fun p hp =>
    ⟨⟨by omega, fun e => by omega, fun e => by omega, by omega, by omega, by omega, by omega, by omega, fun e => by omega, fun _ => rfl, fun _ => rfl, fun _ => rfl, fun e => absurd e hg⟩, by
      rcases hp with rfl | rfl | rfl | rfl <;> (unfold Cy.left; simp)⟩
  show Cy.Way g (Cv.allocated _ _ _).p (Cv.allocated _ _ _).t _ _ _ _ _ ∧ Cy.left (Cv.allocated _ _ _).p (Cv.allocated _ _ _).t + 1 ≤ _
  unfold Cv.allocated
  split
  · split
    · exact hd 5 (by omega)
    · exact hd 4 (by omega)
  · unfold Cv.back Cv.to
    split
    · exact hd 9 (by omega)
    · exact hd 6 (by omega)
theorem way_4 {g o : Bool} {a t x v e1 e2 e3 e4 e5 : Int} (h : Cy.Way g 4 t e1 e2 e3 e4 e5) : Cy.Way g (Cv.next ⟨1, 1, 4, a, 0, t, x, g⟩ v 1 o).p (Cv.next ⟨1, 1, 4, a, 0, t, x, g⟩ v 1 o).t e1 e2 e3 e4 (e5 + 1) ∧ Cy.left (Cv.next ⟨1, 1, 4, a, 0, t, x, g⟩ v 1 o).p (Cv.next ⟨1, 1, 4, a, 0, t, x, g⟩ v 1 o).t + 1 ≤ Cy.left 4 t := by
  have h1 := h.r1
  have h3 := h.r3
  have h2 := h.z2 (by decide)
  have h4 := h.z4 (by decide)
  have h5 := h.z5 (by decide)
  have hg : g ≠ false := fun e => (h.no e).2.1 rfl
  subst h2 h4 h5
  have hd : ∀ p, (p = 7 ∨ p = 5) → Cy.Way g p t e1 0 e3 0 (0 + 1) ∧ Cy.left p t + 1 ≤ Cy.left 4 t := fun p hp =>
    ⟨⟨by omega, fun e => by omega, fun e => by omega, by omega, by omega, by omega, by omega, by omega, fun e => by omega, fun e => by omega, fun _ => rfl, fun _ => rfl, fun e => absurd e hg⟩, by
      rcases hp with rfl | rfl <;> (unfold Cy.left; simp)⟩
  show Cy.Way g (Cv.shipped _ _).p (Cv.shipped _ _).t _ _ _ _ _ ∧ Cy.left (Cv.shipped _ _).p (Cv.shipped _ _).t + 1 ≤ _
  unfold Cv.shipped
  split
  · exact hd 7 (by omega)
  · exact hd 5 (by omega)
theorem way_5 {g o : Bool} {a t x v e1 e2 e3 e4 e5 : Int} (h : Cy.Way g 5 t e1 e2 e3 e4 e5) : Cy.Way g (Cv.next ⟨1, 1, 5, a, 0, t, x, g⟩ v 1 o).p (Cv.next ⟨1, 1, 5, a, 0, t, x, g⟩ v 1 o).t e1 e2 e3 (e4 + 1) e5 ∧ Cy.left (Cv.next ⟨1, 1, 5, a, 0, t, x, g⟩ v 1 o).p (Cv.next ⟨1, 1, 5, a, 0, t, x, g⟩ v 1 o).t + 1 ≤ Cy.left 5 t := by
  have h1 := h.r1
  have h3 := h.r3
  have h5 := h.r5
  have h2 := h.z2 (by decide)
  have h4 := h.z4 (by decide)
  have hg : g ≠ false := fun e => (h.no e).2.2.1 rfl
  subst h2 h4
  have hd : ∀ p, (p = 6 ∨ p = 9) → Cy.Way g p t e1 0 e3 (0 + 1) e5 ∧ Cy.left p t + 1 ≤ Cy.left 5 t := fun p hp =>
    ⟨⟨by omega, fun e => by omega, fun e => by omega, by omega, by omega, by omega, by omega, by omega, fun e => by omega, fun e => by omega, fun e => by omega, fun _ => rfl, fun e => absurd e hg⟩, by
      rcases hp with rfl | rfl <;> (unfold Cy.left; simp)⟩
  show Cy.Way g (Cv.back _).p (Cv.back _).t _ _ _ _ _ ∧ Cy.left (Cv.back _).p (Cv.back _).t + 1 ≤ _
  unfold Cv.back Cv.to
  split
  · exact hd 9 (by omega)
  · exact hd 6 (by omega)
theorem way_6 {g o : Bool} {a t x v e1 e2 e3 e4 e5 : Int} (h : Cy.Way g 6 t e1 e2 e3 e4 e5) : Cy.Way g (Cv.next ⟨1, 1, 6, a, 0, t, x, g⟩ v 1 o).p (Cv.next ⟨1, 1, 6, a, 0, t, x, g⟩ v 1 o).t e1 (e2 + 1) e3 e4 e5 ∧ Cy.left (Cv.next ⟨1, 1, 6, a, 0, t, x, g⟩ v 1 o).p (Cv.next ⟨1, 1, 6, a, 0, t, x, g⟩ v 1 o).t + 1 ≤ Cy.left 6 t := by
  have h2 := h.z2 (by decide)
  subst h2
  show Cy.Way g 9 t e1 (0 + 1) e3 e4 e5 ∧ Cy.left 9 t + 1 ≤ Cy.left 6 t
  exact ⟨⟨by decide, fun e => absurd e (by decide), fun e => absurd e (by decide), h.r1, by decide, h.r3, h.r4, h.r5, fun e => absurd e (by decide), fun e => absurd e (by decide), fun e => absurd e (by decide), fun e => absurd e (by decide), fun e => ⟨by decide, by decide, by decide, (h.no e).2.2.2⟩⟩, by unfold Cy.left; simp⟩
theorem left_pos {p t : Int} (h1 : p = 1 → t ≤ 4) (h2 : p = 2 → t ≤ 3) : 0 ≤ Cy.left p t := by
  unfold Cy.left
  split
  · have := h1 (by assumption); omega
  split
  · have := h2 (by assumption); omega
  split
  · decide
  split
  · decide
  split
  · decide
  split <;> decide
end Go.Proofs.Ythilcefikhnilaa
