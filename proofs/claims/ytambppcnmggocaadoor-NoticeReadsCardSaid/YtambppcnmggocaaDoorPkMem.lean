/-
  Words for memory: a box of numbers, and how it stays over steps that turn other blocks alone. No conditions but those that each law names.
-/
import Derived.Test.YtambppcnmggocaaDoorMem
import Derived.Test.YtambppcnmggocaaDoorPk
namespace Go.Proofs.YtambppcnmggocaaDoor
open Go.ChangeShapes Go.WideShapes Go.ChangeAt Go.RowKit

/-- A block that is known whole. -/
def Bx (w : World) (g : Nat) (v : Value) (f : Int) : Prop := w.heap[g]? = some (.cells #[v, .int .i64 f] 56 (0, 0))
section
variable {w w' : World} {g : Nat} {v : Value} {f : Int}
theorem Bx.lt (h : Bx w g v f) : g < w.heap.size := (Array.getElem?_eq_some_iff.1 h).1
theorem Bx.kept (h : Bx w g v f) (hk : w'.heap[g]? = w.heap[g]?) : Bx w' g v f := hk.trans h
theorem Bx.below {B : Nat} (h : Bx w g v f) (hb : Below B w w') (hg : g < B) : Bx w' g v f := h.kept (hb.block g hg)
theorem Bx.boxed (h : Bx w g v f) : ∃ w0, w = boxed w0 g #[v, .int .i64 f] 56 ∧ g < w0.heap.size := ⟨w, boxed_self h, h.lt⟩
theorem Bx.mk {w0 : World} (h : g < w0.heap.size) : Bx (Go.Proofs.YtambppcnmggocaaDoor.boxed w0 g #[v, .int .i64 f] 56) g v f := boxed_block h
end
/-- A box out of which is taken: what is left of it, and its fault. -/
def GB (w : World) (g : Nat) (l : List Int) (f : Int) : Prop :=
  ∃ A c, Bx w g (.slice A l.length c) f ∧ Rd w .u8 g A l ∧ l.length ≤ c ∧ c ≤ maxLen ∧ ∀ x ∈ l, 0 ≤ x ∧ x < 256
/-- A box into which is put: a row of its own, from R on. -/
def PB (w : World) (R g : Nat) (l : List Int) : Prop :=
  ∃ v, Bx w g v 0 ∧ w.ownsRow R 5 1 v l.length (cl .u8 l) ∧ R ≤ g ∧ ∀ x ∈ l, 0 ≤ x ∧ x < 256

theorem GB.kept {w w' : World} {g : Nat} {l : List Int} {f : Int} (h : GB w g l f) (hk : ∀ i, i ≤ g → w'.heap[i]? = w.heap[i]?) : GB w' g l f := by
  obtain ⟨A, c, hb, hr, h1, h2, h3⟩ := h
  exact ⟨A, c, hb.kept (hk g (Nat.le_refl _)), hr.kept fun i hi => hk i (by omega), h1, h2, h3⟩
theorem GB.below {w w' : World} {g B : Nat} {l : List Int} {f : Int} (h : GB w g l f) (hb : Below B w w') (hg : g < B) : GB w' g l f := h.kept fun i hi => hb.block i (by omega)
theorem GB.lt {w : World} {g : Nat} {l : List Int} {f : Int} (h : GB w g l f) : g < w.heap.size := by
  obtain ⟨_, _, hb, _⟩ := h
  exact hb.lt
theorem PB.lt {w : World} {R g : Nat} {l : List Int} (h : PB w R g l) : R ≤ g ∧ g < w.heap.size := by
  obtain ⟨_, hb, _, hR, _⟩ := h
  exact ⟨hR, hb.lt⟩
theorem PB.below {w w' : World} {R g : Nat} {l : List Int} (h : PB w R g l) (hb : Below w.heap.size w w') : PB w' R g l := by
  obtain ⟨v, hx, ho, hR, h3⟩ := h
  exact ⟨v, hx.below hb hx.lt, own_kept ho fun i hi => hb.block i (ho.lt i hi).2, hR, h3⟩
end Go.Proofs.YtambppcnmggocaaDoor
