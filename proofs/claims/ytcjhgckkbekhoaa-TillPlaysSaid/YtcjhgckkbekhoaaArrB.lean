/-
  An array's block, by what its cells are: read, stored into, kept. And a row of the walk's own. No conditions but those that each law names.
-/
import Derived.Test.YtcjhgckkbekhoaaLiveO
namespace Go.Proofs.Ytcjhgckkbekhoaa
open Go.ChangeShapes Go.WideShapes Go.ChangeAt Go.RowKit

/-- Block b is an array of n cells: the i-th is g i. -/
def ArrB (w : World) (b : Nat) (ty : TypeId) (n : Nat) (g : Nat → Value) : Prop :=
  ∃ cs : Array Value, w.heap[b]? = some (.cells cs ty (0, 0)) ∧ cs.size = n ∧ ∀ i, i < n → cs[i]? = some (g i)
section
variable {w w' : World} {b n : Nat} {ty : TypeId} {g g' : Nat → Value}
theorem ArrB.lt (h : ArrB w b ty n g) : b < w.heap.size := by obtain ⟨cs, h, _⟩ := h; exact (Array.getElem?_eq_some_iff.1 h).1
theorem ArrB.cell (h : ArrB w b ty n g) {i : Nat} (hi : i < n) : w.cell? ⟨b, i, none⟩ = some (g i) := by
  obtain ⟨cs, h1, _, h3⟩ := h
  rw [cell_of_row _ _ _ _ _ _ h1]; exact h3 i hi
theorem ArrB.frozen (h : ArrB w b ty n g) (i : Nat) : w.frozen? ⟨b, i, none⟩ = false := by
  obtain ⟨cs, h1, _⟩ := h
  rw [World.frozen?, h1]; simp
theorem ArrB.kept (h : ArrB w b ty n g) (hk : w'.heap[b]? = w.heap[b]?) : ArrB w' b ty n g := by
  obtain ⟨cs, h1, h2, h3⟩ := h
  exact ⟨cs, hk.trans h1, h2, h3⟩
theorem ArrB.congr (h : ArrB w b ty n g) (hg : ∀ i, i < n → g i = g' i) : ArrB w b ty n g' := by
  obtain ⟨cs, h1, h2, h3⟩ := h
  exact ⟨cs, h1, h2, fun i hi => (h3 i hi).trans (by rw [hg i hi])⟩
theorem ArrB.set (h : ArrB w b ty n g) (i : Nat) (v : Value) : ArrB (w.setCell ⟨b, i, none⟩ v) b ty n (fun j => if j = i then v else g j) := by
  obtain ⟨cs, h1, h2, h3⟩ := h
  have hb : b < w.heap.size := (Array.getElem?_eq_some_iff.1 h1).1
  refine ⟨cs.setIfInBounds i v, ?_, by simp [h2], fun j hj => ?_⟩
  · rw [boxed_self h1, boxed_set]; exact boxed_block hb
  · rw [Array.getElem?_setIfInBounds]
    by_cases e : j = i
    · subst e
      rw [if_pos rfl, if_pos (by omega)]
      show some v = some (if j = j then v else g j)
      rw [if_pos rfl]
    · rw [if_neg (Ne.symm e)]
      show cs[j]? = some (if j = i then v else g j)
      rw [if_neg e]; exact h3 j hj
theorem arrB_of {cs : Array Value} (h : w.heap[b]? = some (.cells cs ty (0, 0))) (hn : cs.size = n) (hg : ∀ i, i < n → cs[i]? = some (g i)) : ArrB w b ty n g := ⟨cs, h, hn, hg⟩
theorem own_ne_arr {base size k : Nat} {e : TypeId} {v : Value} {xs : List Value} (h : w.ownsRow base e size v k xs) (ha : ArrB w b ty n g) (hne : e ≠ ty) : v.ownBlock ≠ some b := by
  obtain ⟨cs, h1, _⟩ := ha
  exact own_ne h h1 hne
theorem blk_set {cs : Array Value} (h : w.heap[b]? = some (.cells cs ty (0, 0))) (i : Nat) (v : Value) : (w.setCell ⟨b, i, none⟩ v).heap[b]? = some (.cells (cs.setIfInBounds i v) ty (0, 0)) := by
  have hb : b < w.heap.size := (Array.getElem?_eq_some_iff.1 h).1
  rw [boxed_self h, boxed_set]
  exact boxed_block hb
theorem boxed_alloc_drew {cs cs' : Array Value} : boxed ((w.alloc (.cells cs ty)).drew) w.heap.size cs' ty = w.drew.alloc (.cells cs' ty) := by
  show ({ (w.alloc (.cells cs ty)).drew with heap := (w.heap.push (.cells cs ty)).setIfInBounds w.heap.size (.cells cs' ty) } : World) = w.drew.alloc (.cells cs' ty)
  have : (w.heap.push (.cells cs ty)).setIfInBounds w.heap.size (.cells cs' ty) = w.heap.push (.cells cs' ty) := by
    apply Array.ext_getElem?
    intro i
    rw [Array.getElem?_setIfInBounds, Array.getElem?_push, Array.getElem?_push, Array.size_push]
    by_cases e : w.heap.size = i
    · subst e; simp
    · rw [if_neg e, if_neg (fun h => e h.symm), if_neg (fun h => e h.symm)]
  rw [this]
  rfl
theorem setCell_other {b i j : Nat} {v : Value} (h : j ≠ b) : (w.setCell ⟨b, i, none⟩ v).heap[j]? = w.heap[j]? := Below.heap_setCell w ⟨b, i, none⟩ v j h
theorem setCell_size {a : Addr} {v : Value} : (w.setCell a v).heap.size = w.heap.size := by simp [World.setCell]
end
end Go.Proofs.Ytcjhgckkbekhoaa
