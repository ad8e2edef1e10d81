/-
  Words for maps of whole numbers' keys whose block the walk owns: 'MapF w b n f': block b is a map of at most n entries, f says of each key what lies there, as a value. No conditions but those that each law names.
-/
import Derived.Test.YticefepcoemkoaaDoorMem
import Derived.Maps.OwnSet
namespace Go.Proofs.YticefepcoemkoaaDoor
set_option maxRecDepth 20000
open Go.ChangeShapes Go.WideShapes Go.ChangeAt Go.RowKit

/-- An element reads as itself. -/
def heldE (v : Value) : Option (DataW Value × List MemPlace) := some (.held v, [])
theorem intKeyed : Maps.Keyed Tryd.prog 3 := Maps.int_keyed Tryd.underlying3

def MapF (w : World) (b n : Nat) (f : Int → Option Value) : Prop :=
  ∃ D : DataW Value, w.ownsMap Tryd.prog 3 heldE b n D ∧ ∀ k, (∀ v, f k = some v → ∀ z, D.atKey (.int .i64 k) z = .held v) ∧ (f k = none → ∀ z, D.atKey (.int .i64 k) z = z) ∧ Maps.has D (.int .i64 k) = (f k).isSome

section
variable {w w' : World} {b n : Nat} {f : Int → Option Value}
theorem MapF.lt (h : MapF w b n f) : b < w.heap.size := by obtain ⟨D, h, _⟩ := h; exact h.lt
theorem MapF.isMap (h : MapF w b n f) : ∃ es c, w.heap[b]? = some (.map es c) := by obtain ⟨D, ⟨es, c, h, _⟩, _⟩ := h; exact ⟨es, c, h⟩
theorem MapF.mono (h : MapF w b n f) {m : Nat} (hm : n ≤ m) : MapF w b m f := by obtain ⟨D, h, h2⟩ := h; exact ⟨D, h.mono hm, h2⟩
theorem MapF.kept (h : MapF w b n f) (hk : w'.heap[b]? = w.heap[b]?) : MapF w' b n f := by
  obtain ⟨D, ⟨es, c, h1, h2, h3, h4⟩, h5⟩ := h
  exact ⟨D, ⟨es, c, hk.trans h1, h2, h3, h4⟩, h5⟩
theorem mapF_made (w : World) : MapF (w.alloc (.map #[] 0)) w.heap.size 0 (fun _ => none) :=
  ⟨.map [], World.ownsMap_made _ _ _ _, fun _ => ⟨fun _ h => (nomatch h), fun _ _ => rfl, rfl⟩⟩
theorem MapF.look (h : MapF w b n f) {t e : TypeId} {z : Value} (ht : Tryd.prog.underlying t = some (.map 3 e)) (hz : (zeroValue e).run Tryd.prog w = .ok z w) (k : Int) (hk : (Lit.int .i64 k).wf = true) :
    (Instr.lookup t (.map (some b)) (.int .i64 k) false).run Tryd.prog w = .ok ((f k).getD z) w := by
  obtain ⟨D, h, hf⟩ := h
  obtain ⟨v, ps, hrun, hv⟩ := h.lookup intKeyed ht hz (R := heldE) (zd := .held z) (zp := []) rfl (Maps.keyOf_int_mk Tryd.underlying3 hk)
  have e : DataW.held v = D.atKey (.int .i64 k) (.held z) := by
    unfold heldE at hv
    injection hv with hv
    injection hv with hv _
  cases hfk : f k with
  | none => rw [(hf k).2.1 hfk] at e; injection e with e; subst e; exact hrun
  | some u => rw [(hf k).1 u hfk] at e; injection e with e; subst e; exact hrun
theorem MapF.look_ok (h : MapF w b n f) {t e : TypeId} {z : Value} (ht : Tryd.prog.underlying t = some (.map 3 e)) (hz : (zeroValue e).run Tryd.prog w = .ok z w) (k : Int) (hk : (Lit.int .i64 k).wf = true) :
    (Instr.lookup t (.map (some b)) (.int .i64 k) true).run Tryd.prog w = .ok (.tuple #[(f k).getD z, .bool (f k).isSome]) w := by
  obtain ⟨D, h, hf⟩ := h
  obtain ⟨v, ps, hrun, hv⟩ := h.look_ok intKeyed ht hz (R := heldE) (zd := .held z) (zp := []) rfl (Maps.keyOf_int_mk Tryd.underlying3 hk)
  rw [(hf k).2.2] at hrun
  have e : DataW.held v = D.atKey (.int .i64 k) (.held z) := by
    unfold heldE at hv
    injection hv with hv
    injection hv with hv _
  cases hfk : f k with
  | none => rw [(hf k).2.1 hfk] at e; injection e with e; subst e; rw [hfk] at hrun; exact hrun
  | some u => rw [(hf k).1 u hfk] at e; injection e with e; subst e; rw [hfk] at hrun; exact hrun
theorem MapF.put (h : MapF w b n f) {t e : TypeId} (ht : Tryd.prog.underlying t = some (.map 3 e)) (hn : n < 1000000) (k : Int) (hk : (Lit.int .i64 k).wf = true) (v : Value) :
    ∃ w', (Instr.mapUpdate t (.map (some b)) (.int .i64 k) v).run Tryd.prog w = .ok () w' ∧ MapF w' b (n + 1) (fun j => if j = k then some v else f j) ∧ w.grownBy w' (some b) := by
  obtain ⟨D, h, hf⟩ := h
  have hkey := Maps.keyOf_int_mk (P := Tryd.prog) Tryd.underlying3 hk
  have hlit : WideAt.IsKeyLit (.int .i64 k) := intKeyed.key hkey
  obtain ⟨w', hrun, h1, h2⟩ := h.update intKeyed ht (by unfold maxLen; omega) hkey (val := v) (d := .held v) (ps := []) rfl
  refine ⟨w', hrun, ⟨_, h1, fun j => ?_⟩, h2⟩
  by_cases hj : j = k
  · subst hj
    simp only [if_true]
    refine ⟨fun u hu z => ?_, fun hu => (nomatch hu), ?_⟩
    · injection hu with hu; subst hu; exact Maps.atKey_put_same h.isMap hlit _ _
    · rw [Maps.has_put_same h.isMap hlit]; rfl
  · have hne : Lit.int .i64 j ≠ Lit.int .i64 k := fun e => hj (by injection e)
    simp only [if_neg hj]
    refine ⟨fun u hu z => ?_, fun hu z => ?_, ?_⟩
    · rw [Maps.atKey_put_other hne]; exact (hf j).1 u hu z
    · rw [Maps.atKey_put_other hne]; exact (hf j).2.1 hu z
    · rw [Maps.has_put_other hne]; exact (hf j).2.2
end
end Go.Proofs.YticefepcoemkoaaDoor
