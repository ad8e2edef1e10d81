/-
  A slice of slices of numbers that comes in, opened: what it reads as. And appends of whole numbers onto a row of the call's own. No conditions but the sizes.
-/
import Derived.Test.YticefepcoemkoaaDoorRow
import Derived.Test.YticefepcoemkoaaDoorApp
import Derived.Deep.Matrix
namespace Go.Proofs.YticefepcoemkoaaDoor
set_option maxRecDepth 20000
open Go.ChangeShapes Go.WideShapes Go.RowKit

/-- A slice of slices whose address is A reads as the lists ls: all in blocks below B. -/
def RdRows (w : World) (k : IntKind) (B : Nat) (A : Option Addr) (ls : List (List Int)) : Prop :=
  ∀ (j : Nat) (l : List Int), ls[j]? = some l → ∃ a A' c', A = some a ∧ a.block < B ∧ w.cell? (a.add j) = some (.slice A' l.length c') ∧ l.length ≤ c' ∧ Rd w k B A' l
theorem RdRows.kept {w w' : World} {k : IntKind} {B : Nat} {A : Option Addr} {ls : List (List Int)} (h : RdRows w k B A ls) (hk : ∀ i, i < B → w'.heap[i]? = w.heap[i]?) : RdRows w' k B A ls := fun j l hl => by
  obtain ⟨a, A', c', h1, h2, h3, h4, h5⟩ := h j l hl
  exact ⟨a, A', c', h1, h2, (World.cell?_of_block (hk _ (by rw [ad_block]; exact h2))).trans h3, h4, h5.kept hk⟩
theorem RdRows.below {w w' : World} {k : IntKind} {B : Nat} {A : Option Addr} {ls : List (List Int)} (h : RdRows w k B A ls) (hb : Below B w w') : RdRows w' k B A ls := h.kept hb.block

theorem open_rows {H : Type} {enc : TypeId × Value → H} {P : Program} {W : World} {base : Nat} {t e q : TypeId} {k : IntKind} {v : Value} {d : DataW H} {ps : List MemPlace} (ht : P.underlying t = some (.slice e)) (he : P.underlying e = some (.slice q)) (hq : P.underlying q = some (.int k)) (ce : P.cellsOf e = 1) (cq : P.cellsOf q = 1)
    (hval : Value.okWide P W .any base t v) (hd : DataW.Trod enc P W 0 (fun _ => true) true t v d ps) :
    ∃ A c ls, v = .slice A ls.length c ∧ ls.length ≤ c ∧ c ≤ maxLen ∧ RdRows W k W.heap.size A ls ∧ ∀ l ∈ ls, ∀ x ∈ l, (Lit.int k x).wf = true := by
  obtain ⟨a0, n0, c0, rfl⟩ := okWide_slice ht hval
  obtain ⟨fuel, hf⟩ := hd
  rcases Go.Deep.open_int_rows ht he hq ce cq hf with ⟨hcs, _⟩ | ⟨a, len, cap, A, L, C, Z, hcs, _, hl, hm, _, hr⟩
  · simp [Value.cells] at hcs
    obtain ⟨rfl, rfl, rfl⟩ := hcs
    exact ⟨none, 0, [], rfl, by simp, by simp, fun j l h => by simp at h, by simp⟩
  · simp [Value.cells] at hcs
    obtain ⟨rfl, rfl, rfl⟩ := hcs
    have hlen : ((List.range n0).map fun r => (Z r).take (L r)).length = n0 := by simp
    refine ⟨some a, c0, (List.range n0).map fun r => (Z r).take (L r), by rw [hlen], by rw [hlen]; exact hl, hm, fun j l hjl => ?_, fun l hl' x hx => ?_⟩
    · obtain ⟨hj, hjl'⟩ := List.getElem?_eq_some_iff.1 hjl
      rw [hlen] at hj
      have hjl2 : (Z j).take (L j) = l := by simpa using hjl'
      obtain ⟨h1, h2, h3, h4, h5, h6, h7⟩ := hr j (by omega)
      have hll : l.length = L j := by rw [← hjl2, List.length_take]; omega
      refine ⟨a, A j, C j, rfl, ?_, by rw [hll]; exact h1, by omega, fun hne => ?_⟩
      · have := World.block_lt_of_cell? W _ h1
        rwa [ad_block] at this
      · rcases hA : A j with _ | a'
        · exact absurd (List.eq_nil_of_length_eq_zero (by have := h6 hA; omega)) hne
        · obtain ⟨_, h8⟩ := h7 a' hA
          refine ⟨a', rfl, ?_, fun i u hu => ?_⟩
          · have h0 : 0 < l.length := by
              rcases l with _ | ⟨x, r⟩
              · exact absurd rfl hne
              · simp
            have := World.block_lt_of_cell? W _ (h8 0 (by omega))
            rwa [ad_block] at this
          · rw [← hjl2, List.getElem?_take] at hu
            split at hu
            · obtain ⟨hi, hiu⟩ := List.getElem?_eq_some_iff.1 hu
              rw [h8 i (by omega)]
              simp [List.getD, hu]
            · cases hu
    · simp only [List.mem_map, List.mem_range] at hl'
      obtain ⟨r, hr', rfl⟩ := hl'
      exact (hr r (by omega)).2.2.2.2.1 x (List.mem_of_mem_take hx)

/-! Whole numbers behind a row of the call's own. -/
/-- What lies below the own row's blocks stays. -/
theorem grown_below_own {a w : World} {row : Option Nat} (h : a.grownBy w row) {b : Nat} (hr : ∀ i, row = some i → b ≤ i) (hs : b ≤ a.heap.size) : Below b a w :=
  ⟨h.os, h.tape, h.output, h.size, fun i hi => h.block i (by omega) fun e => by have := hr i e.symm; omega⟩
/-- Two rows of the call's own of unlike types lie apart. -/
theorem own_apart {w w' : World} {b b' n n' : Nat} {e e' : TypeId} {v v' : Value} {xs xs' : List Value} (h : w.ownsRow b e 1 v n xs) (h' : w.ownsRow b' e' 1 v' n' xs') (hne : e ≠ e') (hg : w.grownBy w' v'.ownBlock) : w'.ownsRow b e 1 v n xs := by
  refine h.kept hg ?_
  cases hv : v.ownBlock with
  | none => exact .inl rfl
  | some g =>
    refine .inr fun he => ?_
    rcases h'.2 with ⟨rfl, _⟩ | ⟨g', cap, cur, rfl, _, hh, _⟩
    · simp [Value.ownBlock] at he
    · have : g' = g := by simpa [Value.ownBlock] using he.symm
      subst this
      exact own_ne h hh hne hv

end Go.Proofs.YticefepcoemkoaaDoor
