/-
  The program's book in memory: its day, its plans, 32 subscriptions: cell by cell; rows of any length by a function. No conditions but the sizes.
-/
import Derived.Test.YtblikgbcakgdnaaGreatBp02
import Derived.Test.YtblikgbcakgdnaaGreatBp04
import Derived.Test.YtblikgbcakgdnaaGreatBp13
set_option linter.unusedSimpArgs false
set_option linter.unusedVariables false
namespace Go.Proofs.YtblikgbcakgdnaaGreat
set_option maxRecDepth 100000
open Go.ChangeShapes Go.WideShapes Go.ChangeAt Go.RowKit

/-- A row of so many cells, by a function. -/
def rowF (n : Nat) (f : Nat → Value) : Array Value := Array.ofFn (n := n) fun k => f k.val
theorem rowF_size (n : Nat) (f : Nat → Value) : (rowF n f).size = n := Array.size_ofFn
theorem rowF_get {n : Nat} (f : Nat → Value) {k : Nat} (h : k < n) : (rowF n f)[k]? = some (f k) := by unfold rowF; rw [Array.getElem?_ofFn, dif_pos h]
theorem rowF_none {n : Nat} (f : Nat → Value) {k : Nat} (h : ¬ k < n) : (rowF n f)[k]? = none := by unfold rowF; rw [Array.getElem?_ofFn, dif_neg h]
theorem rowF_ext {n : Nat} {f g : Nat → Value} (h : ∀ k, k < n → f k = g k) : rowF n f = rowF n g := by
  unfold rowF; congr 1; funext k; exact h k.val k.isLt
theorem rowF_set (n : Nat) (f : Nat → Value) (o : Nat) (c : Value) : (rowF n f).setIfInBounds o c = rowF n (fun q => if q = o then c else f q) := by
  apply Array.ext_getElem?
  intro k
  rw [Array.getElem?_setIfInBounds, rowF_size]
  by_cases hk : k < n
  · rw [rowF_get _ hk, rowF_get _ hk]
    by_cases h : o = k
    · subst h; rw [if_pos rfl, if_pos hk, if_pos rfl]
    · rw [if_neg h, if_neg (fun e => h e.symm)]
  · rw [rowF_none _ hk, rowF_none _ hk]
    by_cases h : o = k
    · subst h; rw [if_pos rfl, if_neg hk]
    · rw [if_neg h]
theorem setCells_rowF (w : World) (B n : Nat) (t : TypeId) : ∀ (l : List Value) (o : Nat) (f : Nat → Value), (boxed w B (rowF n f) t).setCells B o l = boxed w B (rowF n (fun q => if o ≤ q ∧ q < o + l.length then (l[q - o]?).getD undef else f q)) t
  | [], o, f => by
    show boxed w B (rowF n f) t = _
    congr 1
    exact rowF_ext fun k _ => (if_neg (by first | (simp; done) | (simp; omega))).symm
  | v :: r, o, f => by
    rw [World.setCells, boxed_set, rowF_set, setCells_rowF w B n t r (o + 1)]
    congr 1
    refine rowF_ext fun k _ => ?_
    by_cases h0 : k = o
    · subst h0
      rw [if_neg (by omega), if_pos rfl, if_pos (by simp), Nat.sub_self]; rfl
    · by_cases h1 : o + 1 ≤ k ∧ k < o + 1 + r.length
      · rw [if_pos h1, if_pos (by simp; omega), show k - o = (k - (o + 1)) + 1 by omega, List.getElem?_cons_succ]
      · rw [if_neg h1, if_neg h0, if_neg (by simp; omega)]
theorem rowF_all {n : Nat} {f : Nat → Value} (h : ∀ k, k < n → (f k).oneCell' = true) : (rowF n f).all (·.oneCell') = true := by
  rw [Array.all_eq_true_iff_forall_mem]
  intro x hx
  obtain ⟨k, hk⟩ := Array.getElem?_of_mem hx
  by_cases hn : k < n
  · rw [rowF_get _ hn] at hk; injection hk with hk; rw [← hk]; exact h k hn
  · rw [rowF_none _ hn] at hk; cases hk
/-- A book: its day, the slice of its plans, its subscriptions with the slices of their cycles. -/
structure Kb where
  td : Int
  vp : Value
  a : Nat → Av
  v : Nat → Value
def Kb.at_ (b : Kb) (k : Nat) : Value := if k = 0 then .int .i64 b.td else if k = 1 then b.vp else (((b.a ((k - 2) / 13)).arr (b.v ((k - 2) / 13)))[(k - 2) % 13]?).getD undef
theorem Kb.row_ex (b : Kb) : ∃ a, a = rowF 418 b.at_ := ⟨_, rfl⟩
/-- Its cells, as one array that isn't looked into. -/
noncomputable def Kb.arr (b : Kb) : Array Value := Classical.choose b.row_ex
theorem Kb.arr_row (b : Kb) : b.arr = rowF 418 b.at_ := Classical.choose_spec b.row_ex
theorem Kb.arr_size (b : Kb) : b.arr.size = 418 := by rw [b.arr_row]; exact rowF_size _ _
theorem Kb.get (b : Kb) {k : Nat} (h : k < 418) : b.arr[k]? = some (b.at_ k) := by rw [b.arr_row]; exact rowF_get _ h
theorem Kb.at0 (b : Kb) : b.arr[0]? = some (.int .i64 b.td) := b.get (by omega)
theorem Kb.at1 (b : Kb) : b.arr[1]? = some b.vp := b.get (by omega)
theorem Kb.at_sub (b : Kb) {i j : Nat} (hj : j < 13) : b.at_ (2 + i * 13 + j) = (((b.a i).arr (b.v i))[j]?).getD undef := by
  unfold Kb.at_
  rw [if_neg (by omega), if_neg (by omega), show (2 + i * 13 + j - 2) / 13 = i by omega, show (2 + i * 13 + j - 2) % 13 = j by omega]
theorem Kb.sub (b : Kb) {i j : Nat} (hi : i < 32) (hj : j < 13) {v : Value} (h : ((b.a i).arr (b.v i))[j]? = some v) : b.arr[2 + i * 13 + j]? = some v := by
  rw [b.get (by omega), b.at_sub hj, h]; rfl
/-- One subscription is another one. -/
def Kb.put (b : Kb) (i : Nat) (a : Av) (v : Value) : Kb := { b with a := fun j => if j = i then a else b.a j, v := fun j => if j = i then v else b.v j }
theorem Kb.put_same (b : Kb) (i : Nat) (a : Av) (v : Value) : (b.put i a v).a i = a ∧ (b.put i a v).v i = v := ⟨if_pos rfl, if_pos rfl⟩
theorem Kb.put_other (b : Kb) {i j : Nat} (a : Av) (v : Value) (h : j ≠ i) : (b.put i a v).a j = b.a j ∧ (b.put i a v).v j = b.v j := ⟨if_neg h, if_neg h⟩
theorem Kb.at_put (b : Kb) {i k : Nat} (a : Av) (v : Value) (h : ¬ (2 + i * 13 ≤ k ∧ k < 2 + i * 13 + 13)) : (b.put i a v).at_ k = b.at_ k := by
  unfold Kb.at_
  by_cases h0 : k = 0
  · rw [if_pos h0, if_pos h0]; rfl
  by_cases h1 : k = 1
  · rw [if_neg h0, if_neg h0, if_pos h1, if_pos h1]; rfl
  · have hne : (k - 2) / 13 ≠ i := by omega
    rw [if_neg h0, if_neg h0, if_neg h1, if_neg h1, (b.put_other a v hne).1, (b.put_other a v hne).2]
theorem Kb.td_arr (b : Kb) (x : Int) : b.arr.setIfInBounds 0 (.int .i64 x) = ({ b with td := x } : Kb).arr := by
  rw [Kb.arr_row, Kb.arr_row, rowF_set]
  refine rowF_ext fun k _ => ?_
  unfold Kb.at_
  by_cases h0 : k = 0
  · rw [if_pos h0, if_pos h0]
  · simp only [if_neg h0]
theorem Kb.vp_arr (b : Kb) (x : Value) : b.arr.setIfInBounds 1 x = ({ b with vp := x } : Kb).arr := by
  rw [Kb.arr_row, Kb.arr_row, rowF_set]
  refine rowF_ext fun k _ => ?_
  unfold Kb.at_
  by_cases h1 : k = 1
  · rw [if_pos h1, if_neg (by omega), if_pos h1]
  · simp only [if_neg h1]
theorem Kb.elem0 (b : Kb) (h : 0 < b.arr.size) : b.arr[0] = .int .i64 b.td := by have := b.at0; rw [Array.getElem?_eq_getElem h] at this; injection this
theorem Kb.elem1 (b : Kb) (h : 1 < b.arr.size) : b.arr[1] = b.vp := by have := b.at1; rw [Array.getElem?_eq_getElem h] at this; injection this
attribute [simp, go_sem] Kb.arr_size Kb.at0 Kb.at1 Kb.td_arr Kb.vp_arr Kb.elem0 Kb.elem1
theorem Kb.info : (Tryz.prog.info? 35).map (·.size) = some 418 := by kernel_rfl
theorem Kb.infos : (Tryz.prog.info? 33).map (·.size) = some 416 := by kernel_rfl
theorem Kb.zero_size : Tryz.zeroCells35.size = 418 := by kernel_rfl
def Kb.One (b : Kb) : Prop := b.vp.oneCell' = true ∧ ∀ i, i < 32 → (b.v i).oneCell' = true
theorem Kb.One.arr {b : Kb} (h : b.One) : b.arr.all (·.oneCell') = true := by
  rw [b.arr_row]
  refine rowF_all fun k hk => ?_
  unfold Kb.at_
  split
  · rfl
  split
  · exact h.1
  · have hj : (k - 2) % 13 < 13 := Nat.mod_lt _ (by omega)
    have h1 := h.2 ((k - 2) / 13) (by omega)
    have h2 := Av.arr_one (a := b.a ((k - 2) / 13)) h1
    rw [Array.all_eq_true_iff_forall_mem] at h2
    have h3 : (k - 2) % 13 < ((b.a ((k - 2) / 13)).arr (b.v ((k - 2) / 13))).size := hj
    rw [Array.getElem?_eq_getElem h3]
    exact h2 _ (Array.getElem_mem h3)
theorem Kb.One.put {b : Kb} (h : b.One) (i : Nat) (a : Av) {v : Value} (hv : v.oneCell' = true) : (b.put i a v).One := by
  refine ⟨h.1, fun j hj => ?_⟩
  by_cases e : j = i
  · subst e; rw [(b.put_same j a v).2]; exact hv
  · rw [(b.put_other a v e).2]; exact h.2 j hj
section
variable {w : World} {B i : Nat} {b : Kb} {t : TypeId}
/-- A subscription's cells in the book's block. -/
theorem Kb.range {fr : Nat × Nat} (h : w.heap[B]? = some (.cells b.arr t fr)) (hi : i < 32) : w.rangeAt B (2 + i * 13) ((b.a i).arr (b.v i)).toList := by
  intro j u hu
  have hj : j < 13 := (List.getElem?_eq_some_iff.1 hu).1
  rw [cell_of_row _ _ _ _ _ _ h]
  exact b.sub hi hj (by rw [← Array.getElem?_toList]; exact hu)
theorem Kb.cell {fr : Nat × Nat} (h : w.heap[B]? = some (.cells b.arr t fr)) (hi : i < 32) {j : Nat} {u : Value} (hj : j < 13) (hu : ((b.a i).arr (b.v i))[j]? = some u) : w.cell? ⟨B, 2 + i * 13 + j, none⟩ = some u := by
  rw [cell_of_row _ _ _ _ _ _ h]
  exact b.sub hi hj hu
theorem Kb.there (h : B < w.heap.size) {o n : Nat} (ho : o + n ≤ 418) : (boxed w B b.arr t).there B o n := by
  intro j hj
  rw [boxed_cell h, boxed_frozen, b.get (by omega)]
  exact ⟨rfl, rfl⟩
theorem Kb.store (a : Av) (v : Value) : (boxed w B b.arr t).setCells B (2 + i * 13) (a.arr v).toList = boxed w B (b.put i a v).arr t := by
  rw [Kb.arr_row, setCells_rowF, Kb.arr_row]
  refine congrArg (fun z => boxed w B z t) (rowF_ext fun k _ => ?_)
  have hl : (a.arr v).toList.length = 13 := rfl
  rw [hl]
  by_cases h : 2 + i * 13 ≤ k ∧ k < 2 + i * 13 + 13
  · obtain ⟨j, rfl⟩ : ∃ j, k = 2 + i * 13 + j := ⟨k - (2 + i * 13), by omega⟩
    rw [if_pos h, Kb.at_sub _ (by omega), (b.put_same i a v).1, (b.put_same i a v).2, show 2 + i * 13 + j - (2 + i * 13) = j by omega, Array.getElem?_toList]
  · rw [if_neg h, Kb.at_put _ _ _ h]
end
/-- Its subscriptions alone. -/
def Kb.subAt (b : Kb) (k : Nat) : Value := b.at_ (2 + k)
theorem Kb.subs_ex (b : Kb) : ∃ a, a = rowF 416 b.subAt := ⟨_, rfl⟩
noncomputable def Kb.subs (b : Kb) : Array Value := Classical.choose b.subs_ex
theorem Kb.subs_row (b : Kb) : b.subs = rowF 416 b.subAt := Classical.choose_spec b.subs_ex
theorem Kb.subs_size (b : Kb) : b.subs.size = 416 := by rw [b.subs_row]; exact rowF_size _ _
theorem Kb.subs_get (b : Kb) {k : Nat} (h : k < 416) : b.subs[k]? = some (b.at_ (2 + k)) := by rw [b.subs_row]; exact rowF_get _ h
theorem Kb.range_subs {w : World} {B : Nat} {b : Kb} {t : TypeId} {fr : Nat × Nat} (h : w.heap[B]? = some (.cells b.arr t fr)) : w.rangeAt B 2 b.subs.toList := by
  intro j u hu
  have hj : j < 416 := by have := (List.getElem?_eq_some_iff.1 hu).1; rw [Array.length_toList, b.subs_size] at this; exact this
  rw [cell_of_row _ _ _ _ _ _ h, b.get (by omega), ← b.subs_get hj, ← Array.getElem?_toList]
  exact hu
theorem Kb.infos_l {b : Kb} : (Tryz.prog.info? 33).map (·.size) = some b.subs.toList.length := by rw [Array.length_toList, b.subs_size]; exact Kb.infos
theorem Kb.subs_cut (b : Kb) {i : Nat} (hi : i < 32) : b.subs.extract (i * 13) (i * 13 + 13) = (b.a i).arr (b.v i) := by
  apply Array.ext_getElem?
  intro j
  rw [Array.getElem?_extract, b.subs_size]
  by_cases hj : j < 13
  · rw [if_pos (by omega), b.subs_get (by omega), show 2 + (i * 13 + j) = 2 + i * 13 + j by omega, b.at_sub hj]
    have h3 : j < ((b.a i).arr (b.v i)).size := hj
    rw [Array.getElem?_eq_getElem h3]; rfl
  · rw [if_neg (by omega)]
    exact (Array.getElem?_eq_none (by show 13 ≤ j; omega)).symm
/-- One of them, out of the array by value. -/
theorem Kb.run_index (b : Kb) {i : Nat} (hi : i < 32) (w : World) : (Instr.index 33 (.agg b.subs) (.int .i64 (i : Int))).run Tryz.prog w = .ok (.agg ((b.a i).arr (b.v i))) w := by
  have h1 : Tryz.prog.underlying 33 = some (.array 32 32) := Tryz.underlying33
  have h2 : Tryz.prog.underlying 32 = some _ := Tryz.underlying32
  obtain ⟨ie, hie⟩ : ∃ ie, Tryz.prog.info? 32 = some ie := ⟨_, rfl⟩
  have hs : ie.size = 13 := by have := info13; rw [hie] at this; injection this
  have hr : (0 : Int) ≤ (i : Int) ∧ (i : Int) < 32 := by omega
  simp [Instr.index, run_underlying h1, run_underlying h2, asIntOf, hr, go_sem, part, isAgg, sizeOf, typeInfo, hie, hs, b.subs_cut hi]
  omega
end Go.Proofs.YtblikgbcakgdnaaGreat
