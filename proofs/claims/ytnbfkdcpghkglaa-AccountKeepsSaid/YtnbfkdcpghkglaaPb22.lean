/-
  The law's own world in memory: an account, what it should be, the day, the plan: cell by cell. No conditions but the sizes.
-/
import Derived.Test.YtnbfkdcpghkglaaPb21
set_option linter.unusedSimpArgs false
set_option linter.unusedVariables false
namespace Go.Proofs.Ytnbfkdcpghkglaa
set_option maxRecDepth 100000
open Go.ChangeShapes Go.WideShapes Go.ChangeAt Go.RowKit

/-- The law's world: an account with its slice, what it should be with its own, the day, the plan. -/
structure Wd where
  a : Av
  va : Value
  s : Sv
  vs : Value
  td : Int
  pl : Int
def Wd.at_ (b : Wd) (k : Nat) : Value := if k < 13 then ((b.a.arr b.va)[k]?).getD undef else if k < 20 then ((b.s.arr b.vs)[k - 13]?).getD undef else if k = 20 then .int .i64 b.td else .int .i64 b.pl
def Wd.row (b : Wd) : Array Value := Array.ofFn (n := 22) (fun k => b.at_ k.val)
theorem Wd.row_ex (b : Wd) : ∃ a, a = b.row := ⟨_, rfl⟩
/-- Its cells, as one array that isn't looked into. -/
noncomputable def Wd.arr (b : Wd) : Array Value := Classical.choose b.row_ex
theorem Wd.arr_row (b : Wd) : b.arr = b.row := Classical.choose_spec b.row_ex
theorem Wd.arr_size (b : Wd) : b.arr.size = 22 := by rw [b.arr_row]; exact Array.size_ofFn
theorem Wd.get (b : Wd) {k : Nat} (h : k < 22) : b.arr[k]? = some (b.at_ k) := by rw [b.arr_row]; unfold Wd.row; rw [Array.getElem?_ofFn, dif_pos h]
theorem Wd.none_ (b : Wd) {k : Nat} (h : ¬ k < 22) : b.arr[k]? = none := by rw [b.arr_row]; unfold Wd.row; rw [Array.getElem?_ofFn, dif_neg h]
theorem Wd.at14 (b : Wd) : b.arr[14]? = some (.int .i64 b.s.pl) := b.get (by omega)
theorem Wd.at20 (b : Wd) : b.arr[20]? = some (.int .i64 b.td) := b.get (by omega)
theorem Wd.at21 (b : Wd) : b.arr[21]? = some (.int .i64 b.pl) := b.get (by omega)
theorem Wd.elem14 (b : Wd) (h : 14 < b.arr.size) : b.arr[14] = .int .i64 b.s.pl := by have := b.at14; rw [Array.getElem?_eq_getElem h] at this; injection this
theorem Wd.elem20 (b : Wd) (h : 20 < b.arr.size) : b.arr[20] = .int .i64 b.td := by have := b.at20; rw [Array.getElem?_eq_getElem h] at this; injection this
theorem Wd.elem21 (b : Wd) (h : 21 < b.arr.size) : b.arr[21] = .int .i64 b.pl := by have := b.at21; rw [Array.getElem?_eq_getElem h] at this; injection this
attribute [simp, go_sem] Wd.arr_size Wd.at14 Wd.at20 Wd.at21 Wd.elem14 Wd.elem20 Wd.elem21
def updw (f : Nat → Value) (o : Nat) (c : Value) (q : Nat) : Value := if q = o then c else f q
theorem ofFn_setw (f : Nat → Value) (o : Nat) (c : Value) : (Array.ofFn (n := 22) fun k => f k.val).setIfInBounds o c = Array.ofFn (n := 22) fun k => updw f o c k.val := by
  apply Array.ext_getElem?
  intro k
  rw [Array.getElem?_setIfInBounds, Array.size_ofFn, Array.getElem?_ofFn, Array.getElem?_ofFn]
  by_cases h : o = k
  · subst h
    rw [if_pos rfl]
    by_cases hk : o < 22
    · rw [if_pos hk, dif_pos hk]
      exact congrArg some (if_pos rfl).symm
    · rw [if_neg hk, dif_neg hk]
  · rw [if_neg h]
    by_cases hk : k < 22
    · rw [dif_pos hk, dif_pos hk]
      exact congrArg some (if_neg (fun e => h (Eq.symm e))).symm
    · rw [dif_neg hk, dif_neg hk]
theorem row_ext {f g : Nat → Value} (h : ∀ k, k < 22 → f k = g k) : (Array.ofFn (n := 22) fun k => f k.val) = Array.ofFn (n := 22) fun k => g k.val := by
  congr 1
  funext k
  exact h k.val k.isLt
theorem Wd.set20 (b : Wd) (x : Int) : b.arr.setIfInBounds 20 (.int .i64 x) = ({ b with td := x } : Wd).arr := by
  rw [Wd.arr_row, Wd.arr_row]
  unfold Wd.row
  rw [ofFn_setw]
  refine row_ext fun k hk => ?_
  unfold updw Wd.at_
  by_cases h : k = 20
  · rw [if_pos h, if_neg (by omega), if_neg (by omega), if_pos h]
  · rw [if_neg h]
    simp only [if_neg h]
theorem Wd.set21 (b : Wd) (x : Int) : b.arr.setIfInBounds 21 (.int .i64 x) = ({ b with pl := x } : Wd).arr := by
  rw [Wd.arr_row, Wd.arr_row]
  unfold Wd.row
  rw [ofFn_setw]
  refine row_ext fun k hk => ?_
  unfold updw Wd.at_
  by_cases h : k = 21
  · rw [if_pos h, if_neg (by omega), if_neg (by omega), if_neg (by omega)]
  · rw [if_neg h]
    by_cases h1 : k < 13
    · rw [if_pos h1, if_pos h1]
    by_cases h2 : k < 20
    · rw [if_neg h1, if_neg h1, if_pos h2, if_pos h2]
    · rw [if_neg h1, if_neg h1, if_neg h2, if_neg h2, if_pos (show k = 20 by omega), if_pos (show k = 20 by omega)]
attribute [simp, go_sem] Wd.set20 Wd.set21
theorem Wd.info : (Try.prog.info? 38).map (·.size) = some 22 := by kernel_rfl
theorem Wd.arr_one {b : Wd} (ha : b.va.oneCell' = true) (hs : b.vs.oneCell' = true) : b.arr.all (·.oneCell') = true := by
  rw [Array.all_eq_true_iff_forall_mem]
  intro x hx
  obtain ⟨k, hk⟩ := Array.getElem?_of_mem hx
  by_cases h : k < 22
  · rw [b.get h] at hk
    injection hk with hk
    subst hk
    have : k = 0 ∨ k = 1 ∨ k = 2 ∨ k = 3 ∨ k = 4 ∨ k = 5 ∨ k = 6 ∨ k = 7 ∨ k = 8 ∨ k = 9 ∨ k = 10 ∨ k = 11 ∨ k = 12 ∨ k = 13 ∨ k = 14 ∨ k = 15 ∨ k = 16 ∨ k = 17 ∨ k = 18 ∨ k = 19 ∨ k = 20 ∨ k = 21 := by omega
    rcases this with rfl | rfl | rfl | rfl | rfl | rfl | rfl | rfl | rfl | rfl | rfl | rfl | rfl | rfl | rfl | rfl | rfl | rfl | rfl | rfl | rfl | rfl
    all_goals first | rfl | exact ha | exact hs
  · rw [b.none_ h] at hk; cases hk
section
variable {w : World} {B : Nat} {b : Wd} {t : TypeId}
theorem Wd.range_a {fr : Nat × Nat} (h : w.heap[B]? = some (.cells b.arr t fr)) : w.rangeAt B 0 (b.a.arr b.va).toList := by
  intro j u hu
  have hj : j < 13 := (List.getElem?_eq_some_iff.1 hu).1
  rw [cell_of_row _ _ _ _ _ _ h, Nat.zero_add, b.get (by omega)]
  unfold Wd.at_
  rw [if_pos hj, ← Array.getElem?_toList, hu]; rfl
theorem Wd.range_s {fr : Nat × Nat} (h : w.heap[B]? = some (.cells b.arr t fr)) : w.rangeAt B 13 (b.s.arr b.vs).toList := by
  intro j u hu
  have hj : j < 7 := (List.getElem?_eq_some_iff.1 hu).1
  rw [cell_of_row _ _ _ _ _ _ h, b.get (by omega)]
  unfold Wd.at_
  rw [if_neg (by omega), if_pos (by omega), Nat.add_sub_cancel_left, ← Array.getElem?_toList, hu]; rfl
theorem Wd.range_all {fr : Nat × Nat} (h : w.heap[B]? = some (.cells b.arr t fr)) : w.rangeAt B 0 b.arr.toList := by
  intro j u hu
  rw [cell_of_row _ _ _ _ _ _ h, Nat.zero_add, ← Array.getElem?_toList]
  exact hu
theorem Wd.info_all : (Try.prog.info? 38).map (·.size) = some b.arr.toList.length := by rw [Array.length_toList, Wd.arr_size]; exact Wd.info
theorem Wd.there (h : B < w.heap.size) {o n : Nat} (ho : o + n ≤ 22) : (boxed w B b.arr t).there B o n := by
  intro j hj
  rw [boxed_cell h, boxed_frozen, b.get (by omega)]
  exact ⟨rfl, rfl⟩
theorem Wd.nest_a (b : Wd) (a : Av) (v : Value) (k : Nat) (hk : k < 22) : updw (updw (updw (updw (updw (updw (updw (updw (updw (updw (updw (updw (updw b.at_ 0 (.int .u8 a.st)) 1 (.int .i64 a.pl)) 2 (.int .i64 a.an)) 3 (.int .i64 a.ix)) 4 (.int .i64 a.ct)) 5 (.int .i64 a.cr)) 6 (.bool a.sk)) 7 (v)) 8 (.int .i64 a.dn)) 9 (.int .i64 a.un)) 10 (.int .i64 a.rf)) 11 (.int .i64 a.sp)) 12 (.int .i64 a.pd) k = ({ b with a := a, va := v } : Wd).at_ k := by
  have hw : k = 0 ∨ k = 1 ∨ k = 2 ∨ k = 3 ∨ k = 4 ∨ k = 5 ∨ k = 6 ∨ k = 7 ∨ k = 8 ∨ k = 9 ∨ k = 10 ∨ k = 11 ∨ k = 12 ∨ k = 13 ∨ k = 14 ∨ k = 15 ∨ k = 16 ∨ k = 17 ∨ k = 18 ∨ k = 19 ∨ k = 20 ∨ k = 21 := by omega
  rcases hw with rfl | rfl | rfl | rfl | rfl | rfl | rfl | rfl | rfl | rfl | rfl | rfl | rfl | rfl | rfl | rfl | rfl | rfl | rfl | rfl | rfl | rfl
  all_goals rfl
theorem Wd.store_a (a : Av) (v : Value) : (boxed w B b.arr t).setCells B 0 (a.arr v).toList = boxed w B ({ b with a := a, va := v } : Wd).arr t := by
  have e : (a.arr v).toList = [.int .u8 a.st, .int .i64 a.pl, .int .i64 a.an, .int .i64 a.ix, .int .i64 a.ct, .int .i64 a.cr, .bool a.sk, v, .int .i64 a.dn, .int .i64 a.un, .int .i64 a.rf, .int .i64 a.sp, .int .i64 a.pd] := rfl
  rw [e]
  simp only [World.setCells, boxed_set, Nat.zero_add]
  rw [Wd.arr_row, Wd.arr_row]
  unfold Wd.row
  rw [ofFn_setw, ofFn_setw, ofFn_setw, ofFn_setw, ofFn_setw, ofFn_setw, ofFn_setw, ofFn_setw, ofFn_setw, ofFn_setw, ofFn_setw, ofFn_setw, ofFn_setw]
  exact congrArg (fun z => boxed w B z t) (row_ext fun k hk => Wd.nest_a b a v k hk)
theorem Wd.nest_s (b : Wd) (s : Sv) (v : Value) (k : Nat) (hk : k < 22) : updw (updw (updw (updw (updw (updw (updw b.at_ 13 (.int .u8 s.st)) 14 (.int .i64 s.pl)) 15 (.int .i64 s.an)) 16 (.int .i64 s.ix)) 17 (.int .i64 s.cr)) 18 (.bool s.sk)) 19 (v) k = ({ b with s := s, vs := v } : Wd).at_ k := by
  have hw : k = 0 ∨ k = 1 ∨ k = 2 ∨ k = 3 ∨ k = 4 ∨ k = 5 ∨ k = 6 ∨ k = 7 ∨ k = 8 ∨ k = 9 ∨ k = 10 ∨ k = 11 ∨ k = 12 ∨ k = 13 ∨ k = 14 ∨ k = 15 ∨ k = 16 ∨ k = 17 ∨ k = 18 ∨ k = 19 ∨ k = 20 ∨ k = 21 := by omega
  rcases hw with rfl | rfl | rfl | rfl | rfl | rfl | rfl | rfl | rfl | rfl | rfl | rfl | rfl | rfl | rfl | rfl | rfl | rfl | rfl | rfl | rfl | rfl
  all_goals rfl
theorem Wd.store_s (s : Sv) (v : Value) : (boxed w B b.arr t).setCells B 13 (s.arr v).toList = boxed w B ({ b with s := s, vs := v } : Wd).arr t := by
  have e : (s.arr v).toList = [.int .u8 s.st, .int .i64 s.pl, .int .i64 s.an, .int .i64 s.ix, .int .i64 s.cr, .bool s.sk, v] := rfl
  rw [e]
  simp only [World.setCells, boxed_set, Nat.zero_add]
  rw [Wd.arr_row, Wd.arr_row]
  unfold Wd.row
  rw [ofFn_setw, ofFn_setw, ofFn_setw, ofFn_setw, ofFn_setw, ofFn_setw, ofFn_setw]
  exact congrArg (fun z => boxed w B z t) (row_ext fun k hk => Wd.nest_s b s v k hk)
end
/-- A book that is just laid: its day, its plans, no subscriptions. -/
def Bk.new (td : Int) (vp : Value) : Bk := ⟨td, vp, fun _ => Sv.zero, fun _ => .slice none 0 0⟩
theorem Bk.new_one {td : Int} (vp : Value) (h : vp.oneCell' = true) : (Bk.new td vp).One := ⟨h, fun _ _ => rfl⟩
theorem row226 (f : Nat → Value) : (Array.ofFn (n := 226) fun k => f k.val) = ((List.range 226).map f).toArray := by
  apply Array.ext_getElem?
  intro k
  rw [Array.getElem?_ofFn]
  by_cases h : k < 226
  · simp [h]
  · simp [h]
theorem row22 (f : Nat → Value) : (Array.ofFn (n := 22) fun k => f k.val) = ((List.range 22).map f).toArray := by
  apply Array.ext_getElem?
  intro k
  rw [Array.getElem?_ofFn]
  by_cases h : k < 22
  · simp [h]
  · simp [h]
theorem Bk.new_built (td : Int) (A : Option Addr) (n c : Nat) : Try.prog.built 73 [(0, .int .i64 td), (1, .slice A n c)] = some (Bk.new td (.slice A n c)).arr := by
  rw [Bk.arr_row]
  unfold Bk.row
  rw [row226]
  kernel_rfl
theorem Wd.new_built (td pl : Int) : Try.prog.built 38 [(2, .int .i64 td), (3, .int .i64 pl)] = some (Wd.mk Av.zero (.slice none 0 0) Sv.zero (.slice none 0 0) td pl).arr := by
  rw [Wd.arr_row]
  unfold Wd.row
  rw [row22]
  kernel_rfl
/-- Two plans, one behind the other. -/
def Tw.row (ps : Nat → Pv) : Array Value := (ps 0).arr ++ (ps 1).arr
theorem Tw.row_ex (ps : Nat → Pv) : ∃ a, a = Tw.row ps := ⟨_, rfl⟩
noncomputable def Tw.arr (ps : Nat → Pv) : Array Value := Classical.choose (Tw.row_ex ps)
theorem Tw.arr_row (ps : Nat → Pv) : Tw.arr ps = Tw.row ps := Classical.choose_spec (Tw.row_ex ps)
theorem Tw.arr_size (ps : Nat → Pv) : (Tw.arr ps).size = 12 := by rw [Tw.arr_row]; rfl
attribute [simp, go_sem] Tw.arr_size
theorem Tw.info : (Try.prog.info? 27).map (·.size) = some 12 := by kernel_rfl
theorem Tw.arr_one (ps : Nat → Pv) : (Tw.arr ps).all (·.oneCell') = true := by rw [Tw.arr_row]; unfold Tw.row; rw [Array.all_append, Pv.arr_one, Pv.arr_one]; rfl
theorem Tw.range {w : World} {B : Nat} {ps : Nat → Pv} {t : TypeId} {fr : Nat × Nat} (h : w.heap[B]? = some (.cells (Tw.arr ps) t fr)) {k : Nat} (hk : k < 2) : w.rangeAt B (k * 6) (ps k).arr.toList := by
  intro j u hu
  have hj : j < 6 := (List.getElem?_eq_some_iff.1 hu).1
  rw [cell_of_row _ _ _ _ _ _ h, Tw.arr_row]
  unfold Tw.row
  rw [← Array.getElem?_toList, Array.toList_append]
  have h2 : k = 0 ∨ k = 1 := by omega
  rcases h2 with rfl | rfl
  · rw [List.getElem?_append_left (by show 0 * 6 + j < 6; omega), Nat.zero_mul, Nat.zero_add]; exact hu
  · rw [List.getElem?_append_right (by show 6 ≤ 1 * 6 + j; omega), show 1 * 6 + j - ((ps 0).arr).toList.length = j from by show 1 * 6 + j - 6 = j; omega]; exact hu
/-- Both plans lie in a slice. -/
theorem Tw.pls {w : World} {B B' : Nat} {ps : Nat → Pv} {t : TypeId} {fr : Nat × Nat} (h : w.heap[B]? = some (.cells (Tw.row ps) t fr)) (hb : B < B') : Pls w B' (.slice (some ⟨B, 0, none⟩) 2 2) [ps 0, ps 1] := by
  refine ⟨_, 2, rfl, Nat.le_refl _, by unfold maxLen; omega, fun k p hk => ⟨B, 0, rfl, hb, ?_⟩⟩
  have hk2 : k < 2 := (List.getElem?_eq_some_iff.1 hk).1
  have e : p = ps k := by
    have h2 : k = 0 ∨ k = 1 := by omega
    rcases h2 with rfl | rfl <;> (injection hk with hk; exact hk.symm)
  rw [← Tw.arr_row] at h
  rw [e, Nat.zero_add]
  exact Tw.range h hk2
end Go.Proofs.Ytnbfkdcpghkglaa
