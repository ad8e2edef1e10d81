/-
  A subscription of the program's, by its fields; what one cycle more makes of it, a list of them, a day. No conditions but those that each law names.
-/
import Derived.Lib.SliceRun
import Derived.Test.YtblikgbcakgdnaaGreatBr02
import Derived.Test.YtblikgbcakgdnaaGreatBr03
import Derived.Test.YtblikgbcakgdnaaGreatBr04
import Derived.Test.YtblikgbcakgdnaaGreatBr06
import Derived.Test.YtblikgbcakgdnaaGreatBr08
set_option linter.unusedSimpArgs false
set_option linter.unusedVariables false
namespace Go.Proofs.YtblikgbcakgdnaaGreat
set_option maxRecDepth 20000
open Go.ChangeShapes Go.WideShapes Go.ChangeAt Go.RowKit

/-- A subscription, by its fields: its state, its plan, the day from which periods count, the next one's number, how many cycles there have been, its credit; is the next one passed over? the open cycles; how many are done, unpaid, refunded, skipped, and what was paid. -/
structure Av where
  st : Int
  pl : Int
  an : Int
  ix : Int
  ct : Int
  cr : Int
  sk : Bool
  l : List Cv
  dn : Int
  un : Int
  rf : Int
  sp : Int
  pd : Int
def Av.arr (a : Av) (v : Value) : Array Value := #[.int .u8 a.st, .int .i64 a.pl, .int .i64 a.an, .int .i64 a.ix, .int .i64 a.ct, .int .i64 a.cr, .bool a.sk, v, .int .i64 a.dn, .int .i64 a.un, .int .i64 a.rf, .int .i64 a.sp, .int .i64 a.pd]
theorem Av.arr_size (a : Av) (v : Value) : (a.arr v).size = 13 := rfl
theorem Av.arr_one {a : Av} {v : Value} (h : v.oneCell' = true) : (a.arr v).all (·.oneCell') = true := by simp [Av.arr, Value.oneCell']; simpa [Value.oneCell'] using h
theorem Av.at0 (a : Av) (v : Value) : (a.arr v)[0]? = some (.int .u8 a.st) := rfl
theorem Av.at1 (a : Av) (v : Value) : (a.arr v)[1]? = some (.int .i64 a.pl) := rfl
theorem Av.at2 (a : Av) (v : Value) : (a.arr v)[2]? = some (.int .i64 a.an) := rfl
theorem Av.at3 (a : Av) (v : Value) : (a.arr v)[3]? = some (.int .i64 a.ix) := rfl
theorem Av.at4 (a : Av) (v : Value) : (a.arr v)[4]? = some (.int .i64 a.ct) := rfl
theorem Av.at5 (a : Av) (v : Value) : (a.arr v)[5]? = some (.int .i64 a.cr) := rfl
theorem Av.at6 (a : Av) (v : Value) : (a.arr v)[6]? = some (.bool a.sk) := rfl
theorem Av.at7 (a : Av) (v : Value) : (a.arr v)[7]? = some (v) := rfl
theorem Av.at8 (a : Av) (v : Value) : (a.arr v)[8]? = some (.int .i64 a.dn) := rfl
theorem Av.at9 (a : Av) (v : Value) : (a.arr v)[9]? = some (.int .i64 a.un) := rfl
theorem Av.at10 (a : Av) (v : Value) : (a.arr v)[10]? = some (.int .i64 a.rf) := rfl
theorem Av.at11 (a : Av) (v : Value) : (a.arr v)[11]? = some (.int .i64 a.sp) := rfl
theorem Av.at12 (a : Av) (v : Value) : (a.arr v)[12]? = some (.int .i64 a.pd) := rfl
theorem Av.set0 (a : Av) (v : Value) (x : Int) : (a.arr v).setIfInBounds 0 (.int .u8 x) = ({ a with st := x } : Av).arr v := rfl
theorem Av.set1 (a : Av) (v : Value) (x : Int) : (a.arr v).setIfInBounds 1 (.int .i64 x) = ({ a with pl := x } : Av).arr v := rfl
theorem Av.set2 (a : Av) (v : Value) (x : Int) : (a.arr v).setIfInBounds 2 (.int .i64 x) = ({ a with an := x } : Av).arr v := rfl
theorem Av.set3 (a : Av) (v : Value) (x : Int) : (a.arr v).setIfInBounds 3 (.int .i64 x) = ({ a with ix := x } : Av).arr v := rfl
theorem Av.set4 (a : Av) (v : Value) (x : Int) : (a.arr v).setIfInBounds 4 (.int .i64 x) = ({ a with ct := x } : Av).arr v := rfl
theorem Av.set5 (a : Av) (v : Value) (x : Int) : (a.arr v).setIfInBounds 5 (.int .i64 x) = ({ a with cr := x } : Av).arr v := rfl
theorem Av.set6 (a : Av) (v : Value) (x : Bool) : (a.arr v).setIfInBounds 6 (.bool x) = ({ a with sk := x } : Av).arr v := rfl
theorem Av.set7 (a : Av) (v v' : Value) : (a.arr v).setIfInBounds 7 v' = a.arr v' := rfl
theorem Av.set8 (a : Av) (v : Value) (x : Int) : (a.arr v).setIfInBounds 8 (.int .i64 x) = ({ a with dn := x } : Av).arr v := rfl
theorem Av.set9 (a : Av) (v : Value) (x : Int) : (a.arr v).setIfInBounds 9 (.int .i64 x) = ({ a with un := x } : Av).arr v := rfl
theorem Av.set10 (a : Av) (v : Value) (x : Int) : (a.arr v).setIfInBounds 10 (.int .i64 x) = ({ a with rf := x } : Av).arr v := rfl
theorem Av.set11 (a : Av) (v : Value) (x : Int) : (a.arr v).setIfInBounds 11 (.int .i64 x) = ({ a with sp := x } : Av).arr v := rfl
theorem Av.set12 (a : Av) (v : Value) (x : Int) : (a.arr v).setIfInBounds 12 (.int .i64 x) = ({ a with pd := x } : Av).arr v := rfl
attribute [simp, go_sem] Av.arr_size Av.at0 Av.at1 Av.at2 Av.at3 Av.at4 Av.at5 Av.at6 Av.at7 Av.at8 Av.at9 Av.at10 Av.at11 Av.at12 Av.set0 Av.set1 Av.set2 Av.set3 Av.set4 Av.set5 Av.set6 Av.set7 Av.set8 Av.set9 Av.set10 Av.set11 Av.set12
/-- To stop a walk at an operation, while a text is written. -/
structure Hid2 (p : Prop) : Prop where
  out : p
theorem stop_here {p : Prop} (h : Hid2 p) : p := h.out
def Av.zero : Av := ⟨0, 0, 0, 0, 0, 0, false, [], 0, 0, 0, 0, 0⟩
theorem Av.zero_arr : Av.zero.arr (.slice none 0 0) = #[.int .u8 0, .int .i64 0, .int .i64 0, .int .i64 0, .int .i64 0, .int .i64 0, .bool false, .slice none 0 0, .int .i64 0, .int .i64 0, .int .i64 0, .int .i64 0, .int .i64 0] := rfl
theorem info13 : (Tryz.prog.info? 32).map (·.size) = some 13 := by kernel_rfl
/-- One cycle more: open, or past. -/
def Av.with_ (a : Av) (c : Cv) : Av :=
  if c.p < 7 then { a with l := a.l ++ [c] }
  else if c.p = 7 then { a with dn := a.dn + 1, pd := a.pd + c.a }
  else if c.p = 8 then { a with un := a.un + 1, cr := a.cr + c.u }
  else if c.p = 9 then { a with rf := a.rf + 1, cr := a.cr + c.u }
  else if c.p = 10 then { a with sp := a.sp + 1 }
  else a
/-- Those that are at their end are past. -/
def Av.settled (a : Av) : Av := a.l.foldl Av.with_ { a with l := [] }
def Av.each (a : Av) (f : Cv → Cv) : Av := Av.settled { a with l := a.l.map f }
/-- A cycle's numbers are small. -/
structure Cv.Fit (c : Cv) : Prop where
  a0 : -1000000000000 ≤ c.a
  a1 : c.a ≤ 1000000000000
  u0 : -1000000000000 ≤ c.u
  u1 : c.u ≤ 1000000000000
  t0 : 0 ≤ c.t
  t1 : c.t ≤ 1000
/-- A subscription's numbers are small, by so many cycles as there have been. -/
structure Av.Fit (a : Av) (m : Nat) : Prop where
  d0 : 0 ≤ a.dn
  d1 : a.dn ≤ m
  n0 : 0 ≤ a.un
  n1 : a.un ≤ m
  r0 : 0 ≤ a.rf
  r1 : a.rf ≤ m
  s0 : 0 ≤ a.sp
  s1 : a.sp ≤ m
  c0 : -(m * 1000000000000) ≤ a.cr
  c1 : a.cr ≤ m * 1000000000000
  p0 : -(m * 1000000000000) ≤ a.pd
  p1 : a.pd ≤ m * 1000000000000
theorem Av.Fit.more {a : Av} {m m' : Nat} (h : a.Fit m) (hm : m ≤ m') : a.Fit m' := by
  obtain ⟨h0, h1, h2, h3, h4, h5, h6, h7, h8, h9, h10, h11⟩ := h
  constructor <;> omega
theorem Av.Fit.with_ {a : Av} {m : Nat} {c : Cv} (h : a.Fit m) (hc : c.Fit) : (a.with_ c).Fit (m + 1) := by
  obtain ⟨h0, h1, h2, h3, h4, h5, h6, h7, h8, h9, h10, h11⟩ := h
  obtain ⟨g0, g1, g2, g3, _, _⟩ := hc
  unfold Av.with_
  split
  · constructor <;> dsimp only <;> omega
  split
  · constructor <;> dsimp only <;> omega
  split
  · constructor <;> dsimp only <;> omega
  split
  · constructor <;> dsimp only <;> omega
  split
  · constructor <;> dsimp only <;> omega
  · constructor <;> omega
theorem Av.with_len (a : Av) (c : Cv) : (a.with_ c).l.length ≤ a.l.length + 1 := by
  unfold Av.with_
  repeat' split
  all_goals simp
/-- A list of the call's own. -/
def Own (w : World) (b : Nat) (v : Value) (l : List Cv) : Prop := w.ownsRow b 112 8 v l.length (ccs l)
theorem Own.nil (w : World) (b : Nat) : Own w b (.slice none 0 0) [] := World.ownsRow_nil _ _ _ _
theorem Own.one {w : World} {b : Nat} {v : Value} {l : List Cv} (h : Own w b v l) : v.oneCell' = true := by
  obtain ⟨A, c, rfl, _⟩ := own_form h; rfl
theorem Own.form {w : World} {b : Nat} {v : Value} {l : List Cv} (h : Own w b v l) : ∃ A c, v = .slice A l.length c ∧ l.length ≤ c ∧ c ≤ maxLen := own_form h
theorem Own.kept {w w' : World} {b : Nat} {v : Value} {l : List Cv} (h : Own w b v l) (hk : ∀ i, b ≤ i → i < w.heap.size → w'.heap[i]? = w.heap[i]?) : Own w' b v l := own_kept h fun i hi => hk i (h.lt i hi).1 (h.lt i hi).2
theorem Own.below {w w' : World} {b : Nat} {v : Value} {l : List Cv} (h : Own w b v l) (hk : Below w.heap.size w w') : Own w' b v l := h.kept fun i _ hi => hk.block i hi
theorem Own.more {w : World} {b b' : Nat} {v : Value} {l : List Cv} (h : Own w b v l) (hb : b' ≤ b) : Own w b' v l := ⟨h.1, h.2.elim .inl fun ⟨g, cap, cur, h1, h2, h3⟩ => .inr ⟨g, cap, cur, h1, by omega, h3⟩⟩
theorem Own.at_ {w : World} {b : Nat} {v : Value} {l : List Cv} (h : Own w b v l) : ∀ i, v.ownBlock = some i → b ≤ i ∧ i < w.heap.size := h.lt
theorem Own.boxed {w : World} {b n : Nat} {v : Value} {l : List Cv} {cs : Array Value} {t : TypeId} (h : Own w b v l) (hn : n < b) : Own (Go.Proofs.YtblikgbcakgdnaaGreat.boxed w n cs t) b v l := h.kept fun i hi _ => boxed_block_other (by omega)
theorem Own.boxed_new {w : World} {b n : Nat} {v : Value} {l : List Cv} {cs : Array Value} {t : TypeId} (h : Own w b v l) (hn : ∀ i, v.ownBlock = some i → i ≠ n) : Own (Go.Proofs.YtblikgbcakgdnaaGreat.boxed w n cs t) b v l := own_kept h fun i hi => boxed_block_other (hn i hi)
theorem Own.alloc {w : World} {b : Nat} {v : Value} {l : List Cv} {o : Obj} (h : Own w b v l) : Own (w.alloc o) b v l := World.ownsRow.alloc h o
theorem Own.drew {w : World} {b : Nat} {v : Value} {l : List Cv} (h : Own w b v l) : Own w.drew b v l := h.kept fun _ _ _ => rfl
theorem Cys.boxed {w : World} {b B n : Nat} {v : Value} {l : List Cv} {cs : Array Value} {t : TypeId} (h : Cys w b B v l) (hn : n < b ∨ B ≤ n) : Cys (Go.Proofs.YtblikgbcakgdnaaGreat.boxed w n cs t) b B v l := h.kept fun i h1 h2 => boxed_block_other (by omega)
theorem Own.cys {w : World} {b : Nat} {v : Value} {l : List Cv} (h : Own w b v l) : Cys w b w.heap.size v l := Cys.own h
/-- What is answered: a subscription with a list of its own. -/
def Puts (w : World) (b : Nat) (v : Value) (a : Av) (e : Ending) (w' : World) : Prop :=
  ∃ v', e = .returned (.agg (a.arr v')) ∧ Own w' b v' a.l ∧ w.grownBy w' v.ownBlock ∧ (v'.ownBlock = v.ownBlock ∨ ∀ i, v'.ownBlock = some i → w.heap.size ≤ i)
theorem grown_from {w w' : World} {b : Nat} {v : Value} (h : w.grownBy w' v.ownBlock) (hv : ∀ i, v.ownBlock = some i → b ≤ i) (hb : b ≤ w.heap.size) : Below b w w' :=
  ⟨h.os, h.tape, h.output, h.size, fun i hi => h.block i (by omega) fun e => by have := hv i e.symm; omega⟩
end Go.Proofs.YtblikgbcakgdnaaGreat
/-
  A list of cycles copied; a subscription with a list of its own. No conditions but the sizes.
-/
namespace Go.Proofs.YtblikgbcakgdnaaGreat
set_option maxRecDepth 20000
open Go.ChangeShapes Go.WideShapes Go.ChangeAt Go.RowKit

set_option maxHeartbeats 1000000 in
theorem cyclone_any {w : World} {v : Value} {l : List Cv} (h : Cys w 0 w.heap.size v l) (hs : l.length ≤ 1000000) :
    Calls Tryz.prog 84 #[v] w fun e w' => ∃ v', e = .returned v' ∧ Own w' w.heap.size v' l ∧ Below w.heap.size w w' := by
  have H := Lib.hid h
  obtain ⟨A, c, rfl, h1, h2, h3, h4⟩ := h
  rcases A with _ | a
  · obtain rfl := h4 rfl
    obtain rfl : l = [] := List.eq_nil_of_length_eq_zero (by omega)
    clear h3 h4 H h1 h2
    have q := fun w => Lib.run_eql_slice_nil (P := Tryz.prog) w 28 112 none 0 0 0 0 Tryz.underlying28
    go_enter Tryz.func84, Tryz.ntmps84
    go_wp2
    go_ret
    exact ⟨_, rfl, Own.nil _ _, Below.refl _ _⟩
  · clear h3 h4
    have q := fun w => Lib.run_eql_slice_nil (P := Tryz.prog) w 28 112 (some a) l.length c 0 0 Tryz.underlying28
    go_enter Tryz.func84, Tryz.ntmps84
    go_wp2_with (at_builtin; refine wpList_append_cys cyty rfl _ _ rfl (l0 := []) (base := w.heap.size) rfl rfl (World.ownsRow_made w #[] 0 (Nat.le_refl _) (by unfold maxLen; omega) rfl) (H.out.below ((Below.refl _ w).alloc (Nat.le_refl _) _)) (by simp; omega) (by simp) ?_; intro v1 w1 ho1 hg1 _; rw [List.nil_append] at ho1)
    go_ret
    exact ⟨_, rfl, ho1, ((Below.refl _ w).alloc (Nat.le_refl _) _).trans (grown_from (b := w.heap.size) hg1 (fun i hi => by injection hi with hi; subst hi; exact Nat.le_refl _) (by simp))⟩
/-- A subscription that is answered, in new blocks. -/
def New (w : World) (a : Av) (e : Ending) (w' : World) : Prop := ∃ v', e = .returned (.agg (a.arr v')) ∧ Own w' w.heap.size v' a.l ∧ Below w.heap.size w w'
set_option maxHeartbeats 1000000 in
theorem copy_any {w : World} {v : Value} {a : Av} (h : Cys w 0 w.heap.size v a.l) (hs : a.l.length ≤ 1000000) : Calls Tryz.prog 55 #[.agg (a.arr v)] w (New w a) := by
  have H := Lib.hid h
  go_enter Tryz.func55, Tryz.ntmps55
  go_wp2_with (fail)
  refine (cyclone_any (l := a.l) ((H.out.below (((Below.refl _ w).alloc (Nat.le_refl _) _).alloc (by simp) _)).more (Nat.le_refl _) (by simp; omega)) hs).mono ?_
  rintro e w1 ⟨v1, rfl, ho, hb⟩
  rw [World.size_alloc, World.size_alloc] at ho
  obtain ⟨A1, c1, rfl, _, _⟩ := ho.form
  have HO := Lib.hid ho
  obtain ⟨hw, z0, z1, e1⟩ := two_of hb
  rw [e1]
  have HW := Lib.hid hw
  clear e1 hb hw ho
  go_wp2_with (first | ((with_reducible_and_instances (show wpList _ _ _ (Oper.mk _ (Op.load 32 _) _ _ _ _ :: _) _ _)); refine wl_load Tryz.underlying32 rfl info13 rfl rfl rfl (by (repeat (first | assumption | (with_reducible refine alloc_at ?_; (focus (first | omega | (simp; done) | (simp; omega)))) | (with_reducible refine boxed_at ?_; (focus (first | omega | (simp; done) | (simp; omega)))) | (with_reducible refine alloc_old ?_ ?_; (focus (first | omega | (simp; done) | (simp; omega)))) | (with_reducible refine boxed_old ?_ ?_; (focus (first | omega | (simp; done) | (simp; omega)))) | (with_reducible refine drew_old ?_)))) (by rfl) ?_) | ((with_reducible_and_instances (show wpList _ _ _ (Oper.mk _ (Op.store 32 _ _) _ _ _ _ :: _) _ _)); refine wl_store info13 rfl rfl rfl rfl (by (repeat (first | assumption | (with_reducible refine alloc_at ?_; (focus (first | omega | (simp; done) | (simp; omega)))) | (with_reducible refine boxed_at ?_; (focus (first | omega | (simp; done) | (simp; omega)))) | (with_reducible refine alloc_old ?_ ?_; (focus (first | omega | (simp; done) | (simp; omega)))) | (with_reducible refine boxed_old ?_ ?_; (focus (first | omega | (simp; done) | (simp; omega)))) | (with_reducible refine drew_old ?_)))) (by rfl) (by rfl) (by first | exact Cv.arr_one _ | exact Nv.arr_one _ | exact Av.arr_one rfl | simp [Value.oneCell']) ?_))
  refine bodyPost_ret (results_cell_row rfl _ _ ((w.heap.size+1)) 32 _ (0, 0) _ rfl (by (repeat (first | assumption | (with_reducible refine alloc_at ?_; (focus (first | omega | (simp; done) | (simp; omega)))) | (with_reducible refine boxed_at ?_; (focus (first | omega | (simp; done) | (simp; omega)))) | (with_reducible refine alloc_old ?_ ?_; (focus (first | omega | (simp; done) | (simp; omega)))) | (with_reducible refine boxed_old ?_ ?_; (focus (first | omega | (simp; done) | (simp; omega)))) | (with_reducible refine drew_old ?_)))) Tryz.underlying32 rfl (by exact info13)) rfl ?_
  have ho := HO.out
  have hw := HW.out
  have hx : w.heap.size + 1 + 1 ≤ w1.heap.size := by omega
  refine ⟨_, rfl, Own.more (b := w.heap.size + 1 + 1) (by (repeat (first | assumption | (with_reducible refine Own.boxed ?_ ?_; rotate_left; (focus (first | omega | (simp; done) | (simp; omega)))) | (with_reducible refine Own.alloc ?_) | (with_reducible refine Own.drew ?_)))) (by omega), by (repeat (first | assumption | (with_reducible exact Below.refl _ _) | (with_reducible refine boxed_below ?_ ?_; rotate_left; (focus (first | omega | (simp; done) | (simp; omega)))) | (with_reducible refine Below.alloc ?_ ?_ _; rotate_left; (focus (first | omega | (simp; done) | (simp; omega)))) | (with_reducible refine Below.drew ?_)))⟩
end Go.Proofs.YtblikgbcakgdnaaGreat
/-
  The program's book in memory: its day, its plans, 32 subscriptions: cell by cell; rows of any length by a function. No conditions but the sizes.
-/
namespace Go.Proofs.YtblikgbcakgdnaaGreat
set_option maxRecDepth 100000
open Go.ChangeShapes Go.WideShapes Go.ChangeAt Go.RowKit

/-- A row of so many cells, by a function. -/
def rowF (n : Nat) (f : Nat → Value) : Array Value := Array.ofFn (n := n) fun k => f k.val
theorem rowF_size (n : Nat) (f : Nat → Value) : (rowF n f).size = n := Array.size_ofFn
theorem rowF_get {n : Nat} (f : Nat → Value) {k : Nat} (h : k < n) : (rowF n f)[k]? = some (f k) := by unfold rowF; rw [Array.getElem?_ofFn, dif_pos h]
theorem rowF_none {n : Nat} (f : Nat → Value) {k : Nat} (h : ¬ k < n) : (rowF n f)[k]? = none := by unfold rowF; rw [Array.getElem?_ofFn, dif_neg h]
theorem rowF_ext {n : Nat} {f g : Nat → Value} (h : ∀ k, k < n → f k = g k) : rowF n f = rowF n g := by
  unfold rowF; congr 1; funext k; exact h k.val k.isLt
theorem rowF_set (n : Nat) (f : Nat → Value) (o : Nat) (c : Value) : (rowF n f).setIfInBounds o c = rowF n (fun q => if q = o then c else f q) := by
  apply Array.ext_getElem?
  intro k
  rw [Array.getElem?_setIfInBounds, rowF_size]
  by_cases hk : k < n
  · rw [rowF_get _ hk, rowF_get _ hk]
    by_cases h : o = k
    · subst h; rw [if_pos rfl, if_pos hk, if_pos rfl]
    · rw [if_neg h, if_neg (fun e => h e.symm)]
  · rw [rowF_none _ hk, rowF_none _ hk]
    by_cases h : o = k
    · subst h; rw [if_pos rfl, if_neg hk]
    · rw [if_neg h]
theorem setCells_rowF (w : World) (B n : Nat) (t : TypeId) : ∀ (l : List Value) (o : Nat) (f : Nat → Value), (boxed w B (rowF n f) t).setCells B o l = boxed w B (rowF n (fun q => if o ≤ q ∧ q < o + l.length then (l[q - o]?).getD undef else f q)) t
  | [], o, f => by
    show boxed w B (rowF n f) t = _
    congr 1
    exact rowF_ext fun k _ => (if_neg (by first | (simp; done) | (simp; omega))).symm
  | v :: r, o, f => by
    rw [World.setCells, boxed_set, rowF_set, setCells_rowF w B n t r (o + 1)]
    congr 1
    refine rowF_ext fun k _ => ?_
    by_cases h0 : k = o
    · subst h0
      rw [if_neg (by omega), if_pos rfl, if_pos (by simp), Nat.sub_self]; rfl
    · by_cases h1 : o + 1 ≤ k ∧ k < o + 1 + r.length
      · rw [if_pos h1, if_pos (by simp; omega), show k - o = (k - (o + 1)) + 1 by omega, List.getElem?_cons_succ]
      · rw [if_neg h1, if_neg h0, if_neg (by simp; omega)]
theorem rowF_all {n : Nat} {f : Nat → Value} (h : ∀ k, k < n → (f k).oneCell' = true) : (rowF n f).all (·.oneCell') = true := by
  rw [Array.all_eq_true_iff_forall_mem]
  intro x hx
  obtain ⟨k, hk⟩ := Array.getElem?_of_mem hx
  by_cases hn : k < n
  · rw [rowF_get _ hn] at hk; injection hk with hk; rw [← hk]; exact h k hn
  · rw [rowF_none _ hn] at hk; cases hk
/-- A book: its day, the slice of its plans, its subscriptions with the slices of their cycles. -/
structure Kb where
  td : Int
  vp : Value
  a : Nat → Av
  v : Nat → Value
def Kb.at_ (b : Kb) (k : Nat) : Value := if k = 0 then .int .i64 b.td else if k = 1 then b.vp else (((b.a ((k - 2) / 13)).arr (b.v ((k - 2) / 13)))[(k - 2) % 13]?).getD undef
theorem Kb.row_ex (b : Kb) : ∃ a, a = rowF 418 b.at_ := ⟨_, rfl⟩
/-- Its cells, as one array that isn't looked into. -/
noncomputable def Kb.arr (b : Kb) : Array Value := Classical.choose b.row_ex
theorem Kb.arr_row (b : Kb) : b.arr = rowF 418 b.at_ := Classical.choose_spec b.row_ex
theorem Kb.arr_size (b : Kb) : b.arr.size = 418 := by rw [b.arr_row]; exact rowF_size _ _
theorem Kb.get (b : Kb) {k : Nat} (h : k < 418) : b.arr[k]? = some (b.at_ k) := by rw [b.arr_row]; exact rowF_get _ h
theorem Kb.at0 (b : Kb) : b.arr[0]? = some (.int .i64 b.td) := b.get (by omega)
theorem Kb.at1 (b : Kb) : b.arr[1]? = some b.vp := b.get (by omega)
theorem Kb.at_sub (b : Kb) {i j : Nat} (hj : j < 13) : b.at_ (2 + i * 13 + j) = (((b.a i).arr (b.v i))[j]?).getD undef := by
  unfold Kb.at_
  rw [if_neg (by omega), if_neg (by omega), show (2 + i * 13 + j - 2) / 13 = i by omega, show (2 + i * 13 + j - 2) % 13 = j by omega]
theorem Kb.sub (b : Kb) {i j : Nat} (hi : i < 32) (hj : j < 13) {v : Value} (h : ((b.a i).arr (b.v i))[j]? = some v) : b.arr[2 + i * 13 + j]? = some v := by
  rw [b.get (by omega), b.at_sub hj, h]; rfl
/-- One subscription is another one. -/
def Kb.put (b : Kb) (i : Nat) (a : Av) (v : Value) : Kb := { b with a := fun j => if j = i then a else b.a j, v := fun j => if j = i then v else b.v j }
theorem Kb.put_same (b : Kb) (i : Nat) (a : Av) (v : Value) : (b.put i a v).a i = a ∧ (b.put i a v).v i = v := ⟨if_pos rfl, if_pos rfl⟩
theorem Kb.put_other (b : Kb) {i j : Nat} (a : Av) (v : Value) (h : j ≠ i) : (b.put i a v).a j = b.a j ∧ (b.put i a v).v j = b.v j := ⟨if_neg h, if_neg h⟩
theorem Kb.at_put (b : Kb) {i k : Nat} (a : Av) (v : Value) (h : ¬ (2 + i * 13 ≤ k ∧ k < 2 + i * 13 + 13)) : (b.put i a v).at_ k = b.at_ k := by
  unfold Kb.at_
  by_cases h0 : k = 0
  · rw [if_pos h0, if_pos h0]; rfl
  by_cases h1 : k = 1
  · rw [if_neg h0, if_neg h0, if_pos h1, if_pos h1]; rfl
  · have hne : (k - 2) / 13 ≠ i := by omega
    rw [if_neg h0, if_neg h0, if_neg h1, if_neg h1, (b.put_other a v hne).1, (b.put_other a v hne).2]
theorem Kb.td_arr (b : Kb) (x : Int) : b.arr.setIfInBounds 0 (.int .i64 x) = ({ b with td := x } : Kb).arr := by
  rw [Kb.arr_row, Kb.arr_row, rowF_set]
  refine rowF_ext fun k _ => ?_
  unfold Kb.at_
  by_cases h0 : k = 0
  · rw [if_pos h0, if_pos h0]
  · simp only [if_neg h0]
theorem Kb.vp_arr (b : Kb) (x : Value) : b.arr.setIfInBounds 1 x = ({ b with vp := x } : Kb).arr := by
  rw [Kb.arr_row, Kb.arr_row, rowF_set]
  refine rowF_ext fun k _ => ?_
  unfold Kb.at_
  by_cases h1 : k = 1
  · rw [if_pos h1, if_neg (by omega), if_pos h1]
  · simp only [if_neg h1]
theorem Kb.elem0 (b : Kb) (h : 0 < b.arr.size) : b.arr[0] = .int .i64 b.td := by have := b.at0; rw [Array.getElem?_eq_getElem h] at this; injection this
theorem Kb.elem1 (b : Kb) (h : 1 < b.arr.size) : b.arr[1] = b.vp := by have := b.at1; rw [Array.getElem?_eq_getElem h] at this; injection this
attribute [simp, go_sem] Kb.arr_size Kb.at0 Kb.at1 Kb.td_arr Kb.vp_arr Kb.elem0 Kb.elem1
theorem Kb.info : (Tryz.prog.info? 35).map (·.size) = some 418 := by kernel_rfl
theorem Kb.infos : (Tryz.prog.info? 33).map (·.size) = some 416 := by kernel_rfl
theorem Kb.zero_size : Tryz.zeroCells35.size = 418 := by kernel_rfl
def Kb.One (b : Kb) : Prop := b.vp.oneCell' = true ∧ ∀ i, i < 32 → (b.v i).oneCell' = true
theorem Kb.One.arr {b : Kb} (h : b.One) : b.arr.all (·.oneCell') = true := by
  rw [b.arr_row]
  refine rowF_all fun k hk => ?_
  unfold Kb.at_
  split
  · rfl
  split
  · exact h.1
  · have hj : (k - 2) % 13 < 13 := Nat.mod_lt _ (by omega)
    have h1 := h.2 ((k - 2) / 13) (by omega)
    have h2 := Av.arr_one (a := b.a ((k - 2) / 13)) h1
    rw [Array.all_eq_true_iff_forall_mem] at h2
    have h3 : (k - 2) % 13 < ((b.a ((k - 2) / 13)).arr (b.v ((k - 2) / 13))).size := hj
    rw [Array.getElem?_eq_getElem h3]
    exact h2 _ (Array.getElem_mem h3)
theorem Kb.One.put {b : Kb} (h : b.One) (i : Nat) (a : Av) {v : Value} (hv : v.oneCell' = true) : (b.put i a v).One := by
  refine ⟨h.1, fun j hj => ?_⟩
  by_cases e : j = i
  · subst e; rw [(b.put_same j a v).2]; exact hv
  · rw [(b.put_other a v e).2]; exact h.2 j hj
section
variable {w : World} {B i : Nat} {b : Kb} {t : TypeId}
/-- A subscription's cells in the book's block. -/
theorem Kb.range {fr : Nat × Nat} (h : w.heap[B]? = some (.cells b.arr t fr)) (hi : i < 32) : w.rangeAt B (2 + i * 13) ((b.a i).arr (b.v i)).toList := by
  intro j u hu
  have hj : j < 13 := (List.getElem?_eq_some_iff.1 hu).1
  rw [cell_of_row _ _ _ _ _ _ h]
  exact b.sub hi hj (by rw [← Array.getElem?_toList]; exact hu)
theorem Kb.cell {fr : Nat × Nat} (h : w.heap[B]? = some (.cells b.arr t fr)) (hi : i < 32) {j : Nat} {u : Value} (hj : j < 13) (hu : ((b.a i).arr (b.v i))[j]? = some u) : w.cell? ⟨B, 2 + i * 13 + j, none⟩ = some u := by
  rw [cell_of_row _ _ _ _ _ _ h]
  exact b.sub hi hj hu
theorem Kb.there (h : B < w.heap.size) {o n : Nat} (ho : o + n ≤ 418) : (boxed w B b.arr t).there B o n := by
  intro j hj
  rw [boxed_cell h, boxed_frozen, b.get (by omega)]
  exact ⟨rfl, rfl⟩
theorem Kb.store (a : Av) (v : Value) : (boxed w B b.arr t).setCells B (2 + i * 13) (a.arr v).toList = boxed w B (b.put i a v).arr t := by
  rw [Kb.arr_row, setCells_rowF, Kb.arr_row]
  refine congrArg (fun z => boxed w B z t) (rowF_ext fun k _ => ?_)
  have hl : (a.arr v).toList.length = 13 := rfl
  rw [hl]
  by_cases h : 2 + i * 13 ≤ k ∧ k < 2 + i * 13 + 13
  · obtain ⟨j, rfl⟩ : ∃ j, k = 2 + i * 13 + j := ⟨k - (2 + i * 13), by omega⟩
    rw [if_pos h, Kb.at_sub _ (by omega), (b.put_same i a v).1, (b.put_same i a v).2, show 2 + i * 13 + j - (2 + i * 13) = j by omega, Array.getElem?_toList]
  · rw [if_neg h, Kb.at_put _ _ _ h]
end
/-- Its subscriptions alone. -/
def Kb.subAt (b : Kb) (k : Nat) : Value := b.at_ (2 + k)
theorem Kb.subs_ex (b : Kb) : ∃ a, a = rowF 416 b.subAt := ⟨_, rfl⟩
noncomputable def Kb.subs (b : Kb) : Array Value := Classical.choose b.subs_ex
theorem Kb.subs_row (b : Kb) : b.subs = rowF 416 b.subAt := Classical.choose_spec b.subs_ex
theorem Kb.subs_size (b : Kb) : b.subs.size = 416 := by rw [b.subs_row]; exact rowF_size _ _
theorem Kb.subs_get (b : Kb) {k : Nat} (h : k < 416) : b.subs[k]? = some (b.at_ (2 + k)) := by rw [b.subs_row]; exact rowF_get _ h
theorem Kb.range_subs {w : World} {B : Nat} {b : Kb} {t : TypeId} {fr : Nat × Nat} (h : w.heap[B]? = some (.cells b.arr t fr)) : w.rangeAt B 2 b.subs.toList := by
  intro j u hu
  have hj : j < 416 := by have := (List.getElem?_eq_some_iff.1 hu).1; rw [Array.length_toList, b.subs_size] at this; exact this
  rw [cell_of_row _ _ _ _ _ _ h, b.get (by omega), ← b.subs_get hj, ← Array.getElem?_toList]
  exact hu
theorem Kb.infos_l {b : Kb} : (Tryz.prog.info? 33).map (·.size) = some b.subs.toList.length := by rw [Array.length_toList, b.subs_size]; exact Kb.infos
theorem Kb.subs_cut (b : Kb) {i : Nat} (hi : i < 32) : b.subs.extract (i * 13) (i * 13 + 13) = (b.a i).arr (b.v i) := by
  apply Array.ext_getElem?
  intro j
  rw [Array.getElem?_extract, b.subs_size]
  by_cases hj : j < 13
  · rw [if_pos (by omega), b.subs_get (by omega), show 2 + (i * 13 + j) = 2 + i * 13 + j by omega, b.at_sub hj]
    have h3 : j < ((b.a i).arr (b.v i)).size := hj
    rw [Array.getElem?_eq_getElem h3]; rfl
  · rw [if_neg (by omega)]
    exact (Array.getElem?_eq_none (by show 13 ≤ j; omega)).symm
/-- One of them, out of the array by value. -/
theorem Kb.run_index (b : Kb) {i : Nat} (hi : i < 32) (w : World) : (Instr.index 33 (.agg b.subs) (.int .i64 (i : Int))).run Tryz.prog w = .ok (.agg ((b.a i).arr (b.v i))) w := by
  have h1 : Tryz.prog.underlying 33 = some (.array 32 32) := Tryz.underlying33
  have h2 : Tryz.prog.underlying 32 = some _ := Tryz.underlying32
  obtain ⟨ie, hie⟩ : ∃ ie, Tryz.prog.info? 32 = some ie := ⟨_, rfl⟩
  have hs : ie.size = 13 := by have := info13; rw [hie] at this; injection this
  have hr : (0 : Int) ≤ (i : Int) ∧ (i : Int) < 32 := by omega
  simp [Instr.index, run_underlying h1, run_underlying h2, asIntOf, hr, go_sem, part, isAgg, sizeOf, typeInfo, hie, hs, b.subs_cut hi]
  omega
end Go.Proofs.YtblikgbcakgdnaaGreat
