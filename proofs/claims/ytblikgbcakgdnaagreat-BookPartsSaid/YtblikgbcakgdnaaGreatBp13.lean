/-
  A subscription of the program's, by its fields; what one cycle more makes of it, a list of them, a day. No conditions but those that each law names.
-/
import Derived.Lib.SliceRun
import Derived.Test.YtblikgbcakgdnaaGreatBp04
import Derived.Test.YtblikgbcakgdnaaGreatBp05
import Derived.Test.YtblikgbcakgdnaaGreatBp09
import Derived.Test.YtblikgbcakgdnaaGreatBp12
set_option linter.unusedSimpArgs false
set_option linter.unusedVariables false
namespace Go.Proofs.YtblikgbcakgdnaaGreat
set_option maxRecDepth 20000
open Go.ChangeShapes Go.WideShapes Go.ChangeAt Go.RowKit

/-- A subscription, by its fields: its state, its plan, the day from which periods count, the next one's number, how many cycles there have been, its credit; is the next one passed over? the open cycles; how many are done, unpaid, refunded, skipped, and what was paid. -/
structure Av where
  st : Int
  pl : Int
  an : Int
  ix : Int
  ct : Int
  cr : Int
  sk : Bool
  l : List Cv
  dn : Int
  un : Int
  rf : Int
  sp : Int
  pd : Int
def Av.arr (a : Av) (v : Value) : Array Value := #[.int .u8 a.st, .int .i64 a.pl, .int .i64 a.an, .int .i64 a.ix, .int .i64 a.ct, .int .i64 a.cr, .bool a.sk, v, .int .i64 a.dn, .int .i64 a.un, .int .i64 a.rf, .int .i64 a.sp, .int .i64 a.pd]
theorem Av.arr_size (a : Av) (v : Value) : (a.arr v).size = 13 := rfl
theorem Av.arr_one {a : Av} {v : Value} (h : v.oneCell' = true) : (a.arr v).all (·.oneCell') = true := by simp [Av.arr, Value.oneCell']; simpa [Value.oneCell'] using h
theorem Av.at0 (a : Av) (v : Value) : (a.arr v)[0]? = some (.int .u8 a.st) := rfl
theorem Av.at1 (a : Av) (v : Value) : (a.arr v)[1]? = some (.int .i64 a.pl) := rfl
theorem Av.at2 (a : Av) (v : Value) : (a.arr v)[2]? = some (.int .i64 a.an) := rfl
theorem Av.at3 (a : Av) (v : Value) : (a.arr v)[3]? = some (.int .i64 a.ix) := rfl
theorem Av.at4 (a : Av) (v : Value) : (a.arr v)[4]? = some (.int .i64 a.ct) := rfl
theorem Av.at5 (a : Av) (v : Value) : (a.arr v)[5]? = some (.int .i64 a.cr) := rfl
theorem Av.at6 (a : Av) (v : Value) : (a.arr v)[6]? = some (.bool a.sk) := rfl
theorem Av.at7 (a : Av) (v : Value) : (a.arr v)[7]? = some (v) := rfl
theorem Av.at8 (a : Av) (v : Value) : (a.arr v)[8]? = some (.int .i64 a.dn) := rfl
theorem Av.at9 (a : Av) (v : Value) : (a.arr v)[9]? = some (.int .i64 a.un) := rfl
theorem Av.at10 (a : Av) (v : Value) : (a.arr v)[10]? = some (.int .i64 a.rf) := rfl
theorem Av.at11 (a : Av) (v : Value) : (a.arr v)[11]? = some (.int .i64 a.sp) := rfl
theorem Av.at12 (a : Av) (v : Value) : (a.arr v)[12]? = some (.int .i64 a.pd) := rfl
theorem Av.set0 (a : Av) (v : Value) (x : Int) : (a.arr v).setIfInBounds 0 (.int .u8 x) = ({ a with st := x } : Av).arr v := rfl
theorem Av.set1 (a : Av) (v : Value) (x : Int) : (a.arr v).setIfInBounds 1 (.int .i64 x) = ({ a with pl := x } : Av).arr v := rfl
theorem Av.set2 (a : Av) (v : Value) (x : Int) : (a.arr v).setIfInBounds 2 (.int .i64 x) = ({ a with an := x } : Av).arr v := rfl
theorem Av.set3 (a : Av) (v : Value) (x : Int) : (a.arr v).setIfInBounds 3 (.int .i64 x) = ({ a with ix := x } : Av).arr v := rfl
theorem Av.set4 (a : Av) (v : Value) (x : Int) : (a.arr v).setIfInBounds 4 (.int .i64 x) = ({ a with ct := x } : Av).arr v := rfl
theorem Av.set5 (a : Av) (v : Value) (x : Int) : (a.arr v).setIfInBounds 5 (.int .i64 x) = ({ a with cr := x } : Av).arr v := rfl
theorem Av.set6 (a : Av) (v : Value) (x : Bool) : (a.arr v).setIfInBounds 6 (.bool x) = ({ a with sk := x } : Av).arr v := rfl
theorem Av.set7 (a : Av) (v v' : Value) : (a.arr v).setIfInBounds 7 v' = a.arr v' := rfl
theorem Av.set8 (a : Av) (v : Value) (x : Int) : (a.arr v).setIfInBounds 8 (.int .i64 x) = ({ a with dn := x } : Av).arr v := rfl
theorem Av.set9 (a : Av) (v : Value) (x : Int) : (a.arr v).setIfInBounds 9 (.int .i64 x) = ({ a with un := x } : Av).arr v := rfl
theorem Av.set10 (a : Av) (v : Value) (x : Int) : (a.arr v).setIfInBounds 10 (.int .i64 x) = ({ a with rf := x } : Av).arr v := rfl
theorem Av.set11 (a : Av) (v : Value) (x : Int) : (a.arr v).setIfInBounds 11 (.int .i64 x) = ({ a with sp := x } : Av).arr v := rfl
theorem Av.set12 (a : Av) (v : Value) (x : Int) : (a.arr v).setIfInBounds 12 (.int .i64 x) = ({ a with pd := x } : Av).arr v := rfl
attribute [simp, go_sem] Av.arr_size Av.at0 Av.at1 Av.at2 Av.at3 Av.at4 Av.at5 Av.at6 Av.at7 Av.at8 Av.at9 Av.at10 Av.at11 Av.at12 Av.set0 Av.set1 Av.set2 Av.set3 Av.set4 Av.set5 Av.set6 Av.set7 Av.set8 Av.set9 Av.set10 Av.set11 Av.set12
/-- To stop a walk at an operation, while a text is written. -/
structure Hid2 (p : Prop) : Prop where
  out : p
theorem stop_here {p : Prop} (h : Hid2 p) : p := h.out
theorem Av.arr_l (a : Av) (l : List Cv) (v : Value) : ({ a with l := l } : Av).arr v = a.arr v := rfl
def Av.zero : Av := ⟨0, 0, 0, 0, 0, 0, false, [], 0, 0, 0, 0, 0⟩
theorem Av.zero_arr : Av.zero.arr (.slice none 0 0) = #[.int .u8 0, .int .i64 0, .int .i64 0, .int .i64 0, .int .i64 0, .int .i64 0, .bool false, .slice none 0 0, .int .i64 0, .int .i64 0, .int .i64 0, .int .i64 0, .int .i64 0] := rfl
theorem info13 : (Tryz.prog.info? 32).map (·.size) = some 13 := by kernel_rfl
/-- One cycle more: open, or past. -/
def Av.with_ (a : Av) (c : Cv) : Av :=
  if c.p < 7 then { a with l := a.l ++ [c] }
  else if c.p = 7 then { a with dn := a.dn + 1, pd := a.pd + c.a }
  else if c.p = 8 then { a with un := a.un + 1, cr := a.cr + c.u }
  else if c.p = 9 then { a with rf := a.rf + 1, cr := a.cr + c.u }
  else if c.p = 10 then { a with sp := a.sp + 1 }
  else a
/-- Those that are at their end are past. -/
def Av.settled (a : Av) : Av := a.l.foldl Av.with_ { a with l := [] }
def Av.each (a : Av) (f : Cv → Cv) : Av := Av.settled { a with l := a.l.map f }
/-- A cycle's numbers are small. -/
structure Cv.Fit (c : Cv) : Prop where
  a0 : -1000000000000 ≤ c.a
  a1 : c.a ≤ 1000000000000
  u0 : -1000000000000 ≤ c.u
  u1 : c.u ≤ 1000000000000
  t0 : 0 ≤ c.t
  t1 : c.t ≤ 1000
/-- A subscription's numbers are small, by so many cycles as there have been. -/
structure Av.Fit (a : Av) (m : Nat) : Prop where
  d0 : 0 ≤ a.dn
  d1 : a.dn ≤ m
  n0 : 0 ≤ a.un
  n1 : a.un ≤ m
  r0 : 0 ≤ a.rf
  r1 : a.rf ≤ m
  s0 : 0 ≤ a.sp
  s1 : a.sp ≤ m
  c0 : -(m * 1000000000000) ≤ a.cr
  c1 : a.cr ≤ m * 1000000000000
  p0 : -(m * 1000000000000) ≤ a.pd
  p1 : a.pd ≤ m * 1000000000000
theorem Av.Fit.more {a : Av} {m m' : Nat} (h : a.Fit m) (hm : m ≤ m') : a.Fit m' := by
  obtain ⟨h0, h1, h2, h3, h4, h5, h6, h7, h8, h9, h10, h11⟩ := h
  constructor <;> omega
theorem Av.Fit.with_ {a : Av} {m : Nat} {c : Cv} (h : a.Fit m) (hc : c.Fit) : (a.with_ c).Fit (m + 1) := by
  obtain ⟨h0, h1, h2, h3, h4, h5, h6, h7, h8, h9, h10, h11⟩ := h
  obtain ⟨g0, g1, g2, g3, _, _⟩ := hc
  unfold Av.with_
  split
  · constructor <;> dsimp only <;> omega
  split
  · constructor <;> dsimp only <;> omega
  split
  · constructor <;> dsimp only <;> omega
  split
  · constructor <;> dsimp only <;> omega
  split
  · constructor <;> dsimp only <;> omega
  · constructor <;> omega
theorem Av.with_len (a : Av) (c : Cv) : (a.with_ c).l.length ≤ a.l.length + 1 := by
  unfold Av.with_
  repeat' split
  all_goals simp
/-- A list of the call's own. -/
def Own (w : World) (b : Nat) (v : Value) (l : List Cv) : Prop := w.ownsRow b 112 8 v l.length (ccs l)
theorem Own.nil (w : World) (b : Nat) : Own w b (.slice none 0 0) [] := World.ownsRow_nil _ _ _ _
theorem Own.one {w : World} {b : Nat} {v : Value} {l : List Cv} (h : Own w b v l) : v.oneCell' = true := by
  obtain ⟨A, c, rfl, _⟩ := own_form h; rfl
theorem Own.form {w : World} {b : Nat} {v : Value} {l : List Cv} (h : Own w b v l) : ∃ A c, v = .slice A l.length c ∧ l.length ≤ c ∧ c ≤ maxLen := own_form h
theorem Own.kept {w w' : World} {b : Nat} {v : Value} {l : List Cv} (h : Own w b v l) (hk : ∀ i, b ≤ i → i < w.heap.size → w'.heap[i]? = w.heap[i]?) : Own w' b v l := own_kept h fun i hi => hk i (h.lt i hi).1 (h.lt i hi).2
theorem Own.below {w w' : World} {b : Nat} {v : Value} {l : List Cv} (h : Own w b v l) (hk : Below w.heap.size w w') : Own w' b v l := h.kept fun i _ hi => hk.block i hi
theorem Own.more {w : World} {b b' : Nat} {v : Value} {l : List Cv} (h : Own w b v l) (hb : b' ≤ b) : Own w b' v l := ⟨h.1, h.2.elim .inl fun ⟨g, cap, cur, h1, h2, h3⟩ => .inr ⟨g, cap, cur, h1, by omega, h3⟩⟩
theorem Own.at_ {w : World} {b : Nat} {v : Value} {l : List Cv} (h : Own w b v l) : ∀ i, v.ownBlock = some i → b ≤ i ∧ i < w.heap.size := h.lt
theorem Own.boxed {w : World} {b n : Nat} {v : Value} {l : List Cv} {cs : Array Value} {t : TypeId} (h : Own w b v l) (hn : n < b) : Own (Go.Proofs.YtblikgbcakgdnaaGreat.boxed w n cs t) b v l := h.kept fun i hi _ => boxed_block_other (by omega)
theorem Own.boxed_new {w : World} {b n : Nat} {v : Value} {l : List Cv} {cs : Array Value} {t : TypeId} (h : Own w b v l) (hn : ∀ i, v.ownBlock = some i → i ≠ n) : Own (Go.Proofs.YtblikgbcakgdnaaGreat.boxed w n cs t) b v l := own_kept h fun i hi => boxed_block_other (hn i hi)
theorem Own.alloc {w : World} {b : Nat} {v : Value} {l : List Cv} {o : Obj} (h : Own w b v l) : Own (w.alloc o) b v l := World.ownsRow.alloc h o
theorem Own.drew {w : World} {b : Nat} {v : Value} {l : List Cv} (h : Own w b v l) : Own w.drew b v l := h.kept fun _ _ _ => rfl
theorem Cys.boxed {w : World} {b B n : Nat} {v : Value} {l : List Cv} {cs : Array Value} {t : TypeId} (h : Cys w b B v l) (hn : n < b ∨ B ≤ n) : Cys (Go.Proofs.YtblikgbcakgdnaaGreat.boxed w n cs t) b B v l := h.kept fun i h1 h2 => boxed_block_other (by omega)
theorem Own.cys {w : World} {b : Nat} {v : Value} {l : List Cv} (h : Own w b v l) : Cys w b w.heap.size v l := Cys.own h
/-- What is answered: a subscription with a list of its own. -/
def Puts (w : World) (b : Nat) (v : Value) (a : Av) (e : Ending) (w' : World) : Prop :=
  ∃ v', e = .returned (.agg (a.arr v')) ∧ Own w' b v' a.l ∧ w.grownBy w' v.ownBlock ∧ (v'.ownBlock = v.ownBlock ∨ ∀ i, v'.ownBlock = some i → w.heap.size ≤ i)
theorem grown_from {w w' : World} {b : Nat} {v : Value} (h : w.grownBy w' v.ownBlock) (hv : ∀ i, v.ownBlock = some i → b ≤ i) (hb : b ≤ w.heap.size) : Below b w w' :=
  ⟨h.os, h.tape, h.output, h.size, fun i hi => h.block i (by omega) fun e => by have := hv i e.symm; omega⟩
end Go.Proofs.YtblikgbcakgdnaaGreat
/-
  A list of cycles copied; a subscription with a list of its own. No conditions but the sizes.
-/
namespace Go.Proofs.YtblikgbcakgdnaaGreat
set_option maxRecDepth 20000
open Go.ChangeShapes Go.WideShapes Go.ChangeAt Go.RowKit

set_option maxHeartbeats 1000000 in
theorem cyclone_any {w : World} {v : Value} {l : List Cv} (h : Cys w 0 w.heap.size v l) (hs : l.length ≤ 1000000) :
    Calls Tryz.prog 84 #[v] w fun e w' => ∃ v', e = .returned v' ∧ Own w' w.heap.size v' l ∧ Below w.heap.size w w' := by
  have H := Lib.hid h
  obtain ⟨A, c, rfl, h1, h2, h3, h4⟩ := h
  rcases A with _ | a
  · obtain rfl := h4 rfl
    obtain rfl : l = [] := List.eq_nil_of_length_eq_zero (by omega)
    clear h3 h4 H h1 h2
    have q := fun w => Lib.run_eql_slice_nil (P := Tryz.prog) w 28 112 none 0 0 0 0 Tryz.underlying28
    go_enter Tryz.func84, Tryz.ntmps84
    go_wp2
    go_ret
    exact ⟨_, rfl, Own.nil _ _, Below.refl _ _⟩
  · clear h3 h4
    have q := fun w => Lib.run_eql_slice_nil (P := Tryz.prog) w 28 112 (some a) l.length c 0 0 Tryz.underlying28
    go_enter Tryz.func84, Tryz.ntmps84
    go_wp2_with (at_builtin; refine wpList_append_cys cyty rfl _ _ rfl (l0 := []) (base := w.heap.size) rfl rfl (World.ownsRow_made w #[] 0 (Nat.le_refl _) (by unfold maxLen; omega) rfl) (H.out.below ((Below.refl _ w).alloc (Nat.le_refl _) _)) (by simp; omega) (by simp) ?_; intro v1 w1 ho1 hg1 _; rw [List.nil_append] at ho1)
    go_ret
    exact ⟨_, rfl, ho1, ((Below.refl _ w).alloc (Nat.le_refl _) _).trans (grown_from (b := w.heap.size) hg1 (fun i hi => by injection hi with hi; subst hi; exact Nat.le_refl _) (by simp))⟩
/-- A subscription that is answered, in new blocks. -/
def New (w : World) (a : Av) (e : Ending) (w' : World) : Prop := ∃ v', e = .returned (.agg (a.arr v')) ∧ Own w' w.heap.size v' a.l ∧ Below w.heap.size w w'
set_option maxHeartbeats 1000000 in
theorem copy_any {w : World} {v : Value} {a : Av} (h : Cys w 0 w.heap.size v a.l) (hs : a.l.length ≤ 1000000) : Calls Tryz.prog 55 #[.agg (a.arr v)] w (New w a) := by
  have H := Lib.hid h
  go_enter Tryz.func55, Tryz.ntmps55
  go_wp2_with (fail)
  refine (cyclone_any (l := a.l) ((H.out.below (((Below.refl _ w).alloc (Nat.le_refl _) _).alloc (by simp) _)).more (Nat.le_refl _) (by simp; omega)) hs).mono ?_
  rintro e w1 ⟨v1, rfl, ho, hb⟩
  rw [World.size_alloc, World.size_alloc] at ho
  obtain ⟨A1, c1, rfl, _, _⟩ := ho.form
  have HO := Lib.hid ho
  obtain ⟨hw, z0, z1, e1⟩ := two_of hb
  rw [e1]
  have HW := Lib.hid hw
  clear e1 hb hw ho
  go_wp2_with (first | ((with_reducible_and_instances (show wpList _ _ _ (Oper.mk _ (Op.load 32 _) _ _ _ _ :: _) _ _)); refine wl_load Tryz.underlying32 rfl info13 rfl rfl rfl (by (repeat (first | assumption | (with_reducible refine alloc_at ?_; (focus (first | omega | (simp; done) | (simp; omega)))) | (with_reducible refine boxed_at ?_; (focus (first | omega | (simp; done) | (simp; omega)))) | (with_reducible refine alloc_old ?_ ?_; (focus (first | omega | (simp; done) | (simp; omega)))) | (with_reducible refine boxed_old ?_ ?_; (focus (first | omega | (simp; done) | (simp; omega)))) | (with_reducible refine drew_old ?_)))) (by rfl) ?_) | ((with_reducible_and_instances (show wpList _ _ _ (Oper.mk _ (Op.store 32 _ _) _ _ _ _ :: _) _ _)); refine wl_store info13 rfl rfl rfl rfl (by (repeat (first | assumption | (with_reducible refine alloc_at ?_; (focus (first | omega | (simp; done) | (simp; omega)))) | (with_reducible refine boxed_at ?_; (focus (first | omega | (simp; done) | (simp; omega)))) | (with_reducible refine alloc_old ?_ ?_; (focus (first | omega | (simp; done) | (simp; omega)))) | (with_reducible refine boxed_old ?_ ?_; (focus (first | omega | (simp; done) | (simp; omega)))) | (with_reducible refine drew_old ?_)))) (by rfl) (by rfl) (by first | exact Cv.arr_one _ | exact Nv.arr_one _ | exact Av.arr_one rfl | simp [Value.oneCell']) ?_))
  refine bodyPost_ret (results_cell_row rfl _ _ ((w.heap.size+1)) 32 _ (0, 0) _ rfl (by (repeat (first | assumption | (with_reducible refine alloc_at ?_; (focus (first | omega | (simp; done) | (simp; omega)))) | (with_reducible refine boxed_at ?_; (focus (first | omega | (simp; done) | (simp; omega)))) | (with_reducible refine alloc_old ?_ ?_; (focus (first | omega | (simp; done) | (simp; omega)))) | (with_reducible refine boxed_old ?_ ?_; (focus (first | omega | (simp; done) | (simp; omega)))) | (with_reducible refine drew_old ?_)))) Tryz.underlying32 rfl (by exact info13)) rfl ?_
  have ho := HO.out
  have hw := HW.out
  have hx : w.heap.size + 1 + 1 ≤ w1.heap.size := by omega
  refine ⟨_, rfl, Own.more (b := w.heap.size + 1 + 1) (by (repeat (first | assumption | (with_reducible refine Own.boxed ?_ ?_; rotate_left; (focus (first | omega | (simp; done) | (simp; omega)))) | (with_reducible refine Own.alloc ?_) | (with_reducible refine Own.drew ?_)))) (by omega), by (repeat (first | assumption | (with_reducible exact Below.refl _ _) | (with_reducible refine boxed_below ?_ ?_; rotate_left; (focus (first | omega | (simp; done) | (simp; omega)))) | (with_reducible refine Below.alloc ?_ ?_ _; rotate_left; (focus (first | omega | (simp; done) | (simp; omega)))) | (with_reducible refine Below.drew ?_)))⟩
end Go.Proofs.YtblikgbcakgdnaaGreat
