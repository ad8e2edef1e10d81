/-
  A plan, by its fields. No conditions.
-/
import Derived.Test.YtnbfkdcpghkglaaProg
import Derived.Lib.SliceRun
import Derived.Test.YtnbfkdcpghkglaaPb03
import Derived.Test.YtnbfkdcpghkglaaPb04
import Derived.Test.YtnbfkdcpghkglaaPb06
set_option linter.unusedSimpArgs false
set_option linter.unusedVariables false
namespace Go.Proofs.Ytnbfkdcpghkglaa

/-- A plan, by its fields. -/
structure Pv where
  a : Int
  u : Int
  e : Int
  t : Int
  g : Bool
  l : Bool
def Pv.cs (p : Pv) : List Value := [.int .i64 p.a, .int .u8 p.u, .int .i64 p.e, .int .i64 p.t, .bool p.g, .bool p.l]
/-- A plan as it may come in. -/
def Pv.Wf (p : Pv) : Prop := (-9223372036854775808 ≤ p.a ∧ p.a ≤ 9223372036854775807) ∧ (0 ≤ p.u ∧ p.u < 256) ∧ (-9223372036854775808 ≤ p.e ∧ p.e ≤ 9223372036854775807) ∧ (-9223372036854775808 ≤ p.t ∧ p.t ≤ 9223372036854775807)
end Go.Proofs.Ytnbfkdcpghkglaa
/-
  A subscription by its fields; a day that comes: what becomes of it, as the document's own Day tells it. No conditions but those that each law names.
-/
namespace Go.Proofs.Ytnbfkdcpghkglaa
set_option maxRecDepth 20000
open Go.ChangeShapes Go.WideShapes Go.ChangeAt Go.RowKit

/-- A subscription, by its fields: its state, its plan, the day from which periods count, the next one's number, its credit; is the next one passed over? all its cycles. -/
structure Sv where
  st : Int
  pl : Int
  an : Int
  ix : Int
  cr : Int
  sk : Bool
  l : List Cv
/-- A period that begins: the cycle that comes of it. -/
def Sv.born (s : Sv) (p : Pv) (d : Int) (missed : Bool) : Sv :=
  if s.st = 2 ∨ missed = true then { s with ix := s.ix + 1, l := s.l ++ [⟨s.l.length, d, 10, 0, 0, 0, 0, false⟩] }
  else if s.sk = true then { s with ix := s.ix + 1, sk := false, l := s.l ++ [⟨s.l.length, d, 10, 0, 0, 0, 0, false⟩] }
  else if p.a - s.cr < 0 then { s with ix := s.ix + 1, cr := s.cr - p.a, l := s.l ++ [Cy.begin_ s.l.length d 0 p.a p.g] }
  else { s with ix := s.ix + 1, cr := 0, l := s.l ++ [Cy.begin_ s.l.length d (p.a - s.cr) s.cr p.g] }
/-- Is it missed? -/
def Sv.missed (p : Pv) (today : Int) (next : Option Int) : Bool := p.l && match next with
  | some d => decide (d ≤ today)
  | none => false
/-- So many periods at most, by the days N on which they begin. -/
def Sv.days (N : Int → Option Int) (p : Pv) (today : Int) : Nat → Sv → Sv
  | 0, s => s
  | f + 1, s => match N s.ix with
    | none => s
    | some d => if today < d then s else Sv.days N p today f (s.born p d (Sv.missed p today (N (s.ix + 1))))
/-- A day has come. -/
def Sv.day (N : Int → Option Int) (p : Pv) (today : Int) (s : Sv) : Sv :=
  let s' := { s with l := s.l.map (fun c => c.wake today) }
  if s.st = 3 then s' else Sv.days N p today 4000 s'
/-- The first day of a period. -/
def Cal.nth (a k d u e : Int) (n : Int) : Option Int := if Cal.okN u a k e n = true then some (Cal.vN u a k d e n) else none
end Go.Proofs.Ytnbfkdcpghkglaa
/-
  A subscription of the program's, by its fields; what one cycle more makes of it, a list of them, a day. No conditions but those that each law names.
-/
namespace Go.Proofs.Ytnbfkdcpghkglaa
set_option maxRecDepth 20000
open Go.ChangeShapes Go.WideShapes Go.ChangeAt Go.RowKit

/-- A subscription, by its fields: its state, its plan, the day from which periods count, the next one's number, how many cycles there have been, its credit; is the next one passed over? the open cycles; how many are done, unpaid, refunded, skipped, and what was paid. -/
structure Av where
  st : Int
  pl : Int
  an : Int
  ix : Int
  ct : Int
  cr : Int
  sk : Bool
  l : List Cv
  dn : Int
  un : Int
  rf : Int
  sp : Int
  pd : Int
def Av.arr (a : Av) (v : Value) : Array Value := #[.int .u8 a.st, .int .i64 a.pl, .int .i64 a.an, .int .i64 a.ix, .int .i64 a.ct, .int .i64 a.cr, .bool a.sk, v, .int .i64 a.dn, .int .i64 a.un, .int .i64 a.rf, .int .i64 a.sp, .int .i64 a.pd]
theorem Av.arr_size (a : Av) (v : Value) : (a.arr v).size = 13 := rfl
theorem Av.arr_one {a : Av} {v : Value} (h : v.oneCell' = true) : (a.arr v).all (·.oneCell') = true := by simp [Av.arr, Value.oneCell']; simpa [Value.oneCell'] using h
theorem Av.at0 (a : Av) (v : Value) : (a.arr v)[0]? = some (.int .u8 a.st) := rfl
theorem Av.at1 (a : Av) (v : Value) : (a.arr v)[1]? = some (.int .i64 a.pl) := rfl
theorem Av.at2 (a : Av) (v : Value) : (a.arr v)[2]? = some (.int .i64 a.an) := rfl
theorem Av.at3 (a : Av) (v : Value) : (a.arr v)[3]? = some (.int .i64 a.ix) := rfl
theorem Av.at4 (a : Av) (v : Value) : (a.arr v)[4]? = some (.int .i64 a.ct) := rfl
theorem Av.at5 (a : Av) (v : Value) : (a.arr v)[5]? = some (.int .i64 a.cr) := rfl
theorem Av.at6 (a : Av) (v : Value) : (a.arr v)[6]? = some (.bool a.sk) := rfl
theorem Av.at7 (a : Av) (v : Value) : (a.arr v)[7]? = some (v) := rfl
theorem Av.at8 (a : Av) (v : Value) : (a.arr v)[8]? = some (.int .i64 a.dn) := rfl
theorem Av.at9 (a : Av) (v : Value) : (a.arr v)[9]? = some (.int .i64 a.un) := rfl
theorem Av.at10 (a : Av) (v : Value) : (a.arr v)[10]? = some (.int .i64 a.rf) := rfl
theorem Av.at11 (a : Av) (v : Value) : (a.arr v)[11]? = some (.int .i64 a.sp) := rfl
theorem Av.at12 (a : Av) (v : Value) : (a.arr v)[12]? = some (.int .i64 a.pd) := rfl
theorem Av.set0 (a : Av) (v : Value) (x : Int) : (a.arr v).setIfInBounds 0 (.int .u8 x) = ({ a with st := x } : Av).arr v := rfl
theorem Av.set1 (a : Av) (v : Value) (x : Int) : (a.arr v).setIfInBounds 1 (.int .i64 x) = ({ a with pl := x } : Av).arr v := rfl
theorem Av.set2 (a : Av) (v : Value) (x : Int) : (a.arr v).setIfInBounds 2 (.int .i64 x) = ({ a with an := x } : Av).arr v := rfl
theorem Av.set3 (a : Av) (v : Value) (x : Int) : (a.arr v).setIfInBounds 3 (.int .i64 x) = ({ a with ix := x } : Av).arr v := rfl
theorem Av.set4 (a : Av) (v : Value) (x : Int) : (a.arr v).setIfInBounds 4 (.int .i64 x) = ({ a with ct := x } : Av).arr v := rfl
theorem Av.set5 (a : Av) (v : Value) (x : Int) : (a.arr v).setIfInBounds 5 (.int .i64 x) = ({ a with cr := x } : Av).arr v := rfl
theorem Av.set6 (a : Av) (v : Value) (x : Bool) : (a.arr v).setIfInBounds 6 (.bool x) = ({ a with sk := x } : Av).arr v := rfl
theorem Av.set7 (a : Av) (v v' : Value) : (a.arr v).setIfInBounds 7 v' = a.arr v' := rfl
theorem Av.set8 (a : Av) (v : Value) (x : Int) : (a.arr v).setIfInBounds 8 (.int .i64 x) = ({ a with dn := x } : Av).arr v := rfl
theorem Av.set9 (a : Av) (v : Value) (x : Int) : (a.arr v).setIfInBounds 9 (.int .i64 x) = ({ a with un := x } : Av).arr v := rfl
theorem Av.set10 (a : Av) (v : Value) (x : Int) : (a.arr v).setIfInBounds 10 (.int .i64 x) = ({ a with rf := x } : Av).arr v := rfl
theorem Av.set11 (a : Av) (v : Value) (x : Int) : (a.arr v).setIfInBounds 11 (.int .i64 x) = ({ a with sp := x } : Av).arr v := rfl
theorem Av.set12 (a : Av) (v : Value) (x : Int) : (a.arr v).setIfInBounds 12 (.int .i64 x) = ({ a with pd := x } : Av).arr v := rfl
attribute [simp, go_sem] Av.arr_size Av.at0 Av.at1 Av.at2 Av.at3 Av.at4 Av.at5 Av.at6 Av.at7 Av.at8 Av.at9 Av.at10 Av.at11 Av.at12 Av.set0 Av.set1 Av.set2 Av.set3 Av.set4 Av.set5 Av.set6 Av.set7 Av.set8 Av.set9 Av.set10 Av.set11 Av.set12
/-- To stop a walk at an operation, while a text is written. -/
structure Hid2 (p : Prop) : Prop where
  out : p
theorem stop_here {p : Prop} (h : Hid2 p) : p := h.out
theorem Av.arr_l (a : Av) (l : List Cv) (v : Value) : ({ a with l := l } : Av).arr v = a.arr v := rfl
def Av.zero : Av := ⟨0, 0, 0, 0, 0, 0, false, [], 0, 0, 0, 0, 0⟩
theorem Av.zero_arr : Av.zero.arr (.slice none 0 0) = #[.int .u8 0, .int .i64 0, .int .i64 0, .int .i64 0, .int .i64 0, .int .i64 0, .bool false, .slice none 0 0, .int .i64 0, .int .i64 0, .int .i64 0, .int .i64 0, .int .i64 0] := rfl
theorem info13 : (Try.prog.info? 33).map (·.size) = some 13 := by kernel_rfl
/-- One cycle more: open, or past. -/
def Av.with_ (a : Av) (c : Cv) : Av :=
  if c.p < 7 then { a with l := a.l ++ [c] }
  else if c.p = 7 then { a with dn := a.dn + 1, pd := a.pd + c.a }
  else if c.p = 8 then { a with un := a.un + 1, cr := a.cr + c.u }
  else if c.p = 9 then { a with rf := a.rf + 1, cr := a.cr + c.u }
  else if c.p = 10 then { a with sp := a.sp + 1 }
  else a
/-- Those that are at their end are past. -/
def Av.settled (a : Av) : Av := a.l.foldl Av.with_ { a with l := [] }
def Av.each (a : Av) (f : Cv → Cv) : Av := Av.settled { a with l := a.l.map f }
/-- A cycle's numbers are small. -/
structure Cv.Fit (c : Cv) : Prop where
  a0 : -1000000000000 ≤ c.a
  a1 : c.a ≤ 1000000000000
  u0 : -1000000000000 ≤ c.u
  u1 : c.u ≤ 1000000000000
  t0 : 0 ≤ c.t
  t1 : c.t ≤ 1000
/-- A subscription's numbers are small, by so many cycles as there have been. -/
structure Av.Fit (a : Av) (m : Nat) : Prop where
  d0 : 0 ≤ a.dn
  d1 : a.dn ≤ m
  n0 : 0 ≤ a.un
  n1 : a.un ≤ m
  r0 : 0 ≤ a.rf
  r1 : a.rf ≤ m
  s0 : 0 ≤ a.sp
  s1 : a.sp ≤ m
  c0 : -(m * 1000000000000) ≤ a.cr
  c1 : a.cr ≤ m * 1000000000000
  p0 : -(m * 1000000000000) ≤ a.pd
  p1 : a.pd ≤ m * 1000000000000
theorem Av.Fit.more {a : Av} {m m' : Nat} (h : a.Fit m) (hm : m ≤ m') : a.Fit m' := by
  obtain ⟨h0, h1, h2, h3, h4, h5, h6, h7, h8, h9, h10, h11⟩ := h
  constructor <;> omega
theorem Av.Fit.with_ {a : Av} {m : Nat} {c : Cv} (h : a.Fit m) (hc : c.Fit) : (a.with_ c).Fit (m + 1) := by
  obtain ⟨h0, h1, h2, h3, h4, h5, h6, h7, h8, h9, h10, h11⟩ := h
  obtain ⟨g0, g1, g2, g3, _, _⟩ := hc
  unfold Av.with_
  split
  · constructor <;> dsimp only <;> omega
  split
  · constructor <;> dsimp only <;> omega
  split
  · constructor <;> dsimp only <;> omega
  split
  · constructor <;> dsimp only <;> omega
  split
  · constructor <;> dsimp only <;> omega
  · constructor <;> omega
theorem Av.with_len (a : Av) (c : Cv) : (a.with_ c).l.length ≤ a.l.length + 1 := by
  unfold Av.with_
  repeat' split
  all_goals simp
/-- A list of the call's own. -/
def Own (w : World) (b : Nat) (v : Value) (l : List Cv) : Prop := w.ownsRow b 46 8 v l.length (ccs l)
theorem Own.nil (w : World) (b : Nat) : Own w b (.slice none 0 0) [] := World.ownsRow_nil _ _ _ _
theorem Own.one {w : World} {b : Nat} {v : Value} {l : List Cv} (h : Own w b v l) : v.oneCell' = true := by
  obtain ⟨A, c, rfl, _⟩ := own_form h; rfl
theorem Own.form {w : World} {b : Nat} {v : Value} {l : List Cv} (h : Own w b v l) : ∃ A c, v = .slice A l.length c ∧ l.length ≤ c ∧ c ≤ maxLen := own_form h
theorem Own.kept {w w' : World} {b : Nat} {v : Value} {l : List Cv} (h : Own w b v l) (hk : ∀ i, b ≤ i → i < w.heap.size → w'.heap[i]? = w.heap[i]?) : Own w' b v l := own_kept h fun i hi => hk i (h.lt i hi).1 (h.lt i hi).2
theorem Own.below {w w' : World} {b : Nat} {v : Value} {l : List Cv} (h : Own w b v l) (hk : Below w.heap.size w w') : Own w' b v l := h.kept fun i _ hi => hk.block i hi
theorem Own.more {w : World} {b b' : Nat} {v : Value} {l : List Cv} (h : Own w b v l) (hb : b' ≤ b) : Own w b' v l := ⟨h.1, h.2.elim .inl fun ⟨g, cap, cur, h1, h2, h3⟩ => .inr ⟨g, cap, cur, h1, by omega, h3⟩⟩
theorem Own.at_ {w : World} {b : Nat} {v : Value} {l : List Cv} (h : Own w b v l) : ∀ i, v.ownBlock = some i → b ≤ i ∧ i < w.heap.size := h.lt
theorem Own.boxed {w : World} {b n : Nat} {v : Value} {l : List Cv} {cs : Array Value} {t : TypeId} (h : Own w b v l) (hn : n < b) : Own (Go.Proofs.Ytnbfkdcpghkglaa.boxed w n cs t) b v l := h.kept fun i hi _ => boxed_block_other (by omega)
theorem Own.boxed_new {w : World} {b n : Nat} {v : Value} {l : List Cv} {cs : Array Value} {t : TypeId} (h : Own w b v l) (hn : ∀ i, v.ownBlock = some i → i ≠ n) : Own (Go.Proofs.Ytnbfkdcpghkglaa.boxed w n cs t) b v l := own_kept h fun i hi => boxed_block_other (hn i hi)
theorem Own.alloc {w : World} {b : Nat} {v : Value} {l : List Cv} {o : Obj} (h : Own w b v l) : Own (w.alloc o) b v l := World.ownsRow.alloc h o
theorem Own.drew {w : World} {b : Nat} {v : Value} {l : List Cv} (h : Own w b v l) : Own w.drew b v l := h.kept fun _ _ _ => rfl
theorem Cys.boxed {w : World} {b B n : Nat} {v : Value} {l : List Cv} {cs : Array Value} {t : TypeId} (h : Cys w b B v l) (hn : n < b ∨ B ≤ n) : Cys (Go.Proofs.Ytnbfkdcpghkglaa.boxed w n cs t) b B v l := h.kept fun i h1 h2 => boxed_block_other (by omega)
theorem Own.cys {w : World} {b : Nat} {v : Value} {l : List Cv} (h : Own w b v l) : Cys w b w.heap.size v l := Cys.own h
/-- What is answered: a subscription with a list of its own. -/
def Puts (w : World) (b : Nat) (v : Value) (a : Av) (e : Ending) (w' : World) : Prop :=
  ∃ v', e = .returned (.agg (a.arr v')) ∧ Own w' b v' a.l ∧ w.grownBy w' v.ownBlock ∧ (v'.ownBlock = v.ownBlock ∨ ∀ i, v'.ownBlock = some i → w.heap.size ≤ i)
theorem grown_from {w w' : World} {b : Nat} {v : Value} (h : w.grownBy w' v.ownBlock) (hv : ∀ i, v.ownBlock = some i → b ≤ i) (hb : b ≤ w.heap.size) : Below b w w' :=
  ⟨h.os, h.tape, h.output, h.size, fun i hi => h.block i (by omega) fun e => by have := hv i e.symm; omega⟩
end Go.Proofs.Ytnbfkdcpghkglaa
/-
  One cycle more: package account's 'with'. No conditions but the sizes.
-/
namespace Go.Proofs.Ytnbfkdcpghkglaa
set_option maxRecDepth 20000
open Go.ChangeShapes Go.WideShapes Go.ChangeAt Go.RowKit

theorem cys_one (w : World) (c : Cv) (t : TypeId) : Cys (w.alloc (.cells c.arr t)) w.heap.size (w.heap.size + 1) (.slice (some ⟨w.heap.size, 0, none⟩) 1 1) [c] := by
  refine ⟨some ⟨w.heap.size, 0, none⟩, 1, rfl, Nat.le_refl _, by unfold maxLen; omega, fun _ => ⟨w.heap.size, 0, rfl, ⟨Nat.le_refl _, by omega⟩, fun j u hu => ?_⟩, fun e => by cases e⟩
  rw [cell_of_row _ _ _ _ _ _ alloc_block, Nat.zero_add, ← Array.getElem?_toList]
  rw [ccs_one] at hu
  exact hu
theorem grown_into {a w : World} {r : Option Nat} {n : Nat} {cs : Array Value} {t : TypeId} (h : a.grownBy w r) (hn : a.heap.size ≤ n) : a.grownBy (boxed w n cs t) r :=
  ⟨h.os, h.tape, h.output, by rw [boxed_size]; exact h.size, fun i hi hne => (boxed_block_other (by omega)).trans (h.block i hi hne)⟩
theorem grown_trans {a b c : World} {r q : Option Nat} (h : a.grownBy b r) (k : b.grownBy c q) (hq : ∀ i, q = some i → r = some i ∨ a.heap.size ≤ i) : a.grownBy c r :=
  ⟨k.os.trans h.os, k.tape.trans h.tape, k.output.trans h.output, Nat.le_trans h.size k.size, fun i hi hne => (k.block i (Nat.lt_of_lt_of_le hi h.size) fun e => (hq i e.symm).elim (fun e' => hne e'.symm) (fun e' => by omega)).trans (h.block i hi hne)⟩
set_option maxHeartbeats 2000000 in
theorem with_open {w : World} {b : Nat} {v : Value} {a : Av} {m : Nat} (n d p a' u t x : Int) (g : Bool) (ho : Own w b v a.l) (hb : b ≤ w.heap.size) (hs : a.l.length ≤ 1000000) (hf : a.Fit m) (_ : m ≤ 1000000) (hc : Cv.Fit ⟨n, d, p, a', u, t, x, g⟩) (hp : p < 7) :
    Calls Try.prog 73 #[.agg (a.arr v), .agg #[.int .i64 n, .int .i64 d, .int .u8 p, .int .i64 a', .int .i64 u, .int .i64 t, .int .i64 x, .bool g]] w (Puts w b v (a.with_ ⟨n, d, p, a', u, t, x, g⟩)) := by
  obtain ⟨A, cap, rfl, hc1, hc2⟩ := ho.form
  have HO := Lib.hid ho
  obtain ⟨h0, h1, h2, h3, h4, h5, h6, h7, h8, h9, h10, h11⟩ := hf
  obtain ⟨g0, g1, g2, g3, _, _⟩ := hc
  dsimp only at g0 g1 g2 g3
  have hR : (a.with_ ⟨n, d, p, a', u, t, x, g⟩) = ({ a with l := a.l ++ [⟨n, d, p, a', u, t, x, g⟩] } : Av) := by
    unfold Av.with_
    rw [if_pos (by exact hp)]
  rw [hR]
  clear hR ho
  have hd7 : decide (7 ≤ p) = false := by simp; omega
  go_enter Try.func73, Try.ntmps73
  go_wp2_with (fail)
  refine (cyended_any _ _ _ _ _ _ _ _ _).mono ?_
  rintro e w1 ⟨rfl, hb1⟩
  obtain ⟨hw, y0, y1, z0, e1⟩ := box3 hb1
  have HW := Lib.hid hw
  have HO1 : Hid (Own w1 b (.slice A a.l.length cap) a.l) := HO.out.below HW.out
  rw [e1]
  clear e1 hb1 hw
  have hlt : ∀ i, Value.ownBlock (.slice A a.l.length cap) = some i → i < w.heap.size := fun i hi => (HO.out.at_ i hi).2
  have HL := Lib.hid hlt
  have hzz := HW.out.size
  have HO2 : Hid (Own (boxed (boxed (boxed w1 w.heap.size (a.arr (.slice A a.l.length cap)) 33) (w.heap.size + 1) #[.int .i64 n, .int .i64 d, .int .u8 p, .int .i64 a', .int .i64 u, .int .i64 t, .int .i64 x, .bool g] 46) (w.heap.size + 1 + 1) #[.int .u8 0, .int .i64 0, .int .i64 0, .int .i64 0, .int .i64 0, .int .i64 0, .bool false, .slice none 0 0, .int .i64 0, .int .i64 0, .int .i64 0, .int .i64 0, .int .i64 0] 33) b (.slice A a.l.length cap) a.l) := Own.boxed_new (Own.boxed_new (Own.boxed_new HO1.out fun i hi => by have := hlt i hi; omega) fun i hi => by have := hlt i hi; omega) fun i hi => by have := hlt i hi; omega
  have hG0 : w.grownBy ((boxed (boxed (boxed w1 w.heap.size (a.arr (.slice A a.l.length cap)) 33) (w.heap.size + 1) #[.int .i64 n, .int .i64 d, .int .u8 p, .int .i64 a', .int .i64 u, .int .i64 t, .int .i64 x, .bool g] 46) (w.heap.size + 1 + 1) #[.int .u8 0, .int .i64 0, .int .i64 0, .int .i64 0, .int .i64 0, .int .i64 0, .bool false, .slice none 0 0, .int .i64 0, .int .i64 0, .int .i64 0, .int .i64 0, .int .i64 0] 33).alloc (.cells #[.int .i64 n, .int .i64 d, .int .u8 p, .int .i64 a', .int .i64 u, .int .i64 t, .int .i64 x, .bool g] 46)) (Value.ownBlock (.slice A a.l.length cap)) := by
    have hw := HW.out
    exact below_grown (by (repeat (first | assumption | (with_reducible exact Below.refl _ _) | (with_reducible refine boxed_below ?_ ?_; rotate_left; (focus (first | omega | (simp; done) | (simp; omega)))) | (with_reducible refine Below.alloc ?_ ?_ _; rotate_left; (focus (first | omega | (simp; done) | (simp; omega)))) | (with_reducible refine Below.drew ?_)))) _
  have HG0 := Lib.hid hG0
  have HCY : Hid (Cys ((boxed (boxed (boxed w1 w.heap.size (a.arr (.slice A a.l.length cap)) 33) (w.heap.size + 1) #[.int .i64 n, .int .i64 d, .int .u8 p, .int .i64 a', .int .i64 u, .int .i64 t, .int .i64 x, .bool g] 46) (w.heap.size + 1 + 1) #[.int .u8 0, .int .i64 0, .int .i64 0, .int .i64 0, .int .i64 0, .int .i64 0, .bool false, .slice none 0 0, .int .i64 0, .int .i64 0, .int .i64 0, .int .i64 0, .int .i64 0] 33).alloc (.cells #[.int .i64 n, .int .i64 d, .int .u8 p, .int .i64 a', .int .i64 u, .int .i64 t, .int .i64 x, .bool g] 46)) w1.heap.size (w1.heap.size + 1) (.slice (some ⟨w1.heap.size, 0, none⟩) 1 1) [⟨n, d, p, a', u, t, x, g⟩]) := by
    have := cys_one (boxed (boxed (boxed w1 w.heap.size (a.arr (.slice A a.l.length cap)) 33) (w.heap.size + 1) #[.int .i64 n, .int .i64 d, .int .u8 p, .int .i64 a', .int .i64 u, .int .i64 t, .int .i64 x, .bool g] 46) (w.heap.size + 1 + 1) #[.int .u8 0, .int .i64 0, .int .i64 0, .int .i64 0, .int .i64 0, .int .i64 0, .bool false, .slice none 0 0, .int .i64 0, .int .i64 0, .int .i64 0, .int .i64 0, .int .i64 0] 33) ⟨n, d, p, a', u, t, x, g⟩ 46
    rw [boxed_size, boxed_size, boxed_size] at this
    exact this
  have hB0 : ((boxed (boxed (boxed w1 w.heap.size (a.arr (.slice A a.l.length cap)) 33) (w.heap.size + 1) #[.int .i64 n, .int .i64 d, .int .u8 p, .int .i64 a', .int .i64 u, .int .i64 t, .int .i64 x, .bool g] 46) (w.heap.size + 1 + 1) #[.int .u8 0, .int .i64 0, .int .i64 0, .int .i64 0, .int .i64 0, .int .i64 0, .bool false, .slice none 0 0, .int .i64 0, .int .i64 0, .int .i64 0, .int .i64 0, .int .i64 0] 33).alloc (.cells #[.int .i64 n, .int .i64 d, .int .u8 p, .int .i64 a', .int .i64 u, .int .i64 t, .int .i64 x, .bool g] 46)).heap[w.heap.size]? = some (.cells (a.arr (.slice A a.l.length cap)) 33 (0, 0)) := look0_1 z0
  have hB2 : ((boxed (boxed (boxed w1 w.heap.size (a.arr (.slice A a.l.length cap)) 33) (w.heap.size + 1) #[.int .i64 n, .int .i64 d, .int .u8 p, .int .i64 a', .int .i64 u, .int .i64 t, .int .i64 x, .bool g] 46) (w.heap.size + 1 + 1) #[.int .u8 0, .int .i64 0, .int .i64 0, .int .i64 0, .int .i64 0, .int .i64 0, .bool false, .slice none 0 0, .int .i64 0, .int .i64 0, .int .i64 0, .int .i64 0, .int .i64 0] 33).alloc (.cells #[.int .i64 n, .int .i64 d, .int .u8 p, .int .i64 a', .int .i64 u, .int .i64 t, .int .i64 x, .bool g] 46)).heap[w.heap.size + 1 + 1]? = some (.cells #[.int .u8 0, .int .i64 0, .int .i64 0, .int .i64 0, .int .i64 0, .int .i64 0, .bool false, .slice none 0 0, .int .i64 0, .int .i64 0, .int .i64 0, .int .i64 0, .int .i64 0] 33 (0, 0)) := alloc_old (by simp; omega) (boxed_at (by rw [boxed_size, boxed_size]; omega))
  have HB0 := Lib.hid hB0
  have HB2 := Lib.hid hB2
  clear hlt hG0 hB0 hB2
  go_wp2_with (first | ((with_reducible_and_instances (show wpList _ _ _ (Oper.mk _ (Op.load 33 _) _ _ _ _ :: _) _ _)); refine wl_load Try.underlying33 rfl info13 rfl rfl rfl (by (repeat (first | assumption | (with_reducible refine alloc_at ?_; (focus (first | omega | (simp; done) | (simp; omega)))) | (with_reducible refine boxed_at ?_; (focus (first | omega | (simp; done) | (simp; omega)))) | (with_reducible refine alloc_old ?_ ?_; (focus (first | omega | (simp; done) | (simp; omega)))) | (with_reducible refine boxed_old ?_ ?_; (focus (first | omega | (simp; done) | (simp; omega)))) | (with_reducible refine drew_old ?_)))) (by rfl) ?_) | ((with_reducible_and_instances (show wpList _ _ _ (Oper.mk _ (Op.store 33 _ _) _ _ _ _ :: _) _ _)); refine wl_store info13 rfl rfl rfl rfl (by (repeat (first | assumption | (with_reducible refine alloc_at ?_; (focus (first | omega | (simp; done) | (simp; omega)))) | (with_reducible refine boxed_at ?_; (focus (first | omega | (simp; done) | (simp; omega)))) | (with_reducible refine alloc_old ?_ ?_; (focus (first | omega | (simp; done) | (simp; omega)))) | (with_reducible refine boxed_old ?_ ?_; (focus (first | omega | (simp; done) | (simp; omega)))) | (with_reducible refine drew_old ?_)))) (by rfl) (by rfl) (by first | exact Cv.arr_one _ | exact Nv.arr_one _ | exact Av.arr_one rfl | simp [Value.oneCell']) ?_) | (at_builtin; refine wpList_append_cys cyty rfl _ _ rfl (l0 := a.l) (l := [⟨n, d, p, a', u, t, x, g⟩]) (base := b) rfl rfl (Own.alloc HO2.out) HCY.out (by rw [List.length_singleton]; omega) (by rw [World.size_alloc, boxed_size, boxed_size, boxed_size]; omega) ?_; intro v5 w5 ho5 hg5 hat5; obtain ⟨A5, c5, hv5, _, _⟩ := own_form ho5; rw [List.length_append, List.length_singleton] at hv5; subst hv5; have hs5 := hg5.size; have hx0 := (hg5.block _ (by simp; omega) (fun e => by have := HL.out _ e.symm; omega)).trans HB0.out; have hx2 := (hg5.block _ (by simp; omega) (fun e => by have := HL.out _ e.symm; omega)).trans HB2.out; have HO5 : Hid (Own w5 b (.slice A5 (a.l.length + 1) c5) (a.l ++ [⟨n, d, p, a', u, t, x, g⟩])) := ho5; have HG5 : Hid (w.grownBy w5 (Value.ownBlock (.slice A a.l.length cap))) := grown_trans HG0.out hg5 (fun i hi => .inl hi); have HA5 := Lib.hid hat5; rw [World.size_alloc, boxed_size, boxed_size, boxed_size] at hs5; have hz50 : w.heap.size < w5.heap.size := (by omega); have hz52 : w.heap.size + 1 + 1 < w5.heap.size := (by omega); rw [boxed_self hx0, boxed_self (boxed_old (w := w5) (n := w.heap.size) (cs := a.arr (.slice A a.l.length cap)) (t := 33) (by omega) hx2)]; clear hx0 hx2 ho5 hg5 hat5))
  refine bodyPost_ret (results_cell_row rfl _ _ (w.heap.size+1+1) 33 _ (0, 0) _ rfl (boxed_at (by simp only [boxed_size]; omega)) Try.underlying33 rfl (by exact info13)) rfl ?_
  have hlt : ∀ i, Value.ownBlock (.slice A5 (a.l.length + 1) c5) = some i → i < w.heap.size ∨ i = w1.heap.size + 1 := fun i hi => by
    rcases HA5.out with h | h
    · exact .inl (HL.out i (h ▸ hi))
    · rw [h, World.size_alloc, boxed_size, boxed_size, boxed_size] at hi; injection hi with hi; exact .inr hi.symm
  exact ⟨_, rfl, ((HO5.out.boxed_new fun i hi => by have := hlt i hi; omega).boxed_new fun i hi => by have := hlt i hi; omega).boxed_new fun i hi => by have := hlt i hi; omega, grown_into (grown_into (grown_into HG5.out (Nat.le_refl _)) (by omega)) (by omega), HA5.out.imp id fun h i hi => by rw [h, World.size_alloc, boxed_size, boxed_size, boxed_size] at hi; injection hi with hi; omega⟩
set_option maxHeartbeats 2000000 in
theorem with_done {w : World} {b : Nat} {v : Value} {a : Av} {m : Nat} (n d  a' u t x : Int) (g : Bool) (ho : Own w b v a.l) (_ : b ≤ w.heap.size) (_ : a.l.length ≤ 1000000) (hf : a.Fit m) (hm : m ≤ 1000000) (hc : Cv.Fit ⟨n, d, 7, a', u, t, x, g⟩) :
    Calls Try.prog 73 #[.agg (a.arr v), .agg #[.int .i64 n, .int .i64 d, .int .u8 7, .int .i64 a', .int .i64 u, .int .i64 t, .int .i64 x, .bool g]] w (Puts w b v (a.with_ ⟨n, d, 7, a', u, t, x, g⟩)) := by
  obtain ⟨A, cap, rfl, hc1, hc2⟩ := ho.form
  have HO := Lib.hid ho
  obtain ⟨h0, h1, h2, h3, h4, h5, h6, h7, h8, h9, h10, h11⟩ := hf
  obtain ⟨g0, g1, g2, g3, _, _⟩ := hc
  dsimp only at g0 g1 g2 g3
  have hR : (a.with_ ⟨n, d, 7, a', u, t, x, g⟩) = ({ a with dn := a.dn + 1, pd := a.pd + a' } : Av) := by
    unfold Av.with_
    rw [if_neg (by show ¬ _; simp), if_pos rfl]
  rw [hR]
  clear hR ho
  have e1 : wrap64 (a.dn + 1) = a.dn + 1 := by unfold wrap64; omega
  have e2 : wrap64 (a.pd + a') = a.pd + a' := by unfold wrap64; omega
  go_enter Try.func73, Try.ntmps73
  go_wp2_with (fail)
  refine (cyended_any _ _ _ _ _ _ _ _ _).mono ?_
  rintro e w1 ⟨rfl, hb1⟩
  obtain ⟨hw, y0, y1, z0, e1⟩ := box3 hb1
  have HW := Lib.hid hw
  have HO1 : Hid (Own w1 b (.slice A a.l.length cap) a.l) := HO.out.below HW.out
  rw [e1]
  clear e1 hb1 hw
  go_wp2_with (first | ((with_reducible_and_instances (show wpList _ _ _ (Oper.mk _ (Op.load 33 _) _ _ _ _ :: _) _ _)); refine wl_load Try.underlying33 rfl info13 rfl rfl rfl (by (repeat (first | assumption | (with_reducible refine alloc_at ?_; (focus (first | omega | (simp; done) | (simp; omega)))) | (with_reducible refine boxed_at ?_; (focus (first | omega | (simp; done) | (simp; omega)))) | (with_reducible refine alloc_old ?_ ?_; (focus (first | omega | (simp; done) | (simp; omega)))) | (with_reducible refine boxed_old ?_ ?_; (focus (first | omega | (simp; done) | (simp; omega)))) | (with_reducible refine drew_old ?_)))) (by rfl) ?_) | ((with_reducible_and_instances (show wpList _ _ _ (Oper.mk _ (Op.store 33 _ _) _ _ _ _ :: _) _ _)); refine wl_store info13 rfl rfl rfl rfl (by (repeat (first | assumption | (with_reducible refine alloc_at ?_; (focus (first | omega | (simp; done) | (simp; omega)))) | (with_reducible refine boxed_at ?_; (focus (first | omega | (simp; done) | (simp; omega)))) | (with_reducible refine alloc_old ?_ ?_; (focus (first | omega | (simp; done) | (simp; omega)))) | (with_reducible refine boxed_old ?_ ?_; (focus (first | omega | (simp; done) | (simp; omega)))) | (with_reducible refine drew_old ?_)))) (by rfl) (by rfl) (by first | exact Cv.arr_one _ | exact Nv.arr_one _ | exact Av.arr_one rfl | simp [Value.oneCell']) ?_))
  refine bodyPost_ret (results_cell_row rfl _ _ (w.heap.size+1+1) 33 _ (0, 0) _ rfl (boxed_at (by simp only [boxed_size]; omega)) Try.underlying33 rfl (by exact info13)) rfl ?_
  have hlt : ∀ i, Value.ownBlock (.slice A a.l.length cap) = some i → i < w.heap.size := fun i hi => (HO.out.at_ i hi).2
  exact ⟨_, rfl, (((HO1.out.boxed_new fun i hi => by have := hlt i hi; omega).boxed_new fun i hi => by have := hlt i hi; omega).boxed_new fun i hi => by have := hlt i hi; omega).boxed_new fun i hi => by have := hlt i hi; omega, below_grown (boxed_below (boxed_below (boxed_below (boxed_below HW.out (Nat.le_refl _)) (by omega)) (by omega)) (by omega)) _, .inl rfl⟩
set_option maxHeartbeats 2000000 in
theorem with_unpaid {w : World} {b : Nat} {v : Value} {a : Av} {m : Nat} (n d  a' u t x : Int) (g : Bool) (ho : Own w b v a.l) (_ : b ≤ w.heap.size) (_ : a.l.length ≤ 1000000) (hf : a.Fit m) (hm : m ≤ 1000000) (hc : Cv.Fit ⟨n, d, 8, a', u, t, x, g⟩) :
    Calls Try.prog 73 #[.agg (a.arr v), .agg #[.int .i64 n, .int .i64 d, .int .u8 8, .int .i64 a', .int .i64 u, .int .i64 t, .int .i64 x, .bool g]] w (Puts w b v (a.with_ ⟨n, d, 8, a', u, t, x, g⟩)) := by
  obtain ⟨A, cap, rfl, hc1, hc2⟩ := ho.form
  have HO := Lib.hid ho
  obtain ⟨h0, h1, h2, h3, h4, h5, h6, h7, h8, h9, h10, h11⟩ := hf
  obtain ⟨g0, g1, g2, g3, _, _⟩ := hc
  dsimp only at g0 g1 g2 g3
  have hR : (a.with_ ⟨n, d, 8, a', u, t, x, g⟩) = ({ a with un := a.un + 1, cr := a.cr + u } : Av) := by
    unfold Av.with_
    rw [if_neg (by show ¬ _; simp), if_neg (by show ¬ _; simp), if_pos rfl]
  rw [hR]
  clear hR ho
  have e1 : wrap64 (a.un + 1) = a.un + 1 := by unfold wrap64; omega
  have e2 : wrap64 (a.cr + u) = a.cr + u := by unfold wrap64; omega
  go_enter Try.func73, Try.ntmps73
  go_wp2_with (fail)
  refine (cyended_any _ _ _ _ _ _ _ _ _).mono ?_
  rintro e w1 ⟨rfl, hb1⟩
  obtain ⟨hw, y0, y1, z0, e1⟩ := box3 hb1
  have HW := Lib.hid hw
  have HO1 : Hid (Own w1 b (.slice A a.l.length cap) a.l) := HO.out.below HW.out
  rw [e1]
  clear e1 hb1 hw
  go_wp2_with (first | ((with_reducible_and_instances (show wpList _ _ _ (Oper.mk _ (Op.load 33 _) _ _ _ _ :: _) _ _)); refine wl_load Try.underlying33 rfl info13 rfl rfl rfl (by (repeat (first | assumption | (with_reducible refine alloc_at ?_; (focus (first | omega | (simp; done) | (simp; omega)))) | (with_reducible refine boxed_at ?_; (focus (first | omega | (simp; done) | (simp; omega)))) | (with_reducible refine alloc_old ?_ ?_; (focus (first | omega | (simp; done) | (simp; omega)))) | (with_reducible refine boxed_old ?_ ?_; (focus (first | omega | (simp; done) | (simp; omega)))) | (with_reducible refine drew_old ?_)))) (by rfl) ?_) | ((with_reducible_and_instances (show wpList _ _ _ (Oper.mk _ (Op.store 33 _ _) _ _ _ _ :: _) _ _)); refine wl_store info13 rfl rfl rfl rfl (by (repeat (first | assumption | (with_reducible refine alloc_at ?_; (focus (first | omega | (simp; done) | (simp; omega)))) | (with_reducible refine boxed_at ?_; (focus (first | omega | (simp; done) | (simp; omega)))) | (with_reducible refine alloc_old ?_ ?_; (focus (first | omega | (simp; done) | (simp; omega)))) | (with_reducible refine boxed_old ?_ ?_; (focus (first | omega | (simp; done) | (simp; omega)))) | (with_reducible refine drew_old ?_)))) (by rfl) (by rfl) (by first | exact Cv.arr_one _ | exact Nv.arr_one _ | exact Av.arr_one rfl | simp [Value.oneCell']) ?_))
  refine bodyPost_ret (results_cell_row rfl _ _ (w.heap.size+1+1) 33 _ (0, 0) _ rfl (boxed_at (by simp only [boxed_size]; omega)) Try.underlying33 rfl (by exact info13)) rfl ?_
  have hlt : ∀ i, Value.ownBlock (.slice A a.l.length cap) = some i → i < w.heap.size := fun i hi => (HO.out.at_ i hi).2
  exact ⟨_, rfl, (((HO1.out.boxed_new fun i hi => by have := hlt i hi; omega).boxed_new fun i hi => by have := hlt i hi; omega).boxed_new fun i hi => by have := hlt i hi; omega).boxed_new fun i hi => by have := hlt i hi; omega, below_grown (boxed_below (boxed_below (boxed_below (boxed_below HW.out (Nat.le_refl _)) (by omega)) (by omega)) (by omega)) _, .inl rfl⟩
set_option maxHeartbeats 2000000 in
theorem with_refunded {w : World} {b : Nat} {v : Value} {a : Av} {m : Nat} (n d  a' u t x : Int) (g : Bool) (ho : Own w b v a.l) (_ : b ≤ w.heap.size) (_ : a.l.length ≤ 1000000) (hf : a.Fit m) (hm : m ≤ 1000000) (hc : Cv.Fit ⟨n, d, 9, a', u, t, x, g⟩) :
    Calls Try.prog 73 #[.agg (a.arr v), .agg #[.int .i64 n, .int .i64 d, .int .u8 9, .int .i64 a', .int .i64 u, .int .i64 t, .int .i64 x, .bool g]] w (Puts w b v (a.with_ ⟨n, d, 9, a', u, t, x, g⟩)) := by
  obtain ⟨A, cap, rfl, hc1, hc2⟩ := ho.form
  have HO := Lib.hid ho
  obtain ⟨h0, h1, h2, h3, h4, h5, h6, h7, h8, h9, h10, h11⟩ := hf
  obtain ⟨g0, g1, g2, g3, _, _⟩ := hc
  dsimp only at g0 g1 g2 g3
  have hR : (a.with_ ⟨n, d, 9, a', u, t, x, g⟩) = ({ a with rf := a.rf + 1, cr := a.cr + u } : Av) := by
    unfold Av.with_
    rw [if_neg (by show ¬ _; simp), if_neg (by show ¬ _; simp), if_neg (by show ¬ _; simp), if_pos rfl]
  rw [hR]
  clear hR ho
  have e1 : wrap64 (a.rf + 1) = a.rf + 1 := by unfold wrap64; omega
  have e2 : wrap64 (a.cr + u) = a.cr + u := by unfold wrap64; omega
  go_enter Try.func73, Try.ntmps73
  go_wp2_with (fail)
  refine (cyended_any _ _ _ _ _ _ _ _ _).mono ?_
  rintro e w1 ⟨rfl, hb1⟩
  obtain ⟨hw, y0, y1, z0, e1⟩ := box3 hb1
  have HW := Lib.hid hw
  have HO1 : Hid (Own w1 b (.slice A a.l.length cap) a.l) := HO.out.below HW.out
  rw [e1]
  clear e1 hb1 hw
  go_wp2_with (first | ((with_reducible_and_instances (show wpList _ _ _ (Oper.mk _ (Op.load 33 _) _ _ _ _ :: _) _ _)); refine wl_load Try.underlying33 rfl info13 rfl rfl rfl (by (repeat (first | assumption | (with_reducible refine alloc_at ?_; (focus (first | omega | (simp; done) | (simp; omega)))) | (with_reducible refine boxed_at ?_; (focus (first | omega | (simp; done) | (simp; omega)))) | (with_reducible refine alloc_old ?_ ?_; (focus (first | omega | (simp; done) | (simp; omega)))) | (with_reducible refine boxed_old ?_ ?_; (focus (first | omega | (simp; done) | (simp; omega)))) | (with_reducible refine drew_old ?_)))) (by rfl) ?_) | ((with_reducible_and_instances (show wpList _ _ _ (Oper.mk _ (Op.store 33 _ _) _ _ _ _ :: _) _ _)); refine wl_store info13 rfl rfl rfl rfl (by (repeat (first | assumption | (with_reducible refine alloc_at ?_; (focus (first | omega | (simp; done) | (simp; omega)))) | (with_reducible refine boxed_at ?_; (focus (first | omega | (simp; done) | (simp; omega)))) | (with_reducible refine alloc_old ?_ ?_; (focus (first | omega | (simp; done) | (simp; omega)))) | (with_reducible refine boxed_old ?_ ?_; (focus (first | omega | (simp; done) | (simp; omega)))) | (with_reducible refine drew_old ?_)))) (by rfl) (by rfl) (by first | exact Cv.arr_one _ | exact Nv.arr_one _ | exact Av.arr_one rfl | simp [Value.oneCell']) ?_))
  refine bodyPost_ret (results_cell_row rfl _ _ (w.heap.size+1+1) 33 _ (0, 0) _ rfl (boxed_at (by simp only [boxed_size]; omega)) Try.underlying33 rfl (by exact info13)) rfl ?_
  have hlt : ∀ i, Value.ownBlock (.slice A a.l.length cap) = some i → i < w.heap.size := fun i hi => (HO.out.at_ i hi).2
  exact ⟨_, rfl, (((HO1.out.boxed_new fun i hi => by have := hlt i hi; omega).boxed_new fun i hi => by have := hlt i hi; omega).boxed_new fun i hi => by have := hlt i hi; omega).boxed_new fun i hi => by have := hlt i hi; omega, below_grown (boxed_below (boxed_below (boxed_below (boxed_below HW.out (Nat.le_refl _)) (by omega)) (by omega)) (by omega)) _, .inl rfl⟩
set_option maxHeartbeats 2000000 in
theorem with_skipped {w : World} {b : Nat} {v : Value} {a : Av} {m : Nat} (n d  a' u t x : Int) (g : Bool) (ho : Own w b v a.l) (_ : b ≤ w.heap.size) (_ : a.l.length ≤ 1000000) (hf : a.Fit m) (hm : m ≤ 1000000) (hc : Cv.Fit ⟨n, d, 10, a', u, t, x, g⟩) :
    Calls Try.prog 73 #[.agg (a.arr v), .agg #[.int .i64 n, .int .i64 d, .int .u8 10, .int .i64 a', .int .i64 u, .int .i64 t, .int .i64 x, .bool g]] w (Puts w b v (a.with_ ⟨n, d, 10, a', u, t, x, g⟩)) := by
  obtain ⟨A, cap, rfl, hc1, hc2⟩ := ho.form
  have HO := Lib.hid ho
  obtain ⟨h0, h1, h2, h3, h4, h5, h6, h7, h8, h9, h10, h11⟩ := hf
  obtain ⟨g0, g1, g2, g3, _, _⟩ := hc
  dsimp only at g0 g1 g2 g3
  have hR : (a.with_ ⟨n, d, 10, a', u, t, x, g⟩) = ({ a with sp := a.sp + 1 } : Av) := by
    unfold Av.with_
    rw [if_neg (by show ¬ _; simp), if_neg (by show ¬ _; simp), if_neg (by show ¬ _; simp), if_neg (by show ¬ _; simp), if_pos rfl]
  rw [hR]
  clear hR ho
  have e1 : wrap64 (a.sp + 1) = a.sp + 1 := by unfold wrap64; omega
  go_enter Try.func73, Try.ntmps73
  go_wp2_with (fail)
  refine (cyended_any _ _ _ _ _ _ _ _ _).mono ?_
  rintro e w1 ⟨rfl, hb1⟩
  obtain ⟨hw, y0, y1, z0, e1⟩ := box3 hb1
  have HW := Lib.hid hw
  have HO1 : Hid (Own w1 b (.slice A a.l.length cap) a.l) := HO.out.below HW.out
  rw [e1]
  clear e1 hb1 hw
  go_wp2_with (first | ((with_reducible_and_instances (show wpList _ _ _ (Oper.mk _ (Op.load 33 _) _ _ _ _ :: _) _ _)); refine wl_load Try.underlying33 rfl info13 rfl rfl rfl (by (repeat (first | assumption | (with_reducible refine alloc_at ?_; (focus (first | omega | (simp; done) | (simp; omega)))) | (with_reducible refine boxed_at ?_; (focus (first | omega | (simp; done) | (simp; omega)))) | (with_reducible refine alloc_old ?_ ?_; (focus (first | omega | (simp; done) | (simp; omega)))) | (with_reducible refine boxed_old ?_ ?_; (focus (first | omega | (simp; done) | (simp; omega)))) | (with_reducible refine drew_old ?_)))) (by rfl) ?_) | ((with_reducible_and_instances (show wpList _ _ _ (Oper.mk _ (Op.store 33 _ _) _ _ _ _ :: _) _ _)); refine wl_store info13 rfl rfl rfl rfl (by (repeat (first | assumption | (with_reducible refine alloc_at ?_; (focus (first | omega | (simp; done) | (simp; omega)))) | (with_reducible refine boxed_at ?_; (focus (first | omega | (simp; done) | (simp; omega)))) | (with_reducible refine alloc_old ?_ ?_; (focus (first | omega | (simp; done) | (simp; omega)))) | (with_reducible refine boxed_old ?_ ?_; (focus (first | omega | (simp; done) | (simp; omega)))) | (with_reducible refine drew_old ?_)))) (by rfl) (by rfl) (by first | exact Cv.arr_one _ | exact Nv.arr_one _ | exact Av.arr_one rfl | simp [Value.oneCell']) ?_))
  refine bodyPost_ret (results_cell_row rfl _ _ (w.heap.size+1+1) 33 _ (0, 0) _ rfl (boxed_at (by simp only [boxed_size]; omega)) Try.underlying33 rfl (by exact info13)) rfl ?_
  have hlt : ∀ i, Value.ownBlock (.slice A a.l.length cap) = some i → i < w.heap.size := fun i hi => (HO.out.at_ i hi).2
  exact ⟨_, rfl, (((HO1.out.boxed_new fun i hi => by have := hlt i hi; omega).boxed_new fun i hi => by have := hlt i hi; omega).boxed_new fun i hi => by have := hlt i hi; omega).boxed_new fun i hi => by have := hlt i hi; omega, below_grown (boxed_below (boxed_below (boxed_below (boxed_below HW.out (Nat.le_refl _)) (by omega)) (by omega)) (by omega)) _, .inl rfl⟩
set_option maxHeartbeats 2000000 in
theorem with_none {w : World} {b : Nat} {v : Value} {a : Av} {m : Nat} (n d p a' u t x : Int) (g : Bool) (ho : Own w b v a.l) (_ : b ≤ w.heap.size) (_ : a.l.length ≤ 1000000) (hf : a.Fit m) (_ : m ≤ 1000000) (hc : Cv.Fit ⟨n, d, p, a', u, t, x, g⟩) (hp : 10 < p) :
    Calls Try.prog 73 #[.agg (a.arr v), .agg #[.int .i64 n, .int .i64 d, .int .u8 p, .int .i64 a', .int .i64 u, .int .i64 t, .int .i64 x, .bool g]] w (Puts w b v (a.with_ ⟨n, d, p, a', u, t, x, g⟩)) := by
  obtain ⟨A, cap, rfl, hc1, hc2⟩ := ho.form
  have HO := Lib.hid ho
  obtain ⟨h0, h1, h2, h3, h4, h5, h6, h7, h8, h9, h10, h11⟩ := hf
  obtain ⟨g0, g1, g2, g3, _, _⟩ := hc
  dsimp only at g0 g1 g2 g3
  have hR : (a.with_ ⟨n, d, p, a', u, t, x, g⟩) = a := by
    unfold Av.with_
    dsimp only; rw [if_neg (by omega), if_neg (by omega), if_neg (by omega), if_neg (by omega), if_neg (by omega)]
  rw [hR]
  clear hR ho
  have hd7 : decide (7 ≤ p) = true := by simp; omega
  have hq7 : (p == 7) = false := by rw [beq_eq_false_iff_ne]; omega
  have hq8 : (p == 8) = false := by rw [beq_eq_false_iff_ne]; omega
  have hq9 : (p == 9) = false := by rw [beq_eq_false_iff_ne]; omega
  have hq10 : (p == 10) = false := by rw [beq_eq_false_iff_ne]; omega
  go_enter Try.func73, Try.ntmps73
  go_wp2_with (fail)
  refine (cyended_any _ _ _ _ _ _ _ _ _).mono ?_
  rintro e w1 ⟨rfl, hb1⟩
  obtain ⟨hw, y0, y1, z0, e1⟩ := box3 hb1
  have HW := Lib.hid hw
  have HO1 : Hid (Own w1 b (.slice A a.l.length cap) a.l) := HO.out.below HW.out
  rw [e1]
  clear e1 hb1 hw
  go_wp2_with (first | ((with_reducible_and_instances (show wpList _ _ _ (Oper.mk _ (Op.load 33 _) _ _ _ _ :: _) _ _)); refine wl_load Try.underlying33 rfl info13 rfl rfl rfl (by (repeat (first | assumption | (with_reducible refine alloc_at ?_; (focus (first | omega | (simp; done) | (simp; omega)))) | (with_reducible refine boxed_at ?_; (focus (first | omega | (simp; done) | (simp; omega)))) | (with_reducible refine alloc_old ?_ ?_; (focus (first | omega | (simp; done) | (simp; omega)))) | (with_reducible refine boxed_old ?_ ?_; (focus (first | omega | (simp; done) | (simp; omega)))) | (with_reducible refine drew_old ?_)))) (by rfl) ?_) | ((with_reducible_and_instances (show wpList _ _ _ (Oper.mk _ (Op.store 33 _ _) _ _ _ _ :: _) _ _)); refine wl_store info13 rfl rfl rfl rfl (by (repeat (first | assumption | (with_reducible refine alloc_at ?_; (focus (first | omega | (simp; done) | (simp; omega)))) | (with_reducible refine boxed_at ?_; (focus (first | omega | (simp; done) | (simp; omega)))) | (with_reducible refine alloc_old ?_ ?_; (focus (first | omega | (simp; done) | (simp; omega)))) | (with_reducible refine boxed_old ?_ ?_; (focus (first | omega | (simp; done) | (simp; omega)))) | (with_reducible refine drew_old ?_)))) (by rfl) (by rfl) (by first | exact Cv.arr_one _ | exact Nv.arr_one _ | exact Av.arr_one rfl | simp [Value.oneCell']) ?_))
  refine bodyPost_ret (results_cell_row rfl _ _ (w.heap.size+1+1) 33 _ (0, 0) _ rfl (boxed_at (by simp only [boxed_size]; omega)) Try.underlying33 rfl (by exact info13)) rfl ?_
  have hlt : ∀ i, Value.ownBlock (.slice A a.l.length cap) = some i → i < w.heap.size := fun i hi => (HO.out.at_ i hi).2
  exact ⟨_, rfl, (((HO1.out.boxed_new fun i hi => by have := hlt i hi; omega).boxed_new fun i hi => by have := hlt i hi; omega).boxed_new fun i hi => by have := hlt i hi; omega).boxed_new fun i hi => by have := hlt i hi; omega, below_grown (boxed_below (boxed_below (boxed_below (boxed_below HW.out (Nat.le_refl _)) (by omega)) (by omega)) (by omega)) _, .inl rfl⟩
/-- Whatever the cycle. -/
theorem with_any {w : World} {b : Nat} {v : Value} {a : Av} {m : Nat} (c : Cv) (ho : Own w b v a.l) (hb : b ≤ w.heap.size) (hs : a.l.length ≤ 1000000) (hf : a.Fit m) (hm : m ≤ 1000000) (hc : c.Fit) :
    Calls Try.prog 73 #[.agg (a.arr v), .agg c.arr] w (Puts w b v (a.with_ c)) := by
  obtain ⟨n, d, p, a', u, t, x, g⟩ := c
  by_cases h7 : p < 7
  · exact with_open n d p a' u t x g ho hb hs hf hm hc h7
  by_cases e7 : p = 7
  · subst e7; exact with_done n d a' u t x g ho hb hs hf hm hc
  by_cases e8 : p = 8
  · subst e8; exact with_unpaid n d a' u t x g ho hb hs hf hm hc
  by_cases e9 : p = 9
  · subst e9; exact with_refunded n d a' u t x g ho hb hs hf hm hc
  by_cases e10 : p = 10
  · subst e10; exact with_skipped n d a' u t x g ho hb hs hf hm hc
  · exact with_none n d p a' u t x g ho hb hs hf hm hc (by omega)
end Go.Proofs.Ytnbfkdcpghkglaa
