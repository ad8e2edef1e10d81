/-
  Lists of cycles in memory: a slice that reads as cycles, nil let in; one copied, one cycle more, one that is another one, one loaded. No conditions but the sizes.
-/
import Derived.Deep.MidRow
import Derived.Maps.AppendAt
import Derived.WalkSpells
import Derived.IntWalk
import Derived.Test.YtnbfkdcpghkglaaPb02
import Derived.Test.YtnbfkdcpghkglaaPb03
set_option linter.unusedSimpArgs false
set_option linter.unusedVariables false
namespace Go.Proofs.Ytnbfkdcpghkglaa
set_option maxRecDepth 20000
open Go.ChangeShapes Go.WideShapes Go.ChangeAt Go.RowKit

/-- The types of a list of cycles. -/
structure CyTy (T E : TypeId) : Prop where
  row : Try.prog.underlying T = some (.slice E)
  one : ∃ d, Try.prog.underlying E = some d ∧ d.isRow = true
  info : (Try.prog.info? E).map (fun i => (i.zero, i.size, i.bytes)) = some (some (.agg #[.int .i64 0, .int .i64 0, .int .u8 0, .int .i64 0, .int .i64 0, .int .i64 0, .int .i64 0, .bool false]), 8, 64)
theorem CyTy.size {T E : TypeId} (h : CyTy T E) : (Try.prog.info? E).map (·.size) = some 8 := by
  obtain ⟨i, hi, _, hs, _⟩ := info_parts h.info
  rw [hi]; exact congrArg some hs
theorem cyty : CyTy 29 46 := ⟨Try.underlying29, ⟨_, Try.underlying46, rfl⟩, by kernel_rfl⟩
theorem cytyr : CyTy 34 69 := ⟨Try.underlying34, ⟨_, Try.underlying69, rfl⟩, by kernel_rfl⟩
/-- A cycle's cells, and those of cycles one behind the other. -/
def Cv.cs (c : Cv) : List Value := c.arr.toList
theorem Cv.cs_len (c : Cv) : c.cs.length = 8 := rfl
theorem Cv.cs_one (c : Cv) : ∀ u ∈ c.cs, u.oneCell' = true := by
  intro u hu
  simp only [Cv.cs, Cv.arr, List.mem_cons, List.not_mem_nil, or_false] at hu
  rcases hu with rfl | rfl | rfl | rfl | rfl | rfl | rfl | rfl <;> rfl
def ccs (l : List Cv) : List Value := l.flatMap Cv.cs
theorem ccs_nil : ccs [] = [] := rfl
theorem ccs_cons (c : Cv) (l : List Cv) : ccs (c :: l) = c.cs ++ ccs l := by unfold ccs; rw [List.flatMap_cons]
theorem ccs_append (a b : List Cv) : ccs (a ++ b) = ccs a ++ ccs b := by unfold ccs; rw [List.flatMap_append]
theorem ccs_one (c : Cv) : ccs [c] = c.cs := by rw [ccs_cons, ccs_nil, List.append_nil]
theorem ccs_len (l : List Cv) : (ccs l).length = l.length * 8 := by
  induction l with
  | nil => rfl
  | cons c r ih => rw [ccs_cons, List.length_append, ih, Cv.cs_len, List.length_cons]; omega
theorem ccs_cell (l : List Cv) : ∀ u ∈ ccs l, u.oneCell' = true := by
  intro u hu
  obtain ⟨c, _, hc⟩ := List.mem_flatMap.1 hu
  exact c.cs_one u hc
theorem ccs_at {l : List Cv} {k : Nat} {c : Cv} (h : l[k]? = some c) {i : Nat} {v : Value} (hv : c.cs[i]? = some v) : (ccs l)[k * 8 + i]? = some v := by
  induction l generalizing k with
  | nil => simp at h
  | cons q r ih =>
    have hi : i < 8 := by have := (List.getElem?_eq_some_iff.1 hv).1; rwa [Cv.cs_len] at this
    rw [ccs_cons]
    rcases k with _ | k
    · simp at h; subst h
      rw [List.getElem?_append_left (by rw [Cv.cs_len]; omega)]
      simpa using hv
    · rw [List.getElem?_append_right (by rw [Cv.cs_len]; omega), Cv.cs_len, show (k + 1) * 8 + i - 8 = k * 8 + i by omega]
      exact ih (by simpa using h)
/-- The cycle in which a cell lies. -/
theorem ccs_of {l : List Cv} {j : Nat} {v : Value} (h : (ccs l)[j]? = some v) : ∃ c, l[j / 8]? = some c ∧ c.cs[j % 8]? = some v := by
  induction l generalizing j with
  | nil => simp [ccs_nil] at h
  | cons q r ih =>
    rw [ccs_cons] at h
    by_cases hj : j < 8
    · rw [List.getElem?_append_left (by rw [Cv.cs_len]; exact hj)] at h
      exact ⟨q, by rw [Nat.div_eq_of_lt hj]; rfl, by rw [Nat.mod_eq_of_lt hj]; exact h⟩
    · rw [List.getElem?_append_right (by rw [Cv.cs_len]; omega), Cv.cs_len] at h
      obtain ⟨c, h1, h2⟩ := ih h
      refine ⟨c, ?_, ?_⟩
      · rw [show j / 8 = (j - 8) / 8 + 1 by omega, List.getElem?_cons_succ]; exact h1
      · rw [show j % 8 = (j - 8) % 8 by omega]; exact h2

/-- A slice reads as these cycles, in a block from b on, below block B. -/
def Cys (w : World) (b B : Nat) (v : Value) (l : List Cv) : Prop :=
  ∃ A c, v = .slice A l.length c ∧ l.length ≤ c ∧ c ≤ maxLen ∧ (l ≠ [] → ∃ g o, A = some ⟨g, o, none⟩ ∧ (b ≤ g ∧ g < B) ∧ w.rangeAt g o (ccs l)) ∧ (A = none → c = 0)
section
variable {w w' : World} {b b' B B' base : Nat} {v : Value} {l : List Cv} {T E : TypeId}
theorem Cys.nil : Cys w b B (.slice none 0 0) [] := ⟨none, 0, rfl, Nat.le_refl _, by unfold maxLen; omega, fun h => absurd rfl h, fun _ => rfl⟩
theorem Cys.kept (h : Cys w b B v l) (hk : ∀ i, b ≤ i → i < B → w'.heap[i]? = w.heap[i]?) : Cys w' b B v l := by
  obtain ⟨A, c, hv, h1, h2, h3, h4⟩ := h
  refine ⟨A, c, hv, h1, h2, fun hl => ?_, h4⟩
  obtain ⟨g, o, hA, hg, hr⟩ := h3 hl
  exact ⟨g, o, hA, hg, fun j u hu => (World.cell?_of_block (a := ⟨g, o + j, none⟩) (hk g hg.1 hg.2)).trans (hr j u hu)⟩
theorem Cys.below (h : Cys w b B v l) (hb : Below B w w') : Cys w' b B v l := h.kept fun i _ hi => hb.block i hi
theorem Cys.more (h : Cys w b B v l) (hb : b' ≤ b) (hB : B ≤ B') : Cys w b' B' v l := by
  obtain ⟨A, c, hv, h1, h2, h3, h4⟩ := h
  refine ⟨A, c, hv, h1, h2, fun hl => ?_, h4⟩
  obtain ⟨g, o, hA, hg, hr⟩ := h3 hl
  exact ⟨g, o, hA, ⟨by omega, by omega⟩, hr⟩
/-- One of them: where it lies. -/
theorem Cys.at_ (h : Cys w b B v l) {k : Nat} {c : Cv} (hc : l[k]? = some c) : ∃ g o cap, v = .slice (some ⟨g, o, none⟩) l.length cap ∧ k < l.length ∧ l.length ≤ cap ∧ cap ≤ maxLen ∧ b ≤ g ∧ g < B ∧ w.rangeAt g (o + k * 8) c.cs := by
  obtain ⟨A, cap, hv, h1, h2, h3, _⟩ := h
  obtain ⟨g, o, rfl, hg, hr⟩ := h3 (fun e => by subst e; simp at hc)
  refine ⟨g, o, cap, hv, (List.getElem?_eq_some_iff.1 hc).1, h1, h2, hg.1, hg.2, fun j u hu => ?_⟩
  rw [Nat.add_assoc]
  exact hr _ u (ccs_at hc hu)
/-- A row of the call's own. -/
theorem Cys.own (h : w.ownsRow base E 8 v l.length (ccs l)) : Cys w base w.heap.size v l := by
  rcases h.2 with ⟨hv, hn⟩ | ⟨g, cap, cur, hv, hb, hg, h1, h2, h3, h4⟩
  · obtain rfl := List.eq_nil_of_length_eq_zero hn
    subst hv
    exact Cys.nil
  · refine ⟨_, cap, hv, h1, h2, fun _ => ⟨g, 0, rfl, ⟨hb, (Array.getElem?_eq_some_iff.1 hg).1⟩, fun j u hu => ?_⟩, fun e => by cases e⟩
    rw [cell_of_row _ _ _ _ _ _ hg, Nat.zero_add, ← Array.getElem?_toList]
    rw [← h4] at hu
    rw [List.getElem?_take] at hu
    split at hu
    · exact hu
    · cases hu
/-- All of a list behind a row of the call's own. -/
theorem run_append_cys (ty : CyTy T E) {q : TypeId} {l0 : List Cv} {v0 : Value} (ho : w.ownsRow base E 8 v0 l0.length (ccs l0)) (h : Cys w b B v l) (hs : l0.length + l.length ≤ 100000000) (hb : base ≤ w.heap.size) :
    ∃ v' w', (Builtin.append_ #[T, T] q #[v0, v]).run Try.prog w = .ok v' w' ∧ w'.ownsRow base E 8 v' (l0 ++ l).length (ccs (l0 ++ l)) ∧ w.grownBy w' v0.ownBlock ∧ (v'.ownBlock = v0.ownBlock ∨ v'.ownBlock = some w.heap.size) := by
  obtain ⟨i, hi, hz, hsz, hby⟩ := info_parts ty.info
  obtain ⟨A, c, rfl, h1, h2, h3, h4⟩ := h
  rcases A with _ | a
  · have hl : l = [] := by
      rcases l with _ | ⟨x, r⟩
      · rfl
      · obtain ⟨g, o, e, _⟩ := h3 (by simp); cases e
    subst hl
    refine ⟨v0, w, ?_, by rw [List.append_nil]; exact ho, grown_refl _ _, .inl rfl⟩
    rcases ho.2 with ⟨rfl, hn⟩ | ⟨g, cap, cur, rfl, _, _, hnc, _⟩
    · simp [Builtin.append_, run_underlying ty.row, sizeOf, typeInfo, hi, Builtin.lenOf, Builtin.firstCells]
    · simp [Builtin.append_, run_underlying ty.row, sizeOf, typeInfo, hi, Builtin.lenOf, Builtin.firstCells, hnc, storeCells]
  · have hcells : ∀ j u, (ccs l)[j]? = some u → w.cell? (a.add j) = some u := fun j u hu => by
      obtain ⟨g, o, e, _, hr⟩ := h3 (fun e => by subst e; simp [ccs_nil] at hu)
      injection e with e
      subst e
      have := hr j u hu
      unfold Addr.add
      split
      · subst_vars; simpa using this
      · exact this
    obtain ⟨v', w', hrun, g1, g2, _, g4⟩ := run_append_own_at (P := Try.prog) w base T q E i _ 8 64 ty.row hi hz hsz hby rfl (by decide) v0 l0.length (ccs l0) ho a l.length c (ccs l) (ccs_len l) hcells (ccs_cell l) (by unfold maxLen; omega) (by omega) hb
    refine ⟨v', w', hrun, ?_, g2, g4⟩
    rw [List.length_append, ccs_append]
    exact g1
end
end Go.Proofs.Ytnbfkdcpghkglaa
/-
  A world that is known in three blocks. No conditions but those that each law names.
-/
namespace Go.Proofs.Ytnbfkdcpghkglaa
open Go.ChangeShapes Go.WideShapes Go.ChangeAt Go.RowKit

/-- Three new blocks of a call, behind another call that makes new blocks alone; and again. -/
theorem box3 {w w1 : World} {cs0 cs1 cs2 : Array Value} {t0 t1 t2 : TypeId} (hb : Below (((w.alloc (.cells cs0 t0)).alloc (.cells cs1 t1)).alloc (.cells cs2 t2)).heap.size (((w.alloc (.cells cs0 t0)).alloc (.cells cs1 t1)).alloc (.cells cs2 t2)) w1) :
    Below w.heap.size w w1 ∧ w.heap.size < w1.heap.size ∧ w.heap.size + 1 < w1.heap.size ∧ w.heap.size + 1 + 1 < w1.heap.size ∧ w1 = boxed (boxed (boxed w1 w.heap.size cs0 t0) (w.heap.size + 1) cs1 t1) (w.heap.size + 1 + 1) cs2 t2 := by
  have hz := hb.size
  have b0 : w1.heap[w.heap.size]? = some (.cells cs0 t0) := below_block hb (alloc_old (by simp; omega) (alloc_old (by simp) (alloc_at rfl)))
  have b1 : w1.heap[w.heap.size + 1]? = some (.cells cs1 t1) := below_block hb (alloc_old (by simp) (alloc_at (by simp)))
  have b2 : w1.heap[w.heap.size + 1 + 1]? = some (.cells cs2 t2) := below_block hb (alloc_at (by simp))
  simp at hz
  refine ⟨((((Below.refl _ _).alloc (Nat.le_refl _) _).alloc (by simp) _).alloc (by simp; omega) _).trans (hb.mono (by simp; omega)), by omega, by omega, by omega, ?_⟩
  rw [← boxed_self b0, ← boxed_self b1, ← boxed_self b2]
theorem box3_again {w wx w2 : World} {B : Nat} {cs0 cs1 cs2 : Array Value} {t0 t1 t2 : TypeId} (h0 : Below B w wx) (hz : B + 1 + 1 < wx.heap.size)
    (hb : Below (boxed (boxed (boxed wx B cs0 t0) (B + 1) cs1 t1) (B + 1 + 1) cs2 t2).heap.size (boxed (boxed (boxed wx B cs0 t0) (B + 1) cs1 t1) (B + 1 + 1) cs2 t2) w2) :
    Below B w w2 ∧ B + 1 + 1 < w2.heap.size ∧ w2 = boxed (boxed (boxed w2 B cs0 t0) (B + 1) cs1 t1) (B + 1 + 1) cs2 t2 := by
  have hs := hb.size
  have b0 : w2.heap[B]? = some (.cells cs0 t0) := below_block hb (boxed_old (by omega) (boxed_old (by omega) (boxed_at (by omega))))
  have b1 : w2.heap[B + 1]? = some (.cells cs1 t1) := below_block hb (boxed_old (by omega) (boxed_at (by rw [boxed_size]; omega)))
  have b2 : w2.heap[B + 1 + 1]? = some (.cells cs2 t2) := below_block hb (boxed_at (by rw [boxed_size, boxed_size]; omega))
  rw [boxed_size, boxed_size, boxed_size] at hs
  have hq : Below B wx (boxed (boxed (boxed wx B cs0 t0) (B + 1) cs1 t1) (B + 1 + 1) cs2 t2) := boxed_below (boxed_below (boxed_below (Below.refl _ _) (Nat.le_refl B)) (by omega)) (by omega)
  refine ⟨h0.trans (hq.trans (hb.mono (by rw [boxed_size, boxed_size, boxed_size]; omega))), by omega, ?_⟩
  rw [← boxed_self b0, ← boxed_self b1, ← boxed_self b2]
section
variable {wx : World} {B : Nat} {c0 c1 c2 : Array Value} {t0 t1 t2 : TypeId} {o o' : Obj}
/-- The first two of three known blocks, with a block or two that are made behind them. -/
theorem look0 (h : B + 1 + 1 < wx.heap.size) : (boxed (boxed (boxed wx B c0 t0) (B + 1) c1 t1) (B + 1 + 1) c2 t2).heap[B]? = some (.cells c0 t0 (0, 0)) :=
  boxed_old (by omega) (boxed_old (by omega) (boxed_at (by omega)))
theorem look1 (h : B + 1 + 1 < wx.heap.size) : (boxed (boxed (boxed wx B c0 t0) (B + 1) c1 t1) (B + 1 + 1) c2 t2).heap[B + 1]? = some (.cells c1 t1 (0, 0)) :=
  boxed_old (by omega) (boxed_at (by rw [boxed_size]; omega))
theorem look0_1 (h : B + 1 + 1 < wx.heap.size) : ((boxed (boxed (boxed wx B c0 t0) (B + 1) c1 t1) (B + 1 + 1) c2 t2).alloc o).heap[B]? = some (.cells c0 t0 (0, 0)) := alloc_old (by simp; omega) (look0 h)
theorem look1_1 (h : B + 1 + 1 < wx.heap.size) : ((boxed (boxed (boxed wx B c0 t0) (B + 1) c1 t1) (B + 1 + 1) c2 t2).alloc o).heap[B + 1]? = some (.cells c1 t1 (0, 0)) := alloc_old (by simp; omega) (look1 h)
theorem look0_2 (h : B + 1 + 1 < wx.heap.size) : (((boxed (boxed (boxed wx B c0 t0) (B + 1) c1 t1) (B + 1 + 1) c2 t2).alloc o).alloc o').heap[B]? = some (.cells c0 t0 (0, 0)) := alloc_old (by simp; omega) (look0_1 h)
theorem look1_2 (h : B + 1 + 1 < wx.heap.size) : (((boxed (boxed (boxed wx B c0 t0) (B + 1) c1 t1) (B + 1 + 1) c2 t2).alloc o).alloc o').heap[B + 1]? = some (.cells c1 t1 (0, 0)) := alloc_old (by simp; omega) (look1_1 h)
end
end Go.Proofs.Ytnbfkdcpghkglaa
/-
  A subscription's lists: the document's own 'with' and 'change'. No conditions but the sizes.
-/
namespace Go.Proofs.Ytnbfkdcpghkglaa
set_option maxRecDepth 20000
open Go.ChangeShapes Go.WideShapes Go.ChangeAt Go.RowKit

/-- All of a list behind a row of the call's own: at the operation, for the walk. -/
theorem wpList_append_cys {T E : TypeId} (ty : CyTy T E) {w : World} {ops : Array Oper} {rest : List Oper} {o : Oper} {a : Act} {Q : Exit → Act → World → Prop} (hgd : o.guard = none) (s x : Operand)
    (ho : o.op = .call { callee := .builtin .append, args := #[s, x], argTypes := #[T, T] }) {base b B : Nat} {v0 v : Value} {l0 l : List Cv} (hsv : a.eval s = v0) (hx : a.eval x = v)
    (how : w.ownsRow base E 8 v0 l0.length (ccs l0)) (h : Cys w b B v l) (hs : l0.length + l.length ≤ 100000000) (hb : base ≤ w.heap.size)
    (hk : ∀ v' w', w'.ownsRow base E 8 v' (l0 ++ l).length (ccs (l0 ++ l)) → w.grownBy w' v0.ownBlock → (v'.ownBlock = v0.ownBlock ∨ v'.ownBlock = some w.heap.size) → wpList Try.prog ops Q rest (a.put o.dst v') w') : wpList Try.prog ops Q (o :: rest) a w := by
  refine wpList_plain hgd fun K hK => ?_
  obtain ⟨v', w', hrun, h1, h2, h3⟩ := run_append_cys ty (q := o.type) how h hs hb
  unfold Oper.wp execOp
  simp only [ho, resolve, invoke, builtin, Sem.run_bind, Sem.run_pure, Result.andThen_ok, List.map_toArray, List.map_cons, List.map_nil, hsv, hx, hrun]
  exact hK _ _ (hk v' w' h1 h2 h3)
theorem grown_none {w w' : World} (h : w.grownBy w' none) : Below w.heap.size w w' := ⟨h.os, h.tape, h.output, h.size, fun i hi => h.block i hi (by simp)⟩
theorem setCells_below {w w1 : World} {g o : Nat} {vs : List Value} {b : Nat} (h : Below b w w1) (hg : b ≤ g) : Below b w (w1.setCells g o vs) := by
  induction vs generalizing w1 o with
  | nil => exact h
  | cons v r ih => exact ih (Below.setCell (p := ⟨g, o, none⟩) h hg v)
/-- A row of the call's own in which one cycle is stored anew: what it reads as. -/
theorem set_reads {w : World} {g : Nat} {l : List Cv} {k : Nat} {c : Cv} {cs : List Value} (hcs : c.cs = cs) (hr : w.rangeAt g 0 (ccs l)) (ht : w.there g (k * 8) 8) (hk : k < l.length) : (w.setCells g (k * 8) cs).rangeAt g 0 (ccs (l.set k c)) := by
  have hl : cs.length = 8 := by rw [← hcs]; exact c.cs_len
  have h1 := World.rangeAt_setCells_same w g (k * 8) cs (by rw [hl]; exact ht)
  intro j u hu
  obtain ⟨q, hq, hqu⟩ := ccs_of hu
  have hj : j = j / 8 * 8 + j % 8 := by omega
  have hm : j % 8 < 8 := by omega
  rw [Nat.zero_add]
  generalize j / 8 = J at *
  generalize j % 8 = I at *
  subst hj
  by_cases he : J = k
  · rw [he, List.getElem?_set_self (by omega)] at hq
    injection hq with hq
    rw [← hq, hcs] at hqu
    rw [he]
    exact h1 I u hqu
  · rw [List.getElem?_set_ne (by omega)] at hq
    have h5 : w.rangeAt g (J * 8) q.cs := fun i v hv => by
      have := hr _ v (ccs_at hq hv)
      rw [Nat.zero_add] at this
      exact this
    have h6 := World.rangeAt_setCells_apart h5 g (k * 8) cs (by rw [Cv.cs_len, hl]; omega)
    exact h6 I u hqu
theorem Cys.set {w : World} {base : Nat} {E : TypeId} {g cap : Nat} {l : List Cv} {k : Nat} {c : Cv} {cs : List Value} (hcs : c.cs = cs) (h : w.ownsRow base E 8 (.slice (some ⟨g, 0, none⟩) l.length cap) l.length (ccs l)) (hk : k < l.length) :
    w.there g (k * 8) 8 ∧ Cys (w.setCells g (k * 8) cs) base (w.setCells g (k * 8) cs).heap.size (.slice (some ⟨g, 0, none⟩) l.length cap) (l.set k c) := by
  have hz : w.heap.size ≤ (w.setCells g (k * 8) cs).heap.size := (setCells_below (Below.refl 0 w) (Nat.zero_le g)).size
  rcases h.2 with ⟨hv, _⟩ | ⟨g', cap', cur, hv, hb, hg, h1, h2, h3, h4⟩
  · injection hv with e; cases e
  injection hv with e1 e2 e3
  injection e1 with e1
  injection e1 with e1
  subst e1 e3
  have hr : w.rangeAt g 0 (ccs l) := fun j u hu => by
    rw [cell_of_row _ _ _ _ _ _ hg, Nat.zero_add, ← Array.getElem?_toList]
    rw [← h4, List.getElem?_take] at hu
    split at hu
    · exact hu
    · cases hu
  have ht : w.there g (k * 8) 8 := fun j hj => ⟨by rw [cell_of_row _ _ _ _ _ _ hg, Array.getElem?_eq_getElem (by rw [h3]; have : (k + 1) * 8 ≤ cap * 8 := Nat.mul_le_mul_right 8 (by omega); omega)]; rfl, by unfold World.frozen?; rw [hg]; simp⟩
  exact ⟨ht, some ⟨g, 0, none⟩, cap, by rw [List.length_set], by rw [List.length_set]; exact h1, h2, fun _ => ⟨g, 0, rfl, ⟨hb, Nat.lt_of_lt_of_le (Array.getElem?_eq_some_iff.1 hg).1 hz⟩, set_reads hcs hr ht hk⟩, fun e => by cases e⟩
/-- What the copy of a list leaves, behind one box. -/
theorem with_row {w w1 : World} {cs : Array Value} {t : TypeId} {E : TypeId} {v1 : Value} {l : List Cv} {k : Nat} (hk : k < l.length) (ho : w1.ownsRow (w.heap.size + 1) E 8 v1 l.length (ccs l)) (hg : (w.alloc (.cells cs t)).grownBy w1 none) :
    ∃ g cap, v1 = .slice (some ⟨g, 0, none⟩) l.length cap ∧ w.heap.size < g ∧ l.length ≤ cap ∧ cap ≤ maxLen ∧ w1.heap[w.heap.size]? = some (.cells cs t (0, 0)) ∧ Below w.heap.size w w1 := by
  have hb := grown_none hg
  rcases ho.2 with ⟨_, hn⟩ | ⟨g, cap, cur, hv, hbg, _, h1, h2, _⟩
  · omega
  · exact ⟨g, cap, hv, by omega, h1, h2, below_block hb (alloc_at rfl), ((Below.refl _ w).alloc (Nat.le_refl _) _).trans (hb.mono (by simp))⟩
set_option maxHeartbeats 1000000 in
theorem refwith_any {w : World} {v : Value} {l : List Cv} {k : Nat} (n d p a u t x : Int) (g : Bool) (h : Cys w 0 w.heap.size v l) (hk : k < l.length) (hs : l.length ≤ 1000000) :
    Calls Try.prog 77 #[v, .int .i64 k, .agg #[.int .i64 n, .int .i64 d, .int .u8 p, .int .i64 a, .int .i64 u, .int .i64 t, .int .i64 x, .bool g]] w fun e w' => ∃ v', e = .returned v' ∧ Cys w' w.heap.size w'.heap.size v' (l.set k ⟨n, d, p, a, u, t, x, g⟩) ∧ Below w.heap.size w w' := by
  have H := Lib.hid h
  clear h
  have k0 : (0 : Int) ≤ (k : Int) := by omega
  have k1 : (k : Int) < (l.length : Int) := by omega
  go_enter Try.func77, Try.ntmps77
  go_wp2_with (first | (at_builtin; refine wpList_append_cys cytyr rfl _ _ rfl (l0 := []) (base := w.heap.size + 1) rfl rfl (World.ownsRow_nil _ _ _ _) ((H.out.below ((Below.refl _ w).alloc (Nat.le_refl _) _))) (by simp; omega) (by simp) ?_; intro v1 w1 ho1 hg1 _; rw [List.nil_append] at ho1; obtain ⟨gg, cap, rfl, hgg, hcap, hcm, hbox, hbl⟩ := with_row (k := k) (l := l) hk ho1 hg1; obtain ⟨c0, c1, c2, c3, c4, c5, c6, c7⟩ := cells8 hbox; have HO := Lib.hid ho1; have HBL := Lib.hid hbl; clear ho1 hg1 hbox hbl) | ((with_reducible_and_instances (show wpList _ _ _ (Oper.mk _ (Op.store 69 _ _) _ _ _ _ :: _) _ _)); refine wpList_store_mid rfl _ _ _ rfl gg (k * 8) (#[.int .i64 n, .int .i64 d, .int .u8 p, .int .i64 a, .int .i64 u, .int .i64 t, .int .i64 x, .bool g]) rfl rfl (Cys.set (c := ⟨n, d, p, a, u, t, x, g⟩) rfl HO.out hk).1 info8r (by simp [Value.oneCell']) ?_))
  go_ret
  exact ⟨_, rfl, (Cys.set (c := ⟨n, d, p, a, u, t, x, g⟩) rfl HO.out hk).2.more (by omega) (Nat.le_refl _), setCells_below HBL.out (by omega)⟩
end Go.Proofs.Ytnbfkdcpghkglaa
/-
  One cycle of a subscription is another one: the document's own change. No conditions but the sizes.
-/
namespace Go.Proofs.Ytnbfkdcpghkglaa
set_option maxRecDepth 20000
open Go.ChangeShapes Go.WideShapes Go.ChangeAt Go.RowKit

/-- The credit, behind a cycle that has turned. -/
def Cy.gain (cr : Int) (c z : Cv) : Int := if (z.p = 8 ∨ z.p = 9) ∧ c.p < 7 then cr + z.u else cr
theorem Cys.below3 {w : World} {v : Value} {l : List Cv} (h : Cys w 0 w.heap.size v l) (a b c : Obj) : Cys (((w.alloc a).alloc b).alloc c) 0 (((w.alloc a).alloc b).alloc c).heap.size v l :=
  (h.below ((((Below.refl _ w).alloc (Nat.le_refl _) a).alloc (by simp) b).alloc (by simp; omega) c)).more (Nat.le_refl _) (by simp; omega)
set_option maxHeartbeats 2000000 in
theorem refchange_any {w : World} {v : Value} {l : List Cv} {k : Nat} (st pl an ix cr : Int) (sk : Bool) (n d p a u t x : Int) (g : Bool) {c0 : Cv} (h : Cys w 0 w.heap.size v l) (hc0 : l[k]? = some c0) (hs : l.length ≤ 1000000) (hcr : -1000000000000000000 ≤ cr ∧ cr ≤ 1000000000000000000) (hu : -1000000000000000000 ≤ u ∧ u ≤ 1000000000000000000) :
    Calls Try.prog 47 #[.agg #[.int .u8 st, .int .i64 pl, .int .i64 an, .int .i64 ix, .int .i64 cr, .bool sk, v], .int .i64 k, .agg #[.int .i64 n, .int .i64 d, .int .u8 p, .int .i64 a, .int .i64 u, .int .i64 t, .int .i64 x, .bool g]] w fun e w' => ∃ v', e = .returned (.agg #[.int .u8 st, .int .i64 pl, .int .i64 an, .int .i64 ix, .int .i64 (Cy.gain cr c0 ⟨n, d, p, a, u, t, x, g⟩), .bool sk, v']) ∧ Cys w' w.heap.size w'.heap.size v' (l.set k ⟨n, d, p, a, u, t, x, g⟩) ∧ Below w.heap.size w w' := by
  obtain ⟨hcr0, hcr1⟩ := hcr
  obtain ⟨hu0, hu1⟩ := hu
  obtain ⟨gg, oo, cap, rfl, hk, hcap, hcm, _, hgg, hr⟩ := h.at_ hc0
  have H := Lib.hid h
  obtain ⟨n0, d0, p0, a0, u0, t0, x0, g0⟩ := c0
  have hp0 : w.cell? ⟨gg, oo + k * 8 + 2, none⟩ = some (.int .u8 p0) := hr 2 _ rfl
  have k0 : (0 : Int) ≤ (k : Int) := by omega
  have k1 : (k : Int) < (l.length : Int) := by omega
  have hg1 : gg < w.heap.size + 1 := by omega
  have hg2 : gg < w.heap.size + 1 + 1 := by omega
  obtain ⟨q, hq⟩ : ∃ q, Cy.gain cr ⟨n0, d0, p0, a0, u0, t0, x0, g0⟩ ⟨n, d, p, a, u, t, x, g⟩ = q := ⟨_, rfl⟩
  have HG := Lib.hid hq
  clear hr h hc0
  by_cases h89 : p = 8 ∨ p = 9
  case neg =>
    have e8 : (p == 8) = false := by rw [beq_eq_false_iff_ne]; omega
    have e9 : (p == 9) = false := by rw [beq_eq_false_iff_ne]; omega
    obtain rfl : cr = q := by rw [← hq]; unfold Cy.gain; rw [if_neg (fun g => h89 g.1)]
    clear hq h89
    go_enter Try.func47, Try.ntmps47
    go_wp2_with (fail)
    refine (refwith_any (l := l) _ _ _ _ _ _ _ _ (H.out.below3 _ _ _) hk hs).mono ?_
    rintro e w1 ⟨v9, rfl, hc, hb⟩
    obtain ⟨hw, y0, y1, z0, e1⟩ := box3 hb
    obtain ⟨A9, c9, hv9, _⟩ := id hc
    rw [List.length_set] at hv9
    subst hv9
    have HC := Lib.hid hc
    have HW := Lib.hid hw
    rw [e1]
    clear e1 hb hw hc
    go_wp2
    refine bodyPost_ret (v := .agg #[.int .u8 st, .int .i64 pl, .int .i64 an, .int .i64 ix, .int .i64 cr, .bool sk, .slice A9 l.length c9]) ?_ rfl ⟨.slice A9 l.length c9, by rw [HG.out], ?_, boxed_below (boxed_below (boxed_below HW.out (Nat.le_refl _)) (by omega)) (by omega)⟩
    · simp [results, Try.results47, go_sem, z0]
    · refine (HC.out.kept fun i hi _ => ?_).more (by simp; omega) (by simp)
      have h9 : w.heap.size + 1 + 1 + 1 ≤ i := by simpa using hi
      rw [boxed_block_other (by omega), boxed_block_other (by omega), boxed_block_other (by omega)]
  have hpp : (p == 8) = true ∨ ((p == 8) = false ∧ (p == 9) = true) := by
    rcases h89 with rfl | rfl
    · exact .inl rfl
    · exact .inr ⟨rfl, rfl⟩
  by_cases h7 : 7 ≤ p0
  · have d7 : decide (7 ≤ p0) = true := by simpa using h7
    obtain rfl : cr = q := by rw [← hq]; unfold Cy.gain; rw [if_neg (fun g => by have := g.2; dsimp only at this; omega)]
    clear hq h7 h89
    rcases hpp with e8 | ⟨e8, e9⟩
    all_goals
      go_enter Try.func47, Try.ntmps47
      go_wp2_with (go_at_call 62; refine (refended_any _ _).mono ?_; rintro e w' ⟨rfl, rfl⟩)
      refine (refwith_any (l := l) _ _ _ _ _ _ _ _ (H.out.below3 _ _ _) hk hs).mono ?_
      rintro e w1 ⟨v9, rfl, hc, hb⟩
      obtain ⟨hw, y0, y1, z0, e1⟩ := box3 hb
      obtain ⟨A9, c9, hv9, _⟩ := id hc
      rw [List.length_set] at hv9
      subst hv9
      have HC := Lib.hid hc
      have HW := Lib.hid hw
      rw [e1]
      clear e1 hb hw hc
      go_wp2
      refine bodyPost_ret (v := .agg #[.int .u8 st, .int .i64 pl, .int .i64 an, .int .i64 ix, .int .i64 cr, .bool sk, .slice A9 l.length c9]) ?_ rfl ⟨.slice A9 l.length c9, by rw [HG.out], ?_, boxed_below (boxed_below (boxed_below HW.out (Nat.le_refl _)) (by omega)) (by omega)⟩
      · simp [results, Try.results47, go_sem, z0]
      · refine (HC.out.kept fun i hi _ => ?_).more (by simp; omega) (by simp)
        have h9 : w.heap.size + 1 + 1 + 1 ≤ i := by simpa using hi
        rw [boxed_block_other (by omega), boxed_block_other (by omega), boxed_block_other (by omega)]
  · have d7 : decide (7 ≤ p0) = false := by simpa using h7
    have eq : cr + u = q := by rw [← hq]; unfold Cy.gain; rw [if_pos ⟨h89, by dsimp only; omega⟩]
    subst eq
    clear hq h7 h89
    rcases hpp with e8 | ⟨e8, e9⟩
    all_goals
      go_enter Try.func47, Try.ntmps47
      go_wp2_with (go_at_call 62; refine (refended_any _ _).mono ?_; rintro e w' ⟨rfl, rfl⟩)
      refine (refwith_any (l := l) _ _ _ _ _ _ _ _ (H.out.below3 _ _ _) hk hs).mono ?_
      rintro e w1 ⟨v9, rfl, hc, hb⟩
      obtain ⟨hw, y0, y1, z0, e1⟩ := box3 hb
      obtain ⟨A9, c9, hv9, _⟩ := id hc
      rw [List.length_set] at hv9
      subst hv9
      have HC := Lib.hid hc
      have HW := Lib.hid hw
      rw [e1]
      clear e1 hb hw hc
      go_wp2
      refine bodyPost_ret (v := .agg #[.int .u8 st, .int .i64 pl, .int .i64 an, .int .i64 ix, .int .i64 (cr + u), .bool sk, .slice A9 l.length c9]) ?_ rfl ⟨.slice A9 l.length c9, by rw [HG.out], ?_, boxed_below (boxed_below (boxed_below HW.out (Nat.le_refl _)) (by omega)) (by omega)⟩
      · simp [results, Try.results47, go_sem, z0]
      · refine (HC.out.kept fun i hi _ => ?_).more (by simp; omega) (by simp)
        have h9 : w.heap.size + 1 + 1 + 1 ≤ i := by simpa using hi
        rw [boxed_block_other (by omega), boxed_block_other (by omega), boxed_block_other (by omega)]
end Go.Proofs.Ytnbfkdcpghkglaa
/-
  Plain mathematics of the proleptic Gregorian calendar, with no program in it: leap years, the months' days, a year's first day, a day's number. No conditions.
-/
namespace Go.Proofs.Ytnbfkdcpghkglaa.Cal

def leap (y : Int) : Bool := decide (y % 4 = 0 ∧ (y % 100 ≠ 0 ∨ y % 400 = 0))

theorem leap_true {y : Int} : leap y = true ↔ (y % 4 = 0 ∧ (y % 100 ≠ 0 ∨ y % 400 = 0)) := by simp [leap]
theorem leap_false {y : Int} : leap y = false ↔ ¬ (y % 4 = 0 ∧ (y % 100 ≠ 0 ∨ y % 400 = 0)) := by
  rw [leap]; exact decide_eq_false_iff_not

def mon (y m : Int) : Int :=
  if m = 1 ∨ m = 3 ∨ m = 5 ∨ m = 7 ∨ m = 8 ∨ m = 10 ∨ m = 12 then 31
  else if m = 4 ∨ m = 6 ∨ m = 9 ∨ m = 11 then 30
  else if m = 2 then (if leap y = true then 29 else 28) else 0

theorem mon_lo (y m : Int) : 0 ≤ mon y m ∧ mon y m ≤ 31 := by
  unfold mon; split <;> (try split) <;> (try split) <;> (try split) <;> omega

theorem tmod_zero (y k : Int) : y.tmod k = 0 ↔ y % k = 0 := by
  constructor
  · intro h; exact Int.emod_eq_zero_of_dvd (Int.dvd_of_tmod_eq_zero h)
  · intro h; exact Int.tmod_eq_zero_of_dvd (Int.dvd_of_emod_eq_zero h)

theorem tmod_eq {y k : Int} (h : y % k = 0) : (y.tmod k == 0) = true := by simp [(tmod_zero y k).2 h]
theorem tmod_ne {y k : Int} (h : ¬ y % k = 0) : (y.tmod k == 0) = false := by
  have : ¬ y.tmod k = 0 := fun e => h ((tmod_zero y k).1 e)
  simp [this]
theorem tmod_neq {y k : Int} (h : ¬ y % k = 0) : (y.tmod k != 0) = true := by
  have : ¬ y.tmod k = 0 := fun e => h ((tmod_zero y k).1 e)
  simp [this]
theorem tmod_nne {y k : Int} (h : y % k = 0) : (y.tmod k != 0) = false := by simp [(tmod_zero y k).2 h]

/-- A year's first day, counted from 0001-01-01. -/
def dby (y : Int) : Int := (y - 1) * 365 + (y - 1) / 4 - (y - 1) / 100 + (y - 1) / 400

theorem week (n : Int) : (n.tmod 7 + 7) % 7 = n % 7 := by
  have h : n.tmod 7 = n - 7 * n.tdiv 7 := by have := Int.mul_tdiv_add_tmod n 7; omega
  rw [h]; omega

/-- Is there such a day? -/
def right (y m d : Int) : Bool := decide (1 ≤ y ∧ y ≤ 9999 ∧ 1 ≤ d ∧ d ≤ mon y m)
theorem right_true {y m d : Int} : right y m d = true ↔ (1 ≤ y ∧ y ≤ 9999 ∧ 1 ≤ d ∧ d ≤ mon y m) := by simp [right]
theorem right_false {y m d : Int} : right y m d = false ↔ ¬ (1 ≤ y ∧ y ≤ 9999 ∧ 1 ≤ d ∧ d ≤ mon y m) := by
  rw [right]; exact decide_eq_false_iff_not
theorem mon_zero {y m : Int} (h : m < 1 ∨ 12 < m) : mon y m = 0 := by
  unfold mon; rw [if_neg (by omega), if_neg (by omega), if_neg (by omega)]
theorem right_month {y m d : Int} (h : right y m d = true) : 1 ≤ m ∧ m ≤ 12 := by
  have h := right_true.1 h
  by_cases c : m < 1 ∨ 12 < m
  · rw [mon_zero c] at h; omega
  · omega
end Go.Proofs.Ytnbfkdcpghkglaa.Cal
/-
  Plain mathematics of the calendar, continued: how many days of a year lie ahead of a month, a day's number. No conditions.
-/
namespace Go.Proofs.Ytnbfkdcpghkglaa.Cal

def lp (y : Int) : Int := if leap y = true then 1 else 0
theorem lp_01 (y : Int) : 0 ≤ lp y ∧ lp y ≤ 1 := by unfold lp; split <;> omega

/-- The days ahead of a month in its year. -/
def cum (y m : Int) : Int :=
  if m ≤ 1 then 0 else if m = 2 then 31 else if m = 3 then 59 + lp y else if m = 4 then 90 + lp y else if m = 5 then 120 + lp y
  else if m = 6 then 151 + lp y else if m = 7 then 181 + lp y else if m = 8 then 212 + lp y else if m = 9 then 243 + lp y
  else if m = 10 then 273 + lp y else if m = 11 then 304 + lp y else if m = 12 then 334 + lp y else 365 + lp y

theorem cum_one (y : Int) : cum y 1 = 0 := rfl
theorem cum_bd (y m : Int) : 0 ≤ cum y m ∧ cum y m ≤ 366 := by
  have := lp_01 y
  have h : m ≤ 1 ∨ m = 2 ∨ m = 3 ∨ m = 4 ∨ m = 5 ∨ m = 6 ∨ m = 7 ∨ m = 8 ∨ m = 9 ∨ m = 10 ∨ m = 11 ∨ m = 12 ∨ 12 < m := by omega
  rcases h with h | rfl | rfl | rfl | rfl | rfl | rfl | rfl | rfl | rfl | rfl | rfl | h
  · unfold cum; rw [if_pos h]; omega
  · simp [cum]
  all_goals first
    | (unfold cum; rw [if_neg (by omega), if_neg (by omega), if_neg (by omega), if_neg (by omega), if_neg (by omega), if_neg (by omega), if_neg (by omega), if_neg (by omega), if_neg (by omega), if_neg (by omega), if_neg (by omega), if_neg (by omega)]; omega)
    | (simp only [cum]; simp; omega)

theorem mon_two (y : Int) : mon y 2 = 28 + lp y := by
  unfold mon lp; rw [if_neg (by omega), if_neg (by omega), if_pos rfl]; split <;> rfl

theorem cum_succ (y m : Int) (h1 : 1 ≤ m) (h2 : m ≤ 12) : cum y (m + 1) = cum y m + mon y m := by
  have h : m = 1 ∨ m = 2 ∨ m = 3 ∨ m = 4 ∨ m = 5 ∨ m = 6 ∨ m = 7 ∨ m = 8 ∨ m = 9 ∨ m = 10 ∨ m = 11 ∨ m = 12 := by omega
  rcases h with rfl | rfl | rfl | rfl | rfl | rfl | rfl | rfl | rfl | rfl | rfl | rfl
  · simp [cum, mon]
  · rw [mon_two]; simp [cum]; omega
  all_goals (simp [cum, mon]; try omega)

theorem mon_28 (y m : Int) (h1 : 1 ≤ m) (h2 : m ≤ 12) : 28 ≤ mon y m ∧ mon y m ≤ 31 := by
  have h : m = 1 ∨ m = 2 ∨ m = 3 ∨ m = 4 ∨ m = 5 ∨ m = 6 ∨ m = 7 ∨ m = 8 ∨ m = 9 ∨ m = 10 ∨ m = 11 ∨ m = 12 := by omega
  have := lp_01 y
  rcases h with rfl | rfl | rfl | rfl | rfl | rfl | rfl | rfl | rfl | rfl | rfl | rfl
  · simp [mon]
  · rw [mon_two]; omega
  all_goals simp [mon]

/-- A day's number. -/
def num (y m d : Int) : Int := dby y + cum y m + d - 1

theorem dby_bd (y : Int) (h1 : 1 ≤ y) (h2 : y ≤ 10000) : 0 ≤ dby y ∧ dby y ≤ 3652059 := by unfold dby; omega
theorem dby_one : dby 1 = 0 := by decide
theorem dby_max : dby 10000 = 3652059 := by decide
theorem dby_succ (y : Int) : dby (y + 1) = dby y + 365 + lp y := by
  unfold dby lp
  by_cases h : leap y = true
  · rw [if_pos h]; have := leap_true.1 h; omega
  · have h' : leap y = false := by simpa using h
    rw [if_neg h]; have := leap_false.1 h'; omega
theorem dby_mono (a b : Int) (h : a ≤ b) : dby a ≤ dby b := by unfold dby; omega
end Go.Proofs.Ytnbfkdcpghkglaa.Cal
/-
  Plain mathematics of the calendar, continued: each number is a day's, the day behind a day, the sums by four hundreds of years. No conditions.
-/
namespace Go.Proofs.Ytnbfkdcpghkglaa.Cal

theorem cum_last (y : Int) : cum y 13 = 365 + lp y := rfl
theorem cum_end (y m : Int) (h1 : 1 ≤ m) (h2 : m ≤ 12) : cum y m + mon y m ≤ 365 + lp y := by
  have h : m = 1 ∨ m = 2 ∨ m = 3 ∨ m = 4 ∨ m = 5 ∨ m = 6 ∨ m = 7 ∨ m = 8 ∨ m = 9 ∨ m = 10 ∨ m = 11 ∨ m = 12 := by omega
  have := lp_01 y
  rw [← cum_succ y m h1 h2]
  rcases h with rfl | rfl | rfl | rfl | rfl | rfl | rfl | rfl | rfl | rfl | rfl | rfl
  all_goals (simp [cum]; try omega)
theorem cum_mono (y i m : Int) (h0 : 1 ≤ i) (h1 : i < m) (h2 : m ≤ 12) : cum y i + mon y i ≤ cum y m := by
  obtain ⟨k, hk⟩ : ∃ k : Nat, m = i + 1 + k := ⟨(m - i - 1).toNat, by omega⟩
  clear h1
  induction k generalizing m with
  | zero => rw [show m = i + 1 by omega, cum_succ y i h0 (by omega)]; omega
  | succ k ih =>
    have := ih (m - 1) (by omega) (by omega)
    have h := cum_succ y (m - 1) (by omega) (by omega)
    rw [show m - 1 + 1 = m by omega] at h
    have := mon_lo y (m - 1)
    omega

theorem num_lo {y m d : Int} (h : right y m d = true) : dby y ≤ num y m d ∧ num y m d < dby (y + 1) ∧ 0 ≤ num y m d ∧ num y m d ≤ 3652058 := by
  obtain ⟨m1, m2⟩ := right_month h
  obtain ⟨y1, y2, d1, d2⟩ := right_true.1 h
  have a := cum_end y m m1 m2
  have b := cum_bd y m
  have c := dby_succ y
  have e := dby_mono (y + 1) 10000 (by omega)
  have f := dby_bd y y1 (by omega)
  have g := dby_max
  unfold num
  omega

/-- The day behind a day. -/
def nextY (y m d : Int) : Int := if mon y m < d + 1 ∧ 12 < m + 1 then y + 1 else y
def nextM (y m d : Int) : Int := if mon y m < d + 1 then (if 12 < m + 1 then 1 else m + 1) else m
def nextD (y m d : Int) : Int := if mon y m < d + 1 then 1 else d + 1

theorem next_right {y m d : Int} (h : right y m d = true) (hn : num y m d < 3652058) :
    right (nextY y m d) (nextM y m d) (nextD y m d) = true ∧ num (nextY y m d) (nextM y m d) (nextD y m d) = num y m d + 1 := by
  obtain ⟨m1, m2⟩ := right_month h
  obtain ⟨y1, y2, d1, d2⟩ := right_true.1 h
  have cs := cum_succ y m m1 m2
  by_cases a : mon y m < d + 1
  · have hd : d = mon y m := by omega
    by_cases b : 12 < m + 1
    · have hm : m = 12 := by omega
      subst hm
      have e1 : nextY y 12 d = y + 1 := by unfold nextY; rw [if_pos ⟨a, b⟩]
      have e2 : nextM y 12 d = 1 := by unfold nextM; rw [if_pos a, if_pos b]
      have e3 : nextD y 12 d = 1 := by unfold nextD; rw [if_pos a]
      rw [e1, e2, e3]
      have hs := dby_succ y
      rw [show (12 : Int) + 1 = 13 from rfl, cum_last] at cs
      have hq : num y 12 d + 1 = dby (y + 1) := by unfold num; omega
      have hy : y < 9999 := by
        by_cases c : y = 9999
        · subst c; have := dby_max; rw [show (9999 : Int) + 1 = 10000 from rfl] at hq; omega
        · omega
      refine ⟨right_true.2 ⟨by omega, by omega, by omega, ?_⟩, ?_⟩
      · have := mon_28 (y + 1) 1 (by omega) (by omega); omega
      · unfold num; unfold num at hq; rw [cum_one]; omega
    · have e1 : nextY y m d = y := by unfold nextY; rw [if_neg (fun c => b c.2)]
      have e2 : nextM y m d = m + 1 := by unfold nextM; rw [if_pos a, if_neg b]
      have e3 : nextD y m d = 1 := by unfold nextD; rw [if_pos a]
      rw [e1, e2, e3]
      refine ⟨right_true.2 ⟨y1, y2, by omega, ?_⟩, ?_⟩
      · have := mon_28 y (m + 1) (by omega) (by omega); omega
      · unfold num; omega
  · have e1 : nextY y m d = y := by unfold nextY; rw [if_neg (fun c => a c.1)]
    have e2 : nextM y m d = m := by unfold nextM; rw [if_neg a]
    have e3 : nextD y m d = d + 1 := by unfold nextD; rw [if_neg a]
    rw [e1, e2, e3]
    exact ⟨right_true.2 ⟨y1, y2, by omega, by omega⟩, by unfold num; omega⟩

theorem num_first : num 1 1 1 = 0 := by decide
theorem day_nat (n : Nat) (h : n ≤ 3652058) : ∃ y m d, right y m d = true ∧ num y m d = n := by
  induction n with
  | zero => exact ⟨1, 1, 1, by decide, by rw [num_first]; rfl⟩
  | succ n ih =>
    obtain ⟨y, m, d, hr, hn⟩ := ih (by omega)
    obtain ⟨a, b⟩ := next_right hr (by omega)
    exact ⟨_, _, _, a, by rw [b, hn]; omega⟩
theorem day_of (n : Int) (h0 : 0 ≤ n) (h1 : n ≤ 3652058) : ∃ y m d, right y m d = true ∧ num y m d = n := by
  obtain ⟨y, m, d, a, b⟩ := day_nat n.toNat (by omega)
  exact ⟨y, m, d, a, by omega⟩

/-- By four hundreds, hundreds, fours of years. -/
theorem dby_fours (y : Int) : (y - 1) / 400 * 146097 + (y - 1) % 400 / 100 * 36524 + (y - 1) % 100 / 4 * 1461 + (y - 1) % 4 * 365 = dby y := by
  unfold dby; omega
theorem dby_400 (q : Int) : dby (1 + 400 * q) = 146097 * q := by unfold dby; omega
/-- A first guess, as if all years were long. -/
theorem guess_le {y m d : Int} (h : right y m d = true) : 1 ≤ num y m d / 366 + 1 ∧ num y m d / 366 + 1 ≤ y := by
  obtain ⟨a, b, c, e⟩ := num_lo h
  obtain ⟨y1, y2, d1, d2⟩ := right_true.1 h
  have : dby (y + 1) ≤ 366 * y := by unfold dby; omega
  omega
end Go.Proofs.Ytnbfkdcpghkglaa.Cal
