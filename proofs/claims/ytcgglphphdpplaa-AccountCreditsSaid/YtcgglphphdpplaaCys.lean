/-
  Lists of cycles in memory: a slice that reads as cycles, nil let in; one copied, one cycle more, one that is another one, one loaded. No conditions but the sizes.
-/
import Derived.Test.YtcgglphphdpplaaCyAsk
import Derived.Test.YtcgglphphdpplaaMem
import Derived.Deep.MidRow
import Derived.Maps.AppendAt
import Derived.WalkSpells
namespace Go.Proofs.Ytcgglphphdpplaa
set_option maxRecDepth 20000
open Go.ChangeShapes Go.WideShapes Go.ChangeAt Go.RowKit

/-- The types of a list of cycles. -/
structure CyTy (T E : TypeId) : Prop where
  row : Try.prog.underlying T = some (.slice E)
  one : ∃ d, Try.prog.underlying E = some d ∧ d.isRow = true
  info : (Try.prog.info? E).map (fun i => (i.zero, i.size, i.bytes)) = some (some (.agg #[.int .i64 0, .int .i64 0, .int .u8 0, .int .i64 0, .int .i64 0, .int .i64 0, .int .i64 0, .bool false]), 8, 64)
theorem CyTy.size {T E : TypeId} (h : CyTy T E) : (Try.prog.info? E).map (·.size) = some 8 := by
  obtain ⟨i, hi, _, hs, _⟩ := info_parts h.info
  rw [hi]; exact congrArg some hs
theorem cyty : CyTy 29 51 := ⟨Try.underlying29, ⟨_, Try.underlying51, rfl⟩, by kernel_rfl⟩
theorem cytyr : CyTy 34 97 := ⟨Try.underlying34, ⟨_, Try.underlying97, rfl⟩, by kernel_rfl⟩
/-- A cycle's cells, and those of cycles one behind the other. -/
def Cv.cs (c : Cv) : List Value := c.arr.toList
theorem Cv.cs_len (c : Cv) : c.cs.length = 8 := rfl
theorem Cv.cs_one (c : Cv) : ∀ u ∈ c.cs, u.oneCell' = true := by
  intro u hu
  simp only [Cv.cs, Cv.arr, List.mem_cons, List.not_mem_nil, or_false] at hu
  rcases hu with rfl | rfl | rfl | rfl | rfl | rfl | rfl | rfl <;> rfl
def ccs (l : List Cv) : List Value := l.flatMap Cv.cs
theorem ccs_nil : ccs [] = [] := rfl
theorem ccs_cons (c : Cv) (l : List Cv) : ccs (c :: l) = c.cs ++ ccs l := by unfold ccs; rw [List.flatMap_cons]
theorem ccs_append (a b : List Cv) : ccs (a ++ b) = ccs a ++ ccs b := by unfold ccs; rw [List.flatMap_append]
theorem ccs_one (c : Cv) : ccs [c] = c.cs := by rw [ccs_cons, ccs_nil, List.append_nil]
theorem ccs_len (l : List Cv) : (ccs l).length = l.length * 8 := by
  induction l with
  | nil => rfl
  | cons c r ih => rw [ccs_cons, List.length_append, ih, Cv.cs_len, List.length_cons]; omega
theorem ccs_cell (l : List Cv) : ∀ u ∈ ccs l, u.oneCell' = true := by
  intro u hu
  obtain ⟨c, _, hc⟩ := List.mem_flatMap.1 hu
  exact c.cs_one u hc
theorem ccs_at {l : List Cv} {k : Nat} {c : Cv} (h : l[k]? = some c) {i : Nat} {v : Value} (hv : c.cs[i]? = some v) : (ccs l)[k * 8 + i]? = some v := by
  induction l generalizing k with
  | nil => simp at h
  | cons q r ih =>
    have hi : i < 8 := by have := (List.getElem?_eq_some_iff.1 hv).1; rwa [Cv.cs_len] at this
    rw [ccs_cons]
    rcases k with _ | k
    · simp at h; subst h
      rw [List.getElem?_append_left (by rw [Cv.cs_len]; omega)]
      simpa using hv
    · rw [List.getElem?_append_right (by rw [Cv.cs_len]; omega), Cv.cs_len, show (k + 1) * 8 + i - 8 = k * 8 + i by omega]
      exact ih (by simpa using h)
/-- The cycle in which a cell lies. -/
theorem ccs_of {l : List Cv} {j : Nat} {v : Value} (h : (ccs l)[j]? = some v) : ∃ c, l[j / 8]? = some c ∧ c.cs[j % 8]? = some v := by
  induction l generalizing j with
  | nil => simp [ccs_nil] at h
  | cons q r ih =>
    rw [ccs_cons] at h
    by_cases hj : j < 8
    · rw [List.getElem?_append_left (by rw [Cv.cs_len]; exact hj)] at h
      exact ⟨q, by rw [Nat.div_eq_of_lt hj]; rfl, by rw [Nat.mod_eq_of_lt hj]; exact h⟩
    · rw [List.getElem?_append_right (by rw [Cv.cs_len]; omega), Cv.cs_len] at h
      obtain ⟨c, h1, h2⟩ := ih h
      refine ⟨c, ?_, ?_⟩
      · rw [show j / 8 = (j - 8) / 8 + 1 by omega, List.getElem?_cons_succ]; exact h1
      · rw [show j % 8 = (j - 8) % 8 by omega]; exact h2

/-- A slice reads as these cycles, in a block from b on, below block B. -/
def Cys (w : World) (b B : Nat) (v : Value) (l : List Cv) : Prop :=
  ∃ A c, v = .slice A l.length c ∧ l.length ≤ c ∧ c ≤ maxLen ∧ (l ≠ [] → ∃ g o, A = some ⟨g, o, none⟩ ∧ (b ≤ g ∧ g < B) ∧ w.rangeAt g o (ccs l)) ∧ (A = none → c = 0)
section
variable {w w' : World} {b b' B B' base : Nat} {v : Value} {l : List Cv} {T E : TypeId}
theorem Cys.nil : Cys w b B (.slice none 0 0) [] := ⟨none, 0, rfl, Nat.le_refl _, by unfold maxLen; omega, fun h => absurd rfl h, fun _ => rfl⟩
theorem Cys.kept (h : Cys w b B v l) (hk : ∀ i, b ≤ i → i < B → w'.heap[i]? = w.heap[i]?) : Cys w' b B v l := by
  obtain ⟨A, c, hv, h1, h2, h3, h4⟩ := h
  refine ⟨A, c, hv, h1, h2, fun hl => ?_, h4⟩
  obtain ⟨g, o, hA, hg, hr⟩ := h3 hl
  exact ⟨g, o, hA, hg, fun j u hu => (World.cell?_of_block (a := ⟨g, o + j, none⟩) (hk g hg.1 hg.2)).trans (hr j u hu)⟩
theorem Cys.below (h : Cys w b B v l) (hb : Below B w w') : Cys w' b B v l := h.kept fun i _ hi => hb.block i hi
theorem Cys.more (h : Cys w b B v l) (hb : b' ≤ b) (hB : B ≤ B') : Cys w b' B' v l := by
  obtain ⟨A, c, hv, h1, h2, h3, h4⟩ := h
  refine ⟨A, c, hv, h1, h2, fun hl => ?_, h4⟩
  obtain ⟨g, o, hA, hg, hr⟩ := h3 hl
  exact ⟨g, o, hA, ⟨by omega, by omega⟩, hr⟩
/-- One of them: where it lies. -/
theorem Cys.at_ (h : Cys w b B v l) {k : Nat} {c : Cv} (hc : l[k]? = some c) : ∃ g o cap, v = .slice (some ⟨g, o, none⟩) l.length cap ∧ k < l.length ∧ l.length ≤ cap ∧ cap ≤ maxLen ∧ b ≤ g ∧ g < B ∧ w.rangeAt g (o + k * 8) c.cs := by
  obtain ⟨A, cap, hv, h1, h2, h3, _⟩ := h
  obtain ⟨g, o, rfl, hg, hr⟩ := h3 (fun e => by subst e; simp at hc)
  refine ⟨g, o, cap, hv, (List.getElem?_eq_some_iff.1 hc).1, h1, h2, hg.1, hg.2, fun j u hu => ?_⟩
  rw [Nat.add_assoc]
  exact hr _ u (ccs_at hc hu)
/-- A row of the call's own. -/
theorem Cys.own (h : w.ownsRow base E 8 v l.length (ccs l)) : Cys w base w.heap.size v l := by
  rcases h.2 with ⟨hv, hn⟩ | ⟨g, cap, cur, hv, hb, hg, h1, h2, h3, h4⟩
  · obtain rfl := List.eq_nil_of_length_eq_zero hn
    subst hv
    exact Cys.nil
  · refine ⟨_, cap, hv, h1, h2, fun _ => ⟨g, 0, rfl, ⟨hb, (Array.getElem?_eq_some_iff.1 hg).1⟩, fun j u hu => ?_⟩, fun e => by cases e⟩
    rw [cell_of_row _ _ _ _ _ _ hg, Nat.zero_add, ← Array.getElem?_toList]
    rw [← h4] at hu
    rw [List.getElem?_take] at hu
    split at hu
    · exact hu
    · cases hu
/-- All of a list behind a row of the call's own. -/
theorem run_append_cys (ty : CyTy T E) {q : TypeId} {l0 : List Cv} {v0 : Value} (ho : w.ownsRow base E 8 v0 l0.length (ccs l0)) (h : Cys w b B v l) (hs : l0.length + l.length ≤ 100000000) (hb : base ≤ w.heap.size) :
    ∃ v' w', (Builtin.append_ #[T, T] q #[v0, v]).run Try.prog w = .ok v' w' ∧ w'.ownsRow base E 8 v' (l0 ++ l).length (ccs (l0 ++ l)) ∧ w.grownBy w' v0.ownBlock ∧ (v'.ownBlock = v0.ownBlock ∨ v'.ownBlock = some w.heap.size) := by
  obtain ⟨i, hi, hz, hsz, hby⟩ := info_parts ty.info
  obtain ⟨A, c, rfl, h1, h2, h3, h4⟩ := h
  rcases A with _ | a
  · have hl : l = [] := by
      rcases l with _ | ⟨x, r⟩
      · rfl
      · obtain ⟨g, o, e, _⟩ := h3 (by simp); cases e
    subst hl
    refine ⟨v0, w, ?_, by rw [List.append_nil]; exact ho, grown_refl _ _, .inl rfl⟩
    rcases ho.2 with ⟨rfl, hn⟩ | ⟨g, cap, cur, rfl, _, _, hnc, _⟩
    · simp [Builtin.append_, run_underlying ty.row, sizeOf, typeInfo, hi, Builtin.lenOf, Builtin.firstCells]
    · simp [Builtin.append_, run_underlying ty.row, sizeOf, typeInfo, hi, Builtin.lenOf, Builtin.firstCells, hnc, storeCells]
  · have hcells : ∀ j u, (ccs l)[j]? = some u → w.cell? (a.add j) = some u := fun j u hu => by
      obtain ⟨g, o, e, _, hr⟩ := h3 (fun e => by subst e; simp [ccs_nil] at hu)
      injection e with e
      subst e
      have := hr j u hu
      unfold Addr.add
      split
      · subst_vars; simpa using this
      · exact this
    obtain ⟨v', w', hrun, g1, g2, _, g4⟩ := run_append_own_at (P := Try.prog) w base T q E i _ 8 64 ty.row hi hz hsz hby rfl (by decide) v0 l0.length (ccs l0) ho a l.length c (ccs l) (ccs_len l) hcells (ccs_cell l) (by unfold maxLen; omega) (by omega) hb
    refine ⟨v', w', hrun, ?_, g2, g4⟩
    rw [List.length_append, ccs_append]
    exact g1
end
end Go.Proofs.Ytcgglphphdpplaa
