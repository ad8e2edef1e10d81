/-
  Lists of cycles in memory: a slice that reads as cycles, nil let in; one copied, one cycle more, one that is another one, one loaded. No conditions but the sizes.
-/
import Derived.Deep.MidRow
import Derived.Maps.AppendAt
import Derived.WalkSpells
import Derived.Test.YtblikgbcakgdnaaGreatRows
import Derived.Below
import Derived.ChangeSame
import Derived.ProofKit
import Derived.JoinedOf
import Derived.JoinedAt
import Derived.OpenShut
import Derived.Carry
import Derived.ChangeSlices
import Derived.Test.YtblikgbcakgdnaaGreatProg
import Derived.Deep.Slices
import Derived.Lib.SmallJoins
import Derived.OwnWalk
import Derived.IntWalk
import Derived.Lib.Mul64
import Derived.Lib.BitFns
import Derived.Lib.Walk
import Derived.Laws.MathBits
import Derived.Laws.BitsAllLaws
import Derived.Outline
import Derived.Test.YtblikgbcakgdnaaGreatBr01
import Derived.Test.YtblikgbcakgdnaaGreatBr02
import Derived.Test.YtblikgbcakgdnaaGreatBr03
set_option linter.unusedSimpArgs false
set_option linter.unusedVariables false
namespace Go.Proofs.YtblikgbcakgdnaaGreat
set_option maxRecDepth 20000
open Go.ChangeShapes Go.WideShapes Go.ChangeAt Go.RowKit

/-- The types of a list of cycles. -/
structure CyTy (T E : TypeId) : Prop where
  row : Tryz.prog.underlying T = some (.slice E)
  one : ∃ d, Tryz.prog.underlying E = some d ∧ d.isRow = true
  info : (Tryz.prog.info? E).map (fun i => (i.zero, i.size, i.bytes)) = some (some (.agg #[.int .i64 0, .int .i64 0, .int .u8 0, .int .i64 0, .int .i64 0, .int .i64 0, .int .i64 0, .bool false]), 8, 64)
theorem CyTy.size {T E : TypeId} (h : CyTy T E) : (Tryz.prog.info? E).map (·.size) = some 8 := by
  obtain ⟨i, hi, _, hs, _⟩ := info_parts h.info
  rw [hi]; exact congrArg some hs
theorem cyty : CyTy 28 112 := ⟨Tryz.underlying28, ⟨_, Tryz.underlying112, rfl⟩, by kernel_rfl⟩
/-- A cycle's cells, and those of cycles one behind the other. -/
def Cv.cs (c : Cv) : List Value := c.arr.toList
theorem Cv.cs_len (c : Cv) : c.cs.length = 8 := rfl
theorem Cv.cs_one (c : Cv) : ∀ u ∈ c.cs, u.oneCell' = true := by
  intro u hu
  simp only [Cv.cs, Cv.arr, List.mem_cons, List.not_mem_nil, or_false] at hu
  rcases hu with rfl | rfl | rfl | rfl | rfl | rfl | rfl | rfl <;> rfl
def ccs (l : List Cv) : List Value := l.flatMap Cv.cs
theorem ccs_nil : ccs [] = [] := rfl
theorem ccs_cons (c : Cv) (l : List Cv) : ccs (c :: l) = c.cs ++ ccs l := by unfold ccs; rw [List.flatMap_cons]
theorem ccs_append (a b : List Cv) : ccs (a ++ b) = ccs a ++ ccs b := by unfold ccs; rw [List.flatMap_append]
theorem ccs_one (c : Cv) : ccs [c] = c.cs := by rw [ccs_cons, ccs_nil, List.append_nil]
theorem ccs_len (l : List Cv) : (ccs l).length = l.length * 8 := by
  induction l with
  | nil => rfl
  | cons c r ih => rw [ccs_cons, List.length_append, ih, Cv.cs_len, List.length_cons]; omega
theorem ccs_cell (l : List Cv) : ∀ u ∈ ccs l, u.oneCell' = true := by
  intro u hu
  obtain ⟨c, _, hc⟩ := List.mem_flatMap.1 hu
  exact c.cs_one u hc
theorem ccs_at {l : List Cv} {k : Nat} {c : Cv} (h : l[k]? = some c) {i : Nat} {v : Value} (hv : c.cs[i]? = some v) : (ccs l)[k * 8 + i]? = some v := by
  induction l generalizing k with
  | nil => simp at h
  | cons q r ih =>
    have hi : i < 8 := by have := (List.getElem?_eq_some_iff.1 hv).1; rwa [Cv.cs_len] at this
    rw [ccs_cons]
    rcases k with _ | k
    · simp at h; subst h
      rw [List.getElem?_append_left (by rw [Cv.cs_len]; omega)]
      simpa using hv
    · rw [List.getElem?_append_right (by rw [Cv.cs_len]; omega), Cv.cs_len, show (k + 1) * 8 + i - 8 = k * 8 + i by omega]
      exact ih (by simpa using h)
/-- The cycle in which a cell lies. -/
theorem ccs_of {l : List Cv} {j : Nat} {v : Value} (h : (ccs l)[j]? = some v) : ∃ c, l[j / 8]? = some c ∧ c.cs[j % 8]? = some v := by
  induction l generalizing j with
  | nil => simp [ccs_nil] at h
  | cons q r ih =>
    rw [ccs_cons] at h
    by_cases hj : j < 8
    · rw [List.getElem?_append_left (by rw [Cv.cs_len]; exact hj)] at h
      exact ⟨q, by rw [Nat.div_eq_of_lt hj]; rfl, by rw [Nat.mod_eq_of_lt hj]; exact h⟩
    · rw [List.getElem?_append_right (by rw [Cv.cs_len]; omega), Cv.cs_len] at h
      obtain ⟨c, h1, h2⟩ := ih h
      refine ⟨c, ?_, ?_⟩
      · rw [show j / 8 = (j - 8) / 8 + 1 by omega, List.getElem?_cons_succ]; exact h1
      · rw [show j % 8 = (j - 8) % 8 by omega]; exact h2

/-- A slice reads as these cycles, in a block from b on, below block B. -/
def Cys (w : World) (b B : Nat) (v : Value) (l : List Cv) : Prop :=
  ∃ A c, v = .slice A l.length c ∧ l.length ≤ c ∧ c ≤ maxLen ∧ (l ≠ [] → ∃ g o, A = some ⟨g, o, none⟩ ∧ (b ≤ g ∧ g < B) ∧ w.rangeAt g o (ccs l)) ∧ (A = none → c = 0)
section
variable {w w' : World} {b b' B B' base : Nat} {v : Value} {l : List Cv} {T E : TypeId}
theorem Cys.nil : Cys w b B (.slice none 0 0) [] := ⟨none, 0, rfl, Nat.le_refl _, by unfold maxLen; omega, fun h => absurd rfl h, fun _ => rfl⟩
theorem Cys.kept (h : Cys w b B v l) (hk : ∀ i, b ≤ i → i < B → w'.heap[i]? = w.heap[i]?) : Cys w' b B v l := by
  obtain ⟨A, c, hv, h1, h2, h3, h4⟩ := h
  refine ⟨A, c, hv, h1, h2, fun hl => ?_, h4⟩
  obtain ⟨g, o, hA, hg, hr⟩ := h3 hl
  exact ⟨g, o, hA, hg, fun j u hu => (World.cell?_of_block (a := ⟨g, o + j, none⟩) (hk g hg.1 hg.2)).trans (hr j u hu)⟩
theorem Cys.below (h : Cys w b B v l) (hb : Below B w w') : Cys w' b B v l := h.kept fun i _ hi => hb.block i hi
theorem Cys.more (h : Cys w b B v l) (hb : b' ≤ b) (hB : B ≤ B') : Cys w b' B' v l := by
  obtain ⟨A, c, hv, h1, h2, h3, h4⟩ := h
  refine ⟨A, c, hv, h1, h2, fun hl => ?_, h4⟩
  obtain ⟨g, o, hA, hg, hr⟩ := h3 hl
  exact ⟨g, o, hA, ⟨by omega, by omega⟩, hr⟩
/-- One of them: where it lies. -/
theorem Cys.at_ (h : Cys w b B v l) {k : Nat} {c : Cv} (hc : l[k]? = some c) : ∃ g o cap, v = .slice (some ⟨g, o, none⟩) l.length cap ∧ k < l.length ∧ l.length ≤ cap ∧ cap ≤ maxLen ∧ b ≤ g ∧ g < B ∧ w.rangeAt g (o + k * 8) c.cs := by
  obtain ⟨A, cap, hv, h1, h2, h3, _⟩ := h
  obtain ⟨g, o, rfl, hg, hr⟩ := h3 (fun e => by subst e; simp at hc)
  refine ⟨g, o, cap, hv, (List.getElem?_eq_some_iff.1 hc).1, h1, h2, hg.1, hg.2, fun j u hu => ?_⟩
  rw [Nat.add_assoc]
  exact hr _ u (ccs_at hc hu)
/-- A row of the call's own. -/
theorem Cys.own (h : w.ownsRow base E 8 v l.length (ccs l)) : Cys w base w.heap.size v l := by
  rcases h.2 with ⟨hv, hn⟩ | ⟨g, cap, cur, hv, hb, hg, h1, h2, h3, h4⟩
  · obtain rfl := List.eq_nil_of_length_eq_zero hn
    subst hv
    exact Cys.nil
  · refine ⟨_, cap, hv, h1, h2, fun _ => ⟨g, 0, rfl, ⟨hb, (Array.getElem?_eq_some_iff.1 hg).1⟩, fun j u hu => ?_⟩, fun e => by cases e⟩
    rw [cell_of_row _ _ _ _ _ _ hg, Nat.zero_add, ← Array.getElem?_toList]
    rw [← h4] at hu
    rw [List.getElem?_take] at hu
    split at hu
    · exact hu
    · cases hu
/-- All of a list behind a row of the call's own. -/
theorem run_append_cys (ty : CyTy T E) {q : TypeId} {l0 : List Cv} {v0 : Value} (ho : w.ownsRow base E 8 v0 l0.length (ccs l0)) (h : Cys w b B v l) (hs : l0.length + l.length ≤ 100000000) (hb : base ≤ w.heap.size) :
    ∃ v' w', (Builtin.append_ #[T, T] q #[v0, v]).run Tryz.prog w = .ok v' w' ∧ w'.ownsRow base E 8 v' (l0 ++ l).length (ccs (l0 ++ l)) ∧ w.grownBy w' v0.ownBlock ∧ (v'.ownBlock = v0.ownBlock ∨ v'.ownBlock = some w.heap.size) := by
  obtain ⟨i, hi, hz, hsz, hby⟩ := info_parts ty.info
  obtain ⟨A, c, rfl, h1, h2, h3, h4⟩ := h
  rcases A with _ | a
  · have hl : l = [] := by
      rcases l with _ | ⟨x, r⟩
      · rfl
      · obtain ⟨g, o, e, _⟩ := h3 (by simp); cases e
    subst hl
    refine ⟨v0, w, ?_, by rw [List.append_nil]; exact ho, grown_refl _ _, .inl rfl⟩
    rcases ho.2 with ⟨rfl, hn⟩ | ⟨g, cap, cur, rfl, _, _, hnc, _⟩
    · simp [Builtin.append_, run_underlying ty.row, sizeOf, typeInfo, hi, Builtin.lenOf, Builtin.firstCells]
    · simp [Builtin.append_, run_underlying ty.row, sizeOf, typeInfo, hi, Builtin.lenOf, Builtin.firstCells, hnc, storeCells]
  · have hcells : ∀ j u, (ccs l)[j]? = some u → w.cell? (a.add j) = some u := fun j u hu => by
      obtain ⟨g, o, e, _, hr⟩ := h3 (fun e => by subst e; simp [ccs_nil] at hu)
      injection e with e
      subst e
      have := hr j u hu
      unfold Addr.add
      split
      · subst_vars; simpa using this
      · exact this
    obtain ⟨v', w', hrun, g1, g2, _, g4⟩ := run_append_own_at (P := Tryz.prog) w base T q E i _ 8 64 ty.row hi hz hsz hby rfl (by decide) v0 l0.length (ccs l0) ho a l.length c (ccs l) (ccs_len l) hcells (ccs_cell l) (by unfold maxLen; omega) (by omega) hb
    refine ⟨v', w', hrun, ?_, g2, g4⟩
    rw [List.length_append, ccs_append]
    exact g1
end
end Go.Proofs.YtblikgbcakgdnaaGreat
/-
  The last step of a law's row: where the call returned true and made new blocks alone, the row's post holds. No conditions.
-/
namespace Go.Proofs.YtblikgbcakgdnaaGreat
open Go.ChangeShapes Go.WideShapes Go.RowKit

end Go.Proofs.YtblikgbcakgdnaaGreat
/-
  A slice of numbers that comes in, opened: what it reads as. And the last step of a law's row where arguments lie in memory: below the heap's old size nothing has turned. No conditions.
-/
namespace Go.Proofs.YtblikgbcakgdnaaGreat
open Go.ChangeShapes Go.WideShapes Go.RowKit

theorem open_nums {H : Type} {enc : TypeId × Value → H} {P : Program} {W : World} {base : Nat} {t e : TypeId} {k : IntKind} {v : Value} {d : DataW H} {ps : List MemPlace} (ht : P.underlying t = some (.slice e)) (he : P.underlying e = some (.int k)) (hc : P.cellsOf e = 1)
    (hval : Value.okWide P W .any base t v) (hd : DataW.Trod enc P W 0 (fun _ => true) true t v d ps) :
    ∃ A c l, v = .slice A l.length c ∧ l.length ≤ c ∧ c ≤ maxLen ∧ Rd W k W.heap.size A l ∧ ∀ x ∈ l, (Lit.int k x).wf = true := by
  obtain ⟨a0, n0, c0, rfl⟩ := okWide_slice ht hval
  obtain ⟨fuel, hf⟩ := hd
  rcases open_ints ht he hc hf with ⟨hcs, _⟩ | ⟨a, len, cap, zs, hcs, _, hl, hm, hz, _, hcell, hw⟩
  · simp [Value.cells] at hcs
    obtain ⟨rfl, rfl, rfl⟩ := hcs
    exact ⟨none, 0, [], rfl, by simp, by simp, Rd.none, by simp⟩
  · simp [Value.cells] at hcs
    obtain ⟨rfl, rfl, rfl⟩ := hcs
    simp only [if_true] at hz
    have hlen : (zs.take n0).length = n0 := by simp; omega
    refine ⟨some a, c0, zs.take n0, by rw [hlen], by omega, hm, fun hne => ⟨a, rfl, ?_, fun j u hu => ?_⟩, fun x hx => hw x (List.mem_of_mem_take hx)⟩
    · have h0 : 0 < zs.length := by
        rcases zs with _ | ⟨x, r⟩
        · simp at hne
        · simp
      have := World.block_lt_of_cell? W _ (hcell 0 h0)
      rwa [ad_block] at this
    · rw [List.getElem?_take] at hu
      split at hu
      · obtain ⟨hj, hju⟩ := List.getElem?_eq_some_iff.1 hu
        rw [hcell j hj]
        simp [List.getD, hu]
      · cases hu

theorem post_law2 {H : Type} {enc : TypeId × Value → H} {P : Program} {f : Func} {s : ChangeSpec} {W W' : World} {args : Array Value} {v : Value} {ds gs : List (DataW H)} {before pa : List MemPlace}
    (hW : DataW.Whole enc P f.params.toList s.vars false W args.toList ds gs before)
    (hres : ∀ (b : Nat) (sp : Nat → Bool) (hd : Bool), DataW.TrodAll enc P W' b sp hd f.resultTypes.toList (v.resultList f.resultTypes.size) (s.fn H (ds ++ gs)).results [])
    (hargs : DataW.TrodAll enc P W' 0 (fun b => decide (b < W.heap.size)) true f.params.toList args.toList (s.fn H (ds ++ gs)).args pa)
    (hv : ∀ sp : Nat → Bool, DataW.TrodVars enc P W' sp s.vars (s.fn H (ds ++ gs)).vars []) (hps : before = pa) (hb : Below W.heap.size W W') :
    s.post enc P f false true false false W args v W' :=
  ⟨ds, gs, before, [], pa, [], hW, hres _ _ _, hargs, hv _, World.keptBut_mono (fun _ hp => ⟨hp, Or.inr (Or.inl (hps ▸ hp))⟩) (hb.frame (· ∈ before)), fun h => by cases h⟩

theorem wf_u8 {x : Int} (h : (Lit.int .u8 x).wf = true) : 0 ≤ x ∧ x < 256 := by
  have h1 : IntKind.u8.min = 0 := rfl
  have h2 : IntKind.u8.max = 255 := rfl
  simp only [Lit.wf, Bool.and_eq_true, decide_eq_true_eq] at h
  omega
theorem wf_u16 {x : Int} (h : (Lit.int .u16 x).wf = true) : 0 ≤ x ∧ x < 65536 := by
  have h1 : IntKind.u16.min = 0 := rfl
  have h2 : IntKind.u16.max = 65535 := rfl
  simp only [Lit.wf, Bool.and_eq_true, decide_eq_true_eq] at h
  omega
end Go.Proofs.YtblikgbcakgdnaaGreat
/-
  A plan, by its fields. No conditions.
-/
namespace Go.Proofs.YtblikgbcakgdnaaGreat

/-- A plan, by its fields. -/
structure Pv where
  a : Int
  u : Int
  e : Int
  t : Int
  g : Bool
  l : Bool
def Pv.cs (p : Pv) : List Value := [.int .i64 p.a, .int .u8 p.u, .int .i64 p.e, .int .i64 p.t, .bool p.g, .bool p.l]
/-- A plan as it may come in. -/
def Pv.Wf (p : Pv) : Prop := (-9223372036854775808 ≤ p.a ∧ p.a ≤ 9223372036854775807) ∧ (0 ≤ p.u ∧ p.u < 256) ∧ (-9223372036854775808 ≤ p.e ∧ p.e ≤ 9223372036854775807) ∧ (-9223372036854775808 ≤ p.t ∧ p.t ≤ 9223372036854775807)
end Go.Proofs.YtblikgbcakgdnaaGreat
/-
  A plan that comes in, opened. No conditions.
-/
namespace Go.Proofs.YtblikgbcakgdnaaGreat
set_option maxRecDepth 20000
open Go.ChangeShapes Go.WideShapes Go.RowKit Go.Deep

namespace Pn
/-- The cells of a plan, in a block. -/
def At (B : Nat) (a u e t : Int) (g l : Bool) (w : World) : Prop :=
  w.cell? ⟨B, 0, none⟩ = some (.int .i64 a) ∧ w.cell? ⟨B, 1, none⟩ = some (.int .u8 u) ∧ w.cell? ⟨B, 2, none⟩ = some (.int .i64 e) ∧ w.cell? ⟨B, 3, none⟩ = some (.int .i64 t) ∧ w.cell? ⟨B, 4, none⟩ = some (.bool g) ∧ w.cell? ⟨B, 5, none⟩ = some (.bool l)
theorem At.of {B : Nat} {a u e t : Int} {g l : Bool} {w : World} {ty : TypeId} (h : w.heap[B]? = some (.cells #[.int .i64 a, .int .u8 u, .int .i64 e, .int .i64 t, .bool g, .bool l] ty (0, 0))) : At B a u e t g l w := by
  refine ⟨?_, ?_, ?_, ?_, ?_, ?_⟩ <;> (rw [cell_of_row _ _ _ _ _ _ h]; rfl)
end Pn
end Go.Proofs.YtblikgbcakgdnaaGreat
/-
  append onto a row of the call's own, whatever the source: nil, or numbers anywhere. No conditions but the sizes.
-/
namespace Go.Proofs.YtblikgbcakgdnaaGreat
open Go.ChangeShapes Go.WideShapes Go.ChangeAt Go.RowKit

theorem u8info : (Tryz.prog.info? 5).map (fun i => (i.zero, i.size, i.bytes)) = some (some (.int .u8 0), 1, 1) := by kernel_rfl

theorem run_append_none {w : World} {base n c : Nat} {v : Value} {l : List Int} (hown : w.ownsRow base 5 1 v n (cl .u8 l)) :
    (Builtin.append_ #[63, 63] 63 #[v, .slice none 0 c]).run Tryz.prog w = .ok v w := by
  obtain ⟨i, hi, _, _, _⟩ := info_parts u8info
  rcases hown.2 with ⟨rfl, rfl⟩ | ⟨g, cap, cur, rfl, _, _, hnc, _⟩
  · simp [Builtin.append_, run_underlying Tryz.underlying63, sizeOf, typeInfo, hi, Builtin.lenOf, Builtin.firstCells]
  · simp [Builtin.append_, run_underlying Tryz.underlying63, sizeOf, typeInfo, hi, Builtin.lenOf, Builtin.firstCells, hnc, storeCells]

/-- What an append leaves. -/
structure Grew (w : World) (base : Nat) (v : Value) (l : List Int) (v' : Value) (w' : World) : Prop where
  own : w'.ownsRow base 5 1 v' l.length (cl .u8 l)
  grown : w.grownBy w' v.ownBlock
  at_ : v'.ownBlock = v.ownBlock ∨ ∀ i, v'.ownBlock = some i → w.heap.size ≤ i

theorem Grew.refl {w : World} {base : Nat} {v : Value} {l : List Int} (h : w.ownsRow base 5 1 v l.length (cl .u8 l)) : Grew w base v l v w := ⟨h, grown_refl _ _, .inl rfl⟩
theorem Grew.trans {w w1 w2 : World} {base : Nat} {v v1 v2 : Value} {l1 l2 : List Int} (h : Grew w base v l1 v1 w1) (k : Grew w1 base v1 l2 v2 w2) : Grew w base v l2 v2 w2 := by
  refine ⟨k.own, ⟨k.grown.os.trans h.grown.os, k.grown.tape.trans h.grown.tape, k.grown.output.trans h.grown.output, Nat.le_trans h.grown.size k.grown.size, fun i hi hne => ?_⟩, ?_⟩
  · refine (k.grown.block i (Nat.lt_of_lt_of_le hi h.grown.size) fun e => ?_).trans (h.grown.block i hi hne)
    rcases h.at_ with h1 | h1
    · exact hne (e.trans h1)
    · have := h1 i e.symm; omega
  · rcases k.at_ with k1 | k1
    · rcases h.at_ with h1 | h1
      · exact .inl (k1.trans h1)
      · exact .inr fun i hi => h1 i (k1 ▸ hi)
    · exact .inr fun i hi => Nat.le_trans h.grown.size (k1 i hi)
theorem Grew.drewN {w w1 : World} {base : Nat} {v v1 : Value} {l : List Int} (h : Grew w base v l v1 w1) (n : Nat) : Grew w base v l v1 (w1.drewN n) := ⟨h.own, grown_drewN h.grown n, h.at_⟩
theorem Grew.below {w w' : World} {base : Nat} {v v' : Value} {l0 l : List Int} (ho : w.ownsRow base 5 1 v l0.length (cl .u8 l0)) (h : Grew w base v l v' w') (hb : base ≤ w.heap.size) : Below base w w' :=
  ⟨h.grown.os, h.grown.tape, h.grown.output, h.grown.size, fun i hi => h.grown.block i (by omega) fun e => by have := (ho.lt i e.symm).1; omega⟩
/-- A new block of the walk's own, then an append: as one step. -/
theorem Grew.of_alloc {w w' : World} {base : Nat} {v v' : Value} {l : List Int} {o : Obj} (h : Grew (w.alloc o) base v l v' w') : Grew w base v l v' w' := by
  refine ⟨h.own, ⟨h.grown.os, h.grown.tape, h.grown.output, ?_, fun i hi hne => ?_⟩, ?_⟩
  · have := h.grown.size; rw [World.size_alloc] at this; omega
  · exact (h.grown.block i (by rw [World.size_alloc]; omega) hne).trans (alloc_block_old hi)
  · rcases h.at_ with h1 | h1
    · exact .inl h1
    · exact .inr fun i hi => by have := h1 i hi; rw [World.size_alloc] at this; omega

set_option maxRecDepth 20000 in
theorem run_append_rd {w : World} {base : Nat} {v : Value} {l news : List Int} {B : Nat} {A : Option Addr} {c : Nat} (hown : w.ownsRow base 5 1 v l.length (cl .u8 l)) (hr : Rd w .u8 B A news)
    (hs : l.length + news.length ≤ 100000000) (hbase : base ≤ w.heap.size) :
    ∃ v' w', (Builtin.append_ #[63, 63] 63 #[v, .slice A news.length c]).run Tryz.prog w = .ok v' w' ∧ Grew w base v (l ++ news) v' w' := by
  rcases A with _ | a
  · have hn : news = [] := by
      rcases news with _ | ⟨x, r⟩
      · rfl
      · obtain ⟨a, e, _⟩ := hr (by simp); cases e
    subst hn
    exact ⟨v, w, run_append_none hown, by rw [List.append_nil]; exact Grew.refl hown⟩
  · obtain ⟨i, hi, hz, hsz, hby⟩ := info_parts u8info
    obtain ⟨v', w', hrun, h2, h3, _, h5⟩ := run_append_own_at (P := Tryz.prog) w base 63 63 5 i (.int .u8 0) 1 1 Tryz.underlying63 hi hz hsz hby rfl (by decide) v l.length (cl .u8 l) hown
      a news.length c (cl .u8 news) (by rw [cl_length, Nat.mul_one]) (fun j u hu => by
        obtain ⟨x, hx, rfl⟩ := cl_at hu
        obtain ⟨a', e, _, hc⟩ := hr (fun e => by subst e; simp at hx)
        injection e with e
        subst e
        exact hc j x hx) (cl_one _ _) (by unfold maxLen; omega) (by omega) hbase
    refine ⟨v', w', hrun, ?_, h3, ?_⟩
    · rw [← cl_append] at h2
      rw [List.length_append]
      exact h2
    · rcases h5 with h5 | h5
      · exact .inl h5
      · exact .inr fun k hk => by rw [h5] at hk; injection hk with hk; omega

/-- At the operation, for the walk. -/
theorem wpList_append_rd {w : World} {ops : Array Oper} {rest : List Oper} {o : Oper} {a : Act} {Q : Exit → Act → World → Prop} (hgd : o.guard = none) (s x : Operand)
    (ho : o.op = .call { callee := .builtin .append, args := #[s, x], argTypes := #[63, 63] }) (hty : o.type = 63)
    (base : Nat) (v : Value) (l news : List Int) (B : Nat) (A : Option Addr) (c : Nat) (hsv : a.eval s = v) (hx : a.eval x = .slice A news.length c) (hown : w.ownsRow base 5 1 v l.length (cl .u8 l)) (hr : Rd w .u8 B A news)
    (hs : l.length + news.length ≤ 100000000) (hbase : base ≤ w.heap.size)
    (h : ∀ v' w', Grew w base v (l ++ news) v' w' → wpList Tryz.prog ops Q rest (a.put o.dst v') w') : wpList Tryz.prog ops Q (o :: rest) a w := by
  refine wpList_plain hgd fun K hK => ?_
  obtain ⟨v', w', hrun, hg⟩ := run_append_rd (c := c) hown hr hs hbase
  unfold Oper.wp execOp
  simp only [ho, resolve, invoke, builtin, Sem.run_bind, Sem.run_pure, Result.andThen_ok, List.map_toArray, List.map_cons, List.map_nil, hsv, hx, hty, hrun]
  exact hK _ _ (h v' w' hg)

/-- One new number, in a block of its own. -/
theorem rd_one (w : World) (x : Int) (t : TypeId) : Rd (w.alloc (.cells #[.int .u8 x] t)) .u8 (w.heap.size + 1) (some ⟨w.heap.size, 0, none⟩) [x] := fun _ =>
  ⟨_, rfl, by simp, fun j u hu => cell_one_new w (.int .u8 x) t j (.int .u8 u) (by
    match j, hu with
    | 0, hu => simp at hu; subst hu; rfl)⟩
end Go.Proofs.YtblikgbcakgdnaaGreat
/-
  Plain mathematics of a division of a number of two words by one word, half a word at a time: each trial digit is too great by two at most, and the loop that lowers it stops at the right one. No conditions but those that each law names.
-/
namespace Go.Proofs.YtblikgbcakgdnaaGreat.Dv

theorem spread (q v v1 v0 : Int) (hv : v = v1 * 4294967296 + v0) : q * v = q * v1 * 4294967296 + q * v0 := by
  rw [hv, Int.mul_add, Int.mul_assoc]

/-- The first guess of a digit. -/
theorem first {u v v1 v0 w : Int} (hv : v = v1 * 4294967296 + v0) (h1 : 2147483648 ≤ v1) (h2 : v1 ≤ 4294967295) (h3 : 0 ≤ v0) (h4 : v0 ≤ 4294967295) (hu : 0 ≤ u) (huv : u < v) (hw : 0 ≤ w) (hw' : w ≤ 4294967295) :
    0 ≤ u / v1 ∧ u / v1 ≤ 4294967297 ∧ 0 ≤ u - u / v1 * v1 ∧ u - u / v1 * v1 ≤ 4294967295 ∧ (u * 4294967296 + w) / v ≤ u / v1 := by
  have e := Int.mul_ediv_add_emod u v1
  have m1 := Int.emod_nonneg u (show v1 ≠ 0 by omega)
  have m2 := Int.emod_lt_of_pos u (show 0 < v1 by omega)
  have e' : v1 * (u / v1) = u / v1 * v1 := Int.mul_comm _ _
  have q0 : 0 ≤ u / v1 := Int.ediv_nonneg hu (by omega)
  have q1 : u / v1 ≤ 4294967297 := by
    have : u / v1 < 4294967298 := Int.ediv_lt_of_lt_mul (by omega) (by omega)
    omega
  refine ⟨q0, q1, by omega, by omega, ?_⟩
  have hlt : (u * 4294967296 + w) / v < u / v1 + 1 := by
    apply Int.ediv_lt_of_lt_mul (by omega)
    have s := spread (u / v1 + 1) v v1 v0 hv
    have s1 : (u / v1 + 1) * v1 = u / v1 * v1 + v1 := by rw [Int.add_mul, Int.one_mul]
    have s2 : 0 ≤ (u / v1 + 1) * v0 := Int.mul_nonneg (by omega) h3
    omega
  omega

/-- A digit that is too great, as the loop asks it. -/
theorem great {u v v1 v0 w q rh : Int} (hv : v = v1 * 4294967296 + v0) (hpos : 0 < v) (huv : u < v) (hw' : w ≤ 4294967295) (inv : q * v1 + rh = u) (h : 4294967296 ≤ q ∨ 4294967296 * rh + w < q * v0) :
    (u * 4294967296 + w) / v ≤ q - 1 := by
  have hlt : (u * 4294967296 + w) / v < q := by
    apply Int.ediv_lt_of_lt_mul hpos
    have s := spread q v v1 v0 hv
    rcases h with h | h
    · have := Int.mul_le_mul_of_nonneg_right h (show 0 ≤ v by omega)
      omega
    · omega
  omega
theorem lower {v1 q rh u : Int} (inv : q * v1 + rh = u) : (q - 1) * v1 + (rh + v1) = u := by
  rw [Int.sub_mul, Int.one_mul]; omega
/-- A digit that isn't. -/
theorem right {u v v1 v0 w q rh : Int} (hv : v = v1 * 4294967296 + v0) (hpos : 0 < v) (inv : q * v1 + rh = u) (h : q * v0 ≤ 4294967296 * rh + w) (hle : (u * 4294967296 + w) / v ≤ q) :
    q = (u * 4294967296 + w) / v := by
  have s := spread q v v1 v0 hv
  have : q ≤ (u * 4294967296 + w) / v := (Int.le_ediv_iff_mul_le hpos).2 (by omega)
  omega
/-- The loop broke off. -/
theorem broke {u v v1 v0 w q rh : Int} (hv : v = v1 * 4294967296 + v0) (h3 : 0 ≤ v0) (h4 : v0 ≤ 4294967295) (hpos : 0 < v) (hw : 0 ≤ w) (inv : q * v1 + rh = u) (hq : q ≤ 4294967296) (hr : 4294967296 ≤ rh) (hle : (u * 4294967296 + w) / v ≤ q) :
    q = (u * 4294967296 + w) / v := by
  refine right hv hpos inv ?_ hle
  have := Int.mul_le_mul_of_nonneg_right hq h3
  omega
/-- No product of the test is too great. -/
theorem small {q v0 : Int} (h0 : 0 ≤ q) (hq : q ≤ 4294967297) (h3 : 0 ≤ v0) (h4 : v0 ≤ 4294967295) : 0 ≤ q * v0 ∧ q * v0 ≤ 18446744073709551615 := by
  have a := Int.mul_le_mul_of_nonneg_right hq h3
  have b := Int.mul_nonneg h0 h3
  omega
/-- The digit's rest, and its bound. -/
theorem rest {u v w : Int} (hpos : 0 < v) (hu : 0 ≤ u) (huv : u < v) (hw : 0 ≤ w) (hw' : w ≤ 4294967295) :
    0 ≤ (u * 4294967296 + w) / v ∧ (u * 4294967296 + w) / v ≤ 4294967295 ∧ u * 4294967296 + w - (u * 4294967296 + w) / v * v = (u * 4294967296 + w) % v ∧ 0 ≤ (u * 4294967296 + w) % v ∧ (u * 4294967296 + w) % v < v := by
  have e := Int.mul_ediv_add_emod (u * 4294967296 + w) v
  have e' : v * ((u * 4294967296 + w) / v) = (u * 4294967296 + w) / v * v := Int.mul_comm _ _
  have h1 : (u * 4294967296 + w) / v < 4294967296 := Int.ediv_lt_of_lt_mul hpos (by omega)
  refine ⟨Int.ediv_nonneg (by omega) (by omega), by omega, by omega, Int.emod_nonneg _ (by omega), Int.emod_lt_of_pos _ hpos⟩
/-- Both digits together. -/
theorem both {u v w x : Int} (hpos : 0 < v) :
    (u * 4294967296 + w) / v * 4294967296 + ((u * 4294967296 + w) % v * 4294967296 + x) / v = ((u * 4294967296 + w) * 4294967296 + x) / v ∧
    ((u * 4294967296 + w) % v * 4294967296 + x) % v = ((u * 4294967296 + w) * 4294967296 + x) % v := by
  have e := Int.mul_ediv_add_emod (u * 4294967296 + w) v
  generalize (u * 4294967296 + w) / v = q at *
  generalize (u * 4294967296 + w) % v = r at *
  have h : (u * 4294967296 + w) * 4294967296 + x = (r * 4294967296 + x) + v * (q * 4294967296) := by
    rw [← e, Int.add_mul, Int.mul_assoc]; omega
  rw [h]
  constructor
  · rw [Int.add_mul_ediv_left _ _ (by omega)]; omega
  · rw [Int.add_mul_emod_self_left]

/-- The number, and what it is divided by, moved up by the same power of two. -/
theorem moved {n y p : Int} (hp : 0 < p) : n * p / (y * p) = n / y ∧ n * p % (y * p) / p = n % y := by
  constructor
  · exact Int.mul_ediv_mul_of_pos_left _ _ hp
  · rw [Int.emod_def, Int.mul_ediv_mul_of_pos_left _ _ hp, show n * p - y * p * (n / y) = (n - y * (n / y)) * p by rw [Int.sub_mul, Int.mul_right_comm], Int.mul_ediv_cancel _ (by omega), Int.emod_def]
end Go.Proofs.YtblikgbcakgdnaaGreat.Dv
/-
  Contracts of the library's words: how many bits a number wants, how many noughts are ahead of them in 64, and the product of two words in two words. No conditions but the words' own ranges.
-/
namespace Go.Proofs.YtblikgbcakgdnaaGreat
open Go.ChangeShapes Go.WideShapes Go.ChangeAt Go.RowKit

namespace Dv
theorem len_bound : ∀ (f x : Nat), x < 2 ^ f → f ≤ 64 → x < 2 ^ Lib.bitLen x ∧ (x ≠ 0 → 1 ≤ Lib.bitLen x ∧ 2 ^ (Lib.bitLen x - 1) ≤ x)
  | 0, x, h, _ => by
    have : x = 0 := by simpa using h
    subst this
    exact ⟨by decide, fun h => absurd rfl h⟩
  | f + 1, x, h, hf => by
    have h64 : x < 2 ^ 64 := Nat.lt_of_lt_of_le h (Nat.pow_le_pow_right (by decide) hf)
    by_cases h0 : x = 0
    · subst h0; exact ⟨by decide, fun h => absurd rfl h⟩
    · obtain ⟨a, b⟩ := len_bound f (x / 2) (by rw [Nat.pow_succ] at h; omega) (by omega)
      rw [Lib.bitLen_half x h0 h64]
      refine ⟨by rw [Nat.add_comm, Nat.pow_succ]; omega, fun _ => ⟨by omega, ?_⟩⟩
      by_cases h1 : x / 2 = 0
      · rw [h1]; simp [Lib.bitLen, Lib.bitLenAux]; omega
      · obtain ⟨c, d⟩ := b h1
        obtain ⟨k, hk⟩ : ∃ k, Lib.bitLen (x / 2) = k + 1 := ⟨Lib.bitLen (x / 2) - 1, by omega⟩
        rw [hk] at d ⊢
        simp only [Nat.add_sub_cancel, Nat.add_sub_cancel_left] at d ⊢
        rw [Nat.pow_succ]
        omega
/-- How far a word is moved up till its first bit is one. -/
def up (y : Int) : Nat := 64 - Lib.bitLen y.toNat
theorem up_le (y : Int) (h0 : 1 ≤ y) (h1 : y ≤ 18446744073709551615) : up y ≤ 63 ∧ 9223372036854775808 ≤ y * 2 ^ up y ∧ y * 2 ^ up y ≤ 18446744073709551615 ∧ (64 - (Lib.bitLen y.toNat : Int)) = up y := by
  have l := Lib.bitLen_le y.toNat 64 (by omega) (by omega)
  obtain ⟨a, b⟩ := len_bound 64 y.toNat (by omega) (by omega)
  obtain ⟨c, d⟩ := b (by omega)
  unfold up
  generalize Lib.bitLen y.toNat = n at *
  have hp : (2 : Nat) ^ n * 2 ^ (64 - n) = 18446744073709551616 := by rw [← Nat.pow_add, show n + (64 - n) = 64 by omega]
  have hq : (2 : Nat) ^ (n - 1) * 2 ^ (64 - n) = 9223372036854775808 := by rw [← Nat.pow_add, show n - 1 + (64 - n) = 63 by omega]
  have h2 : 0 < (2 : Nat) ^ (64 - n) := Nat.pow_pos (by decide)
  have e1 := Nat.mul_lt_mul_of_pos_right a h2
  have e2 := Nat.mul_le_mul_right (2 ^ (64 - n)) d
  have e3 : y * 2 ^ (64 - n) = ((y.toNat * 2 ^ (64 - n) : Nat) : Int) := by
    rw [Int.natCast_mul, Int.natCast_pow, Int.toNat_of_nonneg (by omega)]; rfl
  rw [e3]
  generalize y.toNat * 2 ^ (64 - n) = z at *
  omega
end Dv

theorem lz64_any (y : Int) (w : World) (h0 : 1 ≤ y) (h1 : y ≤ 18446744073709551615) :
    Calls Tryz.prog 145 #[.int .u64 y] w fun e w' => e = .returned (.int .i64 (Dv.up y)) ∧ w = w' := by
  obtain ⟨_, _, _, hu⟩ := Dv.up_le y h0 h1
  have l := Lib.bitLen_le y.toNat 64 (by omega) (by omega)
  have HU := Lib.hid hu
  clear hu
  go_enter Tryz.func145, Tryz.ntmps145
  go_wp2_with (go_at_call 146; refine (len64_any y _ (by omega) h1).mono ?_; rintro e w' ⟨rfl, rfl⟩)
  go_ret
  exact ⟨ret_int HU.out, rfl⟩

theorem Dv.low32 (z : Int) : bits .and .u64 (z % 18446744073709551616) 4294967295 = z % 18446744073709551616 % 4294967296 := and_low32 _ (by omega) (by omega)

set_option maxHeartbeats 1000000 in
set_option maxRecDepth 100000 in
theorem mul64_any (x y : Int) (w : World) (h0 : 0 ≤ x) (h1 : x ≤ 18446744073709551615) (g0 : 0 ≤ y) (g1 : y ≤ 18446744073709551615) :
    Calls Tryz.prog 143 #[.int .u64 x, .int .u64 y] w fun e w' => e = .returned (.tuple #[.int .u64 (x * y / 18446744073709551616), .int .u64 (x * y % 18446744073709551616)]) ∧ w = w' := by
  go_enter Tryz.func143, Tryz.ntmps143
  go_wp2
  simp only [IntKind.wrap_u64, and_low32 x h0 (by omega), and_low32 y g0 (by omega), Dv.low32]
  rw [mul64_arith x y h0 (by omega) g0 (by omega)]
  go_ret2
  exact ⟨rfl, rfl⟩
end Go.Proofs.YtblikgbcakgdnaaGreat
