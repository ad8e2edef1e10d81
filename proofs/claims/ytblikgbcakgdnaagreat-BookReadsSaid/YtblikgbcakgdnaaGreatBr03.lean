/-
  A region that draws its order, walked in one order that is named ('ord'), where calls come up alone: between them each operation yields one value in every world of a class S (or its guard is false, and it is skipped); at a call no other operation may come up, and behind it S is shown anew. No conditions but those that each law names.
-/
import Derived.WalkKit
import Derived.OrdersHeld
import Derived.Deep.RegionHeld3
import Derived.Test.YtblikgbcakgdnaaGreatRows
import Derived.Maps.AppendAt
import Derived.Laws.OwnMore
import Derived.Laws.BytesString
import Derived.Test.YtblikgbcakgdnaaGreatBr02
set_option linter.unusedSimpArgs false
set_option linter.unusedVariables false
namespace Go.Proofs.YtblikgbcakgdnaaGreat
open Go.RowKit

section
variable {P : Program} {l : List Oper} {S : World → Prop} {Q : Exit → Act → World → Prop}

/-- Which operations have come up: those of 'done'. -/
def cameUp (l : List Oper) (done : List Nat) : Array Bool := done.foldr (fun i b => b.setIfInBounds i true) (Array.replicate l.toArray.size false)

/-- The walk from here on: 'done' have come up, 'ord' are left, in this order. -/
def Lane (P : Program) (l : List Oper) (S : World → Prop) (Q : Exit → Act → World → Prop) (done ord : List Nat) (a : Act) (w : World) : Prop :=
  wpAnyH P .any l.toArray Q S ord.length (cameUp l done) a w

def laneFree (l : List Oper) (done : List Nat) (i : Nat) : Bool := Region.free .any l.toArray (cameUp l done) i && (Region.ready .any l.toArray (cameUp l done)).contains i
def laneAlone (l : List Oper) (done : List Nat) (i : Nat) : Bool := Region.ready .any l.toArray (cameUp l done) == [i]

/-- The beginning. -/
theorem lane_start {id : Nat} {a : Act} {w : World} (ord : List Nat) (hlen : ord.length = l.length) (hm : P.follows .mixedOrders = true) (hS : S w.drew) (h : S w.drew → Lane P l S (NoPanic Q) [] ord a w.drew) : (Code.region id l.toArray true).wp P Q a w :=
  wp_region_noPanic (wp_region_held_drew hm hS fun hS' => by
    have := h hS'
    unfold Lane at this
    rw [hlen] at this
    simpa [cameUp] using this)
/-- The end. -/
theorem lane_end {done : List Nat} {a : Act} {w : World} (hr : (Region.ready .any l.toArray (cameUp l done)).isEmpty = true) (h : Q .normal a w) : Lane P l S (NoPanic Q) done [] a w :=
  wpAnyH_done (by simpa using hr) (NoPanic.normal h) _
/-- An operation whose guard is false. -/
theorem lane_skip {i : Nat} {o : Oper} {done ord : List Nat} {a : Act} {w : World} (ho : l[i]? = some o) (hf : laneFree l done i = true) (hs : Region.noSelect l.toArray = true) (hw : Region.wanted o (yielded l.toArray a.tmps) = false) (hS : S w)
    (h : Lane P l S (NoPanic Q) (i :: done) ord (a.put o.dst undef) w) : Lane P l S (NoPanic Q) done (i :: ord) a w := by
  unfold laneFree at hf
  rw [Bool.and_eq_true] at hf
  exact wpAnyH_take (by simpa using ho) hs hf.1 hf.2 (fun _ _ _ h => h) (.inr ⟨hw, rfl⟩) hS h
/-- An operation that yields one value in every world of the class. -/
theorem lane_take {i : Nat} {o : Oper} {done ord : List Nat} {a : Act} {w : World} {v : Value} (ho : l[i]? = some o) (hf : laneFree l done i = true) (hs : Region.noSelect l.toArray = true) (hw : Region.wanted o (yielded l.toArray a.tmps) = true)
    (hv : ∀ w, S w → (execOp a.eval o).run P w = .ok (.value v) w) (hS : S w)
    (h : Lane P l S (NoPanic Q) (i :: done) ord (a.put o.dst v) w) : Lane P l S (NoPanic Q) done (i :: ord) a w := by
  unfold laneFree at hf
  rw [Bool.and_eq_true] at hf
  exact wpAnyH_take (by simpa using ho) hs hf.1 hf.2 (fun _ _ _ h => h) (.inl ⟨hw, hv⟩) hS h
/-- An operation that comes up alone: whatever it does; behind it S is shown anew. -/
theorem lane_alone {i : Nat} {o : Oper} {done ord : List Nat} {a : Act} {w : World} (ho : l[i]? = some o) (hr : laneAlone l done i = true) (hw : Region.wanted o (yielded l.toArray a.tmps) = true)
    (h : ∀ K : Act → World → Prop, (∀ a' w', S w' → (S w' → Lane P l S (NoPanic Q) (i :: done) ord a' w') → K a' w') → o.wp P a w K (NoPanic Q)) : Lane P l S (NoPanic Q) done (i :: ord) a w := by
  unfold laneAlone at hr
  refine wpAnyH_all (rs := [i]) (by simpa using hr) (by simp) fun j hj => ?_
  obtain rfl : j = i := by simpa using hj
  unfold wpOp
  have h2 : l.toArray[j]? = some o := by simpa using ho
  simp only [h2, hw, if_true]
  exact .inl (h _ fun a' w' hS hn => ⟨hS, hn hS⟩)
theorem held_mono {md : Region.Mode} {ops : Array Oper} {S' : World → Prop} (hS : ∀ w, S' w → S w) : ∀ (fuel : Nat) (listed : Array Bool) (a : Act) (w : World), wpAnyH P md ops Q S' fuel listed a w → wpAnyH P md ops Q S fuel listed a w
  | 0, _, _, _, h => h
  | fuel + 1, _, _, _, h => ⟨h.1, fun i hi => wpOp_mono (fun a' w' h' => ⟨hS _ h'.1, held_mono hS fuel _ a' w' h'.2⟩) (h.2 i hi)⟩
/-- From here on a narrower class: for what has come up meanwhile. -/
theorem lane_into {S' : World → Prop} {done ord : List Nat} {a : Act} {w : World} (hS : ∀ w, S' w → S w) (hw : S' w) (h : S' w → Lane P l S' (NoPanic Q) done ord a w) : Lane P l S (NoPanic Q) done ord a w :=
  held_mono hS _ _ _ _ (h hw)
/-- Two operations may come up: each is walked. -/
theorem lane_two {i j : Nat} {oi oj : Oper} {done ordI ordJ : List Nat} {a : Act} {w : World} (hoi : l[i]? = some oi) (hoj : l[j]? = some oj) (hr : (Region.ready .any l.toArray (cameUp l done) == [i, j]) = true) (hlen : ordI.length = ordJ.length)
    (hwi : Region.wanted oi (yielded l.toArray a.tmps) = true) (hwj : Region.wanted oj (yielded l.toArray a.tmps) = true)
    (hi : ∀ K : Act → World → Prop, (∀ a' w', S w' → (S w' → Lane P l S (NoPanic Q) (i :: done) ordI a' w') → K a' w') → oi.wp P a w K (NoPanic Q))
    (hj : ∀ K : Act → World → Prop, (∀ a' w', S w' → (S w' → Lane P l S (NoPanic Q) (j :: done) ordJ a' w') → K a' w') → oj.wp P a w K (NoPanic Q)) : Lane P l S (NoPanic Q) done (i :: ordI) a w := by
  refine wpAnyH_all (rs := [i, j]) (by simpa using hr) (by simp) fun k hk => ?_
  unfold wpOp
  rcases List.mem_cons.1 hk with rfl | hk
  · have h2 : l.toArray[k]? = some oi := by simpa using hoi
    simp only [h2, hwi, if_true]
    exact .inl (hi _ fun a' w' hS hn => ⟨hS, hn hS⟩)
  · obtain rfl : k = j := by simpa using hk
    have h2 : l.toArray[k]? = some oj := by simpa using hoj
    simp only [h2, hwj, if_true]
    refine .inl (hj _ fun a' w' hS hn => ⟨hS, ?_⟩)
    have := hn hS
    unfold Lane at this
    rw [← hlen] at this
    exact this
/-- An operation by its run: it yields a value, or none. -/
theorem wp_of_value {o : Oper} {a : Act} {w w' : World} {K : Act → World → Prop} {v : Value} (hr : (execOp a.eval o).run P w = .ok (.value v) w') (h : K (a.put o.dst v) w') : o.wp P a w K Q := by
  unfold Oper.wp; rw [hr]; exact h
theorem exec_load {o : Oper} {a : Act} {w : World} {t : TypeId} {x : Operand} {xv v : Value} (ho : o.op = .load t x) (hx : a.eval x = xv) (hr : (Instr.loadAt t xv).run P w = .ok v w) : (execOp a.eval o).run P w = .ok (.value v) w := by
  unfold execOp; simp only [ho, hx, Sem.run_bind, hr, Result.andThen_ok, Sem.run_pure]
theorem exec_append {o : Oper} {a : Act} {w w' : World} {t u : TypeId} {s x : Operand} {sv xv v : Value} (ho : o.op = .call { callee := .builtin .append, args := #[s, x], argTypes := #[t, u] }) (hs : a.eval s = sv) (hx : a.eval x = xv) (hr : (Builtin.append_ #[t, u] o.type #[sv, xv]).run P w = .ok v w') : (execOp a.eval o).run P w = .ok (.value v) w' := by
  unfold execOp; simp only [ho, resolve, invoke, builtin, Sem.run_bind, Sem.run_pure, Result.andThen_ok, List.map_toArray, List.map_cons, List.map_nil, hs, hx, hr]
end
end Go.Proofs.YtblikgbcakgdnaaGreat
/-
  A region that draws its order, whose last operation waits for all others (a store over what the others have read): a lane in which the class of worlds is asked for of all operations but that one. No conditions but those that each law names.
-/
namespace Go.Proofs.YtblikgbcakgdnaaGreat
open Go.RowKit

section
variable {P : Program} {md : Region.Mode} {ops : Array Oper} {S : World → Prop} {Q : Exit → Act → World → Prop} {t : Nat}

/-- The walk of what is left; behind t it isn't asked that the world is in the class. -/
def wpEnd (P : Program) (md : Region.Mode) (ops : Array Oper) (Q : Exit → Act → World → Prop) (S : World → Prop) (t : Nat) : Nat → Array Bool → Act → World → Prop
  | 0, came, a, w => Region.ready md ops came = [] ∧ Q .normal a w
  | n + 1, came, a, w => (Region.ready md ops came = [] → Q .normal a w) ∧
    ∀ i ∈ Region.ready md ops came, wpOp P ops Q i (fun b u => (i ≠ t → S u) ∧ wpEnd P md ops Q S t n (came.setIfInBounds i true) b u) a w
theorem any_of_end (n : Nat) : ∀ (came : Array Bool) (a : Act) (w : World), wpEnd P md ops Q S t n came a w → wpAny P md ops Q n came a w := by
  induction n with
  | zero => exact fun _ _ _ h => h
  | succ n ih => exact fun came a w h => ⟨h.1, fun i hi => wpOp_mono (fun b u hu => ih _ b u hu.2) (h.2 i hi)⟩
/-- What is ready waits for nothing that is ready. -/
theorem ready_free {i : Nat} {came : Array Bool} {oj : Oper} (hi : i ∈ Region.ready md ops came) (hj : ∀ e ∈ oj.after, Region.binds md e = true → came.getD e.on false = true) : ∀ e ∈ oj.after, Region.binds md e = true → e.on ≠ i := by
  rintro e he hb rfl
  have h0 := (mem_ready.1 hi).1
  have h1 := hj e he hb
  by_cases hl : e.on < came.size
  · simp [hl] at h0 h1; rw [h0] at h1; cases h1
  · simp [Array.getElem?_eq_none (Nat.le_of_not_lt hl)] at h1
/-- An operation that may come up, other than t, may be taken first. -/
theorem end_first {i : Nat} {oi : Oper} {v : Value} (hi : ops[i]? = some oi) (hsel : ∀ (j : Nat) (o : Oper) cs b, ops[j]? = some o → o.op ≠ .select cs b)
    (hQ : ∀ c a w, Q (.panic c) (a.put oi.dst v) w → Q (.panic c) a w) (hlast : ∀ o, ops[t]? = some o → i ≠ t → ∃ e ∈ o.after, Region.binds md e = true ∧ e.on = i) (hit : i ≠ t) (n : Nat) : ∀ (came : Array Bool) (a : Act) (w : World),
      (∀ j oj, ops[j]? = some oj → j ≠ i → came.getD j true = false → (∀ e ∈ oj.after, Region.binds md e = true → e.on ≠ i) → oi.apart ops oj = true) →
      i ∈ Region.ready md ops came → YieldsIf P ops S oi v a → S w → wpEnd P md ops Q S t n (came.setIfInBounds i true) (a.put oi.dst v) w → wpEnd P md ops Q S t (n + 1) came a w := by
  induction n with
  | zero =>
    intro came a w _ hr hy hS H
    constructor
    · intro h; rw [h] at hr; cases hr
    · intro j hj
      rcases Decidable.em (j = i) with rfl | hne
      · exact hy.wpOp hi hS ⟨fun _ => hS, H⟩
      · have hj2 := ready_mono hj hne
        rw [H.1] at hj2; cases hj2
  | succ n ih =>
    intro came a w hfree hr hy hS H
    constructor
    · intro h; rw [h] at hr; cases hr
    · intro j hj
      rcases Decidable.em (j = i) with rfl | hne
      · exact hy.wpOp hi hS ⟨fun _ => hS, H⟩
      · obtain ⟨hun, oj, hoj, hdone⟩ := mem_ready.1 hj
        have hno := ready_free hr hdone
        have hjt : j ≠ t := by
          rintro rfl
          obtain ⟨e, he, hb, ho⟩ := hlast oj hoj hit
          exact hno e he hb ho
        refine wpOp_mono ?_ (wpOp_putIf hoj (hfree j oj hoj hne hun hno) (fun cs b => hsel i oi cs b hi) (fun cs b => hsel j oj cs b hoj) hQ hy (H.2 j (ready_mono hj hne)))
        rintro b u ⟨hyu, hSu, Hu⟩
        refine ⟨fun _ => hSu hjt, ih _ b u (fun k ok hk hki hku hkn => hfree k ok hk hki ?_ hkn) (ready_mono hr (Ne.symm hne)) hyu (hSu hjt) (by rw [Array.setIfInBounds_comm _ _ hne]; exact Hu)⟩
        rcases Decidable.em (j = k) with rfl | hjk
        · exact hun
        · rwa [getD_set_ne true hjk] at hku
end
section
variable {P : Program} {l : List Oper} {S : World → Prop} {Q : Exit → Act → World → Prop} {t : Nat}
/-- The lane: as 'Lane', but for t. -/
def LaneT (P : Program) (l : List Oper) (S : World → Prop) (Q : Exit → Act → World → Prop) (t : Nat) (done ord : List Nat) (a : Act) (w : World) : Prop := wpEnd P .any l.toArray Q S t ord.length (cameUp l done) a w
/-- t waits for all others. -/
def tLast (l : List Oper) (t : Nat) : Bool := (List.range l.length).all fun i => i == t || match l[t]? with
  | some o => o.after.toList.any fun e => Region.binds .any e && e.on == i
  | none => true
theorem tLast_spec {i : Nat} (h : tLast l t = true) (hi : i < l.length) : ∀ o, l.toArray[t]? = some o → i ≠ t → ∃ e ∈ o.after, Region.binds .any e = true ∧ e.on = i := by
  intro o ho hit
  have h1 := (List.all_eq_true.1 h) i (List.mem_range.2 hi)
  have ho' : l[t]? = some o := by simpa using ho
  simp only [ho', Bool.or_eq_true, beq_iff_eq, hit, false_or, List.any_eq_true, Bool.and_eq_true] at h1
  obtain ⟨e, he, hb, hon⟩ := h1
  exact ⟨e, by simpa using he, hb, hon⟩
theorem laneT_start {id : Nat} {a : Act} {w : World} (ord : List Nat) (t : Nat) (hlen : ord.length = l.length) (hm : P.follows .mixedOrders = true) (h : LaneT P l S (NoPanic Q) t [] ord a w.drew) : (Code.region id l.toArray true).wp P Q a w :=
  wp_region_noPanic (wp_region_any hm (any_of_end _ _ _ _ (by
    unfold LaneT at h
    rw [hlen] at h
    simpa [cameUp] using h)))
theorem laneT_end {done : List Nat} {a : Act} {w : World} (hr : (Region.ready .any l.toArray (cameUp l done)).isEmpty = true) (h : Q .normal a w) : LaneT P l S (NoPanic Q) t done [] a w :=
  ⟨by simpa using hr, NoPanic.normal h⟩
theorem laneT_take {i : Nat} {o : Oper} {done ord : List Nat} {a : Act} {w : World} {v : Value} (ho : l[i]? = some o) (hf : laneFree l done i = true) (hs : (Region.noSelect l.toArray && tLast l t && !(i == t)) = true) (hw : Region.wanted o (yielded l.toArray a.tmps) = true)
    (hv : ∀ w, S w → (execOp a.eval o).run P w = .ok (.value v) w) (hS : S w) (h : LaneT P l S (NoPanic Q) t (i :: done) ord (a.put o.dst v) w) : LaneT P l S (NoPanic Q) t done (i :: ord) a w := by
  unfold laneFree at hf
  simp only [Bool.and_eq_true, Bool.not_eq_true', beq_eq_false_iff_ne] at hf hs
  have hlt : i < l.length := (List.getElem?_eq_some_iff.1 ho).1
  exact end_first (by simpa using ho) (Region.noSelect_spec hs.1.1) (fun _ _ _ h => h) (tLast_spec hs.1.2 hlt) hs.2 _ _ _ _ (Region.free_spec (by simpa using ho) hf.1) (by simpa using hf.2) (.inl ⟨hw, hv⟩) hS h
theorem laneT_alone {i : Nat} {o : Oper} {done ord : List Nat} {a : Act} {w : World} (ho : l[i]? = some o) (hr : laneAlone l done i = true) (hw : Region.wanted o (yielded l.toArray a.tmps) = true)
    (h : ∀ K : Act → World → Prop, (∀ a' w', (i ≠ t → S w') → LaneT P l S (NoPanic Q) t (i :: done) ord a' w' → K a' w') → o.wp P a w K (NoPanic Q)) : LaneT P l S (NoPanic Q) t done (i :: ord) a w := by
  unfold laneAlone at hr
  have hready : Region.ready .any l.toArray (cameUp l done) = [i] := by simpa using hr
  refine ⟨fun h0 => (by rw [hready] at h0; cases h0), fun j hj => ?_⟩
  rw [hready] at hj
  obtain rfl : j = i := by simpa using hj
  unfold wpOp
  have h2 : l.toArray[j]? = some o := by simpa using ho
  simp only [h2, hw, if_true]
  exact .inl (h _ fun a' w' hS hn => ⟨hS, hn⟩)
end
section
variable {P : Program} {l : List Oper} {S : World → Prop} {Q : Exit → Act → World → Prop} {t : Nat}
/-- t waits for i. -/
def tWaits (l : List Oper) (t i : Nat) : Bool := match l[t]? with
  | some o => o.after.toList.any fun e => Region.binds .any e && e.on == i
  | none => true
theorem tWaits_spec {i : Nat} (h : tWaits l t i = true) : ∀ o, l.toArray[t]? = some o → i ≠ t → ∃ e ∈ o.after, Region.binds .any e = true ∧ e.on = i := by
  intro o ho _
  have ho' : l[t]? = some o := by simpa using ho
  unfold tWaits at h
  simp only [ho', List.any_eq_true, Bool.and_eq_true, beq_iff_eq] at h
  obtain ⟨e, he, hb, hon⟩ := h
  exact ⟨e, by simpa using he, hb, hon⟩
theorem laneT_take1 {i : Nat} {o : Oper} {done ord : List Nat} {a : Act} {w : World} {v : Value} (ho : l[i]? = some o) (hf : laneFree l done i = true) (hs : (Region.noSelect l.toArray && tWaits l t i && !(i == t)) = true) (hw : Region.wanted o (yielded l.toArray a.tmps) = true)
    (hv : ∀ w, S w → (execOp a.eval o).run P w = .ok (.value v) w) (hS : S w) (h : LaneT P l S (NoPanic Q) t (i :: done) ord (a.put o.dst v) w) : LaneT P l S (NoPanic Q) t done (i :: ord) a w := by
  unfold laneFree at hf
  simp only [Bool.and_eq_true, Bool.not_eq_true', beq_eq_false_iff_ne] at hf hs
  exact end_first (by simpa using ho) (Region.noSelect_spec hs.1.1) (fun _ _ _ h => h) (tWaits_spec hs.1.2) hs.2 _ _ _ _ (Region.free_spec (by simpa using ho) hf.1) (by simpa using hf.2) (.inl ⟨hw, hv⟩) hS h
end
end Go.Proofs.YtblikgbcakgdnaaGreat
/-
  What a cycle asks: cycle.Asks, and the document's own. No conditions.
-/
namespace Go.Proofs.YtblikgbcakgdnaaGreat
set_option maxRecDepth 20000
open Go.ChangeShapes Go.WideShapes Go.ChangeAt Go.RowKit

theorem kind_ways {P : Prop} (p : Int) (h1 : p = 1 → P) (h3 : p = 3 → P) (h4 : p = 4 → P) (h5 : p = 5 → P) (h6 : p = 6 → P) (h0 : p ≠ 1 → p ≠ 3 → p ≠ 4 → p ≠ 5 → p ≠ 6 → P) : P := by
  by_cases c1 : p = 1
  · exact h1 c1
  by_cases c3 : p = 3
  · exact h3 c3
  by_cases c4 : p = 4
  · exact h4 c4
  by_cases c5 : p = 5
  · exact h5 c5
  by_cases c6 : p = 6
  · exact h6 c6
  · exact h0 c1 c3 c4 c5 c6
theorem kind_none {p : Int} (h1 : p ≠ 1) (h3 : p ≠ 3) (h4 : p ≠ 4) (h5 : p ≠ 5) (h6 : p ≠ 6) : Cy.kind p = 0 := by
  unfold Cy.kind; rw [if_neg h1, if_neg h3, if_neg h4, if_neg h5, if_neg h6]
theorem ask_none {s : Int} {c : Cv} (h : Cy.kind c.p = 0) : c.ask s = Nv.zero := if_pos h
/-- A cycle's block, cell by cell. -/
theorem cells8 {w : World} {b : Nat} {ty : TypeId} {fr : Nat × Nat} {n d p a u t x : Int} {g : Bool} (h : w.heap[b]? = some (.cells #[.int .i64 n, .int .i64 d, .int .u8 p, .int .i64 a, .int .i64 u, .int .i64 t, .int .i64 x, .bool g] ty fr)) :
    w.cell? ⟨b, 0, none⟩ = some (.int .i64 n) ∧ w.cell? ⟨b, 1, none⟩ = some (.int .i64 d) ∧ w.cell? ⟨b, 2, none⟩ = some (.int .u8 p) ∧ w.cell? ⟨b, 3, none⟩ = some (.int .i64 a) ∧ w.cell? ⟨b, 4, none⟩ = some (.int .i64 u) ∧ w.cell? ⟨b, 5, none⟩ = some (.int .i64 t) ∧ w.cell? ⟨b, 6, none⟩ = some (.int .i64 x) ∧ w.cell? ⟨b, 7, none⟩ = some (.bool g) := by
  refine ⟨?_, ?_, ?_, ?_, ?_, ?_, ?_, ?_⟩
  all_goals
    rw [cell_of_row _ _ _ _ _ _ h]
    rfl
/-- Does it ask? -/
def Cv.asks (c : Cv) : Bool := decide (Cy.kind c.p ≠ 0)
theorem asks_none {c : Cv} (h : Cy.kind c.p = 0) : c.asks = false := by unfold Cv.asks; simpa using h
set_option maxHeartbeats 400000 in
theorem cyasks_any (s : Int) (n d p a u t x : Int) (g : Bool) (w : World) : Calls Tryz.prog 49 #[.int .i64 s, .agg #[.int .i64 n, .int .i64 d, .int .u8 p, .int .i64 a, .int .i64 u, .int .i64 t, .int .i64 x, .bool g]] w fun e w' => e = .returned (.tuple #[.agg (Cv.ask s ⟨n, d, p, a, u, t, x, g⟩).arr, .bool (Cv.asks ⟨n, d, p, a, u, t, x, g⟩)]) ∧ Below w.heap.size w w' := by
  refine kind_ways p ?_ ?_ ?_ ?_ ?_ ?_
  · rintro rfl
    go_enter Tryz.func49, Tryz.ntmps49
    go_wp2
    go_region
    go_wp2
    refine bodyPost_ret (v := .tuple #[.agg #[.int .u8 1, .int .i64 s, .int .i64 n, .int .i64 t, .int .i64 a, .int .u8 0], .bool true]) ?_ rfl ⟨rfl, by go_grown⟩
    simp [results, Tryz.results49, go_sem]
  · rintro rfl
    go_enter Tryz.func49, Tryz.ntmps49
    go_wp2
    refine bodyPost_ret (v := .tuple #[.agg #[.int .u8 3, .int .i64 s, .int .i64 n, .int .i64 0, .int .i64 0, .int .u8 0], .bool true]) ?_ rfl ⟨rfl, by go_grown⟩
    simp [results, Tryz.results49, go_sem]
  · rintro rfl
    go_enter Tryz.func49, Tryz.ntmps49
    go_wp2
    refine bodyPost_ret (v := .tuple #[.agg #[.int .u8 5, .int .i64 s, .int .i64 n, .int .i64 0, .int .i64 0, .int .u8 0], .bool true]) ?_ rfl ⟨rfl, by go_grown⟩
    simp [results, Tryz.results49, go_sem]
  · rintro rfl
    go_enter Tryz.func49, Tryz.ntmps49
    go_wp2
    refine bodyPost_ret (v := .tuple #[.agg #[.int .u8 4, .int .i64 s, .int .i64 n, .int .i64 0, .int .i64 0, .int .u8 0], .bool true]) ?_ rfl ⟨rfl, by go_grown⟩
    simp [results, Tryz.results49, go_sem]
  · rintro rfl
    go_enter Tryz.func49, Tryz.ntmps49
    go_wp2
    go_region
    go_wp2
    refine bodyPost_ret (v := .tuple #[.agg #[.int .u8 2, .int .i64 s, .int .i64 n, .int .i64 0, .int .i64 a, .int .u8 0], .bool true]) ?_ rfl ⟨rfl, by go_grown⟩
    simp [results, Tryz.results49, go_sem]
  · intro c1 c3 c4 c5 c6
    have hk := kind_none c1 c3 c4 c5 c6
    rw [ask_none (c := ⟨n, d, p, a, u, t, x, g⟩) hk, asks_none (c := ⟨n, d, p, a, u, t, x, g⟩) hk]
    have d1 : (p == 1) = false := by simpa using c1
    have d3 : (p == 3) = false := by simpa using c3
    have d4 : (p == 4) = false := by simpa using c4
    have d5 : (p == 5) = false := by simpa using c5
    have d6 : (p == 6) = false := by simpa using c6
    clear c1 c3 c4 c5 c6 hk
    go_enter Tryz.func49, Tryz.ntmps49
    go_wp2
    refine bodyPost_ret (v := .tuple #[.agg #[.int .u8 0, .int .i64 0, .int .i64 0, .int .i64 0, .int .i64 0, .int .u8 0], .bool false]) ?_ rfl ⟨rfl, by go_grown⟩
    simp [results, Tryz.results49, go_sem]
end Go.Proofs.YtblikgbcakgdnaaGreat
/-
  Words for memory: a slice that reads as a list of numbers, nil let in; the string of bytes; and how each stays over steps that turn other blocks alone. No conditions but those that each law names.
-/
namespace Go.Proofs.YtblikgbcakgdnaaGreat
open Go.ChangeShapes Go.WideShapes Go.ChangeAt Go.RowKit

theorem ad_block (a : Addr) (n : Nat) : (a.add n).block = a.block := by unfold Addr.add; split <;> rfl
theorem ad_add (a : Addr) (i j : Nat) : (a.add i).add j = a.add (i + j) := by
  unfold Addr.add
  by_cases hi : i = 0 <;> by_cases hj : j = 0 <;> simp [hi, hj, Nat.add_assoc]
theorem ad_zero (a : Addr) : a.add 0 = a := by simp [Addr.add]
theorem ad_head (b j : Nat) : (⟨b, 0, none⟩ : Addr).add j = ⟨b, j, none⟩ := by unfold Addr.add; split <;> simp_all

/-- A slice whose address is A reads as the numbers l, in a block below B. -/
def Rd (w : World) (k : IntKind) (B : Nat) (A : Option Addr) (l : List Int) : Prop :=
  l ≠ [] → ∃ a, A = some a ∧ a.block < B ∧ ∀ j u, l[j]? = some u → w.cell? (a.add j) = some (.int k u)

section
variable {w w' : World} {k : IntKind} {B B' : Nat} {A : Option Addr} {l : List Int}
theorem Rd.none : Rd w k B A [] := fun h => absurd rfl h
theorem Rd.at_ (h : Rd w k B A l) {j : Nat} (hj : j < l.length) : ∃ a, A = some a ∧ a.block < B ∧ w.cell? (a.add j) = some (.int k l[j]) := by
  obtain ⟨a, e, hb, hc⟩ := h (fun e => by subst e; simp at hj)
  exact ⟨a, e, hb, hc j _ (List.getElem?_eq_getElem hj)⟩
theorem Rd.kept (h : Rd w k B A l) (hk : ∀ i, i < B → w'.heap[i]? = w.heap[i]?) : Rd w' k B A l := fun hl => by
  obtain ⟨a, e, hb, hc⟩ := h hl
  exact ⟨a, e, hb, fun j u hu => (World.cell?_of_block (hk _ (by rw [ad_block]; exact hb))).trans (hc j u hu)⟩
theorem Rd.more (h : Rd w k B A l) (hB : B ≤ B') : Rd w k B' A l := fun hl => by
  obtain ⟨a, e, hb, hc⟩ := h hl
  exact ⟨a, e, by omega, hc⟩
theorem Rd.below (h : Rd w k B A l) (hb : Below B w w') : Rd w' k B A l := h.kept hb.block
theorem Rd.grown {row : Option Nat} (h : Rd w k B A l) (hg : w.grownBy w' row) (hB : B ≤ w.heap.size) (hr : ∀ g, row = some g → B ≤ g) : Rd w' k B A l :=
  h.kept fun i hi => hg.block i (by omega) fun e => by have := hr i e.symm; omega
theorem Rd.drop (h : Rd w k B A l) (n : Nat) : Rd w k B (A.map (·.add n)) (l.drop n) := fun hl => by
  obtain ⟨a, rfl, hb, hc⟩ := h (fun e => by subst e; simp at hl)
  refine ⟨a.add n, rfl, by rw [ad_block]; exact hb, fun j u hu => ?_⟩
  rw [ad_add]
  exact hc _ u (by rw [← hu, List.getElem?_drop])
theorem Rd.take (h : Rd w k B A l) (n : Nat) : Rd w k B A (l.take n) := fun hl => by
  obtain ⟨a, rfl, hb, hc⟩ := h (fun e => by subst e; simp at hl)
  refine ⟨a, rfl, hb, fun j u hu => hc j u ?_⟩
  rw [List.getElem?_take] at hu
  split at hu
  · exact hu
  · cases hu
end

/-- The cells of numbers. -/
def cl (k : IntKind) (l : List Int) : List Value := l.map (Value.int k)
theorem cl_length (k : IntKind) (l : List Int) : (cl k l).length = l.length := by simp [cl]
theorem cl_append (k : IntKind) (a b : List Int) : cl k (a ++ b) = cl k a ++ cl k b := by simp [cl]
theorem cl_at {k : IntKind} {l : List Int} {j : Nat} {u : Value} (h : (cl k l)[j]? = some u) : ∃ x, l[j]? = some x ∧ u = .int k x := by
  unfold cl at h
  rw [List.getElem?_map, Option.map_eq_some_iff] at h
  obtain ⟨x, hx, rfl⟩ := h
  exact ⟨x, hx, rfl⟩
theorem cl_one (k : IntKind) (l : List Int) : ∀ u ∈ cl k l, u.oneCell' = true := by
  intro u hu
  obtain ⟨x, _, rfl⟩ := List.mem_map.1 hu
  rfl

/-- A row of the call's own reads as its numbers. -/
theorem Rd.own {w : World} {base : Nat} {e : TypeId} {k : IntKind} {A : Option Addr} {n c : Nat} {l : List Int} (h : w.ownsRow base e 1 (.slice A n c) n (cl k l)) : Rd w k w.heap.size A l := by
  intro hl
  rcases h.2 with ⟨_, rfl⟩ | ⟨g, cap, cur, hv, _⟩
  · have := h.1; rw [cl_length] at this; exact absurd (List.eq_nil_of_length_eq_zero (by simpa using this)) hl
  · injection hv with hA _ _
    subst hA
    refine ⟨_, rfl, (h.lt g rfl).2, fun j u hu => h.cells (g := g) rfl j (.int k u) ?_⟩
    unfold cl; rw [List.getElem?_map, hu]; rfl
/-- The form of a slice that is owned: its length, and that it has room for it. -/
theorem own_form {w : World} {base : Nat} {e : TypeId} {size : Nat} {v : Value} {n : Nat} {xs : List Value} (h : w.ownsRow base e size v n xs) : ∃ A c, v = .slice A n c ∧ n ≤ c ∧ c ≤ maxLen := by
  rcases h.2 with ⟨rfl, rfl⟩ | ⟨g, cap, cur, rfl, _, _, h1, h2, _⟩
  · exact ⟨Option.none, 0, rfl, Nat.le_refl _, Nat.zero_le _⟩
  · exact ⟨_, _, rfl, h1, h2⟩

/-- Only one block, and what is new, has turned. -/
theorem grown_boxed {w : World} {g : Nat} {cs cs' : Array Value} {t t' : TypeId} : (boxed w g cs t).grownBy (boxed w g cs' t') (some g) :=
  ⟨rfl, rfl, rfl, by rw [boxed_size, boxed_size]; exact Nat.le_refl _, fun i _ hne => by rw [boxed_block_other (fun e => hne (by rw [e])), boxed_block_other (fun e => hne (by rw [e]))]⟩
theorem grown_refl (w : World) (row : Option Nat) : w.grownBy w row := ⟨rfl, rfl, rfl, Nat.le_refl _, fun _ _ _ => rfl⟩
theorem grown_drewN {a w : World} {row : Option Nat} (h : a.grownBy w row) (n : Nat) : a.grownBy (w.drewN n) row := ⟨h.os, h.tape, h.output, h.size, h.block⟩
theorem grown_below {a w : World} {B : Nat} (h : a.grownBy w (some B)) {b : Nat} (hb : b ≤ B) (hs : b ≤ a.heap.size) : Below b a w :=
  ⟨h.os, h.tape, h.output, h.size, fun i hi => h.block i (by omega) fun e => by injection e; omega⟩
theorem below_grown {a w : World} (h : Below a.heap.size a w) (row : Option Nat) : a.grownBy w row := ⟨h.os, h.tape, h.output, h.size, fun i hi _ => h.block i hi⟩

theorem own_kept {w w' : World} {base : Nat} {e : TypeId} {size : Nat} {v : Value} {n : Nat} {xs : List Value} (h : w.ownsRow base e size v n xs) (hk : ∀ i, v.ownBlock = some i → w'.heap[i]? = w.heap[i]?) : w'.ownsRow base e size v n xs := by
  refine ⟨h.1, ?_⟩
  rcases h.2 with hn | ⟨g, cap, cur, rfl, hb, hgg, rest⟩
  · exact .inl hn
  · exact .inr ⟨g, cap, cur, rfl, hb, (hk g rfl).trans hgg, rest⟩
theorem own_ne {w : World} {base : Nat} {size n : Nat} {e t : TypeId} {v : Value} {xs : List Value} {g : Nat} {cs : Array Value} (h : w.ownsRow base e size v n xs) (hg : w.heap[g]? = some (.cells cs t (0, 0))) (hne : e ≠ t) : v.ownBlock ≠ some g := by
  rcases h.2 with ⟨rfl, _⟩ | ⟨g', cap, cur, rfl, _, hh, _⟩
  · simp [Value.ownBlock]
  · intro he
    have : g' = g := by simpa [Value.ownBlock] using he
    subst this
    rw [hh] at hg
    injection hg with hg
    injection hg with _ ht
    exact hne ht

/-- The letters of bytes. -/
def bst (l : List Int) : ByteArray := l.foldl (fun r n => r.push (UInt8.ofNat n.toNat)) ByteArray.empty
/-- 'string(p)', whatever the bytes. -/
theorem conv_any (w : World) (A : Option Addr) (B c : Nat) (l : List Int) (h : Rd w .u8 B A l) :
    (convert 63 9 (.slice A l.length c)).run Tryz.prog w = .ok (.string (bst l)) w := by
  rw [run_convert_bytes_string _ _ _ 5 _ _ _ Tryz.underlying63 Tryz.underlying5 Tryz.underlying9]
  rcases A with _ | a
  · have : l = [] := by
      rcases l with _ | ⟨x, r⟩
      · rfl
      · obtain ⟨a, e, _⟩ := h (by simp); cases e
    subst this
    rfl
  · unfold bst
    refine run_bytesToString w a l.length c l ?_
    have hc := run_loadCells_list (P := Tryz.prog) (w := w) a (cl .u8 l) fun j u hu => by
      obtain ⟨x, hx, rfl⟩ := cl_at hu
      obtain ⟨a', e, _, hc⟩ := h (fun e => by subst e; simp at hx)
      injection e with e
      subst e
      exact hc j x hx
    rw [cl_length] at hc
    exact hc
theorem conv_len (w : World) (A : Option Addr) (B c m : Nat) (l : List Int) (h : Rd w .u8 B A l) (hm : l.length = m) :
    (convert 63 9 (.slice A m c)).run Tryz.prog w = .ok (.string (bst l)) w := by subst hm; exact conv_any w A B c l h
/-- Numbers that are bytes. -/
def BytesOk (l : List Int) : Prop := ∀ x ∈ l, 0 ≤ x ∧ x < 256
theorem BytesOk.lt {l : List Int} (h : BytesOk l) : ∀ x ∈ l, x < 256 := fun x hx => (h x hx).2
theorem BytesOk.take {l : List Int} (h : BytesOk l) (k : Nat) : BytesOk (l.take k) := fun x hx => h x (List.mem_of_mem_take hx)
theorem BytesOk.drop {l : List Int} (h : BytesOk l) (k : Nat) : BytesOk (l.drop k) := fun x hx => h x (List.mem_of_mem_drop hx)
theorem BytesOk.append {a b : List Int} (ha : BytesOk a) (hb : BytesOk b) : BytesOk (a ++ b) := fun x hx => by
  rcases List.mem_append.1 hx with h | h
  · exact ha x h
  · exact hb x h
theorem lit_cells (w : World) (cs : Array Value) (k : IntKind) (l : List Int) (t : TypeId) (f : Nat × Nat) (h : cs.toList = cl k l) : ∀ j u, l[j]? = some u → (w.alloc (.cells cs t f)).cell? ((⟨w.heap.size, 0, none⟩ : Addr).add j) = some (.int k u) := fun j u hu => by
  rw [ad_head, cell_of_row _ _ _ _ _ f alloc_block, ← Array.getElem?_toList, h]
  unfold cl; rw [List.getElem?_map, hu]; rfl
end Go.Proofs.YtblikgbcakgdnaaGreat
