/-
  A region that draws its order, walked in one order that is named ('ord'), where calls come up alone: between them each operation yields one value in every world of a class S (or its guard is false, and it is skipped); at a call no other operation may come up, and behind it S is shown anew. No conditions but those that each law names.
-/
import Derived.WalkKit
import Derived.OrdersHeld
import Derived.Deep.RegionHeld3
set_option linter.unusedSimpArgs false
set_option linter.unusedVariables false
namespace Go.Proofs.Ytkdajjbhmmgbkaa
open Go.RowKit

section
variable {P : Program} {l : List Oper} {S : World → Prop} {Q : Exit → Act → World → Prop}

/-- Which operations have come up: those of 'done'. -/
def cameUp (l : List Oper) (done : List Nat) : Array Bool := done.foldr (fun i b => b.setIfInBounds i true) (Array.replicate l.toArray.size false)

/-- The walk from here on: 'done' have come up, 'ord' are left, in this order. -/
def Lane (P : Program) (l : List Oper) (S : World → Prop) (Q : Exit → Act → World → Prop) (done ord : List Nat) (a : Act) (w : World) : Prop :=
  wpAnyH P .any l.toArray Q S ord.length (cameUp l done) a w

def laneFree (l : List Oper) (done : List Nat) (i : Nat) : Bool := Region.free .any l.toArray (cameUp l done) i && (Region.ready .any l.toArray (cameUp l done)).contains i
def laneAlone (l : List Oper) (done : List Nat) (i : Nat) : Bool := Region.ready .any l.toArray (cameUp l done) == [i]

/-- The beginning. -/
theorem lane_start {id : Nat} {a : Act} {w : World} (ord : List Nat) (hlen : ord.length = l.length) (hm : P.follows .mixedOrders = true) (hS : S w.drew) (h : S w.drew → Lane P l S (NoPanic Q) [] ord a w.drew) : (Code.region id l.toArray true).wp P Q a w :=
  wp_region_noPanic (wp_region_held_drew hm hS fun hS' => by
    have := h hS'
    unfold Lane at this
    rw [hlen] at this
    simpa [cameUp] using this)
/-- The end. -/
theorem lane_end {done : List Nat} {a : Act} {w : World} (hr : (Region.ready .any l.toArray (cameUp l done)).isEmpty = true) (h : Q .normal a w) : Lane P l S (NoPanic Q) done [] a w :=
  wpAnyH_done (by simpa using hr) (NoPanic.normal h) _
/-- An operation whose guard is false. -/
theorem lane_skip {i : Nat} {o : Oper} {done ord : List Nat} {a : Act} {w : World} (ho : l[i]? = some o) (hf : laneFree l done i = true) (hs : Region.noSelect l.toArray = true) (hw : Region.wanted o (yielded l.toArray a.tmps) = false) (hS : S w)
    (h : Lane P l S (NoPanic Q) (i :: done) ord (a.put o.dst undef) w) : Lane P l S (NoPanic Q) done (i :: ord) a w := by
  unfold laneFree at hf
  rw [Bool.and_eq_true] at hf
  exact wpAnyH_take (by simpa using ho) hs hf.1 hf.2 (fun _ _ _ h => h) (.inr ⟨hw, rfl⟩) hS h
/-- An operation that yields one value in every world of the class. -/
theorem lane_take {i : Nat} {o : Oper} {done ord : List Nat} {a : Act} {w : World} {v : Value} (ho : l[i]? = some o) (hf : laneFree l done i = true) (hs : Region.noSelect l.toArray = true) (hw : Region.wanted o (yielded l.toArray a.tmps) = true)
    (hv : ∀ w, S w → (execOp a.eval o).run P w = .ok (.value v) w) (hS : S w)
    (h : Lane P l S (NoPanic Q) (i :: done) ord (a.put o.dst v) w) : Lane P l S (NoPanic Q) done (i :: ord) a w := by
  unfold laneFree at hf
  rw [Bool.and_eq_true] at hf
  exact wpAnyH_take (by simpa using ho) hs hf.1 hf.2 (fun _ _ _ h => h) (.inl ⟨hw, hv⟩) hS h
/-- An operation that comes up alone: whatever it does; behind it S is shown anew. -/
theorem lane_alone {i : Nat} {o : Oper} {done ord : List Nat} {a : Act} {w : World} (ho : l[i]? = some o) (hr : laneAlone l done i = true) (hw : Region.wanted o (yielded l.toArray a.tmps) = true)
    (h : ∀ K : Act → World → Prop, (∀ a' w', S w' → (S w' → Lane P l S (NoPanic Q) (i :: done) ord a' w') → K a' w') → o.wp P a w K (NoPanic Q)) : Lane P l S (NoPanic Q) done (i :: ord) a w := by
  unfold laneAlone at hr
  refine wpAnyH_all (rs := [i]) (by simpa using hr) (by simp) fun j hj => ?_
  obtain rfl : j = i := by simpa using hj
  unfold wpOp
  have h2 : l.toArray[j]? = some o := by simpa using ho
  simp only [h2, hw, if_true]
  exact .inl (h _ fun a' w' hS hn => ⟨hS, hn hS⟩)
theorem held_mono {md : Region.Mode} {ops : Array Oper} {S' : World → Prop} (hS : ∀ w, S' w → S w) : ∀ (fuel : Nat) (listed : Array Bool) (a : Act) (w : World), wpAnyH P md ops Q S' fuel listed a w → wpAnyH P md ops Q S fuel listed a w
  | 0, _, _, _, h => h
  | fuel + 1, _, _, _, h => ⟨h.1, fun i hi => wpOp_mono (fun a' w' h' => ⟨hS _ h'.1, held_mono hS fuel _ a' w' h'.2⟩) (h.2 i hi)⟩
/-- From here on a narrower class: for what has come up meanwhile. -/
theorem lane_into {S' : World → Prop} {done ord : List Nat} {a : Act} {w : World} (hS : ∀ w, S' w → S w) (hw : S' w) (h : S' w → Lane P l S' (NoPanic Q) done ord a w) : Lane P l S (NoPanic Q) done ord a w :=
  held_mono hS _ _ _ _ (h hw)
/-- Two operations may come up: each is walked. -/
theorem lane_two {i j : Nat} {oi oj : Oper} {done ordI ordJ : List Nat} {a : Act} {w : World} (hoi : l[i]? = some oi) (hoj : l[j]? = some oj) (hr : (Region.ready .any l.toArray (cameUp l done) == [i, j]) = true) (hlen : ordI.length = ordJ.length)
    (hwi : Region.wanted oi (yielded l.toArray a.tmps) = true) (hwj : Region.wanted oj (yielded l.toArray a.tmps) = true)
    (hi : ∀ K : Act → World → Prop, (∀ a' w', S w' → (S w' → Lane P l S (NoPanic Q) (i :: done) ordI a' w') → K a' w') → oi.wp P a w K (NoPanic Q))
    (hj : ∀ K : Act → World → Prop, (∀ a' w', S w' → (S w' → Lane P l S (NoPanic Q) (j :: done) ordJ a' w') → K a' w') → oj.wp P a w K (NoPanic Q)) : Lane P l S (NoPanic Q) done (i :: ordI) a w := by
  refine wpAnyH_all (rs := [i, j]) (by simpa using hr) (by simp) fun k hk => ?_
  unfold wpOp
  rcases List.mem_cons.1 hk with rfl | hk
  · have h2 : l.toArray[k]? = some oi := by simpa using hoi
    simp only [h2, hwi, if_true]
    exact .inl (hi _ fun a' w' hS hn => ⟨hS, hn hS⟩)
  · obtain rfl : k = j := by simpa using hk
    have h2 : l.toArray[k]? = some oj := by simpa using hoj
    simp only [h2, hwj, if_true]
    refine .inl (hj _ fun a' w' hS hn => ⟨hS, ?_⟩)
    have := hn hS
    unfold Lane at this
    rw [← hlen] at this
    exact this
/-- An operation by its run: it yields a value, or none. -/
theorem wp_of_value {o : Oper} {a : Act} {w w' : World} {K : Act → World → Prop} {v : Value} (hr : (execOp a.eval o).run P w = .ok (.value v) w') (h : K (a.put o.dst v) w') : o.wp P a w K Q := by
  unfold Oper.wp; rw [hr]; exact h
theorem exec_load {o : Oper} {a : Act} {w : World} {t : TypeId} {x : Operand} {xv v : Value} (ho : o.op = .load t x) (hx : a.eval x = xv) (hr : (Instr.loadAt t xv).run P w = .ok v w) : (execOp a.eval o).run P w = .ok (.value v) w := by
  unfold execOp; simp only [ho, hx, Sem.run_bind, hr, Result.andThen_ok, Sem.run_pure]
theorem exec_append {o : Oper} {a : Act} {w w' : World} {t u : TypeId} {s x : Operand} {sv xv v : Value} (ho : o.op = .call { callee := .builtin .append, args := #[s, x], argTypes := #[t, u] }) (hs : a.eval s = sv) (hx : a.eval x = xv) (hr : (Builtin.append_ #[t, u] o.type #[sv, xv]).run P w = .ok v w') : (execOp a.eval o).run P w = .ok (.value v) w' := by
  unfold execOp; simp only [ho, resolve, invoke, builtin, Sem.run_bind, Sem.run_pure, Result.andThen_ok, List.map_toArray, List.map_cons, List.map_nil, hs, hx, hr]
end
end Go.Proofs.Ytkdajjbhmmgbkaa
/-
  A region that draws its order, whose last operation waits for all others (a store over what the others have read): a lane in which the class of worlds is asked for of all operations but that one. No conditions but those that each law names.
-/
namespace Go.Proofs.Ytkdajjbhmmgbkaa
open Go.RowKit

section
variable {P : Program} {md : Region.Mode} {ops : Array Oper} {S : World → Prop} {Q : Exit → Act → World → Prop} {t : Nat}

/-- The walk of what is left; behind t it isn't asked that the world is in the class. -/
def wpEnd (P : Program) (md : Region.Mode) (ops : Array Oper) (Q : Exit → Act → World → Prop) (S : World → Prop) (t : Nat) : Nat → Array Bool → Act → World → Prop
  | 0, came, a, w => Region.ready md ops came = [] ∧ Q .normal a w
  | n + 1, came, a, w => (Region.ready md ops came = [] → Q .normal a w) ∧
    ∀ i ∈ Region.ready md ops came, wpOp P ops Q i (fun b u => (i ≠ t → S u) ∧ wpEnd P md ops Q S t n (came.setIfInBounds i true) b u) a w
theorem any_of_end (n : Nat) : ∀ (came : Array Bool) (a : Act) (w : World), wpEnd P md ops Q S t n came a w → wpAny P md ops Q n came a w := by
  induction n with
  | zero => exact fun _ _ _ h => h
  | succ n ih => exact fun came a w h => ⟨h.1, fun i hi => wpOp_mono (fun b u hu => ih _ b u hu.2) (h.2 i hi)⟩
/-- What is ready waits for nothing that is ready. -/
theorem ready_free {i : Nat} {came : Array Bool} {oj : Oper} (hi : i ∈ Region.ready md ops came) (hj : ∀ e ∈ oj.after, Region.binds md e = true → came.getD e.on false = true) : ∀ e ∈ oj.after, Region.binds md e = true → e.on ≠ i := by
  rintro e he hb rfl
  have h0 := (mem_ready.1 hi).1
  have h1 := hj e he hb
  by_cases hl : e.on < came.size
  · simp [hl] at h0 h1; rw [h0] at h1; cases h1
  · simp [Array.getElem?_eq_none (Nat.le_of_not_lt hl)] at h1
/-- An operation that may come up, other than t, may be taken first. -/
theorem end_first {i : Nat} {oi : Oper} {v : Value} (hi : ops[i]? = some oi) (hsel : ∀ (j : Nat) (o : Oper) cs b, ops[j]? = some o → o.op ≠ .select cs b)
    (hQ : ∀ c a w, Q (.panic c) (a.put oi.dst v) w → Q (.panic c) a w) (hlast : ∀ o, ops[t]? = some o → i ≠ t → ∃ e ∈ o.after, Region.binds md e = true ∧ e.on = i) (hit : i ≠ t) (n : Nat) : ∀ (came : Array Bool) (a : Act) (w : World),
      (∀ j oj, ops[j]? = some oj → j ≠ i → came.getD j true = false → (∀ e ∈ oj.after, Region.binds md e = true → e.on ≠ i) → oi.apart ops oj = true) →
      i ∈ Region.ready md ops came → YieldsIf P ops S oi v a → S w → wpEnd P md ops Q S t n (came.setIfInBounds i true) (a.put oi.dst v) w → wpEnd P md ops Q S t (n + 1) came a w := by
  induction n with
  | zero =>
    intro came a w _ hr hy hS H
    constructor
    · intro h; rw [h] at hr; cases hr
    · intro j hj
      rcases Decidable.em (j = i) with rfl | hne
      · exact hy.wpOp hi hS ⟨fun _ => hS, H⟩
      · have hj2 := ready_mono hj hne
        rw [H.1] at hj2; cases hj2
  | succ n ih =>
    intro came a w hfree hr hy hS H
    constructor
    · intro h; rw [h] at hr; cases hr
    · intro j hj
      rcases Decidable.em (j = i) with rfl | hne
      · exact hy.wpOp hi hS ⟨fun _ => hS, H⟩
      · obtain ⟨hun, oj, hoj, hdone⟩ := mem_ready.1 hj
        have hno := ready_free hr hdone
        have hjt : j ≠ t := by
          rintro rfl
          obtain ⟨e, he, hb, ho⟩ := hlast oj hoj hit
          exact hno e he hb ho
        refine wpOp_mono ?_ (wpOp_putIf hoj (hfree j oj hoj hne hun hno) (fun cs b => hsel i oi cs b hi) (fun cs b => hsel j oj cs b hoj) hQ hy (H.2 j (ready_mono hj hne)))
        rintro b u ⟨hyu, hSu, Hu⟩
        refine ⟨fun _ => hSu hjt, ih _ b u (fun k ok hk hki hku hkn => hfree k ok hk hki ?_ hkn) (ready_mono hr (Ne.symm hne)) hyu (hSu hjt) (by rw [Array.setIfInBounds_comm _ _ hne]; exact Hu)⟩
        rcases Decidable.em (j = k) with rfl | hjk
        · exact hun
        · rwa [getD_set_ne true hjk] at hku
end
section
variable {P : Program} {l : List Oper} {S : World → Prop} {Q : Exit → Act → World → Prop} {t : Nat}
/-- The lane: as 'Lane', but for t. -/
def LaneT (P : Program) (l : List Oper) (S : World → Prop) (Q : Exit → Act → World → Prop) (t : Nat) (done ord : List Nat) (a : Act) (w : World) : Prop := wpEnd P .any l.toArray Q S t ord.length (cameUp l done) a w
/-- t waits for all others. -/
def tLast (l : List Oper) (t : Nat) : Bool := (List.range l.length).all fun i => i == t || match l[t]? with
  | some o => o.after.toList.any fun e => Region.binds .any e && e.on == i
  | none => true
theorem tLast_spec {i : Nat} (h : tLast l t = true) (hi : i < l.length) : ∀ o, l.toArray[t]? = some o → i ≠ t → ∃ e ∈ o.after, Region.binds .any e = true ∧ e.on = i := by
  intro o ho hit
  have h1 := (List.all_eq_true.1 h) i (List.mem_range.2 hi)
  have ho' : l[t]? = some o := by simpa using ho
  simp only [ho', Bool.or_eq_true, beq_iff_eq, hit, false_or, List.any_eq_true, Bool.and_eq_true] at h1
  obtain ⟨e, he, hb, hon⟩ := h1
  exact ⟨e, by simpa using he, hb, hon⟩
theorem laneT_start {id : Nat} {a : Act} {w : World} (ord : List Nat) (t : Nat) (hlen : ord.length = l.length) (hm : P.follows .mixedOrders = true) (h : LaneT P l S (NoPanic Q) t [] ord a w.drew) : (Code.region id l.toArray true).wp P Q a w :=
  wp_region_noPanic (wp_region_any hm (any_of_end _ _ _ _ (by
    unfold LaneT at h
    rw [hlen] at h
    simpa [cameUp] using h)))
theorem laneT_end {done : List Nat} {a : Act} {w : World} (hr : (Region.ready .any l.toArray (cameUp l done)).isEmpty = true) (h : Q .normal a w) : LaneT P l S (NoPanic Q) t done [] a w :=
  ⟨by simpa using hr, NoPanic.normal h⟩
theorem laneT_take {i : Nat} {o : Oper} {done ord : List Nat} {a : Act} {w : World} {v : Value} (ho : l[i]? = some o) (hf : laneFree l done i = true) (hs : (Region.noSelect l.toArray && tLast l t && !(i == t)) = true) (hw : Region.wanted o (yielded l.toArray a.tmps) = true)
    (hv : ∀ w, S w → (execOp a.eval o).run P w = .ok (.value v) w) (hS : S w) (h : LaneT P l S (NoPanic Q) t (i :: done) ord (a.put o.dst v) w) : LaneT P l S (NoPanic Q) t done (i :: ord) a w := by
  unfold laneFree at hf
  simp only [Bool.and_eq_true, Bool.not_eq_true', beq_eq_false_iff_ne] at hf hs
  have hlt : i < l.length := (List.getElem?_eq_some_iff.1 ho).1
  exact end_first (by simpa using ho) (Region.noSelect_spec hs.1.1) (fun _ _ _ h => h) (tLast_spec hs.1.2 hlt) hs.2 _ _ _ _ (Region.free_spec (by simpa using ho) hf.1) (by simpa using hf.2) (.inl ⟨hw, hv⟩) hS h
theorem laneT_alone {i : Nat} {o : Oper} {done ord : List Nat} {a : Act} {w : World} (ho : l[i]? = some o) (hr : laneAlone l done i = true) (hw : Region.wanted o (yielded l.toArray a.tmps) = true)
    (h : ∀ K : Act → World → Prop, (∀ a' w', (i ≠ t → S w') → LaneT P l S (NoPanic Q) t (i :: done) ord a' w' → K a' w') → o.wp P a w K (NoPanic Q)) : LaneT P l S (NoPanic Q) t done (i :: ord) a w := by
  unfold laneAlone at hr
  have hready : Region.ready .any l.toArray (cameUp l done) = [i] := by simpa using hr
  refine ⟨fun h0 => (by rw [hready] at h0; cases h0), fun j hj => ?_⟩
  rw [hready] at hj
  obtain rfl : j = i := by simpa using hj
  unfold wpOp
  have h2 : l.toArray[j]? = some o := by simpa using ho
  simp only [h2, hw, if_true]
  exact .inl (h _ fun a' w' hS hn => ⟨hS, hn⟩)
end
section
variable {P : Program} {l : List Oper} {S : World → Prop} {Q : Exit → Act → World → Prop} {t : Nat}
/-- t waits for i. -/
def tWaits (l : List Oper) (t i : Nat) : Bool := match l[t]? with
  | some o => o.after.toList.any fun e => Region.binds .any e && e.on == i
  | none => true
theorem tWaits_spec {i : Nat} (h : tWaits l t i = true) : ∀ o, l.toArray[t]? = some o → i ≠ t → ∃ e ∈ o.after, Region.binds .any e = true ∧ e.on = i := by
  intro o ho _
  have ho' : l[t]? = some o := by simpa using ho
  unfold tWaits at h
  simp only [ho', List.any_eq_true, Bool.and_eq_true, beq_iff_eq] at h
  obtain ⟨e, he, hb, hon⟩ := h
  exact ⟨e, by simpa using he, hb, hon⟩
theorem laneT_take1 {i : Nat} {o : Oper} {done ord : List Nat} {a : Act} {w : World} {v : Value} (ho : l[i]? = some o) (hf : laneFree l done i = true) (hs : (Region.noSelect l.toArray && tWaits l t i && !(i == t)) = true) (hw : Region.wanted o (yielded l.toArray a.tmps) = true)
    (hv : ∀ w, S w → (execOp a.eval o).run P w = .ok (.value v) w) (hS : S w) (h : LaneT P l S (NoPanic Q) t (i :: done) ord (a.put o.dst v) w) : LaneT P l S (NoPanic Q) t done (i :: ord) a w := by
  unfold laneFree at hf
  simp only [Bool.and_eq_true, Bool.not_eq_true', beq_eq_false_iff_ne] at hf hs
  exact end_first (by simpa using ho) (Region.noSelect_spec hs.1.1) (fun _ _ _ h => h) (tWaits_spec hs.1.2) hs.2 _ _ _ _ (Region.free_spec (by simpa using ho) hf.1) (by simpa using hf.2) (.inl ⟨hw, hv⟩) hS h
end
end Go.Proofs.Ytkdajjbhmmgbkaa
