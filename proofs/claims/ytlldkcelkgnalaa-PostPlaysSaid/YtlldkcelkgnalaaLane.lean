/-
  A region that draws its order, walked in one order that is named ('ord'), where calls come up alone: between them each operation yields one value in every world of a class S (or its guard is false, and it is skipped); at a call no other operation may come up, and behind it S is shown anew. No conditions but those that each law names.
-/
import Derived.WalkKit
import Derived.OrdersHeld
import Derived.Deep.RegionHeld3
namespace Go.Proofs.Ytlldkcelkgnalaa
open Go.RowKit

section
variable {P : Program} {l : List Oper} {S : World → Prop} {Q : Exit → Act → World → Prop}

/-- Which operations have come up: those of 'done'. -/
def cameUp (l : List Oper) (done : List Nat) : Array Bool := done.foldr (fun i b => b.setIfInBounds i true) (Array.replicate l.toArray.size false)

/-- The walk from here on: 'done' have come up, 'ord' are left, in this order. -/
def Lane (P : Program) (l : List Oper) (S : World → Prop) (Q : Exit → Act → World → Prop) (done ord : List Nat) (a : Act) (w : World) : Prop :=
  wpAnyH P .any l.toArray Q S ord.length (cameUp l done) a w

def laneFree (l : List Oper) (done : List Nat) (i : Nat) : Bool := Region.free .any l.toArray (cameUp l done) i && (Region.ready .any l.toArray (cameUp l done)).contains i
def laneAlone (l : List Oper) (done : List Nat) (i : Nat) : Bool := Region.ready .any l.toArray (cameUp l done) == [i]

/-- The beginning. -/
theorem lane_start {id : Nat} {a : Act} {w : World} (ord : List Nat) (hlen : ord.length = l.length) (hm : P.follows .mixedOrders = true) (hS : S w.drew) (h : S w.drew → Lane P l S (NoPanic Q) [] ord a w.drew) : (Code.region id l.toArray true).wp P Q a w :=
  wp_region_noPanic (wp_region_held_drew hm hS fun hS' => by
    have := h hS'
    unfold Lane at this
    rw [hlen] at this
    simpa [cameUp] using this)
/-- The end. -/
theorem lane_end {done : List Nat} {a : Act} {w : World} (hr : (Region.ready .any l.toArray (cameUp l done)).isEmpty = true) (h : Q .normal a w) : Lane P l S (NoPanic Q) done [] a w :=
  wpAnyH_done (by simpa using hr) (NoPanic.normal h) _
/-- An operation whose guard is false. -/
theorem lane_skip {i : Nat} {o : Oper} {done ord : List Nat} {a : Act} {w : World} (ho : l[i]? = some o) (hf : laneFree l done i = true) (hs : Region.noSelect l.toArray = true) (hw : Region.wanted o (yielded l.toArray a.tmps) = false) (hS : S w)
    (h : Lane P l S (NoPanic Q) (i :: done) ord (a.put o.dst undef) w) : Lane P l S (NoPanic Q) done (i :: ord) a w := by
  unfold laneFree at hf
  rw [Bool.and_eq_true] at hf
  exact wpAnyH_take (by simpa using ho) hs hf.1 hf.2 (fun _ _ _ h => h) (.inr ⟨hw, rfl⟩) hS h
/-- An operation that yields one value in every world of the class. -/
theorem lane_take {i : Nat} {o : Oper} {done ord : List Nat} {a : Act} {w : World} {v : Value} (ho : l[i]? = some o) (hf : laneFree l done i = true) (hs : Region.noSelect l.toArray = true) (hw : Region.wanted o (yielded l.toArray a.tmps) = true)
    (hv : ∀ w, S w → (execOp a.eval o).run P w = .ok (.value v) w) (hS : S w)
    (h : Lane P l S (NoPanic Q) (i :: done) ord (a.put o.dst v) w) : Lane P l S (NoPanic Q) done (i :: ord) a w := by
  unfold laneFree at hf
  rw [Bool.and_eq_true] at hf
  exact wpAnyH_take (by simpa using ho) hs hf.1 hf.2 (fun _ _ _ h => h) (.inl ⟨hw, hv⟩) hS h
/-- An operation that comes up alone: whatever it does; behind it S is shown anew. -/
theorem lane_alone {i : Nat} {o : Oper} {done ord : List Nat} {a : Act} {w : World} (ho : l[i]? = some o) (hr : laneAlone l done i = true) (hw : Region.wanted o (yielded l.toArray a.tmps) = true)
    (h : ∀ K : Act → World → Prop, (∀ a' w', S w' → (S w' → Lane P l S (NoPanic Q) (i :: done) ord a' w') → K a' w') → o.wp P a w K (NoPanic Q)) : Lane P l S (NoPanic Q) done (i :: ord) a w := by
  unfold laneAlone at hr
  refine wpAnyH_all (rs := [i]) (by simpa using hr) (by simp) fun j hj => ?_
  obtain rfl : j = i := by simpa using hj
  unfold wpOp
  have h2 : l.toArray[j]? = some o := by simpa using ho
  simp only [h2, hw, if_true]
  exact .inl (h _ fun a' w' hS hn => ⟨hS, hn hS⟩)
theorem held_mono {md : Region.Mode} {ops : Array Oper} {S' : World → Prop} (hS : ∀ w, S' w → S w) : ∀ (fuel : Nat) (listed : Array Bool) (a : Act) (w : World), wpAnyH P md ops Q S' fuel listed a w → wpAnyH P md ops Q S fuel listed a w
  | 0, _, _, _, h => h
  | fuel + 1, _, _, _, h => ⟨h.1, fun i hi => wpOp_mono (fun a' w' h' => ⟨hS _ h'.1, held_mono hS fuel _ a' w' h'.2⟩) (h.2 i hi)⟩
/-- From here on a narrower class: for what has come up meanwhile. -/
theorem lane_into {S' : World → Prop} {done ord : List Nat} {a : Act} {w : World} (hS : ∀ w, S' w → S w) (hw : S' w) (h : S' w → Lane P l S' (NoPanic Q) done ord a w) : Lane P l S (NoPanic Q) done ord a w :=
  held_mono hS _ _ _ _ (h hw)
/-- Two operations may come up: each is walked. -/
theorem lane_two {i j : Nat} {oi oj : Oper} {done ordI ordJ : List Nat} {a : Act} {w : World} (hoi : l[i]? = some oi) (hoj : l[j]? = some oj) (hr : (Region.ready .any l.toArray (cameUp l done) == [i, j]) = true) (hlen : ordI.length = ordJ.length)
    (hwi : Region.wanted oi (yielded l.toArray a.tmps) = true) (hwj : Region.wanted oj (yielded l.toArray a.tmps) = true)
    (hi : ∀ K : Act → World → Prop, (∀ a' w', S w' → (S w' → Lane P l S (NoPanic Q) (i :: done) ordI a' w') → K a' w') → oi.wp P a w K (NoPanic Q))
    (hj : ∀ K : Act → World → Prop, (∀ a' w', S w' → (S w' → Lane P l S (NoPanic Q) (j :: done) ordJ a' w') → K a' w') → oj.wp P a w K (NoPanic Q)) : Lane P l S (NoPanic Q) done (i :: ordI) a w := by
  refine wpAnyH_all (rs := [i, j]) (by simpa using hr) (by simp) fun k hk => ?_
  unfold wpOp
  rcases List.mem_cons.1 hk with rfl | hk
  · have h2 : l.toArray[k]? = some oi := by simpa using hoi
    simp only [h2, hwi, if_true]
    exact .inl (hi _ fun a' w' hS hn => ⟨hS, hn hS⟩)
  · obtain rfl : k = j := by simpa using hk
    have h2 : l.toArray[k]? = some oj := by simpa using hoj
    simp only [h2, hwj, if_true]
    refine .inl (hj _ fun a' w' hS hn => ⟨hS, ?_⟩)
    have := hn hS
    unfold Lane at this
    rw [← hlen] at this
    exact this
/-- What has come up, in whatever order. -/
theorem lane_perm {done done' ord : List Nat} {a : Act} {w : World} (hd : (cameUp l done == cameUp l done') = true) (h : Lane P l S (NoPanic Q) done' ord a w) : Lane P l S (NoPanic Q) done ord a w := by
  unfold Lane at *
  rw [eq_of_beq hd]; exact h
/-- An operation by its run: it yields a value, or none. -/
theorem wp_of_value {o : Oper} {a : Act} {w w' : World} {K : Act → World → Prop} {v : Value} (hr : (execOp a.eval o).run P w = .ok (.value v) w') (h : K (a.put o.dst v) w') : o.wp P a w K Q := by
  unfold Oper.wp; rw [hr]; exact h
theorem wp_of_skip {o : Oper} {a : Act} {w w' : World} {K : Act → World → Prop} (hr : (execOp a.eval o).run P w = .ok .skip w') (h : K (a.put o.dst undef) w') : o.wp P a w K Q := by
  unfold Oper.wp; rw [hr]; exact h
theorem exec_mapUpdate {o : Oper} {a : Act} {w w' : World} {t : TypeId} {m k x : Operand} {mv kv xv : Value} (ho : o.op = .mapUpdate t m k x) (hm : a.eval m = mv) (hk : a.eval k = kv) (hx : a.eval x = xv) (hr : (Instr.mapUpdate t mv kv xv).run P w = .ok () w') : (execOp a.eval o).run P w = .ok .skip w' := by
  unfold execOp; simp only [ho, hm, hk, hx, Sem.run_bind, hr, Result.andThen_ok, Sem.run_pure]
theorem exec_load {o : Oper} {a : Act} {w : World} {t : TypeId} {x : Operand} {xv v : Value} (ho : o.op = .load t x) (hx : a.eval x = xv) (hr : (Instr.loadAt t xv).run P w = .ok v w) : (execOp a.eval o).run P w = .ok (.value v) w := by
  unfold execOp; simp only [ho, hx, Sem.run_bind, hr, Result.andThen_ok, Sem.run_pure]
theorem exec_build {o : Oper} {a : Act} {w : World} {t : TypeId} {ps : Array (Nat × Operand)} {vs : Array (Nat × Value)} {v : Value} (ho : o.op = .build t ps) (hx : (ps.map fun (i, x) => (i, a.eval x)) = vs) (hr : (Instr.build t vs).run P w = .ok v w) : (execOp a.eval o).run P w = .ok (.value v) w := by
  unfold execOp; simp only [ho, hx, Sem.run_bind, hr, Result.andThen_ok, Sem.run_pure]
theorem exec_buildSlice {o : Oper} {a : Act} {w w' : World} {t : TypeId} {n : Nat} {ps : Array (Nat × Operand)} {vs : Array (Nat × Value)} {v : Value} (ho : o.op = .buildSlice t n ps) (hx : (ps.map fun (i, x) => (i, a.eval x)) = vs) (hr : (Instr.buildSlice t n vs).run P w = .ok v w') : (execOp a.eval o).run P w = .ok (.value v) w' := by
  unfold execOp; simp only [ho, hx, Sem.run_bind, hr, Result.andThen_ok, Sem.run_pure]
theorem exec_append {o : Oper} {a : Act} {w w' : World} {t u : TypeId} {s x : Operand} {sv xv v : Value} (ho : o.op = .call { callee := .builtin .append, args := #[s, x], argTypes := #[t, u] }) (hs : a.eval s = sv) (hx : a.eval x = xv) (hr : (Builtin.append_ #[t, u] o.type #[sv, xv]).run P w = .ok v w') : (execOp a.eval o).run P w = .ok (.value v) w' := by
  unfold execOp; simp only [ho, resolve, invoke, builtin, Sem.run_bind, Sem.run_pure, Result.andThen_ok, List.map_toArray, List.map_cons, List.map_nil, hs, hx, hr]
theorem exec_copy {o : Oper} {a : Act} {w w' : World} {t u : TypeId} {s x : Operand} {sv xv v : Value} (ho : o.op = .call { callee := .builtin .copy, args := #[s, x], argTypes := #[t, u] }) (hs : a.eval s = sv) (hx : a.eval x = xv) (hr : (Builtin.copy_ #[t, u] o.type #[sv, xv]).run P w = .ok v w') : (execOp a.eval o).run P w = .ok (.value v) w' := by
  unfold execOp; simp only [ho, resolve, invoke, builtin, Sem.run_bind, Sem.run_pure, Result.andThen_ok, List.map_toArray, List.map_cons, List.map_nil, hs, hx, hr]
end
end Go.Proofs.Ytlldkcelkgnalaa
