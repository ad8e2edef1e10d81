/-
  Arrays of bytes by value, of whatever bytes: laid, boxed, loaded, stored, copied into; each as a law at the operation, for the walk. 'sv s' is the value, 'arr s' its cells. No conditions but those that each law names.
-/
import Derived.Test.YticefepcoemkoaaDoorMem
import Derived.Deep.MidRow
import Derived.Deep.WholeRow
import Derived.Laws.IdiomCopy
import Derived.WalkSpells
namespace Go.Proofs.YticefepcoemkoaaDoor
set_option maxRecDepth 20000
open Go.ChangeShapes Go.WideShapes Go.ChangeAt Go.RowKit

def arr (s : List Int) : Array Value := (cl .u8 s).toArray
def sv (s : List Int) : Value := .agg (arr s)
theorem arr_size (s : List Int) : (arr s).size = s.length := by simp [arr, cl]
theorem arr_list (s : List Int) : (arr s).toList = cl .u8 s := rfl
theorem arr_one (s : List Int) : (arr s).all (·.oneCell') = true := Array.all_eq_true_iff_forall_mem.2 fun v hv => cl_one .u8 s v (by simpa [arr] using hv)
theorem arr_at {s : List Int} {j : Nat} {x : Int} (h : s[j]? = some x) : (arr s)[j]? = some (.int .u8 x) := by simp [arr, cl, h]

theorem setRow_boxed {w : World} {g : Nat} {old cs : Array Value} {t : TypeId} (h : w.heap[g]? = some (.cells old t (0, 0))) : w.setRow g cs = boxed w g cs t := by
  unfold World.setRow boxed
  congr 1
  apply Array.ext_getElem?
  intro i
  rw [Array.getElem?_modify, Array.getElem?_setIfInBounds]
  by_cases e : g = i
  · subst e
    rw [if_pos rfl, if_pos rfl, if_pos (Array.getElem?_eq_some_iff.1 h).1, h]; rfl
  · rw [if_neg e, if_neg e]
theorem boxed_new (w : World) (c c' : Array Value) (t t' : TypeId) : boxed (w.alloc (.cells c t)) w.heap.size c' t' = w.alloc (.cells c' t') := by
  unfold boxed World.alloc
  congr 1
  apply Array.ext_getElem?
  intro i
  rw [Array.getElem?_setIfInBounds]
  by_cases e : w.heap.size = i
  · subst e; simp
  · have e' : ¬ i = w.heap.size := fun h => e h.symm
    rw [if_neg e]; simp [Array.getElem?_push, e']

theorem boxed_at {w : World} {c c' : Array Value} {t t' : TypeId} {b : Nat} (h : b = w.heap.size) : boxed (w.alloc (.cells c t)) b c' t' = w.alloc (.cells c' t') := by subst h; exact boxed_new _ _ _ _ _
theorem alloc_at {w : World} {o : Obj} {b : Nat} (h : b = w.heap.size) : (w.alloc o).heap[b]? = some o := by subst h; exact alloc_block

section
variable {P : Program} {w : World} {ops : Array Oper} {rest : List Oper} {o : Oper} {a : Act} {Q : Exit → Act → World → Prop}
theorem wpList_arr_alloc (hg : o.guard = none) (ty : TypeId) (ho : o.op = .alloc ty) (s : List Int) (hz : ∀ w, (zeroValue ty).run P w = .ok (sv s) w)
    (h : wpList P ops Q rest (a.put o.dst (.pointer (some ⟨w.heap.size, 0, none⟩))) (w.alloc (.cells (arr s) ty))) : wpList P ops Q (o :: rest) a w := by
  refine wpList_plain hg fun K hK => ?_
  unfold Oper.wp
  simp only [execOp, ho, Instr.alloc, Sem.run_bind, hz, Result.andThen_ok, newVar, sv, Value.cells]
  simp [go_sem]
  exact hK _ _ h
theorem wpList_arr_box (hg : o.guard = none) (ty : TypeId) (x : Operand) (ho : o.op = .box ty x) (s : List Int) (hx : a.eval x = sv s)
    (h : wpList P ops Q rest (a.put o.dst (.pointer (some ⟨w.heap.size, 0, none⟩))) (w.alloc (.cells (arr s) ty))) : wpList P ops Q (o :: rest) a w := by
  refine wpList_plain hg fun K hK => ?_
  unfold Oper.wp
  simp only [execOp, ho, Instr.box, Sem.run_bind, hx, newVar, sv, Value.cells]
  simp [go_sem]
  exact hK _ _ h
theorem run_load_arr {b p : Nat} {ty e : TypeId} {s : List Int} {n : Nat} (hc : w.rangeAt b p (cl .u8 s)) (hu : P.underlying ty = some (.array n e)) (hi : (P.info? ty).map (·.size) = some n) (hs : s.length = n) :
    (Instr.loadAt ty (.pointer (some ⟨b, p, none⟩))).run P w = .ok (sv s) w :=
  run_loadAt_mid w b p ty (cl .u8 s) _ hc hu rfl (by rw [cl_length, hs]; exact hi)
theorem wpList_arr_load (hg : o.guard = none) (ty : TypeId) (x : Operand) (ho : o.op = .load ty x) (b p : Nat) (hx : a.eval x = .pointer (some ⟨b, p, none⟩)) (s : List Int) (n : Nat) (e : TypeId) (hu : P.underlying ty = some (.array n e)) (hi : (P.info? ty).map (·.size) = some n) (hs : s.length = n) (hc : w.rangeAt b p (cl .u8 s))
    (h : wpList P ops Q rest (a.put o.dst (sv s)) w) : wpList P ops Q (o :: rest) a w :=
  wpList_load_mid hg ty x ho b p hx (cl .u8 s) _ hc hu rfl (by rw [cl_length, hs]; exact hi) h
theorem range_arr {b : Nat} {s : List Int} {t : TypeId} {f : Nat × Nat} (h : w.heap[b]? = some (.cells (arr s) t f)) : w.rangeAt b 0 (cl .u8 s) := fun j v hv => by
  rw [Nat.zero_add, cell_of_row w b j _ t f h]
  simpa [arr] using hv
theorem run_store_arr {b : Nat} {ty t : TypeId} {old : Array Value} {s : List Int} {n : Nat} (hb : w.heap[b]? = some (.cells old t (0, 0))) (hi : (P.info? ty).map (·.size) = some n) (hs : s.length = n) (ho : old.size = n) :
    (Instr.storeAt ty (.pointer (some ⟨b, 0, none⟩)) (sv s)).run P w = .ok () (boxed w b (arr s) t) := by
  have := run_storeVar_row (P := P) w b t ty old (arr s) hb (by rw [arr_size, hs]; exact hi) (by rw [arr_size, ho, hs]) (arr_one s)
  simp only [Instr.storeAt, Instr.sureAddr, Sem.run_bind, Sem.run_pure, Result.andThen_ok, sv, this, setRow_boxed hb]
theorem wpList_arr_store (hg : o.guard = none) (ty : TypeId) (x y : Operand) (ho : o.op = .store ty x y) (b : Nat) (hx : a.eval x = .pointer (some ⟨b, 0, none⟩)) (s : List Int) (hy : a.eval y = sv s) (n : Nat) (hi : (P.info? ty).map (·.size) = some n) (hs : s.length = n) (t : TypeId) (old : Array Value) (hb : w.heap[b]? = some (.cells old t (0, 0))) (hold : old.size = n)
    (h : wpList P ops Q rest (a.put o.dst undef) (boxed w b (arr s) t)) : wpList P ops Q (o :: rest) a w := by
  refine wpList_plain hg fun K hK => ?_
  unfold Oper.wp execOp
  simp only [ho, hx, hy, Sem.run_bind, run_store_arr hb hi hs hold, Result.andThen_ok]
  exact hK _ _ h

theorem wpList_arr_store_new {W : World} {old : Array Value} {t : TypeId} (hg : o.guard = none) (ty : TypeId) (x y : Operand) (ho : o.op = .store ty x y) (b : Nat) (hx : a.eval x = .pointer (some ⟨b, 0, none⟩)) (hb : b = W.heap.size) (s : List Int) (hy : a.eval y = sv s) (n : Nat) (hi : (P.info? ty).map (·.size) = some n) (hs : s.length = n) (hold : old.size = n)
    (h : wpList P ops Q rest (a.put o.dst undef) (W.alloc (.cells (arr s) t))) : wpList P ops Q (o :: rest) a (W.alloc (.cells old t)) := by
  subst hb
  exact wpList_arr_store hg ty x y ho _ hx s hy n hi hs t old alloc_block hold (by rw [boxed_new]; exact h)
theorem wpList_agg_alloc (hg : o.guard = none) (ty : TypeId) (ho : o.op = .alloc ty) (cs : Array Value) (hz : ∀ w, (zeroValue ty).run P w = .ok (.agg cs) w)
    (h : wpList P ops Q rest (a.put o.dst (.pointer (some ⟨w.heap.size, 0, none⟩))) (w.alloc (.cells cs ty))) : wpList P ops Q (o :: rest) a w := by
  refine wpList_plain hg fun K hK => ?_
  unfold Oper.wp
  simp only [execOp, ho, Instr.alloc, Sem.run_bind, hz, Result.andThen_ok, newVar, Value.cells]
  simp [go_sem]
  exact hK _ _ h
theorem wpList_agg_box (hg : o.guard = none) (ty : TypeId) (x : Operand) (ho : o.op = .box ty x) (cs : Array Value) (hx : a.eval x = .agg cs)
    (h : wpList P ops Q rest (a.put o.dst (.pointer (some ⟨w.heap.size, 0, none⟩))) (w.alloc (.cells cs ty))) : wpList P ops Q (o :: rest) a w := by
  refine wpList_plain hg fun K hK => ?_
  unfold Oper.wp
  simp only [execOp, ho, Instr.box, Sem.run_bind, hx, newVar, Value.cells]
  simp [go_sem]
  exact hK _ _ h
theorem run_store_agg {b : Nat} {ty t : TypeId} {old cs : Array Value} (hb : w.heap[b]? = some (.cells old t (0, 0))) (hi : (P.info? ty).map (·.size) = some cs.size) (ho : old.size = cs.size) (h1 : cs.all (·.oneCell') = true) :
    (Instr.storeAt ty (.pointer (some ⟨b, 0, none⟩)) (.agg cs)).run P w = .ok () (boxed w b cs t) := by
  have := run_storeVar_row (P := P) w b t ty old cs hb hi ho h1
  simp only [Instr.storeAt, Instr.sureAddr, Sem.run_bind, Sem.run_pure, Result.andThen_ok, this, setRow_boxed hb]
theorem wpList_agg_store (hg : o.guard = none) (ty : TypeId) (x y : Operand) (ho : o.op = .store ty x y) (b : Nat) (hx : a.eval x = .pointer (some ⟨b, 0, none⟩)) (cs : Array Value) (hy : a.eval y = .agg cs) (hi : (P.info? ty).map (·.size) = some cs.size) (t : TypeId) (old : Array Value) (hb : w.heap[b]? = some (.cells old t (0, 0))) (hold : old.size = cs.size) (h1 : cs.all (·.oneCell') = true)
    (h : wpList P ops Q rest (a.put o.dst undef) (boxed w b cs t)) : wpList P ops Q (o :: rest) a w := by
  refine wpList_plain hg fun K hK => ?_
  unfold Oper.wp execOp
  simp only [ho, hx, hy, Sem.run_bind, run_store_agg hb hi hold h1, Result.andThen_ok]
  exact hK _ _ h
theorem wpList_agg_store_new {W : World} {old : Array Value} {t : TypeId} (hg : o.guard = none) (ty : TypeId) (x y : Operand) (ho : o.op = .store ty x y) (b : Nat) (hx : a.eval x = .pointer (some ⟨b, 0, none⟩)) (hb : b = W.heap.size) (cs : Array Value) (hy : a.eval y = .agg cs) (hi : (P.info? ty).map (·.size) = some cs.size) (hold : old.size = cs.size) (h1 : cs.all (·.oneCell') = true)
    (h : wpList P ops Q rest (a.put o.dst undef) (W.alloc (.cells cs t))) : wpList P ops Q (o :: rest) a (W.alloc (.cells old t)) := by
  subst hb
  exact wpList_agg_store hg ty x y ho _ hx cs hy hi t old alloc_block hold h1 (by rw [boxed_new]; exact h)
/-- What a function hands back through a variable of its own. -/
theorem ret_cell {fn : Func} {a : Act} {w : World} {i : Nat} {t : TypeId} {ad : Addr} {v : Value} {R : Ending → World → Prop} (hr : fn.results = #[.cell i t]) (ha : a.tmps.getD i undef = .pointer (some ad)) (hl : (loadVar t ad).run P w = .ok v w) (hd : a.defers = []) (hR : R (.returned v) w) : bodyPost P fn R .ret a w := by
  refine bodyPost_ret ?_ hd hR
  unfold results
  rw [Array.getD_eq_getD_getElem?] at ha
  simp [hr, asAddr, ha, hl]
theorem load_arr {b : Nat} {ty t e : TypeId} {s : List Int} {n : Nat} {f : Nat × Nat} (hb : w.heap[b]? = some (.cells (arr s) t f)) (hu : P.underlying ty = some (.array n e)) (hi : (P.info? ty).map (·.size) = some n) (hs : s.length = n) :
    (loadVar ty ⟨b, 0, none⟩).run P w = .ok (sv s) w :=
  run_loadVar_mid w b 0 ty (cl .u8 s) _ (range_arr hb) hu rfl (by rw [cl_length, hs]; exact hi)

/-- k bytes over the head of others. -/
def headed (k : Nat) (l s : List Int) : List Int := l.take k ++ s.drop k
theorem headed_length {k : Nat} {l s : List Int} (h : k ≤ l.length) (h2 : k ≤ s.length) : (headed k l s).length = s.length := by unfold headed; rw [List.length_append, List.length_take, List.length_drop]; omega
theorem setCells_arr {b : Nat} {t : TypeId} : ∀ (l : List Int) (i : Nat) (cur : Array Value) (w : World), w.heap[b]? = some (.cells cur t (0, 0)) → i + l.length ≤ cur.size →
    w.setCells b i (cl .u8 l) = boxed w b (cur.toList.take i ++ cl .u8 l ++ cur.toList.drop (i + l.length)).toArray t
  | [], i, cur, w, h, _ => by
    show w = _
    have e : (cur.toList.take i ++ cl .u8 [] ++ cur.toList.drop (i + ([] : List Int).length)).toArray = cur := by
      apply Array.ext'
      simp [cl]
    rw [e]
    exact boxed_self h
  | x :: r, i, cur, w, h, hl => by
    show (w.setCell ⟨b, i, none⟩ (.int .u8 x)).setCells b (i + 1) (cl .u8 r) = _
    have hw := boxed_self h
    have hlt : b < w.heap.size := (Array.getElem?_eq_some_iff.1 h).1
    rw [List.length_cons] at hl
    have e1 : w.setCell ⟨b, i, none⟩ (.int .u8 x) = boxed w b (cur.setIfInBounds i (.int .u8 x)) t := by
      conv => lhs; rw [hw]
      exact boxed_set
    rw [e1, setCells_arr r (i + 1) (cur.setIfInBounds i (.int .u8 x)) _ (boxed_block hlt) (by simp; omega)]
    have e2 : boxed (boxed w b (cur.setIfInBounds i (.int .u8 x)) t) b = boxed w b := by
      funext c t'
      unfold boxed
      simp
    rw [e2]
    congr 1
    apply Array.ext'
    simp only [Array.toList_setIfInBounds]
    rw [List.take_set, List.drop_set, if_pos (by omega), List.take_succ_eq_append_getElem (by simpa using (show i < cur.size by omega)), List.set_append, if_neg (by simp; omega)]
    have h3 : (List.take i cur.toList).length = i := by simp; omega
    rw [h3, Nat.sub_self]
    simp [cl, Nat.add_assoc, Nat.add_comm 1]
theorem run_copy_arr {dT sT ty e t : TypeId} {b dl dc sl sc B k : Nat} {A : Option Addr} {l s : List Int} (hu : P.underlying dT = some (.slice e)) (hs : (P.info? e).map (·.size) = some 1) (hb : w.heap[b]? = some (.cells (arr s) t (0, 0)))
    (hr : Rd w .u8 B A l) (hsl : l.length = sl) (hd : dl ≤ s.length) (hk : Nat.min sl dl = k) :
    (Builtin.copy_ #[dT, sT] ty #[.slice (some ⟨b, 0, none⟩) dl dc, .slice A sl sc]).run P w = .ok (goInt k) (boxed w b (arr (headed k l s)) t) := by
  have hself : boxed w b (arr s) t = w := (boxed_self hb).symm
  have hks : k ≤ s.length := by rw [← hk]; exact Nat.le_trans (Nat.min_le_right _ _) hd
  have hkl : k ≤ l.length := by rw [← hk, hsl]; exact Nat.min_le_left _ _
  rcases Nat.eq_zero_or_pos k with h0 | h0
  · subst h0
    rw [run_copy_none w dT sT ty e _ _ _ _ _ _ hu hs hk]
    rw [show headed 0 l s = s by simp [headed], hself]
    rfl
  · obtain ⟨a', rfl, _, hc⟩ := hr (fun e => by subst e; simp at hkl; omega)
    have hlen : (l.take k).length = k := by rw [List.length_take]; omega
    rw [run_copy_cells w dT sT ty e b 0 dl dc a' sl sc (cl .u8 (l.take k)) hu hs (by rw [cl_length, hlen, hk]) (fun j u hu' => by
        obtain ⟨y, hy, rfl⟩ := cl_at hu'
        rw [List.getElem?_take] at hy
        split at hy
        · exact hc j y hy
        · cases hy) (fun j hj => by
        rw [cl_length, hlen] at hj
        rw [Nat.zero_add, cell_of_row w b j _ t _ hb, arr_at (List.getElem?_eq_getElem (Nat.lt_of_lt_of_le hj hks))]; rfl) (fun j hj => by
        unfold World.frozen?
        simp [hb]) (cl_one _ _), setCells_arr (l.take k) 0 (arr s) w hb (by rw [arr_size, hlen]; omega)]
    rw [cl_length, hlen]
    congr 2
    apply Array.ext'
    simp only [List.take_zero, List.nil_append, arr_list, Nat.zero_add]
    unfold headed
    rw [cl_append]
    simp [cl]
theorem wpList_arr_copy (hg : o.guard = none) (x y : Operand) (dT sT : TypeId) (ho : o.op = .call { callee := .builtin .copy, args := #[x, y], argTypes := #[dT, sT] }) (e : TypeId) (hu : P.underlying dT = some (.slice e)) (hs : (P.info? e).map (·.size) = some 1)
    (b dl dc : Nat) (hx : a.eval x = .slice (some ⟨b, 0, none⟩) dl dc) (A : Option Addr) (sl sc : Nat) (hy : a.eval y = .slice A sl sc) (s : List Int) (t : TypeId) (hb : w.heap[b]? = some (.cells (arr s) t (0, 0))) (B : Nat) (l : List Int)
    (hr : Rd w .u8 B A l) (hsl : l.length = sl) (hd : dl ≤ s.length) (k : Nat) (hk : Nat.min sl dl = k)
    (h : wpList P ops Q rest (a.put o.dst (goInt k)) (boxed w b (arr (headed k l s)) t)) : wpList P ops Q (o :: rest) a w := by
  refine wpList_plain hg fun K hK => ?_
  unfold Oper.wp execOp
  simp only [ho, resolve, invoke, builtin, Sem.run_bind, Sem.run_pure, Result.andThen_ok, List.map_toArray, List.map_cons, List.map_nil, hx, hy, run_copy_arr hu hs hb hr hsl hd hk]
  exact hK _ _ h
end
end Go.Proofs.YticefepcoemkoaaDoor
