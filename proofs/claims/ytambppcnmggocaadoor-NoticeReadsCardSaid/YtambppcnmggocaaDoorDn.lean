/-
  Notices in a seat without orders: their numbers, their bytes, order.Put and order.Get, notice.Right and the law's own words. No conditions but those that each law names.
-/
import Derived.Test.YtambppcnmggocaaDoorPkPut
import Derived.Test.YtambppcnmggocaaDoorPkStep
import Derived.Test.YtambppcnmggocaaDoorLane
import Derived.Test.YtambppcnmggocaaDoorRow
import Derived.Laws.Rows
import Derived.Deep.MidRow
import Derived.Lib.Hide
namespace Go.Proofs.YtambppcnmggocaaDoor
set_option maxRecDepth 20000
open Go.ChangeShapes Go.WideShapes Go.ChangeAt Go.RowKit

theorem u64w (n : Int) : IntKind.u64.wrap n = n % 18446744073709551616 := by simp [IntKind.wrap, IntKind.bits, IntKind.signed]
theorem u64t (n m : Int) : (IntKind.u64.wrap n).tmod m = n % 18446744073709551616 % m := by
  rw [u64w, Int.tmod_eq_emod_of_nonneg (Int.emod_nonneg _ (by omega))]

/-- A notice, by its fields. -/
structure Nv where
  k : Int
  s : Int
  c : Int
  t : Int
  a : Int
  v : Int
def Nv.cs (n : Nv) : List Value := [.int .u8 n.k, .int .i64 n.s, .int .i64 n.c, .int .i64 n.t, .int .i64 n.a, .int .u8 n.v]
def Nv.val (n : Nv) : Value := .agg #[.int .u8 n.k, .int .i64 n.s, .int .i64 n.c, .int .i64 n.t, .int .i64 n.a, .int .u8 n.v]
/-- A notice as it may come in. -/
def Nv.Wf (n : Nv) : Prop := (0 ≤ n.k ∧ n.k < 256) ∧ (-9223372036854775808 ≤ n.s ∧ n.s ≤ 9223372036854775807) ∧ (-9223372036854775808 ≤ n.c ∧ n.c ≤ 9223372036854775807) ∧ (-9223372036854775808 ≤ n.t ∧ n.t ≤ 9223372036854775807) ∧ (-9223372036854775808 ≤ n.a ∧ n.a ≤ 9223372036854775807) ∧ (0 ≤ n.v ∧ n.v < 256)
/-- May its numbers be? -/
def Nv.Key (n : Nv) : Prop := 0 ≤ n.s ∧ n.s < 32 ∧ 0 ≤ n.c ∧ n.c ≤ 3652058 ∧ 0 ≤ n.t ∧ n.t ≤ 100 ∧ 0 ≤ n.a ∧ n.a ≤ 1125899906842624
instance Nv.keyDec (n : Nv) : Decidable n.Key := by unfold Nv.Key; infer_instance
/-- May it be one that asks or answers? An answer? -/
def Nv.Ok (n : Nv) : Prop := 1 ≤ n.k ∧ n.k ≤ 5 ∧ 0 ≤ n.v ∧ n.v ≤ 3 ∧ n.Key
instance Nv.okDec (n : Nv) : Decidable n.Ok := by unfold Nv.Ok; infer_instance
def Nv.zero : Nv := ⟨0, 0, 0, 0, 0, 0⟩
set_option maxHeartbeats 400000 in
theorem rsub_yes (n : Int) (w : World) (h0 : 0 ≤ n) (h1 : n < 32) : Calls Tryd.prog 38 #[.int .i64 n] w fun e w' => e = .returned (.bool true) ∧ w = w' := by
  go_enter Tryd.func38, Tryd.ntmps38
  go_wp2
  go_ret
  exact ⟨rfl, rfl⟩
set_option maxHeartbeats 400000 in
theorem rsub_no (n : Int) (w : World) (h : n < 0 ∨ 32 ≤ n) : Calls Tryd.prog 38 #[.int .i64 n] w fun e w' => e = .returned (.bool false) ∧ w = w' := by
  rcases Int.lt_or_le n 0 with h1 | h1
  · have t : decide (0 ≤ n) = false := by simp; omega
    go_enter Tryd.func38, Tryd.ntmps38
    go_wp2
    go_ret
    exact ⟨rfl, rfl⟩
  · have t : decide (n < 32) = false := by simp; omega
    go_enter Tryd.func38, Tryd.ntmps38
    go_wp2
    go_ret
    exact ⟨rfl, rfl⟩

/-- The ways that a notice's numbers can go. -/
theorem key_ways {P : Prop} (s c t a : Int) (h1 : s < 0 → P) (h2 : 0 ≤ s → 32 ≤ s → P) (h3 : 0 ≤ s → s < 32 → c < 0 → P) (h4 : 0 ≤ s → s < 32 → 0 ≤ c → 3652058 < c → P) (h5 : 0 ≤ s → s < 32 → 0 ≤ c → c ≤ 3652058 → t < 0 → P)
    (h6 : 0 ≤ s → s < 32 → 0 ≤ c → c ≤ 3652058 → 0 ≤ t → 100 < t → P) (h7 : 0 ≤ s → s < 32 → 0 ≤ c → c ≤ 3652058 → 0 ≤ t → t ≤ 100 → a < 0 → P) (h8 : 0 ≤ s → s < 32 → 0 ≤ c → c ≤ 3652058 → 0 ≤ t → t ≤ 100 → 0 ≤ a → 1125899906842624 < a → P)
    (h9 : 0 ≤ s → s < 32 → 0 ≤ c → c ≤ 3652058 → 0 ≤ t → t ≤ 100 → 0 ≤ a → a ≤ 1125899906842624 → P) : P := by
  by_cases c1 : s < 0
  · exact h1 c1
  by_cases c2 : 32 ≤ s
  · exact h2 (by omega) c2
  by_cases c3 : c < 0
  · exact h3 (by omega) (by omega) c3
  by_cases c4 : 3652058 < c
  · exact h4 (by omega) (by omega) (by omega) c4
  by_cases c5 : t < 0
  · exact h5 (by omega) (by omega) (by omega) (by omega) c5
  by_cases c6 : 100 < t
  · exact h6 (by omega) (by omega) (by omega) (by omega) (by omega) c6
  by_cases c7 : a < 0
  · exact h7 (by omega) (by omega) (by omega) (by omega) (by omega) (by omega) c7
  by_cases c8 : 1125899906842624 < a
  · exact h8 (by omega) (by omega) (by omega) (by omega) (by omega) (by omega) (by omega) c8
  · exact h9 (by omega) (by omega) (by omega) (by omega) (by omega) (by omega) (by omega) (by omega)

set_option maxHeartbeats 1000000 in
theorem okey_any (k s c t a v : Int) (w : World) :
    Calls Tryd.prog 28 #[.agg #[.int .u8 k, .int .i64 s, .int .i64 c, .int .i64 t, .int .i64 a, .int .u8 v]] w fun x w' => x = .returned (.bool (decide (Nv.Key ⟨k, s, c, t, a, v⟩))) ∧ Below w.heap.size w w' := by
  refine key_ways s c t a ?_ ?_ ?_ ?_ ?_ ?_ ?_ ?_ ?_
  all_goals
    intros
    first | (rw [show decide (Nv.Key ⟨k, s, c, t, a, v⟩) = true from decide_eq_true (by unfold Nv.Key; dsimp only; omega)]) | (rw [show decide (Nv.Key ⟨k, s, c, t, a, v⟩) = false from decide_eq_false (by unfold Nv.Key; dsimp only; omega)])
    try have d3 : decide (0 ≤ c) = false := by simp; omega
    try have d4 : decide (c ≤ 3652058) = false := by simp; omega
    try have d5 : decide (0 ≤ t) = false := by simp; omega
    try have d6 : decide (t ≤ 100) = false := by simp; omega
    try have d7 : decide (0 ≤ a) = false := by simp; omega
    try have d8 : decide (a ≤ 1125899906842624) = false := by simp; omega
    go_enter Tryd.func28, Tryd.ntmps28
    go_wp2_with (go_at_call 38; (first | refine (rsub_yes _ _ (by omega) (by omega)).mono ?_ | refine (rsub_no _ _ (by omega)).mono ?_); rintro e w' ⟨rfl, rfl⟩)
    go_ret
    exact ⟨rfl, by go_grown⟩

section
variable {w : World} {n m : Nat} {o o' : Obj} {cs cs' : Array Value} {t : TypeId}
theorem alloc_at (h : n = w.heap.size) : (w.alloc o).heap[n]? = some o := by rw [h]; exact alloc_block
theorem alloc_old (h : n < w.heap.size) (k : w.heap[n]? = some o') : (w.alloc o).heap[n]? = some o' := (alloc_block_old h).trans k
theorem boxed_at (h : n < w.heap.size) : (boxed w n cs t).heap[n]? = some (.cells cs t (0, 0)) := boxed_block h
theorem boxed_old (h : m ≠ n) (k : w.heap[m]? = some o') : (boxed w n cs t).heap[m]? = some o' := (boxed_block_other h).trans k
theorem drew_old (k : w.heap[m]? = some o') : w.drew.heap[m]? = some o' := k
theorem boxed_again : boxed (boxed w n cs t) n cs' t = boxed w n cs' t := by
  unfold boxed
  congr 1
  apply Array.ext_getElem?
  intro i
  simp only [Array.getElem?_setIfInBounds, Array.size_setIfInBounds]
  by_cases e : n = i <;> simp [e]
theorem boxed_cell_lt {i : Nat} (h : m < n) : (boxed w n cs t).cell? ⟨m, i, none⟩ = w.cell? ⟨m, i, none⟩ := boxed_cell_other (by omega)
theorem boxed_cell_gt {i : Nat} (h : n < m) : (boxed w n cs t).cell? ⟨m, i, none⟩ = w.cell? ⟨m, i, none⟩ := boxed_cell_other (by omega)
theorem boxed_frozen_lt {i : Nat} (h : m < n) : (boxed w n cs t).frozen? ⟨m, i, none⟩ = w.frozen? ⟨m, i, none⟩ := boxed_frozen_other (by omega)
theorem boxed_frozen_gt {i : Nat} (h : n < m) : (boxed w n cs t).frozen? ⟨m, i, none⟩ = w.frozen? ⟨m, i, none⟩ := boxed_frozen_other (by omega)
theorem boxed_set_lt {i : Nat} {v : Value} (h : m < n) : (boxed w n cs t).setCell ⟨m, i, none⟩ v = boxed (w.setCell ⟨m, i, none⟩ v) n cs t := boxed_set_other (by omega)
theorem boxed_set_gt {i : Nat} {v : Value} (h : n < m) : (boxed w n cs t).setCell ⟨m, i, none⟩ v = boxed (w.setCell ⟨m, i, none⟩ v) n cs t := boxed_set_other (by omega)
attribute [simp, go_sem] boxed_again
attribute [simp, go_sem] boxed_cell_lt boxed_cell_gt boxed_frozen_lt boxed_frozen_gt boxed_set_lt boxed_set_gt
theorem row_boxed (h : w.heap[n]? = some (.cells cs t (0, 0))) : w.setRow n cs' = boxed w n cs' t := by
  unfold World.setRow boxed
  congr 1
  apply Array.ext_getElem?
  intro i
  rw [Array.getElem?_modify, Array.getElem?_setIfInBounds]
  by_cases e : n = i
  · subst e
    rw [if_pos rfl, if_pos rfl, if_pos (Array.getElem?_eq_some_iff.1 h).1, h]; rfl
  · simp [e]
end

section
variable {P : Program} {ops : Array Oper} {Q : Exit → Act → World → Prop} {a : Act} {w : World} {rest : List Oper} {o : Oper}
/-- A whole struct out of its block, in one step. -/
theorem wl_load {t : TypeId} {x : Operand} {g m : Nat} {cs : Array Value} {d : TypeDesc} {fr : Nat × Nat} (hu : P.underlying t = some d) (hd : (match d with | .struct _ | .array _ _ => true | _ => false) = true) (hi : (P.info? t).map (·.size) = some m)
    (ho : o.op = .load t x) (hw : Region.wanted o (yielded ops a.tmps) = true) (hx : a.eval x = .pointer (some ⟨g, 0, none⟩)) (hg : w.heap[g]? = some (.cells cs t fr))
    (hs : cs.size = m) (h : wpList P ops Q rest (a.put o.dst (.agg cs)) w) : wpList P ops Q (o :: rest) a w := by
  refine wpList_step fun K hK => ?_
  rw [if_pos hw]
  exact wp_load_row t x ho g hx t cs fr d hg hu hd (by rw [hi, hs]) (hK _ _ h)
/-- A whole struct into its block, in one step. -/
theorem wl_store {t : TypeId} {x y : Operand} {g m : Nat} {cs cs' : Array Value} (hi : (P.info? t).map (·.size) = some m)
    (ho : o.op = .store t x y) (hw : Region.wanted o (yielded ops a.tmps) = true) (hx : a.eval x = .pointer (some ⟨g, 0, none⟩)) (hy : a.eval y = .agg cs') (hg : w.heap[g]? = some (.cells cs t (0, 0)))
    (hc : cs.size = m) (hc' : cs'.size = m) (h1 : cs'.all (·.oneCell') = true) (h : wpList P ops Q rest (a.put o.dst undef) (boxed w g cs' t)) : wpList P ops Q (o :: rest) a w := by
  refine wpList_step fun K hK => ?_
  rw [if_pos hw]
  refine wp_store_row t x y ho g cs' hx hy t cs hg (by rw [hi, hc']) (by rw [hc, hc']) h1 (hK _ _ ?_)
  rw [row_boxed hg]
  exact h
end
instance nvEq (x y : Nv) : Decidable (x = y) := decidable_of_iff (x.k = y.k ∧ x.s = y.s ∧ x.c = y.c ∧ x.t = y.t ∧ x.a = y.a ∧ x.v = y.v) (by cases x; cases y; simp)
theorem info6 : (Tryd.prog.info? 23).map (·.size) = some 6 := by kernel_rfl
theorem ldn {w : World} {g : Nat} {cs : Array Value} {fr : Nat × Nat} (hg : w.heap[g]? = some (.cells cs 23 fr)) (hs : cs.size = 6) :
    (Instr.loadAt 23 (.pointer (some ⟨g, 0, none⟩))).run Tryd.prog w = .ok (.agg cs) w := by
  have h := run_loadVar_row (P := Tryd.prog) w g _ 23 cs fr _ hg Tryd.underlying23 rfl (by rw [hs]; exact info6)
  simp only [Instr.loadAt, Instr.sureAddr, Sem.run_bind, Sem.run_pure, Result.andThen_ok, h]

theorem eq_chain {c : Prop} [Decidable c] {X : Result Bool} {b : Bool} {w : World} (h : X = .ok b w) : (if c then X else .ok false w) = .ok (decide c && b) w := by
  by_cases hc : c
  · rw [if_pos hc, h]; simp [hc]
  · rw [if_neg hc]; simp [hc]
set_option maxHeartbeats 1000000 in
theorem eq6 (x y : Nv) (w : World) : (Op.equalIn 10000 23 x.val y.val).run Tryd.prog w = .ok (decide (x = y)) w := by
  obtain ⟨K, S, C, T, M, V⟩ := x
  obtain ⟨K', S', C', T', M', V'⟩ := y
  dsimp only [Nv.val]
  have e0 : (decide (Nv.mk K S C T M V = Nv.mk K' S' C' T' M' V')) = (decide (K = K') && (decide (S = S') && (decide (C = C') && (decide (T = T') && (decide (M = M') && (decide (V = V') && true)))))) := by
    rw [Bool.eq_iff_iff]
    simp only [decide_eq_true_eq, Nv.mk.injEq, Bool.and_eq_true, and_true]
  rw [e0]
  clear e0
  go_simp
  iterate 5 apply eq_chain
  by_cases h : V = V' <;> simp [h]

theorem exec_eql6 {o : Oper} {a : Act} {x y : Operand} {ty : TypeId} {v v' : Nv} (ho : o.op = .binOp .eql 23 x y ty) (hx : a.eval x = v.val) (hy : a.eval y = v'.val) (w : World) :
    (execOp a.eval o).run Tryd.prog w = .ok (.value (.bool (decide (v = v')))) w := by
  have he := eq6 v v' w
  unfold execOp
  simp only [ho, hx, hy]
  unfold Nv.val at he ⊢
  have hg := fun xs ys => run_eqGuard_agg (P := Tryd.prog) w .eql 23 x y xs ys Tryd.eqGuardType23
  simp only [Sem.run_bind, hg, Result.andThen_ok, run_eql_struct, he, Sem.run_pure]

theorem exec_eql6' {o : Oper} {a : Act} {x y : Operand} {ty : TypeId} {v v' : Nv} {r : Bool} (hr : decide (v = v') = r) (ho : o.op = .binOp .eql 23 x y ty) (hx : a.eval x = v.val) (hy : a.eval y = v'.val) (w : World) :
    (execOp a.eval o).run Tryd.prog w = .ok (.value (.bool r)) w := by subst hr; exact exec_eql6 ho hx hy w
theorem put_lit (w : World) (R g : Nat) (l : List Int) (cs : Array Value) (ns : List Int) (m c B : Nat) (hB : B = w.heap.size) (hc : cs.toList = cl .i64 ns) (hm : ns.length = m) (h : PB w R g l) (hl : l.length ≤ 100000) (hn : ns.length ≤ 1000) (hi : I64 ns) :
    Calls Tryd.prog 26 #[.pointer (some ⟨g, 0, none⟩), .slice (some ⟨B, 0, none⟩) m c] (w.alloc (.cells cs 2)) (PutP w R g (l ++ Pk.encs ns)) := by
  subst hm hB
  have hR : R ≤ w.heap.size := by have := h.lt; omega
  refine (put_any _ R g l _ c ns (h.alloc _) (fun _ => ⟨_, rfl, .inr ⟨_, alloc_block⟩, lit_cells w cs .i64 ns 2 (0, 0) hc⟩) hl hn hi).mono fun e w' ⟨he, hp⟩ => ⟨he, hp.of_alloc hR⟩

/-- A notice's bytes. -/
def Nv.bytes (n : Nv) : List Int := Pk.encs [n.k, n.s, n.c, n.t, n.a, n.v]
theorem Nv.Ok.i64 {n : Nv} (h : n.Ok) : I64 [n.k, n.s, n.c, n.t, n.a, n.v] := fun x hx => by
  obtain ⟨h1, h2, h3, h4, h5, h6, h7, h8, h9, h10, h11, h12⟩ := h
  simp only [List.mem_cons, List.not_mem_nil, or_false] at hx
  rcases hx with rfl | rfl | rfl | rfl | rfl | rfl <;> omega

set_option maxHeartbeats 2000000 in
theorem oput_any (w : World) (R b : Nat) (ls : List Int) (K S C T M V : Int) (h : PB w R b ls) (hl : ls.length ≤ 90000) (hi : I64 [K, S, C, T, M, V]) :
    Calls Tryd.prog 13 #[.pointer (some ⟨b, 0, none⟩), .agg #[.int .u8 K, .int .i64 S, .int .i64 C, .int .i64 T, .int .i64 M, .int .u8 V]] w fun x w' => x = .returned (.tuple #[]) ∧ Put w R b (ls ++ Pk.encs [K, S, C, T, M, V]) w' := by
  have hR : R ≤ w.heap.size := by have := h.lt; omega
  have hwk : IntKind.i64.wrap K = K := by have := hi K (by simp); simp only [IntKind.wrap_i64]; omega
  have hwv : IntKind.i64.wrap V = V := by have := hi V (by simp); simp only [IntKind.wrap_i64]; omega
  have HB := Lib.hid (h.alloc (.cells #[.int .u8 K, .int .i64 S, .int .i64 C, .int .i64 T, .int .i64 M, .int .u8 V] 23))
  have HI := Lib.hid hi
  clear h hi
  go_enter Tryd.func13, Tryd.ntmps13
  go_wp2_with (fail)
  refine (put_lit _ R b ls #[.int .i64 K, .int .i64 S, .int .i64 C, .int .i64 T, .int .i64 M, .int .i64 V] [K, S, C, T, M, V] 6 6 (w.heap.size + 1) (by simp) rfl rfl HB.out (by omega) (by simp) HI.out).mono ?_
  rintro x w1 ⟨rfl, hp⟩
  go_wp2
  go_end0
  exact ⟨rfl, hp.of_alloc hR⟩

theorem owned_back {w w1 w' : World} {l : List Int} {e : Ending} (hb : Below w.heap.size w w1) (h : Owned w1 l e w') : Owned w l e w' := by
  obtain ⟨A, c, rfl, ho, hb2, h1, h2⟩ := h
  exact ⟨A, c, rfl, own_more ho hb.size, hb.trans (hb2.mono hb.size), h1, h2⟩
/-- The law's notice that may be, of layer 11. -/
def Nv.nearA (n : Nv) : Nv := ⟨1 + n.k % 5, n.s % 32, n.c % 18446744073709551616 % 3652059, n.t % 18446744073709551616 % 101, n.a % 1125899906842624, n.v % 4⟩
theorem Nv.nearA_ok (n : Nv) : n.nearA.Ok := by
  unfold Nv.nearA Nv.Ok Nv.Key
  dsimp only
  omega
set_option maxHeartbeats 1000000 in
theorem nneara_any (K S C T M V : Int) (w : World) (wk : 0 ≤ K ∧ K < 256) (wv : 0 ≤ V) :
    Calls Tryd.prog 6 #[.agg #[.int .u8 K, .int .i64 S, .int .i64 C, .int .i64 T, .int .i64 M, .int .u8 V]] w fun x w' => x = .returned (Nv.nearA ⟨K, S, C, T, M, V⟩).val ∧ Below w.heap.size w w' := by
  obtain ⟨wk0, wk1⟩ := wk
  have ev := Int.tmod_eq_emod_of_nonneg (b := 4) wv
  have es : wrap64 ((IntKind.u64.wrap S).tmod 32) = S % 32 := by rw [u64t]; unfold wrap64; omega
  have ec : wrap64 ((IntKind.u64.wrap C).tmod 3652059) = C % 18446744073709551616 % 3652059 := by rw [u64t]; unfold wrap64; omega
  have et : wrap64 ((IntKind.u64.wrap T).tmod 101) = T % 18446744073709551616 % 101 := by rw [u64t]; unfold wrap64; omega
  have ea : wrap64 ((IntKind.u64.wrap M).tmod 1125899906842624) = M % 1125899906842624 := by rw [u64t]; unfold wrap64; omega
  go_enter Tryd.func6, Tryd.ntmps6
  go_wp2
  refine bodyPost_ret (v := (Nv.nearA ⟨K, S, C, T, M, V⟩).val) ?_ rfl ⟨rfl, by go_grown⟩
  simp [results, Tryd.results6, go_sem, es, ec, et, ea, Nv.nearA, Nv.val]

/-- To whom a notice goes. -/
def Nv.party (n : Nv) : Int := if n.v ≠ 0 then 3 else if n.k = 1 ∨ n.k = 2 then 0 else if n.k = 5 then 2 else 1
set_option maxHeartbeats 1000000 in
theorem party_any (K S C T M V : Int) (w : World) :
    Calls Tryd.prog 24 #[.agg #[.int .u8 K, .int .i64 S, .int .i64 C, .int .i64 T, .int .i64 M, .int .u8 V]] w fun x w' => x = .returned (.int .u8 (Nv.party ⟨K, S, C, T, M, V⟩)) ∧ Below w.heap.size w w' := by
  by_cases hv : V = 0
  · subst hv
    by_cases h : K = 1 ∨ K = 2 ∨ K = 5
    · rcases h with rfl | rfl | rfl
      all_goals
        go_enter Tryd.func24, Tryd.ntmps24
        go_wp2
        go_ret
        exact ⟨rfl, by go_grown⟩
    · have d1 : (K == 1) = false := by rw [beq_eq_false_iff_ne]; omega
      have d2 : (K == 2) = false := by rw [beq_eq_false_iff_ne]; omega
      have d5 : (K == 5) = false := by rw [beq_eq_false_iff_ne]; omega
      rw [show Nv.party ⟨K, S, C, T, M, 0⟩ = 1 by unfold Nv.party; rw [if_neg (by simp), if_neg (by dsimp only; omega), if_neg (by dsimp only; omega)]]
      clear h
      go_enter Tryd.func24, Tryd.ntmps24
      go_wp2
      go_ret
      exact ⟨rfl, by go_grown⟩
  · have d : (V != 0) = true := by simpa using hv
    rw [show Nv.party ⟨K, S, C, T, M, V⟩ = 3 by unfold Nv.party; rw [if_pos hv]]
    clear hv
    go_enter Tryd.func24, Tryd.ntmps24
    go_wp2
    go_ret
    exact ⟨rfl, by go_grown⟩
set_option maxHeartbeats 1000000 in
theorem answer_any (K S C T M V v : Int) (w : World) :
    Calls Tryd.prog 25 #[.agg #[.int .u8 K, .int .i64 S, .int .i64 C, .int .i64 T, .int .i64 M, .int .u8 V], .int .u8 v] w fun x w' => x = .returned (.agg #[.int .u8 K, .int .i64 S, .int .i64 C, .int .i64 T, .int .i64 M, .int .u8 v]) ∧ Below w.heap.size w w' := by
  go_enter Tryd.func25, Tryd.ntmps25
  go_wp2
  refine bodyPost_ret (v := .agg #[.int .u8 K, .int .i64 S, .int .i64 C, .int .i64 T, .int .i64 M, .int .u8 v]) ?_ rfl ⟨rfl, by go_grown⟩
  simp [results, Tryd.results25, go_sem]
set_option maxHeartbeats 2000000 in
theorem nright_any (K S C T M V : Int) (w : World) (wV : 0 ≤ V) :
    Calls Tryd.prog 15 #[.agg #[.int .u8 K, .int .i64 S, .int .i64 C, .int .i64 T, .int .i64 M, .int .u8 V]] w fun x w' => x = .returned (.bool (decide (Nv.Ok ⟨K, S, C, T, M, V⟩))) ∧ Below w.heap.size w w' := by
  by_cases h : 1 ≤ K ∧ K ≤ 5 ∧ V ≤ 3
  · obtain ⟨h1, h2, h4⟩ := h
    rw [show decide (Nv.Ok ⟨K, S, C, T, M, V⟩) = decide (Nv.Key ⟨K, S, C, T, M, V⟩) by rw [decide_eq_decide]; unfold Nv.Ok; exact ⟨fun h => h.2.2.2.2, fun h => ⟨h1, h2, wV, h4, h⟩⟩]
    generalize hq : decide (Nv.Key ⟨K, S, C, T, M, V⟩) = q
    have HQ := Lib.hid hq
    clear hq
    go_enter Tryd.func15, Tryd.ntmps15
    go_wp2_with (go_at_call 28; refine (okey_any _ _ _ _ _ _ _).mono ?_; rw [HQ.out]; rintro e w' ⟨rfl, hb⟩)
    go_ret
    exact ⟨rfl, ((Below.refl _ _).alloc (Nat.le_refl _) _).trans (hb.mono (by simp))⟩
  · rw [show decide (Nv.Ok ⟨K, S, C, T, M, V⟩) = false from decide_eq_false (fun g => h ⟨g.1, g.2.1, g.2.2.2.1⟩)]
    have H : K < 1 ∨ 1 ≤ K ∧ 5 < K ∨ 1 ≤ K ∧ K ≤ 5 ∧ 3 < V := by omega
    clear h
    rcases H with h | ⟨_, h⟩ | ⟨_, _, h⟩
    all_goals
      try have d1 : decide (1 ≤ K) = false := decide_eq_false (by omega)
      try have d2 : decide (K ≤ 5) = false := decide_eq_false (by omega)
      try have d4 : decide (V ≤ 3) = false := decide_eq_false (by omega)
      go_enter Tryd.func15, Tryd.ntmps15
      go_wp2
      go_ret
      exact ⟨rfl, by go_grown⟩
set_option maxHeartbeats 2000000 in
theorem ntawake_any (w : World) : Calls Tryd.prog 11 #[] w fun e w' => e = .returned (.bool true) ∧ Below w.heap.size w w' := by
  go_enter Tryd.func11, Tryd.ntmps11
  go_wp2_with (fail)
  refine (party_any 1 1 0 1 5 0 _).mono ?_
  rintro x w1 ⟨rfl, hb1⟩
  obtain ⟨hw1, s1, e1⟩ := keep0 hb1
  rw [e1]
  have HW1 := Lib.hid hw1
  clear e1 hb1 hw1
  go_wp2_with (fail)
  refine (answer_any 1 1 0 1 5 0 1 _).mono ?_
  rintro x w2 ⟨rfl, hb2⟩
  go_wp2_with (fail)
  refine (party_any 1 1 0 1 5 1 _).mono ?_
  rintro x w3 ⟨rfl, hb3⟩
  have hw3 : Below w.heap.size w w3 := (boxed_below HW1.out (Nat.le_refl _)).trans ((hb2.trans (hb3.mono hb2.size)).mono (by rw [boxed_size]; exact Nat.le_of_lt s1))
  go_wp2
  go_ret
  exact ⟨rfl, hw3⟩

theorem GB.more {w w' : World} {b : Nat} {l : List Int} {f : Int} (h : GB w b l f) (hb : Below w.heap.size w w') : GB w' b l f := h.kept fun i hi => hb.block i (by have := h.lt; omega)
set_option maxHeartbeats 1000000 in
theorem getsub_any (w : World) (g : Nat) (l : List Int) (f : Int) (h : GB w g l f) :
    Calls Tryd.prog 34 #[.pointer (some ⟨g, 0, none⟩)] w (fun e w' => ∃ n l' f', e = .returned (.int .i64 n) ∧ Pk.Step 0 31 l f n l' f' ∧ w.grownBy w' (some g) ∧ GB w' g l' f') := by
  have H := Lib.hid h
  clear h
  go_enter Tryd.func34, Tryd.ntmps34
  go_wp2_with (fail)
  refine (get_any _ _ _ _ _ _ H.out).mono ?_
  rintro e w1 ⟨n, l', f', rfl, hs, hg, hb⟩
  have HS := Lib.hid hs
  have HG : Hid (w.grownBy w1 (some g)) := Lib.hid hg
  have HB := Lib.hid hb
  clear hs hg hb
  go_wp2
  go_ret
  exact ⟨n, l', f', rfl, HS.out, HG.out, HB.out⟩

/-- Six numbers out of a box. -/
def Gets (b : List (Int × Int)) (l : List Int) (f : Int) (ns : List Int) (l' : List Int) (f' : Int) : Prop :=
  match b, ns with
  | [], [] => l' = l ∧ f' = f
  | (lo, hi) :: b, n :: ns => ∃ l1 f1, Pk.Step lo hi l f n l1 f1 ∧ Gets b l1 f1 ns l' f'
  | _, _ => False
theorem Gets.fault {b : List (Int × Int)} : ∀ {l : List Int} {f : Int} {ns l' : List Int} {f' : Int}, Gets b l f ns l' f' → f ≠ 0 → f' = f := by
  induction b with
  | nil => intro l f ns l' f' h _; cases ns with
    | nil => exact h.2
    | cons => exact h.elim
  | cons x b ih => intro l f ns l' f' h hf; cases ns with
    | nil => exact h.elim
    | cons n ns =>
      obtain ⟨l1, f1, h1, h2⟩ := h
      obtain ⟨_, _, rfl⟩ := h1.fault hf
      exact ih h2 hf
theorem Gets.mem {b : List (Int × Int)} : ∀ {l : List Int} {f : Int} {ns l' : List Int} {f' : Int}, Gets b l f ns l' f' → ∀ x ∈ l', x ∈ l := by
  induction b with
  | nil => intro l f ns l' f' h; cases ns with
    | nil => rw [h.1]; exact fun _ h => h
    | cons => exact h.elim
  | cons x b ih => intro l f ns l' f' h; cases ns with
    | nil => exact h.elim
    | cons n ns =>
      obtain ⟨l1, f1, h1, h2⟩ := h
      exact fun x hx => h1.mem x (ih h2 x hx)
/-- Numbers within their bounds. -/
def In (b : List (Int × Int)) (ns : List Int) : Prop :=
  match b, ns with
  | [], [] => True
  | (lo, hi) :: b, n :: ns => (lo ≤ n ∧ n ≤ hi) ∧ In b ns
  | _, _ => False
theorem Gets.ok {b : List (Int × Int)} : ∀ {l : List Int} {f : Int} {ns l' : List Int}, Gets b l f ns l' 0 → (∀ x ∈ l, 0 ≤ x) → f = 0 ∧ In b ns ∧ l = Pk.encs ns ++ l' := by
  induction b with
  | nil => intro l f ns l' h _; cases ns with
    | nil => obtain ⟨rfl, h2⟩ := h; exact ⟨h2.symm, trivial, rfl⟩
    | cons => exact h.elim
  | cons x b ih => intro l f ns l' h h0; cases ns with
    | nil => exact h.elim
    | cons n ns =>
      obtain ⟨l1, f1, h1, h2⟩ := h
      obtain ⟨rfl, hin, hl⟩ := ih h2 (fun x hx => h0 x (h1.mem x hx))
      obtain ⟨rfl, q0, q1, e⟩ := h1.ok h0
      exact ⟨rfl, ⟨⟨q0, q1⟩, hin⟩, by rw [e, hl, Pk.encs_cons, List.append_assoc]⟩
theorem Gets.go {b : List (Int × Int)} : ∀ {ms ns r l' : List Int} {f' : Int}, Gets b (Pk.encs ms ++ r) 0 ns l' f' → (∀ n ∈ ms, -9223372036854775808 ≤ n ∧ n ≤ 9223372036854775807) → In b ms → ns = ms ∧ l' = r ∧ f' = 0 := by
  induction b with
  | nil => intro ms ns r l' f' h _ hm; cases ms with
    | cons => exact hm.elim
    | nil => cases ns with
      | nil => exact ⟨rfl, h.1, h.2⟩
      | cons => exact h.elim
  | cons x b ih => intro ms ns r l' f' h hi hm; cases ms with
    | nil => exact hm.elim
    | cons m ms => cases ns with
      | nil => exact h.elim
      | cons n ns =>
        obtain ⟨l1, f1, h1, h2⟩ := h
        rw [Pk.encs_cons, List.append_assoc] at h1
        obtain ⟨rfl, rfl, rfl⟩ := h1.go (hi m (by simp)).1 (hi m (by simp)).2 hm.1.1 hm.1.2
        obtain ⟨rfl, rfl, rfl⟩ := ih h2 (fun x hx => hi x (by simp [hx])) hm.2
        exact ⟨rfl, rfl, rfl⟩
/-- The bounds of a notice's numbers, and of a plan's. -/
def nBounds : List (Int × Int) := [(1, 5), (0, 31), (0, 3652058), (0, 100), (0, 1125899906842624), (0, 3)]
/-- What order.Get tells of a box. -/
def Nv.Got (l : List Int) (f : Int) (n : Nv) (l' : List Int) (f' : Int) : Prop := ∃ ns : Nv, Gets nBounds l f [ns.k, ns.s, ns.c, ns.t, ns.a, ns.v] l' f' ∧ n = if f' = 0 then ns else Nv.zero
theorem Nv.Got.ok {l l' : List Int} {f : Int} {n : Nv} (h : Nv.Got l f n l' 0) (h0 : ∀ x ∈ l, 0 ≤ x) : f = 0 ∧ n.Ok ∧ l = n.bytes ++ l' := by
  obtain ⟨ns, hg, hn⟩ := h
  rw [if_pos rfl] at hn
  subst hn
  obtain ⟨e, hi, hl⟩ := hg.ok h0
  obtain ⟨a1, a2, a3, a4, a5, a6, _⟩ := hi
  exact ⟨e, ⟨a1.1, a1.2, a6.1, a6.2, a2.1, by omega, a3.1, a3.2, a4.1, a4.2, a5.1, a5.2⟩, hl⟩
theorem Nv.Ok.in {n : Nv} (h : n.Ok) : In nBounds [n.k, n.s, n.c, n.t, n.a, n.v] := by
  obtain ⟨h1, h2, h3, h4, h5, h6, h7, h8, h9, h10, h11, h12⟩ := h
  exact ⟨⟨h1, h2⟩, ⟨h5, by omega⟩, ⟨h7, h8⟩, ⟨h9, h10⟩, ⟨h11, h12⟩, ⟨h3, h4⟩, trivial⟩
theorem Nv.Got.go {m n : Nv} {r l' : List Int} {f' : Int} (h : Nv.Got (m.bytes ++ r) 0 n l' f') (hm : m.Ok) : n = m ∧ l' = r ∧ f' = 0 := by
  obtain ⟨ns, hg, rfl⟩ := h
  obtain ⟨e, rfl, rfl⟩ := hg.go hm.i64 hm.in
  rw [if_pos rfl]
  refine ⟨?_, rfl, rfl⟩
  cases m; cases ns
  simp only [List.cons.injEq, and_true] at e
  obtain ⟨rfl, rfl, rfl, rfl, rfl, rfl⟩ := e
  rfl
theorem Nv.Got.not {l l' : List Int} {f f' : Int} {n : Nv} (h : Nv.Got l f n l' f') (hf : f' ≠ 0) : n = Nv.zero := by
  obtain ⟨ns, _, rfl⟩ := h
  rw [if_neg hf]
set_option maxHeartbeats 4000000 in
theorem oget_any (w : World) (b : Nat) (l : List Int) (f : Int) (h : GB w b l f) :
    Calls Tryd.prog 19 #[.pointer (some ⟨b, 0, none⟩)] w (fun x w' => ∃ n l' f', x = .returned (Nv.val n) ∧ Nv.Got l f n l' f' ∧ w.grownBy w' (some b) ∧ GB w' b l' f') := by
  have hbl := h.lt
  have H := Lib.hid h
  clear h
  go_enter Tryd.func19, Tryd.ntmps19
  have HB : Hid (Below w.heap.size w (w.alloc (Obj.cells #[.int .u8 0, .int .i64 0, .int .i64 0, .int .i64 0, .int .i64 0, .int .u8 0] 23))) := (Below.refl _ w).alloc (Nat.le_refl _) _
  have HZ : Hid ((w.alloc (Obj.cells #[.int .u8 0, .int .i64 0, .int .i64 0, .int .i64 0, .int .i64 0, .int .u8 0] 23)).heap[w.heap.size]? = some (Obj.cells #[.int .u8 0, .int .i64 0, .int .i64 0, .int .i64 0, .int .i64 0, .int .u8 0] 23)) := alloc_block
  have HS : Hid (w.heap.size < (w.alloc (Obj.cells #[.int .u8 0, .int .i64 0, .int .i64 0, .int .i64 0, .int .i64 0, .int .u8 0] 23)).heap.size) := by show w.heap.size < (w.alloc (Obj.cells #[.int .u8 0, .int .i64 0, .int .i64 0, .int .i64 0, .int .i64 0, .int .u8 0] 23)).heap.size; simp
  have HG0 := Lib.hid (H.out.more HB.out)
  go_wp2_with (fail)
  generalize w.alloc (Obj.cells #[.int .u8 0, .int .i64 0, .int .i64 0, .int .i64 0, .int .i64 0, .int .u8 0] 23) = W at *
  refine (get_any _ _ _ _ _ _ HG0.out).mono ?_
  rintro x w1 ⟨n1, l1, f1, rfl, hs1, hg1, hb1⟩
  obtain ⟨r1, t1⟩ := hs1.range (by omega) (by omega)
  have HS1 := Lib.hid hs1
  have HG1 := Lib.hid hb1
  have HW1 : Hid (W.grownBy w1 (some b)) := Lib.hid (hg1)
  clear hs1 hg1 hb1
  have hwu1 : IntKind.u8.wrap n1 = n1 := by simp [IntKind.wrap, IntKind.bits, IntKind.signed]; omega
  go_wp2_with (fail)
  refine (getsub_any _ _ _ _ HG1.out).mono ?_
  rintro x w2 ⟨n2, l2, f2, rfl, hs2, hg2, hb2⟩
  obtain ⟨r2, t2⟩ := hs2.range (by omega) (by omega)
  have HS2 := Lib.hid hs2
  have HG2 := Lib.hid hb2
  have HW2 : Hid (W.grownBy w2 (some b)) := Lib.hid (HW1.out.trans hg2)
  clear hs2 hg2 hb2
  go_wp2_with (fail)
  refine (get_any _ _ _ _ _ _ HG2.out).mono ?_
  rintro x w3 ⟨n3, l3, f3, rfl, hs3, hg3, hb3⟩
  obtain ⟨r3, t3⟩ := hs3.range (by omega) (by omega)
  have HS3 := Lib.hid hs3
  have HG3 := Lib.hid hb3
  have HW3 : Hid (W.grownBy w3 (some b)) := Lib.hid (HW2.out.trans hg3)
  clear hs3 hg3 hb3
  go_wp2_with (fail)
  refine (get_any _ _ _ _ _ _ HG3.out).mono ?_
  rintro x w4 ⟨n4, l4, f4, rfl, hs4, hg4, hb4⟩
  obtain ⟨r4, t4⟩ := hs4.range (by omega) (by omega)
  have HS4 := Lib.hid hs4
  have HG4 := Lib.hid hb4
  have HW4 : Hid (W.grownBy w4 (some b)) := Lib.hid (HW3.out.trans hg4)
  clear hs4 hg4 hb4
  go_wp2_with (fail)
  refine (get_any _ _ _ _ _ _ HG4.out).mono ?_
  rintro x w5 ⟨n5, l5, f5, rfl, hs5, hg5, hb5⟩
  obtain ⟨r5, t5⟩ := hs5.range (by omega) (by omega)
  have HS5 := Lib.hid hs5
  have HG5 := Lib.hid hb5
  have HW5 : Hid (W.grownBy w5 (some b)) := Lib.hid (HW4.out.trans hg5)
  clear hs5 hg5 hb5
  go_wp2_with (fail)
  refine (get_any _ _ _ _ _ _ HG5.out).mono ?_
  rintro x w6 ⟨n6, l6, f6, rfl, hs6, hg6, hb6⟩
  obtain ⟨r6, t6⟩ := hs6.range (by omega) (by omega)
  have HS6 := Lib.hid hs6
  have HG6 := Lib.hid hb6
  have HW6 : Hid (W.grownBy w6 (some b)) := Lib.hid (HW5.out.trans hg6)
  clear hs6 hg6 hb6
  have hwu6 : IntKind.u8.wrap n6 = n6 := by simp [IntKind.wrap, IntKind.bits, IntKind.signed]; omega
  have hz6 : w6.heap[w.heap.size]? = some (Obj.cells #[.int .u8 0, .int .i64 0, .int .i64 0, .int .i64 0, .int .i64 0, .int .u8 0] 23) := (HW6.out.block _ HS.out (by intro e; injection e; omega)).trans HZ.out
  have hs6 : w.heap.size < w6.heap.size := Nat.lt_of_lt_of_le HS.out HW6.out.size
  have HQ := Lib.hid (boxed_self hz6)
  rw [HQ.out]
  go_wp2_with (fail)
  have hk : ∀ (cs : Array Value) i, i ≤ b → ((boxed w6 w.heap.size cs 23).alloc (Obj.cells #[.int .u8 n1, .int .i64 n2, .int .i64 n3, .int .i64 n4, .int .i64 n5, .int .u8 n6] 23)).heap[i]? = w6.heap[i]? := fun cs i hi => by
    rw [alloc_block_old (by rw [boxed_size]; omega), boxed_block_other (by omega)]
  obtain ⟨A, c, hx, hgr⟩ := HG6.out
  refine (fault_box _ b _ f6 (hx.kept (hk _ b (Nat.le_refl _)))).mono ?_
  rintro x w7 ⟨rfl, rfl⟩
  have HK := Lib.hid hk
  have hgw : w.grownBy w6 (some b) := (below_grown HB.out (some b)).trans HW6.out
  have HGW := Lib.hid hgw
  clear hk hgw hx hgr HQ
  have HT : Hid (Gets nBounds l f [n1, n2, n3, n4, n5, n6] l6 f6) := Lib.hid ⟨l1, f1, HS1.out, l2, f2, HS2.out, l3, f3, HS3.out, l4, f4, HS4.out, l5, f5, HS5.out, l6, f6, HS6.out, rfl, rfl⟩
  clear HS1 HS2 HS3 HS4 HS5 HS6
  by_cases d : f6 = 0
  · subst d
    go_wp2
    refine bodyPost_ret (v := .agg #[.int .u8 n1, .int .i64 n2, .int .i64 n3, .int .i64 n4, .int .i64 n5, .int .u8 n6]) ?_ rfl ⟨⟨n1, n2, n3, n4, n5, n6⟩, l6, 0, rfl, ⟨⟨n1, n2, n3, n4, n5, n6⟩, HT.out, rfl⟩, ⟨HGW.out.os, HGW.out.tape, HGW.out.output, ?_, fun i hi hne => ?_⟩, HG6.out.kept fun i hi => HK.out _ i hi⟩
    · have hc : ((boxed w6 w.heap.size #[.int .u8 n1, .int .i64 n2, .int .i64 n3, .int .i64 n4, .int .i64 n5, .int .u8 n6] 23).alloc (Obj.cells #[.int .u8 n1, .int .i64 n2, .int .i64 n3, .int .i64 n4, .int .i64 n5, .int .u8 n6] 23)).heap[w.heap.size]? = some (.cells #[.int .u8 n1, .int .i64 n2, .int .i64 n3, .int .i64 n4, .int .i64 n5, .int .u8 n6] 23 (0, 0)) := by rw [alloc_block_old (by rw [boxed_size]; exact hs6), boxed_block hs6]
      simp [results, Tryd.results19, go_sem, cell_of_row _ _ _ _ _ _ hc]
    · rw [World.size_alloc, boxed_size]; have := HGW.out.size; omega
    · rw [alloc_block_old (by rw [boxed_size]; omega), boxed_block_other (by omega)]; exact HGW.out.block i hi hne
  · have z : (f6 != 0) = true := by simpa using d
    have HD := Lib.hid d
    clear d
    go_wp2
    refine bodyPost_ret (v := .agg #[.int .u8 0, .int .i64 0, .int .i64 0, .int .i64 0, .int .i64 0, .int .u8 0]) ?_ rfl ⟨Nv.zero, l6, f6, rfl, ⟨⟨n1, n2, n3, n4, n5, n6⟩, HT.out, by rw [if_neg HD.out]⟩, ⟨HGW.out.os, HGW.out.tape, HGW.out.output, ?_, fun i hi hne => ?_⟩, HG6.out.kept fun i hi => HK.out _ i hi⟩
    · have hc : ((boxed w6 w.heap.size #[.int .u8 0, .int .i64 0, .int .i64 0, .int .i64 0, .int .i64 0, .int .u8 0] 23).alloc (Obj.cells #[.int .u8 n1, .int .i64 n2, .int .i64 n3, .int .i64 n4, .int .i64 n5, .int .u8 n6] 23)).heap[w.heap.size]? = some (.cells #[.int .u8 0, .int .i64 0, .int .i64 0, .int .i64 0, .int .i64 0, .int .u8 0] 23 (0, 0)) := by rw [alloc_block_old (by rw [boxed_size]; exact hs6), boxed_block hs6]
      simp [results, Tryd.results19, go_sem, cell_of_row _ _ _ _ _ _ hc]
    · rw [World.size_alloc, boxed_size]; have := HGW.out.size; omega
    · rw [alloc_block_old (by rw [boxed_size]; omega), boxed_block_other (by omega)]; exact HGW.out.block i hi hne

theorem enc_few {n : Int} (m : Nat) (h0 : 0 ≤ n) (h1 : 2 * n < ((64 ^ (m + 1) : Nat) : Int)) : (Pk.enc (Pk.zig n)).length ≤ m + 1 := Pk.enc_len m _ (by have := Pk.zig_even h0; omega)
theorem q1 : ((64 ^ (0 + 1) : Nat) : Int) = 64 := by decide
theorem q2 : ((64 ^ (1 + 1) : Nat) : Int) = 4096 := by decide
theorem q4 : ((64 ^ (3 + 1) : Nat) : Int) = 16777216 := by decide
theorem q9 : ((64 ^ (8 + 1) : Nat) : Int) = 18014398509481984 := by decide
theorem Nv.len (n : Nv) (h : n.Ok) : 1 ≤ n.bytes.length ∧ n.bytes.length ≤ 20 := by
  obtain ⟨h1, h2, h3, h4, h5, h6, h7, h8, h9, h10, h11, h12⟩ := h
  unfold Nv.bytes
  simp only [Pk.encs_cons, Pk.encs_nil, List.length_append, List.length_nil]
  have e1 := enc_few (n := n.k) 0 (by omega) (by rw [q1]; omega)
  have e2 := enc_few (n := n.s) 0 (by omega) (by rw [q1]; omega)
  have e3 := enc_few (n := n.c) 3 (by omega) (by rw [q4]; omega)
  have e4 := enc_few (n := n.t) 1 (by omega) (by rw [q2]; omega)
  have e5 := enc_few (n := n.a) 8 (by omega) (by rw [q9]; omega)
  have e6 := enc_few (n := n.v) 0 (by omega) (by rw [q1]; omega)
  have e7 := Pk.enc_pos (Pk.zig n.k)
  omega
end Go.Proofs.YtambppcnmggocaaDoor
