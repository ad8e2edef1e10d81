/-
  The law's own 'do': whatever the act is. No conditions but the sizes, and what the two sides' own functions answer.
-/
import Derived.Great.BuildSlice
import Derived.Deep.CutRange
import Derived.Test.YtnbfkdcpghkglaaPb03
import Derived.Test.YtnbfkdcpghkglaaPb13
import Derived.Test.YtnbfkdcpghkglaaPb21
import Derived.Test.YtnbfkdcpghkglaaPb22
import Derived.Test.YtnbfkdcpghkglaaPb24
set_option linter.unusedSimpArgs false
set_option linter.unusedVariables false
namespace Go.Proofs.Ytnbfkdcpghkglaa
set_option maxRecDepth 100000
open Go.ChangeShapes Go.WideShapes Go.ChangeAt Go.RowKit

/-- A list that lies in old blocks, or behind another one. -/
def Parted (b0 c0 n : Nat) (w : World) (v : Value) (l : List Cv) : Prop := Cys w b0 c0 v l ∨ Cys w n w.heap.size v l
theorem Parted.boxed {b0 c0 n k : Nat} {w : World} {v : Value} {l : List Cv} {cs : Array Value} {t : TypeId} (h : Parted b0 c0 n w v l) (h1 : c0 ≤ k) (h2 : k < n) : Parted b0 c0 n (Go.Proofs.Ytnbfkdcpghkglaa.boxed w k cs t) v l :=
  h.imp (fun h => h.boxed (.inr h1)) (fun h => (h.boxed (.inl h2)).more (Nat.le_refl _) (by simp))
theorem Parted.below {b0 c0 n : Nat} {w w' : World} {v : Value} {l : List Cv} (h : Parted b0 c0 n w v l) (hb : Below w.heap.size w w') (hB : c0 ≤ w.heap.size) : Parted b0 c0 n w' v l :=
  h.imp (fun h => h.kept fun i _ h2 => hb.block i (by omega)) (fun h => (h.kept fun i _ h2 => hb.block i h2).more (Nat.le_refl _) hb.size)
theorem Parted.whole {b0 c0 n : Nat} {w : World} {v : Value} {l : List Cv} (h : Parted b0 c0 n w v l) (hB : c0 ≤ w.heap.size) : Cys w 0 w.heap.size v l := h.elim (fun h => h.more (Nat.zero_le _) hB) (fun h => h.more (Nat.zero_le _) (Nat.le_refl _))
theorem Parted.lower {b0 c0 n n' : Nat} {w : World} {v : Value} {l : List Cv} (h : Parted b0 c0 n w v l) (hn : n' ≤ n) : Parted b0 c0 n' w v l := h.imp (fun h => h) (fun h => h.more hn (Nat.le_refl _))
/-- What 'do' leaves: where both answer by OK the new ones, else all as it was. -/
def DoPost (b0 c0 : Nat) (w : World) (b : Wd) (x : Int) (A' : Av) (S' : Sv) (T' : Int) (e : Ending) (w' : World) : Prop := ∃ b' : Wd, e = .returned (.tuple #[.agg b'.arr, .bool true]) ∧ (x ≠ 0 → b' = b) ∧ (x = 0 → b'.a = A' ∧ b'.s = S' ∧ b'.td = T' ∧ b'.pl = S'.pl ∧ b'.va.oneCell' = true ∧ b'.vs.oneCell' = true ∧ Parted b0 c0 w.heap.size w' b'.va A'.l ∧ Parted b0 c0 w.heap.size w' b'.vs S'.l) ∧ Below w.heap.size w w'
/-- What the program's call answers. -/
def Ans (x : Int) (A' : Av) (W : World) (e : Ending) (w' : World) : Prop := ∃ a' va', e = .returned (.tuple #[.agg (a'.arr va'), .int .i64 x]) ∧ va'.oneCell' = true ∧ (x = 0 → a' = A' ∧ Cys w' W.heap.size w'.heap.size va' A'.l) ∧ Below W.heap.size W w'
/-- The act's way: which order it makes, and what the program's call answers. -/
inductive DoWay (w : World) (b : Wd) (ps : Nat → Pv) (K A B x : Int) (A' : Av) : Array Value → Prop
  | pass (N : Int) (p0 : Nat) (hk : decide (K.tmod 16 < 5) = true) (hN : 1 + A % 40 = N) (hp : p0 < 2) (hpl : b.pl = (p0 : Int)) (ew : IntKind.i64.wrap (b.td + N) = b.td + N) (h : ∀ W, Below w.heap.size w W → Calls Try.prog 19 #[.agg (b.a.arr b.va), .agg (ps p0).arr, .int .i64 (b.td + N)] W (Ans x A' W)) (h7 : x ≠ 77) : DoWay w b ps K A B x A' #[.int .u8 9, .int .i64 0, .int .i64 0, .int .i64 N, .int .i64 0, .int .u8 0, .int .i64 0, .int .i64 0, .bool false, .bool false, .int .u8 0, .int .i64 0, .int .i64 0, .int .i64 0, .int .i64 0, .int .u8 0]
  | pause (hk : K.tmod 16 = 5) (h : ∀ W, Below w.heap.size w W → Calls Try.prog 24 #[.agg (b.a.arr b.va)] W (Ans x A' W)) (h7 : x ≠ 77) : DoWay w b ps K A B x A' #[.int .u8 4, .int .i64 0, .int .i64 0, .int .i64 0, .int .i64 0, .int .u8 0, .int .i64 0, .int .i64 0, .bool false, .bool false, .int .u8 0, .int .i64 0, .int .i64 0, .int .i64 0, .int .i64 0, .int .u8 0]
  | resume (hk : K.tmod 16 = 6) (h : ∀ W, Below w.heap.size w W → Calls Try.prog 25 #[.agg (b.a.arr b.va)] W (Ans x A' W)) (h7 : x ≠ 77) : DoWay w b ps K A B x A' #[.int .u8 5, .int .i64 0, .int .i64 0, .int .i64 0, .int .i64 0, .int .u8 0, .int .i64 0, .int .i64 0, .bool false, .bool false, .int .u8 0, .int .i64 0, .int .i64 0, .int .i64 0, .int .i64 0, .int .u8 0]
  | skip (hk : K.tmod 16 = 7) (h : ∀ W, Below w.heap.size w W → Calls Try.prog 26 #[.agg (b.a.arr b.va)] W (Ans x A' W)) (h7 : x ≠ 77) : DoWay w b ps K A B x A' #[.int .u8 6, .int .i64 0, .int .i64 0, .int .i64 0, .int .i64 0, .int .u8 0, .int .i64 0, .int .i64 0, .bool false, .bool false, .int .u8 0, .int .i64 0, .int .i64 0, .int .i64 0, .int .i64 0, .int .u8 0]
  | card (hk : K.tmod 16 = 8) (h : ∀ W, Below w.heap.size w W → Calls Try.prog 27 #[.agg (b.a.arr b.va)] W (Ans x A' W)) (h7 : x ≠ 77) : DoWay w b ps K A B x A' #[.int .u8 8, .int .i64 0, .int .i64 0, .int .i64 0, .int .i64 0, .int .u8 0, .int .i64 0, .int .i64 0, .bool false, .bool false, .int .u8 0, .int .i64 0, .int .i64 0, .int .i64 0, .int .i64 0, .int .u8 0]
  | cancel (hk : K.tmod 16 = 9) (hk2 : (A % 4 == 0) = true) (h : ∀ W, Below w.heap.size w W → Calls Try.prog 28 #[.agg (b.a.arr b.va)] W (Ans x A' W)) (h7 : x ≠ 77) : DoWay w b ps K A B x A' #[.int .u8 7, .int .i64 0, .int .i64 0, .int .i64 0, .int .i64 0, .int .u8 0, .int .i64 0, .int .i64 0, .bool false, .bool false, .int .u8 0, .int .i64 0, .int .i64 0, .int .i64 0, .int .i64 0, .int .u8 0]
  | change (n0 p0 : Nat) (hk : K.tmod 16 = 9 ∧ (A % 4 == 0) = false ∨ K.tmod 16 = 10) (hn : B % 2 = (n0 : Int)) (hn2 : n0 < 2) (hp : p0 < 2) (hpl : b.pl = (p0 : Int)) (h : ∀ W, Below w.heap.size w W → Calls Try.prog 29 #[.agg (b.a.arr b.va), .agg (ps p0).arr, .int .i64 n0, .agg (ps n0).arr, .int .i64 b.td] W (Ans x A' W)) (h7 : x ≠ 77) : DoWay w b ps K A B x A' #[.int .u8 3, .int .i64 0, .int .i64 n0, .int .i64 0, .int .i64 0, .int .u8 0, .int .i64 0, .int .i64 0, .bool false, .bool false, .int .u8 0, .int .i64 0, .int .i64 0, .int .i64 0, .int .i64 0, .int .u8 0]
  | hear (l : List Nv) (q : Nat) (v0 : Nat) (NK m T M V : Int) (hk : decide (K.tmod 16 ≤ 10) = false) (hl : ∀ W, Below w.heap.size w W → Calls Try.prog 30 #[.int .i64 0, .agg (b.a.arr b.va)] W fun e w' => ∃ v', e = .returned v' ∧ w'.ownsRow W.heap.size 59 6 v' l.length (ncs l) ∧ Below W.heap.size W w') (hq : A % (l.length : Int) = (q : Int)) (hq2 : l[q]? = some ⟨NK, 0, m, T, M, 0⟩) (hv0 : B % 4 = (v0 : Int)) (hv : V = if v0 < 2 then 1 else (v0 : Int)) (hl2 : l.length ≤ 1000000) (h : ∀ W, Below w.heap.size w W → Calls Try.prog 31 #[.int .i64 0, .agg (b.a.arr b.va), .agg #[.int .u8 NK, .int .i64 0, .int .i64 m, .int .i64 T, .int .i64 M, .int .u8 V], .int .i64 b.td] W (Ans x A' W)) (h7 : x ≠ 77) : DoWay w b ps K A B x A' #[.int .u8 10, .int .i64 0, .int .i64 0, .int .i64 0, .int .i64 0, .int .u8 0, .int .i64 0, .int .i64 0, .bool false, .bool false, .int .u8 NK, .int .i64 0, .int .i64 m, .int .i64 T, .int .i64 M, .int .u8 V]
  | idle (hk : decide (K.tmod 16 ≤ 10) = false) (hl : ∀ W, Below w.heap.size w W → Calls Try.prog 30 #[.int .i64 0, .agg (b.a.arr b.va)] W fun e w' => ∃ v', e = .returned v' ∧ w'.ownsRow W.heap.size 59 6 v' ([] : List Nv).length (ncs []) ∧ Below W.heap.size W w') (hx : x = 77) : DoWay w b ps K A B x A' #[.int .u8 0, .int .i64 0, .int .i64 0, .int .i64 0, .int .i64 0, .int .u8 0, .int .i64 0, .int .i64 0, .bool false, .bool false, .int .u8 0, .int .i64 0, .int .i64 0, .int .i64 0, .int .i64 0, .int .u8 0]
/-- Where the ways meet: the order is laid, the program has answered. -/
structure DoMid (w : World) (b : Wd) (ps : Nat → Pv) (K A B x : Int) (A' : Av) (bk : Bk) (oc : Array Value) (g : Nat) (W : World) (a' : Av) (va' : Value) (n2 : Nat) : Prop where
  t0 : W.heap[w.heap.size]? = some (.cells b.arr 38 (0, 0))
  t1 : W.heap[w.heap.size + 1]? = some (.cells (Tw.arr ps) 27 (0, 0))
  t2 : W.heap[w.heap.size + 1 + 1]? = some (.cells #[.int .u8 K, .int .u8 A, .int .u8 B] 43 (0, 0))
  t3 : W.heap[w.heap.size + 1 + 1 + 1]? = some (.cells #[.int .u8 0, .int .i64 0, .int .i64 0, .int .i64 0, .int .i64 0, .int .i64 0, .bool false, .slice none 0 0, .int .i64 0, .int .i64 0, .int .i64 0, .int .i64 0, .int .i64 0, .int .u8 0, .int .i64 0, .int .i64 0, .int .i64 0, .int .i64 0, .bool false, .slice none 0 0, .int .i64 0, .int .i64 0] 38 (0, 0))
  t4 : W.heap[w.heap.size + 1 + 1 + 1 + 1]? = some (.cells (Tw.row ps) 26 (0, 0))
  t5 : W.heap[w.heap.size + 1 + 1 + 1 + 1 + 1]? = some (.cells bk.arr 73 (0, 0))
  t6 : W.heap[g]? = some (.cells oc 61 (0, 0))
  t7 : W.heap[g + 1]? = some (.cells (a'.arr va') 33 (0, 0))
  one : va'.oneCell' = true
  low : Below w.heap.size w W
  n0 : g + 1 < n2
  x0 : x = 0 → a' = A' ∧ Cys W n2 W.heap.size va' A'.l
  x7 : x ≠ 77
theorem info16o : (Try.prog.info? 61).map (·.size) = some 16 := by kernel_rfl
theorem DoWay.size {w : World} {b : Wd} {ps : Nat → Pv} {K A B x : Int} {A' : Av} {oc : Array Value} (h : DoWay w b ps K A B x A' oc) : oc.size = 16 := by cases h <;> rfl
set_option maxHeartbeats 60000000 in
theorem do_any {w : World} {b : Wd} {ps : Nat → Pv} {K A B x : Int} {A' : Av} {S' : Sv} {T' : Int} {oc : Array Value} {b0 c0 : Nat} (hc0 : c0 ≤ w.heap.size) (ha0 : 0 ≤ A) (ha1 : A < 256) (hb0 : 0 ≤ B) (HW : Hid (DoWay w b ps K A B x A' oc)) (HS : Hid (x ≠ 77 → ∀ W, Below w.heap.size w W → Pls W W.heap.size (.slice (some ⟨w.heap.size + 1 + 1 + 1 + 1, 0, none⟩) 2 2) [ps 0, ps 1] → Calls Try.prog 32 #[.agg ((Bk.new b.td (.slice (some ⟨w.heap.size + 1 + 1 + 1 + 1, 0, none⟩) 2 2)).put 0 b.s b.vs).arr, .agg oc] W fun e w' => ∃ bk' : Bk, e = .returned (.tuple #[.agg bk'.arr, .int .i64 x]) ∧ bk'.One ∧ (x = 0 → bk'.s 0 = S' ∧ bk'.td = T' ∧ (Cys w' b0 c0 (bk'.v 0) S'.l ∨ Cys w' W.heap.size w'.heap.size (bk'.v 0) S'.l)) ∧ Below W.heap.size W w')) (HT : Hid (x = 0 → ∀ (W : World) (va vs : Value), Cys W 0 W.heap.size va A'.l → Cys W 0 W.heap.size vs S'.l → Calls Try.prog 23 #[.agg (A'.arr va), .agg (S'.arr vs)] W fun e w' => e = .returned (.bool true) ∧ Below W.heap.size W w')) (HT0 : Hid (x ≠ 0 → ∀ (W : World) (va vs : Value), Cys W 0 W.heap.size va b.a.l → Cys W 0 W.heap.size vs b.s.l → Calls Try.prog 23 #[.agg (b.a.arr va), .agg (b.s.arr vs)] W fun e w' => e = .returned (.bool true) ∧ Below W.heap.size W w')) (HLB : Hid (Cys w 0 w.heap.size b.va b.a.l ∧ Cys w 0 w.heap.size b.vs b.s.l)) (hva : b.va.oneCell' = true) (hvs : b.vs.oneCell' = true) :
    Calls Try.prog 10 #[.agg b.arr, .agg (Tw.arr ps), .agg #[.int .u8 K, .int .u8 A, .int .u8 B]] w (DoPost b0 c0 w b x A' S' T') := by
  have hoc := HW.out.size
  go_enter Try.func10, Try.ntmps10
  go_upto_region 1 with fail
  go_wp2_with (((with_reducible_and_instances (show wpList _ _ _ (Oper.mk _ (Op.load 26 _) _ _ _ _ :: _) _ _)); refine stop_here ?_))
  refine ⟨?_⟩
  refine wpList_load_mid rfl _ _ rfl (w.heap.size + 1) (0 * 6) rfl ((ps 0).arr).toList _ (Tw.range (k := 0) (alloc_old (by simp) (alloc_old (by simp) (alloc_at (by simp)))) (by omega)) Try.underlying26 rfl info6p ?_
  rw [Array.toArray_toList]
  go_wp2_with (((with_reducible_and_instances (show wpList _ _ _ (Oper.mk _ (Op.load 26 _) _ _ _ _ :: _) _ _)); refine stop_here ?_))
  refine ⟨?_⟩
  refine wpList_load_mid rfl _ _ rfl (w.heap.size + 1) (1 * 6) rfl ((ps 1).arr).toList _ (Tw.range (k := 1) (alloc_old (by simp) (alloc_old (by simp) (alloc_at (by simp)))) (by omega)) Try.underlying26 rfl info6p ?_
  rw [Array.toArray_toList]
  go_wp2_with (((with_reducible_and_instances (show wpList _ _ _ (Oper.mk _ (Op.buildSlice 49 _ _) _ _ _ _ :: _) _ _)); refine stop_here ?_))
  refine ⟨?_⟩
  obtain ⟨ie, z, hie, hz, hzs, hf⟩ : ∃ ie z, Try.prog.info? 26 = some ie ∧ ie.zero = some z ∧ ie.size = 6 ∧ Instr.fill (fun i => some (i * ie.size, ie.size)) ((Array.range (2 * ie.size)).map (z.cells[· % z.cells.size]!)) [(0, .agg (ps 0).arr), (1, .agg (ps 1).arr)] = some (Tw.row ps) := ⟨_, _, rfl, rfl, rfl, by kernel_rfl⟩
  refine wpList_buildSlice rfl 49 26 2 _ rfl (Tw.row ps) ie z Try.underlying49 hie hz (by rw [hzs]; omega) (by rw [hzs]; omega) (Eq.trans (congrArg (Instr.fill _ _) (by simp [Act.eval])) hf) ?_
  clear hie hz hzs hf
  go_wp2_with (((with_reducible_and_instances (show wpList _ _ _ (Oper.mk _ (Op.build 73 _) _ _ _ _ :: _) _ _)); refine stop_here ?_))
  refine ⟨?_⟩
  refine wpList_buildTo rfl 73 _ rfl _ rfl _ (Eq.trans (congrArg (Program.built _ _) (by simp [Act.eval])) (Bk.new_built b.td (some ⟨w.heap.size + 1 + 1 + 1 + 1, 0, none⟩) 2 2)) ?_
  go_wp2_with (((with_reducible_and_instances (show wpList _ _ _ (Oper.mk _ (Op.store 73 _ _) _ _ _ _ :: _) _ _)); refine stop_here ?_))
  refine ⟨?_⟩
  refine wl_store (g := w.heap.size + 1 + 1 + 1 + 1 + 1) Bk.info rfl rfl rfl rfl (alloc_at (by simp)) Bk.zero_size (Bk.arr_size _) (Bk.One.arr (Bk.new_one _ rfl)) ?_
  obtain ⟨W0, hW0⟩ : ∃ W0, boxed ((((((w.alloc (.cells b.arr 38)).alloc (.cells (Tw.arr ps) 27)).alloc (.cells #[.int .u8 K, .int .u8 A, .int .u8 B] 43)).alloc (.cells #[.int .u8 0, .int .i64 0, .int .i64 0, .int .i64 0, .int .i64 0, .int .i64 0, .bool false, .slice none 0 0, .int .i64 0, .int .i64 0, .int .i64 0, .int .i64 0, .int .i64 0, .int .u8 0, .int .i64 0, .int .i64 0, .int .i64 0, .int .i64 0, .bool false, .slice none 0 0, .int .i64 0, .int .i64 0] 38)).alloc (.cells (Tw.row ps) 26)).alloc (.cells Try.zeroCells73 73)) (w.heap.size + 1 + 1 + 1 + 1 + 1) (Bk.new b.td (.slice (some ⟨w.heap.size + 1 + 1 + 1 + 1, 0, none⟩) 2 2)).arr 73 = W0 := ⟨_, rfl⟩
  have hb0 : W0.heap[w.heap.size]? = some (.cells b.arr 38 (0, 0)) := by rw [← hW0]; exact boxed_old (by omega) (alloc_old (by first | (simp; done) | (simp; omega)) (alloc_old (by first | (simp; done) | (simp; omega)) (alloc_old (by first | (simp; done) | (simp; omega)) (alloc_old (by first | (simp; done) | (simp; omega)) (alloc_old (by first | (simp; done) | (simp; omega)) (alloc_at rfl))))))
  have hb1 : W0.heap[w.heap.size + 1]? = some (.cells (Tw.arr ps) 27 (0, 0)) := by rw [← hW0]; exact boxed_old (by omega) (alloc_old (by first | (simp; done) | (simp; omega)) (alloc_old (by first | (simp; done) | (simp; omega)) (alloc_old (by first | (simp; done) | (simp; omega)) (alloc_old (by first | (simp; done) | (simp; omega)) (alloc_at (by simp))))))
  have hb2 : W0.heap[w.heap.size + 1 + 1]? = some (.cells #[.int .u8 K, .int .u8 A, .int .u8 B] 43 (0, 0)) := by rw [← hW0]; exact boxed_old (by omega) (alloc_old (by first | (simp; done) | (simp; omega)) (alloc_old (by first | (simp; done) | (simp; omega)) (alloc_old (by first | (simp; done) | (simp; omega)) (alloc_at (by simp)))))
  have hb3 : W0.heap[w.heap.size + 1 + 1 + 1]? = some (.cells #[.int .u8 0, .int .i64 0, .int .i64 0, .int .i64 0, .int .i64 0, .int .i64 0, .bool false, .slice none 0 0, .int .i64 0, .int .i64 0, .int .i64 0, .int .i64 0, .int .i64 0, .int .u8 0, .int .i64 0, .int .i64 0, .int .i64 0, .int .i64 0, .bool false, .slice none 0 0, .int .i64 0, .int .i64 0] 38 (0, 0)) := by rw [← hW0]; exact boxed_old (by omega) (alloc_old (by first | (simp; done) | (simp; omega)) (alloc_old (by first | (simp; done) | (simp; omega)) (alloc_at (by simp))))
  have hb4 : W0.heap[w.heap.size + 1 + 1 + 1 + 1]? = some (.cells (Tw.row ps) 26 (0, 0)) := by rw [← hW0]; exact boxed_old (by omega) (alloc_old (by first | (simp; done) | (simp; omega)) (alloc_at (by simp)))
  have hb5 : W0.heap[w.heap.size + 1 + 1 + 1 + 1 + 1]? = some (.cells (Bk.new b.td (.slice (some ⟨w.heap.size + 1 + 1 + 1 + 1, 0, none⟩) 2 2)).arr 73 (0, 0)) := by rw [← hW0]; exact boxed_at (by simp)
  have hW : Below w.heap.size w W0 := by rw [← hW0]; exact boxed_below (((((((Below.refl _ w).alloc (Nat.le_refl _) _).alloc (by simp) _).alloc (by simp; omega) _).alloc (by simp; omega) _).alloc (by simp; omega) _).alloc (by simp; omega) _) (by omega)
  rw [hW0]
  clear hW0
  have hz : w.heap.size + 1 + 1 + 1 + 1 + 1 < W0.heap.size := (Array.getElem?_eq_some_iff.1 hb5).1
  have eb := boxed_self hb5
  rw [eb]
  clear eb
  go_wp2_with (((with_reducible_and_instances (show wpList _ _ _ (Oper.mk _ (Op.load 36 _) _ _ _ _ :: _) _ _)); refine stop_here ?_))
  refine ⟨?_⟩
  refine wpList_load_mid rfl _ _ rfl w.heap.size 13 rfl (b.s.arr b.vs).toList _ (Wd.range_s (boxed_old (by omega) hb0)) Try.underlying36 rfl info7s ?_
  rw [Array.toArray_toList]
  go_wp2_with (((with_reducible_and_instances (show wpList _ _ _ (Oper.mk _ (Op.store 36 _ _) _ _ _ _ :: _) _ _)); refine stop_here ?_))
  refine ⟨?_⟩
  refine wpList_store_mid rfl _ _ _ rfl (w.heap.size + 1 + 1 + 1 + 1 + 1) (2 + 0 * 7) (b.s.arr b.vs) rfl rfl (Bk.there hz (by omega)) info7s (Sv.arr_one hvs) ?_
  rw [Bk.store]
  obtain ⟨bk, hbk⟩ : ∃ bk, (Bk.new b.td (.slice (some ⟨w.heap.size + 1 + 1 + 1 + 1, 0, none⟩) 2 2)).put 0 b.s b.vs = bk := ⟨_, rfl⟩
  rw [hbk]
  have HSb := HS
  rw [hbk] at HSb
  clear hbk HS
  go_upto_region 4 with fail
  go_wp2_with (((with_reducible_and_instances (show wpList _ _ _ (Oper.mk _ (Op.load 33 _) _ _ _ _ :: _) _ _)); refine stop_here ?_))
  refine ⟨?_⟩
  refine wpList_load_mid rfl _ _ rfl w.heap.size 0 rfl (b.a.arr b.va).toList _ (Wd.range_a (alloc_old (by simp; omega) (boxed_old (by omega) hb0))) Try.underlying33 rfl info13 ?_
  rw [Array.toArray_toList]
  go_wp2_with (((with_reducible_and_instances (show wpList _ _ _ (Oper.mk _ (Op.store 33 _ _) _ _ _ _ :: _) _ _)); refine stop_here ?_))
  refine ⟨?_⟩
  refine wl_store (g := W0.heap.size + 1) info13 rfl rfl rfl rfl (alloc_at (by simp)) rfl rfl (Av.arr_one hva) ?_
  obtain ⟨W1, hW1⟩ : ∃ W1, boxed (((boxed W0 (w.heap.size + 1 + 1 + 1 + 1 + 1) bk.arr 73).alloc (.cells #[.int .u8 0, .int .i64 0, .int .i64 0, .int .i64 0, .int .i64 0, .int .u8 0, .int .i64 0, .int .i64 0, .bool false, .bool false, .int .u8 0, .int .i64 0, .int .i64 0, .int .i64 0, .int .i64 0, .int .u8 0] 61)).alloc (.cells #[.int .u8 0, .int .i64 0, .int .i64 0, .int .i64 0, .int .i64 0, .int .i64 0, .bool false, .slice none 0 0, .int .i64 0, .int .i64 0, .int .i64 0, .int .i64 0, .int .i64 0] 33)) (W0.heap.size + 1) (b.a.arr b.va) 33 = W1 := ⟨_, rfl⟩
  have f0 : W1.heap[w.heap.size]? = some (.cells b.arr 38 (0, 0)) := by rw [← hW1]; exact boxed_old (by omega) (alloc_old (by simp; omega) (alloc_old (by simp; omega) (boxed_old (by omega) hb0)))
  have f1 : W1.heap[w.heap.size + 1]? = some (.cells (Tw.arr ps) 27 (0, 0)) := by rw [← hW1]; exact boxed_old (by omega) (alloc_old (by simp; omega) (alloc_old (by simp; omega) (boxed_old (by omega) hb1)))
  have f2 : W1.heap[w.heap.size + 1 + 1]? = some (.cells #[.int .u8 K, .int .u8 A, .int .u8 B] 43 (0, 0)) := by rw [← hW1]; exact boxed_old (by omega) (alloc_old (by simp; omega) (alloc_old (by simp; omega) (boxed_old (by omega) hb2)))
  have f3 : W1.heap[w.heap.size + 1 + 1 + 1]? = some (.cells #[.int .u8 0, .int .i64 0, .int .i64 0, .int .i64 0, .int .i64 0, .int .i64 0, .bool false, .slice none 0 0, .int .i64 0, .int .i64 0, .int .i64 0, .int .i64 0, .int .i64 0, .int .u8 0, .int .i64 0, .int .i64 0, .int .i64 0, .int .i64 0, .bool false, .slice none 0 0, .int .i64 0, .int .i64 0] 38 (0, 0)) := by rw [← hW1]; exact boxed_old (by omega) (alloc_old (by simp; omega) (alloc_old (by simp; omega) (boxed_old (by omega) hb3)))
  have f4 : W1.heap[w.heap.size + 1 + 1 + 1 + 1]? = some (.cells (Tw.row ps) 26 (0, 0)) := by rw [← hW1]; exact boxed_old (by omega) (alloc_old (by simp; omega) (alloc_old (by simp; omega) (boxed_old (by omega) hb4)))
  have f5 : W1.heap[w.heap.size + 1 + 1 + 1 + 1 + 1]? = some (.cells bk.arr 73 (0, 0)) := by rw [← hW1]; exact boxed_old (by omega) (alloc_old (by simp; omega) (alloc_old (by simp; omega) (boxed_at hz)))
  have f6 : W1.heap[W0.heap.size]? = some (.cells #[.int .u8 0, .int .i64 0, .int .i64 0, .int .i64 0, .int .i64 0, .int .u8 0, .int .i64 0, .int .i64 0, .bool false, .bool false, .int .u8 0, .int .i64 0, .int .i64 0, .int .i64 0, .int .i64 0, .int .u8 0] 61 (0, 0)) := by rw [← hW1]; exact boxed_old (by omega) (alloc_old (by simp) (alloc_at (by simp)))
  have f7 : W1.heap[W0.heap.size + 1]? = some (.cells (b.a.arr b.va) 33 (0, 0)) := by rw [← hW1]; exact boxed_at (by simp)
  have hV : Below w.heap.size w W1 := by rw [← hW1]; exact boxed_below (((boxed_below hW (by omega)).alloc (by simp; omega) _).alloc (by simp; omega) _) (by omega)
  rw [hW1]
  clear hW1 hb0 hb1 hb2 hb3 hb4 hb5 hW
  obtain ⟨g, hg⟩ : ∃ g, W0.heap.size = g := ⟨_, rfl⟩
  rw [hg] at hz f6 f7
  rw [hg]
  clear hg W0
  have ac0 : ∀ cs, (boxed W1 g cs 61).cell? ⟨w.heap.size + 1 + 1, 0, none⟩ = some (.int .u8 K) := fun cs => by rw [cell_of_row _ _ _ _ _ _ (boxed_old (by omega) f2)]; rfl
  have ac1 : ∀ cs, (boxed W1 g cs 61).cell? ⟨w.heap.size + 1 + 1, 1, none⟩ = some (.int .u8 A) := fun cs => by rw [cell_of_row _ _ _ _ _ _ (boxed_old (by omega) f2)]; rfl
  have ac2 : ∀ cs, (boxed W1 g cs 61).cell? ⟨w.heap.size + 1 + 1, 2, none⟩ = some (.int .u8 B) := fun cs => by rw [cell_of_row _ _ _ _ _ _ (boxed_old (by omega) f2)]; rfl
  have wc20 : ∀ cs, (boxed W1 g cs 61).cell? ⟨w.heap.size, 20, none⟩ = some (.int .i64 b.td) := fun cs => by rw [cell_of_row _ _ _ _ _ _ (boxed_old (by omega) f0)]; exact b.at20
  have wc21 : ∀ cs, (boxed W1 g cs 61).cell? ⟨w.heap.size, 21, none⟩ = some (.int .i64 b.pl) := fun cs => by rw [cell_of_row _ _ _ _ _ _ (boxed_old (by omega) f0)]; exact b.at21
  have hzg : g + 1 < W1.heap.size := (Array.getElem?_eq_some_iff.1 f7).1
  have hzg0 : g < W1.heap.size := by omega
  have eb := boxed_self f6
  rw [eb]
  clear eb
  go_upto_region 5 with fail
  iterate 8 go_step
  go_cut [11] from 35 to 174 (fun e wc => e = .int .i64 x ∧ ∃ a' va' n2, DoMid w b ps K A B x A' bk oc g wc a' va' n2)
  case rest =>
    obtain ⟨hu, a', va', n2, ⟨t0, t1, t2, t3, t4, t5, t6, t7, hone', hV4, hn2, hx4, hx7⟩⟩ := hcut
    subst hu
    obtain ⟨W4, hW4⟩ : ∃ W4, wc = W4 := ⟨_, rfl⟩
    rw [hW4] at t0 t1 t2 t3 t4 t5 t6 t7 hV4 hx4
    rw [hW4]
    clear hW4 wc
    have hx4 := Lib.hid hx4
    clear f0 f1 f2 f3 f4 f5 f6 f7 hV ac0 ac1 ac2 wc20 wc21 hzg hzg0 W1
    go_wp2_with (((with_reducible_and_instances (show wpList _ _ _ (Oper.mk _ (Op.load 73 _) _ _ _ _ :: _) _ _)); refine stop_here ?_))
    refine ⟨?_⟩
    refine wl_load (cs := bk.arr) (fr := (0, 0)) (g := w.heap.size + 1 + 1 + 1 + 1 + 1) Try.underlying73 rfl Bk.info rfl rfl rfl t5 (Bk.arr_size _) ?_
    go_wp2_with (((with_reducible_and_instances (show wpList _ _ _ (Oper.mk _ (Op.load 61 _) _ _ _ _ :: _) _ _)); refine stop_here ?_))
    refine ⟨?_⟩
    refine wl_load (cs := oc) (fr := (0, 0)) (g := g) Try.underlying61 rfl info16o rfl rfl rfl t6 hoc ?_
    go_wp2_with fail
    have hs4 : g + 1 < W4.heap.size := (Array.getElem?_eq_some_iff.1 t7).1
    have hpls : Pls W4 W4.heap.size (.slice (some ⟨w.heap.size + 1 + 1 + 1 + 1, 0, none⟩) 2 2) [ps 0, ps 1] := Tw.pls t4 (by omega)
    refine (HSb.out hx7 W4 hV4 hpls).mono ?_
    rintro e W5 ⟨bk', rfl, hone5, hx5, hb5⟩
    have u0 : W5.heap[w.heap.size]? = some (.cells b.arr 38 (0, 0)) := below_block hb5 t0
    have u1 : W5.heap[w.heap.size + 1]? = some (.cells (Tw.arr ps) 27 (0, 0)) := below_block hb5 t1
    have u2 : W5.heap[w.heap.size + 1 + 1]? = some (.cells #[.int .u8 K, .int .u8 A, .int .u8 B] 43 (0, 0)) := below_block hb5 t2
    have u3 : W5.heap[w.heap.size + 1 + 1 + 1]? = some (.cells #[.int .u8 0, .int .i64 0, .int .i64 0, .int .i64 0, .int .i64 0, .int .i64 0, .bool false, .slice none 0 0, .int .i64 0, .int .i64 0, .int .i64 0, .int .i64 0, .int .i64 0, .int .u8 0, .int .i64 0, .int .i64 0, .int .i64 0, .int .i64 0, .bool false, .slice none 0 0, .int .i64 0, .int .i64 0] 38 (0, 0)) := below_block hb5 t3
    have u4 : W5.heap[w.heap.size + 1 + 1 + 1 + 1]? = some (.cells (Tw.row ps) 26 (0, 0)) := below_block hb5 t4
    have u5 : W5.heap[w.heap.size + 1 + 1 + 1 + 1 + 1]? = some (.cells bk.arr 73 (0, 0)) := below_block hb5 t5
    have u6 : W5.heap[g]? = some (.cells oc 61 (0, 0)) := below_block hb5 t6
    have u7 : W5.heap[g + 1]? = some (.cells (a'.arr va') 33 (0, 0)) := below_block hb5 t7
    have hV5 : Below w.heap.size w W5 := hV4.trans (hb5.mono hV4.size)
    have hs5 : W4.heap.size ≤ W5.heap.size := hb5.size
    have HX5 := Lib.hid hx5
    have HX4 : Hid (x = 0 → a' = A' ∧ Cys W5 n2 W4.heap.size va' A'.l) := fun h => ⟨(hx4.out h).1, (hx4.out h).2.below hb5⟩
    clear hx5 hx4 hb5 hpls hV4 HSb t0 t1 t2 t3 t4 t5 t6 t7
    go_wp2_with (((with_reducible_and_instances (show wpList _ _ _ (Oper.mk _ (Op.store 73 _ _) _ _ _ _ :: _) _ _)); refine stop_here ?_))
    refine ⟨?_⟩
    refine wl_store (g := W5.heap.size) Bk.info rfl rfl rfl rfl (alloc_at rfl) Bk.zero_size (Bk.arr_size _) hone5.arr ?_
    obtain ⟨W6, hW6⟩ : ∃ W6, boxed (W5.alloc (.cells Try.zeroCells73 73)) W5.heap.size bk'.arr 73 = W6 := ⟨_, rfl⟩
    have hs6 : W6.heap.size = W5.heap.size + 1 := by rw [← hW6]; simp
    have v0 : W6.heap[w.heap.size]? = some (.cells b.arr 38 (0, 0)) := by rw [← hW6]; exact boxed_old (by omega) (alloc_old (by omega) u0)
    have v1 : W6.heap[w.heap.size + 1]? = some (.cells (Tw.arr ps) 27 (0, 0)) := by rw [← hW6]; exact boxed_old (by omega) (alloc_old (by omega) u1)
    have v2 : W6.heap[w.heap.size + 1 + 1]? = some (.cells #[.int .u8 K, .int .u8 A, .int .u8 B] 43 (0, 0)) := by rw [← hW6]; exact boxed_old (by omega) (alloc_old (by omega) u2)
    have v3 : W6.heap[w.heap.size + 1 + 1 + 1]? = some (.cells #[.int .u8 0, .int .i64 0, .int .i64 0, .int .i64 0, .int .i64 0, .int .i64 0, .bool false, .slice none 0 0, .int .i64 0, .int .i64 0, .int .i64 0, .int .i64 0, .int .i64 0, .int .u8 0, .int .i64 0, .int .i64 0, .int .i64 0, .int .i64 0, .bool false, .slice none 0 0, .int .i64 0, .int .i64 0] 38 (0, 0)) := by rw [← hW6]; exact boxed_old (by omega) (alloc_old (by omega) u3)
    have v4 : W6.heap[w.heap.size + 1 + 1 + 1 + 1]? = some (.cells (Tw.row ps) 26 (0, 0)) := by rw [← hW6]; exact boxed_old (by omega) (alloc_old (by omega) u4)
    have v5 : W6.heap[w.heap.size + 1 + 1 + 1 + 1 + 1]? = some (.cells bk.arr 73 (0, 0)) := by rw [← hW6]; exact boxed_old (by omega) (alloc_old (by omega) u5)
    have v6 : W6.heap[g]? = some (.cells oc 61 (0, 0)) := by rw [← hW6]; exact boxed_old (by omega) (alloc_old (by omega) u6)
    have v7 : W6.heap[g + 1]? = some (.cells (a'.arr va') 33 (0, 0)) := by rw [← hW6]; exact boxed_old (by omega) (alloc_old (by omega) u7)
    have v8 : W6.heap[W5.heap.size]? = some (.cells bk'.arr 73 (0, 0)) := by rw [← hW6]; exact boxed_at (by simp)
    have hV6 : Below w.heap.size w W6 := by rw [← hW6]; exact boxed_below (hV5.alloc (by omega) _) (by omega)
    have HX46 : Hid (x = 0 → a' = A' ∧ Cys W6 n2 W4.heap.size va' A'.l) := fun h => ⟨(HX4.out h).1, by rw [← hW6]; exact (HX4.out h).2.kept fun i _ h2 => (boxed_block_other (by omega)).trans (alloc_block_old (by omega))⟩
    have HX56 : Hid (x = 0 → bk'.s 0 = S' ∧ bk'.td = T' ∧ (Cys W6 b0 c0 (bk'.v 0) S'.l ∨ Cys W6 W4.heap.size W5.heap.size (bk'.v 0) S'.l)) := fun h => ⟨(HX5.out h).1, (HX5.out h).2.1, by rw [← hW6]; exact (HX5.out h).2.2.imp (fun h => h.kept fun i _ h2 => (boxed_block_other (by omega)).trans (alloc_block_old (by omega))) (fun h => h.kept fun i _ h2 => (boxed_block_other (by omega)).trans (alloc_block_old (by omega)))⟩
    clear HX4 HX5
    rw [hW6]
    clear hW6 hV5 u0 u1 u2 u3 u4 u5 u6 u7
    obtain ⟨n6, hn6⟩ : ∃ n6, W5.heap.size = n6 := ⟨_, rfl⟩
    rw [hn6] at v8 hs5 hs6 HX56
    rw [hn6]
    clear hn6
    have hs6a : n6 < W6.heap.size := by omega
    have hs6b : W6.heap.size ≤ n6 + 1 := by omega
    clear hs6
    have bc : ∀ cs, (boxed W6 (w.heap.size) cs 38).cell? ⟨n6, 0, none⟩ = some (.int .i64 bk'.td) := fun cs => by rw [cell_of_row _ _ _ _ _ _ (boxed_old (by omega) v8)]; exact bk'.at0
    have hB6 : w.heap.size < W6.heap.size := by omega
    have eb := boxed_self v0
    rw [eb]
    clear eb
    by_cases hx0 : x = 0
    · obtain ⟨ha', hca⟩ := HX46.out hx0
      obtain ⟨hs', ht', hcs⟩ := HX56.out hx0
      have HTA := Lib.hid (HT.out hx0)
      clear HT
      have HSS := Lib.hid hs'
      have HTT := Lib.hid ht'
      clear hs' ht'
      subst hx0
      subst ha'
      go_wp2_with (((with_reducible_and_instances (show wpList _ _ _ (Oper.mk _ (Op.load 33 _) _ _ _ _ :: _) _ _)); refine stop_here ?_))
      refine ⟨?_⟩
      refine wl_load (cs := (a'.arr va')) (fr := (0, 0)) (g := g + 1) Try.underlying33 rfl info13 rfl rfl rfl (boxed_old (by omega) v7) rfl ?_
      go_wp2_with (((with_reducible_and_instances (show wpList _ _ _ (Oper.mk _ (Op.store 33 _ _) _ _ _ _ :: _) _ _)); refine stop_here ?_))
      refine ⟨?_⟩
      refine wpList_store_mid rfl _ _ _ rfl (w.heap.size) 0 (a'.arr va') rfl rfl (Wd.there hB6 (by rw [Av.arr_size]; omega)) info13 (Av.arr_one hone') ?_
      rw [Wd.store_a]
      go_wp2_with (((with_reducible_and_instances (show wpList _ _ _ (Oper.mk _ (Op.load 36 _) _ _ _ _ :: _) _ _)); refine stop_here ?_))
      refine ⟨?_⟩
      refine wpList_load_mid rfl _ _ rfl n6 (2 + 0 * 7) rfl ((bk'.s 0).arr (bk'.v 0)).toList _ (Bk.range (boxed_old (by omega) v8) (by omega)) Try.underlying36 rfl info7s ?_
      rw [Array.toArray_toList]
      go_wp2_with (((with_reducible_and_instances (show wpList _ _ _ (Oper.mk _ (Op.store 36 _ _) _ _ _ _ :: _) _ _)); refine stop_here ?_))
      refine ⟨?_⟩
      refine wpList_store_mid rfl _ _ _ rfl (w.heap.size) 13 ((bk'.s 0).arr (bk'.v 0)) rfl rfl (Wd.there hB6 (by rw [Sv.arr_size]; omega)) info7s (Sv.arr_one (hone5.2 0 (by omega))) ?_
      rw [Wd.store_s]
      go_upto_region 43 with fail
      have HTOLD : Hid (∀ (W : World) (va vs : Value), Cys W 0 W.heap.size va a'.l → Cys W 0 W.heap.size vs (bk'.s 0).l → Calls Try.prog 23 #[.agg (a'.arr va), .agg ((bk'.s 0).arr vs)] W fun e w' => e = .returned (.bool true) ∧ Below W.heap.size W w') := by rw [HSS.out]; exact HTA.out
      obtain ⟨pl', hpl'⟩ : ∃ pl', (bk'.s 0).pl = pl' := ⟨_, rfl⟩
      rw [hpl']
      have HPL' := Lib.hid hpl'
      clear hpl'
      obtain ⟨W9, hW9⟩ : ∃ W9, boxed W6 (w.heap.size) ({ a := a', va := va', s := bk'.s 0, vs := bk'.v 0, td := bk'.td, pl := pl' } : Wd).arr 38 = W9 := ⟨_, rfl⟩
      have y0 : W9.heap[w.heap.size]? = some (.cells ({ a := a', va := va', s := bk'.s 0, vs := bk'.v 0, td := bk'.td, pl := pl' } : Wd).arr 38 (0, 0)) := by rw [← hW9]; exact boxed_at (by omega)
      have y3 : W9.heap[w.heap.size + 1 + 1 + 1]? = some (.cells #[.int .u8 0, .int .i64 0, .int .i64 0, .int .i64 0, .int .i64 0, .int .i64 0, .bool false, .slice none 0 0, .int .i64 0, .int .i64 0, .int .i64 0, .int .i64 0, .int .i64 0, .int .u8 0, .int .i64 0, .int .i64 0, .int .i64 0, .int .i64 0, .bool false, .slice none 0 0, .int .i64 0, .int .i64 0] 38 (0, 0)) := by rw [← hW9]; exact boxed_old (by omega) v3
      have hV9 : Below w.heap.size w W9 := by rw [← hW9]; exact boxed_below hV6 (Nat.le_refl _)
      have hl9 : Parted b0 c0 (g + 2) W9 va' ({ a := a', va := va', s := bk'.s 0, vs := bk'.v 0, td := bk'.td, pl := pl' } : Wd).a.l ∧ Parted b0 c0 (g + 2) W9 (bk'.v 0) ({ a := a', va := va', s := bk'.s 0, vs := bk'.v 0, td := bk'.td, pl := pl' } : Wd).s.l := ⟨by rw [← hW9]; exact Parted.boxed (.inr (hca.more (by omega) (by omega))) hc0 (by omega), by rw [← hW9, HSS.out]; exact Parted.boxed (hcs.imp (fun h => h) (fun h => h.more (by omega) (by omega))) hc0 (by omega)⟩
      have hB9 : w.heap.size ≤ W9.heap.size := hV9.size
      have hC9 : c0 ≤ W9.heap.size := by omega
      rw [hW9]
      clear hW9
      have HY := Lib.hid y0
      have HL9 := Lib.hid hl9
      clear hl9
      refine laneT_start (ord := [0, 1, 2, 3, 4, 5, 6, 7]) (t := 7) (S := (fun w' : World => w'.heap[w.heap.size]? = some (.cells ({ a := a', va := va', s := bk'.s 0, vs := bk'.v 0, td := bk'.td, pl := pl' } : Wd).arr 38 (0, 0)))) rfl (by kernel_rfl) ?_
      refine laneT_take1 (v := .agg ({ a := a', va := va', s := bk'.s 0, vs := bk'.v 0, td := bk'.td, pl := pl' } : Wd).arr) rfl (by kernel_rfl) (by kernel_rfl) (by rfl) (fun W hSw => exec_load rfl rfl (by
        have h9 := run_loadAt_mid (P := Try.prog) W (w.heap.size) 0 38 _ _ (Wd.range_all hSw) Try.underlying38 rfl (Wd.info_all (b := ({ a := a', va := va', s := bk'.s 0, vs := bk'.v 0, td := bk'.td, pl := pl' } : Wd)))
        rw [Array.toArray_toList] at h9
        exact h9)) (by exact HY.out) ?_
      simp only [Act.put, List.setIfInBounds_toArray, List.set_cons_zero, List.set_cons_succ]
      iterate 1 (refine laneT_take1 (v := ?_) rfl (by kernel_rfl) (by kernel_rfl) (by rfl) ?_ (by exact HY.out) ?_; rotate_left; (focus (intro W hSw; go_simp; try (with_reducible rfl))); simp only [Act.put, List.setIfInBounds_toArray, List.set_cons_zero, List.set_cons_succ])
      refine laneT_take1 (v := .agg (({ a := a', va := va', s := bk'.s 0, vs := bk'.v 0, td := bk'.td, pl := pl' } : Wd).a.arr ({ a := a', va := va', s := bk'.s 0, vs := bk'.v 0, td := bk'.td, pl := pl' } : Wd).va)) rfl (by kernel_rfl) (by kernel_rfl) (by rfl) (fun W hSw => exec_load rfl rfl (by
        have h9 := run_loadAt_mid (P := Try.prog) W (w.heap.size) 0 33 _ _ (Wd.range_a hSw) Try.underlying33 rfl info13
        rw [Array.toArray_toList] at h9
        exact h9)) (by exact HY.out) ?_
      simp only [Act.put, List.setIfInBounds_toArray, List.set_cons_zero, List.set_cons_succ]
      iterate 1 (refine laneT_take1 (v := ?_) rfl (by kernel_rfl) (by kernel_rfl) (by rfl) ?_ (by exact HY.out) ?_; rotate_left; (focus (intro W hSw; go_simp; try (with_reducible rfl))); simp only [Act.put, List.setIfInBounds_toArray, List.set_cons_zero, List.set_cons_succ])
      refine laneT_take1 (v := .agg (({ a := a', va := va', s := bk'.s 0, vs := bk'.v 0, td := bk'.td, pl := pl' } : Wd).s.arr ({ a := a', va := va', s := bk'.s 0, vs := bk'.v 0, td := bk'.td, pl := pl' } : Wd).vs)) rfl (by kernel_rfl) (by kernel_rfl) (by rfl) (fun W hSw => exec_load rfl rfl (by
        have h9 := run_loadAt_mid (P := Try.prog) W (w.heap.size) 13 36 _ _ (Wd.range_s hSw) Try.underlying36 rfl info7s
        rw [Array.toArray_toList] at h9
        exact h9)) (by exact HY.out) ?_
      simp only [Act.put, List.setIfInBounds_toArray, List.set_cons_zero, List.set_cons_succ]
      refine laneT_alone rfl (by kernel_rfl) (by rfl) (fun KK hK => ?_)
      go_simp
      refine (HTOLD.out W9.drew _ _ ((HL9.out.1.whole hC9).kept fun _ _ _ => rfl) ((HL9.out.2.whole hC9).kept fun _ _ _ => rfl)).mono ?_
      rintro e wA ⟨rfl, hbA⟩
      have hbA : Below W9.heap.size W9 wA := (Below.refl _ W9).drew.trans hbA
      have yA : wA.heap[w.heap.size]? = some (.cells ({ a := a', va := va', s := bk'.s 0, vs := bk'.v 0, td := bk'.td, pl := pl' } : Wd).arr 38 (0, 0)) := below_block hbA y0
      have yA3 : wA.heap[w.heap.size + 1 + 1 + 1]? = some (.cells #[.int .u8 0, .int .i64 0, .int .i64 0, .int .i64 0, .int .i64 0, .int .i64 0, .bool false, .slice none 0 0, .int .i64 0, .int .i64 0, .int .i64 0, .int .i64 0, .int .i64 0, .int .u8 0, .int .i64 0, .int .i64 0, .int .i64 0, .int .i64 0, .bool false, .slice none 0 0, .int .i64 0, .int .i64 0] 38 (0, 0)) := below_block hbA y3
      refine hK _ _ (fun _ => yA) ?_
      clear hK KK
      refine laneT_alone rfl (by kernel_rfl) (by rfl) (fun KK hK => ?_)
      refine wp_store_row 38 _ _ rfl (w.heap.size + 1 + 1 + 1) ({ a := a', va := va', s := bk'.s 0, vs := bk'.v 0, td := bk'.td, pl := pl' } : Wd).arr rfl rfl 38 _ yA3 (by rw [Wd.arr_size]; exact Wd.info) (by rw [Wd.arr_size]; rfl) (Wd.arr_one hone' (hone5.2 0 (by omega))) ?_
      rw [row_boxed yA3]
      refine hK _ _ (fun _ => boxed_old (by omega) yA) ?_
      clear hK KK
      refine laneT_alone rfl (by kernel_rfl) (by rfl) (fun KK hK => ?_)
      go_simp
      refine hK _ _ (fun h => absurd rfl h) ?_
      clear hK KK
      refine laneT_end (by kernel_rfl) ?_
      have hz3 : w.heap.size + 1 + 1 + 1 < wA.heap.size := (Array.getElem?_eq_some_iff.1 yA3).1
      go_wp2_with fail
      refine bodyPost_ret (results_row_tmp rfl _ _ (w.heap.size + 1 + 1 + 1) 38 _ (0, 0) _ rfl (boxed_at hz3) Try.underlying38 rfl (by rw [Wd.arr_size]; exact Wd.info)) rfl ?_
      exact ⟨({ a := a', va := va', s := bk'.s 0, vs := bk'.v 0, td := bk'.td, pl := pl' } : Wd), rfl, fun h => absurd rfl h, fun _ => ⟨rfl, HSS.out, HTT.out, by rw [← HSS.out]; exact HPL'.out.symm, hone', hone5.2 0 (by omega), ((HL9.out.1.below hbA hC9).boxed (by omega) (by omega)).lower (by omega), by rw [← HSS.out]; exact ((HL9.out.2.below hbA hC9).boxed (by omega) (by omega)).lower (by omega)⟩, boxed_below (hV9.trans (hbA.mono hV9.size)) (by omega)⟩
    · have dx : (x == 0) = false := by simpa using hx0
      have dx2 : (x != 0) = true := by simpa using hx0
      go_upto_region 43 with fail
      have HTOLD := Lib.hid (HT0.out hx0)
      obtain ⟨W9, hW9⟩ : ∃ W9, boxed W6 (w.heap.size) b.arr 38 = W9 := ⟨_, rfl⟩
      have y0 : W9.heap[w.heap.size]? = some (.cells b.arr 38 (0, 0)) := by rw [← hW9]; exact boxed_at (by omega)
      have y3 : W9.heap[w.heap.size + 1 + 1 + 1]? = some (.cells #[.int .u8 0, .int .i64 0, .int .i64 0, .int .i64 0, .int .i64 0, .int .i64 0, .bool false, .slice none 0 0, .int .i64 0, .int .i64 0, .int .i64 0, .int .i64 0, .int .i64 0, .int .u8 0, .int .i64 0, .int .i64 0, .int .i64 0, .int .i64 0, .bool false, .slice none 0 0, .int .i64 0, .int .i64 0] 38 (0, 0)) := by rw [← hW9]; exact boxed_old (by omega) v3
      have hV9 : Below w.heap.size w W9 := by rw [← hW9]; exact boxed_below hV6 (Nat.le_refl _)
      have hl9 : Parted 0 w.heap.size (g + 2) W9 b.va b.a.l ∧ Parted 0 w.heap.size (g + 2) W9 b.vs b.s.l := ⟨by rw [← hW9]; exact Parted.boxed (.inl (HLB.out.1.below hV6)) (Nat.le_refl _) (by omega), by rw [← hW9]; exact Parted.boxed (.inl (HLB.out.2.below hV6)) (Nat.le_refl _) (by omega)⟩
      have hB9 : w.heap.size ≤ W9.heap.size := hV9.size
      have hC9 : w.heap.size ≤ W9.heap.size := by omega
      rw [hW9]
      clear hW9
      have HY := Lib.hid y0
      have HL9 := Lib.hid hl9
      clear hl9
      refine laneT_start (ord := [0, 1, 2, 3, 4, 5, 6, 7]) (t := 7) (S := (fun w' : World => w'.heap[w.heap.size]? = some (.cells b.arr 38 (0, 0)))) rfl (by kernel_rfl) ?_
      refine laneT_take1 (v := .agg b.arr) rfl (by kernel_rfl) (by kernel_rfl) (by rfl) (fun W hSw => exec_load rfl rfl (by
        have h9 := run_loadAt_mid (P := Try.prog) W (w.heap.size) 0 38 _ _ (Wd.range_all hSw) Try.underlying38 rfl (Wd.info_all (b := b))
        rw [Array.toArray_toList] at h9
        exact h9)) (by exact HY.out) ?_
      simp only [Act.put, List.setIfInBounds_toArray, List.set_cons_zero, List.set_cons_succ]
      iterate 1 (refine laneT_take1 (v := ?_) rfl (by kernel_rfl) (by kernel_rfl) (by rfl) ?_ (by exact HY.out) ?_; rotate_left; (focus (intro W hSw; go_simp; try (with_reducible rfl))); simp only [Act.put, List.setIfInBounds_toArray, List.set_cons_zero, List.set_cons_succ])
      refine laneT_take1 (v := .agg (b.a.arr b.va)) rfl (by kernel_rfl) (by kernel_rfl) (by rfl) (fun W hSw => exec_load rfl rfl (by
        have h9 := run_loadAt_mid (P := Try.prog) W (w.heap.size) 0 33 _ _ (Wd.range_a hSw) Try.underlying33 rfl info13
        rw [Array.toArray_toList] at h9
        exact h9)) (by exact HY.out) ?_
      simp only [Act.put, List.setIfInBounds_toArray, List.set_cons_zero, List.set_cons_succ]
      iterate 1 (refine laneT_take1 (v := ?_) rfl (by kernel_rfl) (by kernel_rfl) (by rfl) ?_ (by exact HY.out) ?_; rotate_left; (focus (intro W hSw; go_simp; try (with_reducible rfl))); simp only [Act.put, List.setIfInBounds_toArray, List.set_cons_zero, List.set_cons_succ])
      refine laneT_take1 (v := .agg (b.s.arr b.vs)) rfl (by kernel_rfl) (by kernel_rfl) (by rfl) (fun W hSw => exec_load rfl rfl (by
        have h9 := run_loadAt_mid (P := Try.prog) W (w.heap.size) 13 36 _ _ (Wd.range_s hSw) Try.underlying36 rfl info7s
        rw [Array.toArray_toList] at h9
        exact h9)) (by exact HY.out) ?_
      simp only [Act.put, List.setIfInBounds_toArray, List.set_cons_zero, List.set_cons_succ]
      refine laneT_alone rfl (by kernel_rfl) (by rfl) (fun KK hK => ?_)
      go_simp
      refine (HTOLD.out W9.drew _ _ ((HL9.out.1.whole hC9).kept fun _ _ _ => rfl) ((HL9.out.2.whole hC9).kept fun _ _ _ => rfl)).mono ?_
      rintro e wA ⟨rfl, hbA⟩
      have hbA : Below W9.heap.size W9 wA := (Below.refl _ W9).drew.trans hbA
      have yA : wA.heap[w.heap.size]? = some (.cells b.arr 38 (0, 0)) := below_block hbA y0
      have yA3 : wA.heap[w.heap.size + 1 + 1 + 1]? = some (.cells #[.int .u8 0, .int .i64 0, .int .i64 0, .int .i64 0, .int .i64 0, .int .i64 0, .bool false, .slice none 0 0, .int .i64 0, .int .i64 0, .int .i64 0, .int .i64 0, .int .i64 0, .int .u8 0, .int .i64 0, .int .i64 0, .int .i64 0, .int .i64 0, .bool false, .slice none 0 0, .int .i64 0, .int .i64 0] 38 (0, 0)) := below_block hbA y3
      refine hK _ _ (fun _ => yA) ?_
      clear hK KK
      refine laneT_alone rfl (by kernel_rfl) (by rfl) (fun KK hK => ?_)
      refine wp_store_row 38 _ _ rfl (w.heap.size + 1 + 1 + 1) b.arr rfl rfl 38 _ yA3 (by rw [Wd.arr_size]; exact Wd.info) (by rw [Wd.arr_size]; rfl) (Wd.arr_one hva hvs) ?_
      rw [row_boxed yA3]
      refine hK _ _ (fun _ => boxed_old (by omega) yA) ?_
      clear hK KK
      refine laneT_alone rfl (by kernel_rfl) (by rfl) (fun KK hK => ?_)
      go_simp
      refine hK _ _ (fun h => absurd rfl h) ?_
      clear hK KK
      refine laneT_end (by kernel_rfl) ?_
      have hz3 : w.heap.size + 1 + 1 + 1 < wA.heap.size := (Array.getElem?_eq_some_iff.1 yA3).1
      go_wp2_with fail
      refine bodyPost_ret (results_row_tmp rfl _ _ (w.heap.size + 1 + 1 + 1) 38 _ (0, 0) _ rfl (boxed_at hz3) Try.underlying38 rfl (by rw [Wd.arr_size]; exact Wd.info)) rfl ?_
      exact ⟨b, rfl, fun _ => rfl, fun h => absurd h hx0, boxed_below (hV9.trans (hbA.mono hV9.size)) (by omega)⟩
  case first =>
    have HW2 := HW.out
    clear HW HSb HT HT0
    cases HW2 with
    | pass N p0 hk hN hp hpl ew h h7 =>
      have hpI : (p0 : Int) < 2 := by omega
      have hpJ : (0 : Int) ≤ (p0 : Int) := by omega
      have HA := Lib.hid h
      have EW := Lib.hid ew
      have HPL0 := Lib.hid hpl
      clear h ew hpl wc21
      have wc21 : ∀ cs, (boxed W1 g cs 61).cell? ⟨w.heap.size, 21, none⟩ = some (.int .i64 (p0 : Int)) := fun cs => by rw [cell_of_row _ _ _ _ _ _ (boxed_old (by omega) f0), ← HPL0.out]; exact b.at21
      go_upto_region 16 with fail
      obtain ⟨W2, hW2⟩ : ∃ W2, boxed W1 g #[.int .u8 9, .int .i64 0, .int .i64 0, .int .i64 N, .int .i64 0, .int .u8 0, .int .i64 0, .int .i64 0, .bool false, .bool false, .int .u8 0, .int .i64 0, .int .i64 0, .int .i64 0, .int .i64 0, .int .u8 0] 61 = W2 := ⟨_, rfl⟩
      have q0 : W2.heap[w.heap.size]? = some (.cells b.arr 38 (0, 0)) := by rw [← hW2]; exact boxed_old (by omega) f0
      have q1 : W2.heap[w.heap.size + 1]? = some (.cells (Tw.arr ps) 27 (0, 0)) := by rw [← hW2]; exact boxed_old (by omega) f1
      have q2 : W2.heap[w.heap.size + 1 + 1]? = some (.cells #[.int .u8 K, .int .u8 A, .int .u8 B] 43 (0, 0)) := by rw [← hW2]; exact boxed_old (by omega) f2
      have q3 : W2.heap[w.heap.size + 1 + 1 + 1]? = some (.cells #[.int .u8 0, .int .i64 0, .int .i64 0, .int .i64 0, .int .i64 0, .int .i64 0, .bool false, .slice none 0 0, .int .i64 0, .int .i64 0, .int .i64 0, .int .i64 0, .int .i64 0, .int .u8 0, .int .i64 0, .int .i64 0, .int .i64 0, .int .i64 0, .bool false, .slice none 0 0, .int .i64 0, .int .i64 0] 38 (0, 0)) := by rw [← hW2]; exact boxed_old (by omega) f3
      have q4 : W2.heap[w.heap.size + 1 + 1 + 1 + 1]? = some (.cells (Tw.row ps) 26 (0, 0)) := by rw [← hW2]; exact boxed_old (by omega) f4
      have q5 : W2.heap[w.heap.size + 1 + 1 + 1 + 1 + 1]? = some (.cells bk.arr 73 (0, 0)) := by rw [← hW2]; exact boxed_old (by omega) f5
      have q6 : W2.heap[g]? = some (.cells #[.int .u8 9, .int .i64 0, .int .i64 0, .int .i64 N, .int .i64 0, .int .u8 0, .int .i64 0, .int .i64 0, .bool false, .bool false, .int .u8 0, .int .i64 0, .int .i64 0, .int .i64 0, .int .i64 0, .int .u8 0] 61 (0, 0)) := by rw [← hW2]; exact boxed_at hzg0
      have q7 : W2.heap[g + 1]? = some (.cells (b.a.arr b.va) 33 (0, 0)) := by rw [← hW2]; exact boxed_old (by omega) f7
      have hV2 : Below w.heap.size w W2 := by rw [← hW2]; exact boxed_below hV (by omega)
      rw [hW2]
      clear hW2 f0 f1 f2 f3 f4 f5 f6 f7 hV ac0 ac1 ac2 wc20 wc21
      have HCF : Hid (∀ W : World, (fun w' : World => w'.heap[w.heap.size]? = some (.cells b.arr 38 (0, 0)) ∧ w'.heap[w.heap.size + 1]? = some (.cells (Tw.arr ps) 27 (0, 0)) ∧ w'.heap[g]? = some (.cells #[.int .u8 9, .int .i64 0, .int .i64 0, .int .i64 N, .int .i64 0, .int .u8 0, .int .i64 0, .int .i64 0, .bool false, .bool false, .int .u8 0, .int .i64 0, .int .i64 0, .int .i64 0, .int .i64 0, .int .u8 0] 61 (0, 0))) W → W.cell? ⟨w.heap.size, 21, none⟩ = some (.int .i64 (p0 : Int)) ∧ W.cell? ⟨w.heap.size, 20, none⟩ = some (.int .i64 b.td) ∧ W.cell? ⟨g, 3, none⟩ = some (.int .i64 N)) := fun W hS => ⟨by rw [cell_of_row _ _ _ _ _ _ hS.1, ← HPL0.out]; exact b.at21, by rw [cell_of_row _ _ _ _ _ _ hS.1]; exact b.at20, by rw [cell_of_row _ _ _ _ _ _ hS.2.2]; rfl⟩
      have HY : Hid ((fun w' : World => w'.heap[w.heap.size]? = some (.cells b.arr 38 (0, 0)) ∧ w'.heap[w.heap.size + 1]? = some (.cells (Tw.arr ps) 27 (0, 0)) ∧ w'.heap[g]? = some (.cells #[.int .u8 9, .int .i64 0, .int .i64 0, .int .i64 N, .int .i64 0, .int .u8 0, .int .i64 0, .int .i64 0, .bool false, .bool false, .int .u8 0, .int .i64 0, .int .i64 0, .int .i64 0, .int .i64 0, .int .u8 0] 61 (0, 0))) W2.drew) := ⟨q0, q1, q6⟩
      refine laneT_start (ord := [0, 1, 2, 3, 4, 5, 6, 7, 8, 9, 10, 11, 12, 13, 14, 15, 16]) (t := 16) (S := (fun w' : World => w'.heap[w.heap.size]? = some (.cells b.arr 38 (0, 0)) ∧ w'.heap[w.heap.size + 1]? = some (.cells (Tw.arr ps) 27 (0, 0)) ∧ w'.heap[g]? = some (.cells #[.int .u8 9, .int .i64 0, .int .i64 0, .int .i64 N, .int .i64 0, .int .u8 0, .int .i64 0, .int .i64 0, .bool false, .bool false, .int .u8 0, .int .i64 0, .int .i64 0, .int .i64 0, .int .i64 0, .int .u8 0] 61 (0, 0)))) rfl (by kernel_rfl) ?_
      iterate 1 (refine laneT_take1 (v := ?_) rfl (by kernel_rfl) (by kernel_rfl) (by rfl) ?_ (by exact HY.out) ?_; rotate_left; (focus (intro W hSw; have x0 := HCF.out W hSw; obtain ⟨x1, x2, x3⟩ := x0; go_simp; try (with_reducible rfl))); simp only [Act.put, List.setIfInBounds_toArray, List.set_cons_zero, List.set_cons_succ])
      refine laneT_take1 (v := .agg (b.a.arr b.va)) rfl (by kernel_rfl) (by kernel_rfl) (by rfl) (fun W hSw => exec_load rfl rfl (by
        have h9 := run_loadAt_mid (P := Try.prog) W (w.heap.size) (0) 33 _ _ (Wd.range_a hSw.1) Try.underlying33 rfl info13
        rw [Array.toArray_toList] at h9
        exact h9)) (by exact HY.out) ?_
      simp only [Act.put, List.setIfInBounds_toArray, List.set_cons_zero, List.set_cons_succ]
      iterate 3 (refine laneT_take1 (v := ?_) rfl (by kernel_rfl) (by kernel_rfl) (by rfl) ?_ (by exact HY.out) ?_; rotate_left; (focus (intro W hSw; have x0 := HCF.out W hSw; obtain ⟨x1, x2, x3⟩ := x0; go_simp; try (with_reducible rfl))); simp only [Act.put, List.setIfInBounds_toArray, List.set_cons_zero, List.set_cons_succ])
      refine laneT_take1 (v := .agg (ps p0).arr) rfl (by kernel_rfl) (by kernel_rfl) (by rfl) (fun W hSw => exec_load rfl rfl (by
        have h9 := run_loadAt_mid (P := Try.prog) W (w.heap.size + 1) (p0 * 6) 26 _ _ (Tw.range hSw.2.1 (k := p0) (by omega)) Try.underlying26 rfl info6p
        rw [Array.toArray_toList] at h9
        exact h9)) (by exact HY.out) ?_
      simp only [Act.put, List.setIfInBounds_toArray, List.set_cons_zero, List.set_cons_succ]
      iterate 4 (refine laneT_take1 (v := ?_) rfl (by kernel_rfl) (by kernel_rfl) (by rfl) ?_ (by exact HY.out) ?_; rotate_left; (focus (intro W hSw; have x0 := HCF.out W hSw; obtain ⟨x1, x2, x3⟩ := x0; go_simp; try (with_reducible rfl))); simp only [Act.put, List.setIfInBounds_toArray, List.set_cons_zero, List.set_cons_succ])
      iterate 1 (refine laneT_take1 (v := ?_) rfl (by kernel_rfl) (by kernel_rfl) (by rfl) ?_ (by exact HY.out) ?_; rotate_left; (focus (intro W hSw; have x0 := HCF.out W hSw; obtain ⟨x1, x2, x3⟩ := x0; go_simp; try (with_reducible rfl))); simp only [Act.put, List.setIfInBounds_toArray, List.set_cons_zero, List.set_cons_succ])
      refine laneT_alone rfl (by kernel_rfl) (by rfl) (fun KK hK => ?_)
      go_simp
      rw [EW.out]
      refine (HA.out W2.drew ((Below.refl _ w).trans hV2.drew)).mono ?_
      rintro e W3 ⟨a', va', rfl, hone', hx', hb⟩
      have hb : Below W2.heap.size W2 W3 := (Below.refl _ W2).drew.trans hb
      have hx' : x = 0 → a' = A' ∧ Cys W3 W2.heap.size W3.heap.size va' A'.l := hx'
      have HX' := Lib.hid hx'
      clear hx'
      have hs2 : g + 1 < W2.heap.size := (Array.getElem?_eq_some_iff.1 q7).1
      have r0 : W3.heap[w.heap.size]? = some (.cells b.arr 38 (0, 0)) := below_block hb q0
      have r1 : W3.heap[w.heap.size + 1]? = some (.cells (Tw.arr ps) 27 (0, 0)) := below_block hb q1
      have r2 : W3.heap[w.heap.size + 1 + 1]? = some (.cells #[.int .u8 K, .int .u8 A, .int .u8 B] 43 (0, 0)) := below_block hb q2
      have r3 : W3.heap[w.heap.size + 1 + 1 + 1]? = some (.cells #[.int .u8 0, .int .i64 0, .int .i64 0, .int .i64 0, .int .i64 0, .int .i64 0, .bool false, .slice none 0 0, .int .i64 0, .int .i64 0, .int .i64 0, .int .i64 0, .int .i64 0, .int .u8 0, .int .i64 0, .int .i64 0, .int .i64 0, .int .i64 0, .bool false, .slice none 0 0, .int .i64 0, .int .i64 0] 38 (0, 0)) := below_block hb q3
      have r4 : W3.heap[w.heap.size + 1 + 1 + 1 + 1]? = some (.cells (Tw.row ps) 26 (0, 0)) := below_block hb q4
      have r5 : W3.heap[w.heap.size + 1 + 1 + 1 + 1 + 1]? = some (.cells bk.arr 73 (0, 0)) := below_block hb q5
      have r6 : W3.heap[g]? = some (.cells #[.int .u8 9, .int .i64 0, .int .i64 0, .int .i64 N, .int .i64 0, .int .u8 0, .int .i64 0, .int .i64 0, .bool false, .bool false, .int .u8 0, .int .i64 0, .int .i64 0, .int .i64 0, .int .i64 0, .int .u8 0] 61 (0, 0)) := below_block hb q6
      have r7 : W3.heap[g + 1]? = some (.cells (b.a.arr b.va) 33 (0, 0)) := below_block hb q7
      have hV3 : Below w.heap.size w W3 := hV2.trans (hb.mono hV2.size)
      have hzg3 : g + 1 < W3.heap.size := (Array.getElem?_eq_some_iff.1 r7).1
      clear hb q0 q1 q2 q3 q4 q5 q6 q7 hV2 hzg hzg0 W1
      have HY3 : Hid ((fun w' : World => w'.heap[w.heap.size]? = some (.cells b.arr 38 (0, 0)) ∧ w'.heap[w.heap.size + 1]? = some (.cells (Tw.arr ps) 27 (0, 0)) ∧ w'.heap[g]? = some (.cells #[.int .u8 9, .int .i64 0, .int .i64 0, .int .i64 N, .int .i64 0, .int .u8 0, .int .i64 0, .int .i64 0, .bool false, .bool false, .int .u8 0, .int .i64 0, .int .i64 0, .int .i64 0, .int .i64 0, .int .u8 0] 61 (0, 0))) W3) := ⟨r0, r1, r6⟩
      refine hK _ _ (fun _ => HY3.out) ?_
      clear hK KK HY
      refine laneT_alone rfl (by kernel_rfl) (by rfl) (fun KK hK => ?_)
      go_simp
      refine hK _ _ (fun _ => HY3.out) ?_
      clear hK KK
      iterate 2 (refine laneT_take1 (v := ?_) rfl (by kernel_rfl) (by kernel_rfl) (by rfl) ?_ (by exact HY3.out) ?_; rotate_left; (focus (intro W hSw; have x0 := HCF.out W hSw; obtain ⟨x1, x2, x3⟩ := x0; go_simp; try (with_reducible rfl))); simp only [Act.put, List.setIfInBounds_toArray, List.set_cons_zero, List.set_cons_succ])
      refine laneT_alone rfl (by kernel_rfl) (by rfl) (fun KK hK => ?_)
      refine wp_store_row 33 _ _ rfl (g + 1) (a'.arr va') rfl rfl 33 _ r7 info13 rfl (Av.arr_one hone') ?_
      rw [row_boxed r7]
      refine hK _ _ (fun _ => ⟨boxed_old (by omega) r0, boxed_old (by omega) r1, boxed_old (by omega) r6⟩) ?_
      clear hK KK
      refine laneT_alone rfl (by kernel_rfl) (by rfl) (fun KK hK => ?_)
      go_simp
      refine hK _ _ (fun h => absurd rfl h) ?_
      clear hK KK HY3 HCF
      refine laneT_end (by kernel_rfl) ?_
      obtain ⟨W4, hW4⟩ : ∃ W4, boxed W3 (g + 1) (a'.arr va') 33 = W4 := ⟨_, rfl⟩
      have t0 : W4.heap[w.heap.size]? = some (.cells b.arr 38 (0, 0)) := by rw [← hW4]; exact boxed_old (by omega) r0
      have t1 : W4.heap[w.heap.size + 1]? = some (.cells (Tw.arr ps) 27 (0, 0)) := by rw [← hW4]; exact boxed_old (by omega) r1
      have t2 : W4.heap[w.heap.size + 1 + 1]? = some (.cells #[.int .u8 K, .int .u8 A, .int .u8 B] 43 (0, 0)) := by rw [← hW4]; exact boxed_old (by omega) r2
      have t3 : W4.heap[w.heap.size + 1 + 1 + 1]? = some (.cells #[.int .u8 0, .int .i64 0, .int .i64 0, .int .i64 0, .int .i64 0, .int .i64 0, .bool false, .slice none 0 0, .int .i64 0, .int .i64 0, .int .i64 0, .int .i64 0, .int .i64 0, .int .u8 0, .int .i64 0, .int .i64 0, .int .i64 0, .int .i64 0, .bool false, .slice none 0 0, .int .i64 0, .int .i64 0] 38 (0, 0)) := by rw [← hW4]; exact boxed_old (by omega) r3
      have t4 : W4.heap[w.heap.size + 1 + 1 + 1 + 1]? = some (.cells (Tw.row ps) 26 (0, 0)) := by rw [← hW4]; exact boxed_old (by omega) r4
      have t5 : W4.heap[w.heap.size + 1 + 1 + 1 + 1 + 1]? = some (.cells bk.arr 73 (0, 0)) := by rw [← hW4]; exact boxed_old (by omega) r5
      have t6 : W4.heap[g]? = some (.cells #[.int .u8 9, .int .i64 0, .int .i64 0, .int .i64 N, .int .i64 0, .int .u8 0, .int .i64 0, .int .i64 0, .bool false, .bool false, .int .u8 0, .int .i64 0, .int .i64 0, .int .i64 0, .int .i64 0, .int .u8 0] 61 (0, 0)) := by rw [← hW4]; exact boxed_old (by omega) r6
      have t7 : W4.heap[g + 1]? = some (.cells (a'.arr va') 33 (0, 0)) := by rw [← hW4]; exact boxed_at hzg3
      have hV4 : Below w.heap.size w W4 := by rw [← hW4]; exact boxed_below hV3 (by omega)
      have hx4 : Hid (x = 0 → a' = A' ∧ Cys W4 W2.heap.size W4.heap.size va' A'.l) := fun h => ⟨(HX'.out h).1, by rw [← hW4]; exact (((HX'.out h).2).boxed (.inl (by omega))).more (Nat.le_refl _) (by simp)⟩
      rw [hW4]
      clear hW4 HX' hV3 r0 r1 r2 r3 r4 r5 r6 r7
      go_wp2_with fail
      go_meet
      case rel => exact ⟨rfl, _, _, W2.heap.size, ⟨t0, t1, t2, t3, t4, t5, t6, t7, hone', hV4, hs2, hx4.out, h7⟩⟩
    | pause hk h h7 =>
      have HA := Lib.hid h
      clear h
      go_wp2_with (((with_reducible_and_instances (show wpList _ _ _ (Oper.mk _ (Op.load 33 _) _ _ _ _ :: _) _ _)); refine stop_here ?_))
      refine ⟨?_⟩
      refine wpList_load_mid rfl _ _ rfl w.heap.size 0 rfl (b.a.arr b.va).toList _ (Wd.range_a (boxed_old (by omega) f0)) Try.underlying33 rfl info13 ?_
      rw [Array.toArray_toList]
      go_wp2_with fail
      obtain ⟨W2, hW2⟩ : ∃ W2, boxed W1 g #[.int .u8 4, .int .i64 0, .int .i64 0, .int .i64 0, .int .i64 0, .int .u8 0, .int .i64 0, .int .i64 0, .bool false, .bool false, .int .u8 0, .int .i64 0, .int .i64 0, .int .i64 0, .int .i64 0, .int .u8 0] 61 = W2 := ⟨_, rfl⟩
      have q0 : W2.heap[w.heap.size]? = some (.cells b.arr 38 (0, 0)) := by rw [← hW2]; exact boxed_old (by omega) f0
      have q1 : W2.heap[w.heap.size + 1]? = some (.cells (Tw.arr ps) 27 (0, 0)) := by rw [← hW2]; exact boxed_old (by omega) f1
      have q2 : W2.heap[w.heap.size + 1 + 1]? = some (.cells #[.int .u8 K, .int .u8 A, .int .u8 B] 43 (0, 0)) := by rw [← hW2]; exact boxed_old (by omega) f2
      have q3 : W2.heap[w.heap.size + 1 + 1 + 1]? = some (.cells #[.int .u8 0, .int .i64 0, .int .i64 0, .int .i64 0, .int .i64 0, .int .i64 0, .bool false, .slice none 0 0, .int .i64 0, .int .i64 0, .int .i64 0, .int .i64 0, .int .i64 0, .int .u8 0, .int .i64 0, .int .i64 0, .int .i64 0, .int .i64 0, .bool false, .slice none 0 0, .int .i64 0, .int .i64 0] 38 (0, 0)) := by rw [← hW2]; exact boxed_old (by omega) f3
      have q4 : W2.heap[w.heap.size + 1 + 1 + 1 + 1]? = some (.cells (Tw.row ps) 26 (0, 0)) := by rw [← hW2]; exact boxed_old (by omega) f4
      have q5 : W2.heap[w.heap.size + 1 + 1 + 1 + 1 + 1]? = some (.cells bk.arr 73 (0, 0)) := by rw [← hW2]; exact boxed_old (by omega) f5
      have q6 : W2.heap[g]? = some (.cells #[.int .u8 4, .int .i64 0, .int .i64 0, .int .i64 0, .int .i64 0, .int .u8 0, .int .i64 0, .int .i64 0, .bool false, .bool false, .int .u8 0, .int .i64 0, .int .i64 0, .int .i64 0, .int .i64 0, .int .u8 0] 61 (0, 0)) := by rw [← hW2]; exact boxed_at hzg0
      have q7 : W2.heap[g + 1]? = some (.cells (b.a.arr b.va) 33 (0, 0)) := by rw [← hW2]; exact boxed_old (by omega) f7
      have hV2 : Below w.heap.size w W2 := by rw [← hW2]; exact boxed_below hV (by omega)
      rw [hW2]
      clear hW2 f0 f1 f2 f3 f4 f5 f6 f7 hV ac0 ac1 ac2 wc20 wc21
      refine (HA.out _ hV2).mono ?_
      rintro e W3 ⟨a', va', rfl, hone', hx', hb⟩
      have HX' := Lib.hid hx'
      clear hx'
      have hs2 : g + 1 < W2.heap.size := (Array.getElem?_eq_some_iff.1 q7).1
      have r0 : W3.heap[w.heap.size]? = some (.cells b.arr 38 (0, 0)) := below_block hb q0
      have r1 : W3.heap[w.heap.size + 1]? = some (.cells (Tw.arr ps) 27 (0, 0)) := below_block hb q1
      have r2 : W3.heap[w.heap.size + 1 + 1]? = some (.cells #[.int .u8 K, .int .u8 A, .int .u8 B] 43 (0, 0)) := below_block hb q2
      have r3 : W3.heap[w.heap.size + 1 + 1 + 1]? = some (.cells #[.int .u8 0, .int .i64 0, .int .i64 0, .int .i64 0, .int .i64 0, .int .i64 0, .bool false, .slice none 0 0, .int .i64 0, .int .i64 0, .int .i64 0, .int .i64 0, .int .i64 0, .int .u8 0, .int .i64 0, .int .i64 0, .int .i64 0, .int .i64 0, .bool false, .slice none 0 0, .int .i64 0, .int .i64 0] 38 (0, 0)) := below_block hb q3
      have r4 : W3.heap[w.heap.size + 1 + 1 + 1 + 1]? = some (.cells (Tw.row ps) 26 (0, 0)) := below_block hb q4
      have r5 : W3.heap[w.heap.size + 1 + 1 + 1 + 1 + 1]? = some (.cells bk.arr 73 (0, 0)) := below_block hb q5
      have r6 : W3.heap[g]? = some (.cells #[.int .u8 4, .int .i64 0, .int .i64 0, .int .i64 0, .int .i64 0, .int .u8 0, .int .i64 0, .int .i64 0, .bool false, .bool false, .int .u8 0, .int .i64 0, .int .i64 0, .int .i64 0, .int .i64 0, .int .u8 0] 61 (0, 0)) := below_block hb q6
      have r7 : W3.heap[g + 1]? = some (.cells (b.a.arr b.va) 33 (0, 0)) := below_block hb q7
      have hV3 : Below w.heap.size w W3 := hV2.trans (hb.mono hV2.size)
      have hzg3 : g + 1 < W3.heap.size := (Array.getElem?_eq_some_iff.1 r7).1
      clear hb q0 q1 q2 q3 q4 q5 q6 q7 hV2 hzg hzg0 W1
      go_wp2_with (((with_reducible_and_instances (show wpList _ _ _ (Oper.mk _ (Op.store 33 _ _) _ _ _ _ :: _) _ _)); refine stop_here ?_))
      refine ⟨?_⟩
      refine wl_store (g := g + 1) info13 rfl rfl rfl rfl r7 rfl rfl (Av.arr_one hone') ?_
      obtain ⟨W4, hW4⟩ : ∃ W4, boxed W3 (g + 1) (a'.arr va') 33 = W4 := ⟨_, rfl⟩
      have t0 : W4.heap[w.heap.size]? = some (.cells b.arr 38 (0, 0)) := by rw [← hW4]; exact boxed_old (by omega) r0
      have t1 : W4.heap[w.heap.size + 1]? = some (.cells (Tw.arr ps) 27 (0, 0)) := by rw [← hW4]; exact boxed_old (by omega) r1
      have t2 : W4.heap[w.heap.size + 1 + 1]? = some (.cells #[.int .u8 K, .int .u8 A, .int .u8 B] 43 (0, 0)) := by rw [← hW4]; exact boxed_old (by omega) r2
      have t3 : W4.heap[w.heap.size + 1 + 1 + 1]? = some (.cells #[.int .u8 0, .int .i64 0, .int .i64 0, .int .i64 0, .int .i64 0, .int .i64 0, .bool false, .slice none 0 0, .int .i64 0, .int .i64 0, .int .i64 0, .int .i64 0, .int .i64 0, .int .u8 0, .int .i64 0, .int .i64 0, .int .i64 0, .int .i64 0, .bool false, .slice none 0 0, .int .i64 0, .int .i64 0] 38 (0, 0)) := by rw [← hW4]; exact boxed_old (by omega) r3
      have t4 : W4.heap[w.heap.size + 1 + 1 + 1 + 1]? = some (.cells (Tw.row ps) 26 (0, 0)) := by rw [← hW4]; exact boxed_old (by omega) r4
      have t5 : W4.heap[w.heap.size + 1 + 1 + 1 + 1 + 1]? = some (.cells bk.arr 73 (0, 0)) := by rw [← hW4]; exact boxed_old (by omega) r5
      have t6 : W4.heap[g]? = some (.cells #[.int .u8 4, .int .i64 0, .int .i64 0, .int .i64 0, .int .i64 0, .int .u8 0, .int .i64 0, .int .i64 0, .bool false, .bool false, .int .u8 0, .int .i64 0, .int .i64 0, .int .i64 0, .int .i64 0, .int .u8 0] 61 (0, 0)) := by rw [← hW4]; exact boxed_old (by omega) r6
      have t7 : W4.heap[g + 1]? = some (.cells (a'.arr va') 33 (0, 0)) := by rw [← hW4]; exact boxed_at hzg3
      have hV4 : Below w.heap.size w W4 := by rw [← hW4]; exact boxed_below hV3 (by omega)
      have hx4 : Hid (x = 0 → a' = A' ∧ Cys W4 W2.heap.size W4.heap.size va' A'.l) := fun h => ⟨(HX'.out h).1, by rw [← hW4]; exact (((HX'.out h).2).boxed (.inl (by omega))).more (Nat.le_refl _) (by simp)⟩
      rw [hW4]
      clear hW4 HX' hV3 r0 r1 r2 r3 r4 r5 r6 r7
      go_wp2_with fail
      go_meet
      case rel => exact ⟨rfl, _, _, W2.heap.size, ⟨t0, t1, t2, t3, t4, t5, t6, t7, hone', hV4, hs2, hx4.out, h7⟩⟩
    | resume hk h h7 =>
      have HA := Lib.hid h
      clear h
      go_wp2_with (((with_reducible_and_instances (show wpList _ _ _ (Oper.mk _ (Op.load 33 _) _ _ _ _ :: _) _ _)); refine stop_here ?_))
      refine ⟨?_⟩
      refine wpList_load_mid rfl _ _ rfl w.heap.size 0 rfl (b.a.arr b.va).toList _ (Wd.range_a (boxed_old (by omega) f0)) Try.underlying33 rfl info13 ?_
      rw [Array.toArray_toList]
      go_wp2_with fail
      obtain ⟨W2, hW2⟩ : ∃ W2, boxed W1 g #[.int .u8 5, .int .i64 0, .int .i64 0, .int .i64 0, .int .i64 0, .int .u8 0, .int .i64 0, .int .i64 0, .bool false, .bool false, .int .u8 0, .int .i64 0, .int .i64 0, .int .i64 0, .int .i64 0, .int .u8 0] 61 = W2 := ⟨_, rfl⟩
      have q0 : W2.heap[w.heap.size]? = some (.cells b.arr 38 (0, 0)) := by rw [← hW2]; exact boxed_old (by omega) f0
      have q1 : W2.heap[w.heap.size + 1]? = some (.cells (Tw.arr ps) 27 (0, 0)) := by rw [← hW2]; exact boxed_old (by omega) f1
      have q2 : W2.heap[w.heap.size + 1 + 1]? = some (.cells #[.int .u8 K, .int .u8 A, .int .u8 B] 43 (0, 0)) := by rw [← hW2]; exact boxed_old (by omega) f2
      have q3 : W2.heap[w.heap.size + 1 + 1 + 1]? = some (.cells #[.int .u8 0, .int .i64 0, .int .i64 0, .int .i64 0, .int .i64 0, .int .i64 0, .bool false, .slice none 0 0, .int .i64 0, .int .i64 0, .int .i64 0, .int .i64 0, .int .i64 0, .int .u8 0, .int .i64 0, .int .i64 0, .int .i64 0, .int .i64 0, .bool false, .slice none 0 0, .int .i64 0, .int .i64 0] 38 (0, 0)) := by rw [← hW2]; exact boxed_old (by omega) f3
      have q4 : W2.heap[w.heap.size + 1 + 1 + 1 + 1]? = some (.cells (Tw.row ps) 26 (0, 0)) := by rw [← hW2]; exact boxed_old (by omega) f4
      have q5 : W2.heap[w.heap.size + 1 + 1 + 1 + 1 + 1]? = some (.cells bk.arr 73 (0, 0)) := by rw [← hW2]; exact boxed_old (by omega) f5
      have q6 : W2.heap[g]? = some (.cells #[.int .u8 5, .int .i64 0, .int .i64 0, .int .i64 0, .int .i64 0, .int .u8 0, .int .i64 0, .int .i64 0, .bool false, .bool false, .int .u8 0, .int .i64 0, .int .i64 0, .int .i64 0, .int .i64 0, .int .u8 0] 61 (0, 0)) := by rw [← hW2]; exact boxed_at hzg0
      have q7 : W2.heap[g + 1]? = some (.cells (b.a.arr b.va) 33 (0, 0)) := by rw [← hW2]; exact boxed_old (by omega) f7
      have hV2 : Below w.heap.size w W2 := by rw [← hW2]; exact boxed_below hV (by omega)
      rw [hW2]
      clear hW2 f0 f1 f2 f3 f4 f5 f6 f7 hV ac0 ac1 ac2 wc20 wc21
      refine (HA.out _ hV2).mono ?_
      rintro e W3 ⟨a', va', rfl, hone', hx', hb⟩
      have HX' := Lib.hid hx'
      clear hx'
      have hs2 : g + 1 < W2.heap.size := (Array.getElem?_eq_some_iff.1 q7).1
      have r0 : W3.heap[w.heap.size]? = some (.cells b.arr 38 (0, 0)) := below_block hb q0
      have r1 : W3.heap[w.heap.size + 1]? = some (.cells (Tw.arr ps) 27 (0, 0)) := below_block hb q1
      have r2 : W3.heap[w.heap.size + 1 + 1]? = some (.cells #[.int .u8 K, .int .u8 A, .int .u8 B] 43 (0, 0)) := below_block hb q2
      have r3 : W3.heap[w.heap.size + 1 + 1 + 1]? = some (.cells #[.int .u8 0, .int .i64 0, .int .i64 0, .int .i64 0, .int .i64 0, .int .i64 0, .bool false, .slice none 0 0, .int .i64 0, .int .i64 0, .int .i64 0, .int .i64 0, .int .i64 0, .int .u8 0, .int .i64 0, .int .i64 0, .int .i64 0, .int .i64 0, .bool false, .slice none 0 0, .int .i64 0, .int .i64 0] 38 (0, 0)) := below_block hb q3
      have r4 : W3.heap[w.heap.size + 1 + 1 + 1 + 1]? = some (.cells (Tw.row ps) 26 (0, 0)) := below_block hb q4
      have r5 : W3.heap[w.heap.size + 1 + 1 + 1 + 1 + 1]? = some (.cells bk.arr 73 (0, 0)) := below_block hb q5
      have r6 : W3.heap[g]? = some (.cells #[.int .u8 5, .int .i64 0, .int .i64 0, .int .i64 0, .int .i64 0, .int .u8 0, .int .i64 0, .int .i64 0, .bool false, .bool false, .int .u8 0, .int .i64 0, .int .i64 0, .int .i64 0, .int .i64 0, .int .u8 0] 61 (0, 0)) := below_block hb q6
      have r7 : W3.heap[g + 1]? = some (.cells (b.a.arr b.va) 33 (0, 0)) := below_block hb q7
      have hV3 : Below w.heap.size w W3 := hV2.trans (hb.mono hV2.size)
      have hzg3 : g + 1 < W3.heap.size := (Array.getElem?_eq_some_iff.1 r7).1
      clear hb q0 q1 q2 q3 q4 q5 q6 q7 hV2 hzg hzg0 W1
      go_wp2_with (((with_reducible_and_instances (show wpList _ _ _ (Oper.mk _ (Op.store 33 _ _) _ _ _ _ :: _) _ _)); refine stop_here ?_))
      refine ⟨?_⟩
      refine wl_store (g := g + 1) info13 rfl rfl rfl rfl r7 rfl rfl (Av.arr_one hone') ?_
      obtain ⟨W4, hW4⟩ : ∃ W4, boxed W3 (g + 1) (a'.arr va') 33 = W4 := ⟨_, rfl⟩
      have t0 : W4.heap[w.heap.size]? = some (.cells b.arr 38 (0, 0)) := by rw [← hW4]; exact boxed_old (by omega) r0
      have t1 : W4.heap[w.heap.size + 1]? = some (.cells (Tw.arr ps) 27 (0, 0)) := by rw [← hW4]; exact boxed_old (by omega) r1
      have t2 : W4.heap[w.heap.size + 1 + 1]? = some (.cells #[.int .u8 K, .int .u8 A, .int .u8 B] 43 (0, 0)) := by rw [← hW4]; exact boxed_old (by omega) r2
      have t3 : W4.heap[w.heap.size + 1 + 1 + 1]? = some (.cells #[.int .u8 0, .int .i64 0, .int .i64 0, .int .i64 0, .int .i64 0, .int .i64 0, .bool false, .slice none 0 0, .int .i64 0, .int .i64 0, .int .i64 0, .int .i64 0, .int .i64 0, .int .u8 0, .int .i64 0, .int .i64 0, .int .i64 0, .int .i64 0, .bool false, .slice none 0 0, .int .i64 0, .int .i64 0] 38 (0, 0)) := by rw [← hW4]; exact boxed_old (by omega) r3
      have t4 : W4.heap[w.heap.size + 1 + 1 + 1 + 1]? = some (.cells (Tw.row ps) 26 (0, 0)) := by rw [← hW4]; exact boxed_old (by omega) r4
      have t5 : W4.heap[w.heap.size + 1 + 1 + 1 + 1 + 1]? = some (.cells bk.arr 73 (0, 0)) := by rw [← hW4]; exact boxed_old (by omega) r5
      have t6 : W4.heap[g]? = some (.cells #[.int .u8 5, .int .i64 0, .int .i64 0, .int .i64 0, .int .i64 0, .int .u8 0, .int .i64 0, .int .i64 0, .bool false, .bool false, .int .u8 0, .int .i64 0, .int .i64 0, .int .i64 0, .int .i64 0, .int .u8 0] 61 (0, 0)) := by rw [← hW4]; exact boxed_old (by omega) r6
      have t7 : W4.heap[g + 1]? = some (.cells (a'.arr va') 33 (0, 0)) := by rw [← hW4]; exact boxed_at hzg3
      have hV4 : Below w.heap.size w W4 := by rw [← hW4]; exact boxed_below hV3 (by omega)
      have hx4 : Hid (x = 0 → a' = A' ∧ Cys W4 W2.heap.size W4.heap.size va' A'.l) := fun h => ⟨(HX'.out h).1, by rw [← hW4]; exact (((HX'.out h).2).boxed (.inl (by omega))).more (Nat.le_refl _) (by simp)⟩
      rw [hW4]
      clear hW4 HX' hV3 r0 r1 r2 r3 r4 r5 r6 r7
      go_wp2_with fail
      go_meet
      case rel => exact ⟨rfl, _, _, W2.heap.size, ⟨t0, t1, t2, t3, t4, t5, t6, t7, hone', hV4, hs2, hx4.out, h7⟩⟩
    | skip hk h h7 =>
      have HA := Lib.hid h
      clear h
      go_wp2_with (((with_reducible_and_instances (show wpList _ _ _ (Oper.mk _ (Op.load 33 _) _ _ _ _ :: _) _ _)); refine stop_here ?_))
      refine ⟨?_⟩
      refine wpList_load_mid rfl _ _ rfl w.heap.size 0 rfl (b.a.arr b.va).toList _ (Wd.range_a (boxed_old (by omega) f0)) Try.underlying33 rfl info13 ?_
      rw [Array.toArray_toList]
      go_wp2_with fail
      obtain ⟨W2, hW2⟩ : ∃ W2, boxed W1 g #[.int .u8 6, .int .i64 0, .int .i64 0, .int .i64 0, .int .i64 0, .int .u8 0, .int .i64 0, .int .i64 0, .bool false, .bool false, .int .u8 0, .int .i64 0, .int .i64 0, .int .i64 0, .int .i64 0, .int .u8 0] 61 = W2 := ⟨_, rfl⟩
      have q0 : W2.heap[w.heap.size]? = some (.cells b.arr 38 (0, 0)) := by rw [← hW2]; exact boxed_old (by omega) f0
      have q1 : W2.heap[w.heap.size + 1]? = some (.cells (Tw.arr ps) 27 (0, 0)) := by rw [← hW2]; exact boxed_old (by omega) f1
      have q2 : W2.heap[w.heap.size + 1 + 1]? = some (.cells #[.int .u8 K, .int .u8 A, .int .u8 B] 43 (0, 0)) := by rw [← hW2]; exact boxed_old (by omega) f2
      have q3 : W2.heap[w.heap.size + 1 + 1 + 1]? = some (.cells #[.int .u8 0, .int .i64 0, .int .i64 0, .int .i64 0, .int .i64 0, .int .i64 0, .bool false, .slice none 0 0, .int .i64 0, .int .i64 0, .int .i64 0, .int .i64 0, .int .i64 0, .int .u8 0, .int .i64 0, .int .i64 0, .int .i64 0, .int .i64 0, .bool false, .slice none 0 0, .int .i64 0, .int .i64 0] 38 (0, 0)) := by rw [← hW2]; exact boxed_old (by omega) f3
      have q4 : W2.heap[w.heap.size + 1 + 1 + 1 + 1]? = some (.cells (Tw.row ps) 26 (0, 0)) := by rw [← hW2]; exact boxed_old (by omega) f4
      have q5 : W2.heap[w.heap.size + 1 + 1 + 1 + 1 + 1]? = some (.cells bk.arr 73 (0, 0)) := by rw [← hW2]; exact boxed_old (by omega) f5
      have q6 : W2.heap[g]? = some (.cells #[.int .u8 6, .int .i64 0, .int .i64 0, .int .i64 0, .int .i64 0, .int .u8 0, .int .i64 0, .int .i64 0, .bool false, .bool false, .int .u8 0, .int .i64 0, .int .i64 0, .int .i64 0, .int .i64 0, .int .u8 0] 61 (0, 0)) := by rw [← hW2]; exact boxed_at hzg0
      have q7 : W2.heap[g + 1]? = some (.cells (b.a.arr b.va) 33 (0, 0)) := by rw [← hW2]; exact boxed_old (by omega) f7
      have hV2 : Below w.heap.size w W2 := by rw [← hW2]; exact boxed_below hV (by omega)
      rw [hW2]
      clear hW2 f0 f1 f2 f3 f4 f5 f6 f7 hV ac0 ac1 ac2 wc20 wc21
      refine (HA.out _ hV2).mono ?_
      rintro e W3 ⟨a', va', rfl, hone', hx', hb⟩
      have HX' := Lib.hid hx'
      clear hx'
      have hs2 : g + 1 < W2.heap.size := (Array.getElem?_eq_some_iff.1 q7).1
      have r0 : W3.heap[w.heap.size]? = some (.cells b.arr 38 (0, 0)) := below_block hb q0
      have r1 : W3.heap[w.heap.size + 1]? = some (.cells (Tw.arr ps) 27 (0, 0)) := below_block hb q1
      have r2 : W3.heap[w.heap.size + 1 + 1]? = some (.cells #[.int .u8 K, .int .u8 A, .int .u8 B] 43 (0, 0)) := below_block hb q2
      have r3 : W3.heap[w.heap.size + 1 + 1 + 1]? = some (.cells #[.int .u8 0, .int .i64 0, .int .i64 0, .int .i64 0, .int .i64 0, .int .i64 0, .bool false, .slice none 0 0, .int .i64 0, .int .i64 0, .int .i64 0, .int .i64 0, .int .i64 0, .int .u8 0, .int .i64 0, .int .i64 0, .int .i64 0, .int .i64 0, .bool false, .slice none 0 0, .int .i64 0, .int .i64 0] 38 (0, 0)) := below_block hb q3
      have r4 : W3.heap[w.heap.size + 1 + 1 + 1 + 1]? = some (.cells (Tw.row ps) 26 (0, 0)) := below_block hb q4
      have r5 : W3.heap[w.heap.size + 1 + 1 + 1 + 1 + 1]? = some (.cells bk.arr 73 (0, 0)) := below_block hb q5
      have r6 : W3.heap[g]? = some (.cells #[.int .u8 6, .int .i64 0, .int .i64 0, .int .i64 0, .int .i64 0, .int .u8 0, .int .i64 0, .int .i64 0, .bool false, .bool false, .int .u8 0, .int .i64 0, .int .i64 0, .int .i64 0, .int .i64 0, .int .u8 0] 61 (0, 0)) := below_block hb q6
      have r7 : W3.heap[g + 1]? = some (.cells (b.a.arr b.va) 33 (0, 0)) := below_block hb q7
      have hV3 : Below w.heap.size w W3 := hV2.trans (hb.mono hV2.size)
      have hzg3 : g + 1 < W3.heap.size := (Array.getElem?_eq_some_iff.1 r7).1
      clear hb q0 q1 q2 q3 q4 q5 q6 q7 hV2 hzg hzg0 W1
      go_wp2_with (((with_reducible_and_instances (show wpList _ _ _ (Oper.mk _ (Op.store 33 _ _) _ _ _ _ :: _) _ _)); refine stop_here ?_))
      refine ⟨?_⟩
      refine wl_store (g := g + 1) info13 rfl rfl rfl rfl r7 rfl rfl (Av.arr_one hone') ?_
      obtain ⟨W4, hW4⟩ : ∃ W4, boxed W3 (g + 1) (a'.arr va') 33 = W4 := ⟨_, rfl⟩
      have t0 : W4.heap[w.heap.size]? = some (.cells b.arr 38 (0, 0)) := by rw [← hW4]; exact boxed_old (by omega) r0
      have t1 : W4.heap[w.heap.size + 1]? = some (.cells (Tw.arr ps) 27 (0, 0)) := by rw [← hW4]; exact boxed_old (by omega) r1
      have t2 : W4.heap[w.heap.size + 1 + 1]? = some (.cells #[.int .u8 K, .int .u8 A, .int .u8 B] 43 (0, 0)) := by rw [← hW4]; exact boxed_old (by omega) r2
      have t3 : W4.heap[w.heap.size + 1 + 1 + 1]? = some (.cells #[.int .u8 0, .int .i64 0, .int .i64 0, .int .i64 0, .int .i64 0, .int .i64 0, .bool false, .slice none 0 0, .int .i64 0, .int .i64 0, .int .i64 0, .int .i64 0, .int .i64 0, .int .u8 0, .int .i64 0, .int .i64 0, .int .i64 0, .int .i64 0, .bool false, .slice none 0 0, .int .i64 0, .int .i64 0] 38 (0, 0)) := by rw [← hW4]; exact boxed_old (by omega) r3
      have t4 : W4.heap[w.heap.size + 1 + 1 + 1 + 1]? = some (.cells (Tw.row ps) 26 (0, 0)) := by rw [← hW4]; exact boxed_old (by omega) r4
      have t5 : W4.heap[w.heap.size + 1 + 1 + 1 + 1 + 1]? = some (.cells bk.arr 73 (0, 0)) := by rw [← hW4]; exact boxed_old (by omega) r5
      have t6 : W4.heap[g]? = some (.cells #[.int .u8 6, .int .i64 0, .int .i64 0, .int .i64 0, .int .i64 0, .int .u8 0, .int .i64 0, .int .i64 0, .bool false, .bool false, .int .u8 0, .int .i64 0, .int .i64 0, .int .i64 0, .int .i64 0, .int .u8 0] 61 (0, 0)) := by rw [← hW4]; exact boxed_old (by omega) r6
      have t7 : W4.heap[g + 1]? = some (.cells (a'.arr va') 33 (0, 0)) := by rw [← hW4]; exact boxed_at hzg3
      have hV4 : Below w.heap.size w W4 := by rw [← hW4]; exact boxed_below hV3 (by omega)
      have hx4 : Hid (x = 0 → a' = A' ∧ Cys W4 W2.heap.size W4.heap.size va' A'.l) := fun h => ⟨(HX'.out h).1, by rw [← hW4]; exact (((HX'.out h).2).boxed (.inl (by omega))).more (Nat.le_refl _) (by simp)⟩
      rw [hW4]
      clear hW4 HX' hV3 r0 r1 r2 r3 r4 r5 r6 r7
      go_wp2_with fail
      go_meet
      case rel => exact ⟨rfl, _, _, W2.heap.size, ⟨t0, t1, t2, t3, t4, t5, t6, t7, hone', hV4, hs2, hx4.out, h7⟩⟩
    | card hk h h7 =>
      have HA := Lib.hid h
      clear h
      go_wp2_with (((with_reducible_and_instances (show wpList _ _ _ (Oper.mk _ (Op.load 33 _) _ _ _ _ :: _) _ _)); refine stop_here ?_))
      refine ⟨?_⟩
      refine wpList_load_mid rfl _ _ rfl w.heap.size 0 rfl (b.a.arr b.va).toList _ (Wd.range_a (boxed_old (by omega) f0)) Try.underlying33 rfl info13 ?_
      rw [Array.toArray_toList]
      go_wp2_with fail
      obtain ⟨W2, hW2⟩ : ∃ W2, boxed W1 g #[.int .u8 8, .int .i64 0, .int .i64 0, .int .i64 0, .int .i64 0, .int .u8 0, .int .i64 0, .int .i64 0, .bool false, .bool false, .int .u8 0, .int .i64 0, .int .i64 0, .int .i64 0, .int .i64 0, .int .u8 0] 61 = W2 := ⟨_, rfl⟩
      have q0 : W2.heap[w.heap.size]? = some (.cells b.arr 38 (0, 0)) := by rw [← hW2]; exact boxed_old (by omega) f0
      have q1 : W2.heap[w.heap.size + 1]? = some (.cells (Tw.arr ps) 27 (0, 0)) := by rw [← hW2]; exact boxed_old (by omega) f1
      have q2 : W2.heap[w.heap.size + 1 + 1]? = some (.cells #[.int .u8 K, .int .u8 A, .int .u8 B] 43 (0, 0)) := by rw [← hW2]; exact boxed_old (by omega) f2
      have q3 : W2.heap[w.heap.size + 1 + 1 + 1]? = some (.cells #[.int .u8 0, .int .i64 0, .int .i64 0, .int .i64 0, .int .i64 0, .int .i64 0, .bool false, .slice none 0 0, .int .i64 0, .int .i64 0, .int .i64 0, .int .i64 0, .int .i64 0, .int .u8 0, .int .i64 0, .int .i64 0, .int .i64 0, .int .i64 0, .bool false, .slice none 0 0, .int .i64 0, .int .i64 0] 38 (0, 0)) := by rw [← hW2]; exact boxed_old (by omega) f3
      have q4 : W2.heap[w.heap.size + 1 + 1 + 1 + 1]? = some (.cells (Tw.row ps) 26 (0, 0)) := by rw [← hW2]; exact boxed_old (by omega) f4
      have q5 : W2.heap[w.heap.size + 1 + 1 + 1 + 1 + 1]? = some (.cells bk.arr 73 (0, 0)) := by rw [← hW2]; exact boxed_old (by omega) f5
      have q6 : W2.heap[g]? = some (.cells #[.int .u8 8, .int .i64 0, .int .i64 0, .int .i64 0, .int .i64 0, .int .u8 0, .int .i64 0, .int .i64 0, .bool false, .bool false, .int .u8 0, .int .i64 0, .int .i64 0, .int .i64 0, .int .i64 0, .int .u8 0] 61 (0, 0)) := by rw [← hW2]; exact boxed_at hzg0
      have q7 : W2.heap[g + 1]? = some (.cells (b.a.arr b.va) 33 (0, 0)) := by rw [← hW2]; exact boxed_old (by omega) f7
      have hV2 : Below w.heap.size w W2 := by rw [← hW2]; exact boxed_below hV (by omega)
      rw [hW2]
      clear hW2 f0 f1 f2 f3 f4 f5 f6 f7 hV ac0 ac1 ac2 wc20 wc21
      refine (HA.out _ hV2).mono ?_
      rintro e W3 ⟨a', va', rfl, hone', hx', hb⟩
      have HX' := Lib.hid hx'
      clear hx'
      have hs2 : g + 1 < W2.heap.size := (Array.getElem?_eq_some_iff.1 q7).1
      have r0 : W3.heap[w.heap.size]? = some (.cells b.arr 38 (0, 0)) := below_block hb q0
      have r1 : W3.heap[w.heap.size + 1]? = some (.cells (Tw.arr ps) 27 (0, 0)) := below_block hb q1
      have r2 : W3.heap[w.heap.size + 1 + 1]? = some (.cells #[.int .u8 K, .int .u8 A, .int .u8 B] 43 (0, 0)) := below_block hb q2
      have r3 : W3.heap[w.heap.size + 1 + 1 + 1]? = some (.cells #[.int .u8 0, .int .i64 0, .int .i64 0, .int .i64 0, .int .i64 0, .int .i64 0, .bool false, .slice none 0 0, .int .i64 0, .int .i64 0, .int .i64 0, .int .i64 0, .int .i64 0, .int .u8 0, .int .i64 0, .int .i64 0, .int .i64 0, .int .i64 0, .bool false, .slice none 0 0, .int .i64 0, .int .i64 0] 38 (0, 0)) := below_block hb q3
      have r4 : W3.heap[w.heap.size + 1 + 1 + 1 + 1]? = some (.cells (Tw.row ps) 26 (0, 0)) := below_block hb q4
      have r5 : W3.heap[w.heap.size + 1 + 1 + 1 + 1 + 1]? = some (.cells bk.arr 73 (0, 0)) := below_block hb q5
      have r6 : W3.heap[g]? = some (.cells #[.int .u8 8, .int .i64 0, .int .i64 0, .int .i64 0, .int .i64 0, .int .u8 0, .int .i64 0, .int .i64 0, .bool false, .bool false, .int .u8 0, .int .i64 0, .int .i64 0, .int .i64 0, .int .i64 0, .int .u8 0] 61 (0, 0)) := below_block hb q6
      have r7 : W3.heap[g + 1]? = some (.cells (b.a.arr b.va) 33 (0, 0)) := below_block hb q7
      have hV3 : Below w.heap.size w W3 := hV2.trans (hb.mono hV2.size)
      have hzg3 : g + 1 < W3.heap.size := (Array.getElem?_eq_some_iff.1 r7).1
      clear hb q0 q1 q2 q3 q4 q5 q6 q7 hV2 hzg hzg0 W1
      go_wp2_with (((with_reducible_and_instances (show wpList _ _ _ (Oper.mk _ (Op.store 33 _ _) _ _ _ _ :: _) _ _)); refine stop_here ?_))
      refine ⟨?_⟩
      refine wl_store (g := g + 1) info13 rfl rfl rfl rfl r7 rfl rfl (Av.arr_one hone') ?_
      obtain ⟨W4, hW4⟩ : ∃ W4, boxed W3 (g + 1) (a'.arr va') 33 = W4 := ⟨_, rfl⟩
      have t0 : W4.heap[w.heap.size]? = some (.cells b.arr 38 (0, 0)) := by rw [← hW4]; exact boxed_old (by omega) r0
      have t1 : W4.heap[w.heap.size + 1]? = some (.cells (Tw.arr ps) 27 (0, 0)) := by rw [← hW4]; exact boxed_old (by omega) r1
      have t2 : W4.heap[w.heap.size + 1 + 1]? = some (.cells #[.int .u8 K, .int .u8 A, .int .u8 B] 43 (0, 0)) := by rw [← hW4]; exact boxed_old (by omega) r2
      have t3 : W4.heap[w.heap.size + 1 + 1 + 1]? = some (.cells #[.int .u8 0, .int .i64 0, .int .i64 0, .int .i64 0, .int .i64 0, .int .i64 0, .bool false, .slice none 0 0, .int .i64 0, .int .i64 0, .int .i64 0, .int .i64 0, .int .i64 0, .int .u8 0, .int .i64 0, .int .i64 0, .int .i64 0, .int .i64 0, .bool false, .slice none 0 0, .int .i64 0, .int .i64 0] 38 (0, 0)) := by rw [← hW4]; exact boxed_old (by omega) r3
      have t4 : W4.heap[w.heap.size + 1 + 1 + 1 + 1]? = some (.cells (Tw.row ps) 26 (0, 0)) := by rw [← hW4]; exact boxed_old (by omega) r4
      have t5 : W4.heap[w.heap.size + 1 + 1 + 1 + 1 + 1]? = some (.cells bk.arr 73 (0, 0)) := by rw [← hW4]; exact boxed_old (by omega) r5
      have t6 : W4.heap[g]? = some (.cells #[.int .u8 8, .int .i64 0, .int .i64 0, .int .i64 0, .int .i64 0, .int .u8 0, .int .i64 0, .int .i64 0, .bool false, .bool false, .int .u8 0, .int .i64 0, .int .i64 0, .int .i64 0, .int .i64 0, .int .u8 0] 61 (0, 0)) := by rw [← hW4]; exact boxed_old (by omega) r6
      have t7 : W4.heap[g + 1]? = some (.cells (a'.arr va') 33 (0, 0)) := by rw [← hW4]; exact boxed_at hzg3
      have hV4 : Below w.heap.size w W4 := by rw [← hW4]; exact boxed_below hV3 (by omega)
      have hx4 : Hid (x = 0 → a' = A' ∧ Cys W4 W2.heap.size W4.heap.size va' A'.l) := fun h => ⟨(HX'.out h).1, by rw [← hW4]; exact (((HX'.out h).2).boxed (.inl (by omega))).more (Nat.le_refl _) (by simp)⟩
      rw [hW4]
      clear hW4 HX' hV3 r0 r1 r2 r3 r4 r5 r6 r7
      go_wp2_with fail
      go_meet
      case rel => exact ⟨rfl, _, _, W2.heap.size, ⟨t0, t1, t2, t3, t4, t5, t6, t7, hone', hV4, hs2, hx4.out, h7⟩⟩
    | cancel hk hk2 h h7 =>
      have HA := Lib.hid h
      clear h
      go_wp2_with (((with_reducible_and_instances (show wpList _ _ _ (Oper.mk _ (Op.load 33 _) _ _ _ _ :: _) _ _)); refine stop_here ?_))
      refine ⟨?_⟩
      refine wpList_load_mid rfl _ _ rfl w.heap.size 0 rfl (b.a.arr b.va).toList _ (Wd.range_a (boxed_old (by omega) f0)) Try.underlying33 rfl info13 ?_
      rw [Array.toArray_toList]
      go_wp2_with fail
      obtain ⟨W2, hW2⟩ : ∃ W2, boxed W1 g #[.int .u8 7, .int .i64 0, .int .i64 0, .int .i64 0, .int .i64 0, .int .u8 0, .int .i64 0, .int .i64 0, .bool false, .bool false, .int .u8 0, .int .i64 0, .int .i64 0, .int .i64 0, .int .i64 0, .int .u8 0] 61 = W2 := ⟨_, rfl⟩
      have q0 : W2.heap[w.heap.size]? = some (.cells b.arr 38 (0, 0)) := by rw [← hW2]; exact boxed_old (by omega) f0
      have q1 : W2.heap[w.heap.size + 1]? = some (.cells (Tw.arr ps) 27 (0, 0)) := by rw [← hW2]; exact boxed_old (by omega) f1
      have q2 : W2.heap[w.heap.size + 1 + 1]? = some (.cells #[.int .u8 K, .int .u8 A, .int .u8 B] 43 (0, 0)) := by rw [← hW2]; exact boxed_old (by omega) f2
      have q3 : W2.heap[w.heap.size + 1 + 1 + 1]? = some (.cells #[.int .u8 0, .int .i64 0, .int .i64 0, .int .i64 0, .int .i64 0, .int .i64 0, .bool false, .slice none 0 0, .int .i64 0, .int .i64 0, .int .i64 0, .int .i64 0, .int .i64 0, .int .u8 0, .int .i64 0, .int .i64 0, .int .i64 0, .int .i64 0, .bool false, .slice none 0 0, .int .i64 0, .int .i64 0] 38 (0, 0)) := by rw [← hW2]; exact boxed_old (by omega) f3
      have q4 : W2.heap[w.heap.size + 1 + 1 + 1 + 1]? = some (.cells (Tw.row ps) 26 (0, 0)) := by rw [← hW2]; exact boxed_old (by omega) f4
      have q5 : W2.heap[w.heap.size + 1 + 1 + 1 + 1 + 1]? = some (.cells bk.arr 73 (0, 0)) := by rw [← hW2]; exact boxed_old (by omega) f5
      have q6 : W2.heap[g]? = some (.cells #[.int .u8 7, .int .i64 0, .int .i64 0, .int .i64 0, .int .i64 0, .int .u8 0, .int .i64 0, .int .i64 0, .bool false, .bool false, .int .u8 0, .int .i64 0, .int .i64 0, .int .i64 0, .int .i64 0, .int .u8 0] 61 (0, 0)) := by rw [← hW2]; exact boxed_at hzg0
      have q7 : W2.heap[g + 1]? = some (.cells (b.a.arr b.va) 33 (0, 0)) := by rw [← hW2]; exact boxed_old (by omega) f7
      have hV2 : Below w.heap.size w W2 := by rw [← hW2]; exact boxed_below hV (by omega)
      rw [hW2]
      clear hW2 f0 f1 f2 f3 f4 f5 f6 f7 hV ac0 ac1 ac2 wc20 wc21
      refine (HA.out _ hV2).mono ?_
      rintro e W3 ⟨a', va', rfl, hone', hx', hb⟩
      have HX' := Lib.hid hx'
      clear hx'
      have hs2 : g + 1 < W2.heap.size := (Array.getElem?_eq_some_iff.1 q7).1
      have r0 : W3.heap[w.heap.size]? = some (.cells b.arr 38 (0, 0)) := below_block hb q0
      have r1 : W3.heap[w.heap.size + 1]? = some (.cells (Tw.arr ps) 27 (0, 0)) := below_block hb q1
      have r2 : W3.heap[w.heap.size + 1 + 1]? = some (.cells #[.int .u8 K, .int .u8 A, .int .u8 B] 43 (0, 0)) := below_block hb q2
      have r3 : W3.heap[w.heap.size + 1 + 1 + 1]? = some (.cells #[.int .u8 0, .int .i64 0, .int .i64 0, .int .i64 0, .int .i64 0, .int .i64 0, .bool false, .slice none 0 0, .int .i64 0, .int .i64 0, .int .i64 0, .int .i64 0, .int .i64 0, .int .u8 0, .int .i64 0, .int .i64 0, .int .i64 0, .int .i64 0, .bool false, .slice none 0 0, .int .i64 0, .int .i64 0] 38 (0, 0)) := below_block hb q3
      have r4 : W3.heap[w.heap.size + 1 + 1 + 1 + 1]? = some (.cells (Tw.row ps) 26 (0, 0)) := below_block hb q4
      have r5 : W3.heap[w.heap.size + 1 + 1 + 1 + 1 + 1]? = some (.cells bk.arr 73 (0, 0)) := below_block hb q5
      have r6 : W3.heap[g]? = some (.cells #[.int .u8 7, .int .i64 0, .int .i64 0, .int .i64 0, .int .i64 0, .int .u8 0, .int .i64 0, .int .i64 0, .bool false, .bool false, .int .u8 0, .int .i64 0, .int .i64 0, .int .i64 0, .int .i64 0, .int .u8 0] 61 (0, 0)) := below_block hb q6
      have r7 : W3.heap[g + 1]? = some (.cells (b.a.arr b.va) 33 (0, 0)) := below_block hb q7
      have hV3 : Below w.heap.size w W3 := hV2.trans (hb.mono hV2.size)
      have hzg3 : g + 1 < W3.heap.size := (Array.getElem?_eq_some_iff.1 r7).1
      clear hb q0 q1 q2 q3 q4 q5 q6 q7 hV2 hzg hzg0 W1
      go_wp2_with (((with_reducible_and_instances (show wpList _ _ _ (Oper.mk _ (Op.store 33 _ _) _ _ _ _ :: _) _ _)); refine stop_here ?_))
      refine ⟨?_⟩
      refine wl_store (g := g + 1) info13 rfl rfl rfl rfl r7 rfl rfl (Av.arr_one hone') ?_
      obtain ⟨W4, hW4⟩ : ∃ W4, boxed W3 (g + 1) (a'.arr va') 33 = W4 := ⟨_, rfl⟩
      have t0 : W4.heap[w.heap.size]? = some (.cells b.arr 38 (0, 0)) := by rw [← hW4]; exact boxed_old (by omega) r0
      have t1 : W4.heap[w.heap.size + 1]? = some (.cells (Tw.arr ps) 27 (0, 0)) := by rw [← hW4]; exact boxed_old (by omega) r1
      have t2 : W4.heap[w.heap.size + 1 + 1]? = some (.cells #[.int .u8 K, .int .u8 A, .int .u8 B] 43 (0, 0)) := by rw [← hW4]; exact boxed_old (by omega) r2
      have t3 : W4.heap[w.heap.size + 1 + 1 + 1]? = some (.cells #[.int .u8 0, .int .i64 0, .int .i64 0, .int .i64 0, .int .i64 0, .int .i64 0, .bool false, .slice none 0 0, .int .i64 0, .int .i64 0, .int .i64 0, .int .i64 0, .int .i64 0, .int .u8 0, .int .i64 0, .int .i64 0, .int .i64 0, .int .i64 0, .bool false, .slice none 0 0, .int .i64 0, .int .i64 0] 38 (0, 0)) := by rw [← hW4]; exact boxed_old (by omega) r3
      have t4 : W4.heap[w.heap.size + 1 + 1 + 1 + 1]? = some (.cells (Tw.row ps) 26 (0, 0)) := by rw [← hW4]; exact boxed_old (by omega) r4
      have t5 : W4.heap[w.heap.size + 1 + 1 + 1 + 1 + 1]? = some (.cells bk.arr 73 (0, 0)) := by rw [← hW4]; exact boxed_old (by omega) r5
      have t6 : W4.heap[g]? = some (.cells #[.int .u8 7, .int .i64 0, .int .i64 0, .int .i64 0, .int .i64 0, .int .u8 0, .int .i64 0, .int .i64 0, .bool false, .bool false, .int .u8 0, .int .i64 0, .int .i64 0, .int .i64 0, .int .i64 0, .int .u8 0] 61 (0, 0)) := by rw [← hW4]; exact boxed_old (by omega) r6
      have t7 : W4.heap[g + 1]? = some (.cells (a'.arr va') 33 (0, 0)) := by rw [← hW4]; exact boxed_at hzg3
      have hV4 : Below w.heap.size w W4 := by rw [← hW4]; exact boxed_below hV3 (by omega)
      have hx4 : Hid (x = 0 → a' = A' ∧ Cys W4 W2.heap.size W4.heap.size va' A'.l) := fun h => ⟨(HX'.out h).1, by rw [← hW4]; exact (((HX'.out h).2).boxed (.inl (by omega))).more (Nat.le_refl _) (by simp)⟩
      rw [hW4]
      clear hW4 HX' hV3 r0 r1 r2 r3 r4 r5 r6 r7
      go_wp2_with fail
      go_meet
      case rel => exact ⟨rfl, _, _, W2.heap.size, ⟨t0, t1, t2, t3, t4, t5, t6, t7, hone', hV4, hs2, hx4.out, h7⟩⟩
    | change n0 p0 hk hn hn2 hp hpl h h7 =>
      rcases hk with ⟨hk, hk2⟩ | hk
      · have hpI : (p0 : Int) < 2 := by omega
        have hpJ : (0 : Int) ≤ (p0 : Int) := by omega
        have hnI : (n0 : Int) < 2 := by omega
        have hnJ : (0 : Int) ≤ (n0 : Int) := by omega
        have HA := Lib.hid h
        have HPL0 := Lib.hid hpl
        clear h hpl wc21
        have wc21 : ∀ cs, (boxed W1 g cs 61).cell? ⟨w.heap.size, 21, none⟩ = some (.int .i64 (p0 : Int)) := fun cs => by rw [cell_of_row _ _ _ _ _ _ (boxed_old (by omega) f0), ← HPL0.out]; exact b.at21
        go_upto_region 34 with fail
        obtain ⟨W2, hW2⟩ : ∃ W2, boxed W1 g #[.int .u8 3, .int .i64 0, .int .i64 n0, .int .i64 0, .int .i64 0, .int .u8 0, .int .i64 0, .int .i64 0, .bool false, .bool false, .int .u8 0, .int .i64 0, .int .i64 0, .int .i64 0, .int .i64 0, .int .u8 0] 61 = W2 := ⟨_, rfl⟩
        have q0 : W2.heap[w.heap.size]? = some (.cells b.arr 38 (0, 0)) := by rw [← hW2]; exact boxed_old (by omega) f0
        have q1 : W2.heap[w.heap.size + 1]? = some (.cells (Tw.arr ps) 27 (0, 0)) := by rw [← hW2]; exact boxed_old (by omega) f1
        have q2 : W2.heap[w.heap.size + 1 + 1]? = some (.cells #[.int .u8 K, .int .u8 A, .int .u8 B] 43 (0, 0)) := by rw [← hW2]; exact boxed_old (by omega) f2
        have q3 : W2.heap[w.heap.size + 1 + 1 + 1]? = some (.cells #[.int .u8 0, .int .i64 0, .int .i64 0, .int .i64 0, .int .i64 0, .int .i64 0, .bool false, .slice none 0 0, .int .i64 0, .int .i64 0, .int .i64 0, .int .i64 0, .int .i64 0, .int .u8 0, .int .i64 0, .int .i64 0, .int .i64 0, .int .i64 0, .bool false, .slice none 0 0, .int .i64 0, .int .i64 0] 38 (0, 0)) := by rw [← hW2]; exact boxed_old (by omega) f3
        have q4 : W2.heap[w.heap.size + 1 + 1 + 1 + 1]? = some (.cells (Tw.row ps) 26 (0, 0)) := by rw [← hW2]; exact boxed_old (by omega) f4
        have q5 : W2.heap[w.heap.size + 1 + 1 + 1 + 1 + 1]? = some (.cells bk.arr 73 (0, 0)) := by rw [← hW2]; exact boxed_old (by omega) f5
        have q6 : W2.heap[g]? = some (.cells #[.int .u8 3, .int .i64 0, .int .i64 n0, .int .i64 0, .int .i64 0, .int .u8 0, .int .i64 0, .int .i64 0, .bool false, .bool false, .int .u8 0, .int .i64 0, .int .i64 0, .int .i64 0, .int .i64 0, .int .u8 0] 61 (0, 0)) := by rw [← hW2]; exact boxed_at hzg0
        have q7 : W2.heap[g + 1]? = some (.cells (b.a.arr b.va) 33 (0, 0)) := by rw [← hW2]; exact boxed_old (by omega) f7
        have hV2 : Below w.heap.size w W2 := by rw [← hW2]; exact boxed_below hV (by omega)
        rw [hW2]
        clear hW2 f0 f1 f2 f3 f4 f5 f6 f7 hV ac0 ac1 ac2 wc20 wc21
        have HCF : Hid (∀ W : World, (fun w' : World => w'.heap[w.heap.size]? = some (.cells b.arr 38 (0, 0)) ∧ w'.heap[w.heap.size + 1]? = some (.cells (Tw.arr ps) 27 (0, 0)) ∧ w'.heap[g]? = some (.cells #[.int .u8 3, .int .i64 0, .int .i64 n0, .int .i64 0, .int .i64 0, .int .u8 0, .int .i64 0, .int .i64 0, .bool false, .bool false, .int .u8 0, .int .i64 0, .int .i64 0, .int .i64 0, .int .i64 0, .int .u8 0] 61 (0, 0))) W → W.cell? ⟨w.heap.size, 21, none⟩ = some (.int .i64 (p0 : Int)) ∧ W.cell? ⟨w.heap.size, 20, none⟩ = some (.int .i64 b.td) ∧ W.cell? ⟨g, 2, none⟩ = some (.int .i64 n0)) := fun W hS => ⟨by rw [cell_of_row _ _ _ _ _ _ hS.1, ← HPL0.out]; exact b.at21, by rw [cell_of_row _ _ _ _ _ _ hS.1]; exact b.at20, by rw [cell_of_row _ _ _ _ _ _ hS.2.2]; rfl⟩
        have HY : Hid ((fun w' : World => w'.heap[w.heap.size]? = some (.cells b.arr 38 (0, 0)) ∧ w'.heap[w.heap.size + 1]? = some (.cells (Tw.arr ps) 27 (0, 0)) ∧ w'.heap[g]? = some (.cells #[.int .u8 3, .int .i64 0, .int .i64 n0, .int .i64 0, .int .i64 0, .int .u8 0, .int .i64 0, .int .i64 0, .bool false, .bool false, .int .u8 0, .int .i64 0, .int .i64 0, .int .i64 0, .int .i64 0, .int .u8 0] 61 (0, 0))) W2.drew) := ⟨q0, q1, q6⟩
        refine laneT_start (ord := [0, 1, 2, 3, 4, 5, 6, 7, 8, 9, 10, 11, 12, 13, 14, 15, 16, 17, 18, 19]) (t := 19) (S := (fun w' : World => w'.heap[w.heap.size]? = some (.cells b.arr 38 (0, 0)) ∧ w'.heap[w.heap.size + 1]? = some (.cells (Tw.arr ps) 27 (0, 0)) ∧ w'.heap[g]? = some (.cells #[.int .u8 3, .int .i64 0, .int .i64 n0, .int .i64 0, .int .i64 0, .int .u8 0, .int .i64 0, .int .i64 0, .bool false, .bool false, .int .u8 0, .int .i64 0, .int .i64 0, .int .i64 0, .int .i64 0, .int .u8 0] 61 (0, 0)))) rfl (by kernel_rfl) ?_
        iterate 1 (refine laneT_take1 (v := ?_) rfl (by kernel_rfl) (by kernel_rfl) (by rfl) ?_ (by exact HY.out) ?_; rotate_left; (focus (intro W hSw; have x0 := HCF.out W hSw; obtain ⟨x1, x2, x3⟩ := x0; go_simp; try (with_reducible rfl))); simp only [Act.put, List.setIfInBounds_toArray, List.set_cons_zero, List.set_cons_succ])
        refine laneT_take1 (v := .agg (b.a.arr b.va)) rfl (by kernel_rfl) (by kernel_rfl) (by rfl) (fun W hSw => exec_load rfl rfl (by
          have h9 := run_loadAt_mid (P := Try.prog) W (w.heap.size) (0) 33 _ _ (Wd.range_a hSw.1) Try.underlying33 rfl info13
          rw [Array.toArray_toList] at h9
          exact h9)) (by exact HY.out) ?_
        simp only [Act.put, List.setIfInBounds_toArray, List.set_cons_zero, List.set_cons_succ]
        iterate 3 (refine laneT_take1 (v := ?_) rfl (by kernel_rfl) (by kernel_rfl) (by rfl) ?_ (by exact HY.out) ?_; rotate_left; (focus (intro W hSw; have x0 := HCF.out W hSw; obtain ⟨x1, x2, x3⟩ := x0; go_simp; try (with_reducible rfl))); simp only [Act.put, List.setIfInBounds_toArray, List.set_cons_zero, List.set_cons_succ])
        refine laneT_take1 (v := .agg (ps p0).arr) rfl (by kernel_rfl) (by kernel_rfl) (by rfl) (fun W hSw => exec_load rfl rfl (by
          have h9 := run_loadAt_mid (P := Try.prog) W (w.heap.size + 1) (p0 * 6) 26 _ _ (Tw.range hSw.2.1 (k := p0) (by omega)) Try.underlying26 rfl info6p
          rw [Array.toArray_toList] at h9
          exact h9)) (by exact HY.out) ?_
        simp only [Act.put, List.setIfInBounds_toArray, List.set_cons_zero, List.set_cons_succ]
        iterate 5 (refine laneT_take1 (v := ?_) rfl (by kernel_rfl) (by kernel_rfl) (by rfl) ?_ (by exact HY.out) ?_; rotate_left; (focus (intro W hSw; have x0 := HCF.out W hSw; obtain ⟨x1, x2, x3⟩ := x0; go_simp; try (with_reducible rfl))); simp only [Act.put, List.setIfInBounds_toArray, List.set_cons_zero, List.set_cons_succ])
        refine laneT_take1 (v := .agg (ps n0).arr) rfl (by kernel_rfl) (by kernel_rfl) (by rfl) (fun W hSw => exec_load rfl rfl (by
          have h9 := run_loadAt_mid (P := Try.prog) W (w.heap.size + 1) (n0 * 6) 26 _ _ (Tw.range hSw.2.1 (k := n0) (by omega)) Try.underlying26 rfl info6p
          rw [Array.toArray_toList] at h9
          exact h9)) (by exact HY.out) ?_
        simp only [Act.put, List.setIfInBounds_toArray, List.set_cons_zero, List.set_cons_succ]
        iterate 2 (refine laneT_take1 (v := ?_) rfl (by kernel_rfl) (by kernel_rfl) (by rfl) ?_ (by exact HY.out) ?_; rotate_left; (focus (intro W hSw; have x0 := HCF.out W hSw; obtain ⟨x1, x2, x3⟩ := x0; go_simp; try (with_reducible rfl))); simp only [Act.put, List.setIfInBounds_toArray, List.set_cons_zero, List.set_cons_succ])
        refine laneT_alone rfl (by kernel_rfl) (by rfl) (fun KK hK => ?_)
        go_simp
        refine (HA.out W2.drew ((Below.refl _ w).trans hV2.drew)).mono ?_
        rintro e W3 ⟨a', va', rfl, hone', hx', hb⟩
        have hb : Below W2.heap.size W2 W3 := (Below.refl _ W2).drew.trans hb
        have hx' : x = 0 → a' = A' ∧ Cys W3 W2.heap.size W3.heap.size va' A'.l := hx'
        have HX' := Lib.hid hx'
        clear hx'
        have hs2 : g + 1 < W2.heap.size := (Array.getElem?_eq_some_iff.1 q7).1
        have r0 : W3.heap[w.heap.size]? = some (.cells b.arr 38 (0, 0)) := below_block hb q0
        have r1 : W3.heap[w.heap.size + 1]? = some (.cells (Tw.arr ps) 27 (0, 0)) := below_block hb q1
        have r2 : W3.heap[w.heap.size + 1 + 1]? = some (.cells #[.int .u8 K, .int .u8 A, .int .u8 B] 43 (0, 0)) := below_block hb q2
        have r3 : W3.heap[w.heap.size + 1 + 1 + 1]? = some (.cells #[.int .u8 0, .int .i64 0, .int .i64 0, .int .i64 0, .int .i64 0, .int .i64 0, .bool false, .slice none 0 0, .int .i64 0, .int .i64 0, .int .i64 0, .int .i64 0, .int .i64 0, .int .u8 0, .int .i64 0, .int .i64 0, .int .i64 0, .int .i64 0, .bool false, .slice none 0 0, .int .i64 0, .int .i64 0] 38 (0, 0)) := below_block hb q3
        have r4 : W3.heap[w.heap.size + 1 + 1 + 1 + 1]? = some (.cells (Tw.row ps) 26 (0, 0)) := below_block hb q4
        have r5 : W3.heap[w.heap.size + 1 + 1 + 1 + 1 + 1]? = some (.cells bk.arr 73 (0, 0)) := below_block hb q5
        have r6 : W3.heap[g]? = some (.cells #[.int .u8 3, .int .i64 0, .int .i64 n0, .int .i64 0, .int .i64 0, .int .u8 0, .int .i64 0, .int .i64 0, .bool false, .bool false, .int .u8 0, .int .i64 0, .int .i64 0, .int .i64 0, .int .i64 0, .int .u8 0] 61 (0, 0)) := below_block hb q6
        have r7 : W3.heap[g + 1]? = some (.cells (b.a.arr b.va) 33 (0, 0)) := below_block hb q7
        have hV3 : Below w.heap.size w W3 := hV2.trans (hb.mono hV2.size)
        have hzg3 : g + 1 < W3.heap.size := (Array.getElem?_eq_some_iff.1 r7).1
        clear hb q0 q1 q2 q3 q4 q5 q6 q7 hV2 hzg hzg0 W1
        have HY3 : Hid ((fun w' : World => w'.heap[w.heap.size]? = some (.cells b.arr 38 (0, 0)) ∧ w'.heap[w.heap.size + 1]? = some (.cells (Tw.arr ps) 27 (0, 0)) ∧ w'.heap[g]? = some (.cells #[.int .u8 3, .int .i64 0, .int .i64 n0, .int .i64 0, .int .i64 0, .int .u8 0, .int .i64 0, .int .i64 0, .bool false, .bool false, .int .u8 0, .int .i64 0, .int .i64 0, .int .i64 0, .int .i64 0, .int .u8 0] 61 (0, 0))) W3) := ⟨r0, r1, r6⟩
        refine hK _ _ (fun _ => HY3.out) ?_
        clear hK KK HY
        refine laneT_alone rfl (by kernel_rfl) (by rfl) (fun KK hK => ?_)
        go_simp
        refine hK _ _ (fun _ => HY3.out) ?_
        clear hK KK
        iterate 2 (refine laneT_take1 (v := ?_) rfl (by kernel_rfl) (by kernel_rfl) (by rfl) ?_ (by exact HY3.out) ?_; rotate_left; (focus (intro W hSw; have x0 := HCF.out W hSw; obtain ⟨x1, x2, x3⟩ := x0; go_simp; try (with_reducible rfl))); simp only [Act.put, List.setIfInBounds_toArray, List.set_cons_zero, List.set_cons_succ])
        refine laneT_alone rfl (by kernel_rfl) (by rfl) (fun KK hK => ?_)
        refine wp_store_row 33 _ _ rfl (g + 1) (a'.arr va') rfl rfl 33 _ r7 info13 rfl (Av.arr_one hone') ?_
        rw [row_boxed r7]
        refine hK _ _ (fun _ => ⟨boxed_old (by omega) r0, boxed_old (by omega) r1, boxed_old (by omega) r6⟩) ?_
        clear hK KK
        refine laneT_alone rfl (by kernel_rfl) (by rfl) (fun KK hK => ?_)
        go_simp
        refine hK _ _ (fun h => absurd rfl h) ?_
        clear hK KK HY3 HCF
        refine laneT_end (by kernel_rfl) ?_
        obtain ⟨W4, hW4⟩ : ∃ W4, boxed W3 (g + 1) (a'.arr va') 33 = W4 := ⟨_, rfl⟩
        have t0 : W4.heap[w.heap.size]? = some (.cells b.arr 38 (0, 0)) := by rw [← hW4]; exact boxed_old (by omega) r0
        have t1 : W4.heap[w.heap.size + 1]? = some (.cells (Tw.arr ps) 27 (0, 0)) := by rw [← hW4]; exact boxed_old (by omega) r1
        have t2 : W4.heap[w.heap.size + 1 + 1]? = some (.cells #[.int .u8 K, .int .u8 A, .int .u8 B] 43 (0, 0)) := by rw [← hW4]; exact boxed_old (by omega) r2
        have t3 : W4.heap[w.heap.size + 1 + 1 + 1]? = some (.cells #[.int .u8 0, .int .i64 0, .int .i64 0, .int .i64 0, .int .i64 0, .int .i64 0, .bool false, .slice none 0 0, .int .i64 0, .int .i64 0, .int .i64 0, .int .i64 0, .int .i64 0, .int .u8 0, .int .i64 0, .int .i64 0, .int .i64 0, .int .i64 0, .bool false, .slice none 0 0, .int .i64 0, .int .i64 0] 38 (0, 0)) := by rw [← hW4]; exact boxed_old (by omega) r3
        have t4 : W4.heap[w.heap.size + 1 + 1 + 1 + 1]? = some (.cells (Tw.row ps) 26 (0, 0)) := by rw [← hW4]; exact boxed_old (by omega) r4
        have t5 : W4.heap[w.heap.size + 1 + 1 + 1 + 1 + 1]? = some (.cells bk.arr 73 (0, 0)) := by rw [← hW4]; exact boxed_old (by omega) r5
        have t6 : W4.heap[g]? = some (.cells #[.int .u8 3, .int .i64 0, .int .i64 n0, .int .i64 0, .int .i64 0, .int .u8 0, .int .i64 0, .int .i64 0, .bool false, .bool false, .int .u8 0, .int .i64 0, .int .i64 0, .int .i64 0, .int .i64 0, .int .u8 0] 61 (0, 0)) := by rw [← hW4]; exact boxed_old (by omega) r6
        have t7 : W4.heap[g + 1]? = some (.cells (a'.arr va') 33 (0, 0)) := by rw [← hW4]; exact boxed_at hzg3
        have hV4 : Below w.heap.size w W4 := by rw [← hW4]; exact boxed_below hV3 (by omega)
        have hx4 : Hid (x = 0 → a' = A' ∧ Cys W4 W2.heap.size W4.heap.size va' A'.l) := fun h => ⟨(HX'.out h).1, by rw [← hW4]; exact (((HX'.out h).2).boxed (.inl (by omega))).more (Nat.le_refl _) (by simp)⟩
        rw [hW4]
        clear hW4 HX' hV3 r0 r1 r2 r3 r4 r5 r6 r7
        go_wp2_with fail
        go_meet
        case rel => exact ⟨rfl, _, _, W2.heap.size, ⟨t0, t1, t2, t3, t4, t5, t6, t7, hone', hV4, hs2, hx4.out, h7⟩⟩
      · have hpI : (p0 : Int) < 2 := by omega
        have hpJ : (0 : Int) ≤ (p0 : Int) := by omega
        have hnI : (n0 : Int) < 2 := by omega
        have hnJ : (0 : Int) ≤ (n0 : Int) := by omega
        have HA := Lib.hid h
        have HPL0 := Lib.hid hpl
        clear h hpl wc21
        have wc21 : ∀ cs, (boxed W1 g cs 61).cell? ⟨w.heap.size, 21, none⟩ = some (.int .i64 (p0 : Int)) := fun cs => by rw [cell_of_row _ _ _ _ _ _ (boxed_old (by omega) f0), ← HPL0.out]; exact b.at21
        go_upto_region 34 with fail
        obtain ⟨W2, hW2⟩ : ∃ W2, boxed W1 g #[.int .u8 3, .int .i64 0, .int .i64 n0, .int .i64 0, .int .i64 0, .int .u8 0, .int .i64 0, .int .i64 0, .bool false, .bool false, .int .u8 0, .int .i64 0, .int .i64 0, .int .i64 0, .int .i64 0, .int .u8 0] 61 = W2 := ⟨_, rfl⟩
        have q0 : W2.heap[w.heap.size]? = some (.cells b.arr 38 (0, 0)) := by rw [← hW2]; exact boxed_old (by omega) f0
        have q1 : W2.heap[w.heap.size + 1]? = some (.cells (Tw.arr ps) 27 (0, 0)) := by rw [← hW2]; exact boxed_old (by omega) f1
        have q2 : W2.heap[w.heap.size + 1 + 1]? = some (.cells #[.int .u8 K, .int .u8 A, .int .u8 B] 43 (0, 0)) := by rw [← hW2]; exact boxed_old (by omega) f2
        have q3 : W2.heap[w.heap.size + 1 + 1 + 1]? = some (.cells #[.int .u8 0, .int .i64 0, .int .i64 0, .int .i64 0, .int .i64 0, .int .i64 0, .bool false, .slice none 0 0, .int .i64 0, .int .i64 0, .int .i64 0, .int .i64 0, .int .i64 0, .int .u8 0, .int .i64 0, .int .i64 0, .int .i64 0, .int .i64 0, .bool false, .slice none 0 0, .int .i64 0, .int .i64 0] 38 (0, 0)) := by rw [← hW2]; exact boxed_old (by omega) f3
        have q4 : W2.heap[w.heap.size + 1 + 1 + 1 + 1]? = some (.cells (Tw.row ps) 26 (0, 0)) := by rw [← hW2]; exact boxed_old (by omega) f4
        have q5 : W2.heap[w.heap.size + 1 + 1 + 1 + 1 + 1]? = some (.cells bk.arr 73 (0, 0)) := by rw [← hW2]; exact boxed_old (by omega) f5
        have q6 : W2.heap[g]? = some (.cells #[.int .u8 3, .int .i64 0, .int .i64 n0, .int .i64 0, .int .i64 0, .int .u8 0, .int .i64 0, .int .i64 0, .bool false, .bool false, .int .u8 0, .int .i64 0, .int .i64 0, .int .i64 0, .int .i64 0, .int .u8 0] 61 (0, 0)) := by rw [← hW2]; exact boxed_at hzg0
        have q7 : W2.heap[g + 1]? = some (.cells (b.a.arr b.va) 33 (0, 0)) := by rw [← hW2]; exact boxed_old (by omega) f7
        have hV2 : Below w.heap.size w W2 := by rw [← hW2]; exact boxed_below hV (by omega)
        rw [hW2]
        clear hW2 f0 f1 f2 f3 f4 f5 f6 f7 hV ac0 ac1 ac2 wc20 wc21
        have HCF : Hid (∀ W : World, (fun w' : World => w'.heap[w.heap.size]? = some (.cells b.arr 38 (0, 0)) ∧ w'.heap[w.heap.size + 1]? = some (.cells (Tw.arr ps) 27 (0, 0)) ∧ w'.heap[g]? = some (.cells #[.int .u8 3, .int .i64 0, .int .i64 n0, .int .i64 0, .int .i64 0, .int .u8 0, .int .i64 0, .int .i64 0, .bool false, .bool false, .int .u8 0, .int .i64 0, .int .i64 0, .int .i64 0, .int .i64 0, .int .u8 0] 61 (0, 0))) W → W.cell? ⟨w.heap.size, 21, none⟩ = some (.int .i64 (p0 : Int)) ∧ W.cell? ⟨w.heap.size, 20, none⟩ = some (.int .i64 b.td) ∧ W.cell? ⟨g, 2, none⟩ = some (.int .i64 n0)) := fun W hS => ⟨by rw [cell_of_row _ _ _ _ _ _ hS.1, ← HPL0.out]; exact b.at21, by rw [cell_of_row _ _ _ _ _ _ hS.1]; exact b.at20, by rw [cell_of_row _ _ _ _ _ _ hS.2.2]; rfl⟩
        have HY : Hid ((fun w' : World => w'.heap[w.heap.size]? = some (.cells b.arr 38 (0, 0)) ∧ w'.heap[w.heap.size + 1]? = some (.cells (Tw.arr ps) 27 (0, 0)) ∧ w'.heap[g]? = some (.cells #[.int .u8 3, .int .i64 0, .int .i64 n0, .int .i64 0, .int .i64 0, .int .u8 0, .int .i64 0, .int .i64 0, .bool false, .bool false, .int .u8 0, .int .i64 0, .int .i64 0, .int .i64 0, .int .i64 0, .int .u8 0] 61 (0, 0))) W2.drew) := ⟨q0, q1, q6⟩
        refine laneT_start (ord := [0, 1, 2, 3, 4, 5, 6, 7, 8, 9, 10, 11, 12, 13, 14, 15, 16, 17, 18, 19]) (t := 19) (S := (fun w' : World => w'.heap[w.heap.size]? = some (.cells b.arr 38 (0, 0)) ∧ w'.heap[w.heap.size + 1]? = some (.cells (Tw.arr ps) 27 (0, 0)) ∧ w'.heap[g]? = some (.cells #[.int .u8 3, .int .i64 0, .int .i64 n0, .int .i64 0, .int .i64 0, .int .u8 0, .int .i64 0, .int .i64 0, .bool false, .bool false, .int .u8 0, .int .i64 0, .int .i64 0, .int .i64 0, .int .i64 0, .int .u8 0] 61 (0, 0)))) rfl (by kernel_rfl) ?_
        iterate 1 (refine laneT_take1 (v := ?_) rfl (by kernel_rfl) (by kernel_rfl) (by rfl) ?_ (by exact HY.out) ?_; rotate_left; (focus (intro W hSw; have x0 := HCF.out W hSw; obtain ⟨x1, x2, x3⟩ := x0; go_simp; try (with_reducible rfl))); simp only [Act.put, List.setIfInBounds_toArray, List.set_cons_zero, List.set_cons_succ])
        refine laneT_take1 (v := .agg (b.a.arr b.va)) rfl (by kernel_rfl) (by kernel_rfl) (by rfl) (fun W hSw => exec_load rfl rfl (by
          have h9 := run_loadAt_mid (P := Try.prog) W (w.heap.size) (0) 33 _ _ (Wd.range_a hSw.1) Try.underlying33 rfl info13
          rw [Array.toArray_toList] at h9
          exact h9)) (by exact HY.out) ?_
        simp only [Act.put, List.setIfInBounds_toArray, List.set_cons_zero, List.set_cons_succ]
        iterate 3 (refine laneT_take1 (v := ?_) rfl (by kernel_rfl) (by kernel_rfl) (by rfl) ?_ (by exact HY.out) ?_; rotate_left; (focus (intro W hSw; have x0 := HCF.out W hSw; obtain ⟨x1, x2, x3⟩ := x0; go_simp; try (with_reducible rfl))); simp only [Act.put, List.setIfInBounds_toArray, List.set_cons_zero, List.set_cons_succ])
        refine laneT_take1 (v := .agg (ps p0).arr) rfl (by kernel_rfl) (by kernel_rfl) (by rfl) (fun W hSw => exec_load rfl rfl (by
          have h9 := run_loadAt_mid (P := Try.prog) W (w.heap.size + 1) (p0 * 6) 26 _ _ (Tw.range hSw.2.1 (k := p0) (by omega)) Try.underlying26 rfl info6p
          rw [Array.toArray_toList] at h9
          exact h9)) (by exact HY.out) ?_
        simp only [Act.put, List.setIfInBounds_toArray, List.set_cons_zero, List.set_cons_succ]
        iterate 5 (refine laneT_take1 (v := ?_) rfl (by kernel_rfl) (by kernel_rfl) (by rfl) ?_ (by exact HY.out) ?_; rotate_left; (focus (intro W hSw; have x0 := HCF.out W hSw; obtain ⟨x1, x2, x3⟩ := x0; go_simp; try (with_reducible rfl))); simp only [Act.put, List.setIfInBounds_toArray, List.set_cons_zero, List.set_cons_succ])
        refine laneT_take1 (v := .agg (ps n0).arr) rfl (by kernel_rfl) (by kernel_rfl) (by rfl) (fun W hSw => exec_load rfl rfl (by
          have h9 := run_loadAt_mid (P := Try.prog) W (w.heap.size + 1) (n0 * 6) 26 _ _ (Tw.range hSw.2.1 (k := n0) (by omega)) Try.underlying26 rfl info6p
          rw [Array.toArray_toList] at h9
          exact h9)) (by exact HY.out) ?_
        simp only [Act.put, List.setIfInBounds_toArray, List.set_cons_zero, List.set_cons_succ]
        iterate 2 (refine laneT_take1 (v := ?_) rfl (by kernel_rfl) (by kernel_rfl) (by rfl) ?_ (by exact HY.out) ?_; rotate_left; (focus (intro W hSw; have x0 := HCF.out W hSw; obtain ⟨x1, x2, x3⟩ := x0; go_simp; try (with_reducible rfl))); simp only [Act.put, List.setIfInBounds_toArray, List.set_cons_zero, List.set_cons_succ])
        refine laneT_alone rfl (by kernel_rfl) (by rfl) (fun KK hK => ?_)
        go_simp
        refine (HA.out W2.drew ((Below.refl _ w).trans hV2.drew)).mono ?_
        rintro e W3 ⟨a', va', rfl, hone', hx', hb⟩
        have hb : Below W2.heap.size W2 W3 := (Below.refl _ W2).drew.trans hb
        have hx' : x = 0 → a' = A' ∧ Cys W3 W2.heap.size W3.heap.size va' A'.l := hx'
        have HX' := Lib.hid hx'
        clear hx'
        have hs2 : g + 1 < W2.heap.size := (Array.getElem?_eq_some_iff.1 q7).1
        have r0 : W3.heap[w.heap.size]? = some (.cells b.arr 38 (0, 0)) := below_block hb q0
        have r1 : W3.heap[w.heap.size + 1]? = some (.cells (Tw.arr ps) 27 (0, 0)) := below_block hb q1
        have r2 : W3.heap[w.heap.size + 1 + 1]? = some (.cells #[.int .u8 K, .int .u8 A, .int .u8 B] 43 (0, 0)) := below_block hb q2
        have r3 : W3.heap[w.heap.size + 1 + 1 + 1]? = some (.cells #[.int .u8 0, .int .i64 0, .int .i64 0, .int .i64 0, .int .i64 0, .int .i64 0, .bool false, .slice none 0 0, .int .i64 0, .int .i64 0, .int .i64 0, .int .i64 0, .int .i64 0, .int .u8 0, .int .i64 0, .int .i64 0, .int .i64 0, .int .i64 0, .bool false, .slice none 0 0, .int .i64 0, .int .i64 0] 38 (0, 0)) := below_block hb q3
        have r4 : W3.heap[w.heap.size + 1 + 1 + 1 + 1]? = some (.cells (Tw.row ps) 26 (0, 0)) := below_block hb q4
        have r5 : W3.heap[w.heap.size + 1 + 1 + 1 + 1 + 1]? = some (.cells bk.arr 73 (0, 0)) := below_block hb q5
        have r6 : W3.heap[g]? = some (.cells #[.int .u8 3, .int .i64 0, .int .i64 n0, .int .i64 0, .int .i64 0, .int .u8 0, .int .i64 0, .int .i64 0, .bool false, .bool false, .int .u8 0, .int .i64 0, .int .i64 0, .int .i64 0, .int .i64 0, .int .u8 0] 61 (0, 0)) := below_block hb q6
        have r7 : W3.heap[g + 1]? = some (.cells (b.a.arr b.va) 33 (0, 0)) := below_block hb q7
        have hV3 : Below w.heap.size w W3 := hV2.trans (hb.mono hV2.size)
        have hzg3 : g + 1 < W3.heap.size := (Array.getElem?_eq_some_iff.1 r7).1
        clear hb q0 q1 q2 q3 q4 q5 q6 q7 hV2 hzg hzg0 W1
        have HY3 : Hid ((fun w' : World => w'.heap[w.heap.size]? = some (.cells b.arr 38 (0, 0)) ∧ w'.heap[w.heap.size + 1]? = some (.cells (Tw.arr ps) 27 (0, 0)) ∧ w'.heap[g]? = some (.cells #[.int .u8 3, .int .i64 0, .int .i64 n0, .int .i64 0, .int .i64 0, .int .u8 0, .int .i64 0, .int .i64 0, .bool false, .bool false, .int .u8 0, .int .i64 0, .int .i64 0, .int .i64 0, .int .i64 0, .int .u8 0] 61 (0, 0))) W3) := ⟨r0, r1, r6⟩
        refine hK _ _ (fun _ => HY3.out) ?_
        clear hK KK HY
        refine laneT_alone rfl (by kernel_rfl) (by rfl) (fun KK hK => ?_)
        go_simp
        refine hK _ _ (fun _ => HY3.out) ?_
        clear hK KK
        iterate 2 (refine laneT_take1 (v := ?_) rfl (by kernel_rfl) (by kernel_rfl) (by rfl) ?_ (by exact HY3.out) ?_; rotate_left; (focus (intro W hSw; have x0 := HCF.out W hSw; obtain ⟨x1, x2, x3⟩ := x0; go_simp; try (with_reducible rfl))); simp only [Act.put, List.setIfInBounds_toArray, List.set_cons_zero, List.set_cons_succ])
        refine laneT_alone rfl (by kernel_rfl) (by rfl) (fun KK hK => ?_)
        refine wp_store_row 33 _ _ rfl (g + 1) (a'.arr va') rfl rfl 33 _ r7 info13 rfl (Av.arr_one hone') ?_
        rw [row_boxed r7]
        refine hK _ _ (fun _ => ⟨boxed_old (by omega) r0, boxed_old (by omega) r1, boxed_old (by omega) r6⟩) ?_
        clear hK KK
        refine laneT_alone rfl (by kernel_rfl) (by rfl) (fun KK hK => ?_)
        go_simp
        refine hK _ _ (fun h => absurd rfl h) ?_
        clear hK KK HY3 HCF
        refine laneT_end (by kernel_rfl) ?_
        obtain ⟨W4, hW4⟩ : ∃ W4, boxed W3 (g + 1) (a'.arr va') 33 = W4 := ⟨_, rfl⟩
        have t0 : W4.heap[w.heap.size]? = some (.cells b.arr 38 (0, 0)) := by rw [← hW4]; exact boxed_old (by omega) r0
        have t1 : W4.heap[w.heap.size + 1]? = some (.cells (Tw.arr ps) 27 (0, 0)) := by rw [← hW4]; exact boxed_old (by omega) r1
        have t2 : W4.heap[w.heap.size + 1 + 1]? = some (.cells #[.int .u8 K, .int .u8 A, .int .u8 B] 43 (0, 0)) := by rw [← hW4]; exact boxed_old (by omega) r2
        have t3 : W4.heap[w.heap.size + 1 + 1 + 1]? = some (.cells #[.int .u8 0, .int .i64 0, .int .i64 0, .int .i64 0, .int .i64 0, .int .i64 0, .bool false, .slice none 0 0, .int .i64 0, .int .i64 0, .int .i64 0, .int .i64 0, .int .i64 0, .int .u8 0, .int .i64 0, .int .i64 0, .int .i64 0, .int .i64 0, .bool false, .slice none 0 0, .int .i64 0, .int .i64 0] 38 (0, 0)) := by rw [← hW4]; exact boxed_old (by omega) r3
        have t4 : W4.heap[w.heap.size + 1 + 1 + 1 + 1]? = some (.cells (Tw.row ps) 26 (0, 0)) := by rw [← hW4]; exact boxed_old (by omega) r4
        have t5 : W4.heap[w.heap.size + 1 + 1 + 1 + 1 + 1]? = some (.cells bk.arr 73 (0, 0)) := by rw [← hW4]; exact boxed_old (by omega) r5
        have t6 : W4.heap[g]? = some (.cells #[.int .u8 3, .int .i64 0, .int .i64 n0, .int .i64 0, .int .i64 0, .int .u8 0, .int .i64 0, .int .i64 0, .bool false, .bool false, .int .u8 0, .int .i64 0, .int .i64 0, .int .i64 0, .int .i64 0, .int .u8 0] 61 (0, 0)) := by rw [← hW4]; exact boxed_old (by omega) r6
        have t7 : W4.heap[g + 1]? = some (.cells (a'.arr va') 33 (0, 0)) := by rw [← hW4]; exact boxed_at hzg3
        have hV4 : Below w.heap.size w W4 := by rw [← hW4]; exact boxed_below hV3 (by omega)
        have hx4 : Hid (x = 0 → a' = A' ∧ Cys W4 W2.heap.size W4.heap.size va' A'.l) := fun h => ⟨(HX'.out h).1, by rw [← hW4]; exact (((HX'.out h).2).boxed (.inl (by omega))).more (Nat.le_refl _) (by simp)⟩
        rw [hW4]
        clear hW4 HX' hV3 r0 r1 r2 r3 r4 r5 r6 r7
        go_wp2_with fail
        go_meet
        case rel => exact ⟨rfl, _, _, W2.heap.size, ⟨t0, t1, t2, t3, t4, t5, t6, t7, hone', hV4, hs2, hx4.out, h7⟩⟩
    | hear l q v0 NK m T M V hk hl hq hq2 hv0 hv hl2 h h7 =>
      have hk' : 10 < K.tmod 16 := by simpa using hk
      have e0 : decide (K.tmod 16 < 5) = false := by simp; omega
      have e5 : (K.tmod 16 == 5) = false := by simp; omega
      have e6 : (K.tmod 16 == 6) = false := by simp; omega
      have e7 : (K.tmod 16 == 7) = false := by simp; omega
      have e8 : (K.tmod 16 == 8) = false := by simp; omega
      have e9 : (K.tmod 16 == 9) = false := by simp; omega
      clear hk'
      have HA := Lib.hid h
      have HL := Lib.hid hl
      have HV := Lib.hid hv
      have HQ := Lib.hid hq
      have HB := Lib.hid hv0
      clear h hl hv hq hv0
      go_wp2_with (((with_reducible_and_instances (show wpList _ _ _ (Oper.mk _ (Op.load 33 _) _ _ _ _ :: _) _ _)); refine stop_here ?_))
      refine ⟨?_⟩
      refine wpList_load_mid rfl _ _ rfl w.heap.size 0 rfl (b.a.arr b.va).toList _ (Wd.range_a (boxed_old (by omega) f0)) Try.underlying33 rfl info13 ?_
      rw [Array.toArray_toList]
      go_wp2_with fail
      obtain ⟨W2, hW2⟩ : ∃ W2, boxed W1 g #[.int .u8 0, .int .i64 0, .int .i64 0, .int .i64 0, .int .i64 0, .int .u8 0, .int .i64 0, .int .i64 0, .bool false, .bool false, .int .u8 0, .int .i64 0, .int .i64 0, .int .i64 0, .int .i64 0, .int .u8 0] 61 = W2 := ⟨_, rfl⟩
      have q0 : W2.heap[w.heap.size]? = some (.cells b.arr 38 (0, 0)) := by rw [← hW2]; exact boxed_old (by omega) f0
      have q1 : W2.heap[w.heap.size + 1]? = some (.cells (Tw.arr ps) 27 (0, 0)) := by rw [← hW2]; exact boxed_old (by omega) f1
      have q2 : W2.heap[w.heap.size + 1 + 1]? = some (.cells #[.int .u8 K, .int .u8 A, .int .u8 B] 43 (0, 0)) := by rw [← hW2]; exact boxed_old (by omega) f2
      have q3 : W2.heap[w.heap.size + 1 + 1 + 1]? = some (.cells #[.int .u8 0, .int .i64 0, .int .i64 0, .int .i64 0, .int .i64 0, .int .i64 0, .bool false, .slice none 0 0, .int .i64 0, .int .i64 0, .int .i64 0, .int .i64 0, .int .i64 0, .int .u8 0, .int .i64 0, .int .i64 0, .int .i64 0, .int .i64 0, .bool false, .slice none 0 0, .int .i64 0, .int .i64 0] 38 (0, 0)) := by rw [← hW2]; exact boxed_old (by omega) f3
      have q4 : W2.heap[w.heap.size + 1 + 1 + 1 + 1]? = some (.cells (Tw.row ps) 26 (0, 0)) := by rw [← hW2]; exact boxed_old (by omega) f4
      have q5 : W2.heap[w.heap.size + 1 + 1 + 1 + 1 + 1]? = some (.cells bk.arr 73 (0, 0)) := by rw [← hW2]; exact boxed_old (by omega) f5
      have q6 : W2.heap[g]? = some (.cells #[.int .u8 0, .int .i64 0, .int .i64 0, .int .i64 0, .int .i64 0, .int .u8 0, .int .i64 0, .int .i64 0, .bool false, .bool false, .int .u8 0, .int .i64 0, .int .i64 0, .int .i64 0, .int .i64 0, .int .u8 0] 61 (0, 0)) := by rw [← hW2]; exact boxed_at hzg0
      have q7 : W2.heap[g + 1]? = some (.cells (b.a.arr b.va) 33 (0, 0)) := by rw [← hW2]; exact boxed_old (by omega) f7
      have hV2 : Below w.heap.size w W2 := by rw [← hW2]; exact boxed_below hV (by omega)
      rw [hW2]
      clear hW2 f0 f1 f2 f3 f4 f5 f6 f7 hV ac0 ac1 ac2 wc20 wc21
      refine (HL.out _ hV2).mono ?_
      rintro e W3 ⟨v', rfl, hown, hb⟩
      have hs2 : g + 1 < W2.heap.size := (Array.getElem?_eq_some_iff.1 q7).1
      have r0 : W3.heap[w.heap.size]? = some (.cells b.arr 38 (0, 0)) := below_block hb q0
      have r1 : W3.heap[w.heap.size + 1]? = some (.cells (Tw.arr ps) 27 (0, 0)) := below_block hb q1
      have r2 : W3.heap[w.heap.size + 1 + 1]? = some (.cells #[.int .u8 K, .int .u8 A, .int .u8 B] 43 (0, 0)) := below_block hb q2
      have r3 : W3.heap[w.heap.size + 1 + 1 + 1]? = some (.cells #[.int .u8 0, .int .i64 0, .int .i64 0, .int .i64 0, .int .i64 0, .int .i64 0, .bool false, .slice none 0 0, .int .i64 0, .int .i64 0, .int .i64 0, .int .i64 0, .int .i64 0, .int .u8 0, .int .i64 0, .int .i64 0, .int .i64 0, .int .i64 0, .bool false, .slice none 0 0, .int .i64 0, .int .i64 0] 38 (0, 0)) := below_block hb q3
      have r4 : W3.heap[w.heap.size + 1 + 1 + 1 + 1]? = some (.cells (Tw.row ps) 26 (0, 0)) := below_block hb q4
      have r5 : W3.heap[w.heap.size + 1 + 1 + 1 + 1 + 1]? = some (.cells bk.arr 73 (0, 0)) := below_block hb q5
      have r6 : W3.heap[g]? = some (.cells #[.int .u8 0, .int .i64 0, .int .i64 0, .int .i64 0, .int .i64 0, .int .u8 0, .int .i64 0, .int .i64 0, .bool false, .bool false, .int .u8 0, .int .i64 0, .int .i64 0, .int .i64 0, .int .i64 0, .int .u8 0] 61 (0, 0)) := below_block hb q6
      have r7 : W3.heap[g + 1]? = some (.cells (b.a.arr b.va) 33 (0, 0)) := below_block hb q7
      have hV3 : Below w.heap.size w W3 := hV2.trans (hb.mono hV2.size)
      have hzg3 : g + 1 < W3.heap.size := (Array.getElem?_eq_some_iff.1 r7).1
      obtain ⟨G, oo, cap, hvv, hql, hc1, hc2, hG1, hG2, hr⟩ := (Nvs.own hown).at_ hq2
      subst hvv
      have hr' : W3.rangeAt G (oo + q * 6) (#[Value.int .u8 NK, .int .i64 0, .int .i64 m, .int .i64 T, .int .i64 M, .int .u8 0]).toList := hr
      have HR := Lib.hid hr'
      clear hr'
      obtain ⟨ln, hln⟩ : ∃ n, l.length = n := ⟨_, rfl⟩
      rw [hln] at hql hc1 HQ hl2 ⊢
      have d0 : ((ln : Int) == 0) = false := by simp; omega
      clear hb hr hown hln hq2 q0 q1 q2 q3 q4 q5 q6 q7 hV2 hzg hzg0 W1
      have hA3 : W3.cell? ⟨w.heap.size + 1 + 1, 1, none⟩ = some (.int .u8 A) := by rw [cell_of_row _ _ _ _ _ _ r2]; rfl
      have hq0 : 0 ≤ A % (ln : Int) := by rw [HQ.out]; omega
      have hq1 : A % (ln : Int) < (ln : Int) := by rw [HQ.out]; omega
      have hqI : (q : Int) < (ln : Int) := by omega
      have hqJ : (0 : Int) ≤ (q : Int) := by omega
      go_wp2_with (((with_reducible_and_instances (show wpList _ _ _ (Oper.mk _ (Op.load 59 _) _ _ _ _ :: _) _ _)); refine stop_here ?_))
      refine ⟨?_⟩
      rw [HQ.out, Int.toNat_natCast]
      refine wpList_load_mid rfl _ _ rfl G (oo + q * 6) rfl (#[.int .u8 NK, .int .i64 0, .int .i64 m, .int .i64 T, .int .i64 M, .int .u8 0]).toList _ HR.out Try.underlying59 rfl info6 ?_
      rw [Array.toArray_toList]
      go_wp2_with (((with_reducible_and_instances (show wpList _ _ _ (Oper.mk _ (Op.store 59 _ _) _ _ _ _ :: _) _ _)); refine stop_here ?_))
      refine ⟨?_⟩
      refine wl_store (g := W3.heap.size) info6 rfl rfl rfl rfl (alloc_at rfl) rfl rfl (by simp [Value.oneCell']) ?_
      obtain ⟨W4, hW4⟩ : ∃ W4, boxed (W3.alloc (.cells #[.int .u8 0, .int .i64 0, .int .i64 0, .int .i64 0, .int .i64 0, .int .u8 0] 59)) W3.heap.size #[.int .u8 NK, .int .i64 0, .int .i64 m, .int .i64 T, .int .i64 M, .int .u8 0] 59 = W4 := ⟨_, rfl⟩
      have u0 : W4.heap[w.heap.size]? = some (.cells b.arr 38 (0, 0)) := by rw [← hW4]; exact boxed_old (by omega) (alloc_old (by omega) r0)
      have u1 : W4.heap[w.heap.size + 1]? = some (.cells (Tw.arr ps) 27 (0, 0)) := by rw [← hW4]; exact boxed_old (by omega) (alloc_old (by omega) r1)
      have u2 : W4.heap[w.heap.size + 1 + 1]? = some (.cells #[.int .u8 K, .int .u8 A, .int .u8 B] 43 (0, 0)) := by rw [← hW4]; exact boxed_old (by omega) (alloc_old (by omega) r2)
      have u3 : W4.heap[w.heap.size + 1 + 1 + 1]? = some (.cells #[.int .u8 0, .int .i64 0, .int .i64 0, .int .i64 0, .int .i64 0, .int .i64 0, .bool false, .slice none 0 0, .int .i64 0, .int .i64 0, .int .i64 0, .int .i64 0, .int .i64 0, .int .u8 0, .int .i64 0, .int .i64 0, .int .i64 0, .int .i64 0, .bool false, .slice none 0 0, .int .i64 0, .int .i64 0] 38 (0, 0)) := by rw [← hW4]; exact boxed_old (by omega) (alloc_old (by omega) r3)
      have u4 : W4.heap[w.heap.size + 1 + 1 + 1 + 1]? = some (.cells (Tw.row ps) 26 (0, 0)) := by rw [← hW4]; exact boxed_old (by omega) (alloc_old (by omega) r4)
      have u5 : W4.heap[w.heap.size + 1 + 1 + 1 + 1 + 1]? = some (.cells bk.arr 73 (0, 0)) := by rw [← hW4]; exact boxed_old (by omega) (alloc_old (by omega) r5)
      have u6 : W4.heap[g]? = some (.cells #[.int .u8 0, .int .i64 0, .int .i64 0, .int .i64 0, .int .i64 0, .int .u8 0, .int .i64 0, .int .i64 0, .bool false, .bool false, .int .u8 0, .int .i64 0, .int .i64 0, .int .i64 0, .int .i64 0, .int .u8 0] 61 (0, 0)) := by rw [← hW4]; exact boxed_old (by omega) (alloc_old (by omega) r6)
      have u7 : W4.heap[g + 1]? = some (.cells (b.a.arr b.va) 33 (0, 0)) := by rw [← hW4]; exact boxed_old (by omega) (alloc_old (by omega) r7)
      have u8 : W4.heap[W3.heap.size]? = some (.cells #[.int .u8 NK, .int .i64 0, .int .i64 m, .int .i64 T, .int .i64 M, .int .u8 0] 59 (0, 0)) := by rw [← hW4]; exact boxed_at (by simp)
      have hV4 : Below w.heap.size w W4 := by rw [← hW4]; exact boxed_below (hV3.alloc (by omega) _) (by omega)
      have hs4 : W4.heap.size = W3.heap.size + 1 := by rw [← hW4]; simp
      rw [hW4]
      clear hW4 hA3 HR
      obtain ⟨nb, hnb⟩ : ∃ nb, W3.heap.size = nb := ⟨_, rfl⟩
      rw [hnb] at u8 hs4 hzg3 hG2
      rw [hnb]
      have hz4a : nb < W4.heap.size := by omega
      have hz4b : W4.heap.size ≤ nb + 1 := by omega
      clear hs4 hnb hV3 r0 r1 r2 r3 r4 r5 r6 r7 W3
      go_wp2_with (((with_reducible_and_instances (show wpList _ _ _ (Oper.mk _ (Op.fieldAddr 43 _ _) _ _ _ _ :: _) _ _)); refine stop_here ?_))
      refine ⟨?_⟩
      obtain ⟨W5, hW5⟩ : ∃ W5, W4.alloc (.cells #[.int .u8 1, .int .u8 1, .int .u8 2, .int .u8 3] 5) = W5 := ⟨_, rfl⟩
      have x0 : W5.heap[w.heap.size]? = some (.cells b.arr 38 (0, 0)) := by rw [← hW5]; exact alloc_old (by omega) u0
      have x1 : W5.heap[w.heap.size + 1]? = some (.cells (Tw.arr ps) 27 (0, 0)) := by rw [← hW5]; exact alloc_old (by omega) u1
      have x2 : W5.heap[w.heap.size + 1 + 1]? = some (.cells #[.int .u8 K, .int .u8 A, .int .u8 B] 43 (0, 0)) := by rw [← hW5]; exact alloc_old (by omega) u2
      have x3 : W5.heap[w.heap.size + 1 + 1 + 1]? = some (.cells #[.int .u8 0, .int .i64 0, .int .i64 0, .int .i64 0, .int .i64 0, .int .i64 0, .bool false, .slice none 0 0, .int .i64 0, .int .i64 0, .int .i64 0, .int .i64 0, .int .i64 0, .int .u8 0, .int .i64 0, .int .i64 0, .int .i64 0, .int .i64 0, .bool false, .slice none 0 0, .int .i64 0, .int .i64 0] 38 (0, 0)) := by rw [← hW5]; exact alloc_old (by omega) u3
      have x4 : W5.heap[w.heap.size + 1 + 1 + 1 + 1]? = some (.cells (Tw.row ps) 26 (0, 0)) := by rw [← hW5]; exact alloc_old (by omega) u4
      have x5 : W5.heap[w.heap.size + 1 + 1 + 1 + 1 + 1]? = some (.cells bk.arr 73 (0, 0)) := by rw [← hW5]; exact alloc_old (by omega) u5
      have x6 : W5.heap[g]? = some (.cells #[.int .u8 0, .int .i64 0, .int .i64 0, .int .i64 0, .int .i64 0, .int .u8 0, .int .i64 0, .int .i64 0, .bool false, .bool false, .int .u8 0, .int .i64 0, .int .i64 0, .int .i64 0, .int .i64 0, .int .u8 0] 61 (0, 0)) := by rw [← hW5]; exact alloc_old (by omega) u6
      have x7 : W5.heap[g + 1]? = some (.cells (b.a.arr b.va) 33 (0, 0)) := by rw [← hW5]; exact alloc_old (by omega) u7
      have x8 : W5.heap[nb]? = some (.cells #[.int .u8 NK, .int .i64 0, .int .i64 m, .int .i64 T, .int .i64 M, .int .u8 0] 59 (0, 0)) := by rw [← hW5]; exact alloc_old (by omega) u8
      have x9 : W5.heap[W4.heap.size]? = some (.cells #[.int .u8 1, .int .u8 1, .int .u8 2, .int .u8 3] 5 (0, 0)) := by rw [← hW5]; exact alloc_at rfl
      have hV5 : Below w.heap.size w W5 := by rw [← hW5]; exact hV4.alloc (by omega) _
      rw [hW5]
      clear hW5
      obtain ⟨mb, hmb⟩ : ∃ mb, W4.heap.size = mb := ⟨_, rfl⟩
      rw [hmb] at x9 hz4a hz4b
      rw [hmb]
      clear hmb hV4 u0 u1 u2 u3 u4 u5 u6 u7 u8 W4
      have hz5 : nb < W5.heap.size := (Array.getElem?_eq_some_iff.1 x8).1
      have y2 : ∀ cs, (boxed W5 nb cs 59).cell? ⟨w.heap.size + 1 + 1, 2, none⟩ = some (.int .u8 B) := fun cs => by rw [cell_of_row _ _ _ _ _ _ (boxed_old (by omega) x2)]; rfl
      have y9 : ∀ cs, (boxed W5 nb cs 59).cell? ⟨mb, (B % 4).toNat, none⟩ = some (.int .u8 V) := fun cs => by
        rw [HB.out, Int.toNat_natCast, cell_of_row _ _ _ _ _ _ (boxed_old (by omega) x9), HV.out]
        have h4 : v0 < 4 := by have := HB.out; omega
        have : v0 = 0 ∨ v0 = 1 ∨ v0 = 2 ∨ v0 = 3 := by omega
        rcases this with rfl | rfl | rfl | rfl <;> rfl
      have y20 : ∀ cs, (boxed W5 nb cs 59).cell? ⟨w.heap.size, 20, none⟩ = some (.int .i64 b.td) := fun cs => by rw [cell_of_row _ _ _ _ _ _ (boxed_old (by omega) x0)]; exact b.at20
      have hvI : (v0 : Int) < 4 := by have := HB.out; omega
      have hvJ : (0 : Int) ≤ (v0 : Int) := by omega
      have hv4a : 0 ≤ B % 4 := by omega
      have hv4b : B % 4 < 4 := by omega
      have eb := boxed_self x8
      rw [eb]
      clear eb
      go_upto_region 12 with fail
      obtain ⟨W6, hW6⟩ : ∃ W6, boxed W5 nb #[.int .u8 NK, .int .i64 0, .int .i64 m, .int .i64 T, .int .i64 M, .int .u8 V] 59 = W6 := ⟨_, rfl⟩
      have w0 : W6.heap[w.heap.size]? = some (.cells b.arr 38 (0, 0)) := by rw [← hW6]; exact boxed_old (by omega) x0
      have w1 : W6.heap[w.heap.size + 1]? = some (.cells (Tw.arr ps) 27 (0, 0)) := by rw [← hW6]; exact boxed_old (by omega) x1
      have w2 : W6.heap[w.heap.size + 1 + 1]? = some (.cells #[.int .u8 K, .int .u8 A, .int .u8 B] 43 (0, 0)) := by rw [← hW6]; exact boxed_old (by omega) x2
      have w3 : W6.heap[w.heap.size + 1 + 1 + 1]? = some (.cells #[.int .u8 0, .int .i64 0, .int .i64 0, .int .i64 0, .int .i64 0, .int .i64 0, .bool false, .slice none 0 0, .int .i64 0, .int .i64 0, .int .i64 0, .int .i64 0, .int .i64 0, .int .u8 0, .int .i64 0, .int .i64 0, .int .i64 0, .int .i64 0, .bool false, .slice none 0 0, .int .i64 0, .int .i64 0] 38 (0, 0)) := by rw [← hW6]; exact boxed_old (by omega) x3
      have w4 : W6.heap[w.heap.size + 1 + 1 + 1 + 1]? = some (.cells (Tw.row ps) 26 (0, 0)) := by rw [← hW6]; exact boxed_old (by omega) x4
      have w5 : W6.heap[w.heap.size + 1 + 1 + 1 + 1 + 1]? = some (.cells bk.arr 73 (0, 0)) := by rw [← hW6]; exact boxed_old (by omega) x5
      have w6 : W6.heap[g]? = some (.cells #[.int .u8 0, .int .i64 0, .int .i64 0, .int .i64 0, .int .i64 0, .int .u8 0, .int .i64 0, .int .i64 0, .bool false, .bool false, .int .u8 0, .int .i64 0, .int .i64 0, .int .i64 0, .int .i64 0, .int .u8 0] 61 (0, 0)) := by rw [← hW6]; exact boxed_old (by omega) x6
      have w7 : W6.heap[g + 1]? = some (.cells (b.a.arr b.va) 33 (0, 0)) := by rw [← hW6]; exact boxed_old (by omega) x7
      have w8 : W6.heap[nb]? = some (.cells #[.int .u8 NK, .int .i64 0, .int .i64 m, .int .i64 T, .int .i64 M, .int .u8 V] 59 (0, 0)) := by rw [← hW6]; exact boxed_at hz5
      have hV6 : Below w.heap.size w W6 := by rw [← hW6]; exact boxed_below hV5 (by omega)
      rw [hW6]
      clear hW6 y2 y9 y20 hV5 x0 x1 x2 x3 x4 x5 x6 x7 x8 x9 hz5 W5
      have hzg6 : g + 1 < W6.heap.size := (Array.getElem?_eq_some_iff.1 w7).1
      have hz6 : nb < W6.heap.size := (Array.getElem?_eq_some_iff.1 w8).1
      have hzg0 : g < W6.heap.size := by omega
      have y20 : ∀ cs, (boxed W6 g cs 61).cell? ⟨w.heap.size, 20, none⟩ = some (.int .i64 b.td) := fun cs => by rw [cell_of_row _ _ _ _ _ _ (boxed_old (by omega) w0)]; exact b.at20
      have eb := boxed_self w6
      rw [eb]
      clear eb
      go_wp2_with (((with_reducible_and_instances (show wpList _ _ _ (Oper.mk _ (Op.load 59 _) _ _ _ _ :: _) _ _)); refine stop_here ?_))
      refine ⟨?_⟩
      refine wl_load (cs := #[.int .u8 NK, .int .i64 0, .int .i64 m, .int .i64 T, .int .i64 M, .int .u8 V]) (fr := (0, 0)) (g := nb) Try.underlying59 rfl info6 rfl rfl rfl (boxed_old (by omega) w8) rfl ?_
      go_upto_region 13 with fail
      go_wp2_with (((with_reducible_and_instances (show wpList _ _ _ (Oper.mk _ (Op.load 33 _) _ _ _ _ :: _) _ _)); refine stop_here ?_))
      refine ⟨?_⟩
      refine wpList_load_mid rfl _ _ rfl w.heap.size 0 rfl (b.a.arr b.va).toList _ (Wd.range_a (boxed_old (by omega) w0)) Try.underlying33 rfl info13 ?_
      rw [Array.toArray_toList]
      go_wp2_with (((with_reducible_and_instances (show wpList _ _ _ (Oper.mk _ (Op.load 59 _) _ _ _ _ :: _) _ _)); refine stop_here ?_))
      refine ⟨?_⟩
      refine wl_load (cs := #[.int .u8 NK, .int .i64 0, .int .i64 m, .int .i64 T, .int .i64 M, .int .u8 V]) (fr := (0, 0)) (g := nb) Try.underlying59 rfl info6 rfl rfl rfl (boxed_old (by omega) w8) rfl ?_
      go_wp2_with fail
      have hzg : g + 1 < W6.heap.size := hzg6
      have f0 := w0
      have f1 := w1
      have f2 := w2
      have f3 := w3
      have f4 := w4
      have f5 := w5
      have f6 := w6
      have f7 := w7
      have hV := hV6
      clear w0 w1 w2 w3 w4 w5 w6 w7 hV6
      obtain ⟨W1, hW1⟩ : ∃ W1, W6 = W1 := ⟨_, rfl⟩
      subst hW1
      obtain ⟨W2, hW2⟩ : ∃ W2, boxed W6 g #[.int .u8 10, .int .i64 0, .int .i64 0, .int .i64 0, .int .i64 0, .int .u8 0, .int .i64 0, .int .i64 0, .bool false, .bool false, .int .u8 NK, .int .i64 0, .int .i64 m, .int .i64 T, .int .i64 M, .int .u8 V] 61 = W2 := ⟨_, rfl⟩
      have q0 : W2.heap[w.heap.size]? = some (.cells b.arr 38 (0, 0)) := by rw [← hW2]; exact boxed_old (by omega) f0
      have q1 : W2.heap[w.heap.size + 1]? = some (.cells (Tw.arr ps) 27 (0, 0)) := by rw [← hW2]; exact boxed_old (by omega) f1
      have q2 : W2.heap[w.heap.size + 1 + 1]? = some (.cells #[.int .u8 K, .int .u8 A, .int .u8 B] 43 (0, 0)) := by rw [← hW2]; exact boxed_old (by omega) f2
      have q3 : W2.heap[w.heap.size + 1 + 1 + 1]? = some (.cells #[.int .u8 0, .int .i64 0, .int .i64 0, .int .i64 0, .int .i64 0, .int .i64 0, .bool false, .slice none 0 0, .int .i64 0, .int .i64 0, .int .i64 0, .int .i64 0, .int .i64 0, .int .u8 0, .int .i64 0, .int .i64 0, .int .i64 0, .int .i64 0, .bool false, .slice none 0 0, .int .i64 0, .int .i64 0] 38 (0, 0)) := by rw [← hW2]; exact boxed_old (by omega) f3
      have q4 : W2.heap[w.heap.size + 1 + 1 + 1 + 1]? = some (.cells (Tw.row ps) 26 (0, 0)) := by rw [← hW2]; exact boxed_old (by omega) f4
      have q5 : W2.heap[w.heap.size + 1 + 1 + 1 + 1 + 1]? = some (.cells bk.arr 73 (0, 0)) := by rw [← hW2]; exact boxed_old (by omega) f5
      have q6 : W2.heap[g]? = some (.cells #[.int .u8 10, .int .i64 0, .int .i64 0, .int .i64 0, .int .i64 0, .int .u8 0, .int .i64 0, .int .i64 0, .bool false, .bool false, .int .u8 NK, .int .i64 0, .int .i64 m, .int .i64 T, .int .i64 M, .int .u8 V] 61 (0, 0)) := by rw [← hW2]; exact boxed_at hzg0
      have q7 : W2.heap[g + 1]? = some (.cells (b.a.arr b.va) 33 (0, 0)) := by rw [← hW2]; exact boxed_old (by omega) f7
      have hV2 : Below w.heap.size w W2 := by rw [← hW2]; exact boxed_below hV (by omega)
      rw [hW2]
      clear hW2 f0 f1 f2 f3 f4 f5 f6 f7 hV
      refine (HA.out _ hV2).mono ?_
      rintro e W3 ⟨a', va', rfl, hone', hx', hb⟩
      have HX' := Lib.hid hx'
      clear hx'
      have hs2 : g + 1 < W2.heap.size := (Array.getElem?_eq_some_iff.1 q7).1
      have r0 : W3.heap[w.heap.size]? = some (.cells b.arr 38 (0, 0)) := below_block hb q0
      have r1 : W3.heap[w.heap.size + 1]? = some (.cells (Tw.arr ps) 27 (0, 0)) := below_block hb q1
      have r2 : W3.heap[w.heap.size + 1 + 1]? = some (.cells #[.int .u8 K, .int .u8 A, .int .u8 B] 43 (0, 0)) := below_block hb q2
      have r3 : W3.heap[w.heap.size + 1 + 1 + 1]? = some (.cells #[.int .u8 0, .int .i64 0, .int .i64 0, .int .i64 0, .int .i64 0, .int .i64 0, .bool false, .slice none 0 0, .int .i64 0, .int .i64 0, .int .i64 0, .int .i64 0, .int .i64 0, .int .u8 0, .int .i64 0, .int .i64 0, .int .i64 0, .int .i64 0, .bool false, .slice none 0 0, .int .i64 0, .int .i64 0] 38 (0, 0)) := below_block hb q3
      have r4 : W3.heap[w.heap.size + 1 + 1 + 1 + 1]? = some (.cells (Tw.row ps) 26 (0, 0)) := below_block hb q4
      have r5 : W3.heap[w.heap.size + 1 + 1 + 1 + 1 + 1]? = some (.cells bk.arr 73 (0, 0)) := below_block hb q5
      have r6 : W3.heap[g]? = some (.cells #[.int .u8 10, .int .i64 0, .int .i64 0, .int .i64 0, .int .i64 0, .int .u8 0, .int .i64 0, .int .i64 0, .bool false, .bool false, .int .u8 NK, .int .i64 0, .int .i64 m, .int .i64 T, .int .i64 M, .int .u8 V] 61 (0, 0)) := below_block hb q6
      have r7 : W3.heap[g + 1]? = some (.cells (b.a.arr b.va) 33 (0, 0)) := below_block hb q7
      have hV3 : Below w.heap.size w W3 := hV2.trans (hb.mono hV2.size)
      have hzg3 : g + 1 < W3.heap.size := (Array.getElem?_eq_some_iff.1 r7).1
      clear hb q0 q1 q2 q3 q4 q5 q6 q7 hV2 hzg hzg0
      go_wp2_with (((with_reducible_and_instances (show wpList _ _ _ (Oper.mk _ (Op.store 33 _ _) _ _ _ _ :: _) _ _)); refine stop_here ?_))
      refine ⟨?_⟩
      refine wl_store (g := g + 1) info13 rfl rfl rfl rfl r7 rfl rfl (Av.arr_one hone') ?_
      obtain ⟨W4, hW4⟩ : ∃ W4, boxed W3 (g + 1) (a'.arr va') 33 = W4 := ⟨_, rfl⟩
      have t0 : W4.heap[w.heap.size]? = some (.cells b.arr 38 (0, 0)) := by rw [← hW4]; exact boxed_old (by omega) r0
      have t1 : W4.heap[w.heap.size + 1]? = some (.cells (Tw.arr ps) 27 (0, 0)) := by rw [← hW4]; exact boxed_old (by omega) r1
      have t2 : W4.heap[w.heap.size + 1 + 1]? = some (.cells #[.int .u8 K, .int .u8 A, .int .u8 B] 43 (0, 0)) := by rw [← hW4]; exact boxed_old (by omega) r2
      have t3 : W4.heap[w.heap.size + 1 + 1 + 1]? = some (.cells #[.int .u8 0, .int .i64 0, .int .i64 0, .int .i64 0, .int .i64 0, .int .i64 0, .bool false, .slice none 0 0, .int .i64 0, .int .i64 0, .int .i64 0, .int .i64 0, .int .i64 0, .int .u8 0, .int .i64 0, .int .i64 0, .int .i64 0, .int .i64 0, .bool false, .slice none 0 0, .int .i64 0, .int .i64 0] 38 (0, 0)) := by rw [← hW4]; exact boxed_old (by omega) r3
      have t4 : W4.heap[w.heap.size + 1 + 1 + 1 + 1]? = some (.cells (Tw.row ps) 26 (0, 0)) := by rw [← hW4]; exact boxed_old (by omega) r4
      have t5 : W4.heap[w.heap.size + 1 + 1 + 1 + 1 + 1]? = some (.cells bk.arr 73 (0, 0)) := by rw [← hW4]; exact boxed_old (by omega) r5
      have t6 : W4.heap[g]? = some (.cells #[.int .u8 10, .int .i64 0, .int .i64 0, .int .i64 0, .int .i64 0, .int .u8 0, .int .i64 0, .int .i64 0, .bool false, .bool false, .int .u8 NK, .int .i64 0, .int .i64 m, .int .i64 T, .int .i64 M, .int .u8 V] 61 (0, 0)) := by rw [← hW4]; exact boxed_old (by omega) r6
      have t7 : W4.heap[g + 1]? = some (.cells (a'.arr va') 33 (0, 0)) := by rw [← hW4]; exact boxed_at hzg3
      have hV4 : Below w.heap.size w W4 := by rw [← hW4]; exact boxed_below hV3 (by omega)
      have hx4 : Hid (x = 0 → a' = A' ∧ Cys W4 W2.heap.size W4.heap.size va' A'.l) := fun h => ⟨(HX'.out h).1, by rw [← hW4]; exact (((HX'.out h).2).boxed (.inl (by omega))).more (Nat.le_refl _) (by simp)⟩
      rw [hW4]
      clear hW4 HX' hV3 r0 r1 r2 r3 r4 r5 r6 r7
      go_wp2_with fail
      go_meet
      case rel => exact ⟨rfl, _, _, W2.heap.size, ⟨t0, t1, t2, t3, t4, t5, t6, t7, hone', hV4, hs2, hx4.out, h7⟩⟩
    | idle hk hl hx =>
      have hk' : 10 < K.tmod 16 := by simpa using hk
      have e0 : decide (K.tmod 16 < 5) = false := by simp; omega
      have e5 : (K.tmod 16 == 5) = false := by simp; omega
      have e6 : (K.tmod 16 == 6) = false := by simp; omega
      have e7 : (K.tmod 16 == 7) = false := by simp; omega
      have e8 : (K.tmod 16 == 8) = false := by simp; omega
      have e9 : (K.tmod 16 == 9) = false := by simp; omega
      clear hk'
      have HL := Lib.hid hl
      clear hl
      go_wp2_with (((with_reducible_and_instances (show wpList _ _ _ (Oper.mk _ (Op.load 33 _) _ _ _ _ :: _) _ _)); refine stop_here ?_))
      refine ⟨?_⟩
      refine wpList_load_mid rfl _ _ rfl w.heap.size 0 rfl (b.a.arr b.va).toList _ (Wd.range_a (boxed_old (by omega) f0)) Try.underlying33 rfl info13 ?_
      rw [Array.toArray_toList]
      go_wp2_with fail
      obtain ⟨W2, hW2⟩ : ∃ W2, boxed W1 g #[.int .u8 0, .int .i64 0, .int .i64 0, .int .i64 0, .int .i64 0, .int .u8 0, .int .i64 0, .int .i64 0, .bool false, .bool false, .int .u8 0, .int .i64 0, .int .i64 0, .int .i64 0, .int .i64 0, .int .u8 0] 61 = W2 := ⟨_, rfl⟩
      have q0 : W2.heap[w.heap.size]? = some (.cells b.arr 38 (0, 0)) := by rw [← hW2]; exact boxed_old (by omega) f0
      have q1 : W2.heap[w.heap.size + 1]? = some (.cells (Tw.arr ps) 27 (0, 0)) := by rw [← hW2]; exact boxed_old (by omega) f1
      have q2 : W2.heap[w.heap.size + 1 + 1]? = some (.cells #[.int .u8 K, .int .u8 A, .int .u8 B] 43 (0, 0)) := by rw [← hW2]; exact boxed_old (by omega) f2
      have q3 : W2.heap[w.heap.size + 1 + 1 + 1]? = some (.cells #[.int .u8 0, .int .i64 0, .int .i64 0, .int .i64 0, .int .i64 0, .int .i64 0, .bool false, .slice none 0 0, .int .i64 0, .int .i64 0, .int .i64 0, .int .i64 0, .int .i64 0, .int .u8 0, .int .i64 0, .int .i64 0, .int .i64 0, .int .i64 0, .bool false, .slice none 0 0, .int .i64 0, .int .i64 0] 38 (0, 0)) := by rw [← hW2]; exact boxed_old (by omega) f3
      have q4 : W2.heap[w.heap.size + 1 + 1 + 1 + 1]? = some (.cells (Tw.row ps) 26 (0, 0)) := by rw [← hW2]; exact boxed_old (by omega) f4
      have q5 : W2.heap[w.heap.size + 1 + 1 + 1 + 1 + 1]? = some (.cells bk.arr 73 (0, 0)) := by rw [← hW2]; exact boxed_old (by omega) f5
      have q6 : W2.heap[g]? = some (.cells #[.int .u8 0, .int .i64 0, .int .i64 0, .int .i64 0, .int .i64 0, .int .u8 0, .int .i64 0, .int .i64 0, .bool false, .bool false, .int .u8 0, .int .i64 0, .int .i64 0, .int .i64 0, .int .i64 0, .int .u8 0] 61 (0, 0)) := by rw [← hW2]; exact boxed_at hzg0
      have q7 : W2.heap[g + 1]? = some (.cells (b.a.arr b.va) 33 (0, 0)) := by rw [← hW2]; exact boxed_old (by omega) f7
      have hV2 : Below w.heap.size w W2 := by rw [← hW2]; exact boxed_below hV (by omega)
      rw [hW2]
      clear hW2 f0 f1 f2 f3 f4 f5 f6 f7 hV ac0 ac1 ac2 wc20 wc21
      refine (HL.out _ hV2).mono ?_
      rintro e W3 ⟨v', rfl, hown, hb⟩
      have hs2 : g + 1 < W2.heap.size := (Array.getElem?_eq_some_iff.1 q7).1
      have r0 : W3.heap[w.heap.size]? = some (.cells b.arr 38 (0, 0)) := below_block hb q0
      have r1 : W3.heap[w.heap.size + 1]? = some (.cells (Tw.arr ps) 27 (0, 0)) := below_block hb q1
      have r2 : W3.heap[w.heap.size + 1 + 1]? = some (.cells #[.int .u8 K, .int .u8 A, .int .u8 B] 43 (0, 0)) := below_block hb q2
      have r3 : W3.heap[w.heap.size + 1 + 1 + 1]? = some (.cells #[.int .u8 0, .int .i64 0, .int .i64 0, .int .i64 0, .int .i64 0, .int .i64 0, .bool false, .slice none 0 0, .int .i64 0, .int .i64 0, .int .i64 0, .int .i64 0, .int .i64 0, .int .u8 0, .int .i64 0, .int .i64 0, .int .i64 0, .int .i64 0, .bool false, .slice none 0 0, .int .i64 0, .int .i64 0] 38 (0, 0)) := below_block hb q3
      have r4 : W3.heap[w.heap.size + 1 + 1 + 1 + 1]? = some (.cells (Tw.row ps) 26 (0, 0)) := below_block hb q4
      have r5 : W3.heap[w.heap.size + 1 + 1 + 1 + 1 + 1]? = some (.cells bk.arr 73 (0, 0)) := below_block hb q5
      have r6 : W3.heap[g]? = some (.cells #[.int .u8 0, .int .i64 0, .int .i64 0, .int .i64 0, .int .i64 0, .int .u8 0, .int .i64 0, .int .i64 0, .bool false, .bool false, .int .u8 0, .int .i64 0, .int .i64 0, .int .i64 0, .int .i64 0, .int .u8 0] 61 (0, 0)) := below_block hb q6
      have r7 : W3.heap[g + 1]? = some (.cells (b.a.arr b.va) 33 (0, 0)) := below_block hb q7
      have hV3 : Below w.heap.size w W3 := hV2.trans (hb.mono hV2.size)
      have hzg3 : g + 1 < W3.heap.size := (Array.getElem?_eq_some_iff.1 r7).1
      obtain ⟨An, cn, hvv, hn1, hn2, _, _⟩ := Nvs.own hown
      subst hvv
      have e00 : ([] : List Nv).length = 0 := rfl
      rw [e00]
      clear hb hown e00 hn1 hn2 q0 q1 q2 q3 q4 q5 q6 q7 hV2 hzg hzg0 W1
      go_wp2_with (((with_reducible_and_instances (show wpList _ _ _ (Oper.mk _ (Op.load 38 _) _ _ _ _ :: _) _ _)); refine stop_here ?_))
      refine ⟨?_⟩
      refine wl_load (cs := b.arr) (fr := (0, 0)) (g := w.heap.size) Try.underlying38 rfl Wd.info rfl rfl rfl r0 (Wd.arr_size _) ?_
      go_wp2_with (((with_reducible_and_instances (show wpList _ _ _ (Oper.mk _ (Op.store 38 _ _) _ _ _ _ :: _) _ _)); refine stop_here ?_))
      refine ⟨?_⟩
      refine wl_store (g := w.heap.size + 1 + 1 + 1) Wd.info rfl rfl rfl rfl r3 rfl (Wd.arr_size _) (Wd.arr_one hva hvs) ?_
      have hz3 : w.heap.size + 1 + 1 + 1 < W3.heap.size := (Array.getElem?_eq_some_iff.1 r3).1
      go_wp2_with fail
      refine bodyPost_ret (results_row_tmp rfl _ _ (w.heap.size + 1 + 1 + 1) 38 _ (0, 0) _ rfl (boxed_at hz3) Try.underlying38 rfl (by rw [Wd.arr_size]; exact Wd.info)) rfl ?_
      exact ⟨b, rfl, fun _ => rfl, fun h => absurd (hx.symm.trans h) (by decide), boxed_below hV3 (by omega)⟩
end Go.Proofs.Ytnbfkdcpghkglaa
