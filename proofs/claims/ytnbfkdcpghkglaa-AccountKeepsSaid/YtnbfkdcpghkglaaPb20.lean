/-
  The document's own Step: Pause, Resume, Skip, and where nothing can be done. No conditions but the sizes.
-/
import Derived.Deep.CutRange
import Derived.Test.YtnbfkdcpghkglaaPb18
import Derived.Test.YtnbfkdcpghkglaaPb19
set_option linter.unusedSimpArgs false
set_option linter.unusedVariables false
namespace Go.Proofs.Ytnbfkdcpghkglaa
set_option maxRecDepth 100000
open Go.ChangeShapes Go.WideShapes Go.ChangeAt Go.RowKit

/-- Its slices are cells. -/
def Bk.One (b : Bk) : Prop := b.vp.oneCell' = true ∧ ∀ i, i < 32 → (b.v i).oneCell' = true
theorem Bk.One.arr {b : Bk} (h : b.One) : b.arr.all (·.oneCell') = true := Bk.arr_one h.1 h.2
theorem Bk.One.put {b : Bk} (h : b.One) (i : Nat) (s : Sv) {v : Value} (hv : v.oneCell' = true) : (b.put i s v).One := by
  refine ⟨h.1, fun j hj => ?_⟩
  by_cases e : j = i
  · subst e; rw [(b.put_same j s v).2]; exact hv
  · rw [(b.put_other s v e).2]; exact h.2 j hj
/-- What is answered with a book. -/
def Books (w : World) (b : Bk) (x : Int) (e : Ending) (w' : World) : Prop := e = .returned (.tuple #[.agg b.arr, .int .i64 x]) ∧ Below w.heap.size w w'
theorem ocells {w : World} {g : Nat} {ty : TypeId} {fr : Nat × Nat} {k s p n a u e t : Value} {c8 c9 c10 c11 c12 c13 c14 c15 : Value} (h : w.heap[g]? = some (.cells #[k, s, p, n, a, u, e, t, c8, c9, c10, c11, c12, c13, c14, c15] ty fr)) :
    w.cell? ⟨g, 0, none⟩ = some k ∧ w.cell? ⟨g, 1, none⟩ = some s ∧ w.cell? ⟨g, 2, none⟩ = some p ∧ w.cell? ⟨g, 3, none⟩ = some n ∧ w.cell? ⟨g, 10, none⟩ = some c10 ∧ w.cell? ⟨g, 11, none⟩ = some c11 ∧ w.cell? ⟨g, 12, none⟩ = some c12 ∧ w.cell? ⟨g, 13, none⟩ = some c13 ∧ w.cell? ⟨g, 14, none⟩ = some c14 ∧ w.cell? ⟨g, 15, none⟩ = some c15 := by
  refine ⟨?_, ?_, ?_, ?_, ?_, ?_, ?_, ?_, ?_, ?_⟩
  all_goals
    rw [cell_of_row _ _ _ _ _ _ h]
    rfl
set_option maxHeartbeats 4000000 in
theorem step_pause_no {w : World} {b : Bk} {i : Nat} (hi : i < 32) (hone : b.One) (hst : (b.s i).st = 2 ∨ (b.s i).st = 3) :
    Calls Try.prog 32 #[.agg b.arr, .agg #[.int .u8 4, .int .i64 (i : Int), .int .i64 0, .int .i64 0, .int .i64 0, .int .u8 0, .int .i64 0, .int .i64 0, .bool false, .bool false, .int .u8 0, .int .i64 0, .int .i64 0, .int .i64 0, .int .i64 0, .int .u8 0]] w (Books w b 8) := by
  obtain ⟨s, hs⟩ : ∃ s, b.s i = s := ⟨_, rfl⟩
  obtain ⟨v, hv⟩ : ∃ v, b.v i = v := ⟨_, rfl⟩
  rw [hs] at hst
  have hv1 : v.oneCell' = true := by rw [← hv]; exact hone.2 i hi
  have HON := Lib.hid hone
  have HS := Lib.hid hs
  have HV := Lib.hid hv
  have hi0 : (0 : Int) ≤ (i : Int) := by omega
  have hi1 : (i : Int) < 32 := by omega
  have hba := hone.arr
  have HRG : Hid (∀ X : World, X.heap[w.heap.size]? = some (.cells b.arr 73 (0, 0)) → X.rangeAt w.heap.size (2 + i * 7) (s.arr v).toList) := fun X hX => by
    have := Bk.range hX hi
    rw [hs, hv] at this
    exact this
  clear hs hv hone
  go_enter Try.func32, Try.ntmps32
  go_upto_region 30 with fail
  obtain ⟨W0, hW0⟩ : ∃ W0, ((w.alloc (.cells b.arr 73)).alloc (.cells #[.int .u8 4, .int .i64 (i : Int), .int .i64 0, .int .i64 0, .int .i64 0, .int .u8 0, .int .i64 0, .int .i64 0, .bool false, .bool false, .int .u8 0, .int .i64 0, .int .i64 0, .int .i64 0, .int .i64 0, .int .u8 0] 61)).alloc (.cells Try.zeroCells73 73) = W0 := ⟨_, rfl⟩
  have hB : W0.heap[w.heap.size]? = some (.cells b.arr 73 (0, 0)) := by rw [← hW0]; exact alloc_old (by simp; omega) (alloc_old (by simp) (alloc_at rfl))
  have hO : W0.heap[w.heap.size + 1]? = some (.cells #[.int .u8 4, .int .i64 (i : Int), .int .i64 0, .int .i64 0, .int .i64 0, .int .u8 0, .int .i64 0, .int .i64 0, .bool false, .bool false, .int .u8 0, .int .i64 0, .int .i64 0, .int .i64 0, .int .i64 0, .int .u8 0] 61 (0, 0)) := by rw [← hW0]; exact alloc_old (by simp) (alloc_at (by simp))
  have hZ : W0.heap[w.heap.size + 1 + 1]? = some (.cells Try.zeroCells73 73 (0, 0)) := by rw [← hW0]; exact alloc_at (by simp)
  have hW : Below w.heap.size w W0 := by rw [← hW0]; exact (((Below.refl _ w).alloc (Nat.le_refl _) _).alloc (by simp) _).alloc (by simp; omega) _
  have hz2 : w.heap.size + 1 + 1 < W0.heap.size := (Array.getElem?_eq_some_iff.1 hZ).1
  have hz1 : w.heap.size + 1 < W0.heap.size := by omega
  have hz0 : w.heap.size < W0.heap.size := by omega
  rw [hW0]
  clear hW0
  obtain ⟨o0, o1, o2, o3, o10, o11, o12, o13, o14, o15⟩ := ocells hO
  have HW := Lib.hid hW
  have HB := Lib.hid hB
  have e9 := boxed_self hB
  rw [e9]
  clear e9 hW hB hO
  have hways : ((s.st == 0) = false ∧ (s.st == 1) = false ∧ (s.st == 2) = true ∧ (s.st != 1) = true ∧ (s.st != 2) = false) ∨ ((s.st == 0) = false ∧ (s.st == 1) = false ∧ (s.st == 2) = false ∧ (s.st != 1) = true ∧ (s.st != 2) = true) := by
    rcases hst with h | h
    · exact .inl ⟨by rw [h]; decide, by rw [h]; decide, by rw [h]; decide, by rw [h]; decide, by rw [h]; decide⟩
    · exact .inr ⟨by rw [h]; decide, by rw [h]; decide, by rw [h]; decide, by rw [h]; decide, by rw [h]; decide⟩
  clear hst
  rcases hways with ⟨d0, d1, d2, n1, n2⟩ | ⟨d0, d1, d2, n1, n2⟩
  all_goals
    go_wp2_with (first | ((with_reducible_and_instances (show wpList _ _ _ (Oper.mk _ (Op.load 36 _ ) _ _ _ _ :: _) _ _)); refine wpList_load_mid rfl _ _ rfl w.heap.size (2 + i * 7) rfl (s.arr v).toList _ (HRG.out _ (boxed_at hz0)) Try.underlying36 rfl info7s ?_; rw [Array.toArray_toList]) | ((with_reducible_and_instances (show wpList _ _ _ (Oper.mk _ (Op.store 36 _ _ ) _ _ _ _ :: _) _ _)); refine wl_store info7s rfl rfl rfl rfl (by (repeat (first | assumption | (with_reducible refine alloc_at ?_; (focus (first | omega | (simp; done) | (simp; omega)))) | (with_reducible refine boxed_at ?_; (focus (first | omega | (simp; done) | (simp; omega)))) | (with_reducible refine alloc_old ?_ ?_; (focus (first | omega | (simp; done) | (simp; omega)))) | (with_reducible refine boxed_old ?_ ?_; (focus (first | omega | (simp; done) | (simp; omega)))) | (with_reducible refine drew_old ?_)))) (by rfl) (by rfl) (Sv.arr_one hv1) ?_) | ((with_reducible_and_instances (show wpList _ _ _ (Oper.mk _ (Op.load 73 _ ) _ _ _ _ :: _) _ _)); refine wl_load Try.underlying73 rfl Bk.info rfl rfl rfl (by (repeat (first | assumption | (with_reducible refine alloc_at ?_; (focus (first | omega | (simp; done) | (simp; omega)))) | (with_reducible refine boxed_at ?_; (focus (first | omega | (simp; done) | (simp; omega)))) | (with_reducible refine alloc_old ?_ ?_; (focus (first | omega | (simp; done) | (simp; omega)))) | (with_reducible refine boxed_old ?_ ?_; (focus (first | omega | (simp; done) | (simp; omega)))) | (with_reducible refine drew_old ?_)))) (Bk.arr_size _) ?_) | ((with_reducible_and_instances (show wpList _ _ _ (Oper.mk _ (Op.store 73 _ _ ) _ _ _ _ :: _) _ _)); refine stop_here ?_))
    refine ⟨?_⟩
    refine wl_store (g := w.heap.size + 1 + 1) Bk.info rfl rfl rfl rfl (boxed_old (by omega) (alloc_old (by simp; omega) (boxed_old (by omega) hZ))) Bk.zero_size (Bk.arr_size _) hba ?_
    go_wp2_with (fail)
    refine bodyPost_ret (results_row_tmp rfl _ _ (w.heap.size + 1 + 1) 73 _ (0, 0) _ rfl (boxed_at (by rw [boxed_size]; simp; omega)) Try.underlying73 rfl (by rw [Bk.arr_size]; exact Bk.info)) rfl ?_
    exact ⟨rfl, boxed_below (boxed_below ((boxed_below HW.out (Nat.le_refl _)).alloc (by simp; omega) _) (by omega)) (by omega)⟩
set_option maxHeartbeats 4000000 in
theorem step_pause_yes {w : World} {b : Bk} {i : Nat} (hi : i < 32) (hone : b.One) (hst : (b.s i).st = 1) :
    Calls Try.prog 32 #[.agg b.arr, .agg #[.int .u8 4, .int .i64 (i : Int), .int .i64 0, .int .i64 0, .int .i64 0, .int .u8 0, .int .i64 0, .int .i64 0, .bool false, .bool false, .int .u8 0, .int .i64 0, .int .i64 0, .int .i64 0, .int .i64 0, .int .u8 0]] w (Books w (b.put i ({ b.s i with st := 2 } : Sv) (b.v i)) 0) := by
  obtain ⟨s, hs⟩ : ∃ s, b.s i = s := ⟨_, rfl⟩
  obtain ⟨v, hv⟩ : ∃ v, b.v i = v := ⟨_, rfl⟩
  rw [hs] at hst
  have hv1 : v.oneCell' = true := by rw [← hv]; exact hone.2 i hi
  have HON := Lib.hid hone
  have HS := Lib.hid hs
  have HV := Lib.hid hv
  have hi0 : (0 : Int) ≤ (i : Int) := by omega
  have hi1 : (i : Int) < 32 := by omega
  have HRG : Hid (∀ X : World, X.heap[w.heap.size]? = some (.cells b.arr 73 (0, 0)) → X.rangeAt w.heap.size (2 + i * 7) (s.arr v).toList) := fun X hX => by
    have := Bk.range hX hi
    rw [hs, hv] at this
    exact this
  clear hs hv hone
  go_enter Try.func32, Try.ntmps32
  go_upto_region 30 with fail
  obtain ⟨W0, hW0⟩ : ∃ W0, ((w.alloc (.cells b.arr 73)).alloc (.cells #[.int .u8 4, .int .i64 (i : Int), .int .i64 0, .int .i64 0, .int .i64 0, .int .u8 0, .int .i64 0, .int .i64 0, .bool false, .bool false, .int .u8 0, .int .i64 0, .int .i64 0, .int .i64 0, .int .i64 0, .int .u8 0] 61)).alloc (.cells Try.zeroCells73 73) = W0 := ⟨_, rfl⟩
  have hB : W0.heap[w.heap.size]? = some (.cells b.arr 73 (0, 0)) := by rw [← hW0]; exact alloc_old (by simp; omega) (alloc_old (by simp) (alloc_at rfl))
  have hO : W0.heap[w.heap.size + 1]? = some (.cells #[.int .u8 4, .int .i64 (i : Int), .int .i64 0, .int .i64 0, .int .i64 0, .int .u8 0, .int .i64 0, .int .i64 0, .bool false, .bool false, .int .u8 0, .int .i64 0, .int .i64 0, .int .i64 0, .int .i64 0, .int .u8 0] 61 (0, 0)) := by rw [← hW0]; exact alloc_old (by simp) (alloc_at (by simp))
  have hZ : W0.heap[w.heap.size + 1 + 1]? = some (.cells Try.zeroCells73 73 (0, 0)) := by rw [← hW0]; exact alloc_at (by simp)
  have hW : Below w.heap.size w W0 := by rw [← hW0]; exact (((Below.refl _ w).alloc (Nat.le_refl _) _).alloc (by simp) _).alloc (by simp; omega) _
  have hz2 : w.heap.size + 1 + 1 < W0.heap.size := (Array.getElem?_eq_some_iff.1 hZ).1
  have hz1 : w.heap.size + 1 < W0.heap.size := by omega
  have hz0 : w.heap.size < W0.heap.size := by omega
  rw [hW0]
  clear hW0
  obtain ⟨o0, o1, o2, o3, o10, o11, o12, o13, o14, o15⟩ := ocells hO
  have HW := Lib.hid hW
  have HB := Lib.hid hB
  have e9 := boxed_self hB
  rw [e9]
  clear e9 hW hB hO
  have d0 : (s.st == 0) = false := by rw [hst]; decide
  have n0 : (s.st != 0) = true := by rw [hst]; decide
  have d1 : (s.st == 1) = true := by rw [hst]; decide
  have n1 : (s.st != 1) = false := by rw [hst]; decide
  have d2 : (s.st == 2) = false := by rw [hst]; decide
  have n2 : (s.st != 2) = true := by rw [hst]; decide
  have d3 : (s.st == 3) = false := by rw [hst]; decide
  have n3 : (s.st != 3) = true := by rw [hst]; decide
  clear hst
  go_upto_region 93 with (first | ((with_reducible_and_instances (show wpList _ _ _ (Oper.mk _ (Op.load 36 _ ) _ _ _ _ :: _) _ _)); refine wpList_load_mid rfl _ _ rfl w.heap.size (2 + i * 7) rfl (s.arr v).toList _ (HRG.out _ (boxed_at hz0)) Try.underlying36 rfl info7s ?_; rw [Array.toArray_toList]) | ((with_reducible_and_instances (show wpList _ _ _ (Oper.mk _ (Op.store 36 _ _ ) _ _ _ _ :: _) _ _)); refine wl_store info7s rfl rfl rfl rfl (by (repeat (first | assumption | (with_reducible refine alloc_at ?_; (focus (first | omega | (simp; done) | (simp; omega)))) | (with_reducible refine boxed_at ?_; (focus (first | omega | (simp; done) | (simp; omega)))) | (with_reducible refine alloc_old ?_ ?_; (focus (first | omega | (simp; done) | (simp; omega)))) | (with_reducible refine boxed_old ?_ ?_; (focus (first | omega | (simp; done) | (simp; omega)))) | (with_reducible refine drew_old ?_)))) (by rfl) (by rfl) (Sv.arr_one hv1) ?_))
  obtain ⟨s2, hs2⟩ : ∃ s2, ({ s with st := 2 } : Sv) = s2 := ⟨_, rfl⟩
  obtain ⟨W1, hW1⟩ : ∃ W1, boxed ((boxed W0 w.heap.size b.arr 73).alloc (.cells #[.int .u8 0, .int .i64 0, .int .i64 0, .int .i64 0, .int .i64 0, .bool false, .slice none 0 0] 36)) W0.heap.size (s2.arr v) 36 = W1 := ⟨_, rfl⟩
  have hB1 : W1.heap[w.heap.size]? = some (.cells b.arr 73 (0, 0)) := by rw [← hW1]; exact boxed_old (by omega) (alloc_old (by simp; omega) (boxed_at hz0))
  have hS1 : W1.heap[W0.heap.size]? = some (.cells (s2.arr v) 36 (0, 0)) := by rw [← hW1]; exact boxed_at (by simp)
  have hZ1 : W1.heap[w.heap.size + 1 + 1]? = some (.cells Try.zeroCells73 73 (0, 0)) := by rw [← hW1]; exact boxed_old (by omega) (alloc_old (by simp; omega) (boxed_old (by omega) hZ))
  have hO1 : W1.cell? ⟨w.heap.size + 1, 1, none⟩ = some (.int .i64 (i : Int)) := by
    have hk : W1.heap[w.heap.size + 1]? = W0.heap[w.heap.size + 1]? := by
      rw [← hW1, boxed_block_other (by omega), alloc_block_old (by rw [boxed_size]; omega), boxed_block_other (by omega)]
    exact (World.cell?_of_block (a := ⟨w.heap.size + 1, 1, none⟩) hk).trans o1
  have HW1 : Hid (Below w.heap.size w W1) := by
    show Below _ _ _
    rw [← hW1]; exact boxed_below ((boxed_below HW.out (Nat.le_refl _)).alloc (by simp; omega) _) (by omega)
  have hz10 : w.heap.size < W1.heap.size := (Array.getElem?_eq_some_iff.1 hB1).1
  have hz12 : w.heap.size + 1 + 1 < W1.heap.size := (Array.getElem?_eq_some_iff.1 hZ1).1
  have hz1s : W0.heap.size < W1.heap.size := (Array.getElem?_eq_some_iff.1 hS1).1
  rw [hs2, hW1]
  have e9 := boxed_self hB1
  rw [e9]
  have HPUT : Hid (b.put i ({ b.s i with st := 2 } : Sv) (b.v i) = b.put i s2 v) := by
    show _ = _
    rw [HS.out, HV.out, hs2]
  have hb2 : (b.put i s2 v).arr.all (·.oneCell') = true := (HON.out.put i s2 hv1).arr
  clear e9 hs2 hW1 hB1 o0 o1 o2 o3 o10 o11 o12 o13 o14 o15 hZ
  go_wp2_with (((with_reducible_and_instances (show wpList _ _ _ (Oper.mk _ (Op.load 36 _ ) _ _ _ _ :: _) _ _)); refine stop_here ?_))
  refine ⟨?_⟩
  refine wl_load (cs := s2.arr v) (fr := (0, 0)) (g := W0.heap.size) Try.underlying36 rfl info7s rfl rfl rfl (boxed_old (by omega) hS1) (by rfl) ?_
  go_wp2_with (((with_reducible_and_instances (show wpList _ _ _ (Oper.mk _ (Op.store 36 _ _ ) _ _ _ _ :: _) _ _)); refine stop_here ?_))
  refine ⟨?_⟩
  refine wpList_store_mid rfl _ _ _ rfl (w.heap.size) (2 + i * 7) (s2.arr v) rfl rfl (Bk.there (by omega) hi) info7s (Sv.arr_one hv1) ?_
  rw [Bk.store]
  go_wp2_with (((with_reducible_and_instances (show wpList _ _ _ (Oper.mk _ (Op.load 73 _ ) _ _ _ _ :: _) _ _)); refine stop_here ?_))
  refine ⟨?_⟩
  refine wl_load (cs := (b.put i s2 v).arr) (fr := (0, 0)) (g := w.heap.size) Try.underlying73 rfl Bk.info rfl rfl rfl (boxed_at (by omega)) (Bk.arr_size _) ?_
  go_wp2_with (((with_reducible_and_instances (show wpList _ _ _ (Oper.mk _ (Op.store 73 _ _ ) _ _ _ _ :: _) _ _)); refine stop_here ?_))
  refine ⟨?_⟩
  refine wl_store (g := w.heap.size + 1 + 1) Bk.info rfl rfl rfl rfl (boxed_old (by omega) hZ1) Bk.zero_size (Bk.arr_size _) hb2 ?_
  go_wp2_with (fail)
  refine bodyPost_ret (results_row_tmp rfl _ _ (w.heap.size + 1 + 1) 73 _ (0, 0) _ rfl (boxed_at (by rw [boxed_size]; omega)) Try.underlying73 rfl (by rw [Bk.arr_size]; exact Bk.info)) rfl ?_
  exact ⟨by rw [HPUT.out]; rfl, boxed_below (boxed_below HW1.out (Nat.le_refl _)) (by omega)⟩
set_option maxHeartbeats 4000000 in
theorem step_resume_no {w : World} {b : Bk} {i : Nat} (hi : i < 32) (hone : b.One) (hst : (b.s i).st = 1 ∨ (b.s i).st = 3) :
    Calls Try.prog 32 #[.agg b.arr, .agg #[.int .u8 5, .int .i64 (i : Int), .int .i64 0, .int .i64 0, .int .i64 0, .int .u8 0, .int .i64 0, .int .i64 0, .bool false, .bool false, .int .u8 0, .int .i64 0, .int .i64 0, .int .i64 0, .int .i64 0, .int .u8 0]] w (Books w b 8) := by
  obtain ⟨s, hs⟩ : ∃ s, b.s i = s := ⟨_, rfl⟩
  obtain ⟨v, hv⟩ : ∃ v, b.v i = v := ⟨_, rfl⟩
  rw [hs] at hst
  have hv1 : v.oneCell' = true := by rw [← hv]; exact hone.2 i hi
  have HON := Lib.hid hone
  have HS := Lib.hid hs
  have HV := Lib.hid hv
  have hi0 : (0 : Int) ≤ (i : Int) := by omega
  have hi1 : (i : Int) < 32 := by omega
  have hba := hone.arr
  have HRG : Hid (∀ X : World, X.heap[w.heap.size]? = some (.cells b.arr 73 (0, 0)) → X.rangeAt w.heap.size (2 + i * 7) (s.arr v).toList) := fun X hX => by
    have := Bk.range hX hi
    rw [hs, hv] at this
    exact this
  clear hs hv hone
  go_enter Try.func32, Try.ntmps32
  go_upto_region 30 with fail
  obtain ⟨W0, hW0⟩ : ∃ W0, ((w.alloc (.cells b.arr 73)).alloc (.cells #[.int .u8 5, .int .i64 (i : Int), .int .i64 0, .int .i64 0, .int .i64 0, .int .u8 0, .int .i64 0, .int .i64 0, .bool false, .bool false, .int .u8 0, .int .i64 0, .int .i64 0, .int .i64 0, .int .i64 0, .int .u8 0] 61)).alloc (.cells Try.zeroCells73 73) = W0 := ⟨_, rfl⟩
  have hB : W0.heap[w.heap.size]? = some (.cells b.arr 73 (0, 0)) := by rw [← hW0]; exact alloc_old (by simp; omega) (alloc_old (by simp) (alloc_at rfl))
  have hO : W0.heap[w.heap.size + 1]? = some (.cells #[.int .u8 5, .int .i64 (i : Int), .int .i64 0, .int .i64 0, .int .i64 0, .int .u8 0, .int .i64 0, .int .i64 0, .bool false, .bool false, .int .u8 0, .int .i64 0, .int .i64 0, .int .i64 0, .int .i64 0, .int .u8 0] 61 (0, 0)) := by rw [← hW0]; exact alloc_old (by simp) (alloc_at (by simp))
  have hZ : W0.heap[w.heap.size + 1 + 1]? = some (.cells Try.zeroCells73 73 (0, 0)) := by rw [← hW0]; exact alloc_at (by simp)
  have hW : Below w.heap.size w W0 := by rw [← hW0]; exact (((Below.refl _ w).alloc (Nat.le_refl _) _).alloc (by simp) _).alloc (by simp; omega) _
  have hz2 : w.heap.size + 1 + 1 < W0.heap.size := (Array.getElem?_eq_some_iff.1 hZ).1
  have hz1 : w.heap.size + 1 < W0.heap.size := by omega
  have hz0 : w.heap.size < W0.heap.size := by omega
  rw [hW0]
  clear hW0
  obtain ⟨o0, o1, o2, o3, o10, o11, o12, o13, o14, o15⟩ := ocells hO
  have HW := Lib.hid hW
  have HB := Lib.hid hB
  have e9 := boxed_self hB
  rw [e9]
  clear e9 hW hB hO
  have hways : ((s.st == 0) = false ∧ (s.st == 1) = true ∧ (s.st == 2) = false ∧ (s.st != 1) = false ∧ (s.st != 2) = true) ∨ ((s.st == 0) = false ∧ (s.st == 1) = false ∧ (s.st == 2) = false ∧ (s.st != 1) = true ∧ (s.st != 2) = true) := by
    rcases hst with h | h
    · exact .inl ⟨by rw [h]; decide, by rw [h]; decide, by rw [h]; decide, by rw [h]; decide, by rw [h]; decide⟩
    · exact .inr ⟨by rw [h]; decide, by rw [h]; decide, by rw [h]; decide, by rw [h]; decide, by rw [h]; decide⟩
  clear hst
  rcases hways with ⟨d0, d1, d2, n1, n2⟩ | ⟨d0, d1, d2, n1, n2⟩
  all_goals
    go_wp2_with (first | ((with_reducible_and_instances (show wpList _ _ _ (Oper.mk _ (Op.load 36 _ ) _ _ _ _ :: _) _ _)); refine wpList_load_mid rfl _ _ rfl w.heap.size (2 + i * 7) rfl (s.arr v).toList _ (HRG.out _ (boxed_at hz0)) Try.underlying36 rfl info7s ?_; rw [Array.toArray_toList]) | ((with_reducible_and_instances (show wpList _ _ _ (Oper.mk _ (Op.store 36 _ _ ) _ _ _ _ :: _) _ _)); refine wl_store info7s rfl rfl rfl rfl (by (repeat (first | assumption | (with_reducible refine alloc_at ?_; (focus (first | omega | (simp; done) | (simp; omega)))) | (with_reducible refine boxed_at ?_; (focus (first | omega | (simp; done) | (simp; omega)))) | (with_reducible refine alloc_old ?_ ?_; (focus (first | omega | (simp; done) | (simp; omega)))) | (with_reducible refine boxed_old ?_ ?_; (focus (first | omega | (simp; done) | (simp; omega)))) | (with_reducible refine drew_old ?_)))) (by rfl) (by rfl) (Sv.arr_one hv1) ?_) | ((with_reducible_and_instances (show wpList _ _ _ (Oper.mk _ (Op.load 73 _ ) _ _ _ _ :: _) _ _)); refine wl_load Try.underlying73 rfl Bk.info rfl rfl rfl (by (repeat (first | assumption | (with_reducible refine alloc_at ?_; (focus (first | omega | (simp; done) | (simp; omega)))) | (with_reducible refine boxed_at ?_; (focus (first | omega | (simp; done) | (simp; omega)))) | (with_reducible refine alloc_old ?_ ?_; (focus (first | omega | (simp; done) | (simp; omega)))) | (with_reducible refine boxed_old ?_ ?_; (focus (first | omega | (simp; done) | (simp; omega)))) | (with_reducible refine drew_old ?_)))) (Bk.arr_size _) ?_) | ((with_reducible_and_instances (show wpList _ _ _ (Oper.mk _ (Op.store 73 _ _ ) _ _ _ _ :: _) _ _)); refine stop_here ?_))
    refine ⟨?_⟩
    refine wl_store (g := w.heap.size + 1 + 1) Bk.info rfl rfl rfl rfl (boxed_old (by omega) (alloc_old (by simp; omega) (boxed_old (by omega) hZ))) Bk.zero_size (Bk.arr_size _) hba ?_
    go_wp2_with (fail)
    refine bodyPost_ret (results_row_tmp rfl _ _ (w.heap.size + 1 + 1) 73 _ (0, 0) _ rfl (boxed_at (by rw [boxed_size]; simp; omega)) Try.underlying73 rfl (by rw [Bk.arr_size]; exact Bk.info)) rfl ?_
    exact ⟨rfl, boxed_below (boxed_below ((boxed_below HW.out (Nat.le_refl _)).alloc (by simp; omega) _) (by omega)) (by omega)⟩
set_option maxHeartbeats 4000000 in
theorem step_resume_yes {w : World} {b : Bk} {i : Nat} (hi : i < 32) (hone : b.One) (hst : (b.s i).st = 2) :
    Calls Try.prog 32 #[.agg b.arr, .agg #[.int .u8 5, .int .i64 (i : Int), .int .i64 0, .int .i64 0, .int .i64 0, .int .u8 0, .int .i64 0, .int .i64 0, .bool false, .bool false, .int .u8 0, .int .i64 0, .int .i64 0, .int .i64 0, .int .i64 0, .int .u8 0]] w (Books w (b.put i ({ b.s i with st := 1 } : Sv) (b.v i)) 0) := by
  obtain ⟨s, hs⟩ : ∃ s, b.s i = s := ⟨_, rfl⟩
  obtain ⟨v, hv⟩ : ∃ v, b.v i = v := ⟨_, rfl⟩
  rw [hs] at hst
  have hv1 : v.oneCell' = true := by rw [← hv]; exact hone.2 i hi
  have HON := Lib.hid hone
  have HS := Lib.hid hs
  have HV := Lib.hid hv
  have hi0 : (0 : Int) ≤ (i : Int) := by omega
  have hi1 : (i : Int) < 32 := by omega
  have HRG : Hid (∀ X : World, X.heap[w.heap.size]? = some (.cells b.arr 73 (0, 0)) → X.rangeAt w.heap.size (2 + i * 7) (s.arr v).toList) := fun X hX => by
    have := Bk.range hX hi
    rw [hs, hv] at this
    exact this
  clear hs hv hone
  go_enter Try.func32, Try.ntmps32
  go_upto_region 30 with fail
  obtain ⟨W0, hW0⟩ : ∃ W0, ((w.alloc (.cells b.arr 73)).alloc (.cells #[.int .u8 5, .int .i64 (i : Int), .int .i64 0, .int .i64 0, .int .i64 0, .int .u8 0, .int .i64 0, .int .i64 0, .bool false, .bool false, .int .u8 0, .int .i64 0, .int .i64 0, .int .i64 0, .int .i64 0, .int .u8 0] 61)).alloc (.cells Try.zeroCells73 73) = W0 := ⟨_, rfl⟩
  have hB : W0.heap[w.heap.size]? = some (.cells b.arr 73 (0, 0)) := by rw [← hW0]; exact alloc_old (by simp; omega) (alloc_old (by simp) (alloc_at rfl))
  have hO : W0.heap[w.heap.size + 1]? = some (.cells #[.int .u8 5, .int .i64 (i : Int), .int .i64 0, .int .i64 0, .int .i64 0, .int .u8 0, .int .i64 0, .int .i64 0, .bool false, .bool false, .int .u8 0, .int .i64 0, .int .i64 0, .int .i64 0, .int .i64 0, .int .u8 0] 61 (0, 0)) := by rw [← hW0]; exact alloc_old (by simp) (alloc_at (by simp))
  have hZ : W0.heap[w.heap.size + 1 + 1]? = some (.cells Try.zeroCells73 73 (0, 0)) := by rw [← hW0]; exact alloc_at (by simp)
  have hW : Below w.heap.size w W0 := by rw [← hW0]; exact (((Below.refl _ w).alloc (Nat.le_refl _) _).alloc (by simp) _).alloc (by simp; omega) _
  have hz2 : w.heap.size + 1 + 1 < W0.heap.size := (Array.getElem?_eq_some_iff.1 hZ).1
  have hz1 : w.heap.size + 1 < W0.heap.size := by omega
  have hz0 : w.heap.size < W0.heap.size := by omega
  rw [hW0]
  clear hW0
  obtain ⟨o0, o1, o2, o3, o10, o11, o12, o13, o14, o15⟩ := ocells hO
  have HW := Lib.hid hW
  have HB := Lib.hid hB
  have e9 := boxed_self hB
  rw [e9]
  clear e9 hW hB hO
  have d0 : (s.st == 0) = false := by rw [hst]; decide
  have n0 : (s.st != 0) = true := by rw [hst]; decide
  have d1 : (s.st == 1) = false := by rw [hst]; decide
  have n1 : (s.st != 1) = true := by rw [hst]; decide
  have d2 : (s.st == 2) = true := by rw [hst]; decide
  have n2 : (s.st != 2) = false := by rw [hst]; decide
  have d3 : (s.st == 3) = false := by rw [hst]; decide
  have n3 : (s.st != 3) = true := by rw [hst]; decide
  clear hst
  go_upto_region 93 with (first | ((with_reducible_and_instances (show wpList _ _ _ (Oper.mk _ (Op.load 36 _ ) _ _ _ _ :: _) _ _)); refine wpList_load_mid rfl _ _ rfl w.heap.size (2 + i * 7) rfl (s.arr v).toList _ (HRG.out _ (boxed_at hz0)) Try.underlying36 rfl info7s ?_; rw [Array.toArray_toList]) | ((with_reducible_and_instances (show wpList _ _ _ (Oper.mk _ (Op.store 36 _ _ ) _ _ _ _ :: _) _ _)); refine wl_store info7s rfl rfl rfl rfl (by (repeat (first | assumption | (with_reducible refine alloc_at ?_; (focus (first | omega | (simp; done) | (simp; omega)))) | (with_reducible refine boxed_at ?_; (focus (first | omega | (simp; done) | (simp; omega)))) | (with_reducible refine alloc_old ?_ ?_; (focus (first | omega | (simp; done) | (simp; omega)))) | (with_reducible refine boxed_old ?_ ?_; (focus (first | omega | (simp; done) | (simp; omega)))) | (with_reducible refine drew_old ?_)))) (by rfl) (by rfl) (Sv.arr_one hv1) ?_))
  obtain ⟨s2, hs2⟩ : ∃ s2, ({ s with st := 1 } : Sv) = s2 := ⟨_, rfl⟩
  obtain ⟨W1, hW1⟩ : ∃ W1, boxed ((boxed W0 w.heap.size b.arr 73).alloc (.cells #[.int .u8 0, .int .i64 0, .int .i64 0, .int .i64 0, .int .i64 0, .bool false, .slice none 0 0] 36)) W0.heap.size (s2.arr v) 36 = W1 := ⟨_, rfl⟩
  have hB1 : W1.heap[w.heap.size]? = some (.cells b.arr 73 (0, 0)) := by rw [← hW1]; exact boxed_old (by omega) (alloc_old (by simp; omega) (boxed_at hz0))
  have hS1 : W1.heap[W0.heap.size]? = some (.cells (s2.arr v) 36 (0, 0)) := by rw [← hW1]; exact boxed_at (by simp)
  have hZ1 : W1.heap[w.heap.size + 1 + 1]? = some (.cells Try.zeroCells73 73 (0, 0)) := by rw [← hW1]; exact boxed_old (by omega) (alloc_old (by simp; omega) (boxed_old (by omega) hZ))
  have hO1 : W1.cell? ⟨w.heap.size + 1, 1, none⟩ = some (.int .i64 (i : Int)) := by
    have hk : W1.heap[w.heap.size + 1]? = W0.heap[w.heap.size + 1]? := by
      rw [← hW1, boxed_block_other (by omega), alloc_block_old (by rw [boxed_size]; omega), boxed_block_other (by omega)]
    exact (World.cell?_of_block (a := ⟨w.heap.size + 1, 1, none⟩) hk).trans o1
  have HW1 : Hid (Below w.heap.size w W1) := by
    show Below _ _ _
    rw [← hW1]; exact boxed_below ((boxed_below HW.out (Nat.le_refl _)).alloc (by simp; omega) _) (by omega)
  have hz10 : w.heap.size < W1.heap.size := (Array.getElem?_eq_some_iff.1 hB1).1
  have hz12 : w.heap.size + 1 + 1 < W1.heap.size := (Array.getElem?_eq_some_iff.1 hZ1).1
  have hz1s : W0.heap.size < W1.heap.size := (Array.getElem?_eq_some_iff.1 hS1).1
  rw [hs2, hW1]
  have e9 := boxed_self hB1
  rw [e9]
  have HPUT : Hid (b.put i ({ b.s i with st := 1 } : Sv) (b.v i) = b.put i s2 v) := by
    show _ = _
    rw [HS.out, HV.out, hs2]
  have hb2 : (b.put i s2 v).arr.all (·.oneCell') = true := (HON.out.put i s2 hv1).arr
  clear e9 hs2 hW1 hB1 o0 o1 o2 o3 o10 o11 o12 o13 o14 o15 hZ
  go_wp2_with (((with_reducible_and_instances (show wpList _ _ _ (Oper.mk _ (Op.load 36 _ ) _ _ _ _ :: _) _ _)); refine stop_here ?_))
  refine ⟨?_⟩
  refine wl_load (cs := s2.arr v) (fr := (0, 0)) (g := W0.heap.size) Try.underlying36 rfl info7s rfl rfl rfl (boxed_old (by omega) hS1) (by rfl) ?_
  go_wp2_with (((with_reducible_and_instances (show wpList _ _ _ (Oper.mk _ (Op.store 36 _ _ ) _ _ _ _ :: _) _ _)); refine stop_here ?_))
  refine ⟨?_⟩
  refine wpList_store_mid rfl _ _ _ rfl (w.heap.size) (2 + i * 7) (s2.arr v) rfl rfl (Bk.there (by omega) hi) info7s (Sv.arr_one hv1) ?_
  rw [Bk.store]
  go_wp2_with (((with_reducible_and_instances (show wpList _ _ _ (Oper.mk _ (Op.load 73 _ ) _ _ _ _ :: _) _ _)); refine stop_here ?_))
  refine ⟨?_⟩
  refine wl_load (cs := (b.put i s2 v).arr) (fr := (0, 0)) (g := w.heap.size) Try.underlying73 rfl Bk.info rfl rfl rfl (boxed_at (by omega)) (Bk.arr_size _) ?_
  go_wp2_with (((with_reducible_and_instances (show wpList _ _ _ (Oper.mk _ (Op.store 73 _ _ ) _ _ _ _ :: _) _ _)); refine stop_here ?_))
  refine ⟨?_⟩
  refine wl_store (g := w.heap.size + 1 + 1) Bk.info rfl rfl rfl rfl (boxed_old (by omega) hZ1) Bk.zero_size (Bk.arr_size _) hb2 ?_
  go_wp2_with (fail)
  refine bodyPost_ret (results_row_tmp rfl _ _ (w.heap.size + 1 + 1) 73 _ (0, 0) _ rfl (boxed_at (by rw [boxed_size]; omega)) Try.underlying73 rfl (by rw [Bk.arr_size]; exact Bk.info)) rfl ?_
  exact ⟨by rw [HPUT.out]; rfl, boxed_below (boxed_below HW1.out (Nat.le_refl _)) (by omega)⟩
set_option maxHeartbeats 4000000 in
theorem step_skip_dead {w : World} {b : Bk} {i : Nat} (hi : i < 32) (hone : b.One) (hst : (b.s i).st = 3) :
    Calls Try.prog 32 #[.agg b.arr, .agg #[.int .u8 6, .int .i64 (i : Int), .int .i64 0, .int .i64 0, .int .i64 0, .int .u8 0, .int .i64 0, .int .i64 0, .bool false, .bool false, .int .u8 0, .int .i64 0, .int .i64 0, .int .i64 0, .int .i64 0, .int .u8 0]] w (Books w b 8) := by
  obtain ⟨s, hs⟩ : ∃ s, b.s i = s := ⟨_, rfl⟩
  obtain ⟨v, hv⟩ : ∃ v, b.v i = v := ⟨_, rfl⟩
  rw [hs] at hst
  have hv1 : v.oneCell' = true := by rw [← hv]; exact hone.2 i hi
  have HON := Lib.hid hone
  have HS := Lib.hid hs
  have HV := Lib.hid hv
  have hi0 : (0 : Int) ≤ (i : Int) := by omega
  have hi1 : (i : Int) < 32 := by omega
  have hba := hone.arr
  have HRG : Hid (∀ X : World, X.heap[w.heap.size]? = some (.cells b.arr 73 (0, 0)) → X.rangeAt w.heap.size (2 + i * 7) (s.arr v).toList) := fun X hX => by
    have := Bk.range hX hi
    rw [hs, hv] at this
    exact this
  clear hs hv hone
  go_enter Try.func32, Try.ntmps32
  go_upto_region 30 with fail
  obtain ⟨W0, hW0⟩ : ∃ W0, ((w.alloc (.cells b.arr 73)).alloc (.cells #[.int .u8 6, .int .i64 (i : Int), .int .i64 0, .int .i64 0, .int .i64 0, .int .u8 0, .int .i64 0, .int .i64 0, .bool false, .bool false, .int .u8 0, .int .i64 0, .int .i64 0, .int .i64 0, .int .i64 0, .int .u8 0] 61)).alloc (.cells Try.zeroCells73 73) = W0 := ⟨_, rfl⟩
  have hB : W0.heap[w.heap.size]? = some (.cells b.arr 73 (0, 0)) := by rw [← hW0]; exact alloc_old (by simp; omega) (alloc_old (by simp) (alloc_at rfl))
  have hO : W0.heap[w.heap.size + 1]? = some (.cells #[.int .u8 6, .int .i64 (i : Int), .int .i64 0, .int .i64 0, .int .i64 0, .int .u8 0, .int .i64 0, .int .i64 0, .bool false, .bool false, .int .u8 0, .int .i64 0, .int .i64 0, .int .i64 0, .int .i64 0, .int .u8 0] 61 (0, 0)) := by rw [← hW0]; exact alloc_old (by simp) (alloc_at (by simp))
  have hZ : W0.heap[w.heap.size + 1 + 1]? = some (.cells Try.zeroCells73 73 (0, 0)) := by rw [← hW0]; exact alloc_at (by simp)
  have hW : Below w.heap.size w W0 := by rw [← hW0]; exact (((Below.refl _ w).alloc (Nat.le_refl _) _).alloc (by simp) _).alloc (by simp; omega) _
  have hz2 : w.heap.size + 1 + 1 < W0.heap.size := (Array.getElem?_eq_some_iff.1 hZ).1
  have hz1 : w.heap.size + 1 < W0.heap.size := by omega
  have hz0 : w.heap.size < W0.heap.size := by omega
  rw [hW0]
  clear hW0
  obtain ⟨o0, o1, o2, o3, o10, o11, o12, o13, o14, o15⟩ := ocells hO
  have HW := Lib.hid hW
  have HB := Lib.hid hB
  have e9 := boxed_self hB
  rw [e9]
  clear e9 hW hB hO
  have d0 : (s.st == 0) = false := by rw [hst]; decide
  have n0 : (s.st != 0) = true := by rw [hst]; decide
  have d1 : (s.st == 1) = false := by rw [hst]; decide
  have n1 : (s.st != 1) = true := by rw [hst]; decide
  have d2 : (s.st == 2) = false := by rw [hst]; decide
  have n2 : (s.st != 2) = true := by rw [hst]; decide
  have d3 : (s.st == 3) = true := by rw [hst]; decide
  have n3 : (s.st != 3) = false := by rw [hst]; decide
  clear hst
  all_goals
    go_wp2_with (first | ((with_reducible_and_instances (show wpList _ _ _ (Oper.mk _ (Op.load 36 _ ) _ _ _ _ :: _) _ _)); refine wpList_load_mid rfl _ _ rfl w.heap.size (2 + i * 7) rfl (s.arr v).toList _ (HRG.out _ (boxed_at hz0)) Try.underlying36 rfl info7s ?_; rw [Array.toArray_toList]) | ((with_reducible_and_instances (show wpList _ _ _ (Oper.mk _ (Op.store 36 _ _ ) _ _ _ _ :: _) _ _)); refine wl_store info7s rfl rfl rfl rfl (by (repeat (first | assumption | (with_reducible refine alloc_at ?_; (focus (first | omega | (simp; done) | (simp; omega)))) | (with_reducible refine boxed_at ?_; (focus (first | omega | (simp; done) | (simp; omega)))) | (with_reducible refine alloc_old ?_ ?_; (focus (first | omega | (simp; done) | (simp; omega)))) | (with_reducible refine boxed_old ?_ ?_; (focus (first | omega | (simp; done) | (simp; omega)))) | (with_reducible refine drew_old ?_)))) (by rfl) (by rfl) (Sv.arr_one hv1) ?_) | ((with_reducible_and_instances (show wpList _ _ _ (Oper.mk _ (Op.load 73 _ ) _ _ _ _ :: _) _ _)); refine wl_load Try.underlying73 rfl Bk.info rfl rfl rfl (by (repeat (first | assumption | (with_reducible refine alloc_at ?_; (focus (first | omega | (simp; done) | (simp; omega)))) | (with_reducible refine boxed_at ?_; (focus (first | omega | (simp; done) | (simp; omega)))) | (with_reducible refine alloc_old ?_ ?_; (focus (first | omega | (simp; done) | (simp; omega)))) | (with_reducible refine boxed_old ?_ ?_; (focus (first | omega | (simp; done) | (simp; omega)))) | (with_reducible refine drew_old ?_)))) (Bk.arr_size _) ?_) | ((with_reducible_and_instances (show wpList _ _ _ (Oper.mk _ (Op.store 73 _ _ ) _ _ _ _ :: _) _ _)); refine stop_here ?_))
    refine ⟨?_⟩
    refine wl_store (g := w.heap.size + 1 + 1) Bk.info rfl rfl rfl rfl (boxed_old (by omega) (alloc_old (by simp; omega) (boxed_old (by omega) hZ))) Bk.zero_size (Bk.arr_size _) hba ?_
    go_wp2_with (fail)
    refine bodyPost_ret (results_row_tmp rfl _ _ (w.heap.size + 1 + 1) 73 _ (0, 0) _ rfl (boxed_at (by rw [boxed_size]; simp; omega)) Try.underlying73 rfl (by rw [Bk.arr_size]; exact Bk.info)) rfl ?_
    exact ⟨rfl, boxed_below (boxed_below ((boxed_below HW.out (Nat.le_refl _)).alloc (by simp; omega) _) (by omega)) (by omega)⟩
set_option maxHeartbeats 4000000 in
theorem step_skip_twice {w : World} {b : Bk} {i : Nat} (hi : i < 32) (hone : b.One) (hst : (b.s i).st = 1 ∨ (b.s i).st = 2) (hsk : (b.s i).sk = true) :
    Calls Try.prog 32 #[.agg b.arr, .agg #[.int .u8 6, .int .i64 (i : Int), .int .i64 0, .int .i64 0, .int .i64 0, .int .u8 0, .int .i64 0, .int .i64 0, .bool false, .bool false, .int .u8 0, .int .i64 0, .int .i64 0, .int .i64 0, .int .i64 0, .int .u8 0]] w (Books w b 8) := by
  obtain ⟨s, hs⟩ : ∃ s, b.s i = s := ⟨_, rfl⟩
  obtain ⟨v, hv⟩ : ∃ v, b.v i = v := ⟨_, rfl⟩
  rw [hs] at hst hsk
  have hv1 : v.oneCell' = true := by rw [← hv]; exact hone.2 i hi
  have HON := Lib.hid hone
  have HS := Lib.hid hs
  have HV := Lib.hid hv
  have hi0 : (0 : Int) ≤ (i : Int) := by omega
  have hi1 : (i : Int) < 32 := by omega
  have hba := hone.arr
  have HRG : Hid (∀ X : World, X.heap[w.heap.size]? = some (.cells b.arr 73 (0, 0)) → X.rangeAt w.heap.size (2 + i * 7) (s.arr v).toList) := fun X hX => by
    have := Bk.range hX hi
    rw [hs, hv] at this
    exact this
  clear hs hv hone
  go_enter Try.func32, Try.ntmps32
  go_upto_region 30 with fail
  obtain ⟨W0, hW0⟩ : ∃ W0, ((w.alloc (.cells b.arr 73)).alloc (.cells #[.int .u8 6, .int .i64 (i : Int), .int .i64 0, .int .i64 0, .int .i64 0, .int .u8 0, .int .i64 0, .int .i64 0, .bool false, .bool false, .int .u8 0, .int .i64 0, .int .i64 0, .int .i64 0, .int .i64 0, .int .u8 0] 61)).alloc (.cells Try.zeroCells73 73) = W0 := ⟨_, rfl⟩
  have hB : W0.heap[w.heap.size]? = some (.cells b.arr 73 (0, 0)) := by rw [← hW0]; exact alloc_old (by simp; omega) (alloc_old (by simp) (alloc_at rfl))
  have hO : W0.heap[w.heap.size + 1]? = some (.cells #[.int .u8 6, .int .i64 (i : Int), .int .i64 0, .int .i64 0, .int .i64 0, .int .u8 0, .int .i64 0, .int .i64 0, .bool false, .bool false, .int .u8 0, .int .i64 0, .int .i64 0, .int .i64 0, .int .i64 0, .int .u8 0] 61 (0, 0)) := by rw [← hW0]; exact alloc_old (by simp) (alloc_at (by simp))
  have hZ : W0.heap[w.heap.size + 1 + 1]? = some (.cells Try.zeroCells73 73 (0, 0)) := by rw [← hW0]; exact alloc_at (by simp)
  have hW : Below w.heap.size w W0 := by rw [← hW0]; exact (((Below.refl _ w).alloc (Nat.le_refl _) _).alloc (by simp) _).alloc (by simp; omega) _
  have hz2 : w.heap.size + 1 + 1 < W0.heap.size := (Array.getElem?_eq_some_iff.1 hZ).1
  have hz1 : w.heap.size + 1 < W0.heap.size := by omega
  have hz0 : w.heap.size < W0.heap.size := by omega
  rw [hW0]
  clear hW0
  obtain ⟨o0, o1, o2, o3, o10, o11, o12, o13, o14, o15⟩ := ocells hO
  have HW := Lib.hid hW
  have HB := Lib.hid hB
  have e9 := boxed_self hB
  rw [e9]
  clear e9 hW hB hO
  have hways : ((s.st == 0) = false ∧ (s.st == 1) = true ∧ (s.st == 2) = false ∧ (s.st != 1) = false ∧ (s.st != 2) = true) ∨ ((s.st == 0) = false ∧ (s.st == 1) = false ∧ (s.st == 2) = true ∧ (s.st != 1) = true ∧ (s.st != 2) = false) := by
    rcases hst with h | h
    · exact .inl ⟨by rw [h]; decide, by rw [h]; decide, by rw [h]; decide, by rw [h]; decide, by rw [h]; decide⟩
    · exact .inr ⟨by rw [h]; decide, by rw [h]; decide, by rw [h]; decide, by rw [h]; decide, by rw [h]; decide⟩
  clear hst
  rcases hways with ⟨d0, d1, d2, n1, n2⟩ | ⟨d0, d1, d2, n1, n2⟩
  all_goals
    go_wp2_with (first | ((with_reducible_and_instances (show wpList _ _ _ (Oper.mk _ (Op.load 36 _ ) _ _ _ _ :: _) _ _)); refine wpList_load_mid rfl _ _ rfl w.heap.size (2 + i * 7) rfl (s.arr v).toList _ (HRG.out _ (boxed_at hz0)) Try.underlying36 rfl info7s ?_; rw [Array.toArray_toList]) | ((with_reducible_and_instances (show wpList _ _ _ (Oper.mk _ (Op.store 36 _ _ ) _ _ _ _ :: _) _ _)); refine wl_store info7s rfl rfl rfl rfl (by (repeat (first | assumption | (with_reducible refine alloc_at ?_; (focus (first | omega | (simp; done) | (simp; omega)))) | (with_reducible refine boxed_at ?_; (focus (first | omega | (simp; done) | (simp; omega)))) | (with_reducible refine alloc_old ?_ ?_; (focus (first | omega | (simp; done) | (simp; omega)))) | (with_reducible refine boxed_old ?_ ?_; (focus (first | omega | (simp; done) | (simp; omega)))) | (with_reducible refine drew_old ?_)))) (by rfl) (by rfl) (Sv.arr_one hv1) ?_) | ((with_reducible_and_instances (show wpList _ _ _ (Oper.mk _ (Op.load 73 _ ) _ _ _ _ :: _) _ _)); refine wl_load Try.underlying73 rfl Bk.info rfl rfl rfl (by (repeat (first | assumption | (with_reducible refine alloc_at ?_; (focus (first | omega | (simp; done) | (simp; omega)))) | (with_reducible refine boxed_at ?_; (focus (first | omega | (simp; done) | (simp; omega)))) | (with_reducible refine alloc_old ?_ ?_; (focus (first | omega | (simp; done) | (simp; omega)))) | (with_reducible refine boxed_old ?_ ?_; (focus (first | omega | (simp; done) | (simp; omega)))) | (with_reducible refine drew_old ?_)))) (Bk.arr_size _) ?_) | ((with_reducible_and_instances (show wpList _ _ _ (Oper.mk _ (Op.store 73 _ _ ) _ _ _ _ :: _) _ _)); refine stop_here ?_))
    refine ⟨?_⟩
    refine wl_store (g := w.heap.size + 1 + 1) Bk.info rfl rfl rfl rfl (boxed_old (by omega) (alloc_old (by simp; omega) (boxed_old (by omega) hZ))) Bk.zero_size (Bk.arr_size _) hba ?_
    go_wp2_with (fail)
    refine bodyPost_ret (results_row_tmp rfl _ _ (w.heap.size + 1 + 1) 73 _ (0, 0) _ rfl (boxed_at (by rw [boxed_size]; simp; omega)) Try.underlying73 rfl (by rw [Bk.arr_size]; exact Bk.info)) rfl ?_
    exact ⟨rfl, boxed_below (boxed_below ((boxed_below HW.out (Nat.le_refl _)).alloc (by simp; omega) _) (by omega)) (by omega)⟩
set_option maxHeartbeats 4000000 in
theorem step_skip_one {w : World} {b : Bk} {i : Nat} (hi : i < 32) (hone : b.One) (hst : (b.s i).st = 1) (hsk : (b.s i).sk = false) :
    Calls Try.prog 32 #[.agg b.arr, .agg #[.int .u8 6, .int .i64 (i : Int), .int .i64 0, .int .i64 0, .int .i64 0, .int .u8 0, .int .i64 0, .int .i64 0, .bool false, .bool false, .int .u8 0, .int .i64 0, .int .i64 0, .int .i64 0, .int .i64 0, .int .u8 0]] w (Books w (b.put i ({ b.s i with sk := true } : Sv) (b.v i)) 0) := by
  obtain ⟨s, hs⟩ : ∃ s, b.s i = s := ⟨_, rfl⟩
  obtain ⟨v, hv⟩ : ∃ v, b.v i = v := ⟨_, rfl⟩
  rw [hs] at hst hsk
  have hv1 : v.oneCell' = true := by rw [← hv]; exact hone.2 i hi
  have HON := Lib.hid hone
  have HS := Lib.hid hs
  have HV := Lib.hid hv
  have hi0 : (0 : Int) ≤ (i : Int) := by omega
  have hi1 : (i : Int) < 32 := by omega
  have HRG : Hid (∀ X : World, X.heap[w.heap.size]? = some (.cells b.arr 73 (0, 0)) → X.rangeAt w.heap.size (2 + i * 7) (s.arr v).toList) := fun X hX => by
    have := Bk.range hX hi
    rw [hs, hv] at this
    exact this
  clear hs hv hone
  go_enter Try.func32, Try.ntmps32
  go_upto_region 30 with fail
  obtain ⟨W0, hW0⟩ : ∃ W0, ((w.alloc (.cells b.arr 73)).alloc (.cells #[.int .u8 6, .int .i64 (i : Int), .int .i64 0, .int .i64 0, .int .i64 0, .int .u8 0, .int .i64 0, .int .i64 0, .bool false, .bool false, .int .u8 0, .int .i64 0, .int .i64 0, .int .i64 0, .int .i64 0, .int .u8 0] 61)).alloc (.cells Try.zeroCells73 73) = W0 := ⟨_, rfl⟩
  have hB : W0.heap[w.heap.size]? = some (.cells b.arr 73 (0, 0)) := by rw [← hW0]; exact alloc_old (by simp; omega) (alloc_old (by simp) (alloc_at rfl))
  have hO : W0.heap[w.heap.size + 1]? = some (.cells #[.int .u8 6, .int .i64 (i : Int), .int .i64 0, .int .i64 0, .int .i64 0, .int .u8 0, .int .i64 0, .int .i64 0, .bool false, .bool false, .int .u8 0, .int .i64 0, .int .i64 0, .int .i64 0, .int .i64 0, .int .u8 0] 61 (0, 0)) := by rw [← hW0]; exact alloc_old (by simp) (alloc_at (by simp))
  have hZ : W0.heap[w.heap.size + 1 + 1]? = some (.cells Try.zeroCells73 73 (0, 0)) := by rw [← hW0]; exact alloc_at (by simp)
  have hW : Below w.heap.size w W0 := by rw [← hW0]; exact (((Below.refl _ w).alloc (Nat.le_refl _) _).alloc (by simp) _).alloc (by simp; omega) _
  have hz2 : w.heap.size + 1 + 1 < W0.heap.size := (Array.getElem?_eq_some_iff.1 hZ).1
  have hz1 : w.heap.size + 1 < W0.heap.size := by omega
  have hz0 : w.heap.size < W0.heap.size := by omega
  rw [hW0]
  clear hW0
  obtain ⟨o0, o1, o2, o3, o10, o11, o12, o13, o14, o15⟩ := ocells hO
  have HW := Lib.hid hW
  have HB := Lib.hid hB
  have e9 := boxed_self hB
  rw [e9]
  clear e9 hW hB hO
  have d0 : (s.st == 0) = false := by rw [hst]; decide
  have n0 : (s.st != 0) = true := by rw [hst]; decide
  have d1 : (s.st == 1) = true := by rw [hst]; decide
  have n1 : (s.st != 1) = false := by rw [hst]; decide
  have d2 : (s.st == 2) = false := by rw [hst]; decide
  have n2 : (s.st != 2) = true := by rw [hst]; decide
  have d3 : (s.st == 3) = false := by rw [hst]; decide
  have n3 : (s.st != 3) = true := by rw [hst]; decide
  clear hst
  go_upto_region 93 with (first | ((with_reducible_and_instances (show wpList _ _ _ (Oper.mk _ (Op.load 36 _ ) _ _ _ _ :: _) _ _)); refine wpList_load_mid rfl _ _ rfl w.heap.size (2 + i * 7) rfl (s.arr v).toList _ (HRG.out _ (boxed_at hz0)) Try.underlying36 rfl info7s ?_; rw [Array.toArray_toList]) | ((with_reducible_and_instances (show wpList _ _ _ (Oper.mk _ (Op.store 36 _ _ ) _ _ _ _ :: _) _ _)); refine wl_store info7s rfl rfl rfl rfl (by (repeat (first | assumption | (with_reducible refine alloc_at ?_; (focus (first | omega | (simp; done) | (simp; omega)))) | (with_reducible refine boxed_at ?_; (focus (first | omega | (simp; done) | (simp; omega)))) | (with_reducible refine alloc_old ?_ ?_; (focus (first | omega | (simp; done) | (simp; omega)))) | (with_reducible refine boxed_old ?_ ?_; (focus (first | omega | (simp; done) | (simp; omega)))) | (with_reducible refine drew_old ?_)))) (by rfl) (by rfl) (Sv.arr_one hv1) ?_))
  obtain ⟨s2, hs2⟩ : ∃ s2, ({ s with sk := true } : Sv) = s2 := ⟨_, rfl⟩
  obtain ⟨W1, hW1⟩ : ∃ W1, boxed ((boxed W0 w.heap.size b.arr 73).alloc (.cells #[.int .u8 0, .int .i64 0, .int .i64 0, .int .i64 0, .int .i64 0, .bool false, .slice none 0 0] 36)) W0.heap.size (s2.arr v) 36 = W1 := ⟨_, rfl⟩
  have hB1 : W1.heap[w.heap.size]? = some (.cells b.arr 73 (0, 0)) := by rw [← hW1]; exact boxed_old (by omega) (alloc_old (by simp; omega) (boxed_at hz0))
  have hS1 : W1.heap[W0.heap.size]? = some (.cells (s2.arr v) 36 (0, 0)) := by rw [← hW1]; exact boxed_at (by simp)
  have hZ1 : W1.heap[w.heap.size + 1 + 1]? = some (.cells Try.zeroCells73 73 (0, 0)) := by rw [← hW1]; exact boxed_old (by omega) (alloc_old (by simp; omega) (boxed_old (by omega) hZ))
  have hO1 : W1.cell? ⟨w.heap.size + 1, 1, none⟩ = some (.int .i64 (i : Int)) := by
    have hk : W1.heap[w.heap.size + 1]? = W0.heap[w.heap.size + 1]? := by
      rw [← hW1, boxed_block_other (by omega), alloc_block_old (by rw [boxed_size]; omega), boxed_block_other (by omega)]
    exact (World.cell?_of_block (a := ⟨w.heap.size + 1, 1, none⟩) hk).trans o1
  have HW1 : Hid (Below w.heap.size w W1) := by
    show Below _ _ _
    rw [← hW1]; exact boxed_below ((boxed_below HW.out (Nat.le_refl _)).alloc (by simp; omega) _) (by omega)
  have hz10 : w.heap.size < W1.heap.size := (Array.getElem?_eq_some_iff.1 hB1).1
  have hz12 : w.heap.size + 1 + 1 < W1.heap.size := (Array.getElem?_eq_some_iff.1 hZ1).1
  have hz1s : W0.heap.size < W1.heap.size := (Array.getElem?_eq_some_iff.1 hS1).1
  rw [hs2, hW1]
  have e9 := boxed_self hB1
  rw [e9]
  have HPUT : Hid (b.put i ({ b.s i with sk := true } : Sv) (b.v i) = b.put i s2 v) := by
    show _ = _
    rw [HS.out, HV.out, hs2]
  have hb2 : (b.put i s2 v).arr.all (·.oneCell') = true := (HON.out.put i s2 hv1).arr
  clear e9 hs2 hW1 hB1 o0 o1 o2 o3 o10 o11 o12 o13 o14 o15 hZ
  go_wp2_with (((with_reducible_and_instances (show wpList _ _ _ (Oper.mk _ (Op.load 36 _ ) _ _ _ _ :: _) _ _)); refine stop_here ?_))
  refine ⟨?_⟩
  refine wl_load (cs := s2.arr v) (fr := (0, 0)) (g := W0.heap.size) Try.underlying36 rfl info7s rfl rfl rfl (boxed_old (by omega) hS1) (by rfl) ?_
  go_wp2_with (((with_reducible_and_instances (show wpList _ _ _ (Oper.mk _ (Op.store 36 _ _ ) _ _ _ _ :: _) _ _)); refine stop_here ?_))
  refine ⟨?_⟩
  refine wpList_store_mid rfl _ _ _ rfl (w.heap.size) (2 + i * 7) (s2.arr v) rfl rfl (Bk.there (by omega) hi) info7s (Sv.arr_one hv1) ?_
  rw [Bk.store]
  go_wp2_with (((with_reducible_and_instances (show wpList _ _ _ (Oper.mk _ (Op.load 73 _ ) _ _ _ _ :: _) _ _)); refine stop_here ?_))
  refine ⟨?_⟩
  refine wl_load (cs := (b.put i s2 v).arr) (fr := (0, 0)) (g := w.heap.size) Try.underlying73 rfl Bk.info rfl rfl rfl (boxed_at (by omega)) (Bk.arr_size _) ?_
  go_wp2_with (((with_reducible_and_instances (show wpList _ _ _ (Oper.mk _ (Op.store 73 _ _ ) _ _ _ _ :: _) _ _)); refine stop_here ?_))
  refine ⟨?_⟩
  refine wl_store (g := w.heap.size + 1 + 1) Bk.info rfl rfl rfl rfl (boxed_old (by omega) hZ1) Bk.zero_size (Bk.arr_size _) hb2 ?_
  go_wp2_with (fail)
  refine bodyPost_ret (results_row_tmp rfl _ _ (w.heap.size + 1 + 1) 73 _ (0, 0) _ rfl (boxed_at (by rw [boxed_size]; omega)) Try.underlying73 rfl (by rw [Bk.arr_size]; exact Bk.info)) rfl ?_
  exact ⟨by rw [HPUT.out]; rfl, boxed_below (boxed_below HW1.out (Nat.le_refl _)) (by omega)⟩
set_option maxHeartbeats 4000000 in
theorem step_skip_two {w : World} {b : Bk} {i : Nat} (hi : i < 32) (hone : b.One) (hst : (b.s i).st = 2) (hsk : (b.s i).sk = false) :
    Calls Try.prog 32 #[.agg b.arr, .agg #[.int .u8 6, .int .i64 (i : Int), .int .i64 0, .int .i64 0, .int .i64 0, .int .u8 0, .int .i64 0, .int .i64 0, .bool false, .bool false, .int .u8 0, .int .i64 0, .int .i64 0, .int .i64 0, .int .i64 0, .int .u8 0]] w (Books w (b.put i ({ b.s i with sk := true } : Sv) (b.v i)) 0) := by
  obtain ⟨s, hs⟩ : ∃ s, b.s i = s := ⟨_, rfl⟩
  obtain ⟨v, hv⟩ : ∃ v, b.v i = v := ⟨_, rfl⟩
  rw [hs] at hst hsk
  have hv1 : v.oneCell' = true := by rw [← hv]; exact hone.2 i hi
  have HON := Lib.hid hone
  have HS := Lib.hid hs
  have HV := Lib.hid hv
  have hi0 : (0 : Int) ≤ (i : Int) := by omega
  have hi1 : (i : Int) < 32 := by omega
  have HRG : Hid (∀ X : World, X.heap[w.heap.size]? = some (.cells b.arr 73 (0, 0)) → X.rangeAt w.heap.size (2 + i * 7) (s.arr v).toList) := fun X hX => by
    have := Bk.range hX hi
    rw [hs, hv] at this
    exact this
  clear hs hv hone
  go_enter Try.func32, Try.ntmps32
  go_upto_region 30 with fail
  obtain ⟨W0, hW0⟩ : ∃ W0, ((w.alloc (.cells b.arr 73)).alloc (.cells #[.int .u8 6, .int .i64 (i : Int), .int .i64 0, .int .i64 0, .int .i64 0, .int .u8 0, .int .i64 0, .int .i64 0, .bool false, .bool false, .int .u8 0, .int .i64 0, .int .i64 0, .int .i64 0, .int .i64 0, .int .u8 0] 61)).alloc (.cells Try.zeroCells73 73) = W0 := ⟨_, rfl⟩
  have hB : W0.heap[w.heap.size]? = some (.cells b.arr 73 (0, 0)) := by rw [← hW0]; exact alloc_old (by simp; omega) (alloc_old (by simp) (alloc_at rfl))
  have hO : W0.heap[w.heap.size + 1]? = some (.cells #[.int .u8 6, .int .i64 (i : Int), .int .i64 0, .int .i64 0, .int .i64 0, .int .u8 0, .int .i64 0, .int .i64 0, .bool false, .bool false, .int .u8 0, .int .i64 0, .int .i64 0, .int .i64 0, .int .i64 0, .int .u8 0] 61 (0, 0)) := by rw [← hW0]; exact alloc_old (by simp) (alloc_at (by simp))
  have hZ : W0.heap[w.heap.size + 1 + 1]? = some (.cells Try.zeroCells73 73 (0, 0)) := by rw [← hW0]; exact alloc_at (by simp)
  have hW : Below w.heap.size w W0 := by rw [← hW0]; exact (((Below.refl _ w).alloc (Nat.le_refl _) _).alloc (by simp) _).alloc (by simp; omega) _
  have hz2 : w.heap.size + 1 + 1 < W0.heap.size := (Array.getElem?_eq_some_iff.1 hZ).1
  have hz1 : w.heap.size + 1 < W0.heap.size := by omega
  have hz0 : w.heap.size < W0.heap.size := by omega
  rw [hW0]
  clear hW0
  obtain ⟨o0, o1, o2, o3, o10, o11, o12, o13, o14, o15⟩ := ocells hO
  have HW := Lib.hid hW
  have HB := Lib.hid hB
  have e9 := boxed_self hB
  rw [e9]
  clear e9 hW hB hO
  have d0 : (s.st == 0) = false := by rw [hst]; decide
  have n0 : (s.st != 0) = true := by rw [hst]; decide
  have d1 : (s.st == 1) = false := by rw [hst]; decide
  have n1 : (s.st != 1) = true := by rw [hst]; decide
  have d2 : (s.st == 2) = true := by rw [hst]; decide
  have n2 : (s.st != 2) = false := by rw [hst]; decide
  have d3 : (s.st == 3) = false := by rw [hst]; decide
  have n3 : (s.st != 3) = true := by rw [hst]; decide
  clear hst
  go_upto_region 93 with (first | ((with_reducible_and_instances (show wpList _ _ _ (Oper.mk _ (Op.load 36 _ ) _ _ _ _ :: _) _ _)); refine wpList_load_mid rfl _ _ rfl w.heap.size (2 + i * 7) rfl (s.arr v).toList _ (HRG.out _ (boxed_at hz0)) Try.underlying36 rfl info7s ?_; rw [Array.toArray_toList]) | ((with_reducible_and_instances (show wpList _ _ _ (Oper.mk _ (Op.store 36 _ _ ) _ _ _ _ :: _) _ _)); refine wl_store info7s rfl rfl rfl rfl (by (repeat (first | assumption | (with_reducible refine alloc_at ?_; (focus (first | omega | (simp; done) | (simp; omega)))) | (with_reducible refine boxed_at ?_; (focus (first | omega | (simp; done) | (simp; omega)))) | (with_reducible refine alloc_old ?_ ?_; (focus (first | omega | (simp; done) | (simp; omega)))) | (with_reducible refine boxed_old ?_ ?_; (focus (first | omega | (simp; done) | (simp; omega)))) | (with_reducible refine drew_old ?_)))) (by rfl) (by rfl) (Sv.arr_one hv1) ?_))
  obtain ⟨s2, hs2⟩ : ∃ s2, ({ s with sk := true } : Sv) = s2 := ⟨_, rfl⟩
  obtain ⟨W1, hW1⟩ : ∃ W1, boxed ((boxed W0 w.heap.size b.arr 73).alloc (.cells #[.int .u8 0, .int .i64 0, .int .i64 0, .int .i64 0, .int .i64 0, .bool false, .slice none 0 0] 36)) W0.heap.size (s2.arr v) 36 = W1 := ⟨_, rfl⟩
  have hB1 : W1.heap[w.heap.size]? = some (.cells b.arr 73 (0, 0)) := by rw [← hW1]; exact boxed_old (by omega) (alloc_old (by simp; omega) (boxed_at hz0))
  have hS1 : W1.heap[W0.heap.size]? = some (.cells (s2.arr v) 36 (0, 0)) := by rw [← hW1]; exact boxed_at (by simp)
  have hZ1 : W1.heap[w.heap.size + 1 + 1]? = some (.cells Try.zeroCells73 73 (0, 0)) := by rw [← hW1]; exact boxed_old (by omega) (alloc_old (by simp; omega) (boxed_old (by omega) hZ))
  have hO1 : W1.cell? ⟨w.heap.size + 1, 1, none⟩ = some (.int .i64 (i : Int)) := by
    have hk : W1.heap[w.heap.size + 1]? = W0.heap[w.heap.size + 1]? := by
      rw [← hW1, boxed_block_other (by omega), alloc_block_old (by rw [boxed_size]; omega), boxed_block_other (by omega)]
    exact (World.cell?_of_block (a := ⟨w.heap.size + 1, 1, none⟩) hk).trans o1
  have HW1 : Hid (Below w.heap.size w W1) := by
    show Below _ _ _
    rw [← hW1]; exact boxed_below ((boxed_below HW.out (Nat.le_refl _)).alloc (by simp; omega) _) (by omega)
  have hz10 : w.heap.size < W1.heap.size := (Array.getElem?_eq_some_iff.1 hB1).1
  have hz12 : w.heap.size + 1 + 1 < W1.heap.size := (Array.getElem?_eq_some_iff.1 hZ1).1
  have hz1s : W0.heap.size < W1.heap.size := (Array.getElem?_eq_some_iff.1 hS1).1
  rw [hs2, hW1]
  have e9 := boxed_self hB1
  rw [e9]
  have HPUT : Hid (b.put i ({ b.s i with sk := true } : Sv) (b.v i) = b.put i s2 v) := by
    show _ = _
    rw [HS.out, HV.out, hs2]
  have hb2 : (b.put i s2 v).arr.all (·.oneCell') = true := (HON.out.put i s2 hv1).arr
  clear e9 hs2 hW1 hB1 o0 o1 o2 o3 o10 o11 o12 o13 o14 o15 hZ
  go_wp2_with (((with_reducible_and_instances (show wpList _ _ _ (Oper.mk _ (Op.load 36 _ ) _ _ _ _ :: _) _ _)); refine stop_here ?_))
  refine ⟨?_⟩
  refine wl_load (cs := s2.arr v) (fr := (0, 0)) (g := W0.heap.size) Try.underlying36 rfl info7s rfl rfl rfl (boxed_old (by omega) hS1) (by rfl) ?_
  go_wp2_with (((with_reducible_and_instances (show wpList _ _ _ (Oper.mk _ (Op.store 36 _ _ ) _ _ _ _ :: _) _ _)); refine stop_here ?_))
  refine ⟨?_⟩
  refine wpList_store_mid rfl _ _ _ rfl (w.heap.size) (2 + i * 7) (s2.arr v) rfl rfl (Bk.there (by omega) hi) info7s (Sv.arr_one hv1) ?_
  rw [Bk.store]
  go_wp2_with (((with_reducible_and_instances (show wpList _ _ _ (Oper.mk _ (Op.load 73 _ ) _ _ _ _ :: _) _ _)); refine stop_here ?_))
  refine ⟨?_⟩
  refine wl_load (cs := (b.put i s2 v).arr) (fr := (0, 0)) (g := w.heap.size) Try.underlying73 rfl Bk.info rfl rfl rfl (boxed_at (by omega)) (Bk.arr_size _) ?_
  go_wp2_with (((with_reducible_and_instances (show wpList _ _ _ (Oper.mk _ (Op.store 73 _ _ ) _ _ _ _ :: _) _ _)); refine stop_here ?_))
  refine ⟨?_⟩
  refine wl_store (g := w.heap.size + 1 + 1) Bk.info rfl rfl rfl rfl (boxed_old (by omega) hZ1) Bk.zero_size (Bk.arr_size _) hb2 ?_
  go_wp2_with (fail)
  refine bodyPost_ret (results_row_tmp rfl _ _ (w.heap.size + 1 + 1) 73 _ (0, 0) _ rfl (boxed_at (by rw [boxed_size]; omega)) Try.underlying73 rfl (by rw [Bk.arr_size]; exact Bk.info)) rfl ?_
  exact ⟨by rw [HPUT.out]; rfl, boxed_below (boxed_below HW1.out (Nat.le_refl _)) (by omega)⟩
set_option maxHeartbeats 4000000 in
theorem step_cancel_no {w : World} {b : Bk} {i : Nat} (hi : i < 32) (hone : b.One) (hst : (b.s i).st = 3) :
    Calls Try.prog 32 #[.agg b.arr, .agg #[.int .u8 7, .int .i64 (i : Int), .int .i64 0, .int .i64 0, .int .i64 0, .int .u8 0, .int .i64 0, .int .i64 0, .bool false, .bool false, .int .u8 0, .int .i64 0, .int .i64 0, .int .i64 0, .int .i64 0, .int .u8 0]] w (Books w b 8) := by
  obtain ⟨s, hs⟩ : ∃ s, b.s i = s := ⟨_, rfl⟩
  obtain ⟨v, hv⟩ : ∃ v, b.v i = v := ⟨_, rfl⟩
  rw [hs] at hst
  have hv1 : v.oneCell' = true := by rw [← hv]; exact hone.2 i hi
  have HON := Lib.hid hone
  have HS := Lib.hid hs
  have HV := Lib.hid hv
  have hi0 : (0 : Int) ≤ (i : Int) := by omega
  have hi1 : (i : Int) < 32 := by omega
  have hba := hone.arr
  have HRG : Hid (∀ X : World, X.heap[w.heap.size]? = some (.cells b.arr 73 (0, 0)) → X.rangeAt w.heap.size (2 + i * 7) (s.arr v).toList) := fun X hX => by
    have := Bk.range hX hi
    rw [hs, hv] at this
    exact this
  clear hs hv hone
  go_enter Try.func32, Try.ntmps32
  go_upto_region 30 with fail
  obtain ⟨W0, hW0⟩ : ∃ W0, ((w.alloc (.cells b.arr 73)).alloc (.cells #[.int .u8 7, .int .i64 (i : Int), .int .i64 0, .int .i64 0, .int .i64 0, .int .u8 0, .int .i64 0, .int .i64 0, .bool false, .bool false, .int .u8 0, .int .i64 0, .int .i64 0, .int .i64 0, .int .i64 0, .int .u8 0] 61)).alloc (.cells Try.zeroCells73 73) = W0 := ⟨_, rfl⟩
  have hB : W0.heap[w.heap.size]? = some (.cells b.arr 73 (0, 0)) := by rw [← hW0]; exact alloc_old (by simp; omega) (alloc_old (by simp) (alloc_at rfl))
  have hO : W0.heap[w.heap.size + 1]? = some (.cells #[.int .u8 7, .int .i64 (i : Int), .int .i64 0, .int .i64 0, .int .i64 0, .int .u8 0, .int .i64 0, .int .i64 0, .bool false, .bool false, .int .u8 0, .int .i64 0, .int .i64 0, .int .i64 0, .int .i64 0, .int .u8 0] 61 (0, 0)) := by rw [← hW0]; exact alloc_old (by simp) (alloc_at (by simp))
  have hZ : W0.heap[w.heap.size + 1 + 1]? = some (.cells Try.zeroCells73 73 (0, 0)) := by rw [← hW0]; exact alloc_at (by simp)
  have hW : Below w.heap.size w W0 := by rw [← hW0]; exact (((Below.refl _ w).alloc (Nat.le_refl _) _).alloc (by simp) _).alloc (by simp; omega) _
  have hz2 : w.heap.size + 1 + 1 < W0.heap.size := (Array.getElem?_eq_some_iff.1 hZ).1
  have hz1 : w.heap.size + 1 < W0.heap.size := by omega
  have hz0 : w.heap.size < W0.heap.size := by omega
  rw [hW0]
  clear hW0
  obtain ⟨o0, o1, o2, o3, o10, o11, o12, o13, o14, o15⟩ := ocells hO
  have HW := Lib.hid hW
  have HB := Lib.hid hB
  have e9 := boxed_self hB
  rw [e9]
  clear e9 hW hB hO
  have d0 : (s.st == 0) = false := by rw [hst]; decide
  have n0 : (s.st != 0) = true := by rw [hst]; decide
  have d1 : (s.st == 1) = false := by rw [hst]; decide
  have n1 : (s.st != 1) = true := by rw [hst]; decide
  have d2 : (s.st == 2) = false := by rw [hst]; decide
  have n2 : (s.st != 2) = true := by rw [hst]; decide
  have d3 : (s.st == 3) = true := by rw [hst]; decide
  have n3 : (s.st != 3) = false := by rw [hst]; decide
  clear hst
  all_goals
    go_wp2_with (first | ((with_reducible_and_instances (show wpList _ _ _ (Oper.mk _ (Op.load 36 _ ) _ _ _ _ :: _) _ _)); refine wpList_load_mid rfl _ _ rfl w.heap.size (2 + i * 7) rfl (s.arr v).toList _ (HRG.out _ (boxed_at hz0)) Try.underlying36 rfl info7s ?_; rw [Array.toArray_toList]) | ((with_reducible_and_instances (show wpList _ _ _ (Oper.mk _ (Op.store 36 _ _ ) _ _ _ _ :: _) _ _)); refine wl_store info7s rfl rfl rfl rfl (by (repeat (first | assumption | (with_reducible refine alloc_at ?_; (focus (first | omega | (simp; done) | (simp; omega)))) | (with_reducible refine boxed_at ?_; (focus (first | omega | (simp; done) | (simp; omega)))) | (with_reducible refine alloc_old ?_ ?_; (focus (first | omega | (simp; done) | (simp; omega)))) | (with_reducible refine boxed_old ?_ ?_; (focus (first | omega | (simp; done) | (simp; omega)))) | (with_reducible refine drew_old ?_)))) (by rfl) (by rfl) (Sv.arr_one hv1) ?_) | ((with_reducible_and_instances (show wpList _ _ _ (Oper.mk _ (Op.load 73 _ ) _ _ _ _ :: _) _ _)); refine wl_load Try.underlying73 rfl Bk.info rfl rfl rfl (by (repeat (first | assumption | (with_reducible refine alloc_at ?_; (focus (first | omega | (simp; done) | (simp; omega)))) | (with_reducible refine boxed_at ?_; (focus (first | omega | (simp; done) | (simp; omega)))) | (with_reducible refine alloc_old ?_ ?_; (focus (first | omega | (simp; done) | (simp; omega)))) | (with_reducible refine boxed_old ?_ ?_; (focus (first | omega | (simp; done) | (simp; omega)))) | (with_reducible refine drew_old ?_)))) (Bk.arr_size _) ?_) | ((with_reducible_and_instances (show wpList _ _ _ (Oper.mk _ (Op.store 73 _ _ ) _ _ _ _ :: _) _ _)); refine stop_here ?_))
    refine ⟨?_⟩
    refine wl_store (g := w.heap.size + 1 + 1) Bk.info rfl rfl rfl rfl (boxed_old (by omega) (alloc_old (by simp; omega) (boxed_old (by omega) hZ))) Bk.zero_size (Bk.arr_size _) hba ?_
    go_wp2_with (fail)
    refine bodyPost_ret (results_row_tmp rfl _ _ (w.heap.size + 1 + 1) 73 _ (0, 0) _ rfl (boxed_at (by rw [boxed_size]; simp; omega)) Try.underlying73 rfl (by rw [Bk.arr_size]; exact Bk.info)) rfl ?_
    exact ⟨rfl, boxed_below (boxed_below ((boxed_below HW.out (Nat.le_refl _)).alloc (by simp; omega) _) (by omega)) (by omega)⟩
set_option maxHeartbeats 4000000 in
theorem step_card_no {w : World} {b : Bk} {i : Nat} (hi : i < 32) (hone : b.One) (hst : (b.s i).st = 3) :
    Calls Try.prog 32 #[.agg b.arr, .agg #[.int .u8 8, .int .i64 (i : Int), .int .i64 0, .int .i64 0, .int .i64 0, .int .u8 0, .int .i64 0, .int .i64 0, .bool false, .bool false, .int .u8 0, .int .i64 0, .int .i64 0, .int .i64 0, .int .i64 0, .int .u8 0]] w (Books w b 8) := by
  obtain ⟨s, hs⟩ : ∃ s, b.s i = s := ⟨_, rfl⟩
  obtain ⟨v, hv⟩ : ∃ v, b.v i = v := ⟨_, rfl⟩
  rw [hs] at hst
  have hv1 : v.oneCell' = true := by rw [← hv]; exact hone.2 i hi
  have HON := Lib.hid hone
  have HS := Lib.hid hs
  have HV := Lib.hid hv
  have hi0 : (0 : Int) ≤ (i : Int) := by omega
  have hi1 : (i : Int) < 32 := by omega
  have hba := hone.arr
  have HRG : Hid (∀ X : World, X.heap[w.heap.size]? = some (.cells b.arr 73 (0, 0)) → X.rangeAt w.heap.size (2 + i * 7) (s.arr v).toList) := fun X hX => by
    have := Bk.range hX hi
    rw [hs, hv] at this
    exact this
  clear hs hv hone
  go_enter Try.func32, Try.ntmps32
  go_upto_region 30 with fail
  obtain ⟨W0, hW0⟩ : ∃ W0, ((w.alloc (.cells b.arr 73)).alloc (.cells #[.int .u8 8, .int .i64 (i : Int), .int .i64 0, .int .i64 0, .int .i64 0, .int .u8 0, .int .i64 0, .int .i64 0, .bool false, .bool false, .int .u8 0, .int .i64 0, .int .i64 0, .int .i64 0, .int .i64 0, .int .u8 0] 61)).alloc (.cells Try.zeroCells73 73) = W0 := ⟨_, rfl⟩
  have hB : W0.heap[w.heap.size]? = some (.cells b.arr 73 (0, 0)) := by rw [← hW0]; exact alloc_old (by simp; omega) (alloc_old (by simp) (alloc_at rfl))
  have hO : W0.heap[w.heap.size + 1]? = some (.cells #[.int .u8 8, .int .i64 (i : Int), .int .i64 0, .int .i64 0, .int .i64 0, .int .u8 0, .int .i64 0, .int .i64 0, .bool false, .bool false, .int .u8 0, .int .i64 0, .int .i64 0, .int .i64 0, .int .i64 0, .int .u8 0] 61 (0, 0)) := by rw [← hW0]; exact alloc_old (by simp) (alloc_at (by simp))
  have hZ : W0.heap[w.heap.size + 1 + 1]? = some (.cells Try.zeroCells73 73 (0, 0)) := by rw [← hW0]; exact alloc_at (by simp)
  have hW : Below w.heap.size w W0 := by rw [← hW0]; exact (((Below.refl _ w).alloc (Nat.le_refl _) _).alloc (by simp) _).alloc (by simp; omega) _
  have hz2 : w.heap.size + 1 + 1 < W0.heap.size := (Array.getElem?_eq_some_iff.1 hZ).1
  have hz1 : w.heap.size + 1 < W0.heap.size := by omega
  have hz0 : w.heap.size < W0.heap.size := by omega
  rw [hW0]
  clear hW0
  obtain ⟨o0, o1, o2, o3, o10, o11, o12, o13, o14, o15⟩ := ocells hO
  have HW := Lib.hid hW
  have HB := Lib.hid hB
  have e9 := boxed_self hB
  rw [e9]
  clear e9 hW hB hO
  have d0 : (s.st == 0) = false := by rw [hst]; decide
  have n0 : (s.st != 0) = true := by rw [hst]; decide
  have d1 : (s.st == 1) = false := by rw [hst]; decide
  have n1 : (s.st != 1) = true := by rw [hst]; decide
  have d2 : (s.st == 2) = false := by rw [hst]; decide
  have n2 : (s.st != 2) = true := by rw [hst]; decide
  have d3 : (s.st == 3) = true := by rw [hst]; decide
  have n3 : (s.st != 3) = false := by rw [hst]; decide
  clear hst
  all_goals
    go_wp2_with (first | ((with_reducible_and_instances (show wpList _ _ _ (Oper.mk _ (Op.load 36 _ ) _ _ _ _ :: _) _ _)); refine wpList_load_mid rfl _ _ rfl w.heap.size (2 + i * 7) rfl (s.arr v).toList _ (HRG.out _ (boxed_at hz0)) Try.underlying36 rfl info7s ?_; rw [Array.toArray_toList]) | ((with_reducible_and_instances (show wpList _ _ _ (Oper.mk _ (Op.store 36 _ _ ) _ _ _ _ :: _) _ _)); refine wl_store info7s rfl rfl rfl rfl (by (repeat (first | assumption | (with_reducible refine alloc_at ?_; (focus (first | omega | (simp; done) | (simp; omega)))) | (with_reducible refine boxed_at ?_; (focus (first | omega | (simp; done) | (simp; omega)))) | (with_reducible refine alloc_old ?_ ?_; (focus (first | omega | (simp; done) | (simp; omega)))) | (with_reducible refine boxed_old ?_ ?_; (focus (first | omega | (simp; done) | (simp; omega)))) | (with_reducible refine drew_old ?_)))) (by rfl) (by rfl) (Sv.arr_one hv1) ?_) | ((with_reducible_and_instances (show wpList _ _ _ (Oper.mk _ (Op.load 73 _ ) _ _ _ _ :: _) _ _)); refine wl_load Try.underlying73 rfl Bk.info rfl rfl rfl (by (repeat (first | assumption | (with_reducible refine alloc_at ?_; (focus (first | omega | (simp; done) | (simp; omega)))) | (with_reducible refine boxed_at ?_; (focus (first | omega | (simp; done) | (simp; omega)))) | (with_reducible refine alloc_old ?_ ?_; (focus (first | omega | (simp; done) | (simp; omega)))) | (with_reducible refine boxed_old ?_ ?_; (focus (first | omega | (simp; done) | (simp; omega)))) | (with_reducible refine drew_old ?_)))) (Bk.arr_size _) ?_) | ((with_reducible_and_instances (show wpList _ _ _ (Oper.mk _ (Op.store 73 _ _ ) _ _ _ _ :: _) _ _)); refine stop_here ?_))
    refine ⟨?_⟩
    refine wl_store (g := w.heap.size + 1 + 1) Bk.info rfl rfl rfl rfl (boxed_old (by omega) (alloc_old (by simp; omega) (boxed_old (by omega) hZ))) Bk.zero_size (Bk.arr_size _) hba ?_
    go_wp2_with (fail)
    refine bodyPost_ret (results_row_tmp rfl _ _ (w.heap.size + 1 + 1) 73 _ (0, 0) _ rfl (boxed_at (by rw [boxed_size]; simp; omega)) Try.underlying73 rfl (by rw [Bk.arr_size]; exact Bk.info)) rfl ?_
    exact ⟨rfl, boxed_below (boxed_below ((boxed_below HW.out (Nat.le_refl _)).alloc (by simp; omega) _) (by omega)) (by omega)⟩
set_option maxHeartbeats 4000000 in
theorem step_change_dead {w : World} {b : Bk} {i : Nat} {np : Nat} {p : Int} (hi : i < 32) (hone : b.One) (hvp : ∃ A c, b.vp = .slice A np c) (hp1 : p < (np : Int)) (hst : (b.s i).st = 2 ∨ (b.s i).st = 3) :
    Calls Try.prog 32 #[.agg b.arr, .agg #[.int .u8 3, .int .i64 (i : Int), .int .i64 p, .int .i64 0, .int .i64 0, .int .u8 0, .int .i64 0, .int .i64 0, .bool false, .bool false, .int .u8 0, .int .i64 0, .int .i64 0, .int .i64 0, .int .i64 0, .int .u8 0]] w (Books w b 8) := by
  obtain ⟨s, hs⟩ : ∃ s, b.s i = s := ⟨_, rfl⟩
  obtain ⟨v, hv⟩ : ∃ v, b.v i = v := ⟨_, rfl⟩
  rw [hs] at hst
  have hv1 : v.oneCell' = true := by rw [← hv]; exact hone.2 i hi
  have HON := Lib.hid hone
  have HS := Lib.hid hs
  have HV := Lib.hid hv
  have hi0 : (0 : Int) ≤ (i : Int) := by omega
  have hi1 : (i : Int) < 32 := by omega
  have hba := hone.arr
  have HRG : Hid (∀ X : World, X.heap[w.heap.size]? = some (.cells b.arr 73 (0, 0)) → X.rangeAt w.heap.size (2 + i * 7) (s.arr v).toList) := fun X hX => by
    have := Bk.range hX hi
    rw [hs, hv] at this
    exact this
  clear hs hv hone
  go_enter Try.func32, Try.ntmps32
  go_upto_region 30 with fail
  obtain ⟨W0, hW0⟩ : ∃ W0, ((w.alloc (.cells b.arr 73)).alloc (.cells #[.int .u8 3, .int .i64 (i : Int), .int .i64 p, .int .i64 0, .int .i64 0, .int .u8 0, .int .i64 0, .int .i64 0, .bool false, .bool false, .int .u8 0, .int .i64 0, .int .i64 0, .int .i64 0, .int .i64 0, .int .u8 0] 61)).alloc (.cells Try.zeroCells73 73) = W0 := ⟨_, rfl⟩
  have hB : W0.heap[w.heap.size]? = some (.cells b.arr 73 (0, 0)) := by rw [← hW0]; exact alloc_old (by simp; omega) (alloc_old (by simp) (alloc_at rfl))
  have hO : W0.heap[w.heap.size + 1]? = some (.cells #[.int .u8 3, .int .i64 (i : Int), .int .i64 p, .int .i64 0, .int .i64 0, .int .u8 0, .int .i64 0, .int .i64 0, .bool false, .bool false, .int .u8 0, .int .i64 0, .int .i64 0, .int .i64 0, .int .i64 0, .int .u8 0] 61 (0, 0)) := by rw [← hW0]; exact alloc_old (by simp) (alloc_at (by simp))
  have hZ : W0.heap[w.heap.size + 1 + 1]? = some (.cells Try.zeroCells73 73 (0, 0)) := by rw [← hW0]; exact alloc_at (by simp)
  have hW : Below w.heap.size w W0 := by rw [← hW0]; exact (((Below.refl _ w).alloc (Nat.le_refl _) _).alloc (by simp) _).alloc (by simp; omega) _
  have hz2 : w.heap.size + 1 + 1 < W0.heap.size := (Array.getElem?_eq_some_iff.1 hZ).1
  have hz1 : w.heap.size + 1 < W0.heap.size := by omega
  have hz0 : w.heap.size < W0.heap.size := by omega
  rw [hW0]
  clear hW0
  obtain ⟨o0, o1, o2, o3, o10, o11, o12, o13, o14, o15⟩ := ocells hO
  have HW := Lib.hid hW
  have HB := Lib.hid hB
  have e9 := boxed_self hB
  rw [e9]
  clear e9 hW hB hO
  obtain ⟨pA, pc, hvp⟩ := hvp
  have dge : decide (p ≥ (np : Int)) = false := by simp; omega
  have dge' : decide ((np : Int) ≤ p) = false := by simp; omega
  have hways : ((s.st == 0) = false ∧ (s.st == 1) = false ∧ (s.st == 2) = true ∧ (s.st != 1) = true ∧ (s.st != 2) = false) ∨ ((s.st == 0) = false ∧ (s.st == 1) = false ∧ (s.st == 2) = false ∧ (s.st != 1) = true ∧ (s.st != 2) = true) := by
    rcases hst with h | h
    · exact .inl ⟨by rw [h]; decide, by rw [h]; decide, by rw [h]; decide, by rw [h]; decide, by rw [h]; decide⟩
    · exact .inr ⟨by rw [h]; decide, by rw [h]; decide, by rw [h]; decide, by rw [h]; decide, by rw [h]; decide⟩
  clear hst
  rcases hways with ⟨d0, d1, d2, n1, n2⟩ | ⟨d0, d1, d2, n1, n2⟩
  all_goals
    go_wp2_with (first | ((with_reducible_and_instances (show wpList _ _ _ (Oper.mk _ (Op.load 36 _ ) _ _ _ _ :: _) _ _)); refine wpList_load_mid rfl _ _ rfl w.heap.size (2 + i * 7) rfl (s.arr v).toList _ (HRG.out _ (boxed_at hz0)) Try.underlying36 rfl info7s ?_; rw [Array.toArray_toList]) | ((with_reducible_and_instances (show wpList _ _ _ (Oper.mk _ (Op.store 36 _ _ ) _ _ _ _ :: _) _ _)); refine wl_store info7s rfl rfl rfl rfl (by (repeat (first | assumption | (with_reducible refine alloc_at ?_; (focus (first | omega | (simp; done) | (simp; omega)))) | (with_reducible refine boxed_at ?_; (focus (first | omega | (simp; done) | (simp; omega)))) | (with_reducible refine alloc_old ?_ ?_; (focus (first | omega | (simp; done) | (simp; omega)))) | (with_reducible refine boxed_old ?_ ?_; (focus (first | omega | (simp; done) | (simp; omega)))) | (with_reducible refine drew_old ?_)))) (by rfl) (by rfl) (Sv.arr_one hv1) ?_) | ((with_reducible_and_instances (show wpList _ _ _ (Oper.mk _ (Op.load 73 _ ) _ _ _ _ :: _) _ _)); refine wl_load Try.underlying73 rfl Bk.info rfl rfl rfl (by (repeat (first | assumption | (with_reducible refine alloc_at ?_; (focus (first | omega | (simp; done) | (simp; omega)))) | (with_reducible refine boxed_at ?_; (focus (first | omega | (simp; done) | (simp; omega)))) | (with_reducible refine alloc_old ?_ ?_; (focus (first | omega | (simp; done) | (simp; omega)))) | (with_reducible refine boxed_old ?_ ?_; (focus (first | omega | (simp; done) | (simp; omega)))) | (with_reducible refine drew_old ?_)))) (Bk.arr_size _) ?_) | ((with_reducible_and_instances (show wpList _ _ _ (Oper.mk _ (Op.store 73 _ _ ) _ _ _ _ :: _) _ _)); refine stop_here ?_))
    refine ⟨?_⟩
    refine wl_store (g := w.heap.size + 1 + 1) Bk.info rfl rfl rfl rfl (boxed_old (by omega) (alloc_old (by simp; omega) (boxed_old (by omega) hZ))) Bk.zero_size (Bk.arr_size _) hba ?_
    go_wp2_with (fail)
    refine bodyPost_ret (results_row_tmp rfl _ _ (w.heap.size + 1 + 1) 73 _ (0, 0) _ rfl (boxed_at (by rw [boxed_size]; simp; omega)) Try.underlying73 rfl (by rw [Bk.arr_size]; exact Bk.info)) rfl ?_
    exact ⟨rfl, boxed_below (boxed_below ((boxed_below HW.out (Nat.le_refl _)).alloc (by simp; omega) _) (by omega)) (by omega)⟩
set_option maxHeartbeats 4000000 in
theorem step_change_same {w : World} {b : Bk} {i : Nat} {np : Nat} {p : Int} (hi : i < 32) (hone : b.One) (hvp : ∃ A c, b.vp = .slice A np c) (hp1 : p < (np : Int)) (hst : (b.s i).st = 1) (hpl : (b.s i).pl = p) :
    Calls Try.prog 32 #[.agg b.arr, .agg #[.int .u8 3, .int .i64 (i : Int), .int .i64 p, .int .i64 0, .int .i64 0, .int .u8 0, .int .i64 0, .int .i64 0, .bool false, .bool false, .int .u8 0, .int .i64 0, .int .i64 0, .int .i64 0, .int .i64 0, .int .u8 0]] w (Books w b 8) := by
  obtain ⟨s, hs⟩ : ∃ s, b.s i = s := ⟨_, rfl⟩
  obtain ⟨v, hv⟩ : ∃ v, b.v i = v := ⟨_, rfl⟩
  rw [hs] at hst hpl
  have hv1 : v.oneCell' = true := by rw [← hv]; exact hone.2 i hi
  have HON := Lib.hid hone
  have HS := Lib.hid hs
  have HV := Lib.hid hv
  have hi0 : (0 : Int) ≤ (i : Int) := by omega
  have hi1 : (i : Int) < 32 := by omega
  have hba := hone.arr
  have HRG : Hid (∀ X : World, X.heap[w.heap.size]? = some (.cells b.arr 73 (0, 0)) → X.rangeAt w.heap.size (2 + i * 7) (s.arr v).toList) := fun X hX => by
    have := Bk.range hX hi
    rw [hs, hv] at this
    exact this
  clear hs hv hone
  go_enter Try.func32, Try.ntmps32
  go_upto_region 30 with fail
  obtain ⟨W0, hW0⟩ : ∃ W0, ((w.alloc (.cells b.arr 73)).alloc (.cells #[.int .u8 3, .int .i64 (i : Int), .int .i64 p, .int .i64 0, .int .i64 0, .int .u8 0, .int .i64 0, .int .i64 0, .bool false, .bool false, .int .u8 0, .int .i64 0, .int .i64 0, .int .i64 0, .int .i64 0, .int .u8 0] 61)).alloc (.cells Try.zeroCells73 73) = W0 := ⟨_, rfl⟩
  have hB : W0.heap[w.heap.size]? = some (.cells b.arr 73 (0, 0)) := by rw [← hW0]; exact alloc_old (by simp; omega) (alloc_old (by simp) (alloc_at rfl))
  have hO : W0.heap[w.heap.size + 1]? = some (.cells #[.int .u8 3, .int .i64 (i : Int), .int .i64 p, .int .i64 0, .int .i64 0, .int .u8 0, .int .i64 0, .int .i64 0, .bool false, .bool false, .int .u8 0, .int .i64 0, .int .i64 0, .int .i64 0, .int .i64 0, .int .u8 0] 61 (0, 0)) := by rw [← hW0]; exact alloc_old (by simp) (alloc_at (by simp))
  have hZ : W0.heap[w.heap.size + 1 + 1]? = some (.cells Try.zeroCells73 73 (0, 0)) := by rw [← hW0]; exact alloc_at (by simp)
  have hW : Below w.heap.size w W0 := by rw [← hW0]; exact (((Below.refl _ w).alloc (Nat.le_refl _) _).alloc (by simp) _).alloc (by simp; omega) _
  have hz2 : w.heap.size + 1 + 1 < W0.heap.size := (Array.getElem?_eq_some_iff.1 hZ).1
  have hz1 : w.heap.size + 1 < W0.heap.size := by omega
  have hz0 : w.heap.size < W0.heap.size := by omega
  rw [hW0]
  clear hW0
  obtain ⟨o0, o1, o2, o3, o10, o11, o12, o13, o14, o15⟩ := ocells hO
  have HW := Lib.hid hW
  have HB := Lib.hid hB
  have e9 := boxed_self hB
  rw [e9]
  clear e9 hW hB hO
  obtain ⟨pA, pc, hvp⟩ := hvp
  have dge : decide (p ≥ (np : Int)) = false := by simp; omega
  have dge' : decide ((np : Int) ≤ p) = false := by simp; omega
  have d0 : (s.st == 0) = false := by rw [hst]; decide
  have n0 : (s.st != 0) = true := by rw [hst]; decide
  have d1 : (s.st == 1) = true := by rw [hst]; decide
  have n1 : (s.st != 1) = false := by rw [hst]; decide
  have d2 : (s.st == 2) = false := by rw [hst]; decide
  have n2 : (s.st != 2) = true := by rw [hst]; decide
  have d3 : (s.st == 3) = false := by rw [hst]; decide
  have n3 : (s.st != 3) = true := by rw [hst]; decide
  clear hst
  all_goals
    go_wp2_with (first | ((with_reducible_and_instances (show wpList _ _ _ (Oper.mk _ (Op.load 36 _ ) _ _ _ _ :: _) _ _)); refine wpList_load_mid rfl _ _ rfl w.heap.size (2 + i * 7) rfl (s.arr v).toList _ (HRG.out _ (boxed_at hz0)) Try.underlying36 rfl info7s ?_; rw [Array.toArray_toList]) | ((with_reducible_and_instances (show wpList _ _ _ (Oper.mk _ (Op.store 36 _ _ ) _ _ _ _ :: _) _ _)); refine wl_store info7s rfl rfl rfl rfl (by (repeat (first | assumption | (with_reducible refine alloc_at ?_; (focus (first | omega | (simp; done) | (simp; omega)))) | (with_reducible refine boxed_at ?_; (focus (first | omega | (simp; done) | (simp; omega)))) | (with_reducible refine alloc_old ?_ ?_; (focus (first | omega | (simp; done) | (simp; omega)))) | (with_reducible refine boxed_old ?_ ?_; (focus (first | omega | (simp; done) | (simp; omega)))) | (with_reducible refine drew_old ?_)))) (by rfl) (by rfl) (Sv.arr_one hv1) ?_) | ((with_reducible_and_instances (show wpList _ _ _ (Oper.mk _ (Op.load 73 _ ) _ _ _ _ :: _) _ _)); refine wl_load Try.underlying73 rfl Bk.info rfl rfl rfl (by (repeat (first | assumption | (with_reducible refine alloc_at ?_; (focus (first | omega | (simp; done) | (simp; omega)))) | (with_reducible refine boxed_at ?_; (focus (first | omega | (simp; done) | (simp; omega)))) | (with_reducible refine alloc_old ?_ ?_; (focus (first | omega | (simp; done) | (simp; omega)))) | (with_reducible refine boxed_old ?_ ?_; (focus (first | omega | (simp; done) | (simp; omega)))) | (with_reducible refine drew_old ?_)))) (Bk.arr_size _) ?_) | ((with_reducible_and_instances (show wpList _ _ _ (Oper.mk _ (Op.store 73 _ _ ) _ _ _ _ :: _) _ _)); refine stop_here ?_))
    refine ⟨?_⟩
    refine wl_store (g := w.heap.size + 1 + 1) Bk.info rfl rfl rfl rfl (boxed_old (by omega) (alloc_old (by simp; omega) (boxed_old (by omega) hZ))) Bk.zero_size (Bk.arr_size _) hba ?_
    go_wp2_with (fail)
    refine bodyPost_ret (results_row_tmp rfl _ _ (w.heap.size + 1 + 1) 73 _ (0, 0) _ rfl (boxed_at (by rw [boxed_size]; simp; omega)) Try.underlying73 rfl (by rw [Bk.arr_size]; exact Bk.info)) rfl ?_
    exact ⟨rfl, boxed_below (boxed_below ((boxed_below HW.out (Nat.le_refl _)).alloc (by simp; omega) _) (by omega)) (by omega)⟩
end Go.Proofs.Ytnbfkdcpghkglaa
