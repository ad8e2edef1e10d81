/-
  Another plan of a book's subscription, and a new one: package book's changed, opened. No conditions but the sizes, and what the account's own functions answer.
-/
import Derived.Test.YtblikgbcakgdnaaGreatBr22
set_option linter.unusedSimpArgs false
set_option linter.unusedVariables false
namespace Go.Proofs.YtblikgbcakgdnaaGreat
set_option linter.unusedVariables false
set_option linter.unusedSimpArgs false
set_option maxRecDepth 100000
open Go.ChangeShapes Go.WideShapes Go.ChangeAt Go.RowKit

set_option maxHeartbeats 4000000 in
theorem changed_none {w : World} {b : Kb} {ps : List Pv} {a : Av} {v : Value} {A' : Av} (n : Int) (hps : Pys w 0 w.heap.size b.vp ps) (hn : (ps.length : Int) ≤ n) (hva : v.oneCell' = true) :
    Calls Tryz.prog 66 #[.agg b.arr, .agg (a.arr v), .int .i64 n] w (Ansk 2 A' w) := by
  have HPS := Lib.hid hps
  obtain ⟨pA, pc, hvp, hpc, _, _, hpn⟩ := hps
  have HVP := Lib.hid hvp
  clear hvp
  go_enter Tryz.func66, Tryz.ntmps66
  go_wp2_with fail
  obtain ⟨W1, hW1⟩ : ∃ W1, ((w.alloc (.cells b.arr 35)).alloc (.cells (a.arr v) 32)).alloc (.cells #[.int .u8 0, .int .i64 0, .int .i64 0, .int .i64 0, .int .i64 0, .int .i64 0, .bool false, .slice none 0 0, .int .i64 0, .int .i64 0, .int .i64 0, .int .i64 0, .int .i64 0] 32) = W1 := ⟨_, rfl⟩
  have f0 : W1.heap[w.heap.size]? = some (.cells b.arr 35 (0, 0)) := by rw [← hW1]; exact alloc_old (by first | (simp; done) | (simp; omega)) (alloc_old (by first | (simp; done) | (simp; omega)) (alloc_at rfl))
  have f1 : W1.heap[w.heap.size + 1]? = some (.cells (a.arr v) 32 (0, 0)) := by rw [← hW1]; exact alloc_old (by first | (simp; done) | (simp; omega)) (alloc_at (by simp))
  have f2 : W1.heap[w.heap.size + 1 + 1]? = some (.cells #[.int .u8 0, .int .i64 0, .int .i64 0, .int .i64 0, .int .i64 0, .int .i64 0, .bool false, .slice none 0 0, .int .i64 0, .int .i64 0, .int .i64 0, .int .i64 0, .int .i64 0] 32 (0, 0)) := by rw [← hW1]; exact alloc_at (by simp)
  have hV : Below w.heap.size w W1 := by rw [← hW1]; exact (((Below.refl _ w).alloc (by first | exact Nat.le_refl _ | (simp; done) | (simp; omega)) _).alloc (by first | exact Nat.le_refl _ | (simp; done) | (simp; omega)) _).alloc (by first | exact Nat.le_refl _ | (simp; done) | (simp; omega)) _
  rw [hW1]
  clear hW1
  rw [HVP.out]
  refine (plnone_any W1 ps.length pc n pA (.inr ⟨by omega, hn⟩)).mono ?_
  rintro e W2 ⟨rfl, hb⟩
  have z2 : W2.heap[w.heap.size + 1 + 1]? = some (.cells #[.int .u8 0, .int .i64 0, .int .i64 0, .int .i64 0, .int .i64 0, .int .i64 0, .bool false, .slice none 0 0, .int .i64 0, .int .i64 0, .int .i64 0, .int .i64 0, .int .i64 0] 32 (0, 0)) := below_block hb f2
  have hV2 : Below w.heap.size w W2 := hV.trans (hb.mono hV.size)
  have hzz : w.heap.size + 1 + 1 < W2.heap.size := (Array.getElem?_eq_some_iff.1 z2).1
  clear hb f0 f1 f2 hV
  go_wp2_with (((with_reducible_and_instances (show wpList _ _ _ (Oper.mk _ (Op.store 44 _ _) _ _ _ _ :: _) _ _)); refine stop_here ?_))
  refine ⟨?_⟩
  refine wl_store (g := W2.heap.size) info6p rfl rfl rfl rfl (alloc_at rfl) rfl rfl (by simp [Value.oneCell']) ?_
  obtain ⟨W3, hW3⟩ : ∃ W3, boxed (W2.alloc (.cells #[.int .i64 0, .int .u8 0, .int .i64 0, .int .i64 0, .bool false, .bool false] 44)) W2.heap.size #[.int .i64 0, .int .u8 0, .int .i64 0, .int .i64 0, .bool false, .bool false] 44 = W3 := ⟨_, rfl⟩
  have z3 : W3.heap[w.heap.size + 1 + 1]? = some (.cells #[.int .u8 0, .int .i64 0, .int .i64 0, .int .i64 0, .int .i64 0, .int .i64 0, .bool false, .slice none 0 0, .int .i64 0, .int .i64 0, .int .i64 0, .int .i64 0, .int .i64 0] 32 (0, 0)) := by rw [← hW3]; exact boxed_old (by omega) (alloc_old hzz z2)
  have hV3 : Below w.heap.size w W3 := by rw [← hW3]; exact boxed_below (hV2.alloc hV2.size _) hV2.size
  rw [hW3]
  clear hW3
  go_wp2_with (((with_reducible_and_instances (show wpList _ _ _ (Oper.mk _ (Op.store 32 _ _) _ _ _ _ :: _) _ _)); refine stop_here ?_))
  refine ⟨?_⟩
  refine wl_store (g := w.heap.size + 1 + 1) info13 rfl rfl rfl rfl z3 rfl rfl (by simp [Value.oneCell']) ?_
  go_wp2_with fail
  refine bodyPost_ret (results_row_tmp rfl _ _ (w.heap.size + 1 + 1) 32 _ (0, 0) _ rfl (boxed_at (by have := (Array.getElem?_eq_some_iff.1 z3).1; omega)) Tryz.underlying32 rfl (by exact info13)) rfl ?_
  exact ⟨Av.zero, .slice none 0 0, rfl, rfl, fun h => absurd h (by decide), boxed_below hV3 (by omega)⟩
set_option maxHeartbeats 4000000 in
theorem changed_yes {w : World} {b : Kb} {ps : List Pv} {a : Av} {v : Value} {A' : Av} {kn kp : Nat} {Q P : Pv} {x : Int} (hps : Pys w 0 w.heap.size b.vp ps) (hQ : ps[kn]? = some Q) (hP : ps[kp]? = some P) (hpl : a.pl = (kp : Int)) (hva : v.oneCell' = true) (HA : Hid (∀ W, Below w.heap.size w W → Calls Tryz.prog 98 #[.agg (a.arr v), .agg P.arr, .int .i64 (kn : Int), .agg Q.arr, .int .i64 b.td] W (Ansk x A' W))) :
    Calls Tryz.prog 66 #[.agg b.arr, .agg (a.arr v), .int .i64 (kn : Int)] w (Ansk x A' w) := by
  have HPS := Lib.hid hps
  clear hps
  go_enter Tryz.func66, Tryz.ntmps66
  go_wp2_with fail
  obtain ⟨W1, hW1⟩ : ∃ W1, ((w.alloc (.cells b.arr 35)).alloc (.cells (a.arr v) 32)).alloc (.cells #[.int .u8 0, .int .i64 0, .int .i64 0, .int .i64 0, .int .i64 0, .int .i64 0, .bool false, .slice none 0 0, .int .i64 0, .int .i64 0, .int .i64 0, .int .i64 0, .int .i64 0] 32) = W1 := ⟨_, rfl⟩
  have f0 : W1.heap[w.heap.size]? = some (.cells b.arr 35 (0, 0)) := by rw [← hW1]; exact alloc_old (by first | (simp; done) | (simp; omega)) (alloc_old (by first | (simp; done) | (simp; omega)) (alloc_at rfl))
  have f1 : W1.heap[w.heap.size + 1]? = some (.cells (a.arr v) 32 (0, 0)) := by rw [← hW1]; exact alloc_old (by first | (simp; done) | (simp; omega)) (alloc_at (by simp))
  have f2 : W1.heap[w.heap.size + 1 + 1]? = some (.cells #[.int .u8 0, .int .i64 0, .int .i64 0, .int .i64 0, .int .i64 0, .int .i64 0, .bool false, .slice none 0 0, .int .i64 0, .int .i64 0, .int .i64 0, .int .i64 0, .int .i64 0] 32 (0, 0)) := by rw [← hW1]; exact alloc_at (by simp)
  have hV : Below w.heap.size w W1 := by rw [← hW1]; exact (((Below.refl _ w).alloc (by first | exact Nat.le_refl _ | (simp; done) | (simp; omega)) _).alloc (by first | exact Nat.le_refl _ | (simp; done) | (simp; omega)) _).alloc (by first | exact Nat.le_refl _ | (simp; done) | (simp; omega)) _
  rw [hW1]
  clear hW1
  refine (plget_yes (B := w.heap.size) (HPS.out.kept fun i _ hi => hV.block i hi) hV.size hQ).mono ?_
  rintro e W2 ⟨rfl, hb⟩
  have q0 : W2.heap[w.heap.size]? = some (.cells b.arr 35 (0, 0)) := below_block hb f0
  have q1 : W2.heap[w.heap.size + 1]? = some (.cells (a.arr v) 32 (0, 0)) := below_block hb f1
  have q2 : W2.heap[w.heap.size + 1 + 1]? = some (.cells #[.int .u8 0, .int .i64 0, .int .i64 0, .int .i64 0, .int .i64 0, .int .i64 0, .bool false, .slice none 0 0, .int .i64 0, .int .i64 0, .int .i64 0, .int .i64 0, .int .i64 0] 32 (0, 0)) := below_block hb f2
  have hV2 : Below w.heap.size w W2 := hV.trans (hb.mono hV.size)
  have hz2 : w.heap.size + 1 + 1 < W2.heap.size := (Array.getElem?_eq_some_iff.1 q2).1
  clear hb f0 f1 f2 hV W1
  go_wp2_with (((with_reducible_and_instances (show wpList _ _ _ (Oper.mk _ (Op.store 44 _ _) _ _ _ _ :: _) _ _)); refine stop_here ?_))
  refine ⟨?_⟩
  refine wl_store (g := W2.heap.size) info6p rfl rfl rfl rfl (alloc_at rfl) rfl rfl (Pv.arr_one _) ?_
  obtain ⟨W3, hW3⟩ : ∃ W3, boxed (W2.alloc (.cells #[.int .i64 0, .int .u8 0, .int .i64 0, .int .i64 0, .bool false, .bool false] 44)) W2.heap.size Q.arr 44 = W3 := ⟨_, rfl⟩
  have r0 : W3.heap[w.heap.size]? = some (.cells b.arr 35 (0, 0)) := by rw [← hW3]; exact boxed_old (by omega) (alloc_old (by omega) q0)
  have r1 : W3.heap[w.heap.size + 1]? = some (.cells (a.arr v) 32 (0, 0)) := by rw [← hW3]; exact boxed_old (by omega) (alloc_old (by omega) q1)
  have r2 : W3.heap[w.heap.size + 1 + 1]? = some (.cells #[.int .u8 0, .int .i64 0, .int .i64 0, .int .i64 0, .int .i64 0, .int .i64 0, .bool false, .slice none 0 0, .int .i64 0, .int .i64 0, .int .i64 0, .int .i64 0, .int .i64 0] 32 (0, 0)) := by rw [← hW3]; exact boxed_old (by omega) (alloc_old (by omega) q2)
  have r3 : W3.heap[W2.heap.size]? = some (.cells Q.arr 44 (0, 0)) := by rw [← hW3]; exact boxed_at (by simp)
  have hV3 : Below w.heap.size w W3 := by rw [← hW3]; exact boxed_below (hV2.alloc hV2.size _) hV2.size
  rw [hW3]
  obtain ⟨qb, hqb⟩ : ∃ qb, W2.heap.size = qb := ⟨_, rfl⟩
  rw [hqb] at r3 hz2 ⊢
  clear hW3 hqb q0 q1 q2 hV2 W2
  have c01 : W3.cell? ⟨w.heap.size, 1, none⟩ = some b.vp := by rw [cell_of_row _ _ _ _ _ _ r0]; exact b.at1
  have c11 : W3.cell? ⟨w.heap.size + 1, 1, none⟩ = some (.int .i64 (kp : Int)) := by rw [cell_of_row _ _ _ _ _ _ r1, ← hpl]; rfl
  have hz3 : qb < W3.heap.size := (Array.getElem?_eq_some_iff.1 r3).1
  have HPL := Lib.hid hpl
  clear hpl
  go_wp2_with fail
  refine (plget_yes (B := w.heap.size) (HPS.out.kept fun i _ hi => hV3.block i hi) hV3.size hP).mono ?_
  rintro e W4 ⟨rfl, hb⟩
  have t0 : W4.heap[w.heap.size]? = some (.cells b.arr 35 (0, 0)) := below_block hb r0
  have t1 : W4.heap[w.heap.size + 1]? = some (.cells (a.arr v) 32 (0, 0)) := below_block hb r1
  have t2 : W4.heap[w.heap.size + 1 + 1]? = some (.cells #[.int .u8 0, .int .i64 0, .int .i64 0, .int .i64 0, .int .i64 0, .int .i64 0, .bool false, .slice none 0 0, .int .i64 0, .int .i64 0, .int .i64 0, .int .i64 0, .int .i64 0] 32 (0, 0)) := below_block hb r2
  have t3 : W4.heap[qb]? = some (.cells Q.arr 44 (0, 0)) := below_block hb r3
  have hV4 : Below w.heap.size w W4 := hV3.trans (hb.mono hV3.size)
  have hz4 : qb < W4.heap.size := (Array.getElem?_eq_some_iff.1 t3).1
  clear hb r0 r1 r2 r3 hV3 c01 c11 hz3 W3
  go_wp2_with (((with_reducible_and_instances (show wpList _ _ _ (Oper.mk _ (Op.store 44 _ _) _ _ _ _ :: _) _ _)); refine stop_here ?_))
  refine ⟨?_⟩
  refine wl_store (g := W4.heap.size) info6p rfl rfl rfl rfl (alloc_at rfl) rfl rfl (Pv.arr_one _) ?_
  obtain ⟨W5, hW5⟩ : ∃ W5, boxed (W4.alloc (.cells #[.int .i64 0, .int .u8 0, .int .i64 0, .int .i64 0, .bool false, .bool false] 44)) W4.heap.size P.arr 44 = W5 := ⟨_, rfl⟩
  have u0 : W5.heap[w.heap.size]? = some (.cells b.arr 35 (0, 0)) := by rw [← hW5]; exact boxed_old (by omega) (alloc_old (by omega) t0)
  have u1 : W5.heap[w.heap.size + 1]? = some (.cells (a.arr v) 32 (0, 0)) := by rw [← hW5]; exact boxed_old (by omega) (alloc_old (by omega) t1)
  have u2 : W5.heap[w.heap.size + 1 + 1]? = some (.cells #[.int .u8 0, .int .i64 0, .int .i64 0, .int .i64 0, .int .i64 0, .int .i64 0, .bool false, .slice none 0 0, .int .i64 0, .int .i64 0, .int .i64 0, .int .i64 0, .int .i64 0] 32 (0, 0)) := by rw [← hW5]; exact boxed_old (by omega) (alloc_old (by omega) t2)
  have u3 : W5.heap[qb]? = some (.cells Q.arr 44 (0, 0)) := by rw [← hW5]; exact boxed_old (by omega) (alloc_old (by omega) t3)
  have u4 : W5.heap[W4.heap.size]? = some (.cells P.arr 44 (0, 0)) := by rw [← hW5]; exact boxed_at (by simp)
  have hV : Below w.heap.size w W5 := by rw [← hW5]; exact boxed_below (hV4.alloc hV4.size _) hV4.size
  rw [hW5]
  obtain ⟨pb, hpb⟩ : ∃ pb, W4.heap.size = pb := ⟨_, rfl⟩
  rw [hpb] at u4 hz4 ⊢
  have hpbq : qb < pb := hz4
  clear hW5 hpb t0 t1 t2 t3 hV4 hz4 W4
  have htd : W5.cell? ⟨w.heap.size, 0, none⟩ = some (.int .i64 b.td) := by rw [cell_of_row _ _ _ _ _ _ u0]; exact b.at0
  have f2 := u2
  have hz2' : w.heap.size + 1 + 1 < W5.heap.size := (Array.getElem?_eq_some_iff.1 u2).1
  go_wp2_with (((with_reducible_and_instances (show wpList _ _ _ (Oper.mk _ (Op.load 32 _) _ _ _ _ :: _) _ _)); refine stop_here ?_))
  refine ⟨?_⟩
  refine wl_load (cs := a.arr v) (fr := (0, 0)) (g := w.heap.size + 1) Tryz.underlying32 rfl info13 rfl rfl rfl u1 rfl ?_
  go_wp2_with (((with_reducible_and_instances (show wpList _ _ _ (Oper.mk _ (Op.load 44 _) _ _ _ _ :: _) _ _)); refine stop_here ?_))
  refine ⟨?_⟩
  refine wl_load (cs := P.arr) (fr := (0, 0)) (g := pb) Tryz.underlying44 rfl info6p rfl rfl rfl u4 rfl ?_
  go_wp2_with (((with_reducible_and_instances (show wpList _ _ _ (Oper.mk _ (Op.load 44 _) _ _ _ _ :: _) _ _)); refine stop_here ?_))
  refine ⟨?_⟩
  refine wl_load (cs := Q.arr) (fr := (0, 0)) (g := qb) Tryz.underlying44 rfl info6p rfl rfl rfl u3 rfl ?_
  go_wp2_with fail
  refine (HA.out W5 hV).mono ?_
  rintro e W2 ⟨a', va', rfl, hone', hx', hb⟩
  have z2 : W2.heap[w.heap.size + 1 + 1]? = some (.cells #[.int .u8 0, .int .i64 0, .int .i64 0, .int .i64 0, .int .i64 0, .int .i64 0, .bool false, .slice none 0 0, .int .i64 0, .int .i64 0, .int .i64 0, .int .i64 0, .int .i64 0] 32 (0, 0)) := below_block hb f2
  have hV2 : Below w.heap.size w W2 := hV.trans (hb.mono hV.size)
  have hzz : w.heap.size + 1 + 1 < W2.heap.size := (Array.getElem?_eq_some_iff.1 z2).1
  have HX := Lib.hid hx'
  clear hx'
  go_wp2_with (((with_reducible_and_instances (show wpList _ _ _ (Oper.mk _ (Op.store 32 _ _) _ _ _ _ :: _) _ _)); refine stop_here ?_))
  refine ⟨?_⟩
  refine wl_store (g := w.heap.size + 1 + 1) info13 rfl rfl rfl rfl z2 rfl rfl (Av.arr_one hone') ?_
  go_wp2_with fail
  refine bodyPost_ret (results_row_tmp rfl _ _ (w.heap.size + 1 + 1) 32 _ (0, 0) _ rfl (boxed_at hzz) Tryz.underlying32 rfl (by exact info13)) rfl ?_
  exact ⟨a', va', rfl, hone', fun h => ⟨(HX.out h).1, ((HX.out h).2.boxed (.inl (by omega))).more (by omega) (by simp)⟩, boxed_below hV2 (by omega)⟩
set_option maxHeartbeats 4000000 in
theorem opened_none {w : World} {b : Kb} {ps : List Pv} {A' : Av} (i n : Int) (hps : Pys w 0 w.heap.size b.vp ps) (hn : (ps.length : Int) ≤ n) :
    Calls Tryz.prog 28 #[.agg b.arr, .int .i64 i, .int .i64 n] w (Ansk 2 A' w) := by
  have HPS := Lib.hid hps
  obtain ⟨pA, pc, hvp, hpc, _, _, hpn⟩ := hps
  have HVP := Lib.hid hvp
  clear hvp
  go_enter Tryz.func28, Tryz.ntmps28
  go_wp2_with fail
  obtain ⟨W1, hW1⟩ : ∃ W1, (w.alloc (.cells b.arr 35)).alloc (.cells #[.int .u8 0, .int .i64 0, .int .i64 0, .int .i64 0, .int .i64 0, .int .i64 0, .bool false, .slice none 0 0, .int .i64 0, .int .i64 0, .int .i64 0, .int .i64 0, .int .i64 0] 32) = W1 := ⟨_, rfl⟩
  have f0 : W1.heap[w.heap.size]? = some (.cells b.arr 35 (0, 0)) := by rw [← hW1]; exact alloc_old (by first | (simp; done) | (simp; omega)) (alloc_at rfl)
  have f1 : W1.heap[w.heap.size + 1]? = some (.cells #[.int .u8 0, .int .i64 0, .int .i64 0, .int .i64 0, .int .i64 0, .int .i64 0, .bool false, .slice none 0 0, .int .i64 0, .int .i64 0, .int .i64 0, .int .i64 0, .int .i64 0] 32 (0, 0)) := by rw [← hW1]; exact alloc_at (by simp)
  have hV : Below w.heap.size w W1 := by rw [← hW1]; exact ((Below.refl _ w).alloc (by first | exact Nat.le_refl _ | (simp; done) | (simp; omega)) _).alloc (by first | exact Nat.le_refl _ | (simp; done) | (simp; omega)) _
  rw [hW1]
  clear hW1
  rw [HVP.out]
  refine (plnone_any W1 ps.length pc n pA (.inr ⟨by omega, hn⟩)).mono ?_
  rintro e W2 ⟨rfl, hb⟩
  have q0 : W2.heap[w.heap.size]? = some (.cells b.arr 35 (0, 0)) := below_block hb f0
  have q1 : W2.heap[w.heap.size + 1]? = some (.cells #[.int .u8 0, .int .i64 0, .int .i64 0, .int .i64 0, .int .i64 0, .int .i64 0, .bool false, .slice none 0 0, .int .i64 0, .int .i64 0, .int .i64 0, .int .i64 0, .int .i64 0] 32 (0, 0)) := below_block hb f1
  have hV2 : Below w.heap.size w W2 := hV.trans (hb.mono hV.size)
  have hz2 : w.heap.size + 1 < W2.heap.size := (Array.getElem?_eq_some_iff.1 q1).1
  clear hb f0 f1 hV W1
  go_wp2_with (((with_reducible_and_instances (show wpList _ _ _ (Oper.mk _ (Op.store 44 _ _) _ _ _ _ :: _) _ _)); refine stop_here ?_))
  refine ⟨?_⟩
  refine wl_store (g := W2.heap.size) info6p rfl rfl rfl rfl (alloc_at rfl) rfl rfl (by simp [Value.oneCell']) ?_
  obtain ⟨W3, hW3⟩ : ∃ W3, boxed (W2.alloc (.cells #[.int .i64 0, .int .u8 0, .int .i64 0, .int .i64 0, .bool false, .bool false] 44)) W2.heap.size #[.int .i64 0, .int .u8 0, .int .i64 0, .int .i64 0, .bool false, .bool false] 44 = W3 := ⟨_, rfl⟩
  have r0 : W3.heap[w.heap.size]? = some (.cells b.arr 35 (0, 0)) := by rw [← hW3]; exact boxed_old (by omega) (alloc_old (by omega) q0)
  have r1 : W3.heap[w.heap.size + 1]? = some (.cells #[.int .u8 0, .int .i64 0, .int .i64 0, .int .i64 0, .int .i64 0, .int .i64 0, .bool false, .slice none 0 0, .int .i64 0, .int .i64 0, .int .i64 0, .int .i64 0, .int .i64 0] 32 (0, 0)) := by rw [← hW3]; exact boxed_old (by omega) (alloc_old (by omega) q1)
  have r3 : W3.heap[W2.heap.size]? = some (.cells #[.int .i64 0, .int .u8 0, .int .i64 0, .int .i64 0, .bool false, .bool false] 44 (0, 0)) := by rw [← hW3]; exact boxed_at (by simp)
  have hV3 : Below w.heap.size w W3 := by rw [← hW3]; exact boxed_below (hV2.alloc hV2.size _) hV2.size
  rw [hW3]
  obtain ⟨pb, hpb⟩ : ∃ pb, W2.heap.size = pb := ⟨_, rfl⟩
  rw [hpb] at r3 hz2 ⊢
  clear hW3 hpb q0 q1 hV2 W2
  have hz3 : pb < W3.heap.size := (Array.getElem?_eq_some_iff.1 r3).1
  go_wp2_with (((with_reducible_and_instances (show wpList _ _ _ (Oper.mk _ (Op.store 32 _ _) _ _ _ _ :: _) _ _)); refine stop_here ?_))
  refine ⟨?_⟩
  refine wl_store (g := w.heap.size + 1) info13 rfl rfl rfl rfl r1 rfl rfl (by simp [Value.oneCell']) ?_
  go_wp2_with fail
  refine bodyPost_ret (results_row_tmp rfl _ _ (w.heap.size + 1) 32 _ (0, 0) _ rfl (boxed_at (by have := (Array.getElem?_eq_some_iff.1 r1).1; omega)) Tryz.underlying32 rfl (by exact info13)) rfl ?_
  exact ⟨Av.zero, .slice none 0 0, rfl, rfl, fun h => absurd h (by decide), boxed_below hV3 (by omega)⟩
set_option maxHeartbeats 4000000 in
theorem opened_there {w : World} {b : Kb} {ps : List Pv} {A' : Av} {i kn : Nat} {P : Pv} (hi : i < 32) (hps : Pys w 0 w.heap.size b.vp ps) (hP : ps[kn]? = some P) (hst : (b.a i).st ≠ 0) :
    Calls Tryz.prog 28 #[.agg b.arr, .int .i64 (i : Int), .int .i64 (kn : Int)] w (Ansk 11 A' w) := by
  have HPS := Lib.hid hps
  clear hps
  go_enter Tryz.func28, Tryz.ntmps28
  go_wp2_with fail
  obtain ⟨W1, hW1⟩ : ∃ W1, (w.alloc (.cells b.arr 35)).alloc (.cells #[.int .u8 0, .int .i64 0, .int .i64 0, .int .i64 0, .int .i64 0, .int .i64 0, .bool false, .slice none 0 0, .int .i64 0, .int .i64 0, .int .i64 0, .int .i64 0, .int .i64 0] 32) = W1 := ⟨_, rfl⟩
  have f0 : W1.heap[w.heap.size]? = some (.cells b.arr 35 (0, 0)) := by rw [← hW1]; exact alloc_old (by first | (simp; done) | (simp; omega)) (alloc_at rfl)
  have f1 : W1.heap[w.heap.size + 1]? = some (.cells #[.int .u8 0, .int .i64 0, .int .i64 0, .int .i64 0, .int .i64 0, .int .i64 0, .bool false, .slice none 0 0, .int .i64 0, .int .i64 0, .int .i64 0, .int .i64 0, .int .i64 0] 32 (0, 0)) := by rw [← hW1]; exact alloc_at (by simp)
  have hV : Below w.heap.size w W1 := by rw [← hW1]; exact ((Below.refl _ w).alloc (by first | exact Nat.le_refl _ | (simp; done) | (simp; omega)) _).alloc (by first | exact Nat.le_refl _ | (simp; done) | (simp; omega)) _
  rw [hW1]
  clear hW1
  refine (plget_yes (B := w.heap.size) (HPS.out.kept fun i _ hi => hV.block i hi) hV.size hP).mono ?_
  rintro e W2 ⟨rfl, hb⟩
  have q0 : W2.heap[w.heap.size]? = some (.cells b.arr 35 (0, 0)) := below_block hb f0
  have q1 : W2.heap[w.heap.size + 1]? = some (.cells #[.int .u8 0, .int .i64 0, .int .i64 0, .int .i64 0, .int .i64 0, .int .i64 0, .bool false, .slice none 0 0, .int .i64 0, .int .i64 0, .int .i64 0, .int .i64 0, .int .i64 0] 32 (0, 0)) := below_block hb f1
  have hV2 : Below w.heap.size w W2 := hV.trans (hb.mono hV.size)
  have hz2 : w.heap.size + 1 < W2.heap.size := (Array.getElem?_eq_some_iff.1 q1).1
  clear hb f0 f1 hV W1
  go_wp2_with (((with_reducible_and_instances (show wpList _ _ _ (Oper.mk _ (Op.store 44 _ _) _ _ _ _ :: _) _ _)); refine stop_here ?_))
  refine ⟨?_⟩
  refine wl_store (g := W2.heap.size) info6p rfl rfl rfl rfl (alloc_at rfl) rfl rfl (Pv.arr_one _) ?_
  obtain ⟨W3, hW3⟩ : ∃ W3, boxed (W2.alloc (.cells #[.int .i64 0, .int .u8 0, .int .i64 0, .int .i64 0, .bool false, .bool false] 44)) W2.heap.size P.arr 44 = W3 := ⟨_, rfl⟩
  have r0 : W3.heap[w.heap.size]? = some (.cells b.arr 35 (0, 0)) := by rw [← hW3]; exact boxed_old (by omega) (alloc_old (by omega) q0)
  have r1 : W3.heap[w.heap.size + 1]? = some (.cells #[.int .u8 0, .int .i64 0, .int .i64 0, .int .i64 0, .int .i64 0, .int .i64 0, .bool false, .slice none 0 0, .int .i64 0, .int .i64 0, .int .i64 0, .int .i64 0, .int .i64 0] 32 (0, 0)) := by rw [← hW3]; exact boxed_old (by omega) (alloc_old (by omega) q1)
  have r3 : W3.heap[W2.heap.size]? = some (.cells P.arr 44 (0, 0)) := by rw [← hW3]; exact boxed_at (by simp)
  have hV3 : Below w.heap.size w W3 := by rw [← hW3]; exact boxed_below (hV2.alloc hV2.size _) hV2.size
  rw [hW3]
  obtain ⟨pb, hpb⟩ : ∃ pb, W2.heap.size = pb := ⟨_, rfl⟩
  rw [hpb] at r3 hz2 ⊢
  clear hW3 hpb q0 q1 hV2 W2
  have hz3 : pb < W3.heap.size := (Array.getElem?_eq_some_iff.1 r3).1
  have hiI : (i : Int) < 32 := by omega
  have hiJ : (0 : Int) ≤ (i : Int) := by omega
  have hst0 : W3.cell? ⟨w.heap.size, 2 + i * 13, none⟩ = some (.int .u8 (b.a i).st) := by have := Kb.cell r0 hi (j := 0) (by omega) rfl; rwa [Nat.add_zero] at this
  have dst : ((b.a i).st != 0) = true := by simpa using hst
  go_wp2_with (((with_reducible_and_instances (show wpList _ _ _ (Oper.mk _ (Op.store 32 _ _) _ _ _ _ :: _) _ _)); refine stop_here ?_))
  refine ⟨?_⟩
  refine wl_store (g := w.heap.size + 1) info13 rfl rfl rfl rfl r1 rfl rfl (by simp [Value.oneCell']) ?_
  go_wp2_with fail
  refine bodyPost_ret (results_row_tmp rfl _ _ (w.heap.size + 1) 32 _ (0, 0) _ rfl (boxed_at (by have := (Array.getElem?_eq_some_iff.1 r1).1; omega)) Tryz.underlying32 rfl (by exact info13)) rfl ?_
  exact ⟨Av.zero, .slice none 0 0, rfl, rfl, fun h => absurd h (by decide), boxed_below hV3 (by omega)⟩
set_option maxHeartbeats 4000000 in
theorem opened_long {w : World} {b : Kb} {ps : List Pv} {A' : Av} {i kn : Nat} {P : Pv} (hi : i < 32) (hps : Pys w 0 w.heap.size b.vp ps) (hP : ps[kn]? = some P) (hst : (b.a i).st = 0) (htd : 0 ≤ b.td ∧ b.td ≤ 3652058) (ht : 0 ≤ P.t ∧ P.t ≤ 1000) (hlong : 3652058 < b.td + P.t) :
    Calls Tryz.prog 28 #[.agg b.arr, .int .i64 (i : Int), .int .i64 (kn : Int)] w (Ansk 6 A' w) := by
  have HPS := Lib.hid hps
  clear hps
  go_enter Tryz.func28, Tryz.ntmps28
  go_wp2_with fail
  obtain ⟨W1, hW1⟩ : ∃ W1, (w.alloc (.cells b.arr 35)).alloc (.cells #[.int .u8 0, .int .i64 0, .int .i64 0, .int .i64 0, .int .i64 0, .int .i64 0, .bool false, .slice none 0 0, .int .i64 0, .int .i64 0, .int .i64 0, .int .i64 0, .int .i64 0] 32) = W1 := ⟨_, rfl⟩
  have f0 : W1.heap[w.heap.size]? = some (.cells b.arr 35 (0, 0)) := by rw [← hW1]; exact alloc_old (by first | (simp; done) | (simp; omega)) (alloc_at rfl)
  have f1 : W1.heap[w.heap.size + 1]? = some (.cells #[.int .u8 0, .int .i64 0, .int .i64 0, .int .i64 0, .int .i64 0, .int .i64 0, .bool false, .slice none 0 0, .int .i64 0, .int .i64 0, .int .i64 0, .int .i64 0, .int .i64 0] 32 (0, 0)) := by rw [← hW1]; exact alloc_at (by simp)
  have hV : Below w.heap.size w W1 := by rw [← hW1]; exact ((Below.refl _ w).alloc (by first | exact Nat.le_refl _ | (simp; done) | (simp; omega)) _).alloc (by first | exact Nat.le_refl _ | (simp; done) | (simp; omega)) _
  rw [hW1]
  clear hW1
  refine (plget_yes (B := w.heap.size) (HPS.out.kept fun i _ hi => hV.block i hi) hV.size hP).mono ?_
  rintro e W2 ⟨rfl, hb⟩
  have q0 : W2.heap[w.heap.size]? = some (.cells b.arr 35 (0, 0)) := below_block hb f0
  have q1 : W2.heap[w.heap.size + 1]? = some (.cells #[.int .u8 0, .int .i64 0, .int .i64 0, .int .i64 0, .int .i64 0, .int .i64 0, .bool false, .slice none 0 0, .int .i64 0, .int .i64 0, .int .i64 0, .int .i64 0, .int .i64 0] 32 (0, 0)) := below_block hb f1
  have hV2 : Below w.heap.size w W2 := hV.trans (hb.mono hV.size)
  have hz2 : w.heap.size + 1 < W2.heap.size := (Array.getElem?_eq_some_iff.1 q1).1
  clear hb f0 f1 hV W1
  go_wp2_with (((with_reducible_and_instances (show wpList _ _ _ (Oper.mk _ (Op.store 44 _ _) _ _ _ _ :: _) _ _)); refine stop_here ?_))
  refine ⟨?_⟩
  refine wl_store (g := W2.heap.size) info6p rfl rfl rfl rfl (alloc_at rfl) rfl rfl (Pv.arr_one _) ?_
  obtain ⟨W3, hW3⟩ : ∃ W3, boxed (W2.alloc (.cells #[.int .i64 0, .int .u8 0, .int .i64 0, .int .i64 0, .bool false, .bool false] 44)) W2.heap.size P.arr 44 = W3 := ⟨_, rfl⟩
  have r0 : W3.heap[w.heap.size]? = some (.cells b.arr 35 (0, 0)) := by rw [← hW3]; exact boxed_old (by omega) (alloc_old (by omega) q0)
  have r1 : W3.heap[w.heap.size + 1]? = some (.cells #[.int .u8 0, .int .i64 0, .int .i64 0, .int .i64 0, .int .i64 0, .int .i64 0, .bool false, .slice none 0 0, .int .i64 0, .int .i64 0, .int .i64 0, .int .i64 0, .int .i64 0] 32 (0, 0)) := by rw [← hW3]; exact boxed_old (by omega) (alloc_old (by omega) q1)
  have r3 : W3.heap[W2.heap.size]? = some (.cells P.arr 44 (0, 0)) := by rw [← hW3]; exact boxed_at (by simp)
  have hV3 : Below w.heap.size w W3 := by rw [← hW3]; exact boxed_below (hV2.alloc hV2.size _) hV2.size
  rw [hW3]
  obtain ⟨pb, hpb⟩ : ∃ pb, W2.heap.size = pb := ⟨_, rfl⟩
  rw [hpb] at r3 hz2 ⊢
  clear hW3 hpb q0 q1 hV2 W2
  have hz3 : pb < W3.heap.size := (Array.getElem?_eq_some_iff.1 r3).1
  have hiI : (i : Int) < 32 := by omega
  have hiJ : (0 : Int) ≤ (i : Int) := by omega
  have hst0 : W3.cell? ⟨w.heap.size, 2 + i * 13, none⟩ = some (.int .u8 (b.a i).st) := by have := Kb.cell r0 hi (j := 0) (by omega) rfl; rwa [Nat.add_zero] at this
  have dst : ((b.a i).st != 0) = false := by simpa using hst
  have htd0 : W3.cell? ⟨w.heap.size, 0, none⟩ = some (.int .i64 b.td) := by rw [cell_of_row _ _ _ _ _ _ r0]; exact b.at0
  have ht0 : W3.cell? ⟨pb, 3, none⟩ = some (.int .i64 P.t) := by rw [cell_of_row _ _ _ _ _ _ r3]; rfl
  obtain ⟨ht1, ht2⟩ := ht
  obtain ⟨htd1, htd2⟩ := htd
  have ew : wrap64 (3652058 - P.t) = 3652058 - P.t := by unfold wrap64; omega
  have dl : decide (3652058 - P.t < b.td) = true := by simp; omega
  have dl2 : decide (b.td > 3652058 - P.t) = true := by simp; omega
  go_wp2_with (((with_reducible_and_instances (show wpList _ _ _ (Oper.mk _ (Op.store 32 _ _) _ _ _ _ :: _) _ _)); refine stop_here ?_))
  refine ⟨?_⟩
  refine wl_store (g := w.heap.size + 1) info13 rfl rfl rfl rfl r1 rfl rfl (by simp [Value.oneCell']) ?_
  go_wp2_with fail
  refine bodyPost_ret (results_row_tmp rfl _ _ (w.heap.size + 1) 32 _ (0, 0) _ rfl (boxed_at (by have := (Array.getElem?_eq_some_iff.1 r1).1; omega)) Tryz.underlying32 rfl (by exact info13)) rfl ?_
  exact ⟨Av.zero, .slice none 0 0, rfl, rfl, fun h => absurd h (by decide), boxed_below hV3 (by omega)⟩
set_option maxHeartbeats 4000000 in
theorem opened_yes {w : World} {b : Kb} {ps : List Pv} {A' : Av} {i kn : Nat} {P : Pv} (hi : i < 32) (hps : Pys w 0 w.heap.size b.vp ps) (hP : ps[kn]? = some P) (hst : (b.a i).st = 0) (htd : 0 ≤ b.td ∧ b.td ≤ 3652058) (ht : 0 ≤ P.t ∧ P.t ≤ 1000) (hlong : b.td + P.t ≤ 3652058) (HA : Hid (∀ W, Calls Tryz.prog 58 #[.agg ((Av.opened (kn : Int) (b.td + P.t)).arr (.slice none 0 0)), .agg P.arr, .int .i64 b.td] W (News W A'))) :
    Calls Tryz.prog 28 #[.agg b.arr, .int .i64 (i : Int), .int .i64 (kn : Int)] w (Ansk 0 A' w) := by
  have HPS := Lib.hid hps
  clear hps
  go_enter Tryz.func28, Tryz.ntmps28
  go_wp2_with fail
  obtain ⟨W1, hW1⟩ : ∃ W1, (w.alloc (.cells b.arr 35)).alloc (.cells #[.int .u8 0, .int .i64 0, .int .i64 0, .int .i64 0, .int .i64 0, .int .i64 0, .bool false, .slice none 0 0, .int .i64 0, .int .i64 0, .int .i64 0, .int .i64 0, .int .i64 0] 32) = W1 := ⟨_, rfl⟩
  have f0 : W1.heap[w.heap.size]? = some (.cells b.arr 35 (0, 0)) := by rw [← hW1]; exact alloc_old (by first | (simp; done) | (simp; omega)) (alloc_at rfl)
  have f1 : W1.heap[w.heap.size + 1]? = some (.cells #[.int .u8 0, .int .i64 0, .int .i64 0, .int .i64 0, .int .i64 0, .int .i64 0, .bool false, .slice none 0 0, .int .i64 0, .int .i64 0, .int .i64 0, .int .i64 0, .int .i64 0] 32 (0, 0)) := by rw [← hW1]; exact alloc_at (by simp)
  have hV : Below w.heap.size w W1 := by rw [← hW1]; exact ((Below.refl _ w).alloc (by first | exact Nat.le_refl _ | (simp; done) | (simp; omega)) _).alloc (by first | exact Nat.le_refl _ | (simp; done) | (simp; omega)) _
  rw [hW1]
  clear hW1
  refine (plget_yes (B := w.heap.size) (HPS.out.kept fun i _ hi => hV.block i hi) hV.size hP).mono ?_
  rintro e W2 ⟨rfl, hb⟩
  have q0 : W2.heap[w.heap.size]? = some (.cells b.arr 35 (0, 0)) := below_block hb f0
  have q1 : W2.heap[w.heap.size + 1]? = some (.cells #[.int .u8 0, .int .i64 0, .int .i64 0, .int .i64 0, .int .i64 0, .int .i64 0, .bool false, .slice none 0 0, .int .i64 0, .int .i64 0, .int .i64 0, .int .i64 0, .int .i64 0] 32 (0, 0)) := below_block hb f1
  have hV2 : Below w.heap.size w W2 := hV.trans (hb.mono hV.size)
  have hz2 : w.heap.size + 1 < W2.heap.size := (Array.getElem?_eq_some_iff.1 q1).1
  clear hb f0 f1 hV W1
  go_wp2_with (((with_reducible_and_instances (show wpList _ _ _ (Oper.mk _ (Op.store 44 _ _) _ _ _ _ :: _) _ _)); refine stop_here ?_))
  refine ⟨?_⟩
  refine wl_store (g := W2.heap.size) info6p rfl rfl rfl rfl (alloc_at rfl) rfl rfl (Pv.arr_one _) ?_
  obtain ⟨W3, hW3⟩ : ∃ W3, boxed (W2.alloc (.cells #[.int .i64 0, .int .u8 0, .int .i64 0, .int .i64 0, .bool false, .bool false] 44)) W2.heap.size P.arr 44 = W3 := ⟨_, rfl⟩
  have r0 : W3.heap[w.heap.size]? = some (.cells b.arr 35 (0, 0)) := by rw [← hW3]; exact boxed_old (by omega) (alloc_old (by omega) q0)
  have r1 : W3.heap[w.heap.size + 1]? = some (.cells #[.int .u8 0, .int .i64 0, .int .i64 0, .int .i64 0, .int .i64 0, .int .i64 0, .bool false, .slice none 0 0, .int .i64 0, .int .i64 0, .int .i64 0, .int .i64 0, .int .i64 0] 32 (0, 0)) := by rw [← hW3]; exact boxed_old (by omega) (alloc_old (by omega) q1)
  have r3 : W3.heap[W2.heap.size]? = some (.cells P.arr 44 (0, 0)) := by rw [← hW3]; exact boxed_at (by simp)
  have hV3 : Below w.heap.size w W3 := by rw [← hW3]; exact boxed_below (hV2.alloc hV2.size _) hV2.size
  rw [hW3]
  obtain ⟨pb, hpb⟩ : ∃ pb, W2.heap.size = pb := ⟨_, rfl⟩
  rw [hpb] at r3 hz2 ⊢
  clear hW3 hpb q0 q1 hV2 W2
  have hz3 : pb < W3.heap.size := (Array.getElem?_eq_some_iff.1 r3).1
  have hiI : (i : Int) < 32 := by omega
  have hiJ : (0 : Int) ≤ (i : Int) := by omega
  have hst0 : W3.cell? ⟨w.heap.size, 2 + i * 13, none⟩ = some (.int .u8 (b.a i).st) := by have := Kb.cell r0 hi (j := 0) (by omega) rfl; rwa [Nat.add_zero] at this
  have dst : ((b.a i).st != 0) = false := by simpa using hst
  have htd0 : W3.cell? ⟨w.heap.size, 0, none⟩ = some (.int .i64 b.td) := by rw [cell_of_row _ _ _ _ _ _ r0]; exact b.at0
  have ht0 : W3.cell? ⟨pb, 3, none⟩ = some (.int .i64 P.t) := by rw [cell_of_row _ _ _ _ _ _ r3]; rfl
  obtain ⟨ht1, ht2⟩ := ht
  obtain ⟨htd1, htd2⟩ := htd
  have ew : wrap64 (3652058 - P.t) = 3652058 - P.t := by unfold wrap64; omega
  have dl : decide (3652058 - P.t < b.td) = false := by simp; omega
  have dl2 : decide (b.td > 3652058 - P.t) = false := by simp; omega
  go_upto_region 8 with fail
  have HS0 : Hid ((fun w' : World => w'.heap[w.heap.size]? = some (.cells b.arr 35 (0, 0)) ∧ w'.heap[pb]? = some (.cells P.arr 44 (0, 0))) W3.drew) := ⟨r0, r3⟩
  have HCF : Hid (∀ W : World, (fun w' : World => w'.heap[w.heap.size]? = some (.cells b.arr 35 (0, 0)) ∧ w'.heap[pb]? = some (.cells P.arr 44 (0, 0))) W → W.cell? ⟨w.heap.size, 0, none⟩ = some (.int .i64 b.td)) := fun W hS => by rw [cell_of_row _ _ _ _ _ _ hS.1]; exact b.at0
  clear ew dl dl2 dst hst0 htd0 ht0
  refine laneT_start (ord := [0, 1, 2, 3, 5, 6, 7, 4, 8, 9, 10, 11, 12]) (t := 12) (S := (fun w' : World => w'.heap[w.heap.size]? = some (.cells b.arr 35 (0, 0)) ∧ w'.heap[pb]? = some (.cells P.arr 44 (0, 0)))) rfl (by kernel_rfl) ?_
  iterate 1 (refine laneT_take1 (v := ?_) rfl (by kernel_rfl) (by kernel_rfl) (by rfl) ?_ (by exact HS0.out) ?_; rotate_left; (focus (intro W hSw; have x0 := HCF.out W hSw; go_simp; try (with_reducible rfl))); simp only [Act.put, List.setIfInBounds_toArray, List.set_cons_zero, List.set_cons_succ])
  refine laneT_take1 (v := .agg P.arr) rfl (by kernel_rfl) (by kernel_rfl) (by rfl) (fun W hSw => exec_load rfl rfl (run_loadAt_row W pb 44 44 _ (0, 0) _ hSw.2 Tryz.underlying44 rfl info6p)) (by exact HS0.out) ?_
  simp only [Act.put, List.setIfInBounds_toArray, List.set_cons_zero, List.set_cons_succ]
  iterate 2 (refine laneT_take1 (v := ?_) rfl (by kernel_rfl) (by kernel_rfl) (by rfl) ?_ (by exact HS0.out) ?_; rotate_left; (focus (intro W hSw; have x0 := HCF.out W hSw; go_simp; try (with_reducible rfl))); simp only [Act.put, List.setIfInBounds_toArray, List.set_cons_zero, List.set_cons_succ])
  refine laneT_take1 (v := .agg P.arr) rfl (by kernel_rfl) (by kernel_rfl) (by rfl) (fun W hSw => exec_load rfl rfl (run_loadAt_row W pb 44 44 _ (0, 0) _ hSw.2 Tryz.underlying44 rfl info6p)) (by exact HS0.out) ?_
  simp only [Act.put, List.setIfInBounds_toArray, List.set_cons_zero, List.set_cons_succ]
  iterate 2 (refine laneT_take1 (v := ?_) rfl (by kernel_rfl) (by kernel_rfl) (by rfl) ?_ (by exact HS0.out) ?_; rotate_left; (focus (intro W hSw; have x0 := HCF.out W hSw; go_simp; try (with_reducible rfl))); simp only [Act.put, List.setIfInBounds_toArray, List.set_cons_zero, List.set_cons_succ])
  refine laneT_alone rfl (by kernel_rfl) (by rfl) (fun KK hK => ?_)
  go_simp
  refine (open_any (p := P) (kn : Int) b.td (by omega)).mono ?_
  rintro e W4 ⟨rfl, hb⟩
  have hb : Below W3.heap.size W3 W4 := (Below.refl _ W3).drew.trans hb
  have HS4 : Hid ((fun w' : World => w'.heap[w.heap.size]? = some (.cells b.arr 35 (0, 0)) ∧ w'.heap[pb]? = some (.cells P.arr 44 (0, 0))) W4) := ⟨below_block hb r0, below_block hb r3⟩
  have z4 : W4.heap[w.heap.size + 1]? = some (.cells #[.int .u8 0, .int .i64 0, .int .i64 0, .int .i64 0, .int .i64 0, .int .i64 0, .bool false, .slice none 0 0, .int .i64 0, .int .i64 0, .int .i64 0, .int .i64 0, .int .i64 0] 32 (0, 0)) := below_block hb r1
  have hV4 : Below w.heap.size w W4 := hV3.trans (hb.mono hV3.size)
  refine hK _ _ (fun _ => HS4.out) ?_
  clear hK KK hb HS0 r0 r1 r3
  refine laneT_alone rfl (by kernel_rfl) (by rfl) (fun KK hK => ?_)
  go_simp
  refine (HA.out _).mono ?_
  rintro e W5 ⟨va', rfl, ho, hb⟩
  have HS5 : Hid ((fun w' : World => w'.heap[w.heap.size]? = some (.cells b.arr 35 (0, 0)) ∧ w'.heap[pb]? = some (.cells P.arr 44 (0, 0))) W5) := ⟨below_block hb HS4.out.1, below_block hb HS4.out.2⟩
  have z5 : W5.heap[w.heap.size + 1]? = some (.cells #[.int .u8 0, .int .i64 0, .int .i64 0, .int .i64 0, .int .i64 0, .int .i64 0, .bool false, .slice none 0 0, .int .i64 0, .int .i64 0, .int .i64 0, .int .i64 0, .int .i64 0] 32 (0, 0)) := below_block hb z4
  have hV5 : Below w.heap.size w W5 := hV4.trans (hb.mono hV4.size)
  have hv1 := ho.one
  have hz4 : w.heap.size + 1 < W4.heap.size := (Array.getElem?_eq_some_iff.1 z4).1
  have HO : Hid (Cys W5 (w.heap.size + 1 + 1) W5.heap.size va' A'.l) := ho.cys.more (by omega) (Nat.le_refl _)
  have hz5 : w.heap.size + 1 < W5.heap.size := by have := hb.size; omega
  refine hK _ _ (fun _ => HS5.out) ?_
  clear hK KK hb ho HS4 z4
  iterate 2 (refine laneT_take1 (v := ?_) rfl (by kernel_rfl) (by kernel_rfl) (by rfl) ?_ (by exact HS5.out) ?_; rotate_left; (focus (intro W hSw; have x0 := HCF.out W hSw; go_simp; try (with_reducible rfl))); simp only [Act.put, List.setIfInBounds_toArray, List.set_cons_zero, List.set_cons_succ])
  refine laneT_alone rfl (by kernel_rfl) (by rfl) (fun KK hK => ?_)
  refine wp_store_row 32 _ _ rfl (w.heap.size + 1) (A'.arr va') rfl rfl 32 _ z5 info13 rfl (Av.arr_one hv1) ?_
  rw [row_boxed z5]
  refine hK _ _ (fun _ => ⟨boxed_old (by omega) HS5.out.1, boxed_old (by omega) HS5.out.2⟩) ?_
  clear hK KK
  refine laneT_alone rfl (by kernel_rfl) (by rfl) (fun KK hK => ?_)
  go_simp
  refine hK _ _ (fun h => absurd rfl h) ?_
  clear hK KK
  refine laneT_end (by kernel_rfl) ?_
  go_wp2_with fail
  refine bodyPost_ret (results_row_tmp rfl _ _ (w.heap.size + 1) 32 _ (0, 0) _ rfl (boxed_at hz5) Tryz.underlying32 rfl (by exact info13)) rfl ?_
  exact ⟨A', va', rfl, hv1, fun _ => ⟨rfl, (HO.out.boxed (.inl (by omega))).more (by omega) (by simp)⟩, boxed_below hV5 (by omega)⟩
end Go.Proofs.YtblikgbcakgdnaaGreat
