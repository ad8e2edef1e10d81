/-
  A subscription of a book is told something: package book's ordered, changed, heard. No conditions but the sizes, and what the account's own functions answer.
-/
import Derived.Test.YtblikgbcakgdnaaGreatBr03
import Derived.Test.YtblikgbcakgdnaaGreatBr13
import Derived.Test.YtblikgbcakgdnaaGreatBr16
import Derived.Test.YtblikgbcakgdnaaGreatBr21
set_option linter.unusedSimpArgs false
set_option linter.unusedVariables false
namespace Go.Proofs.YtblikgbcakgdnaaGreat
set_option maxRecDepth 100000
open Go.ChangeShapes Go.WideShapes Go.ChangeAt Go.RowKit

/-- What a call answers: a subscription with a list in new blocks, or an error. -/
def Ansk (x : Int) (A' : Av) (W : World) (e : Ending) (w' : World) : Prop := ∃ a' va', e = .returned (.tuple #[.agg (a'.arr va'), .int .i64 x]) ∧ va'.oneCell' = true ∧ (x = 0 → a' = A' ∧ Cys w' W.heap.size w'.heap.size va' A'.l) ∧ Below W.heap.size W w'
theorem News.ansk {W : World} {a : Av} : ∀ e w', News W a e w' → Ansk 0 a W e w' := by
  rintro e w' ⟨v', rfl, ho, hb⟩
  exact ⟨a, v', rfl, ho.one, fun _ => ⟨rfl, ho.cys⟩, hb⟩
theorem Refused.ansk {W : World} {A' : Av} {x : Int} (hx : x ≠ 0) : ∀ e w', Refused W x e w' → Ansk x A' W e w' := by
  rintro e w' ⟨rfl, hb⟩
  exact ⟨Av.zero, _, rfl, rfl, fun h => absurd h hx, hb⟩
theorem info16k : (Tryz.prog.info? 48).map (·.size) = some 16 := by kernel_rfl
set_option maxHeartbeats 4000000 in
theorem ordered_pause {w : World} {b : Kb} {i : Nat} {x : Int} {A' : Av} (hi : i < 32) (hone : b.One) (hst : (b.a i).st ≠ 0) (HA : Hid (∀ W, Below w.heap.size w W → Calls Tryz.prog 61 #[.agg ((b.a i).arr (b.v i))] W (Ansk x A' W))) :
    Calls Tryz.prog 31 #[.agg b.arr, .agg #[.int .u8 4, .int .i64 (i : Int), .int .i64 0, .int .i64 0, .int .i64 0, .int .u8 0, .int .i64 0, .int .i64 0, .bool false, .bool false, .int .u8 0, .int .i64 0, .int .i64 0, .int .i64 0, .int .i64 0, .int .u8 0]] w (Ansk x A' w) := by
  go_enter Tryz.func31, Tryz.ntmps31
  have hiI : (i : Int) < 32 := by omega
  have hiJ : (0 : Int) ≤ (i : Int) := by omega
  go_wp2_with (((with_reducible_and_instances (show wpList _ _ _ (Oper.mk _ (Op.load 32 _) _ _ _ _ :: _) _ _)); refine stop_here ?_))
  refine ⟨?_⟩
  refine wpList_load_mid rfl _ _ rfl w.heap.size (2 + i * 13) rfl ((b.a i).arr (b.v i)).toList _ (Kb.range (alloc_old (by first | (simp; done) | (simp; omega)) (alloc_old (by first | (simp; done) | (simp; omega)) (alloc_at rfl))) hi) Tryz.underlying32 rfl info13 ?_
  rw [Array.toArray_toList]
  go_wp2_with (((with_reducible_and_instances (show wpList _ _ _ (Oper.mk _ (Op.store 32 _ _) _ _ _ _ :: _) _ _)); refine stop_here ?_))
  refine ⟨?_⟩
  refine wl_store (g := w.heap.size + 1 + 1 + 1) info13 rfl rfl rfl rfl (alloc_at (by first | (simp; done) | (simp; omega))) rfl rfl (Av.arr_one (hone.2 i hi)) ?_
  obtain ⟨W1, hW1⟩ : ∃ W1, boxed ((((w.alloc (.cells b.arr 35)).alloc (.cells #[.int .u8 4, .int .i64 (i : Int), .int .i64 0, .int .i64 0, .int .i64 0, .int .u8 0, .int .i64 0, .int .i64 0, .bool false, .bool false, .int .u8 0, .int .i64 0, .int .i64 0, .int .i64 0, .int .i64 0, .int .u8 0] 48)).alloc (.cells #[.int .u8 0, .int .i64 0, .int .i64 0, .int .i64 0, .int .i64 0, .int .i64 0, .bool false, .slice none 0 0, .int .i64 0, .int .i64 0, .int .i64 0, .int .i64 0, .int .i64 0] 32)).alloc (.cells #[.int .u8 0, .int .i64 0, .int .i64 0, .int .i64 0, .int .i64 0, .int .i64 0, .bool false, .slice none 0 0, .int .i64 0, .int .i64 0, .int .i64 0, .int .i64 0, .int .i64 0] 32)) (w.heap.size + 1 + 1 + 1) ((b.a i).arr (b.v i)) 32 = W1 := ⟨_, rfl⟩
  have f0 : W1.heap[w.heap.size]? = some (.cells b.arr 35 (0, 0)) := by rw [← hW1]; exact boxed_old (by omega) (alloc_old (by first | (simp; done) | (simp; omega)) (alloc_old (by first | (simp; done) | (simp; omega)) (alloc_old (by first | (simp; done) | (simp; omega)) (alloc_at rfl))))
  have f1 : W1.heap[w.heap.size + 1]? = some (.cells #[.int .u8 4, .int .i64 (i : Int), .int .i64 0, .int .i64 0, .int .i64 0, .int .u8 0, .int .i64 0, .int .i64 0, .bool false, .bool false, .int .u8 0, .int .i64 0, .int .i64 0, .int .i64 0, .int .i64 0, .int .u8 0] 48 (0, 0)) := by rw [← hW1]; exact boxed_old (by omega) (alloc_old (by first | (simp; done) | (simp; omega)) (alloc_old (by first | (simp; done) | (simp; omega)) (alloc_at (by simp))))
  have f2 : W1.heap[w.heap.size + 1 + 1]? = some (.cells #[.int .u8 0, .int .i64 0, .int .i64 0, .int .i64 0, .int .i64 0, .int .i64 0, .bool false, .slice none 0 0, .int .i64 0, .int .i64 0, .int .i64 0, .int .i64 0, .int .i64 0] 32 (0, 0)) := by rw [← hW1]; exact boxed_old (by omega) (alloc_old (by first | (simp; done) | (simp; omega)) (alloc_at (by simp)))
  have f3 : W1.heap[w.heap.size + 1 + 1 + 1]? = some (.cells ((b.a i).arr (b.v i)) 32 (0, 0)) := by rw [← hW1]; exact boxed_at (by first | (simp; done) | (simp; omega))
  have hV : Below w.heap.size w W1 := by rw [← hW1]; exact boxed_below (((((Below.refl _ w).alloc (by first | exact Nat.le_refl _ | (simp; done) | (simp; omega)) _).alloc (by first | exact Nat.le_refl _ | (simp; done) | (simp; omega)) _).alloc (by first | exact Nat.le_refl _ | (simp; done) | (simp; omega)) _).alloc (by first | exact Nat.le_refl _ | (simp; done) | (simp; omega)) _) (by omega)
  rw [hW1]
  clear hW1
  have hst0 : W1.cell? ⟨w.heap.size + 1 + 1 + 1, 0, none⟩ = some (.int .u8 (b.a i).st) := by rw [cell_of_row _ _ _ _ _ _ f3]; rfl
  have hz2 : w.heap.size + 1 + 1 + 1 < W1.heap.size := (Array.getElem?_eq_some_iff.1 f3).1
  have dst : ((b.a i).st == 0) = false := by simpa using hst
  have hk0 : W1.cell? ⟨w.heap.size + 1, 0, none⟩ = some (.int .u8 4) := by rw [cell_of_row _ _ _ _ _ _ f1]; rfl
  go_wp2_with (((with_reducible_and_instances (show wpList _ _ _ (Oper.mk _ (Op.load 32 _) _ _ _ _ :: _) _ _)); refine stop_here ?_))
  refine ⟨?_⟩
  refine wl_load (cs := (b.a i).arr (b.v i)) (fr := (0, 0)) (g := w.heap.size + 1 + 1 + 1) Tryz.underlying32 rfl info13 rfl rfl rfl f3 rfl ?_
  go_wp2_with fail
  refine (HA.out W1 hV).mono ?_
  rintro e W2 ⟨a', va', rfl, hone', hx', hb⟩
  have z2 : W2.heap[w.heap.size + 1 + 1]? = some (.cells #[.int .u8 0, .int .i64 0, .int .i64 0, .int .i64 0, .int .i64 0, .int .i64 0, .bool false, .slice none 0 0, .int .i64 0, .int .i64 0, .int .i64 0, .int .i64 0, .int .i64 0] 32 (0, 0)) := below_block hb f2
  have hV2 : Below w.heap.size w W2 := hV.trans (hb.mono hV.size)
  have hzz : w.heap.size + 1 + 1 < W2.heap.size := (Array.getElem?_eq_some_iff.1 z2).1
  have HX := Lib.hid hx'
  clear hx'
  go_wp2_with (((with_reducible_and_instances (show wpList _ _ _ (Oper.mk _ (Op.store 32 _ _) _ _ _ _ :: _) _ _)); refine stop_here ?_))
  refine ⟨?_⟩
  refine wl_store (g := w.heap.size + 1 + 1) info13 rfl rfl rfl rfl z2 rfl rfl (Av.arr_one hone') ?_
  go_wp2_with fail
  refine bodyPost_ret (results_row_tmp rfl _ _ (w.heap.size + 1 + 1) 32 _ (0, 0) _ rfl (boxed_at hzz) Tryz.underlying32 rfl (by exact info13)) rfl ?_
  exact ⟨a', va', rfl, hone', fun h => ⟨(HX.out h).1, ((HX.out h).2.boxed (.inl (by omega))).more (by omega) (by simp)⟩, boxed_below hV2 (by omega)⟩
set_option maxHeartbeats 4000000 in
theorem ordered_resume {w : World} {b : Kb} {i : Nat} {x : Int} {A' : Av} (hi : i < 32) (hone : b.One) (hst : (b.a i).st ≠ 0) (HA : Hid (∀ W, Below w.heap.size w W → Calls Tryz.prog 62 #[.agg ((b.a i).arr (b.v i))] W (Ansk x A' W))) :
    Calls Tryz.prog 31 #[.agg b.arr, .agg #[.int .u8 5, .int .i64 (i : Int), .int .i64 0, .int .i64 0, .int .i64 0, .int .u8 0, .int .i64 0, .int .i64 0, .bool false, .bool false, .int .u8 0, .int .i64 0, .int .i64 0, .int .i64 0, .int .i64 0, .int .u8 0]] w (Ansk x A' w) := by
  go_enter Tryz.func31, Tryz.ntmps31
  have hiI : (i : Int) < 32 := by omega
  have hiJ : (0 : Int) ≤ (i : Int) := by omega
  go_wp2_with (((with_reducible_and_instances (show wpList _ _ _ (Oper.mk _ (Op.load 32 _) _ _ _ _ :: _) _ _)); refine stop_here ?_))
  refine ⟨?_⟩
  refine wpList_load_mid rfl _ _ rfl w.heap.size (2 + i * 13) rfl ((b.a i).arr (b.v i)).toList _ (Kb.range (alloc_old (by first | (simp; done) | (simp; omega)) (alloc_old (by first | (simp; done) | (simp; omega)) (alloc_at rfl))) hi) Tryz.underlying32 rfl info13 ?_
  rw [Array.toArray_toList]
  go_wp2_with (((with_reducible_and_instances (show wpList _ _ _ (Oper.mk _ (Op.store 32 _ _) _ _ _ _ :: _) _ _)); refine stop_here ?_))
  refine ⟨?_⟩
  refine wl_store (g := w.heap.size + 1 + 1 + 1) info13 rfl rfl rfl rfl (alloc_at (by first | (simp; done) | (simp; omega))) rfl rfl (Av.arr_one (hone.2 i hi)) ?_
  obtain ⟨W1, hW1⟩ : ∃ W1, boxed ((((w.alloc (.cells b.arr 35)).alloc (.cells #[.int .u8 5, .int .i64 (i : Int), .int .i64 0, .int .i64 0, .int .i64 0, .int .u8 0, .int .i64 0, .int .i64 0, .bool false, .bool false, .int .u8 0, .int .i64 0, .int .i64 0, .int .i64 0, .int .i64 0, .int .u8 0] 48)).alloc (.cells #[.int .u8 0, .int .i64 0, .int .i64 0, .int .i64 0, .int .i64 0, .int .i64 0, .bool false, .slice none 0 0, .int .i64 0, .int .i64 0, .int .i64 0, .int .i64 0, .int .i64 0] 32)).alloc (.cells #[.int .u8 0, .int .i64 0, .int .i64 0, .int .i64 0, .int .i64 0, .int .i64 0, .bool false, .slice none 0 0, .int .i64 0, .int .i64 0, .int .i64 0, .int .i64 0, .int .i64 0] 32)) (w.heap.size + 1 + 1 + 1) ((b.a i).arr (b.v i)) 32 = W1 := ⟨_, rfl⟩
  have f0 : W1.heap[w.heap.size]? = some (.cells b.arr 35 (0, 0)) := by rw [← hW1]; exact boxed_old (by omega) (alloc_old (by first | (simp; done) | (simp; omega)) (alloc_old (by first | (simp; done) | (simp; omega)) (alloc_old (by first | (simp; done) | (simp; omega)) (alloc_at rfl))))
  have f1 : W1.heap[w.heap.size + 1]? = some (.cells #[.int .u8 5, .int .i64 (i : Int), .int .i64 0, .int .i64 0, .int .i64 0, .int .u8 0, .int .i64 0, .int .i64 0, .bool false, .bool false, .int .u8 0, .int .i64 0, .int .i64 0, .int .i64 0, .int .i64 0, .int .u8 0] 48 (0, 0)) := by rw [← hW1]; exact boxed_old (by omega) (alloc_old (by first | (simp; done) | (simp; omega)) (alloc_old (by first | (simp; done) | (simp; omega)) (alloc_at (by simp))))
  have f2 : W1.heap[w.heap.size + 1 + 1]? = some (.cells #[.int .u8 0, .int .i64 0, .int .i64 0, .int .i64 0, .int .i64 0, .int .i64 0, .bool false, .slice none 0 0, .int .i64 0, .int .i64 0, .int .i64 0, .int .i64 0, .int .i64 0] 32 (0, 0)) := by rw [← hW1]; exact boxed_old (by omega) (alloc_old (by first | (simp; done) | (simp; omega)) (alloc_at (by simp)))
  have f3 : W1.heap[w.heap.size + 1 + 1 + 1]? = some (.cells ((b.a i).arr (b.v i)) 32 (0, 0)) := by rw [← hW1]; exact boxed_at (by first | (simp; done) | (simp; omega))
  have hV : Below w.heap.size w W1 := by rw [← hW1]; exact boxed_below (((((Below.refl _ w).alloc (by first | exact Nat.le_refl _ | (simp; done) | (simp; omega)) _).alloc (by first | exact Nat.le_refl _ | (simp; done) | (simp; omega)) _).alloc (by first | exact Nat.le_refl _ | (simp; done) | (simp; omega)) _).alloc (by first | exact Nat.le_refl _ | (simp; done) | (simp; omega)) _) (by omega)
  rw [hW1]
  clear hW1
  have hst0 : W1.cell? ⟨w.heap.size + 1 + 1 + 1, 0, none⟩ = some (.int .u8 (b.a i).st) := by rw [cell_of_row _ _ _ _ _ _ f3]; rfl
  have hz2 : w.heap.size + 1 + 1 + 1 < W1.heap.size := (Array.getElem?_eq_some_iff.1 f3).1
  have dst : ((b.a i).st == 0) = false := by simpa using hst
  have hk0 : W1.cell? ⟨w.heap.size + 1, 0, none⟩ = some (.int .u8 5) := by rw [cell_of_row _ _ _ _ _ _ f1]; rfl
  go_wp2_with (((with_reducible_and_instances (show wpList _ _ _ (Oper.mk _ (Op.load 32 _) _ _ _ _ :: _) _ _)); refine stop_here ?_))
  refine ⟨?_⟩
  refine wl_load (cs := (b.a i).arr (b.v i)) (fr := (0, 0)) (g := w.heap.size + 1 + 1 + 1) Tryz.underlying32 rfl info13 rfl rfl rfl f3 rfl ?_
  go_wp2_with fail
  refine (HA.out W1 hV).mono ?_
  rintro e W2 ⟨a', va', rfl, hone', hx', hb⟩
  have z2 : W2.heap[w.heap.size + 1 + 1]? = some (.cells #[.int .u8 0, .int .i64 0, .int .i64 0, .int .i64 0, .int .i64 0, .int .i64 0, .bool false, .slice none 0 0, .int .i64 0, .int .i64 0, .int .i64 0, .int .i64 0, .int .i64 0] 32 (0, 0)) := below_block hb f2
  have hV2 : Below w.heap.size w W2 := hV.trans (hb.mono hV.size)
  have hzz : w.heap.size + 1 + 1 < W2.heap.size := (Array.getElem?_eq_some_iff.1 z2).1
  have HX := Lib.hid hx'
  clear hx'
  go_wp2_with (((with_reducible_and_instances (show wpList _ _ _ (Oper.mk _ (Op.store 32 _ _) _ _ _ _ :: _) _ _)); refine stop_here ?_))
  refine ⟨?_⟩
  refine wl_store (g := w.heap.size + 1 + 1) info13 rfl rfl rfl rfl z2 rfl rfl (Av.arr_one hone') ?_
  go_wp2_with fail
  refine bodyPost_ret (results_row_tmp rfl _ _ (w.heap.size + 1 + 1) 32 _ (0, 0) _ rfl (boxed_at hzz) Tryz.underlying32 rfl (by exact info13)) rfl ?_
  exact ⟨a', va', rfl, hone', fun h => ⟨(HX.out h).1, ((HX.out h).2.boxed (.inl (by omega))).more (by omega) (by simp)⟩, boxed_below hV2 (by omega)⟩
set_option maxHeartbeats 4000000 in
theorem ordered_skip {w : World} {b : Kb} {i : Nat} {x : Int} {A' : Av} (hi : i < 32) (hone : b.One) (hst : (b.a i).st ≠ 0) (HA : Hid (∀ W, Below w.heap.size w W → Calls Tryz.prog 63 #[.agg ((b.a i).arr (b.v i))] W (Ansk x A' W))) :
    Calls Tryz.prog 31 #[.agg b.arr, .agg #[.int .u8 6, .int .i64 (i : Int), .int .i64 0, .int .i64 0, .int .i64 0, .int .u8 0, .int .i64 0, .int .i64 0, .bool false, .bool false, .int .u8 0, .int .i64 0, .int .i64 0, .int .i64 0, .int .i64 0, .int .u8 0]] w (Ansk x A' w) := by
  go_enter Tryz.func31, Tryz.ntmps31
  have hiI : (i : Int) < 32 := by omega
  have hiJ : (0 : Int) ≤ (i : Int) := by omega
  go_wp2_with (((with_reducible_and_instances (show wpList _ _ _ (Oper.mk _ (Op.load 32 _) _ _ _ _ :: _) _ _)); refine stop_here ?_))
  refine ⟨?_⟩
  refine wpList_load_mid rfl _ _ rfl w.heap.size (2 + i * 13) rfl ((b.a i).arr (b.v i)).toList _ (Kb.range (alloc_old (by first | (simp; done) | (simp; omega)) (alloc_old (by first | (simp; done) | (simp; omega)) (alloc_at rfl))) hi) Tryz.underlying32 rfl info13 ?_
  rw [Array.toArray_toList]
  go_wp2_with (((with_reducible_and_instances (show wpList _ _ _ (Oper.mk _ (Op.store 32 _ _) _ _ _ _ :: _) _ _)); refine stop_here ?_))
  refine ⟨?_⟩
  refine wl_store (g := w.heap.size + 1 + 1 + 1) info13 rfl rfl rfl rfl (alloc_at (by first | (simp; done) | (simp; omega))) rfl rfl (Av.arr_one (hone.2 i hi)) ?_
  obtain ⟨W1, hW1⟩ : ∃ W1, boxed ((((w.alloc (.cells b.arr 35)).alloc (.cells #[.int .u8 6, .int .i64 (i : Int), .int .i64 0, .int .i64 0, .int .i64 0, .int .u8 0, .int .i64 0, .int .i64 0, .bool false, .bool false, .int .u8 0, .int .i64 0, .int .i64 0, .int .i64 0, .int .i64 0, .int .u8 0] 48)).alloc (.cells #[.int .u8 0, .int .i64 0, .int .i64 0, .int .i64 0, .int .i64 0, .int .i64 0, .bool false, .slice none 0 0, .int .i64 0, .int .i64 0, .int .i64 0, .int .i64 0, .int .i64 0] 32)).alloc (.cells #[.int .u8 0, .int .i64 0, .int .i64 0, .int .i64 0, .int .i64 0, .int .i64 0, .bool false, .slice none 0 0, .int .i64 0, .int .i64 0, .int .i64 0, .int .i64 0, .int .i64 0] 32)) (w.heap.size + 1 + 1 + 1) ((b.a i).arr (b.v i)) 32 = W1 := ⟨_, rfl⟩
  have f0 : W1.heap[w.heap.size]? = some (.cells b.arr 35 (0, 0)) := by rw [← hW1]; exact boxed_old (by omega) (alloc_old (by first | (simp; done) | (simp; omega)) (alloc_old (by first | (simp; done) | (simp; omega)) (alloc_old (by first | (simp; done) | (simp; omega)) (alloc_at rfl))))
  have f1 : W1.heap[w.heap.size + 1]? = some (.cells #[.int .u8 6, .int .i64 (i : Int), .int .i64 0, .int .i64 0, .int .i64 0, .int .u8 0, .int .i64 0, .int .i64 0, .bool false, .bool false, .int .u8 0, .int .i64 0, .int .i64 0, .int .i64 0, .int .i64 0, .int .u8 0] 48 (0, 0)) := by rw [← hW1]; exact boxed_old (by omega) (alloc_old (by first | (simp; done) | (simp; omega)) (alloc_old (by first | (simp; done) | (simp; omega)) (alloc_at (by simp))))
  have f2 : W1.heap[w.heap.size + 1 + 1]? = some (.cells #[.int .u8 0, .int .i64 0, .int .i64 0, .int .i64 0, .int .i64 0, .int .i64 0, .bool false, .slice none 0 0, .int .i64 0, .int .i64 0, .int .i64 0, .int .i64 0, .int .i64 0] 32 (0, 0)) := by rw [← hW1]; exact boxed_old (by omega) (alloc_old (by first | (simp; done) | (simp; omega)) (alloc_at (by simp)))
  have f3 : W1.heap[w.heap.size + 1 + 1 + 1]? = some (.cells ((b.a i).arr (b.v i)) 32 (0, 0)) := by rw [← hW1]; exact boxed_at (by first | (simp; done) | (simp; omega))
  have hV : Below w.heap.size w W1 := by rw [← hW1]; exact boxed_below (((((Below.refl _ w).alloc (by first | exact Nat.le_refl _ | (simp; done) | (simp; omega)) _).alloc (by first | exact Nat.le_refl _ | (simp; done) | (simp; omega)) _).alloc (by first | exact Nat.le_refl _ | (simp; done) | (simp; omega)) _).alloc (by first | exact Nat.le_refl _ | (simp; done) | (simp; omega)) _) (by omega)
  rw [hW1]
  clear hW1
  have hst0 : W1.cell? ⟨w.heap.size + 1 + 1 + 1, 0, none⟩ = some (.int .u8 (b.a i).st) := by rw [cell_of_row _ _ _ _ _ _ f3]; rfl
  have hz2 : w.heap.size + 1 + 1 + 1 < W1.heap.size := (Array.getElem?_eq_some_iff.1 f3).1
  have dst : ((b.a i).st == 0) = false := by simpa using hst
  have hk0 : W1.cell? ⟨w.heap.size + 1, 0, none⟩ = some (.int .u8 6) := by rw [cell_of_row _ _ _ _ _ _ f1]; rfl
  go_wp2_with (((with_reducible_and_instances (show wpList _ _ _ (Oper.mk _ (Op.load 32 _) _ _ _ _ :: _) _ _)); refine stop_here ?_))
  refine ⟨?_⟩
  refine wl_load (cs := (b.a i).arr (b.v i)) (fr := (0, 0)) (g := w.heap.size + 1 + 1 + 1) Tryz.underlying32 rfl info13 rfl rfl rfl f3 rfl ?_
  go_wp2_with fail
  refine (HA.out W1 hV).mono ?_
  rintro e W2 ⟨a', va', rfl, hone', hx', hb⟩
  have z2 : W2.heap[w.heap.size + 1 + 1]? = some (.cells #[.int .u8 0, .int .i64 0, .int .i64 0, .int .i64 0, .int .i64 0, .int .i64 0, .bool false, .slice none 0 0, .int .i64 0, .int .i64 0, .int .i64 0, .int .i64 0, .int .i64 0] 32 (0, 0)) := below_block hb f2
  have hV2 : Below w.heap.size w W2 := hV.trans (hb.mono hV.size)
  have hzz : w.heap.size + 1 + 1 < W2.heap.size := (Array.getElem?_eq_some_iff.1 z2).1
  have HX := Lib.hid hx'
  clear hx'
  go_wp2_with (((with_reducible_and_instances (show wpList _ _ _ (Oper.mk _ (Op.store 32 _ _) _ _ _ _ :: _) _ _)); refine stop_here ?_))
  refine ⟨?_⟩
  refine wl_store (g := w.heap.size + 1 + 1) info13 rfl rfl rfl rfl z2 rfl rfl (Av.arr_one hone') ?_
  go_wp2_with fail
  refine bodyPost_ret (results_row_tmp rfl _ _ (w.heap.size + 1 + 1) 32 _ (0, 0) _ rfl (boxed_at hzz) Tryz.underlying32 rfl (by exact info13)) rfl ?_
  exact ⟨a', va', rfl, hone', fun h => ⟨(HX.out h).1, ((HX.out h).2.boxed (.inl (by omega))).more (by omega) (by simp)⟩, boxed_below hV2 (by omega)⟩
set_option maxHeartbeats 4000000 in
theorem ordered_cancel {w : World} {b : Kb} {i : Nat} {x : Int} {A' : Av} (hi : i < 32) (hone : b.One) (hst : (b.a i).st ≠ 0) (HA : Hid (∀ W, Below w.heap.size w W → Calls Tryz.prog 64 #[.agg ((b.a i).arr (b.v i))] W (Ansk x A' W))) :
    Calls Tryz.prog 31 #[.agg b.arr, .agg #[.int .u8 7, .int .i64 (i : Int), .int .i64 0, .int .i64 0, .int .i64 0, .int .u8 0, .int .i64 0, .int .i64 0, .bool false, .bool false, .int .u8 0, .int .i64 0, .int .i64 0, .int .i64 0, .int .i64 0, .int .u8 0]] w (Ansk x A' w) := by
  go_enter Tryz.func31, Tryz.ntmps31
  have hiI : (i : Int) < 32 := by omega
  have hiJ : (0 : Int) ≤ (i : Int) := by omega
  go_wp2_with (((with_reducible_and_instances (show wpList _ _ _ (Oper.mk _ (Op.load 32 _) _ _ _ _ :: _) _ _)); refine stop_here ?_))
  refine ⟨?_⟩
  refine wpList_load_mid rfl _ _ rfl w.heap.size (2 + i * 13) rfl ((b.a i).arr (b.v i)).toList _ (Kb.range (alloc_old (by first | (simp; done) | (simp; omega)) (alloc_old (by first | (simp; done) | (simp; omega)) (alloc_at rfl))) hi) Tryz.underlying32 rfl info13 ?_
  rw [Array.toArray_toList]
  go_wp2_with (((with_reducible_and_instances (show wpList _ _ _ (Oper.mk _ (Op.store 32 _ _) _ _ _ _ :: _) _ _)); refine stop_here ?_))
  refine ⟨?_⟩
  refine wl_store (g := w.heap.size + 1 + 1 + 1) info13 rfl rfl rfl rfl (alloc_at (by first | (simp; done) | (simp; omega))) rfl rfl (Av.arr_one (hone.2 i hi)) ?_
  obtain ⟨W1, hW1⟩ : ∃ W1, boxed ((((w.alloc (.cells b.arr 35)).alloc (.cells #[.int .u8 7, .int .i64 (i : Int), .int .i64 0, .int .i64 0, .int .i64 0, .int .u8 0, .int .i64 0, .int .i64 0, .bool false, .bool false, .int .u8 0, .int .i64 0, .int .i64 0, .int .i64 0, .int .i64 0, .int .u8 0] 48)).alloc (.cells #[.int .u8 0, .int .i64 0, .int .i64 0, .int .i64 0, .int .i64 0, .int .i64 0, .bool false, .slice none 0 0, .int .i64 0, .int .i64 0, .int .i64 0, .int .i64 0, .int .i64 0] 32)).alloc (.cells #[.int .u8 0, .int .i64 0, .int .i64 0, .int .i64 0, .int .i64 0, .int .i64 0, .bool false, .slice none 0 0, .int .i64 0, .int .i64 0, .int .i64 0, .int .i64 0, .int .i64 0] 32)) (w.heap.size + 1 + 1 + 1) ((b.a i).arr (b.v i)) 32 = W1 := ⟨_, rfl⟩
  have f0 : W1.heap[w.heap.size]? = some (.cells b.arr 35 (0, 0)) := by rw [← hW1]; exact boxed_old (by omega) (alloc_old (by first | (simp; done) | (simp; omega)) (alloc_old (by first | (simp; done) | (simp; omega)) (alloc_old (by first | (simp; done) | (simp; omega)) (alloc_at rfl))))
  have f1 : W1.heap[w.heap.size + 1]? = some (.cells #[.int .u8 7, .int .i64 (i : Int), .int .i64 0, .int .i64 0, .int .i64 0, .int .u8 0, .int .i64 0, .int .i64 0, .bool false, .bool false, .int .u8 0, .int .i64 0, .int .i64 0, .int .i64 0, .int .i64 0, .int .u8 0] 48 (0, 0)) := by rw [← hW1]; exact boxed_old (by omega) (alloc_old (by first | (simp; done) | (simp; omega)) (alloc_old (by first | (simp; done) | (simp; omega)) (alloc_at (by simp))))
  have f2 : W1.heap[w.heap.size + 1 + 1]? = some (.cells #[.int .u8 0, .int .i64 0, .int .i64 0, .int .i64 0, .int .i64 0, .int .i64 0, .bool false, .slice none 0 0, .int .i64 0, .int .i64 0, .int .i64 0, .int .i64 0, .int .i64 0] 32 (0, 0)) := by rw [← hW1]; exact boxed_old (by omega) (alloc_old (by first | (simp; done) | (simp; omega)) (alloc_at (by simp)))
  have f3 : W1.heap[w.heap.size + 1 + 1 + 1]? = some (.cells ((b.a i).arr (b.v i)) 32 (0, 0)) := by rw [← hW1]; exact boxed_at (by first | (simp; done) | (simp; omega))
  have hV : Below w.heap.size w W1 := by rw [← hW1]; exact boxed_below (((((Below.refl _ w).alloc (by first | exact Nat.le_refl _ | (simp; done) | (simp; omega)) _).alloc (by first | exact Nat.le_refl _ | (simp; done) | (simp; omega)) _).alloc (by first | exact Nat.le_refl _ | (simp; done) | (simp; omega)) _).alloc (by first | exact Nat.le_refl _ | (simp; done) | (simp; omega)) _) (by omega)
  rw [hW1]
  clear hW1
  have hst0 : W1.cell? ⟨w.heap.size + 1 + 1 + 1, 0, none⟩ = some (.int .u8 (b.a i).st) := by rw [cell_of_row _ _ _ _ _ _ f3]; rfl
  have hz2 : w.heap.size + 1 + 1 + 1 < W1.heap.size := (Array.getElem?_eq_some_iff.1 f3).1
  have dst : ((b.a i).st == 0) = false := by simpa using hst
  have hk0 : W1.cell? ⟨w.heap.size + 1, 0, none⟩ = some (.int .u8 7) := by rw [cell_of_row _ _ _ _ _ _ f1]; rfl
  go_wp2_with (((with_reducible_and_instances (show wpList _ _ _ (Oper.mk _ (Op.load 32 _) _ _ _ _ :: _) _ _)); refine stop_here ?_))
  refine ⟨?_⟩
  refine wl_load (cs := (b.a i).arr (b.v i)) (fr := (0, 0)) (g := w.heap.size + 1 + 1 + 1) Tryz.underlying32 rfl info13 rfl rfl rfl f3 rfl ?_
  go_wp2_with fail
  refine (HA.out W1 hV).mono ?_
  rintro e W2 ⟨a', va', rfl, hone', hx', hb⟩
  have z2 : W2.heap[w.heap.size + 1 + 1]? = some (.cells #[.int .u8 0, .int .i64 0, .int .i64 0, .int .i64 0, .int .i64 0, .int .i64 0, .bool false, .slice none 0 0, .int .i64 0, .int .i64 0, .int .i64 0, .int .i64 0, .int .i64 0] 32 (0, 0)) := below_block hb f2
  have hV2 : Below w.heap.size w W2 := hV.trans (hb.mono hV.size)
  have hzz : w.heap.size + 1 + 1 < W2.heap.size := (Array.getElem?_eq_some_iff.1 z2).1
  have HX := Lib.hid hx'
  clear hx'
  go_wp2_with (((with_reducible_and_instances (show wpList _ _ _ (Oper.mk _ (Op.store 32 _ _) _ _ _ _ :: _) _ _)); refine stop_here ?_))
  refine ⟨?_⟩
  refine wl_store (g := w.heap.size + 1 + 1) info13 rfl rfl rfl rfl z2 rfl rfl (Av.arr_one hone') ?_
  go_wp2_with fail
  refine bodyPost_ret (results_row_tmp rfl _ _ (w.heap.size + 1 + 1) 32 _ (0, 0) _ rfl (boxed_at hzz) Tryz.underlying32 rfl (by exact info13)) rfl ?_
  exact ⟨a', va', rfl, hone', fun h => ⟨(HX.out h).1, ((HX.out h).2.boxed (.inl (by omega))).more (by omega) (by simp)⟩, boxed_below hV2 (by omega)⟩
set_option maxHeartbeats 4000000 in
theorem ordered_card {w : World} {b : Kb} {i : Nat} {x : Int} {A' : Av} (hi : i < 32) (hone : b.One) (hst : (b.a i).st ≠ 0) (HA : Hid (∀ W, Below w.heap.size w W → Calls Tryz.prog 65 #[.agg ((b.a i).arr (b.v i))] W (Ansk x A' W))) :
    Calls Tryz.prog 31 #[.agg b.arr, .agg #[.int .u8 8, .int .i64 (i : Int), .int .i64 0, .int .i64 0, .int .i64 0, .int .u8 0, .int .i64 0, .int .i64 0, .bool false, .bool false, .int .u8 0, .int .i64 0, .int .i64 0, .int .i64 0, .int .i64 0, .int .u8 0]] w (Ansk x A' w) := by
  go_enter Tryz.func31, Tryz.ntmps31
  have hiI : (i : Int) < 32 := by omega
  have hiJ : (0 : Int) ≤ (i : Int) := by omega
  go_wp2_with (((with_reducible_and_instances (show wpList _ _ _ (Oper.mk _ (Op.load 32 _) _ _ _ _ :: _) _ _)); refine stop_here ?_))
  refine ⟨?_⟩
  refine wpList_load_mid rfl _ _ rfl w.heap.size (2 + i * 13) rfl ((b.a i).arr (b.v i)).toList _ (Kb.range (alloc_old (by first | (simp; done) | (simp; omega)) (alloc_old (by first | (simp; done) | (simp; omega)) (alloc_at rfl))) hi) Tryz.underlying32 rfl info13 ?_
  rw [Array.toArray_toList]
  go_wp2_with (((with_reducible_and_instances (show wpList _ _ _ (Oper.mk _ (Op.store 32 _ _) _ _ _ _ :: _) _ _)); refine stop_here ?_))
  refine ⟨?_⟩
  refine wl_store (g := w.heap.size + 1 + 1 + 1) info13 rfl rfl rfl rfl (alloc_at (by first | (simp; done) | (simp; omega))) rfl rfl (Av.arr_one (hone.2 i hi)) ?_
  obtain ⟨W1, hW1⟩ : ∃ W1, boxed ((((w.alloc (.cells b.arr 35)).alloc (.cells #[.int .u8 8, .int .i64 (i : Int), .int .i64 0, .int .i64 0, .int .i64 0, .int .u8 0, .int .i64 0, .int .i64 0, .bool false, .bool false, .int .u8 0, .int .i64 0, .int .i64 0, .int .i64 0, .int .i64 0, .int .u8 0] 48)).alloc (.cells #[.int .u8 0, .int .i64 0, .int .i64 0, .int .i64 0, .int .i64 0, .int .i64 0, .bool false, .slice none 0 0, .int .i64 0, .int .i64 0, .int .i64 0, .int .i64 0, .int .i64 0] 32)).alloc (.cells #[.int .u8 0, .int .i64 0, .int .i64 0, .int .i64 0, .int .i64 0, .int .i64 0, .bool false, .slice none 0 0, .int .i64 0, .int .i64 0, .int .i64 0, .int .i64 0, .int .i64 0] 32)) (w.heap.size + 1 + 1 + 1) ((b.a i).arr (b.v i)) 32 = W1 := ⟨_, rfl⟩
  have f0 : W1.heap[w.heap.size]? = some (.cells b.arr 35 (0, 0)) := by rw [← hW1]; exact boxed_old (by omega) (alloc_old (by first | (simp; done) | (simp; omega)) (alloc_old (by first | (simp; done) | (simp; omega)) (alloc_old (by first | (simp; done) | (simp; omega)) (alloc_at rfl))))
  have f1 : W1.heap[w.heap.size + 1]? = some (.cells #[.int .u8 8, .int .i64 (i : Int), .int .i64 0, .int .i64 0, .int .i64 0, .int .u8 0, .int .i64 0, .int .i64 0, .bool false, .bool false, .int .u8 0, .int .i64 0, .int .i64 0, .int .i64 0, .int .i64 0, .int .u8 0] 48 (0, 0)) := by rw [← hW1]; exact boxed_old (by omega) (alloc_old (by first | (simp; done) | (simp; omega)) (alloc_old (by first | (simp; done) | (simp; omega)) (alloc_at (by simp))))
  have f2 : W1.heap[w.heap.size + 1 + 1]? = some (.cells #[.int .u8 0, .int .i64 0, .int .i64 0, .int .i64 0, .int .i64 0, .int .i64 0, .bool false, .slice none 0 0, .int .i64 0, .int .i64 0, .int .i64 0, .int .i64 0, .int .i64 0] 32 (0, 0)) := by rw [← hW1]; exact boxed_old (by omega) (alloc_old (by first | (simp; done) | (simp; omega)) (alloc_at (by simp)))
  have f3 : W1.heap[w.heap.size + 1 + 1 + 1]? = some (.cells ((b.a i).arr (b.v i)) 32 (0, 0)) := by rw [← hW1]; exact boxed_at (by first | (simp; done) | (simp; omega))
  have hV : Below w.heap.size w W1 := by rw [← hW1]; exact boxed_below (((((Below.refl _ w).alloc (by first | exact Nat.le_refl _ | (simp; done) | (simp; omega)) _).alloc (by first | exact Nat.le_refl _ | (simp; done) | (simp; omega)) _).alloc (by first | exact Nat.le_refl _ | (simp; done) | (simp; omega)) _).alloc (by first | exact Nat.le_refl _ | (simp; done) | (simp; omega)) _) (by omega)
  rw [hW1]
  clear hW1
  have hst0 : W1.cell? ⟨w.heap.size + 1 + 1 + 1, 0, none⟩ = some (.int .u8 (b.a i).st) := by rw [cell_of_row _ _ _ _ _ _ f3]; rfl
  have hz2 : w.heap.size + 1 + 1 + 1 < W1.heap.size := (Array.getElem?_eq_some_iff.1 f3).1
  have dst : ((b.a i).st == 0) = false := by simpa using hst
  have hk0 : W1.cell? ⟨w.heap.size + 1, 0, none⟩ = some (.int .u8 8) := by rw [cell_of_row _ _ _ _ _ _ f1]; rfl
  go_wp2_with (((with_reducible_and_instances (show wpList _ _ _ (Oper.mk _ (Op.load 32 _) _ _ _ _ :: _) _ _)); refine stop_here ?_))
  refine ⟨?_⟩
  refine wl_load (cs := (b.a i).arr (b.v i)) (fr := (0, 0)) (g := w.heap.size + 1 + 1 + 1) Tryz.underlying32 rfl info13 rfl rfl rfl f3 rfl ?_
  go_wp2_with fail
  refine (HA.out W1 hV).mono ?_
  rintro e W2 ⟨a', va', rfl, hone', hx', hb⟩
  have z2 : W2.heap[w.heap.size + 1 + 1]? = some (.cells #[.int .u8 0, .int .i64 0, .int .i64 0, .int .i64 0, .int .i64 0, .int .i64 0, .bool false, .slice none 0 0, .int .i64 0, .int .i64 0, .int .i64 0, .int .i64 0, .int .i64 0] 32 (0, 0)) := below_block hb f2
  have hV2 : Below w.heap.size w W2 := hV.trans (hb.mono hV.size)
  have hzz : w.heap.size + 1 + 1 < W2.heap.size := (Array.getElem?_eq_some_iff.1 z2).1
  have HX := Lib.hid hx'
  clear hx'
  go_wp2_with (((with_reducible_and_instances (show wpList _ _ _ (Oper.mk _ (Op.store 32 _ _) _ _ _ _ :: _) _ _)); refine stop_here ?_))
  refine ⟨?_⟩
  refine wl_store (g := w.heap.size + 1 + 1) info13 rfl rfl rfl rfl z2 rfl rfl (Av.arr_one hone') ?_
  go_wp2_with fail
  refine bodyPost_ret (results_row_tmp rfl _ _ (w.heap.size + 1 + 1) 32 _ (0, 0) _ rfl (boxed_at hzz) Tryz.underlying32 rfl (by exact info13)) rfl ?_
  exact ⟨a', va', rfl, hone', fun h => ⟨(HX.out h).1, ((HX.out h).2.boxed (.inl (by omega))).more (by omega) (by simp)⟩, boxed_below hV2 (by omega)⟩
set_option maxHeartbeats 4000000 in
theorem ordered_none {w : World} {b : Kb} {i : Nat} {A' : Av} (K P : Int) (hi : i < 32) (hone : b.One) (hst : (b.a i).st = 0) :
    Calls Tryz.prog 31 #[.agg b.arr, .agg #[.int .u8 K, .int .i64 (i : Int), .int .i64 P, .int .i64 0, .int .i64 0, .int .u8 0, .int .i64 0, .int .i64 0, .bool false, .bool false, .int .u8 0, .int .i64 0, .int .i64 0, .int .i64 0, .int .i64 0, .int .u8 0]] w (Ansk 2 A' w) := by
  go_enter Tryz.func31, Tryz.ntmps31
  have hiI : (i : Int) < 32 := by omega
  have hiJ : (0 : Int) ≤ (i : Int) := by omega
  go_wp2_with (((with_reducible_and_instances (show wpList _ _ _ (Oper.mk _ (Op.load 32 _) _ _ _ _ :: _) _ _)); refine stop_here ?_))
  refine ⟨?_⟩
  refine wpList_load_mid rfl _ _ rfl w.heap.size (2 + i * 13) rfl ((b.a i).arr (b.v i)).toList _ (Kb.range (alloc_old (by first | (simp; done) | (simp; omega)) (alloc_old (by first | (simp; done) | (simp; omega)) (alloc_at rfl))) hi) Tryz.underlying32 rfl info13 ?_
  rw [Array.toArray_toList]
  go_wp2_with (((with_reducible_and_instances (show wpList _ _ _ (Oper.mk _ (Op.store 32 _ _) _ _ _ _ :: _) _ _)); refine stop_here ?_))
  refine ⟨?_⟩
  refine wl_store (g := w.heap.size + 1 + 1 + 1) info13 rfl rfl rfl rfl (alloc_at (by first | (simp; done) | (simp; omega))) rfl rfl (Av.arr_one (hone.2 i hi)) ?_
  obtain ⟨W1, hW1⟩ : ∃ W1, boxed ((((w.alloc (.cells b.arr 35)).alloc (.cells #[.int .u8 K, .int .i64 (i : Int), .int .i64 P, .int .i64 0, .int .i64 0, .int .u8 0, .int .i64 0, .int .i64 0, .bool false, .bool false, .int .u8 0, .int .i64 0, .int .i64 0, .int .i64 0, .int .i64 0, .int .u8 0] 48)).alloc (.cells #[.int .u8 0, .int .i64 0, .int .i64 0, .int .i64 0, .int .i64 0, .int .i64 0, .bool false, .slice none 0 0, .int .i64 0, .int .i64 0, .int .i64 0, .int .i64 0, .int .i64 0] 32)).alloc (.cells #[.int .u8 0, .int .i64 0, .int .i64 0, .int .i64 0, .int .i64 0, .int .i64 0, .bool false, .slice none 0 0, .int .i64 0, .int .i64 0, .int .i64 0, .int .i64 0, .int .i64 0] 32)) (w.heap.size + 1 + 1 + 1) ((b.a i).arr (b.v i)) 32 = W1 := ⟨_, rfl⟩
  have f0 : W1.heap[w.heap.size]? = some (.cells b.arr 35 (0, 0)) := by rw [← hW1]; exact boxed_old (by omega) (alloc_old (by first | (simp; done) | (simp; omega)) (alloc_old (by first | (simp; done) | (simp; omega)) (alloc_old (by first | (simp; done) | (simp; omega)) (alloc_at rfl))))
  have f1 : W1.heap[w.heap.size + 1]? = some (.cells #[.int .u8 K, .int .i64 (i : Int), .int .i64 P, .int .i64 0, .int .i64 0, .int .u8 0, .int .i64 0, .int .i64 0, .bool false, .bool false, .int .u8 0, .int .i64 0, .int .i64 0, .int .i64 0, .int .i64 0, .int .u8 0] 48 (0, 0)) := by rw [← hW1]; exact boxed_old (by omega) (alloc_old (by first | (simp; done) | (simp; omega)) (alloc_old (by first | (simp; done) | (simp; omega)) (alloc_at (by simp))))
  have f2 : W1.heap[w.heap.size + 1 + 1]? = some (.cells #[.int .u8 0, .int .i64 0, .int .i64 0, .int .i64 0, .int .i64 0, .int .i64 0, .bool false, .slice none 0 0, .int .i64 0, .int .i64 0, .int .i64 0, .int .i64 0, .int .i64 0] 32 (0, 0)) := by rw [← hW1]; exact boxed_old (by omega) (alloc_old (by first | (simp; done) | (simp; omega)) (alloc_at (by simp)))
  have f3 : W1.heap[w.heap.size + 1 + 1 + 1]? = some (.cells ((b.a i).arr (b.v i)) 32 (0, 0)) := by rw [← hW1]; exact boxed_at (by first | (simp; done) | (simp; omega))
  have hV : Below w.heap.size w W1 := by rw [← hW1]; exact boxed_below (((((Below.refl _ w).alloc (by first | exact Nat.le_refl _ | (simp; done) | (simp; omega)) _).alloc (by first | exact Nat.le_refl _ | (simp; done) | (simp; omega)) _).alloc (by first | exact Nat.le_refl _ | (simp; done) | (simp; omega)) _).alloc (by first | exact Nat.le_refl _ | (simp; done) | (simp; omega)) _) (by omega)
  rw [hW1]
  clear hW1
  have hst0 : W1.cell? ⟨w.heap.size + 1 + 1 + 1, 0, none⟩ = some (.int .u8 (b.a i).st) := by rw [cell_of_row _ _ _ _ _ _ f3]; rfl
  have hz2 : w.heap.size + 1 + 1 + 1 < W1.heap.size := (Array.getElem?_eq_some_iff.1 f3).1
  have dst : ((b.a i).st == 0) = true := by simpa using hst
  go_wp2_with (((with_reducible_and_instances (show wpList _ _ _ (Oper.mk _ (Op.store 32 _ _) _ _ _ _ :: _) _ _)); refine stop_here ?_))
  refine ⟨?_⟩
  refine wl_store (g := w.heap.size + 1 + 1) info13 rfl rfl rfl rfl f2 rfl rfl (by simp [Value.oneCell']) ?_
  go_wp2_with fail
  refine bodyPost_ret (results_row_tmp rfl _ _ (w.heap.size + 1 + 1) 32 _ (0, 0) _ rfl (boxed_at (by omega)) Tryz.underlying32 rfl (by exact info13)) rfl ?_
  exact ⟨Av.zero, .slice none 0 0, rfl, rfl, fun h => absurd h (by decide), boxed_below hV (by omega)⟩
set_option maxHeartbeats 4000000 in
theorem ordered_change {w : World} {b : Kb} {i : Nat} {x : Int} {A' : Av} (n : Int) (hi : i < 32) (hone : b.One) (hst : (b.a i).st ≠ 0) (HA : Hid (∀ W, Below w.heap.size w W → Calls Tryz.prog 66 #[.agg b.arr, .agg ((b.a i).arr (b.v i)), .int .i64 n] W (Ansk x A' W))) :
    Calls Tryz.prog 31 #[.agg b.arr, .agg #[.int .u8 3, .int .i64 (i : Int), .int .i64 n, .int .i64 0, .int .i64 0, .int .u8 0, .int .i64 0, .int .i64 0, .bool false, .bool false, .int .u8 0, .int .i64 0, .int .i64 0, .int .i64 0, .int .i64 0, .int .u8 0]] w (Ansk x A' w) := by
  go_enter Tryz.func31, Tryz.ntmps31
  have hiI : (i : Int) < 32 := by omega
  have hiJ : (0 : Int) ≤ (i : Int) := by omega
  go_wp2_with (((with_reducible_and_instances (show wpList _ _ _ (Oper.mk _ (Op.load 32 _) _ _ _ _ :: _) _ _)); refine stop_here ?_))
  refine ⟨?_⟩
  refine wpList_load_mid rfl _ _ rfl w.heap.size (2 + i * 13) rfl ((b.a i).arr (b.v i)).toList _ (Kb.range (alloc_old (by first | (simp; done) | (simp; omega)) (alloc_old (by first | (simp; done) | (simp; omega)) (alloc_at rfl))) hi) Tryz.underlying32 rfl info13 ?_
  rw [Array.toArray_toList]
  go_wp2_with (((with_reducible_and_instances (show wpList _ _ _ (Oper.mk _ (Op.store 32 _ _) _ _ _ _ :: _) _ _)); refine stop_here ?_))
  refine ⟨?_⟩
  refine wl_store (g := w.heap.size + 1 + 1 + 1) info13 rfl rfl rfl rfl (alloc_at (by first | (simp; done) | (simp; omega))) rfl rfl (Av.arr_one (hone.2 i hi)) ?_
  obtain ⟨W1, hW1⟩ : ∃ W1, boxed ((((w.alloc (.cells b.arr 35)).alloc (.cells #[.int .u8 3, .int .i64 (i : Int), .int .i64 n, .int .i64 0, .int .i64 0, .int .u8 0, .int .i64 0, .int .i64 0, .bool false, .bool false, .int .u8 0, .int .i64 0, .int .i64 0, .int .i64 0, .int .i64 0, .int .u8 0] 48)).alloc (.cells #[.int .u8 0, .int .i64 0, .int .i64 0, .int .i64 0, .int .i64 0, .int .i64 0, .bool false, .slice none 0 0, .int .i64 0, .int .i64 0, .int .i64 0, .int .i64 0, .int .i64 0] 32)).alloc (.cells #[.int .u8 0, .int .i64 0, .int .i64 0, .int .i64 0, .int .i64 0, .int .i64 0, .bool false, .slice none 0 0, .int .i64 0, .int .i64 0, .int .i64 0, .int .i64 0, .int .i64 0] 32)) (w.heap.size + 1 + 1 + 1) ((b.a i).arr (b.v i)) 32 = W1 := ⟨_, rfl⟩
  have f0 : W1.heap[w.heap.size]? = some (.cells b.arr 35 (0, 0)) := by rw [← hW1]; exact boxed_old (by omega) (alloc_old (by first | (simp; done) | (simp; omega)) (alloc_old (by first | (simp; done) | (simp; omega)) (alloc_old (by first | (simp; done) | (simp; omega)) (alloc_at rfl))))
  have f1 : W1.heap[w.heap.size + 1]? = some (.cells #[.int .u8 3, .int .i64 (i : Int), .int .i64 n, .int .i64 0, .int .i64 0, .int .u8 0, .int .i64 0, .int .i64 0, .bool false, .bool false, .int .u8 0, .int .i64 0, .int .i64 0, .int .i64 0, .int .i64 0, .int .u8 0] 48 (0, 0)) := by rw [← hW1]; exact boxed_old (by omega) (alloc_old (by first | (simp; done) | (simp; omega)) (alloc_old (by first | (simp; done) | (simp; omega)) (alloc_at (by simp))))
  have f2 : W1.heap[w.heap.size + 1 + 1]? = some (.cells #[.int .u8 0, .int .i64 0, .int .i64 0, .int .i64 0, .int .i64 0, .int .i64 0, .bool false, .slice none 0 0, .int .i64 0, .int .i64 0, .int .i64 0, .int .i64 0, .int .i64 0] 32 (0, 0)) := by rw [← hW1]; exact boxed_old (by omega) (alloc_old (by first | (simp; done) | (simp; omega)) (alloc_at (by simp)))
  have f3 : W1.heap[w.heap.size + 1 + 1 + 1]? = some (.cells ((b.a i).arr (b.v i)) 32 (0, 0)) := by rw [← hW1]; exact boxed_at (by first | (simp; done) | (simp; omega))
  have hV : Below w.heap.size w W1 := by rw [← hW1]; exact boxed_below (((((Below.refl _ w).alloc (by first | exact Nat.le_refl _ | (simp; done) | (simp; omega)) _).alloc (by first | exact Nat.le_refl _ | (simp; done) | (simp; omega)) _).alloc (by first | exact Nat.le_refl _ | (simp; done) | (simp; omega)) _).alloc (by first | exact Nat.le_refl _ | (simp; done) | (simp; omega)) _) (by omega)
  rw [hW1]
  clear hW1
  have hst0 : W1.cell? ⟨w.heap.size + 1 + 1 + 1, 0, none⟩ = some (.int .u8 (b.a i).st) := by rw [cell_of_row _ _ _ _ _ _ f3]; rfl
  have hz2 : w.heap.size + 1 + 1 + 1 < W1.heap.size := (Array.getElem?_eq_some_iff.1 f3).1
  have dst : ((b.a i).st == 0) = false := by simpa using hst
  have hk0 : W1.cell? ⟨w.heap.size + 1, 0, none⟩ = some (.int .u8 3) := by rw [cell_of_row _ _ _ _ _ _ f1]; rfl
  have hk2 : W1.cell? ⟨w.heap.size + 1, 2, none⟩ = some (.int .i64 n) := by rw [cell_of_row _ _ _ _ _ _ f1]; rfl
  go_wp2_with (((with_reducible_and_instances (show wpList _ _ _ (Oper.mk _ (Op.load 35 _) _ _ _ _ :: _) _ _)); refine stop_here ?_))
  refine ⟨?_⟩
  refine wl_load (cs := b.arr) (fr := (0, 0)) (g := w.heap.size) Tryz.underlying35 rfl Kb.info rfl rfl rfl f0 (Kb.arr_size _) ?_
  go_wp2_with (((with_reducible_and_instances (show wpList _ _ _ (Oper.mk _ (Op.load 32 _) _ _ _ _ :: _) _ _)); refine stop_here ?_))
  refine ⟨?_⟩
  refine wl_load (cs := (b.a i).arr (b.v i)) (fr := (0, 0)) (g := w.heap.size + 1 + 1 + 1) Tryz.underlying32 rfl info13 rfl rfl rfl f3 rfl ?_
  go_wp2_with fail
  refine (HA.out W1 hV).mono ?_
  rintro e W2 ⟨a', va', rfl, hone', hx', hb⟩
  have z2 : W2.heap[w.heap.size + 1 + 1]? = some (.cells #[.int .u8 0, .int .i64 0, .int .i64 0, .int .i64 0, .int .i64 0, .int .i64 0, .bool false, .slice none 0 0, .int .i64 0, .int .i64 0, .int .i64 0, .int .i64 0, .int .i64 0] 32 (0, 0)) := below_block hb f2
  have hV2 : Below w.heap.size w W2 := hV.trans (hb.mono hV.size)
  have hzz : w.heap.size + 1 + 1 < W2.heap.size := (Array.getElem?_eq_some_iff.1 z2).1
  have HX := Lib.hid hx'
  clear hx'
  go_wp2_with (((with_reducible_and_instances (show wpList _ _ _ (Oper.mk _ (Op.store 32 _ _) _ _ _ _ :: _) _ _)); refine stop_here ?_))
  refine ⟨?_⟩
  refine wl_store (g := w.heap.size + 1 + 1) info13 rfl rfl rfl rfl z2 rfl rfl (Av.arr_one hone') ?_
  go_wp2_with fail
  refine bodyPost_ret (results_row_tmp rfl _ _ (w.heap.size + 1 + 1) 32 _ (0, 0) _ rfl (boxed_at hzz) Tryz.underlying32 rfl (by exact info13)) rfl ?_
  exact ⟨a', va', rfl, hone', fun h => ⟨(HX.out h).1, ((HX.out h).2.boxed (.inl (by omega))).more (by omega) (by simp)⟩, boxed_below hV2 (by omega)⟩
set_option maxHeartbeats 4000000 in
theorem heard_none {w : World} {b : Kb} {i : Nat} {A' : Av} (NK m T M V : Int) (hi : i < 32) (hone : b.One) (hst : (b.a i).st = 0) :
    Calls Tryz.prog 30 #[.agg b.arr, .agg #[.int .u8 NK, .int .i64 (i : Int), .int .i64 m, .int .i64 T, .int .i64 M, .int .u8 V]] w (Ansk 10 A' w) := by
  go_enter Tryz.func30, Tryz.ntmps30
  have hiI : (i : Int) < 32 := by omega
  have hiJ : (0 : Int) ≤ (i : Int) := by omega
  go_wp2_with (((with_reducible_and_instances (show wpList _ _ _ (Oper.mk _ (Op.load 32 _) _ _ _ _ :: _) _ _)); refine stop_here ?_))
  refine ⟨?_⟩
  refine wpList_load_mid rfl _ _ rfl w.heap.size (2 + i * 13) rfl ((b.a i).arr (b.v i)).toList _ (Kb.range (alloc_old (by first | (simp; done) | (simp; omega)) (alloc_old (by first | (simp; done) | (simp; omega)) (alloc_at rfl))) hi) Tryz.underlying32 rfl info13 ?_
  rw [Array.toArray_toList]
  go_wp2_with (((with_reducible_and_instances (show wpList _ _ _ (Oper.mk _ (Op.store 32 _ _) _ _ _ _ :: _) _ _)); refine stop_here ?_))
  refine ⟨?_⟩
  refine wl_store (g := w.heap.size + 1 + 1 + 1) info13 rfl rfl rfl rfl (alloc_at (by first | (simp; done) | (simp; omega))) rfl rfl (Av.arr_one (hone.2 i hi)) ?_
  obtain ⟨W1, hW1⟩ : ∃ W1, boxed ((((w.alloc (.cells b.arr 35)).alloc (.cells #[.int .u8 NK, .int .i64 (i : Int), .int .i64 m, .int .i64 T, .int .i64 M, .int .u8 V] 46)).alloc (.cells #[.int .u8 0, .int .i64 0, .int .i64 0, .int .i64 0, .int .i64 0, .int .i64 0, .bool false, .slice none 0 0, .int .i64 0, .int .i64 0, .int .i64 0, .int .i64 0, .int .i64 0] 32)).alloc (.cells #[.int .u8 0, .int .i64 0, .int .i64 0, .int .i64 0, .int .i64 0, .int .i64 0, .bool false, .slice none 0 0, .int .i64 0, .int .i64 0, .int .i64 0, .int .i64 0, .int .i64 0] 32)) (w.heap.size + 1 + 1 + 1) ((b.a i).arr (b.v i)) 32 = W1 := ⟨_, rfl⟩
  have f0 : W1.heap[w.heap.size]? = some (.cells b.arr 35 (0, 0)) := by rw [← hW1]; exact boxed_old (by omega) (alloc_old (by first | (simp; done) | (simp; omega)) (alloc_old (by first | (simp; done) | (simp; omega)) (alloc_old (by first | (simp; done) | (simp; omega)) (alloc_at rfl))))
  have f1 : W1.heap[w.heap.size + 1]? = some (.cells #[.int .u8 NK, .int .i64 (i : Int), .int .i64 m, .int .i64 T, .int .i64 M, .int .u8 V] 46 (0, 0)) := by rw [← hW1]; exact boxed_old (by omega) (alloc_old (by first | (simp; done) | (simp; omega)) (alloc_old (by first | (simp; done) | (simp; omega)) (alloc_at (by simp))))
  have f2 : W1.heap[w.heap.size + 1 + 1]? = some (.cells #[.int .u8 0, .int .i64 0, .int .i64 0, .int .i64 0, .int .i64 0, .int .i64 0, .bool false, .slice none 0 0, .int .i64 0, .int .i64 0, .int .i64 0, .int .i64 0, .int .i64 0] 32 (0, 0)) := by rw [← hW1]; exact boxed_old (by omega) (alloc_old (by first | (simp; done) | (simp; omega)) (alloc_at (by simp)))
  have f3 : W1.heap[w.heap.size + 1 + 1 + 1]? = some (.cells ((b.a i).arr (b.v i)) 32 (0, 0)) := by rw [← hW1]; exact boxed_at (by first | (simp; done) | (simp; omega))
  have hV : Below w.heap.size w W1 := by rw [← hW1]; exact boxed_below (((((Below.refl _ w).alloc (by first | exact Nat.le_refl _ | (simp; done) | (simp; omega)) _).alloc (by first | exact Nat.le_refl _ | (simp; done) | (simp; omega)) _).alloc (by first | exact Nat.le_refl _ | (simp; done) | (simp; omega)) _).alloc (by first | exact Nat.le_refl _ | (simp; done) | (simp; omega)) _) (by omega)
  rw [hW1]
  clear hW1
  have hst0 : W1.cell? ⟨w.heap.size + 1 + 1 + 1, 0, none⟩ = some (.int .u8 (b.a i).st) := by rw [cell_of_row _ _ _ _ _ _ f3]; rfl
  have hz2 : w.heap.size + 1 + 1 + 1 < W1.heap.size := (Array.getElem?_eq_some_iff.1 f3).1
  have dst : ((b.a i).st == 0) = true := by simpa using hst
  go_wp2_with (((with_reducible_and_instances (show wpList _ _ _ (Oper.mk _ (Op.store 32 _ _) _ _ _ _ :: _) _ _)); refine stop_here ?_))
  refine ⟨?_⟩
  refine wl_store (g := w.heap.size + 1 + 1) info13 rfl rfl rfl rfl f2 rfl rfl (by simp [Value.oneCell']) ?_
  go_wp2_with fail
  refine bodyPost_ret (results_row_tmp rfl _ _ (w.heap.size + 1 + 1) 32 _ (0, 0) _ rfl (boxed_at (by omega)) Tryz.underlying32 rfl (by exact info13)) rfl ?_
  exact ⟨Av.zero, .slice none 0 0, rfl, rfl, fun h => absurd h (by decide), boxed_below hV (by omega)⟩
set_option maxHeartbeats 4000000 in
theorem heard_some {w : World} {b : Kb} {i : Nat} {A' : Av} (NK m T M V : Int) (hi : i < 32) (hone : b.One) {x : Int} (hst : (b.a i).st ≠ 0) (HA : Hid (∀ W, Below w.heap.size w W → Calls Tryz.prog 60 #[.int .i64 (i : Int), .agg ((b.a i).arr (b.v i)), .agg #[.int .u8 NK, .int .i64 (i : Int), .int .i64 m, .int .i64 T, .int .i64 M, .int .u8 V], .int .i64 b.td] W (Ansk x A' W))) :
    Calls Tryz.prog 30 #[.agg b.arr, .agg #[.int .u8 NK, .int .i64 (i : Int), .int .i64 m, .int .i64 T, .int .i64 M, .int .u8 V]] w (Ansk x A' w) := by
  go_enter Tryz.func30, Tryz.ntmps30
  have hiI : (i : Int) < 32 := by omega
  have hiJ : (0 : Int) ≤ (i : Int) := by omega
  go_wp2_with (((with_reducible_and_instances (show wpList _ _ _ (Oper.mk _ (Op.load 32 _) _ _ _ _ :: _) _ _)); refine stop_here ?_))
  refine ⟨?_⟩
  refine wpList_load_mid rfl _ _ rfl w.heap.size (2 + i * 13) rfl ((b.a i).arr (b.v i)).toList _ (Kb.range (alloc_old (by first | (simp; done) | (simp; omega)) (alloc_old (by first | (simp; done) | (simp; omega)) (alloc_at rfl))) hi) Tryz.underlying32 rfl info13 ?_
  rw [Array.toArray_toList]
  go_wp2_with (((with_reducible_and_instances (show wpList _ _ _ (Oper.mk _ (Op.store 32 _ _) _ _ _ _ :: _) _ _)); refine stop_here ?_))
  refine ⟨?_⟩
  refine wl_store (g := w.heap.size + 1 + 1 + 1) info13 rfl rfl rfl rfl (alloc_at (by first | (simp; done) | (simp; omega))) rfl rfl (Av.arr_one (hone.2 i hi)) ?_
  obtain ⟨W1, hW1⟩ : ∃ W1, boxed ((((w.alloc (.cells b.arr 35)).alloc (.cells #[.int .u8 NK, .int .i64 (i : Int), .int .i64 m, .int .i64 T, .int .i64 M, .int .u8 V] 46)).alloc (.cells #[.int .u8 0, .int .i64 0, .int .i64 0, .int .i64 0, .int .i64 0, .int .i64 0, .bool false, .slice none 0 0, .int .i64 0, .int .i64 0, .int .i64 0, .int .i64 0, .int .i64 0] 32)).alloc (.cells #[.int .u8 0, .int .i64 0, .int .i64 0, .int .i64 0, .int .i64 0, .int .i64 0, .bool false, .slice none 0 0, .int .i64 0, .int .i64 0, .int .i64 0, .int .i64 0, .int .i64 0] 32)) (w.heap.size + 1 + 1 + 1) ((b.a i).arr (b.v i)) 32 = W1 := ⟨_, rfl⟩
  have f0 : W1.heap[w.heap.size]? = some (.cells b.arr 35 (0, 0)) := by rw [← hW1]; exact boxed_old (by omega) (alloc_old (by first | (simp; done) | (simp; omega)) (alloc_old (by first | (simp; done) | (simp; omega)) (alloc_old (by first | (simp; done) | (simp; omega)) (alloc_at rfl))))
  have f1 : W1.heap[w.heap.size + 1]? = some (.cells #[.int .u8 NK, .int .i64 (i : Int), .int .i64 m, .int .i64 T, .int .i64 M, .int .u8 V] 46 (0, 0)) := by rw [← hW1]; exact boxed_old (by omega) (alloc_old (by first | (simp; done) | (simp; omega)) (alloc_old (by first | (simp; done) | (simp; omega)) (alloc_at (by simp))))
  have f2 : W1.heap[w.heap.size + 1 + 1]? = some (.cells #[.int .u8 0, .int .i64 0, .int .i64 0, .int .i64 0, .int .i64 0, .int .i64 0, .bool false, .slice none 0 0, .int .i64 0, .int .i64 0, .int .i64 0, .int .i64 0, .int .i64 0] 32 (0, 0)) := by rw [← hW1]; exact boxed_old (by omega) (alloc_old (by first | (simp; done) | (simp; omega)) (alloc_at (by simp)))
  have f3 : W1.heap[w.heap.size + 1 + 1 + 1]? = some (.cells ((b.a i).arr (b.v i)) 32 (0, 0)) := by rw [← hW1]; exact boxed_at (by first | (simp; done) | (simp; omega))
  have hV : Below w.heap.size w W1 := by rw [← hW1]; exact boxed_below (((((Below.refl _ w).alloc (by first | exact Nat.le_refl _ | (simp; done) | (simp; omega)) _).alloc (by first | exact Nat.le_refl _ | (simp; done) | (simp; omega)) _).alloc (by first | exact Nat.le_refl _ | (simp; done) | (simp; omega)) _).alloc (by first | exact Nat.le_refl _ | (simp; done) | (simp; omega)) _) (by omega)
  rw [hW1]
  clear hW1
  have hst0 : W1.cell? ⟨w.heap.size + 1 + 1 + 1, 0, none⟩ = some (.int .u8 (b.a i).st) := by rw [cell_of_row _ _ _ _ _ _ f3]; rfl
  have hz2 : w.heap.size + 1 + 1 + 1 < W1.heap.size := (Array.getElem?_eq_some_iff.1 f3).1
  have dst : ((b.a i).st == 0) = false := by simpa using hst
  have hk1 : W1.cell? ⟨w.heap.size + 1, 1, none⟩ = some (.int .i64 (i : Int)) := by rw [cell_of_row _ _ _ _ _ _ f1]; rfl
  have htd : W1.cell? ⟨w.heap.size, 0, none⟩ = some (.int .i64 b.td) := by rw [cell_of_row _ _ _ _ _ _ f0]; exact b.at0
  go_wp2_with (((with_reducible_and_instances (show wpList _ _ _ (Oper.mk _ (Op.load 32 _) _ _ _ _ :: _) _ _)); refine stop_here ?_))
  refine ⟨?_⟩
  refine wl_load (cs := (b.a i).arr (b.v i)) (fr := (0, 0)) (g := w.heap.size + 1 + 1 + 1) Tryz.underlying32 rfl info13 rfl rfl rfl f3 rfl ?_
  go_wp2_with (((with_reducible_and_instances (show wpList _ _ _ (Oper.mk _ (Op.load 46 _) _ _ _ _ :: _) _ _)); refine stop_here ?_))
  refine ⟨?_⟩
  refine wl_load (cs := #[.int .u8 NK, .int .i64 (i : Int), .int .i64 m, .int .i64 T, .int .i64 M, .int .u8 V]) (fr := (0, 0)) (g := w.heap.size + 1) Tryz.underlying46 rfl info6 rfl rfl rfl f1 rfl ?_
  go_wp2_with fail
  refine (HA.out W1 hV).mono ?_
  rintro e W2 ⟨a', va', rfl, hone', hx', hb⟩
  have z2 : W2.heap[w.heap.size + 1 + 1]? = some (.cells #[.int .u8 0, .int .i64 0, .int .i64 0, .int .i64 0, .int .i64 0, .int .i64 0, .bool false, .slice none 0 0, .int .i64 0, .int .i64 0, .int .i64 0, .int .i64 0, .int .i64 0] 32 (0, 0)) := below_block hb f2
  have hV2 : Below w.heap.size w W2 := hV.trans (hb.mono hV.size)
  have hzz : w.heap.size + 1 + 1 < W2.heap.size := (Array.getElem?_eq_some_iff.1 z2).1
  have HX := Lib.hid hx'
  clear hx'
  go_wp2_with (((with_reducible_and_instances (show wpList _ _ _ (Oper.mk _ (Op.store 32 _ _) _ _ _ _ :: _) _ _)); refine stop_here ?_))
  refine ⟨?_⟩
  refine wl_store (g := w.heap.size + 1 + 1) info13 rfl rfl rfl rfl z2 rfl rfl (Av.arr_one hone') ?_
  go_wp2_with fail
  refine bodyPost_ret (results_row_tmp rfl _ _ (w.heap.size + 1 + 1) 32 _ (0, 0) _ rfl (boxed_at hzz) Tryz.underlying32 rfl (by exact info13)) rfl ?_
  exact ⟨a', va', rfl, hone', fun h => ⟨(HX.out h).1, ((HX.out h).2.boxed (.inl (by omega))).more (by omega) (by simp)⟩, boxed_below hV2 (by omega)⟩
end Go.Proofs.YtblikgbcakgdnaaGreat
