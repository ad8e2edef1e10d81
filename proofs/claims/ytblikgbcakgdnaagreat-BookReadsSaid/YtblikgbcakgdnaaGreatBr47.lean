/-
  Contract of book.getAccount over any box: what is told, and what is left. No conditions but the sizes.
-/
import Derived.Deep.MidRow
import Derived.Test.YtblikgbcakgdnaaGreatBr03
import Derived.Test.YtblikgbcakgdnaaGreatBr46
set_option linter.unusedSimpArgs false
set_option linter.unusedVariables false
namespace Go.Proofs.YtblikgbcakgdnaaGreat
set_option linter.unusedVariables false
set_option linter.unusedSimpArgs false
set_option maxRecDepth 100000
open Go.ChangeShapes Go.WideShapes Go.ChangeAt Go.RowKit

/-- What getAccount tells. -/
def AccPost (w : World) (b : Nat) (plans : Int) (l : List Int) (f : Int) (x : Ending) (w' : World) : Prop := ∃ (a : Av) (v : Value) (l' : List Int) (f' : Int), x = .returned (.agg (a.arr v)) ∧ Kbd.Acc plans l f a l' f' ∧ Cys w' w.heap.size w'.heap.size v a.l ∧ w.grownBy w' (some b) ∧ GB w' b l' f'
theorem sum_store {w : World} {B : Nat} {t : TypeId} (c0 c1 c2 c3 c4 c5 c6 c7 c8 c9 c10 c11 c12 d u r s p : Value) : (boxed w B #[c0, c1, c2, c3, c4, c5, c6, c7, c8, c9, c10, c11, c12] t).setCells B 8 [d, u, r, s, p] = boxed w B #[c0, c1, c2, c3, c4, c5, c6, c7, d, u, r, s, p] t := by
  simp only [World.setCells, boxed_set]
  rfl
theorem sum_there {w : World} {B : Nat} {t : TypeId} (c0 c1 c2 c3 c4 c5 c6 c7 c8 c9 c10 c11 c12 : Value) (h : B < w.heap.size) : (boxed w B #[c0, c1, c2, c3, c4, c5, c6, c7, c8, c9, c10, c11, c12] t).there B 8 5 := by
  intro j hj
  rw [boxed_cell h, boxed_frozen]
  rcases (by omega : j = 0 ∨ j = 1 ∨ j = 2 ∨ j = 3 ∨ j = 4) with rfl | rfl | rfl | rfl | rfl <;> exact ⟨rfl, rfl⟩
set_option maxHeartbeats 8000000 in
theorem getaccount_any (w : World) (b : Nat) (l : List Int) (f plans : Int) (h : GB w b l f) (hp : 0 ≤ plans ∧ plans ≤ 1000) :
    Calls Tryz.prog 46 #[.pointer (some ⟨b, 0, none⟩), .int .i64 plans] w (AccPost w b plans l f) := by
  have hbl := h.lt
  have H := Lib.hid h
  have ewp : wrap64 (plans - 1) = plans - 1 := by unfold wrap64; omega
  clear h
  go_enter Tryz.func46, Tryz.ntmps46
  go_wp2_with (fail)
  obtain ⟨x0, hx0⟩ : ∃ x0, w.alloc (Obj.cells #[.int .u8 0, .int .i64 0, .int .i64 0, .int .i64 0, .int .i64 0, .int .i64 0, .bool false, .slice none 0 0, .int .i64 0, .int .i64 0, .int .i64 0, .int .i64 0, .int .i64 0] 32) = x0 := ⟨_, rfl⟩
  have hw0 : w.grownBy x0 (some b) := by rw [← hx0]; exact below_grown ((Below.refl _ w).alloc (Nat.le_refl _) _) _
  have hY0 : x0.heap[w.heap.size]? = some (Obj.cells #[.int .u8 0, .int .i64 0, .int .i64 0, .int .i64 0, .int .i64 0, .int .i64 0, .bool false, .slice none 0 0, .int .i64 0, .int .i64 0, .int .i64 0, .int .i64 0, .int .i64 0] 32 (0, 0)) := by rw [← hx0]; exact alloc_at rfl
  have HG0 : Hid (GB x0 b l f) := Lib.hid (by rw [← hx0]; exact H.out.more ((Below.refl _ w).alloc (Nat.le_refl _) _))
  have hz0 : w.heap.size < x0.heap.size := (Array.getElem?_eq_some_iff.1 hY0).1
  rw [hx0]
  have HW0 := Lib.hid hw0
  have HY0 := Lib.hid hY0
  clear hx0 hw0 hY0
  refine (get_any _ _ _ _ _ _ HG0.out).mono ?_
  rintro x x1 ⟨n0, l1, f1, rfl, hs1, hg1, hb1⟩
  obtain ⟨r0, r0'⟩ := hs1.range (by omega) (by omega)
  have hnz : n0 ≠ 0 → f1 = 0 := fun e => hs1.nz e
  have hwu : IntKind.u8.wrap n0 = n0 := by simp [IntKind.wrap, IntKind.bits, IntKind.signed]; omega
  have HS1 := Lib.hid hs1
  have HW1 : Hid (w.grownBy x1 (some b)) := Lib.hid (HW0.out.trans hg1)
  have HY1 : Hid (x1.heap[w.heap.size]? = some (Obj.cells #[.int .u8 0, .int .i64 0, .int .i64 0, .int .i64 0, .int .i64 0, .int .i64 0, .bool false, .slice none 0 0, .int .i64 0, .int .i64 0, .int .i64 0, .int .i64 0, .int .i64 0] 32 (0, 0))) := Lib.hid ((hg1.block _ hz0 (by intro e; injection e; omega)).trans HY0.out)
  have HG1 := Lib.hid hb1
  have hz1 : w.heap.size < x1.heap.size := (Array.getElem?_eq_some_iff.1 HY1.out).1
  clear hs1 hg1 hb1 HW0 HY0
  go_wp2_with (((with_reducible_and_instances (show wpList _ _ _ (Oper.mk _ (Op.store 32 _ _) _ _ _ _ :: _) _ _)); refine stop_here ?_))
  refine ⟨?_⟩
  refine wl_store (g := x1.heap.size) info13 rfl rfl rfl rfl (alloc_at rfl) (by rfl) (by rfl) (by simp [Value.oneCell']) ?_
  obtain ⟨D, hD⟩ : ∃ D, x1.heap.size = D := ⟨_, rfl⟩
  obtain ⟨y0, hy0⟩ : ∃ y0, boxed (x1.alloc (Obj.cells #[.int .u8 0, .int .i64 0, .int .i64 0, .int .i64 0, .int .i64 0, .int .i64 0, .bool false, .slice none 0 0, .int .i64 0, .int .i64 0, .int .i64 0, .int .i64 0, .int .i64 0] 32)) x1.heap.size #[.int .u8 n0, .int .i64 0, .int .i64 0, .int .i64 0, .int .i64 0, .int .i64 0, .bool false, .slice none 0 0, .int .i64 0, .int .i64 0, .int .i64 0, .int .i64 0, .int .i64 0] 32 = y0 := ⟨_, rfl⟩
  have hb0 : Below x1.heap.size x1 y0 := by rw [← hy0]; exact boxed_below ((Below.refl _ x1).alloc (Nat.le_refl _) _) (Nat.le_refl _)
  have hC0 : y0.heap[D]? = some (.cells #[.int .u8 n0, .int .i64 0, .int .i64 0, .int .i64 0, .int .i64 0, .int .i64 0, .bool false, .slice none 0 0, .int .i64 0, .int .i64 0, .int .i64 0, .int .i64 0, .int .i64 0] 32 (0, 0)) := by rw [← hy0, ← hD]; exact boxed_at (by simp)
  have HW0 : Hid (w.grownBy y0 (some b)) := Lib.hid (kgrown_below HW1.out hb0)
  have HY0 : Hid (y0.heap[w.heap.size]? = some (Obj.cells #[.int .u8 0, .int .i64 0, .int .i64 0, .int .i64 0, .int .i64 0, .int .i64 0, .bool false, .slice none 0 0, .int .i64 0, .int .i64 0, .int .i64 0, .int .i64 0, .int .i64 0] 32 (0, 0))) := Lib.hid (below_block hb0 HY1.out)
  have HK0 : Hid (GB y0 b l1 f1) := Lib.hid (HG1.out.more hb0)
  have hzD : D < y0.heap.size := (Array.getElem?_eq_some_iff.1 hC0).1
  have hwD : w.heap.size < D := by omega
  rw [hy0, hD]
  have eb := boxed_self hC0
  rw [eb]
  clear hy0 hb0 hC0 eb HW1 HY1 hD
  by_cases hn0 : n0 = 0
  · have d0 : (n0 == 0) = true := by simpa using hn0
    have HN0 := Lib.hid hn0
    clear hn0
    go_wp2_with (((with_reducible_and_instances (show wpList _ _ _ (Oper.mk _ (Op.store 32 _ _) _ _ _ _ :: _) _ _)); refine stop_here ?_))
    refine ⟨?_⟩
    refine wl_store (g := w.heap.size) info13 rfl rfl rfl rfl (boxed_old (by omega) HY0.out) (by rfl) (by rfl) (by simp [Value.oneCell']) ?_
    go_wp2_with (fail)
    refine bodyPost_ret (v := .agg #[.int .u8 n0, .int .i64 0, .int .i64 0, .int .i64 0, .int .i64 0, .int .i64 0, .bool false, .slice none 0 0, .int .i64 0, .int .i64 0, .int .i64 0, .int .i64 0, .int .i64 0]) ?_ rfl ⟨Av.zero, .slice none 0 0, l1, f1, by rw [HN0.out]; rfl, ⟨n0, l1, f1, HS1.out, .inl ⟨HN0.out, rfl, rfl, rfl⟩⟩, Cys.nil, kgrown_boxed (kgrown_boxed HW0.out (by omega)) (Nat.le_refl _), (HK0.out.box (by omega)).box (by omega)⟩
    have hc : (boxed (boxed y0 D #[.int .u8 n0, .int .i64 0, .int .i64 0, .int .i64 0, .int .i64 0, .int .i64 0, .bool false, .slice none 0 0, .int .i64 0, .int .i64 0, .int .i64 0, .int .i64 0, .int .i64 0] 32) w.heap.size #[.int .u8 n0, .int .i64 0, .int .i64 0, .int .i64 0, .int .i64 0, .int .i64 0, .bool false, .slice none 0 0, .int .i64 0, .int .i64 0, .int .i64 0, .int .i64 0, .int .i64 0] 32).heap[w.heap.size]? = some (.cells #[.int .u8 n0, .int .i64 0, .int .i64 0, .int .i64 0, .int .i64 0, .int .i64 0, .bool false, .slice none 0 0, .int .i64 0, .int .i64 0, .int .i64 0, .int .i64 0, .int .i64 0] 32 (0, 0)) := boxed_block (by rw [boxed_size]; omega)
    simp [results, Tryz.results46, go_sem, cell_of_row _ _ _ _ _ _ hc]
  have d0 : (n0 == 0) = false := by simpa using hn0
  obtain rfl := hnz hn0
  have HN0 := Lib.hid hn0
  clear hn0 hnz
  go_wp2_with (fail)
  refine (getint_any _ _ _ _ 0 (plans - 1) (HK0.out.box (by omega)) (by omega) (by omega)).mono ?_
  rintro x y1 ⟨n1, k1, g1, rfl, hs1, hg1, hb1⟩
  have r1 := Kbd.range hs1
  have HT1 := Lib.hid hs1
  have hC1 : y1.heap[D]? = some (Obj.cells #[.int .u8 n0, .int .i64 0, .int .i64 0, .int .i64 0, .int .i64 0, .int .i64 0, .bool false, .slice none 0 0, .int .i64 0, .int .i64 0, .int .i64 0, .int .i64 0, .int .i64 0] 32 (0, 0)) := (hg1.block _ (by rw [boxed_size]; exact hzD) (by intro e; injection e; omega)).trans (boxed_block hzD)
  have HW1 : Hid (w.grownBy y1 (some b)) := Lib.hid (World.grownBy.trans (kgrown_boxed HW0.out (by omega)) hg1)
  have HY1 : Hid (y1.heap[w.heap.size]? = some (Obj.cells #[.int .u8 0, .int .i64 0, .int .i64 0, .int .i64 0, .int .i64 0, .int .i64 0, .bool false, .slice none 0 0, .int .i64 0, .int .i64 0, .int .i64 0, .int .i64 0, .int .i64 0] 32 (0, 0))) := Lib.hid ((hg1.block _ (by rw [boxed_size]; omega) (by intro e; injection e; omega)).trans (boxed_old (by omega) HY0.out))
  have HK1 := Lib.hid hb1
  have hz1D : D < y1.heap.size := (Array.getElem?_eq_some_iff.1 hC1).1
  have eb := boxed_self hC1
  rw [eb]
  clear eb hC1 hs1 hg1 hb1 HW0 HY0
  go_wp2_with (fail)
  refine (getint_any _ _ _ _ 0 3652058 (HK1.out.box (by omega)) (by omega) (by omega)).mono ?_
  rintro x y2 ⟨n2, k2, g2, rfl, hs2, hg2, hb2⟩
  have r2 := Kbd.range hs2
  have HT2 := Lib.hid hs2
  have hC2 : y2.heap[D]? = some (Obj.cells #[.int .u8 n0, .int .i64 n1, .int .i64 0, .int .i64 0, .int .i64 0, .int .i64 0, .bool false, .slice none 0 0, .int .i64 0, .int .i64 0, .int .i64 0, .int .i64 0, .int .i64 0] 32 (0, 0)) := (hg2.block _ (by rw [boxed_size]; exact hz1D) (by intro e; injection e; omega)).trans (boxed_block hz1D)
  have HW2 : Hid (w.grownBy y2 (some b)) := Lib.hid (World.grownBy.trans (kgrown_boxed HW1.out (by omega)) hg2)
  have HY2 : Hid (y2.heap[w.heap.size]? = some (Obj.cells #[.int .u8 0, .int .i64 0, .int .i64 0, .int .i64 0, .int .i64 0, .int .i64 0, .bool false, .slice none 0 0, .int .i64 0, .int .i64 0, .int .i64 0, .int .i64 0, .int .i64 0] 32 (0, 0))) := Lib.hid ((hg2.block _ (by rw [boxed_size]; omega) (by intro e; injection e; omega)).trans (boxed_old (by omega) HY1.out))
  have HK2 := Lib.hid hb2
  have hz2D : D < y2.heap.size := (Array.getElem?_eq_some_iff.1 hC2).1
  have eb := boxed_self hC2
  rw [eb]
  clear eb hC2 hs2 hg2 hb2 HW1 HY1
  go_wp2_with (fail)
  refine (getint_any _ _ _ _ 0 3652059 (HK2.out.box (by omega)) (by omega) (by omega)).mono ?_
  rintro x y3 ⟨n3, k3, g3, rfl, hs3, hg3, hb3⟩
  have r3 := Kbd.range hs3
  have HT3 := Lib.hid hs3
  have hC3 : y3.heap[D]? = some (Obj.cells #[.int .u8 n0, .int .i64 n1, .int .i64 n2, .int .i64 0, .int .i64 0, .int .i64 0, .bool false, .slice none 0 0, .int .i64 0, .int .i64 0, .int .i64 0, .int .i64 0, .int .i64 0] 32 (0, 0)) := (hg3.block _ (by rw [boxed_size]; exact hz2D) (by intro e; injection e; omega)).trans (boxed_block hz2D)
  have HW3 : Hid (w.grownBy y3 (some b)) := Lib.hid (World.grownBy.trans (kgrown_boxed HW2.out (by omega)) hg3)
  have HY3 : Hid (y3.heap[w.heap.size]? = some (Obj.cells #[.int .u8 0, .int .i64 0, .int .i64 0, .int .i64 0, .int .i64 0, .int .i64 0, .bool false, .slice none 0 0, .int .i64 0, .int .i64 0, .int .i64 0, .int .i64 0, .int .i64 0] 32 (0, 0))) := Lib.hid ((hg3.block _ (by rw [boxed_size]; omega) (by intro e; injection e; omega)).trans (boxed_old (by omega) HY2.out))
  have HK3 := Lib.hid hb3
  have hz3D : D < y3.heap.size := (Array.getElem?_eq_some_iff.1 hC3).1
  have eb := boxed_self hC3
  rw [eb]
  clear eb hC3 hs3 hg3 hb3 HW2 HY2
  go_wp2_with (fail)
  refine (getint_any _ _ _ _ 0 3652059 (HK3.out.box (by omega)) (by omega) (by omega)).mono ?_
  rintro x y4 ⟨n4, k4, g4, rfl, hs4, hg4, hb4⟩
  have r4 := Kbd.range hs4
  have HT4 := Lib.hid hs4
  have hC4 : y4.heap[D]? = some (Obj.cells #[.int .u8 n0, .int .i64 n1, .int .i64 n2, .int .i64 n3, .int .i64 0, .int .i64 0, .bool false, .slice none 0 0, .int .i64 0, .int .i64 0, .int .i64 0, .int .i64 0, .int .i64 0] 32 (0, 0)) := (hg4.block _ (by rw [boxed_size]; exact hz3D) (by intro e; injection e; omega)).trans (boxed_block hz3D)
  have HW4 : Hid (w.grownBy y4 (some b)) := Lib.hid (World.grownBy.trans (kgrown_boxed HW3.out (by omega)) hg4)
  have HY4 : Hid (y4.heap[w.heap.size]? = some (Obj.cells #[.int .u8 0, .int .i64 0, .int .i64 0, .int .i64 0, .int .i64 0, .int .i64 0, .bool false, .slice none 0 0, .int .i64 0, .int .i64 0, .int .i64 0, .int .i64 0, .int .i64 0] 32 (0, 0))) := Lib.hid ((hg4.block _ (by rw [boxed_size]; omega) (by intro e; injection e; omega)).trans (boxed_old (by omega) HY3.out))
  have HK4 := Lib.hid hb4
  have hz4D : D < y4.heap.size := (Array.getElem?_eq_some_iff.1 hC4).1
  have eb := boxed_self hC4
  rw [eb]
  clear eb hC4 hs4 hg4 hb4 HW3 HY3
  go_wp2_with (fail)
  refine (get_any _ _ _ _ _ _ (HK4.out.box (by omega))).mono ?_
  rintro x y5 ⟨n5, k5, g5, rfl, hs5, hg5, hb5⟩
  skip
  have HT5 := Lib.hid hs5
  have hC5 : y5.heap[D]? = some (Obj.cells #[.int .u8 n0, .int .i64 n1, .int .i64 n2, .int .i64 n3, .int .i64 n4, .int .i64 0, .bool false, .slice none 0 0, .int .i64 0, .int .i64 0, .int .i64 0, .int .i64 0, .int .i64 0] 32 (0, 0)) := (hg5.block _ (by rw [boxed_size]; exact hz4D) (by intro e; injection e; omega)).trans (boxed_block hz4D)
  have HW5 : Hid (w.grownBy y5 (some b)) := Lib.hid (World.grownBy.trans (kgrown_boxed HW4.out (by omega)) hg5)
  have HY5 : Hid (y5.heap[w.heap.size]? = some (Obj.cells #[.int .u8 0, .int .i64 0, .int .i64 0, .int .i64 0, .int .i64 0, .int .i64 0, .bool false, .slice none 0 0, .int .i64 0, .int .i64 0, .int .i64 0, .int .i64 0, .int .i64 0] 32 (0, 0))) := Lib.hid ((hg5.block _ (by rw [boxed_size]; omega) (by intro e; injection e; omega)).trans (boxed_old (by omega) HY4.out))
  have HK5 := Lib.hid hb5
  have hz5D : D < y5.heap.size := (Array.getElem?_eq_some_iff.1 hC5).1
  have eb := boxed_self hC5
  rw [eb]
  clear eb hC5 hs5 hg5 hb5 HW4 HY4
  go_wp2_with (fail)
  refine (flag_any _ _ _ _ (HK5.out.box (by omega))).mono ?_
  rintro x y6 ⟨n6, k6, g6, rfl, hs6, hg6, hb6⟩
  skip
  have HT6 := Lib.hid hs6
  have hC6 : y6.heap[D]? = some (Obj.cells #[.int .u8 n0, .int .i64 n1, .int .i64 n2, .int .i64 n3, .int .i64 n4, .int .i64 n5, .bool false, .slice none 0 0, .int .i64 0, .int .i64 0, .int .i64 0, .int .i64 0, .int .i64 0] 32 (0, 0)) := (hg6.block _ (by rw [boxed_size]; exact hz5D) (by intro e; injection e; omega)).trans (boxed_block hz5D)
  have HW6 : Hid (w.grownBy y6 (some b)) := Lib.hid (World.grownBy.trans (kgrown_boxed HW5.out (by omega)) hg6)
  have HY6 : Hid (y6.heap[w.heap.size]? = some (Obj.cells #[.int .u8 0, .int .i64 0, .int .i64 0, .int .i64 0, .int .i64 0, .int .i64 0, .bool false, .slice none 0 0, .int .i64 0, .int .i64 0, .int .i64 0, .int .i64 0, .int .i64 0] 32 (0, 0))) := Lib.hid ((hg6.block _ (by rw [boxed_size]; omega) (by intro e; injection e; omega)).trans (boxed_old (by omega) HY5.out))
  have HK6 := Lib.hid hb6
  have hz6D : D < y6.heap.size := (Array.getElem?_eq_some_iff.1 hC6).1
  have eb := boxed_self hC6
  rw [eb]
  clear eb hC6 hs6 hg6 hb6 HW5 HY5
  go_wp2_with (fail)
  refine (getsum_any _ _ _ _ n4 (HK6.out.box (by omega)) (by omega)).mono ?_
  rintro x y7 ⟨sd, su, sr, ss, sp, k7, g7, rfl, hs7, q1, q2, q3, q4, hg7, hb7⟩
  have HT7 := Lib.hid hs7
  have hC7 : y7.heap[D]? = some (Obj.cells #[.int .u8 n0, .int .i64 n1, .int .i64 n2, .int .i64 n3, .int .i64 n4, .int .i64 n5, .bool (n6 == 1), .slice none 0 0, .int .i64 0, .int .i64 0, .int .i64 0, .int .i64 0, .int .i64 0] 32 (0, 0)) := (hg7.block _ (by rw [boxed_size]; exact hz6D) (by intro e; injection e; omega)).trans (boxed_block hz6D)
  have HW7 : Hid (w.grownBy y7 (some b)) := Lib.hid (World.grownBy.trans (kgrown_boxed HW6.out (by omega)) hg7)
  have HY7 : Hid (y7.heap[w.heap.size]? = some (Obj.cells #[.int .u8 0, .int .i64 0, .int .i64 0, .int .i64 0, .int .i64 0, .int .i64 0, .bool false, .slice none 0 0, .int .i64 0, .int .i64 0, .int .i64 0, .int .i64 0, .int .i64 0] 32 (0, 0))) := Lib.hid ((hg7.block _ (by rw [boxed_size]; omega) (by intro e; injection e; omega)).trans (boxed_old (by omega) HY6.out))
  have HK7 := Lib.hid hb7
  have hz7D : D < y7.heap.size := (Array.getElem?_eq_some_iff.1 hC7).1
  have eb := boxed_self hC7
  rw [eb]
  clear eb hC7 hs7 hg7 hb7 HW6 HY6
  go_wp2_with (((with_reducible_and_instances (show wpList _ _ _ (Oper.mk _ (Op.store 30 _ _) _ _ _ _ :: _) _ _)); refine stop_here ?_))
  refine ⟨?_⟩
  refine wpList_store_mid rfl _ _ _ rfl D 8 #[.int .i64 sd, .int .i64 su, .int .i64 sr, .int .i64 ss, .int .i64 sp] rfl rfl (sum_there _ _ _ _ _ _ _ _ _ _ _ _ _ hz7D) info5m (by simp [Value.oneCell']) ?_
  rw [sum_store]
  go_wp2_with (fail)
  have ewl : wrap64 (n4 - (sd + su + sr + ss)) = n4 - (sd + su + sr + ss) := by unfold wrap64; omega
  have ewl' : IntKind.i64.wrap (n4 - (sd + su + sr + ss)) = n4 - (sd + su + sr + ss) := by rw [IntKind.wrap_i64]; omega
  obtain ⟨z0, hz0⟩ : ∃ z0, boxed y7 D #[.int .u8 n0, .int .i64 n1, .int .i64 n2, .int .i64 n3, .int .i64 n4, .int .i64 n5, .bool (n6 == 1), .slice none 0 0, .int .i64 sd, .int .i64 su, .int .i64 sr, .int .i64 ss, .int .i64 sp] 32 = z0 := ⟨_, rfl⟩
  have hS0 : z0.heap[D]? = some (.cells #[.int .u8 n0, .int .i64 n1, .int .i64 n2, .int .i64 n3, .int .i64 n4, .int .i64 n5, .bool (n6 == 1), .slice none 0 0, .int .i64 sd, .int .i64 su, .int .i64 sr, .int .i64 ss, .int .i64 sp] 32 (0, 0)) := by rw [← hz0]; exact boxed_at hz7D
  have HWz : Hid (w.grownBy z0 (some b)) := Lib.hid (by rw [← hz0]; exact kgrown_boxed HW7.out (by omega))
  have HYz : Hid (z0.heap[w.heap.size]? = some (Obj.cells #[.int .u8 0, .int .i64 0, .int .i64 0, .int .i64 0, .int .i64 0, .int .i64 0, .bool false, .slice none 0 0, .int .i64 0, .int .i64 0, .int .i64 0, .int .i64 0, .int .i64 0] 32 (0, 0))) := Lib.hid (by rw [← hz0]; exact boxed_old (by omega) HY7.out)
  have HKz : Hid (GB z0 b k7 g7) := Lib.hid (by rw [← hz0]; exact HK7.out.box (by omega))
  have hzz : D < z0.heap.size := (Array.getElem?_eq_some_iff.1 hS0).1
  rw [hz0]
  clear hz0 HW7 HY7 HK7
  have HS0 : Hid ((fun w' : World => ∃ vl : Value, w'.heap[D]? = some (.cells #[.int .u8 n0, .int .i64 n1, .int .i64 n2, .int .i64 n3, .int .i64 n4, .int .i64 n5, .bool (n6 == 1), vl, .int .i64 sd, .int .i64 su, .int .i64 sr, .int .i64 ss, .int .i64 sp] 32 (0, 0))) z0.drew) := ⟨_, hS0⟩
  have HH0 := Lib.hid hS0
  clear hS0
  refine lane_start (ord := [0, 1, 2, 3, 4, 5, 6, 7, 8, 9, 10, 11]) (S := (fun w' : World => ∃ vl : Value, w'.heap[D]? = some (.cells #[.int .u8 n0, .int .i64 n1, .int .i64 n2, .int .i64 n3, .int .i64 n4, .int .i64 n5, .bool (n6 == 1), vl, .int .i64 sd, .int .i64 su, .int .i64 sr, .int .i64 ss, .int .i64 sp] 32 (0, 0)))) rfl (by kernel_rfl) (by exact HS0.out) (fun _ => ?_)
  iterate 6 (refine lane_take (v := ?_) rfl (by kernel_rfl) (by kernel_rfl) (by rfl) ?_ (by exact HS0.out) ?_; rotate_left; (focus (intro W hSw; obtain ⟨vl, hSw⟩ := hSw; obtain ⟨s0, s1, s2, s3, s4, s5, s6, s7, s8, s9, s10, s11, s12⟩ := acell (a := ⟨n0, n1, n2, n3, n4, n5, n6 == 1, [], sd, su, sr, ss, sp⟩) (v := vl) hSw; go_simp; try (with_reducible rfl))); (try simp only [Act.put, List.setIfInBounds_toArray, List.set_cons_zero, List.set_cons_succ]))
  refine lane_take (v := .agg #[.int .i64 sd, .int .i64 su, .int .i64 sr, .int .i64 ss, .int .i64 sp]) rfl (by kernel_rfl) (by kernel_rfl) (by rfl) (fun W hSw => by
    obtain ⟨vl, hSw⟩ := hSw
    exact exec_load rfl rfl (run_loadAt_mid W D 8 30 [.int .i64 sd, .int .i64 su, .int .i64 sr, .int .i64 ss, .int .i64 sp] _ (World.rangeAt_of_block hSw 8 5) Tryz.underlying30 rfl info5m)) (by exact HS0.out) ?_
  (try simp only [Act.put, List.setIfInBounds_toArray, List.set_cons_zero, List.set_cons_succ])
  refine lane_alone rfl (by kernel_rfl) (by rfl) (fun KK hKK => ?_)
  go_simp
  refine (ended_any _ sd su sr ss sp (by omega) (by omega) (by omega) (by omega)).mono ?_
  rintro x z1 ⟨rfl, hbz⟩
  have HB1 : Hid (Below z0.heap.size z0 z1) := Lib.hid ((Below.refl _ z0).drew.trans hbz)
  have HS1' : Hid ((fun w' : World => ∃ vl : Value, w'.heap[D]? = some (.cells #[.int .u8 n0, .int .i64 n1, .int .i64 n2, .int .i64 n3, .int .i64 n4, .int .i64 n5, .bool (n6 == 1), vl, .int .i64 sd, .int .i64 su, .int .i64 sr, .int .i64 ss, .int .i64 sp] 32 (0, 0))) z1) := ⟨_, below_block hbz HH0.out⟩
  have HH1 : Hid (z1.heap[D]? = some (.cells #[.int .u8 n0, .int .i64 n1, .int .i64 n2, .int .i64 n3, .int .i64 n4, .int .i64 n5, .bool (n6 == 1), .slice none 0 0, .int .i64 sd, .int .i64 su, .int .i64 sr, .int .i64 ss, .int .i64 sp] 32 (0, 0))) := Lib.hid (below_block hbz HH0.out)
  refine hKK _ _ HS1'.out (fun _ => ?_)
  clear hKK KK hbz
  (try simp only [Act.put, List.setIfInBounds_toArray, List.set_cons_zero, List.set_cons_succ])
  refine lane_take (v := .int .i64 (n4 - (sd + su + sr + ss))) rfl (by kernel_rfl) (by kernel_rfl) (by rfl) ?_ (by exact HS1'.out) ?_
  · intro W hSw
    go_simp
    (first | done | (rw [ewl]; done) | (rw [ewl']; done) | (simp [ewl, ewl']; done))
  (try simp only [Act.put, List.setIfInBounds_toArray, List.set_cons_zero, List.set_cons_succ])
  refine lane_alone rfl (by kernel_rfl) (by rfl) (fun KK hKK => ?_)
  go_simp
  refine (getopen_any _ b k7 g7 n4 (n4 - (sd + su + sr + ss)) (HKz.out.more HB1.out) (by omega) (by omega)).mono ?_
  rintro x z2 ⟨v, cs, l', f', n9, k9, g9, rfl, hst, hrun, hcy, hg2, hb2⟩
  have hz1 : z0.heap.size ≤ z1.heap.size := HB1.out.size
  have HST := Lib.hid hst
  have HRUN := Lib.hid hrun
  have hS2 : z2.heap[D]? = some (.cells #[.int .u8 n0, .int .i64 n1, .int .i64 n2, .int .i64 n3, .int .i64 n4, .int .i64 n5, .bool (n6 == 1), .slice none 0 0, .int .i64 sd, .int .i64 su, .int .i64 sr, .int .i64 ss, .int .i64 sp] 32 (0, 0)) := (hg2.block _ (by omega) (by intro e; injection e; omega)).trans HH1.out
  have HS2 : Hid ((fun w' : World => ∃ vl : Value, w'.heap[D]? = some (.cells #[.int .u8 n0, .int .i64 n1, .int .i64 n2, .int .i64 n3, .int .i64 n4, .int .i64 n5, .bool (n6 == 1), vl, .int .i64 sd, .int .i64 su, .int .i64 sr, .int .i64 ss, .int .i64 sp] 32 (0, 0))) z2) := ⟨_, hS2⟩
  have HW9 : Hid (w.grownBy z2 (some b)) := Lib.hid (World.grownBy.trans (kgrown_below HWz.out HB1.out) hg2)
  have HY9 : Hid (z2.heap[w.heap.size]? = some (Obj.cells #[.int .u8 0, .int .i64 0, .int .i64 0, .int .i64 0, .int .i64 0, .int .i64 0, .bool false, .slice none 0 0, .int .i64 0, .int .i64 0, .int .i64 0, .int .i64 0, .int .i64 0] 32 (0, 0))) := Lib.hid ((hg2.block _ (by omega) (by intro e; injection e; omega)).trans (below_block HB1.out HYz.out))
  have HK9 := Lib.hid hb2
  have hz2D : D < z2.heap.size := (Array.getElem?_eq_some_iff.1 hS2).1
  have HCY : Hid (Cys z2 (D + 1) z2.heap.size v cs) := Lib.hid (hcy.more (by omega) (Nat.le_refl _))
  obtain ⟨A9, c9, hv9, _⟩ := id hcy
  subst hv9
  refine hKK _ _ HS2.out (fun _ => ?_)
  clear hKK KK hst hrun hcy hg2 hb2
  (try simp only [Act.put, List.setIfInBounds_toArray, List.set_cons_zero, List.set_cons_succ])
  refine lane_take (v := ?_) rfl (by kernel_rfl) (by kernel_rfl) (by rfl) ?_ (by exact HS2.out) ?_; rotate_left; (focus (intro W hSw; obtain ⟨vl, hSw⟩ := hSw; obtain ⟨s0, s1, s2, s3, s4, s5, s6, s7, s8, s9, s10, s11, s12⟩ := acell (a := ⟨n0, n1, n2, n3, n4, n5, n6 == 1, [], sd, su, sr, ss, sp⟩) (v := vl) hSw; go_simp; try (with_reducible rfl))); (try simp only [Act.put, List.setIfInBounds_toArray, List.set_cons_zero, List.set_cons_succ])
  refine lane_alone rfl (by kernel_rfl) (by rfl) (fun KK hKK => ?_)
  have e9 := boxed_self hS2
  rw [e9]
  clear e9
  go_simp
  refine hKK _ _ ⟨_, boxed_at hz2D⟩ (fun _ => ?_)
  clear hKK KK
  (try simp only [Act.put, List.setIfInBounds_toArray, List.set_cons_zero, List.set_cons_succ])
  refine lane_end (by kernel_rfl) ?_
  go_wp2_with (((with_reducible_and_instances (show wpList _ _ _ (Oper.mk _ (Op.store 32 _ _) _ _ _ _ :: _) _ _)); refine stop_here ?_))
  refine ⟨?_⟩
  refine wl_store (g := w.heap.size) info13 rfl rfl rfl rfl (boxed_old (by omega) HY9.out) (by rfl) (by rfl) (by simp [Value.oneCell']) ?_
  go_wp2_with (fail)
  have HX : Hid (Kbd.Acc plans l f ⟨n0, n1, n2, n3, n4, n5, n6 == 1, cs, sd, su, sr, ss, sp⟩ l' f') := Lib.hid ⟨n0, l1, 0, HS1.out, .inr ⟨HN0.out, n6, k6, g6, ⟨k1, g1, HT1.out, k2, g2, HT2.out, k3, g3, HT3.out, k4, g4, HT4.out, k5, g5, HT5.out, k6, g6, HT6.out, rfl, rfl⟩, rfl, rfl, k7, g7, HT7.out, n9, k9, g9, HST.out, HRUN.out⟩⟩
  refine bodyPost_ret (v := .agg #[.int .u8 n0, .int .i64 n1, .int .i64 n2, .int .i64 n3, .int .i64 n4, .int .i64 n5, .bool (n6 == 1), .slice A9 cs.length c9, .int .i64 sd, .int .i64 su, .int .i64 sr, .int .i64 ss, .int .i64 sp]) ?_ rfl ⟨⟨n0, n1, n2, n3, n4, n5, n6 == 1, cs, sd, su, sr, ss, sp⟩, .slice A9 cs.length c9, l', f', rfl, HX.out, ?_, kgrown_boxed (kgrown_boxed HW9.out (by omega)) (Nat.le_refl _), (HK9.out.box (by omega)).box (by omega)⟩
  · have hc : (boxed (boxed z2 D #[.int .u8 n0, .int .i64 n1, .int .i64 n2, .int .i64 n3, .int .i64 n4, .int .i64 n5, .bool (n6 == 1), .slice A9 cs.length c9, .int .i64 sd, .int .i64 su, .int .i64 sr, .int .i64 ss, .int .i64 sp] 32) w.heap.size #[.int .u8 n0, .int .i64 n1, .int .i64 n2, .int .i64 n3, .int .i64 n4, .int .i64 n5, .bool (n6 == 1), .slice A9 cs.length c9, .int .i64 sd, .int .i64 su, .int .i64 sr, .int .i64 ss, .int .i64 sp] 32).heap[w.heap.size]? = some (.cells #[.int .u8 n0, .int .i64 n1, .int .i64 n2, .int .i64 n3, .int .i64 n4, .int .i64 n5, .bool (n6 == 1), .slice A9 cs.length c9, .int .i64 sd, .int .i64 su, .int .i64 sr, .int .i64 ss, .int .i64 sp] 32 (0, 0)) := boxed_block (by rw [boxed_size]; omega)
    simp [results, Tryz.results46, go_sem, cell_of_row _ _ _ _ _ _ hc]
  · exact ((HCY.out.kept fun i hi _ => (boxed_block_other (by omega)).trans (boxed_block_other (by omega))).more (by omega) (by rw [boxed_size, boxed_size]; exact Nat.le_refl _))
end Go.Proofs.YtblikgbcakgdnaaGreat
