/-
  Another plan: package account's exchanged, Change. No conditions but those that each law names.
-/
import Derived.Test.YtblikgbcakgdnaaGreatBr05
import Derived.Test.YtblikgbcakgdnaaGreatBr16
set_option linter.unusedSimpArgs false
set_option linter.unusedVariables false
namespace Go.Proofs.YtblikgbcakgdnaaGreat
set_option maxRecDepth 100000
open Go.ChangeShapes Go.WideShapes Go.ChangeAt Go.RowKit

/-- Whatever Span answers. -/
theorem span_some (a k d u e day : Int) (h : Cal.At a k d) (u0 : 0 ≤ u) (u1 : u ≤ 3) (e0 : 1 ≤ e) (e1 : e ≤ 1000) (m0 : 0 ≤ day) (m1 : day ≤ 3652058) : ∃ x y z : Int, ∀ w, Calls Tryz.prog 118 #[.int .i64 a, .int .u8 u, .int .i64 e, .int .i64 day] w fun r w' => r = .returned (.tuple #[.int .i64 x, .int .i64 y, .int .i64 z]) ∧ Below w.heap.size w w' := by
  by_cases hd : day < a
  · exact ⟨_, _, _, fun w => span_before a k d u e day w h u0 u1 e0 e1 m0 m1 hd⟩
  · obtain ⟨c, hc⟩ := Cal.cnt_of (u := u) h e0 m0 m1
    cases ho : Cal.okN u a k e c
    · exact ⟨_, _, _, fun w => span_long a k d u e day c w h u0 u1 e0 e1 m0 m1 (by omega) hc ho⟩
    · exact ⟨_, _, _, fun w => span_yes a k d u e day c w h u0 u1 e0 e1 m0 m1 (by omega) hc ho⟩
set_option maxHeartbeats 2000000 in
theorem change_off {w : World} {v : Value} {a : Av} {p q : Pv} {k d : Int} (n y : Int) (hst : a.st ≠ 1) (hAt : Cal.At a.an k d) (hU : 0 ≤ p.u ∧ p.u ≤ 3) (hE : 1 ≤ p.e ∧ p.e ≤ 1000) (hy : 0 ≤ y ∧ y ≤ 3652058) :
    Calls Tryz.prog 98 #[.agg (a.arr v), .agg p.arr, .int .i64 n, .agg q.arr, .int .i64 y] w (Refused w 8) := by
  obtain ⟨x1, x2, x3, hs⟩ := span_some a.an k d p.u p.e y hAt hU.1 hU.2 hE.1 hE.2 hy.1 hy.2
  have HS := Lib.hid hs
  have h1 : (a.st == 1) = false := by simpa using hst
  have h2 : (a.st != 1) = true := by simpa using hst
  clear hs hst hAt
  go_enter Tryz.func98, Tryz.ntmps98
  go_wp2_with (fail)
  refine (HS.out _).mono ?_
  rintro e w1 ⟨rfl, hb⟩
  have hP : w1.heap[w.heap.size]? = some (.cells (a.arr v) 32 (0, 0)) := below_block hb (alloc_old (by simp; omega) (alloc_old (by simp; omega) (alloc_old (by simp) (alloc_at rfl))))
  have hZ : w1.heap[w.heap.size + 1 + 1 + 1]? = some (.cells #[.int .u8 0, .int .i64 0, .int .i64 0, .int .i64 0, .int .i64 0, .int .i64 0, .bool false, .slice none 0 0, .int .i64 0, .int .i64 0, .int .i64 0, .int .i64 0, .int .i64 0] 32 (0, 0)) := below_block hb (alloc_at (by simp))
  have hW : Below w.heap.size w w1 := (((((Below.refl _ w).alloc (Nat.le_refl _) _).alloc (by simp) _).alloc (by simp; omega) _).alloc (by simp; omega) _).trans (hb.mono (by simp; omega))
  have hz : w.heap.size + 1 + 1 + 1 < w1.heap.size := (Array.getElem?_eq_some_iff.1 hZ).1
  have c0 : w1.cell? ⟨w.heap.size, 0, none⟩ = some (.int .u8 a.st) := cell_of_row _ _ _ _ _ _ hP
  have HW := Lib.hid hW
  clear hb hW hP
  go_wp2_with (first | ((with_reducible_and_instances (show wpList _ _ _ (Oper.mk _ (Op.store 32 _ _) _ _ _ _ :: _) _ _)); refine wl_store info13 rfl rfl rfl rfl (by (repeat (first | assumption | (with_reducible refine alloc_at ?_; (focus (first | omega | (simp; done) | (simp; omega)))) | (with_reducible refine boxed_at ?_; (focus (first | omega | (simp; done) | (simp; omega)))) | (with_reducible refine alloc_old ?_ ?_; (focus (first | omega | (simp; done) | (simp; omega)))) | (with_reducible refine boxed_old ?_ ?_; (focus (first | omega | (simp; done) | (simp; omega)))) | (with_reducible refine drew_old ?_)))) (by rfl) (by rfl) (by first | exact Cv.arr_one _ | exact Nv.arr_one _ | exact Av.arr_one rfl | exact Pv.arr_one _ | simp [Value.oneCell']) ?_))
  refine bodyPost_ret (results_row_tmp rfl _ _ (w.heap.size + 1 + 1 + 1) 32 _ (0, 0) _ rfl (boxed_at (by omega)) Tryz.underlying32 rfl (by exact info13)) rfl ?_
  exact ⟨rfl, boxed_below HW.out (by omega)⟩
set_option maxHeartbeats 2000000 in
theorem exchanged_yes {w : World} {p q : Pv} (cr left days : Int) (hp : 0 ≤ p.a ∧ p.a ≤ 100000000000) (hq : 0 ≤ q.a ∧ q.a ≤ 100000000000) (hc : -100000000000 ≤ cr ∧ cr ≤ 100000000000) (h0 : 0 ≤ left) (h1 : left ≤ days) (h2 : 1 ≤ days) (h3 : days ≤ 10000000) :
    Calls Tryz.prog 119 #[.int .i64 cr, .agg p.arr, .agg q.arr, .int .i64 left, .int .i64 days] w fun e w' => e = .returned (.tuple #[.int .i64 (cr + p.a * left / days - q.a * left / days), .int .i64 0]) ∧ Below w.heap.size w w' := by
  have hb1 := Dv.part_bd hp.1 h0 h1 h2
  have hb2 := Dv.part_bd hq.1 h0 h1 h2
  obtain ⟨x, hx⟩ : ∃ x, p.a * left / days = x := ⟨_, rfl⟩
  obtain ⟨z, hzz⟩ : ∃ z, q.a * left / days = z := ⟨_, rfl⟩
  rw [hx] at hb1 ⊢
  rw [hzz] at hb2 ⊢
  have HCH : Hid (∀ w, Calls Tryz.prog 128 #[.agg p.arr, .agg q.arr, .int .i64 left, .int .i64 days] w fun e w' => e = .returned (.tuple #[.int .i64 x, .int .i64 z, .int .i64 0]) ∧ Below w.heap.size w w') := fun w => by
    have := change_yes p.a q.a left days p.u p.e p.t q.u q.e q.t p.g p.l q.g q.l w hp.1 (by omega) hq.1 (by omega) h0 h1 h2 (by omega)
    rw [hx, hzz] at this
    exact this
  clear hx hzz
  go_enter Tryz.func119, Tryz.ntmps119
  go_wp2_with (first | ((with_reducible_and_instances (show wpList _ _ _ (Oper.mk _ (Op.load 44 _) _ _ _ _ :: _) _ _)); refine wl_load Tryz.underlying44 rfl info6p rfl rfl rfl (by (repeat (first | assumption | (with_reducible refine alloc_at ?_; (focus (first | omega | (simp; done) | (simp; omega)))) | (with_reducible refine boxed_at ?_; (focus (first | omega | (simp; done) | (simp; omega)))) | (with_reducible refine alloc_old ?_ ?_; (focus (first | omega | (simp; done) | (simp; omega)))) | (with_reducible refine boxed_old ?_ ?_; (focus (first | omega | (simp; done) | (simp; omega)))) | (with_reducible refine drew_old ?_)))) (by rfl) ?_))
  refine (HCH.out _).mono ?_
  rintro e w1 ⟨rfl, hb⟩
  have HB := Lib.hid (((Below.refl _ w).alloc (Nat.le_refl _) (.cells p.arr 44)).alloc (by simp) (.cells q.arr 44) |>.trans (hb.mono (by simp; omega)))
  clear hb
  go_wp2_with (first | (go_at_call 129; refine (add_yes _ _ _ (by omega) (by omega) (by omega)).mono ?_; rintro e w' ⟨rfl, rfl⟩) | (go_at_call 110; refine (less_yes _ _ _ (by omega) (by omega) (by omega)).mono ?_; rintro e w' ⟨rfl, rfl⟩))
  go_ret2
  exact ⟨rfl, HB.out⟩
/-- Another plan, from the next period on. -/
def Av.changed (a : Av) (n an cr : Int) : Av := { a with pl := n, an := an, ix := 0, cr := cr }
set_option maxHeartbeats 4000000 in
theorem change_go {w : World} {v : Value} {a : Av} {p q : Pv} {k d c : Int} (n y : Int) (hst : a.st = 1) (hn : n ≠ a.pl) (hix : a.ix ≠ 0) (hv : Cys w 0 w.heap.size v a.l) (hs : a.l.length ≤ 100000) (hAt : Cal.At a.an k d) (hU : 0 ≤ p.u ∧ p.u ≤ 3) (hE : 1 ≤ p.e ∧ p.e ≤ 1000) (hy : 0 ≤ y ∧ y ≤ 3652058) (hay : a.an ≤ y) (hcn : Cal.Cnt p.u a.an k d p.e y c) (hok : Cal.okN p.u a.an k p.e c = true)
    (hp : 0 ≤ p.a ∧ p.a ≤ 100000000000) (hq : 0 ≤ q.a ∧ q.a ≤ 100000000000) (hc : -100000000000 ≤ a.cr ∧ a.cr ≤ 100000000000) :
    Calls Tryz.prog 98 #[.agg (a.arr v), .agg p.arr, .int .i64 n, .agg q.arr, .int .i64 y] w (News w (a.changed n (Cal.vN p.u a.an k d p.e c) (a.cr + p.a * (Cal.vN p.u a.an k d p.e c - y) / (Cal.vN p.u a.an k d p.e c - Cal.vN p.u a.an k d p.e (c - 1)) - q.a * (Cal.vN p.u a.an k d p.e c - y) / (Cal.vN p.u a.an k d p.e c - Cal.vN p.u a.an k d p.e (c - 1))))) := by
  have hc1 := hcn.pos hAt hay
  have hlast := hcn.all (c - 1) (by omega) (by omega)
  have hnext := hcn.out hok
  have hbd := Cal.vN_bd hAt hE.1 (show 0 ≤ c by omega) hok
  have hbd2 := Cal.vN_bd hAt hE.1 (show 0 ≤ c - 1 by omega) hlast.1
  have HSP : Hid (∀ w, Calls Tryz.prog 118 #[.int .i64 a.an, .int .u8 p.u, .int .i64 p.e, .int .i64 y] w fun r w' => r = .returned (.tuple #[.int .i64 (Cal.vN p.u a.an k d p.e (c - 1)), .int .i64 (Cal.vN p.u a.an k d p.e c), .int .i64 0]) ∧ Below w.heap.size w w') := fun w => span_yes a.an k d p.u p.e y c w hAt hU.1 hU.2 hE.1 hE.2 hy.1 hy.2 hay hcn hok
  obtain ⟨f1, hf1⟩ : ∃ f1, Cal.vN p.u a.an k d p.e (c - 1) = f1 := ⟨_, rfl⟩
  obtain ⟨f2, hf2⟩ : ∃ f2, Cal.vN p.u a.an k d p.e c = f2 := ⟨_, rfl⟩
  have hl2 := hlast.2
  rw [hf1] at HSP hl2 hbd2 ⊢
  rw [hf2] at HSP hnext hbd ⊢
  clear hf1 hf2 hlast hcn hok hAt
  have HX : Hid (∀ w, Calls Tryz.prog 119 #[.int .i64 a.cr, .agg p.arr, .agg q.arr, .int .i64 (f2 - y), .int .i64 (f2 - f1)] w fun e w' => e = .returned (.tuple #[.int .i64 (a.cr + p.a * (f2 - y) / (f2 - f1) - q.a * (f2 - y) / (f2 - f1)), .int .i64 0]) ∧ Below w.heap.size w w') := fun w => exchanged_yes a.cr (f2 - y) (f2 - f1) hp hq hc (by omega) (by omega) (by omega) (by omega)
  obtain ⟨cr', hcr'⟩ : ∃ cr', a.cr + p.a * (f2 - y) / (f2 - f1) - q.a * (f2 - y) / (f2 - f1) = cr' := ⟨_, rfl⟩
  rw [hcr'] at HX ⊢
  have e1 : wrap64 (f2 - y) = f2 - y := by unfold wrap64; omega
  have e2 : wrap64 (f2 - f1) = f2 - f1 := by unfold wrap64; omega
  have h1 : (a.st == 1) = true := by simpa using hst
  have h2 : (a.st != 1) = false := by simpa using hst
  have h3 : (n == a.pl) = false := by simpa using hn
  have h4 : (a.ix == 0) = false := by simpa using hix
  have h5 : (a.ix != 0) = true := by simpa using hix
  have H := Lib.hid hv
  clear hcr' hst hn hix hv hbd hbd2 hl2 hnext hc1 hp hq hc hay
  go_enter Tryz.func98, Tryz.ntmps98
  go_wp2_with (fail)
  refine (HSP.out _).mono ?_
  rintro e w1 ⟨rfl, hb⟩
  have hP : w1.heap[w.heap.size]? = some (.cells (a.arr v) 32 (0, 0)) := below_block hb (alloc_old (by simp; omega) (alloc_old (by simp; omega) (alloc_old (by simp) (alloc_at rfl))))
  have hA : w1.heap[w.heap.size + 1]? = some (.cells p.arr 44 (0, 0)) := below_block hb (alloc_old (by simp) (alloc_old (by simp) (alloc_at (by simp))))
  have hB : w1.heap[w.heap.size + 1 + 1]? = some (.cells q.arr 44 (0, 0)) := below_block hb (alloc_old (by simp) (alloc_at (by simp)))
  have hZ : w1.heap[w.heap.size + 1 + 1 + 1]? = some (.cells #[.int .u8 0, .int .i64 0, .int .i64 0, .int .i64 0, .int .i64 0, .int .i64 0, .bool false, .slice none 0 0, .int .i64 0, .int .i64 0, .int .i64 0, .int .i64 0, .int .i64 0] 32 (0, 0)) := below_block hb (alloc_at (by simp))
  have hW : Below w.heap.size w w1 := (((((Below.refl _ w).alloc (Nat.le_refl _) _).alloc (by simp) _).alloc (by simp; omega) _).alloc (by simp; omega) _).trans (hb.mono (by simp; omega))
  have hz : w.heap.size + 1 + 1 + 1 < w1.heap.size := (Array.getElem?_eq_some_iff.1 hZ).1
  have hz0 : w.heap.size < w1.heap.size := by omega
  have HW := Lib.hid hW
  have HC : Hid (Cys (boxed w1 w.heap.size (a.arr v) 32) 0 (boxed w1 w.heap.size (a.arr v) 32).heap.size v a.l) := ((H.out.below hW).boxed (.inr (Nat.le_refl _))).more (Nat.le_refl _) (by simp; omega)
  have e := boxed_self hP
  rw [e]
  clear hb hW e H
  go_wp2_with (first | ((with_reducible_and_instances (show wpList _ _ _ (Oper.mk _ (Op.load 32 _) _ _ _ _ :: _) _ _)); refine wl_load Tryz.underlying32 rfl info13 rfl rfl rfl (by (repeat (first | assumption | (with_reducible refine alloc_at ?_; (focus (first | omega | (simp; done) | (simp; omega)))) | (with_reducible refine boxed_at ?_; (focus (first | omega | (simp; done) | (simp; omega)))) | (with_reducible refine alloc_old ?_ ?_; (focus (first | omega | (simp; done) | (simp; omega)))) | (with_reducible refine boxed_old ?_ ?_; (focus (first | omega | (simp; done) | (simp; omega)))) | (with_reducible refine drew_old ?_)))) (by rfl) ?_) | ((with_reducible_and_instances (show wpList _ _ _ (Oper.mk _ (Op.load 44 _) _ _ _ _ :: _) _ _)); refine wl_load Tryz.underlying44 rfl info6p rfl rfl rfl (by (repeat (first | assumption | (with_reducible refine alloc_at ?_; (focus (first | omega | (simp; done) | (simp; omega)))) | (with_reducible refine boxed_at ?_; (focus (first | omega | (simp; done) | (simp; omega)))) | (with_reducible refine alloc_old ?_ ?_; (focus (first | omega | (simp; done) | (simp; omega)))) | (with_reducible refine boxed_old ?_ ?_; (focus (first | omega | (simp; done) | (simp; omega)))) | (with_reducible refine drew_old ?_)))) (by rfl) ?_) | ((with_reducible_and_instances (show wpList _ _ _ (Oper.mk _ (Op.store 32 _ _) _ _ _ _ :: _) _ _)); refine wl_store info13 rfl rfl rfl rfl (by (repeat (first | assumption | (with_reducible refine alloc_at ?_; (focus (first | omega | (simp; done) | (simp; omega)))) | (with_reducible refine boxed_at ?_; (focus (first | omega | (simp; done) | (simp; omega)))) | (with_reducible refine alloc_old ?_ ?_; (focus (first | omega | (simp; done) | (simp; omega)))) | (with_reducible refine boxed_old ?_ ?_; (focus (first | omega | (simp; done) | (simp; omega)))) | (with_reducible refine drew_old ?_)))) (by rfl) (by rfl) (by first | exact Cv.arr_one _ | exact Nv.arr_one _ | exact Av.arr_one rfl | exact Pv.arr_one _ | simp [Value.oneCell']) ?_))
  refine (copy_any (a := a) HC.out (by omega)).mono ?_
  rintro e w2 ⟨v2, rfl, ho2, hb2⟩
  rw [boxed_size] at ho2
  have hP2 : w2.heap[w.heap.size]? = some (.cells (a.arr v) 32 (0, 0)) := below_block hb2 (boxed_at hz0)
  have hA2 : w2.heap[w.heap.size + 1]? = some (.cells p.arr 44 (0, 0)) := below_block hb2 (boxed_old (by omega) hA)
  have hB2 : w2.heap[w.heap.size + 1 + 1]? = some (.cells q.arr 44 (0, 0)) := below_block hb2 (boxed_old (by omega) hB)
  have hZ2 : w2.heap[w.heap.size + 1 + 1 + 1]? = some (.cells #[.int .u8 0, .int .i64 0, .int .i64 0, .int .i64 0, .int .i64 0, .int .i64 0, .bool false, .slice none 0 0, .int .i64 0, .int .i64 0, .int .i64 0, .int .i64 0, .int .i64 0] 32 (0, 0)) := below_block hb2 (boxed_old (by omega) hZ)
  have hW2 : Below w.heap.size w w2 := (boxed_below HW.out (Nat.le_refl _)).trans (hb2.mono (by simp; omega))
  have hz2 : w.heap.size + 1 + 1 + 1 < w2.heap.size := (Array.getElem?_eq_some_iff.1 hZ2).1
  have hz20 : w.heap.size < w2.heap.size := by omega
  obtain ⟨A2, c2, rfl, _, _⟩ := ho2.form
  have HO2 : Hid (Own w2 (w.heap.size + 1 + 1 + 1 + 1) (.slice A2 a.l.length c2) a.l) := ho2.more (by omega)
  have HW2 := Lib.hid hW2
  have e := boxed_self hP2
  rw [e]
  clear e hb2 ho2 hP2 hW2 HC hA hB hZ hP
  go_wp2_with (first | ((with_reducible_and_instances (show wpList _ _ _ (Oper.mk _ (Op.load 32 _) _ _ _ _ :: _) _ _)); refine wl_load Tryz.underlying32 rfl info13 rfl rfl rfl (by (repeat (first | assumption | (with_reducible refine alloc_at ?_; (focus (first | omega | (simp; done) | (simp; omega)))) | (with_reducible refine boxed_at ?_; (focus (first | omega | (simp; done) | (simp; omega)))) | (with_reducible refine alloc_old ?_ ?_; (focus (first | omega | (simp; done) | (simp; omega)))) | (with_reducible refine boxed_old ?_ ?_; (focus (first | omega | (simp; done) | (simp; omega)))) | (with_reducible refine drew_old ?_)))) (by rfl) ?_) | ((with_reducible_and_instances (show wpList _ _ _ (Oper.mk _ (Op.load 44 _) _ _ _ _ :: _) _ _)); refine wl_load Tryz.underlying44 rfl info6p rfl rfl rfl (by (repeat (first | assumption | (with_reducible refine alloc_at ?_; (focus (first | omega | (simp; done) | (simp; omega)))) | (with_reducible refine boxed_at ?_; (focus (first | omega | (simp; done) | (simp; omega)))) | (with_reducible refine alloc_old ?_ ?_; (focus (first | omega | (simp; done) | (simp; omega)))) | (with_reducible refine boxed_old ?_ ?_; (focus (first | omega | (simp; done) | (simp; omega)))) | (with_reducible refine drew_old ?_)))) (by rfl) ?_) | ((with_reducible_and_instances (show wpList _ _ _ (Oper.mk _ (Op.store 32 _ _) _ _ _ _ :: _) _ _)); refine wl_store info13 rfl rfl rfl rfl (by (repeat (first | assumption | (with_reducible refine alloc_at ?_; (focus (first | omega | (simp; done) | (simp; omega)))) | (with_reducible refine boxed_at ?_; (focus (first | omega | (simp; done) | (simp; omega)))) | (with_reducible refine alloc_old ?_ ?_; (focus (first | omega | (simp; done) | (simp; omega)))) | (with_reducible refine boxed_old ?_ ?_; (focus (first | omega | (simp; done) | (simp; omega)))) | (with_reducible refine drew_old ?_)))) (by rfl) (by rfl) (by first | exact Cv.arr_one _ | exact Nv.arr_one _ | exact Av.arr_one rfl | exact Pv.arr_one _ | simp [Value.oneCell']) ?_))
  refine (HX.out _).mono ?_
  rintro e w3 ⟨rfl, hb3⟩
  have hP3 : w3.heap[w.heap.size]? = some (.cells (a.arr (.slice A2 a.l.length c2)) 32 (0, 0)) := below_block hb3 (boxed_at (by omega))
  have hZ3 : w3.heap[w.heap.size + 1 + 1 + 1]? = some (.cells #[.int .u8 0, .int .i64 0, .int .i64 0, .int .i64 0, .int .i64 0, .int .i64 0, .bool false, .slice none 0 0, .int .i64 0, .int .i64 0, .int .i64 0, .int .i64 0, .int .i64 0] 32 (0, 0)) := below_block hb3 (boxed_old (by omega) hZ2)
  have hW3 : Below w.heap.size w w3 := (boxed_below HW2.out (Nat.le_refl _)).trans (hb3.mono (by simp; omega))
  have hz3 : w.heap.size + 1 + 1 + 1 < w3.heap.size := (Array.getElem?_eq_some_iff.1 hZ3).1
  have hz30 : w.heap.size < w3.heap.size := by omega
  have HO3 : Hid (Own w3 (w.heap.size + 1 + 1 + 1 + 1) (.slice A2 a.l.length c2) a.l) := (HO2.out.boxed (by omega)).below hb3
  have HW3 := Lib.hid hW3
  have e := boxed_self hP3
  rw [e]
  clear e hb3 hP3 hW3 hA2 hB2 hZ2
  go_wp2_with (first | ((with_reducible_and_instances (show wpList _ _ _ (Oper.mk _ (Op.load 32 _) _ _ _ _ :: _) _ _)); refine wl_load Tryz.underlying32 rfl info13 rfl rfl rfl (by (repeat (first | assumption | (with_reducible refine alloc_at ?_; (focus (first | omega | (simp; done) | (simp; omega)))) | (with_reducible refine boxed_at ?_; (focus (first | omega | (simp; done) | (simp; omega)))) | (with_reducible refine alloc_old ?_ ?_; (focus (first | omega | (simp; done) | (simp; omega)))) | (with_reducible refine boxed_old ?_ ?_; (focus (first | omega | (simp; done) | (simp; omega)))) | (with_reducible refine drew_old ?_)))) (by rfl) ?_) | ((with_reducible_and_instances (show wpList _ _ _ (Oper.mk _ (Op.load 44 _) _ _ _ _ :: _) _ _)); refine wl_load Tryz.underlying44 rfl info6p rfl rfl rfl (by (repeat (first | assumption | (with_reducible refine alloc_at ?_; (focus (first | omega | (simp; done) | (simp; omega)))) | (with_reducible refine boxed_at ?_; (focus (first | omega | (simp; done) | (simp; omega)))) | (with_reducible refine alloc_old ?_ ?_; (focus (first | omega | (simp; done) | (simp; omega)))) | (with_reducible refine boxed_old ?_ ?_; (focus (first | omega | (simp; done) | (simp; omega)))) | (with_reducible refine drew_old ?_)))) (by rfl) ?_) | ((with_reducible_and_instances (show wpList _ _ _ (Oper.mk _ (Op.store 32 _ _) _ _ _ _ :: _) _ _)); refine wl_store info13 rfl rfl rfl rfl (by (repeat (first | assumption | (with_reducible refine alloc_at ?_; (focus (first | omega | (simp; done) | (simp; omega)))) | (with_reducible refine boxed_at ?_; (focus (first | omega | (simp; done) | (simp; omega)))) | (with_reducible refine alloc_old ?_ ?_; (focus (first | omega | (simp; done) | (simp; omega)))) | (with_reducible refine boxed_old ?_ ?_; (focus (first | omega | (simp; done) | (simp; omega)))) | (with_reducible refine drew_old ?_)))) (by rfl) (by rfl) (by first | exact Cv.arr_one _ | exact Nv.arr_one _ | exact Av.arr_one rfl | exact Pv.arr_one _ | simp [Value.oneCell']) ?_))
  refine bodyPost_ret (results_row_tmp rfl _ _ (w.heap.size + 1 + 1 + 1) 32 _ (0, 0) _ rfl (boxed_at (by simp only [boxed_size]; omega)) Tryz.underlying32 rfl (by exact info13)) rfl ?_
  exact ⟨_, rfl, ((HO3.out.boxed (by omega)).boxed (by omega)).more (by omega), boxed_below (boxed_below HW3.out (Nat.le_refl _)) (by omega)⟩
set_option maxHeartbeats 4000000 in
theorem change_free {w : World} {v : Value} {a : Av} {p q : Pv} {x1 x2 x3 : Int} (n y : Int) (hst : a.st = 1) (hn : n ≠ a.pl) (hv : Cys w 0 w.heap.size v a.l) (hs : a.l.length ≤ 100000) (hsp : ∀ w, Calls Tryz.prog 118 #[.int .i64 a.an, .int .u8 p.u, .int .i64 p.e, .int .i64 y] w fun r w' => r = .returned (.tuple #[.int .i64 x1, .int .i64 x2, .int .i64 x3]) ∧ Below w.heap.size w w') (h6 : x3 ≠ 6) (h0 : x3 ≠ 0 ∨ x3 = 0 ∧ a.ix = 0) :
    Calls Tryz.prog 98 #[.agg (a.arr v), .agg p.arr, .int .i64 n, .agg q.arr, .int .i64 y] w (News w (a.changed n a.an a.cr)) := by
  have HSP := Lib.hid hsp
  have h1 : (a.st == 1) = true := by simpa using hst
  have h2 : (a.st != 1) = false := by simpa using hst
  have h3 : (n == a.pl) = false := by simpa using hn
  have d6 : (x3 == 6) = false := by simpa using h6
  have H := Lib.hid hv
  have hways : (x3 == 0) = false ∨ ((x3 == 0) = true ∧ (a.ix == 0) = true ∧ (a.ix != 0) = false) := by
    rcases h0 with h | ⟨h, h'⟩
    · exact .inl (by simpa using h)
    · exact .inr ⟨by simpa using h, by simpa using h', by simpa using h'⟩
  clear hst hn hv hsp h6 h0
  rcases hways with d0 | ⟨d0, i0, i1⟩
  all_goals
    go_enter Tryz.func98, Tryz.ntmps98
    go_wp2_with (fail)
    refine (HSP.out _).mono ?_
    rintro e w1 ⟨rfl, hb⟩
    have hP : w1.heap[w.heap.size]? = some (.cells (a.arr v) 32 (0, 0)) := below_block hb (alloc_old (by simp; omega) (alloc_old (by simp; omega) (alloc_old (by simp) (alloc_at rfl))))
    have hZ : w1.heap[w.heap.size + 1 + 1 + 1]? = some (.cells #[.int .u8 0, .int .i64 0, .int .i64 0, .int .i64 0, .int .i64 0, .int .i64 0, .bool false, .slice none 0 0, .int .i64 0, .int .i64 0, .int .i64 0, .int .i64 0, .int .i64 0] 32 (0, 0)) := below_block hb (alloc_at (by simp))
    have hW : Below w.heap.size w w1 := (((((Below.refl _ w).alloc (Nat.le_refl _) _).alloc (by simp) _).alloc (by simp; omega) _).alloc (by simp; omega) _).trans (hb.mono (by simp; omega))
    have hz : w.heap.size + 1 + 1 + 1 < w1.heap.size := (Array.getElem?_eq_some_iff.1 hZ).1
    have hz0 : w.heap.size < w1.heap.size := by omega
    have HW := Lib.hid hW
    have HC : Hid (Cys (boxed w1 w.heap.size (a.arr v) 32) 0 (boxed w1 w.heap.size (a.arr v) 32).heap.size v a.l) := ((H.out.below hW).boxed (.inr (Nat.le_refl _))).more (Nat.le_refl _) (by simp; omega)
    have e := boxed_self hP
    rw [e]
    clear hb hW e H hP
    go_wp2_with (first | ((with_reducible_and_instances (show wpList _ _ _ (Oper.mk _ (Op.load 32 _) _ _ _ _ :: _) _ _)); refine wl_load Tryz.underlying32 rfl info13 rfl rfl rfl (by (repeat (first | assumption | (with_reducible refine alloc_at ?_; (focus (first | omega | (simp; done) | (simp; omega)))) | (with_reducible refine boxed_at ?_; (focus (first | omega | (simp; done) | (simp; omega)))) | (with_reducible refine alloc_old ?_ ?_; (focus (first | omega | (simp; done) | (simp; omega)))) | (with_reducible refine boxed_old ?_ ?_; (focus (first | omega | (simp; done) | (simp; omega)))) | (with_reducible refine drew_old ?_)))) (by rfl) ?_) | ((with_reducible_and_instances (show wpList _ _ _ (Oper.mk _ (Op.load 44 _) _ _ _ _ :: _) _ _)); refine wl_load Tryz.underlying44 rfl info6p rfl rfl rfl (by (repeat (first | assumption | (with_reducible refine alloc_at ?_; (focus (first | omega | (simp; done) | (simp; omega)))) | (with_reducible refine boxed_at ?_; (focus (first | omega | (simp; done) | (simp; omega)))) | (with_reducible refine alloc_old ?_ ?_; (focus (first | omega | (simp; done) | (simp; omega)))) | (with_reducible refine boxed_old ?_ ?_; (focus (first | omega | (simp; done) | (simp; omega)))) | (with_reducible refine drew_old ?_)))) (by rfl) ?_) | ((with_reducible_and_instances (show wpList _ _ _ (Oper.mk _ (Op.store 32 _ _) _ _ _ _ :: _) _ _)); refine wl_store info13 rfl rfl rfl rfl (by (repeat (first | assumption | (with_reducible refine alloc_at ?_; (focus (first | omega | (simp; done) | (simp; omega)))) | (with_reducible refine boxed_at ?_; (focus (first | omega | (simp; done) | (simp; omega)))) | (with_reducible refine alloc_old ?_ ?_; (focus (first | omega | (simp; done) | (simp; omega)))) | (with_reducible refine boxed_old ?_ ?_; (focus (first | omega | (simp; done) | (simp; omega)))) | (with_reducible refine drew_old ?_)))) (by rfl) (by rfl) (by first | exact Cv.arr_one _ | exact Nv.arr_one _ | exact Av.arr_one rfl | exact Pv.arr_one _ | simp [Value.oneCell']) ?_))
    refine (copy_any (a := a) HC.out (by omega)).mono ?_
    rintro e w2 ⟨v2, rfl, ho2, hb2⟩
    rw [boxed_size] at ho2
    have hP2 : w2.heap[w.heap.size]? = some (.cells (a.arr v) 32 (0, 0)) := below_block hb2 (boxed_at hz0)
    have hZ2 : w2.heap[w.heap.size + 1 + 1 + 1]? = some (.cells #[.int .u8 0, .int .i64 0, .int .i64 0, .int .i64 0, .int .i64 0, .int .i64 0, .bool false, .slice none 0 0, .int .i64 0, .int .i64 0, .int .i64 0, .int .i64 0, .int .i64 0] 32 (0, 0)) := below_block hb2 (boxed_old (by omega) hZ)
    have hW2 : Below w.heap.size w w2 := (boxed_below HW.out (Nat.le_refl _)).trans (hb2.mono (by simp; omega))
    have hz2 : w.heap.size + 1 + 1 + 1 < w2.heap.size := (Array.getElem?_eq_some_iff.1 hZ2).1
    have hz20 : w.heap.size < w2.heap.size := by omega
    obtain ⟨A2, c2, rfl, _, _⟩ := ho2.form
    have HO2 : Hid (Own w2 (w.heap.size + 1 + 1 + 1 + 1) (.slice A2 a.l.length c2) a.l) := ho2.more (by omega)
    have HW2 := Lib.hid hW2
    have e := boxed_self hP2
    rw [e]
    clear e hb2 ho2 hP2 hW2 HC hZ
    go_wp2_with (first | ((with_reducible_and_instances (show wpList _ _ _ (Oper.mk _ (Op.load 32 _) _ _ _ _ :: _) _ _)); refine wl_load Tryz.underlying32 rfl info13 rfl rfl rfl (by (repeat (first | assumption | (with_reducible refine alloc_at ?_; (focus (first | omega | (simp; done) | (simp; omega)))) | (with_reducible refine boxed_at ?_; (focus (first | omega | (simp; done) | (simp; omega)))) | (with_reducible refine alloc_old ?_ ?_; (focus (first | omega | (simp; done) | (simp; omega)))) | (with_reducible refine boxed_old ?_ ?_; (focus (first | omega | (simp; done) | (simp; omega)))) | (with_reducible refine drew_old ?_)))) (by rfl) ?_) | ((with_reducible_and_instances (show wpList _ _ _ (Oper.mk _ (Op.load 44 _) _ _ _ _ :: _) _ _)); refine wl_load Tryz.underlying44 rfl info6p rfl rfl rfl (by (repeat (first | assumption | (with_reducible refine alloc_at ?_; (focus (first | omega | (simp; done) | (simp; omega)))) | (with_reducible refine boxed_at ?_; (focus (first | omega | (simp; done) | (simp; omega)))) | (with_reducible refine alloc_old ?_ ?_; (focus (first | omega | (simp; done) | (simp; omega)))) | (with_reducible refine boxed_old ?_ ?_; (focus (first | omega | (simp; done) | (simp; omega)))) | (with_reducible refine drew_old ?_)))) (by rfl) ?_) | ((with_reducible_and_instances (show wpList _ _ _ (Oper.mk _ (Op.store 32 _ _) _ _ _ _ :: _) _ _)); refine wl_store info13 rfl rfl rfl rfl (by (repeat (first | assumption | (with_reducible refine alloc_at ?_; (focus (first | omega | (simp; done) | (simp; omega)))) | (with_reducible refine boxed_at ?_; (focus (first | omega | (simp; done) | (simp; omega)))) | (with_reducible refine alloc_old ?_ ?_; (focus (first | omega | (simp; done) | (simp; omega)))) | (with_reducible refine boxed_old ?_ ?_; (focus (first | omega | (simp; done) | (simp; omega)))) | (with_reducible refine drew_old ?_)))) (by rfl) (by rfl) (by first | exact Cv.arr_one _ | exact Nv.arr_one _ | exact Av.arr_one rfl | exact Pv.arr_one _ | simp [Value.oneCell']) ?_))
    refine bodyPost_ret (results_row_tmp rfl _ _ (w.heap.size + 1 + 1 + 1) 32 _ (0, 0) _ rfl (boxed_at (by simp only [boxed_size]; omega)) Tryz.underlying32 rfl (by exact info13)) rfl ?_
    exact ⟨_, rfl, ((HO2.out.boxed (by omega)).boxed (by omega)).more (by omega), boxed_below (boxed_below HW2.out (Nat.le_refl _)) (by omega)⟩
end Go.Proofs.YtblikgbcakgdnaaGreat
