/-
  Package account's small calls: Open, Name, goesOn, turned, Pause, Resume, Skip, Cancel, Card. No conditions but the sizes.
-/
import Derived.Test.YtblikgbcakgdnaaGreatBr15
set_option linter.unusedSimpArgs false
set_option linter.unusedVariables false
namespace Go.Proofs.YtblikgbcakgdnaaGreat
set_option maxRecDepth 20000
open Go.ChangeShapes Go.WideShapes Go.ChangeAt Go.RowKit

def Av.opened (n an : Int) : Av := ⟨1, n, an, 0, 0, 0, false, [], 0, 0, 0, 0, 0⟩
/-- What is answered by an error: no subscription. -/
def Refused (w : World) (x : Int) (e : Ending) (w' : World) : Prop := e = .returned (.tuple #[.agg (Av.zero.arr (.slice none 0 0)), .int .i64 x]) ∧ Below w.heap.size w w'
set_option maxHeartbeats 1000000 in
theorem open_any {w : World} {p : Pv} (n y : Int) (h : -1000000000000 ≤ y + p.t ∧ y + p.t ≤ 1000000000000) : Calls Tryz.prog 59 #[.int .i64 n, .agg p.arr, .int .i64 y] w fun e w' => e = .returned (.agg ((Av.opened n (y + p.t)).arr (.slice none 0 0))) ∧ Below w.heap.size w w' := by
  have ew : wrap64 (y + p.t) = y + p.t := by unfold wrap64; omega
  go_enter Tryz.func59, Tryz.ntmps59
  go_wp2
  refine bodyPost_ret (v := .agg ((Av.opened n (y + p.t)).arr (.slice none 0 0))) ?_ rfl ⟨rfl, by go_grown⟩
  simp [results, Tryz.results59, go_sem, Av.opened, Av.arr]
def Av.live (a : Av) : Bool := a.st == 1 || a.st == 2
set_option maxHeartbeats 1000000 in
theorem goeson_any {w : World} {v : Value} {a : Av} : Calls Tryz.prog 95 #[.agg (a.arr v)] w fun e w' => e = .returned (.bool a.live) ∧ Below w.heap.size w w' := by
  unfold Av.live
  cases h1 : (a.st == 1)
  · cases h2 : (a.st == 2)
    all_goals
      go_enter Tryz.func95, Tryz.ntmps95
      go_wp2
      go_ret
      exact ⟨rfl, by go_grown⟩
  · go_enter Tryz.func95, Tryz.ntmps95
    go_wp2
    go_ret
    exact ⟨rfl, by go_grown⟩
set_option maxHeartbeats 1000000 in
theorem turned_no {w : World} {v : Value} {a : Av} (f t : Int) (h : a.st ≠ f) : Calls Tryz.prog 94 #[.agg (a.arr v), .int .u8 f, .int .u8 t] w (Refused w 8) := by
  have h1 : (a.st == f) = false := by simpa using h
  have h2 : (a.st != f) = true := by simpa using h
  clear h
  go_enter Tryz.func94, Tryz.ntmps94
  go_wp2
  refine bodyPost_ret (v := .tuple #[.agg (Av.zero.arr (.slice none 0 0)), .int .i64 8]) ?_ rfl ⟨rfl, by go_grown⟩
  simp [results, Tryz.results94, go_sem, Av.zero, Av.arr]
set_option maxHeartbeats 1000000 in
theorem turned_yes {w : World} {v : Value} {a : Av} (f t : Int) (h : a.st = f) (hv : Cys w 0 w.heap.size v a.l) (hs : a.l.length ≤ 1000000) : Calls Tryz.prog 94 #[.agg (a.arr v), .int .u8 f, .int .u8 t] w (News w { a with st := t }) := by
  have h1 : (a.st == f) = true := by simpa using h
  have h2 : (a.st != f) = false := by simpa using h
  have H := Lib.hid hv
  clear h hv
  go_enter Tryz.func94, Tryz.ntmps94
  go_wp2_with (first | ((with_reducible_and_instances (show wpList _ _ _ (Oper.mk _ (Op.load 32 _) _ _ _ _ :: _) _ _)); refine wl_load Tryz.underlying32 rfl info13 rfl rfl rfl (by (repeat (first | assumption | (with_reducible refine alloc_at ?_; (focus (first | omega | (simp; done) | (simp; omega)))) | (with_reducible refine boxed_at ?_; (focus (first | omega | (simp; done) | (simp; omega)))) | (with_reducible refine alloc_old ?_ ?_; (focus (first | omega | (simp; done) | (simp; omega)))) | (with_reducible refine boxed_old ?_ ?_; (focus (first | omega | (simp; done) | (simp; omega)))) | (with_reducible refine drew_old ?_)))) (by rfl) ?_))
  refine (copy_any (a := a) ((H.out.below (((Below.refl _ w).alloc (Nat.le_refl _) _).alloc (by simp) _)).more (Nat.le_refl _) (by simp; omega)) hs).mono ?_
  rintro e w1 ⟨v1, rfl, ho, hb⟩
  rw [World.size_alloc, World.size_alloc] at ho
  obtain ⟨A1, c1, rfl, _, _⟩ := ho.form
  have HO := Lib.hid ho
  obtain ⟨hw, z0, z1, e1⟩ := two_of hb
  rw [e1]
  have HW := Lib.hid hw
  clear e1 hb hw ho H
  go_wp2_with (first | ((with_reducible_and_instances (show wpList _ _ _ (Oper.mk _ (Op.load 32 _) _ _ _ _ :: _) _ _)); refine wl_load Tryz.underlying32 rfl info13 rfl rfl rfl (by (repeat (first | assumption | (with_reducible refine alloc_at ?_; (focus (first | omega | (simp; done) | (simp; omega)))) | (with_reducible refine boxed_at ?_; (focus (first | omega | (simp; done) | (simp; omega)))) | (with_reducible refine alloc_old ?_ ?_; (focus (first | omega | (simp; done) | (simp; omega)))) | (with_reducible refine boxed_old ?_ ?_; (focus (first | omega | (simp; done) | (simp; omega)))) | (with_reducible refine drew_old ?_)))) (by rfl) ?_) | ((with_reducible_and_instances (show wpList _ _ _ (Oper.mk _ (Op.store 32 _ _) _ _ _ _ :: _) _ _)); refine wl_store info13 rfl rfl rfl rfl (by (repeat (first | assumption | (with_reducible refine alloc_at ?_; (focus (first | omega | (simp; done) | (simp; omega)))) | (with_reducible refine boxed_at ?_; (focus (first | omega | (simp; done) | (simp; omega)))) | (with_reducible refine alloc_old ?_ ?_; (focus (first | omega | (simp; done) | (simp; omega)))) | (with_reducible refine boxed_old ?_ ?_; (focus (first | omega | (simp; done) | (simp; omega)))) | (with_reducible refine drew_old ?_)))) (by rfl) (by rfl) (by first | exact Cv.arr_one _ | exact Nv.arr_one _ | exact Av.arr_one rfl | simp [Value.oneCell']) ?_))
  refine bodyPost_ret (results_row_tmp rfl _ _ (w.heap.size+1) 32 _ (0, 0) _ rfl (boxed_at (by simp only [boxed_size]; omega)) Tryz.underlying32 rfl (by exact info13)) rfl ?_
  have ho := HO.out
  have hw := HW.out
  have hx : w.heap.size + 1 + 1 ≤ w1.heap.size := by omega
  exact ⟨_, rfl, Own.more (b := w.heap.size + 1 + 1) ((((ho.boxed (by omega)).boxed (by omega)).boxed (by omega)).boxed (by omega)) (by omega), boxed_below (boxed_below (boxed_below (boxed_below hw (Nat.le_refl _)) (by omega)) (Nat.le_refl _)) (by omega)⟩
set_option maxHeartbeats 1000000 in
theorem pause_no {w : World} {v : Value} {a : Av} (h : a.st ≠ 1) : Calls Tryz.prog 61 #[.agg (a.arr v)] w (Refused w 8) := by
  have H := Lib.hid h
  clear h
  go_enter Tryz.func61, Tryz.ntmps61
  go_wp2_with (first | ((with_reducible_and_instances (show wpList _ _ _ (Oper.mk _ (Op.load 32 _) _ _ _ _ :: _) _ _)); refine wl_load Tryz.underlying32 rfl info13 rfl rfl rfl (by (repeat (first | assumption | (with_reducible refine alloc_at ?_; (focus (first | omega | (simp; done) | (simp; omega)))) | (with_reducible refine boxed_at ?_; (focus (first | omega | (simp; done) | (simp; omega)))) | (with_reducible refine alloc_old ?_ ?_; (focus (first | omega | (simp; done) | (simp; omega)))) | (with_reducible refine boxed_old ?_ ?_; (focus (first | omega | (simp; done) | (simp; omega)))) | (with_reducible refine drew_old ?_)))) (by rfl) ?_))
  refine (turned_no (a := a) 1 2 H.out).mono ?_
  rintro e w1 ⟨rfl, hb⟩
  obtain ⟨hw, z0, z1, e1⟩ := two_of hb
  rw [e1]
  have HW := Lib.hid hw
  clear e1 hb hw
  go_wp2_with (first | ((with_reducible_and_instances (show wpList _ _ _ (Oper.mk _ (Op.load 32 _) _ _ _ _ :: _) _ _)); refine wl_load Tryz.underlying32 rfl info13 rfl rfl rfl (by (repeat (first | assumption | (with_reducible refine alloc_at ?_; (focus (first | omega | (simp; done) | (simp; omega)))) | (with_reducible refine boxed_at ?_; (focus (first | omega | (simp; done) | (simp; omega)))) | (with_reducible refine alloc_old ?_ ?_; (focus (first | omega | (simp; done) | (simp; omega)))) | (with_reducible refine boxed_old ?_ ?_; (focus (first | omega | (simp; done) | (simp; omega)))) | (with_reducible refine drew_old ?_)))) (by rfl) ?_) | ((with_reducible_and_instances (show wpList _ _ _ (Oper.mk _ (Op.store 32 _ _) _ _ _ _ :: _) _ _)); refine wl_store info13 rfl rfl rfl rfl (by (repeat (first | assumption | (with_reducible refine alloc_at ?_; (focus (first | omega | (simp; done) | (simp; omega)))) | (with_reducible refine boxed_at ?_; (focus (first | omega | (simp; done) | (simp; omega)))) | (with_reducible refine alloc_old ?_ ?_; (focus (first | omega | (simp; done) | (simp; omega)))) | (with_reducible refine boxed_old ?_ ?_; (focus (first | omega | (simp; done) | (simp; omega)))) | (with_reducible refine drew_old ?_)))) (by rfl) (by rfl) (by first | exact Cv.arr_one _ | exact Nv.arr_one _ | exact Av.arr_one rfl | simp [Value.oneCell']) ?_))
  refine bodyPost_ret (results_row_tmp rfl _ _ (w.heap.size+1) 32 _ (0, 0) _ rfl (boxed_at (by simp only [boxed_size]; omega)) Tryz.underlying32 rfl (by exact info13)) rfl ?_
  have hw := HW.out
  exact ⟨rfl, by (repeat (first | assumption | (with_reducible exact Below.refl _ _) | (with_reducible refine boxed_below ?_ ?_; rotate_left; (focus (first | omega | (simp; done) | (simp; omega)))) | (with_reducible refine Below.alloc ?_ ?_ _; rotate_left; (focus (first | omega | (simp; done) | (simp; omega)))) | (with_reducible refine Below.drew ?_)))⟩
set_option maxHeartbeats 1000000 in
theorem pause_yes {w : World} {v : Value} {a : Av} (h : a.st = 1) (hv : Cys w 0 w.heap.size v a.l) (hs : a.l.length ≤ 1000000) : Calls Tryz.prog 61 #[.agg (a.arr v)] w (News w { a with st := 2 }) := by
  have HS := Lib.hid h
  have H := Lib.hid hv
  clear h hv
  go_enter Tryz.func61, Tryz.ntmps61
  go_wp2_with (first | ((with_reducible_and_instances (show wpList _ _ _ (Oper.mk _ (Op.load 32 _) _ _ _ _ :: _) _ _)); refine wl_load Tryz.underlying32 rfl info13 rfl rfl rfl (by (repeat (first | assumption | (with_reducible refine alloc_at ?_; (focus (first | omega | (simp; done) | (simp; omega)))) | (with_reducible refine boxed_at ?_; (focus (first | omega | (simp; done) | (simp; omega)))) | (with_reducible refine alloc_old ?_ ?_; (focus (first | omega | (simp; done) | (simp; omega)))) | (with_reducible refine boxed_old ?_ ?_; (focus (first | omega | (simp; done) | (simp; omega)))) | (with_reducible refine drew_old ?_)))) (by rfl) ?_))
  refine (turned_yes (a := a) 1 2 HS.out ((H.out.below (((Below.refl _ w).alloc (Nat.le_refl _) _).alloc (by simp) _)).more (Nat.le_refl _) (by simp; omega)) hs).mono ?_
  rintro e w1 ⟨v1, rfl, ho, hb⟩
  rw [World.size_alloc, World.size_alloc] at ho
  obtain ⟨A1, c1, rfl, _, _⟩ := ho.form
  have HO := Lib.hid ho
  obtain ⟨hw, z0, z1, e1⟩ := two_of hb
  rw [e1]
  have HW := Lib.hid hw
  clear e1 hb hw ho H
  go_wp2_with (first | ((with_reducible_and_instances (show wpList _ _ _ (Oper.mk _ (Op.load 32 _) _ _ _ _ :: _) _ _)); refine wl_load Tryz.underlying32 rfl info13 rfl rfl rfl (by (repeat (first | assumption | (with_reducible refine alloc_at ?_; (focus (first | omega | (simp; done) | (simp; omega)))) | (with_reducible refine boxed_at ?_; (focus (first | omega | (simp; done) | (simp; omega)))) | (with_reducible refine alloc_old ?_ ?_; (focus (first | omega | (simp; done) | (simp; omega)))) | (with_reducible refine boxed_old ?_ ?_; (focus (first | omega | (simp; done) | (simp; omega)))) | (with_reducible refine drew_old ?_)))) (by rfl) ?_) | ((with_reducible_and_instances (show wpList _ _ _ (Oper.mk _ (Op.store 32 _ _) _ _ _ _ :: _) _ _)); refine wl_store info13 rfl rfl rfl rfl (by (repeat (first | assumption | (with_reducible refine alloc_at ?_; (focus (first | omega | (simp; done) | (simp; omega)))) | (with_reducible refine boxed_at ?_; (focus (first | omega | (simp; done) | (simp; omega)))) | (with_reducible refine alloc_old ?_ ?_; (focus (first | omega | (simp; done) | (simp; omega)))) | (with_reducible refine boxed_old ?_ ?_; (focus (first | omega | (simp; done) | (simp; omega)))) | (with_reducible refine drew_old ?_)))) (by rfl) (by rfl) (by first | exact Cv.arr_one _ | exact Nv.arr_one _ | exact Av.arr_one rfl | simp [Value.oneCell']) ?_))
  refine bodyPost_ret (results_row_tmp rfl _ _ (w.heap.size+1) 32 _ (0, 0) _ rfl (boxed_at (by simp only [boxed_size]; omega)) Tryz.underlying32 rfl (by exact info13)) rfl ?_
  have ho := HO.out
  have hw := HW.out
  have hx : w.heap.size + 1 + 1 ≤ w1.heap.size := by omega
  exact ⟨_, rfl, Own.more (b := w.heap.size + 1 + 1) (by (repeat (first | assumption | (with_reducible refine Own.boxed ?_ ?_; rotate_left; (focus (first | omega | (simp; done) | (simp; omega)))) | (with_reducible refine Own.alloc ?_) | (with_reducible refine Own.drew ?_)))) (by omega), by (repeat (first | assumption | (with_reducible exact Below.refl _ _) | (with_reducible refine boxed_below ?_ ?_; rotate_left; (focus (first | omega | (simp; done) | (simp; omega)))) | (with_reducible refine Below.alloc ?_ ?_ _; rotate_left; (focus (first | omega | (simp; done) | (simp; omega)))) | (with_reducible refine Below.drew ?_)))⟩
set_option maxHeartbeats 1000000 in
theorem resume_no {w : World} {v : Value} {a : Av} (h : a.st ≠ 2) : Calls Tryz.prog 62 #[.agg (a.arr v)] w (Refused w 8) := by
  have H := Lib.hid h
  clear h
  go_enter Tryz.func62, Tryz.ntmps62
  go_wp2_with (first | ((with_reducible_and_instances (show wpList _ _ _ (Oper.mk _ (Op.load 32 _) _ _ _ _ :: _) _ _)); refine wl_load Tryz.underlying32 rfl info13 rfl rfl rfl (by (repeat (first | assumption | (with_reducible refine alloc_at ?_; (focus (first | omega | (simp; done) | (simp; omega)))) | (with_reducible refine boxed_at ?_; (focus (first | omega | (simp; done) | (simp; omega)))) | (with_reducible refine alloc_old ?_ ?_; (focus (first | omega | (simp; done) | (simp; omega)))) | (with_reducible refine boxed_old ?_ ?_; (focus (first | omega | (simp; done) | (simp; omega)))) | (with_reducible refine drew_old ?_)))) (by rfl) ?_))
  refine (turned_no (a := a) 2 1 H.out).mono ?_
  rintro e w1 ⟨rfl, hb⟩
  obtain ⟨hw, z0, z1, e1⟩ := two_of hb
  rw [e1]
  have HW := Lib.hid hw
  clear e1 hb hw
  go_wp2_with (first | ((with_reducible_and_instances (show wpList _ _ _ (Oper.mk _ (Op.load 32 _) _ _ _ _ :: _) _ _)); refine wl_load Tryz.underlying32 rfl info13 rfl rfl rfl (by (repeat (first | assumption | (with_reducible refine alloc_at ?_; (focus (first | omega | (simp; done) | (simp; omega)))) | (with_reducible refine boxed_at ?_; (focus (first | omega | (simp; done) | (simp; omega)))) | (with_reducible refine alloc_old ?_ ?_; (focus (first | omega | (simp; done) | (simp; omega)))) | (with_reducible refine boxed_old ?_ ?_; (focus (first | omega | (simp; done) | (simp; omega)))) | (with_reducible refine drew_old ?_)))) (by rfl) ?_) | ((with_reducible_and_instances (show wpList _ _ _ (Oper.mk _ (Op.store 32 _ _) _ _ _ _ :: _) _ _)); refine wl_store info13 rfl rfl rfl rfl (by (repeat (first | assumption | (with_reducible refine alloc_at ?_; (focus (first | omega | (simp; done) | (simp; omega)))) | (with_reducible refine boxed_at ?_; (focus (first | omega | (simp; done) | (simp; omega)))) | (with_reducible refine alloc_old ?_ ?_; (focus (first | omega | (simp; done) | (simp; omega)))) | (with_reducible refine boxed_old ?_ ?_; (focus (first | omega | (simp; done) | (simp; omega)))) | (with_reducible refine drew_old ?_)))) (by rfl) (by rfl) (by first | exact Cv.arr_one _ | exact Nv.arr_one _ | exact Av.arr_one rfl | simp [Value.oneCell']) ?_))
  refine bodyPost_ret (results_row_tmp rfl _ _ (w.heap.size+1) 32 _ (0, 0) _ rfl (boxed_at (by simp only [boxed_size]; omega)) Tryz.underlying32 rfl (by exact info13)) rfl ?_
  have hw := HW.out
  exact ⟨rfl, by (repeat (first | assumption | (with_reducible exact Below.refl _ _) | (with_reducible refine boxed_below ?_ ?_; rotate_left; (focus (first | omega | (simp; done) | (simp; omega)))) | (with_reducible refine Below.alloc ?_ ?_ _; rotate_left; (focus (first | omega | (simp; done) | (simp; omega)))) | (with_reducible refine Below.drew ?_)))⟩
set_option maxHeartbeats 1000000 in
theorem resume_yes {w : World} {v : Value} {a : Av} (h : a.st = 2) (hv : Cys w 0 w.heap.size v a.l) (hs : a.l.length ≤ 1000000) : Calls Tryz.prog 62 #[.agg (a.arr v)] w (News w { a with st := 1 }) := by
  have HS := Lib.hid h
  have H := Lib.hid hv
  clear h hv
  go_enter Tryz.func62, Tryz.ntmps62
  go_wp2_with (first | ((with_reducible_and_instances (show wpList _ _ _ (Oper.mk _ (Op.load 32 _) _ _ _ _ :: _) _ _)); refine wl_load Tryz.underlying32 rfl info13 rfl rfl rfl (by (repeat (first | assumption | (with_reducible refine alloc_at ?_; (focus (first | omega | (simp; done) | (simp; omega)))) | (with_reducible refine boxed_at ?_; (focus (first | omega | (simp; done) | (simp; omega)))) | (with_reducible refine alloc_old ?_ ?_; (focus (first | omega | (simp; done) | (simp; omega)))) | (with_reducible refine boxed_old ?_ ?_; (focus (first | omega | (simp; done) | (simp; omega)))) | (with_reducible refine drew_old ?_)))) (by rfl) ?_))
  refine (turned_yes (a := a) 2 1 HS.out ((H.out.below (((Below.refl _ w).alloc (Nat.le_refl _) _).alloc (by simp) _)).more (Nat.le_refl _) (by simp; omega)) hs).mono ?_
  rintro e w1 ⟨v1, rfl, ho, hb⟩
  rw [World.size_alloc, World.size_alloc] at ho
  obtain ⟨A1, c1, rfl, _, _⟩ := ho.form
  have HO := Lib.hid ho
  obtain ⟨hw, z0, z1, e1⟩ := two_of hb
  rw [e1]
  have HW := Lib.hid hw
  clear e1 hb hw ho H
  go_wp2_with (first | ((with_reducible_and_instances (show wpList _ _ _ (Oper.mk _ (Op.load 32 _) _ _ _ _ :: _) _ _)); refine wl_load Tryz.underlying32 rfl info13 rfl rfl rfl (by (repeat (first | assumption | (with_reducible refine alloc_at ?_; (focus (first | omega | (simp; done) | (simp; omega)))) | (with_reducible refine boxed_at ?_; (focus (first | omega | (simp; done) | (simp; omega)))) | (with_reducible refine alloc_old ?_ ?_; (focus (first | omega | (simp; done) | (simp; omega)))) | (with_reducible refine boxed_old ?_ ?_; (focus (first | omega | (simp; done) | (simp; omega)))) | (with_reducible refine drew_old ?_)))) (by rfl) ?_) | ((with_reducible_and_instances (show wpList _ _ _ (Oper.mk _ (Op.store 32 _ _) _ _ _ _ :: _) _ _)); refine wl_store info13 rfl rfl rfl rfl (by (repeat (first | assumption | (with_reducible refine alloc_at ?_; (focus (first | omega | (simp; done) | (simp; omega)))) | (with_reducible refine boxed_at ?_; (focus (first | omega | (simp; done) | (simp; omega)))) | (with_reducible refine alloc_old ?_ ?_; (focus (first | omega | (simp; done) | (simp; omega)))) | (with_reducible refine boxed_old ?_ ?_; (focus (first | omega | (simp; done) | (simp; omega)))) | (with_reducible refine drew_old ?_)))) (by rfl) (by rfl) (by first | exact Cv.arr_one _ | exact Nv.arr_one _ | exact Av.arr_one rfl | simp [Value.oneCell']) ?_))
  refine bodyPost_ret (results_row_tmp rfl _ _ (w.heap.size+1) 32 _ (0, 0) _ rfl (boxed_at (by simp only [boxed_size]; omega)) Tryz.underlying32 rfl (by exact info13)) rfl ?_
  have ho := HO.out
  have hw := HW.out
  have hx : w.heap.size + 1 + 1 ≤ w1.heap.size := by omega
  exact ⟨_, rfl, Own.more (b := w.heap.size + 1 + 1) (by (repeat (first | assumption | (with_reducible refine Own.boxed ?_ ?_; rotate_left; (focus (first | omega | (simp; done) | (simp; omega)))) | (with_reducible refine Own.alloc ?_) | (with_reducible refine Own.drew ?_)))) (by omega), by (repeat (first | assumption | (with_reducible exact Below.refl _ _) | (with_reducible refine boxed_below ?_ ?_; rotate_left; (focus (first | omega | (simp; done) | (simp; omega)))) | (with_reducible refine Below.alloc ?_ ?_ _; rotate_left; (focus (first | omega | (simp; done) | (simp; omega)))) | (with_reducible refine Below.drew ?_)))⟩
set_option maxHeartbeats 1000000 in
theorem skip_no {w : World} {v : Value} {a : Av} (h : a.live = false ∨ a.live = true ∧ a.sk = true) : Calls Tryz.prog 63 #[.agg (a.arr v)] w (Refused w 8) := by
  rcases h with h | ⟨h, hk⟩
  all_goals
    go_enter Tryz.func63, Tryz.ntmps63
    go_wp2_with (first | ((with_reducible_and_instances (show wpList _ _ _ (Oper.mk _ (Op.load 32 _) _ _ _ _ :: _) _ _)); refine wl_load Tryz.underlying32 rfl info13 rfl rfl rfl (by (repeat (first | assumption | (with_reducible refine alloc_at ?_; (focus (first | omega | (simp; done) | (simp; omega)))) | (with_reducible refine boxed_at ?_; (focus (first | omega | (simp; done) | (simp; omega)))) | (with_reducible refine alloc_old ?_ ?_; (focus (first | omega | (simp; done) | (simp; omega)))) | (with_reducible refine boxed_old ?_ ?_; (focus (first | omega | (simp; done) | (simp; omega)))) | (with_reducible refine drew_old ?_)))) (by rfl) ?_))
    refine (goeson_any (a := a)).mono ?_
    rw [h]
    rintro e w1 ⟨rfl, hb⟩
    obtain ⟨hw, z0, z1, e1⟩ := two_of hb
    rw [e1]
    have HW := Lib.hid hw
    clear e1 hb hw
    go_wp2
    refine bodyPost_ret (v := .tuple #[.agg (Av.zero.arr (.slice none 0 0)), .int .i64 8]) ?_ rfl ⟨rfl, boxed_below (boxed_below HW.out (Nat.le_refl _)) (by omega)⟩
    simp [results, Tryz.results63, go_sem, Av.zero, Av.arr, z1]
set_option maxHeartbeats 1000000 in
theorem cancel_no {w : World} {v : Value} {a : Av} (h : a.live = false) : Calls Tryz.prog 64 #[.agg (a.arr v)] w (Refused w 8) := by
  all_goals
    go_enter Tryz.func64, Tryz.ntmps64
    go_wp2_with (first | ((with_reducible_and_instances (show wpList _ _ _ (Oper.mk _ (Op.load 32 _) _ _ _ _ :: _) _ _)); refine wl_load Tryz.underlying32 rfl info13 rfl rfl rfl (by (repeat (first | assumption | (with_reducible refine alloc_at ?_; (focus (first | omega | (simp; done) | (simp; omega)))) | (with_reducible refine boxed_at ?_; (focus (first | omega | (simp; done) | (simp; omega)))) | (with_reducible refine alloc_old ?_ ?_; (focus (first | omega | (simp; done) | (simp; omega)))) | (with_reducible refine boxed_old ?_ ?_; (focus (first | omega | (simp; done) | (simp; omega)))) | (with_reducible refine drew_old ?_)))) (by rfl) ?_))
    refine (goeson_any (a := a)).mono ?_
    rw [h]
    rintro e w1 ⟨rfl, hb⟩
    obtain ⟨hw, z0, z1, e1⟩ := two_of hb
    rw [e1]
    have HW := Lib.hid hw
    clear e1 hb hw
    go_wp2
    refine bodyPost_ret (v := .tuple #[.agg (Av.zero.arr (.slice none 0 0)), .int .i64 8]) ?_ rfl ⟨rfl, boxed_below (boxed_below HW.out (Nat.le_refl _)) (by omega)⟩
    simp [results, Tryz.results64, go_sem, Av.zero, Av.arr, z1]
set_option maxHeartbeats 1000000 in
theorem acard_no {w : World} {v : Value} {a : Av} (h : a.live = false) : Calls Tryz.prog 65 #[.agg (a.arr v)] w (Refused w 8) := by
  all_goals
    go_enter Tryz.func65, Tryz.ntmps65
    go_wp2_with (first | ((with_reducible_and_instances (show wpList _ _ _ (Oper.mk _ (Op.load 32 _) _ _ _ _ :: _) _ _)); refine wl_load Tryz.underlying32 rfl info13 rfl rfl rfl (by (repeat (first | assumption | (with_reducible refine alloc_at ?_; (focus (first | omega | (simp; done) | (simp; omega)))) | (with_reducible refine boxed_at ?_; (focus (first | omega | (simp; done) | (simp; omega)))) | (with_reducible refine alloc_old ?_ ?_; (focus (first | omega | (simp; done) | (simp; omega)))) | (with_reducible refine boxed_old ?_ ?_; (focus (first | omega | (simp; done) | (simp; omega)))) | (with_reducible refine drew_old ?_)))) (by rfl) ?_))
    refine (goeson_any (a := a)).mono ?_
    rw [h]
    rintro e w1 ⟨rfl, hb⟩
    obtain ⟨hw, z0, z1, e1⟩ := two_of hb
    rw [e1]
    have HW := Lib.hid hw
    clear e1 hb hw
    go_wp2
    refine bodyPost_ret (v := .tuple #[.agg (Av.zero.arr (.slice none 0 0)), .int .i64 8]) ?_ rfl ⟨rfl, boxed_below (boxed_below HW.out (Nat.le_refl _)) (by omega)⟩
    simp [results, Tryz.results65, go_sem, Av.zero, Av.arr, z1]
set_option maxHeartbeats 2000000 in
theorem skip_yes {w : World} {v : Value} {a : Av} (h : a.live = true) (hk : a.sk = false) (hv : Cys w 0 w.heap.size v a.l) (hs : a.l.length ≤ 1000000) : Calls Tryz.prog 63 #[.agg (a.arr v)] w (News w { a with sk := true }) := by
  have H := Lib.hid hv
  clear hv
  go_enter Tryz.func63, Tryz.ntmps63
  go_wp2_with (first | ((with_reducible_and_instances (show wpList _ _ _ (Oper.mk _ (Op.load 32 _) _ _ _ _ :: _) _ _)); refine wl_load Tryz.underlying32 rfl info13 rfl rfl rfl (by (repeat (first | assumption | (with_reducible refine alloc_at ?_; (focus (first | omega | (simp; done) | (simp; omega)))) | (with_reducible refine boxed_at ?_; (focus (first | omega | (simp; done) | (simp; omega)))) | (with_reducible refine alloc_old ?_ ?_; (focus (first | omega | (simp; done) | (simp; omega)))) | (with_reducible refine boxed_old ?_ ?_; (focus (first | omega | (simp; done) | (simp; omega)))) | (with_reducible refine drew_old ?_)))) (by rfl) ?_))
  refine (goeson_any (a := a)).mono ?_
  rw [h]
  rintro e w1 ⟨rfl, hb⟩
  obtain ⟨hw, z0, z1, e1⟩ := two_of hb
  rw [e1]
  have HW := Lib.hid hw
  clear e1 hb hw
  go_wp2_with (first | ((with_reducible_and_instances (show wpList _ _ _ (Oper.mk _ (Op.load 32 _) _ _ _ _ :: _) _ _)); refine wl_load Tryz.underlying32 rfl info13 rfl rfl rfl (by (repeat (first | assumption | (with_reducible refine alloc_at ?_; (focus (first | omega | (simp; done) | (simp; omega)))) | (with_reducible refine boxed_at ?_; (focus (first | omega | (simp; done) | (simp; omega)))) | (with_reducible refine alloc_old ?_ ?_; (focus (first | omega | (simp; done) | (simp; omega)))) | (with_reducible refine boxed_old ?_ ?_; (focus (first | omega | (simp; done) | (simp; omega)))) | (with_reducible refine drew_old ?_)))) (by rfl) ?_) | ((with_reducible_and_instances (show wpList _ _ _ (Oper.mk _ (Op.store 32 _ _) _ _ _ _ :: _) _ _)); refine wl_store info13 rfl rfl rfl rfl (by (repeat (first | assumption | (with_reducible refine alloc_at ?_; (focus (first | omega | (simp; done) | (simp; omega)))) | (with_reducible refine boxed_at ?_; (focus (first | omega | (simp; done) | (simp; omega)))) | (with_reducible refine alloc_old ?_ ?_; (focus (first | omega | (simp; done) | (simp; omega)))) | (with_reducible refine boxed_old ?_ ?_; (focus (first | omega | (simp; done) | (simp; omega)))) | (with_reducible refine drew_old ?_)))) (by rfl) (by rfl) (by first | exact Cv.arr_one _ | exact Nv.arr_one _ | exact Av.arr_one rfl | simp [Value.oneCell']) ?_))
  have hsz := HW.out.size
  refine (copy_any (a := a) (((H.out.below HW.out).more (b' := 0) (B' := w.heap.size) (Nat.le_refl _) (Nat.le_refl _)).boxed (.inr (Nat.le_refl _)) |>.boxed (.inr (by omega)) |>.more (Nat.le_refl _) (by simp; omega)) hs).mono ?_
  rintro e w2 ⟨v2, rfl, ho2, hb2⟩
  rw [boxed_size, boxed_size] at ho2
  obtain ⟨A2, c2, rfl, _, _⟩ := ho2.form
  have HO := Lib.hid ho2
  obtain ⟨hw, z2, e1⟩ := two_again HW.out z1 hb2
  rw [e1]
  have HW2 := Lib.hid hw
  have z3 : w.heap.size < w2.heap.size := by omega
  clear e1 hb2 hw ho2 H
  go_wp2_with (first | ((with_reducible_and_instances (show wpList _ _ _ (Oper.mk _ (Op.load 32 _) _ _ _ _ :: _) _ _)); refine wl_load Tryz.underlying32 rfl info13 rfl rfl rfl (by (repeat (first | assumption | (with_reducible refine alloc_at ?_; (focus (first | omega | (simp; done) | (simp; omega)))) | (with_reducible refine boxed_at ?_; (focus (first | omega | (simp; done) | (simp; omega)))) | (with_reducible refine alloc_old ?_ ?_; (focus (first | omega | (simp; done) | (simp; omega)))) | (with_reducible refine boxed_old ?_ ?_; (focus (first | omega | (simp; done) | (simp; omega)))) | (with_reducible refine drew_old ?_)))) (by rfl) ?_) | ((with_reducible_and_instances (show wpList _ _ _ (Oper.mk _ (Op.store 32 _ _) _ _ _ _ :: _) _ _)); refine wl_store info13 rfl rfl rfl rfl (by (repeat (first | assumption | (with_reducible refine alloc_at ?_; (focus (first | omega | (simp; done) | (simp; omega)))) | (with_reducible refine boxed_at ?_; (focus (first | omega | (simp; done) | (simp; omega)))) | (with_reducible refine alloc_old ?_ ?_; (focus (first | omega | (simp; done) | (simp; omega)))) | (with_reducible refine boxed_old ?_ ?_; (focus (first | omega | (simp; done) | (simp; omega)))) | (with_reducible refine drew_old ?_)))) (by rfl) (by rfl) (by first | exact Cv.arr_one _ | exact Nv.arr_one _ | exact Av.arr_one rfl | simp [Value.oneCell']) ?_))
  refine bodyPost_ret (results_row_tmp rfl _ _ (w.heap.size+1) 32 _ (0, 0) _ rfl (boxed_at (by simp only [boxed_size]; omega)) Tryz.underlying32 rfl (by exact info13)) rfl ?_
  have ho := HO.out
  have hw := HW2.out
  exact ⟨_, rfl, Own.more (b := w1.heap.size) ((((ho.boxed (by omega)).boxed (by omega)).boxed (by omega)).boxed (by omega)) (by omega), boxed_below (boxed_below (boxed_below (boxed_below hw (Nat.le_refl _)) (by omega)) (Nat.le_refl _)) (by omega)⟩
set_option maxHeartbeats 2000000 in
theorem cancel_yes {w : World} {v : Value} {a : Av} {m : Nat} (h : a.live = true) (hv : Cys w 0 w.heap.size v a.l) (hs : a.l.length ≤ 100000) (hf : a.Fit m) (hm : m ≤ 100000) (hc : ∀ c ∈ a.l, c.Fit) (hc2 : ∀ c ∈ a.l, (Cv.over c).Fit) : Calls Tryz.prog 64 #[.agg (a.arr v)] w (News w (Av.each { a with st := 3 } (fun c => Cv.over c))) := by
  have H := Lib.hid hv
  clear hv
  go_enter Tryz.func64, Tryz.ntmps64
  go_wp2_with (first | ((with_reducible_and_instances (show wpList _ _ _ (Oper.mk _ (Op.load 32 _) _ _ _ _ :: _) _ _)); refine wl_load Tryz.underlying32 rfl info13 rfl rfl rfl (by (repeat (first | assumption | (with_reducible refine alloc_at ?_; (focus (first | omega | (simp; done) | (simp; omega)))) | (with_reducible refine boxed_at ?_; (focus (first | omega | (simp; done) | (simp; omega)))) | (with_reducible refine alloc_old ?_ ?_; (focus (first | omega | (simp; done) | (simp; omega)))) | (with_reducible refine boxed_old ?_ ?_; (focus (first | omega | (simp; done) | (simp; omega)))) | (with_reducible refine drew_old ?_)))) (by rfl) ?_))
  refine (goeson_any (a := a)).mono ?_
  rw [h]
  rintro e w1 ⟨rfl, hb⟩
  obtain ⟨hw, z0, z1, e1⟩ := two_of hb
  rw [e1]
  have HW := Lib.hid hw
  clear e1 hb hw
  go_wp2_with (first | ((with_reducible_and_instances (show wpList _ _ _ (Oper.mk _ (Op.load 32 _) _ _ _ _ :: _) _ _)); refine wl_load Tryz.underlying32 rfl info13 rfl rfl rfl (by (repeat (first | assumption | (with_reducible refine alloc_at ?_; (focus (first | omega | (simp; done) | (simp; omega)))) | (with_reducible refine boxed_at ?_; (focus (first | omega | (simp; done) | (simp; omega)))) | (with_reducible refine alloc_old ?_ ?_; (focus (first | omega | (simp; done) | (simp; omega)))) | (with_reducible refine boxed_old ?_ ?_; (focus (first | omega | (simp; done) | (simp; omega)))) | (with_reducible refine drew_old ?_)))) (by rfl) ?_) | ((with_reducible_and_instances (show wpList _ _ _ (Oper.mk _ (Op.store 32 _ _) _ _ _ _ :: _) _ _)); refine wl_store info13 rfl rfl rfl rfl (by (repeat (first | assumption | (with_reducible refine alloc_at ?_; (focus (first | omega | (simp; done) | (simp; omega)))) | (with_reducible refine boxed_at ?_; (focus (first | omega | (simp; done) | (simp; omega)))) | (with_reducible refine alloc_old ?_ ?_; (focus (first | omega | (simp; done) | (simp; omega)))) | (with_reducible refine boxed_old ?_ ?_; (focus (first | omega | (simp; done) | (simp; omega)))) | (with_reducible refine drew_old ?_)))) (by rfl) (by rfl) (by first | exact Cv.arr_one _ | exact Nv.arr_one _ | exact Av.arr_one rfl | simp [Value.oneCell']) ?_))
  have hsz := HW.out.size
  refine (each_over (a := { a with st := 3 }) (m := m) ((H.out.below HW.out).boxed (.inr (Nat.le_refl _)) |>.boxed (.inr (by omega)) |>.more (Nat.le_refl _) (by simp; omega)) hs ⟨hf.d0, hf.d1, hf.n0, hf.n1, hf.r0, hf.r1, hf.s0, hf.s1, hf.c0, hf.c1, hf.p0, hf.p1⟩ hm hc hc2).mono ?_
  rintro e w2 ⟨v2, rfl, ho2, hb2⟩
  rw [boxed_size, boxed_size] at ho2
  obtain ⟨A2, c2, rfl, _, _⟩ := ho2.form
  have HO := Lib.hid ho2
  obtain ⟨hw, z2, e1⟩ := two_again HW.out z1 hb2
  rw [e1]
  have HW2 := Lib.hid hw
  have z3 : w.heap.size < w2.heap.size := by omega
  clear e1 hb2 hw ho2 H
  go_wp2_with (first | ((with_reducible_and_instances (show wpList _ _ _ (Oper.mk _ (Op.load 32 _) _ _ _ _ :: _) _ _)); refine wl_load Tryz.underlying32 rfl info13 rfl rfl rfl (by (repeat (first | assumption | (with_reducible refine alloc_at ?_; (focus (first | omega | (simp; done) | (simp; omega)))) | (with_reducible refine boxed_at ?_; (focus (first | omega | (simp; done) | (simp; omega)))) | (with_reducible refine alloc_old ?_ ?_; (focus (first | omega | (simp; done) | (simp; omega)))) | (with_reducible refine boxed_old ?_ ?_; (focus (first | omega | (simp; done) | (simp; omega)))) | (with_reducible refine drew_old ?_)))) (by rfl) ?_) | ((with_reducible_and_instances (show wpList _ _ _ (Oper.mk _ (Op.store 32 _ _) _ _ _ _ :: _) _ _)); refine wl_store info13 rfl rfl rfl rfl (by (repeat (first | assumption | (with_reducible refine alloc_at ?_; (focus (first | omega | (simp; done) | (simp; omega)))) | (with_reducible refine boxed_at ?_; (focus (first | omega | (simp; done) | (simp; omega)))) | (with_reducible refine alloc_old ?_ ?_; (focus (first | omega | (simp; done) | (simp; omega)))) | (with_reducible refine boxed_old ?_ ?_; (focus (first | omega | (simp; done) | (simp; omega)))) | (with_reducible refine drew_old ?_)))) (by rfl) (by rfl) (by first | exact Cv.arr_one _ | exact Nv.arr_one _ | exact Av.arr_one rfl | simp [Value.oneCell']) ?_))
  refine bodyPost_ret (results_row_tmp rfl _ _ (w.heap.size+1) 32 _ (0, 0) _ rfl (boxed_at (by simp only [boxed_size]; omega)) Tryz.underlying32 rfl (by exact info13)) rfl ?_
  have ho := HO.out
  have hw := HW2.out
  exact ⟨_, rfl, Own.more (b := w1.heap.size) (by (repeat (first | assumption | (with_reducible refine Own.boxed ?_ ?_; rotate_left; (focus (first | omega | (simp; done) | (simp; omega)))) | (with_reducible refine Own.alloc ?_) | (with_reducible refine Own.drew ?_)))) (by omega), by (repeat (first | assumption | (with_reducible exact Below.refl _ _) | (with_reducible refine boxed_below ?_ ?_; rotate_left; (focus (first | omega | (simp; done) | (simp; omega)))) | (with_reducible refine Below.alloc ?_ ?_ _; rotate_left; (focus (first | omega | (simp; done) | (simp; omega)))) | (with_reducible refine Below.drew ?_)))⟩
set_option maxHeartbeats 2000000 in
theorem acard_yes {w : World} {v : Value} {a : Av} {m : Nat} (h : a.live = true) (hv : Cys w 0 w.heap.size v a.l) (hs : a.l.length ≤ 100000) (hf : a.Fit m) (hm : m ≤ 100000) (hc : ∀ c ∈ a.l, c.Fit) (hc2 : ∀ c ∈ a.l, (Cv.card c).Fit) : Calls Tryz.prog 65 #[.agg (a.arr v)] w (News w (a.each (fun c => Cv.card c))) := by
  have H := Lib.hid hv
  clear hv
  go_enter Tryz.func65, Tryz.ntmps65
  go_wp2_with (first | ((with_reducible_and_instances (show wpList _ _ _ (Oper.mk _ (Op.load 32 _) _ _ _ _ :: _) _ _)); refine wl_load Tryz.underlying32 rfl info13 rfl rfl rfl (by (repeat (first | assumption | (with_reducible refine alloc_at ?_; (focus (first | omega | (simp; done) | (simp; omega)))) | (with_reducible refine boxed_at ?_; (focus (first | omega | (simp; done) | (simp; omega)))) | (with_reducible refine alloc_old ?_ ?_; (focus (first | omega | (simp; done) | (simp; omega)))) | (with_reducible refine boxed_old ?_ ?_; (focus (first | omega | (simp; done) | (simp; omega)))) | (with_reducible refine drew_old ?_)))) (by rfl) ?_))
  refine (goeson_any (a := a)).mono ?_
  rw [h]
  rintro e w1 ⟨rfl, hb⟩
  obtain ⟨hw, z0, z1, e1⟩ := two_of hb
  rw [e1]
  have HW := Lib.hid hw
  clear e1 hb hw
  go_wp2_with (first | ((with_reducible_and_instances (show wpList _ _ _ (Oper.mk _ (Op.load 32 _) _ _ _ _ :: _) _ _)); refine wl_load Tryz.underlying32 rfl info13 rfl rfl rfl (by (repeat (first | assumption | (with_reducible refine alloc_at ?_; (focus (first | omega | (simp; done) | (simp; omega)))) | (with_reducible refine boxed_at ?_; (focus (first | omega | (simp; done) | (simp; omega)))) | (with_reducible refine alloc_old ?_ ?_; (focus (first | omega | (simp; done) | (simp; omega)))) | (with_reducible refine boxed_old ?_ ?_; (focus (first | omega | (simp; done) | (simp; omega)))) | (with_reducible refine drew_old ?_)))) (by rfl) ?_) | ((with_reducible_and_instances (show wpList _ _ _ (Oper.mk _ (Op.store 32 _ _) _ _ _ _ :: _) _ _)); refine wl_store info13 rfl rfl rfl rfl (by (repeat (first | assumption | (with_reducible refine alloc_at ?_; (focus (first | omega | (simp; done) | (simp; omega)))) | (with_reducible refine boxed_at ?_; (focus (first | omega | (simp; done) | (simp; omega)))) | (with_reducible refine alloc_old ?_ ?_; (focus (first | omega | (simp; done) | (simp; omega)))) | (with_reducible refine boxed_old ?_ ?_; (focus (first | omega | (simp; done) | (simp; omega)))) | (with_reducible refine drew_old ?_)))) (by rfl) (by rfl) (by first | exact Cv.arr_one _ | exact Nv.arr_one _ | exact Av.arr_one rfl | simp [Value.oneCell']) ?_))
  have hsz := HW.out.size
  refine (each_card (a := a) (m := m) ((H.out.below HW.out).boxed (.inr (Nat.le_refl _)) |>.boxed (.inr (by omega)) |>.more (Nat.le_refl _) (by simp; omega)) hs hf hm hc hc2).mono ?_
  rintro e w2 ⟨v2, rfl, ho2, hb2⟩
  rw [boxed_size, boxed_size] at ho2
  obtain ⟨A2, c2, rfl, _, _⟩ := ho2.form
  have HO := Lib.hid ho2
  obtain ⟨hw, z2, e1⟩ := two_again HW.out z1 hb2
  rw [e1]
  have HW2 := Lib.hid hw
  have z3 : w.heap.size < w2.heap.size := by omega
  clear e1 hb2 hw ho2 H
  go_wp2_with (first | ((with_reducible_and_instances (show wpList _ _ _ (Oper.mk _ (Op.load 32 _) _ _ _ _ :: _) _ _)); refine wl_load Tryz.underlying32 rfl info13 rfl rfl rfl (by (repeat (first | assumption | (with_reducible refine alloc_at ?_; (focus (first | omega | (simp; done) | (simp; omega)))) | (with_reducible refine boxed_at ?_; (focus (first | omega | (simp; done) | (simp; omega)))) | (with_reducible refine alloc_old ?_ ?_; (focus (first | omega | (simp; done) | (simp; omega)))) | (with_reducible refine boxed_old ?_ ?_; (focus (first | omega | (simp; done) | (simp; omega)))) | (with_reducible refine drew_old ?_)))) (by rfl) ?_) | ((with_reducible_and_instances (show wpList _ _ _ (Oper.mk _ (Op.store 32 _ _) _ _ _ _ :: _) _ _)); refine wl_store info13 rfl rfl rfl rfl (by (repeat (first | assumption | (with_reducible refine alloc_at ?_; (focus (first | omega | (simp; done) | (simp; omega)))) | (with_reducible refine boxed_at ?_; (focus (first | omega | (simp; done) | (simp; omega)))) | (with_reducible refine alloc_old ?_ ?_; (focus (first | omega | (simp; done) | (simp; omega)))) | (with_reducible refine boxed_old ?_ ?_; (focus (first | omega | (simp; done) | (simp; omega)))) | (with_reducible refine drew_old ?_)))) (by rfl) (by rfl) (by first | exact Cv.arr_one _ | exact Nv.arr_one _ | exact Av.arr_one rfl | simp [Value.oneCell']) ?_))
  refine bodyPost_ret (results_row_tmp rfl _ _ (w.heap.size+1) 32 _ (0, 0) _ rfl (boxed_at (by simp only [boxed_size]; omega)) Tryz.underlying32 rfl (by exact info13)) rfl ?_
  have ho := HO.out
  have hw := HW2.out
  exact ⟨_, rfl, Own.more (b := w1.heap.size) (by (repeat (first | assumption | (with_reducible refine Own.boxed ?_ ?_; rotate_left; (focus (first | omega | (simp; done) | (simp; omega)))) | (with_reducible refine Own.alloc ?_) | (with_reducible refine Own.drew ?_)))) (by omega), by (repeat (first | assumption | (with_reducible exact Below.refl _ _) | (with_reducible refine boxed_below ?_ ?_; rotate_left; (focus (first | omega | (simp; done) | (simp; omega)))) | (with_reducible refine Below.alloc ?_ ?_ _; rotate_left; (focus (first | omega | (simp; done) | (simp; omega)))) | (with_reducible refine Below.drew ?_)))⟩
end Go.Proofs.YtblikgbcakgdnaaGreat
