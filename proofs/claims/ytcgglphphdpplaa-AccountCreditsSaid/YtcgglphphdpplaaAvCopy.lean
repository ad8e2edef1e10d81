/-
  A list of cycles copied; a subscription with a list of its own. No conditions but the sizes.
-/
import Derived.Test.YtcgglphphdpplaaAv
namespace Go.Proofs.Ytcgglphphdpplaa
set_option maxRecDepth 20000
open Go.ChangeShapes Go.WideShapes Go.ChangeAt Go.RowKit

set_option maxHeartbeats 1000000 in
theorem cyclone_any {w : World} {v : Value} {l : List Cv} (h : Cys w 0 w.heap.size v l) (hs : l.length ≤ 1000000) :
    Calls Try.prog 43 #[v] w fun e w' => ∃ v', e = .returned v' ∧ Own w' w.heap.size v' l ∧ Below w.heap.size w w' := by
  have H := Lib.hid h
  obtain ⟨A, c, rfl, h1, h2, h3, h4⟩ := h
  rcases A with _ | a
  · obtain rfl := h4 rfl
    obtain rfl : l = [] := List.eq_nil_of_length_eq_zero (by omega)
    clear h3 h4 H h1 h2
    have q := fun w => Lib.run_eql_slice_nil (P := Try.prog) w 29 51 none 0 0 0 0 Try.underlying29
    go_enter Try.func43, Try.ntmps43
    go_wp2
    go_ret
    exact ⟨_, rfl, Own.nil _ _, Below.refl _ _⟩
  · clear h3 h4
    have q := fun w => Lib.run_eql_slice_nil (P := Try.prog) w 29 51 (some a) l.length c 0 0 Try.underlying29
    go_enter Try.func43, Try.ntmps43
    go_wp2_with (at_builtin; refine wpList_append_cys cyty rfl _ _ rfl (l0 := []) (base := w.heap.size) rfl rfl (World.ownsRow_made w #[] 0 (Nat.le_refl _) (by unfold maxLen; omega) rfl) (H.out.below ((Below.refl _ w).alloc (Nat.le_refl _) _)) (by simp; omega) (by simp) ?_; intro v1 w1 ho1 hg1 _; rw [List.nil_append] at ho1)
    go_ret
    exact ⟨_, rfl, ho1, ((Below.refl _ w).alloc (Nat.le_refl _) _).trans (grown_from (b := w.heap.size) hg1 (fun i hi => by injection hi with hi; subst hi; exact Nat.le_refl _) (by simp))⟩
/-- A subscription that is answered, in new blocks. -/
def New (w : World) (a : Av) (e : Ending) (w' : World) : Prop := ∃ v', e = .returned (.agg (a.arr v')) ∧ Own w' w.heap.size v' a.l ∧ Below w.heap.size w w'
set_option maxHeartbeats 1000000 in
theorem copy_any {w : World} {v : Value} {a : Av} (h : Cys w 0 w.heap.size v a.l) (hs : a.l.length ≤ 1000000) : Calls Try.prog 25 #[.agg (a.arr v)] w (New w a) := by
  have H := Lib.hid h
  go_enter Try.func25, Try.ntmps25
  go_wp2_with (fail)
  refine (cyclone_any (l := a.l) ((H.out.below (((Below.refl _ w).alloc (Nat.le_refl _) _).alloc (by simp) _)).more (Nat.le_refl _) (by simp; omega)) hs).mono ?_
  rintro e w1 ⟨v1, rfl, ho, hb⟩
  rw [World.size_alloc, World.size_alloc] at ho
  obtain ⟨A1, c1, rfl, _, _⟩ := ho.form
  have HO := Lib.hid ho
  obtain ⟨hw, z0, z1, e1⟩ := two_of hb
  rw [e1]
  have HW := Lib.hid hw
  clear e1 hb hw ho
  go_wp2_with (first | ((with_reducible_and_instances (show wpList _ _ _ (Oper.mk _ (Op.load 33 _) _ _ _ _ :: _) _ _)); refine wl_load Try.underlying33 rfl info13 rfl rfl rfl (by (repeat (first | assumption | (with_reducible refine alloc_at ?_; (focus (first | omega | (simp; done) | (simp; omega)))) | (with_reducible refine boxed_at ?_; (focus (first | omega | (simp; done) | (simp; omega)))) | (with_reducible refine alloc_old ?_ ?_; (focus (first | omega | (simp; done) | (simp; omega)))) | (with_reducible refine boxed_old ?_ ?_; (focus (first | omega | (simp; done) | (simp; omega)))) | (with_reducible refine drew_old ?_)))) (by rfl) ?_) | ((with_reducible_and_instances (show wpList _ _ _ (Oper.mk _ (Op.store 33 _ _) _ _ _ _ :: _) _ _)); refine wl_store info13 rfl rfl rfl rfl (by (repeat (first | assumption | (with_reducible refine alloc_at ?_; (focus (first | omega | (simp; done) | (simp; omega)))) | (with_reducible refine boxed_at ?_; (focus (first | omega | (simp; done) | (simp; omega)))) | (with_reducible refine alloc_old ?_ ?_; (focus (first | omega | (simp; done) | (simp; omega)))) | (with_reducible refine boxed_old ?_ ?_; (focus (first | omega | (simp; done) | (simp; omega)))) | (with_reducible refine drew_old ?_)))) (by rfl) (by rfl) (by first | exact Cv.arr_one _ | exact Nv.arr_one _ | exact Av.arr_one rfl | simp [Value.oneCell']) ?_))
  refine bodyPost_ret (results_cell_row rfl _ _ ((w.heap.size+1)) 33 _ (0, 0) _ rfl (by (repeat (first | assumption | (with_reducible refine alloc_at ?_; (focus (first | omega | (simp; done) | (simp; omega)))) | (with_reducible refine boxed_at ?_; (focus (first | omega | (simp; done) | (simp; omega)))) | (with_reducible refine alloc_old ?_ ?_; (focus (first | omega | (simp; done) | (simp; omega)))) | (with_reducible refine boxed_old ?_ ?_; (focus (first | omega | (simp; done) | (simp; omega)))) | (with_reducible refine drew_old ?_)))) Try.underlying33 rfl (by exact info13)) rfl ?_
  have ho := HO.out
  have hw := HW.out
  have hx : w.heap.size + 1 + 1 ≤ w1.heap.size := by omega
  refine ⟨_, rfl, Own.more (b := w.heap.size + 1 + 1) (by (repeat (first | assumption | (with_reducible refine Own.boxed ?_ ?_; rotate_left; (focus (first | omega | (simp; done) | (simp; omega)))) | (with_reducible refine Own.alloc ?_) | (with_reducible refine Own.drew ?_)))) (by omega), by (repeat (first | assumption | (with_reducible exact Below.refl _ _) | (with_reducible refine boxed_below ?_ ?_; rotate_left; (focus (first | omega | (simp; done) | (simp; omega)))) | (with_reducible refine Below.alloc ?_ ?_ _; rotate_left; (focus (first | omega | (simp; done) | (simp; omega)))) | (with_reducible refine Below.drew ?_)))⟩
end Go.Proofs.Ytcgglphphdpplaa
