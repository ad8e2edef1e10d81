/-
  What a diary tells of itself: its age, and how much room there is. No conditions but the sizes.
-/
import Derived.Test.YticefepcoemkoaaDoorRecall
namespace Go.Proofs.YticefepcoemkoaaDoor
set_option maxRecDepth 20000
open Go.ChangeShapes Go.WideShapes Go.ChangeAt Go.RowKit

theorem dAge_any (w : World) (d g p1 p2 n age q : Nat) (vf ve : Value) (hd : w.heap[d]? = some (.cells (dcl g p1 p2 n age vf ve q) 56 (0, 0))) (ha : age < 4294967296) :
    Calls Tryd.prog 12 #[.pointer (some ⟨d, 0, none⟩)] w fun e w' => e = .returned (.int .i64 age) ∧ w = w' := by
  have d6 : w.cell? ⟨d, 6, none⟩ = some (.int .u32 age) := by rw [cell_of_row _ _ _ _ _ _ hd]; rfl
  clear hd
  go_enter Tryd.func12, Tryd.ntmps12
  go_wp2
  go_ret
  exact ⟨by go_num, rfl⟩

set_option maxHeartbeats 1000000 in
theorem dLeft_any (w : World) (d g p1 p2 n age q : Nat) (vf ve : Value) (hd : w.heap[d]? = some (.cells (dcl g p1 p2 n age vf ve q) 56 (0, 0))) (hq : q ≤ n * 64) (hn : n ≤ 70) :
    Calls Tryd.prog 13 #[.pointer (some ⟨d, 0, none⟩)] w fun e w' => e = .returned (.int .i64 ((n * 64 - q : Nat) : Int)) ∧ Below w.heap.size w w' := by
  have HD := Lib.hid hd
  have hdl := (Array.getElem?_eq_some_iff.1 hd).1
  clear hd
  go_enter Tryd.func13, Tryd.ntmps13
  go_wp2_with (fail)
  refine lane_start (ord := [0, 1, 2, 3, 5, 6, 7, 8, 4, 9, 10]) (S := fun w' => w'.heap[d]? = some (.cells (dcl g p1 p2 n age vf ve q) 56 (0, 0))) rfl (by kernel_rfl) HD.out (fun hHeld => ?_)
  iterate 3 (refine lane_take (v := ?_) rfl (by kernel_rfl) (by kernel_rfl) (by rfl) ?_ (by assumption) ?_; rotate_left; (focus (intro W hSw;  go_simp; try (with_reducible rfl))); simp only [Act.put, List.setIfInBounds_toArray, List.set_cons_zero, List.set_cons_succ])
  refine lane_take (v := halfV g p1 n) rfl (by kernel_rfl) (by kernel_rfl) (by rfl) (fun W hSw => exec_load rfl rfl (run_load_half (dcl_range hSw).1)) (by assumption) ?_
  unfold halfV
  simp only [Act.put, List.setIfInBounds_toArray, List.set_cons_zero, List.set_cons_succ]
  iterate 4 (refine lane_take (v := ?_) rfl (by kernel_rfl) (by kernel_rfl) (by rfl) ?_ (by assumption) ?_; rotate_left; (focus (intro W hSw; have q0 : W.cell? ⟨d, 9, none⟩ = some (.int .i64 (q : Nat)) := (by rw [cell_of_row _ _ _ _ _ _ hSw]; rfl); go_simp; try (with_reducible rfl))); simp only [Act.put, List.setIfInBounds_toArray, List.set_cons_zero, List.set_cons_succ])
  refine lane_alone rfl (by kernel_rfl) (by rfl) (fun K hK => ?_)
  go_simp
  go_wp2_with (fail)
  refine (room_any w.drew g p1 n (by omega)).mono ?_
  rintro e w1 ⟨rfl, hb1⟩
  have hb2 : Below w.heap.size w w1 := (Below.refl _ w).drew.trans hb1
  have hd1 := (hb2.block d hdl).trans HD.out
  refine hK _ _ hd1 (fun _ => ?_)
  clear hK K
  iterate 2 (refine lane_take (v := ?_) rfl (by kernel_rfl) (by kernel_rfl) (by rfl) ?_ (by exact hd1) ?_; rotate_left; (focus (intro W hSw;  go_simp; try (with_reducible rfl))); simp only [Act.put, List.setIfInBounds_toArray, List.set_cons_zero, List.set_cons_succ])
  refine lane_end (by kernel_rfl) ?_
  go_wp2
  go_ret
  exact ⟨ret_int (by rw [IntKind.wrap_i64]; omega), hb2⟩
end Go.Proofs.YticefepcoemkoaaDoor
