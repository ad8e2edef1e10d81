/-
  The walk of the law NoticeParties: it returns true, whatever the input, and makes new blocks alone. No conditions.
-/
import Derived.Test.YtambppcnmggocaaNtWalks
import Derived.Test.YtambppcnmggocaaLane
namespace Go.Proofs.Ytambppcnmggocaa
set_option maxRecDepth 20000
open Go.ChangeShapes Go.WideShapes Go.ChangeAt Go.RowKit

/-- The four notices' blocks. -/
def S4 (c0 cv : Array Value) (t : TypeId) (b2 b6 b7 b8 : Nat) (w' : World) : Prop :=
  (w'.heap[b2]? = some (.cells c0 t (0, 0)) ∧ w'.heap[b6]? = some (.cells cv t (0, 0)) ∧ w'.heap[b7]? = some (.cells c0 t (0, 0)) ∧ w'.heap[b8]? = some (.cells cv t (0, 0))) ∧ b2 < w'.heap.size ∧ b6 < w'.heap.size ∧ b7 < w'.heap.size ∧ b8 < w'.heap.size
theorem S4.step {c0 cv : Array Value} {t : TypeId} {b2 b6 b7 b8 : Nat} {w w' : World} (hb : Below w.heap.size w w') (h : S4 c0 cv t b2 b6 b7 b8 w) : S4 c0 cv t b2 b6 b7 b8 w' := by
  obtain ⟨⟨h1, h2, h3, h4⟩, s1, s2, s3, s4⟩ := h
  have := hb.size
  exact ⟨⟨(hb.block _ s1).trans h1, (hb.block _ s2).trans h2, (hb.block _ s3).trans h3, (hb.block _ s4).trans h4⟩, by omega, by omega, by omega, by omega⟩
theorem party_lit (k : Nat) (hk : k < 5) (S C T M : Int) : ∃ P : Int, 0 ≤ P ∧ P ≤ 2 ∧ (#[.int .u8 0, .int .u8 0, .int .u8 1, .int .u8 1, .int .u8 2] : Array Value)[k]? = some (.int .u8 P) ∧ Nv.party ⟨(k : Int) + 1, S, C, T, M, 0⟩ = P := by
  match k, hk with
  | 0, _ => exact ⟨0, by decide, by decide, rfl, rfl⟩
  | 1, _ => exact ⟨0, by decide, by decide, rfl, rfl⟩
  | 2, _ => exact ⟨1, by decide, by decide, rfl, rfl⟩
  | 3, _ => exact ⟨1, by decide, by decide, rfl, rfl⟩
  | 4, _ => exact ⟨2, by decide, by decide, rfl, rfl⟩
set_option maxHeartbeats 4000000 in
theorem noticeParties_zero (w : World) (k0 s0 c0 t0 a0 v0 : Int) (h : (⟨k0, s0, c0, t0, a0, v0⟩ : Nv).Wf) (v : Int) (K S C T M  : Int) (hx : Nv.nearA ⟨k0, s0, c0, t0, a0, v0⟩ = ⟨K, S, C, T, M, 0⟩) (k : Nat) (hk : k < 5) (hK : K = (k : Int) + 1) :
    Calls Try.prog 9 #[.agg #[.int .u8 k0, .int .i64 s0, .int .i64 c0, .int .i64 t0, .int .i64 a0, .int .u8 v0], .int .u8 v] w fun e w' => e = .returned (.bool true) ∧ Below w.heap.size w w' := by
  have HN0 : Hid (∀ w, Calls Try.prog 28 #[.agg #[.int .u8 k0, .int .i64 s0, .int .i64 c0, .int .i64 t0, .int .i64 a0, .int .u8 v0]] w fun x w' => x = .returned (.agg #[.int .u8 K, .int .i64 S, .int .i64 C, .int .i64 T, .int .i64 M, .int .u8 0]) ∧ Below w.heap.size w w') := Lib.hid (fun w => by
    have := nneara_any k0 s0 c0 t0 a0 v0 w h.1 h.2.2.2.2.2.1
    rw [hx] at this
    exact this)
  obtain ⟨P, p0, p2, hlit, hpar⟩ := party_lit k hk S C T M
  rw [← hK] at hpar
  have HPAR := Lib.hid hpar
  have HLIT := Lib.hid hlit
  have HKK := Lib.hid hK
  have hwk : IntKind.u8.wrap (K - 1) = (k : Int) := by rw [hK]; simp [IntKind.wrap, IntKind.bits, IntKind.signed]; omega
  have hp3 : decide (P < 3) = true := by simp; omega
  have hk5 : (k : Int) < 5 := by omega
  clear h hx hpar hK
  go_enter Try.func9, Try.ntmps9
  go_wp2_with (first | ((with_reducible_and_instances (show wpList _ _ _ (Oper.mk _ (Op.load 25 _) _ _ _ _ :: _) _ _)); refine wl_load Try.underlying25 rfl info6 rfl rfl rfl (by (repeat (first | assumption | (with_reducible refine alloc_at ?_; (focus (first | omega | (simp; done) | (simp; omega)))) | (with_reducible refine boxed_at ?_; (focus (first | omega | (simp; done) | (simp; omega)))) | (with_reducible refine alloc_old ?_ ?_; (focus (first | omega | (simp; done) | (simp; omega)))) | (with_reducible refine boxed_old ?_ ?_; (focus (first | omega | (simp; done) | (simp; omega)))) | (with_reducible refine drew_old ?_)))) (by rfl) ?_) | ((with_reducible_and_instances (show wpList _ _ _ (Oper.mk _ (Op.store 25 _ _) _ _ _ _ :: _) _ _)); refine wl_store info6 rfl rfl rfl rfl (by (repeat (first | assumption | (with_reducible refine alloc_at ?_; (focus (first | omega | (simp; done) | (simp; omega)))) | (with_reducible refine boxed_at ?_; (focus (first | omega | (simp; done) | (simp; omega)))) | (with_reducible refine alloc_old ?_ ?_; (focus (first | omega | (simp; done) | (simp; omega)))) | (with_reducible refine boxed_old ?_ ?_; (focus (first | omega | (simp; done) | (simp; omega)))) | (with_reducible refine drew_old ?_)))) (by rfl) (by rfl) (by simp [Value.oneCell']) ?_))
  refine (HN0.out _).mono ?_
  rintro e w1 ⟨rfl, hb1⟩
  obtain ⟨hw1, s1, e1⟩ := keep0 hb1
  rw [e1]
  have HW1 := Lib.hid hw1
  clear e1 hb1 hw1
  have hlit1 : ((boxed w1 w.heap.size #[.int .u8 K, .int .i64 S, .int .i64 C, .int .i64 T, .int .i64 M, .int .u8 0] 25).alloc (.cells #[.int .u8 0, .int .u8 0, .int .u8 1, .int .u8 1, .int .u8 2] 5)).cell? ⟨w1.heap.size, k, none⟩ = some (.int .u8 P) := by rw [cell_of_row _ _ k _ _ (0, 0) (alloc_at (by rw [boxed_size]))]; exact hlit
  clear hlit
  go_wp2_with (first | ((with_reducible_and_instances (show wpList _ _ _ (Oper.mk _ (Op.load 25 _) _ _ _ _ :: _) _ _)); refine wl_load Try.underlying25 rfl info6 rfl rfl rfl (by (repeat (first | assumption | (with_reducible refine alloc_at ?_; (focus (first | omega | (simp; done) | (simp; omega)))) | (with_reducible refine boxed_at ?_; (focus (first | omega | (simp; done) | (simp; omega)))) | (with_reducible refine alloc_old ?_ ?_; (focus (first | omega | (simp; done) | (simp; omega)))) | (with_reducible refine boxed_old ?_ ?_; (focus (first | omega | (simp; done) | (simp; omega)))) | (with_reducible refine drew_old ?_)))) (by rfl) ?_) | ((with_reducible_and_instances (show wpList _ _ _ (Oper.mk _ (Op.store 25 _ _) _ _ _ _ :: _) _ _)); refine wl_store info6 rfl rfl rfl rfl (by (repeat (first | assumption | (with_reducible refine alloc_at ?_; (focus (first | omega | (simp; done) | (simp; omega)))) | (with_reducible refine boxed_at ?_; (focus (first | omega | (simp; done) | (simp; omega)))) | (with_reducible refine alloc_old ?_ ?_; (focus (first | omega | (simp; done) | (simp; omega)))) | (with_reducible refine boxed_old ?_ ?_; (focus (first | omega | (simp; done) | (simp; omega)))) | (with_reducible refine drew_old ?_)))) (by rfl) (by rfl) (by simp [Value.oneCell']) ?_))
  refine (answer_any K S C T M 0 v _).mono ?_
  rintro e w2 ⟨rfl, hb2⟩
  have h2 := (hb2.block w.heap.size (by first | omega | (simp; done) | (simp; omega))).trans (show _ = some (Obj.cells #[.int .u8 K, .int .i64 S, .int .i64 C, .int .i64 T, .int .i64 M, .int .u8 0] 25 (0, 0)) by (repeat (first | assumption | (with_reducible refine alloc_at ?_; (focus (first | omega | (simp; done) | (simp; omega)))) | (with_reducible refine boxed_at ?_; (focus (first | omega | (simp; done) | (simp; omega)))) | (with_reducible refine alloc_old ?_ ?_; (focus (first | omega | (simp; done) | (simp; omega)))) | (with_reducible refine boxed_old ?_ ?_; (focus (first | omega | (simp; done) | (simp; omega)))) | (with_reducible refine drew_old ?_))))
  have HW2 : Hid (Below w.heap.size w w2) := Lib.hid ((boxed_below HW1.out (Nat.le_refl _)).trans ((((Below.refl _ _).alloc (Nat.le_refl _) _).trans (hb2.mono (by first | omega | (simp; done) | (simp; omega)))).mono (by first | omega | (simp; done) | (simp; omega))))
  have s2 : w.heap.size < w2.heap.size := by have := hb2.size; simp at this; omega
  clear hb2 HW1 s1 hlit1
  go_wp2_with (first | ((with_reducible_and_instances (show wpList _ _ _ (Oper.mk _ (Op.load 25 _) _ _ _ _ :: _) _ _)); refine wl_load Try.underlying25 rfl info6 rfl rfl rfl (by (repeat (first | assumption | (with_reducible refine alloc_at ?_; (focus (first | omega | (simp; done) | (simp; omega)))) | (with_reducible refine boxed_at ?_; (focus (first | omega | (simp; done) | (simp; omega)))) | (with_reducible refine alloc_old ?_ ?_; (focus (first | omega | (simp; done) | (simp; omega)))) | (with_reducible refine boxed_old ?_ ?_; (focus (first | omega | (simp; done) | (simp; omega)))) | (with_reducible refine drew_old ?_)))) (by rfl) ?_) | ((with_reducible_and_instances (show wpList _ _ _ (Oper.mk _ (Op.store 25 _ _) _ _ _ _ :: _) _ _)); refine wl_store info6 rfl rfl rfl rfl (by (repeat (first | assumption | (with_reducible refine alloc_at ?_; (focus (first | omega | (simp; done) | (simp; omega)))) | (with_reducible refine boxed_at ?_; (focus (first | omega | (simp; done) | (simp; omega)))) | (with_reducible refine alloc_old ?_ ?_; (focus (first | omega | (simp; done) | (simp; omega)))) | (with_reducible refine boxed_old ?_ ?_; (focus (first | omega | (simp; done) | (simp; omega)))) | (with_reducible refine drew_old ?_)))) (by rfl) (by rfl) (by simp [Value.oneCell']) ?_))
  refine (asked_any K S C T M v _).mono ?_
  rintro e w3 ⟨rfl, hb3⟩
  have h32 := (hb3.block w.heap.size (by first | omega | (simp; done) | (simp; omega))).trans (show _ = some (Obj.cells #[.int .u8 K, .int .i64 S, .int .i64 C, .int .i64 T, .int .i64 M, .int .u8 0] 25 (0, 0)) by (repeat (first | assumption | (with_reducible refine alloc_at ?_; (focus (first | omega | (simp; done) | (simp; omega)))) | (with_reducible refine boxed_at ?_; (focus (first | omega | (simp; done) | (simp; omega)))) | (with_reducible refine alloc_old ?_ ?_; (focus (first | omega | (simp; done) | (simp; omega)))) | (with_reducible refine boxed_old ?_ ?_; (focus (first | omega | (simp; done) | (simp; omega)))) | (with_reducible refine drew_old ?_))))
  have h36 := (hb3.block w2.heap.size (by first | omega | (simp; done) | (simp; omega))).trans (show _ = some (Obj.cells #[.int .u8 K, .int .i64 S, .int .i64 C, .int .i64 T, .int .i64 M, .int .u8 v] 25 (0, 0)) by (repeat (first | assumption | (with_reducible refine alloc_at ?_; (focus (first | omega | (simp; done) | (simp; omega)))) | (with_reducible refine boxed_at ?_; (focus (first | omega | (simp; done) | (simp; omega)))) | (with_reducible refine alloc_old ?_ ?_; (focus (first | omega | (simp; done) | (simp; omega)))) | (with_reducible refine boxed_old ?_ ?_; (focus (first | omega | (simp; done) | (simp; omega)))) | (with_reducible refine drew_old ?_))))
  have HW3 : Hid (Below w.heap.size w w3) := Lib.hid (HW2.out.trans (((boxed_below ((Below.refl _ _).alloc (Nat.le_refl _) _) (Nat.le_refl _)).trans (hb3.mono (by first | omega | (simp; done) | (simp; omega)))).mono HW2.out.size))
  have s3 : w2.heap.size < w3.heap.size := by have := hb3.size; simp at this; omega
  have s30 : w.heap.size < w3.heap.size := Nat.lt_trans s2 s3
  have e3 := Lib.hid (boxed_self h32)
  rw [e3.out]
  have H36 := Lib.hid h36
  clear hb3 h2 HW2 e3 h36
  go_wp2_with (first | ((with_reducible_and_instances (show wpList _ _ _ (Oper.mk _ (Op.load 25 _) _ _ _ _ :: _) _ _)); refine wl_load Try.underlying25 rfl info6 rfl rfl rfl (by (repeat (first | assumption | (with_reducible refine alloc_at ?_; (focus (first | omega | (simp; done) | (simp; omega)))) | (with_reducible refine boxed_at ?_; (focus (first | omega | (simp; done) | (simp; omega)))) | (with_reducible refine alloc_old ?_ ?_; (focus (first | omega | (simp; done) | (simp; omega)))) | (with_reducible refine boxed_old ?_ ?_; (focus (first | omega | (simp; done) | (simp; omega)))) | (with_reducible refine drew_old ?_)))) (by rfl) ?_) | ((with_reducible_and_instances (show wpList _ _ _ (Oper.mk _ (Op.store 25 _ _) _ _ _ _ :: _) _ _)); refine wl_store info6 rfl rfl rfl rfl (by (repeat (first | assumption | (with_reducible refine alloc_at ?_; (focus (first | omega | (simp; done) | (simp; omega)))) | (with_reducible refine boxed_at ?_; (focus (first | omega | (simp; done) | (simp; omega)))) | (with_reducible refine alloc_old ?_ ?_; (focus (first | omega | (simp; done) | (simp; omega)))) | (with_reducible refine boxed_old ?_ ?_; (focus (first | omega | (simp; done) | (simp; omega)))) | (with_reducible refine drew_old ?_)))) (by rfl) (by rfl) (by simp [Value.oneCell']) ?_))
  have Qw9 : Hid (S4 #[.int .u8 K, .int .i64 S, .int .i64 C, .int .i64 T, .int .i64 M, .int .u8 0] #[.int .u8 K, .int .i64 S, .int .i64 C, .int .i64 T, .int .i64 M, .int .u8 v] 25 w.heap.size w2.heap.size w3.heap.size (w3.heap.size + 1) (boxed ((boxed ((boxed w3 w.heap.size #[.int .u8 K, .int .i64 S, .int .i64 C, .int .i64 T, .int .i64 M, .int .u8 0] 25).alloc (.cells #[.int .u8 0, .int .i64 0, .int .i64 0, .int .i64 0, .int .i64 0, .int .u8 0] 25)) w3.heap.size #[.int .u8 K, .int .i64 S, .int .i64 C, .int .i64 T, .int .i64 M, .int .u8 0] 25).alloc (.cells #[.int .u8 0, .int .i64 0, .int .i64 0, .int .i64 0, .int .i64 0, .int .u8 0] 25)) (w3.heap.size + 1) #[.int .u8 K, .int .i64 S, .int .i64 C, .int .i64 T, .int .i64 M, .int .u8 v] 25)) := Lib.hid ⟨⟨by (repeat (first | assumption | (with_reducible refine alloc_at ?_; (focus (first | omega | (simp; done) | (simp; omega)))) | (with_reducible refine boxed_at ?_; (focus (first | omega | (simp; done) | (simp; omega)))) | (with_reducible refine alloc_old ?_ ?_; (focus (first | omega | (simp; done) | (simp; omega)))) | (with_reducible refine boxed_old ?_ ?_; (focus (first | omega | (simp; done) | (simp; omega)))) | (with_reducible refine drew_old ?_))), (by have h36 := H36.out; (repeat (first | assumption | (with_reducible refine alloc_at ?_; (focus (first | omega | (simp; done) | (simp; omega)))) | (with_reducible refine boxed_at ?_; (focus (first | omega | (simp; done) | (simp; omega)))) | (with_reducible refine alloc_old ?_ ?_; (focus (first | omega | (simp; done) | (simp; omega)))) | (with_reducible refine boxed_old ?_ ?_; (focus (first | omega | (simp; done) | (simp; omega)))) | (with_reducible refine drew_old ?_)))), by (repeat (first | assumption | (with_reducible refine alloc_at ?_; (focus (first | omega | (simp; done) | (simp; omega)))) | (with_reducible refine boxed_at ?_; (focus (first | omega | (simp; done) | (simp; omega)))) | (with_reducible refine alloc_old ?_ ?_; (focus (first | omega | (simp; done) | (simp; omega)))) | (with_reducible refine boxed_old ?_ ?_; (focus (first | omega | (simp; done) | (simp; omega)))) | (with_reducible refine drew_old ?_))), by (repeat (first | assumption | (with_reducible refine alloc_at ?_; (focus (first | omega | (simp; done) | (simp; omega)))) | (with_reducible refine boxed_at ?_; (focus (first | omega | (simp; done) | (simp; omega)))) | (with_reducible refine alloc_old ?_ ?_; (focus (first | omega | (simp; done) | (simp; omega)))) | (with_reducible refine boxed_old ?_ ?_; (focus (first | omega | (simp; done) | (simp; omega)))) | (with_reducible refine drew_old ?_)))⟩, (by first | omega | (simp; done) | (simp; omega)), (by first | omega | (simp; done) | (simp; omega)), (by first | omega | (simp; done) | (simp; omega)), (by first | omega | (simp; done) | (simp; omega))⟩
  have Ww9 : Hid (Below w.heap.size w (boxed ((boxed ((boxed w3 w.heap.size #[.int .u8 K, .int .i64 S, .int .i64 C, .int .i64 T, .int .i64 M, .int .u8 0] 25).alloc (.cells #[.int .u8 0, .int .i64 0, .int .i64 0, .int .i64 0, .int .i64 0, .int .u8 0] 25)) w3.heap.size #[.int .u8 K, .int .i64 S, .int .i64 C, .int .i64 T, .int .i64 M, .int .u8 0] 25).alloc (.cells #[.int .u8 0, .int .i64 0, .int .i64 0, .int .i64 0, .int .i64 0, .int .u8 0] 25)) (w3.heap.size + 1) #[.int .u8 K, .int .i64 S, .int .i64 C, .int .i64 T, .int .i64 M, .int .u8 v] 25)) := Lib.hid (boxed_below ((boxed_below ((boxed_below HW3.out (Nat.le_refl _)).alloc (by first | omega | (simp; done) | (simp; omega)) _) (by first | omega | (simp; done) | (simp; omega))).alloc (by first | omega | (simp; done) | (simp; omega)) _) (by first | omega | (simp; done) | (simp; omega)))
  clear h32 H36
  generalize (boxed ((boxed ((boxed w3 w.heap.size #[.int .u8 K, .int .i64 S, .int .i64 C, .int .i64 T, .int .i64 M, .int .u8 0] 25).alloc (.cells #[.int .u8 0, .int .i64 0, .int .i64 0, .int .i64 0, .int .i64 0, .int .u8 0] 25)) w3.heap.size #[.int .u8 K, .int .i64 S, .int .i64 C, .int .i64 T, .int .i64 M, .int .u8 0] 25).alloc (.cells #[.int .u8 0, .int .i64 0, .int .i64 0, .int .i64 0, .int .i64 0, .int .u8 0] 25)) (w3.heap.size + 1) #[.int .u8 K, .int .i64 S, .int .i64 C, .int .i64 T, .int .i64 M, .int .u8 v] 25) = w9 at *
  refine lane_start (ord := [0, 1, 2, 6, 7, 8, 3, 4, 5, 9, 10, 11, 12, 13, 14, 15, 16, 17, 18, 19, 20, 21, 22, 23, 24, 25, 26, 27, 28, 29, 30, 31]) (S := fun w' => (w'.heap[w.heap.size]? = some (.cells #[.int .u8 K, .int .i64 S, .int .i64 C, .int .i64 T, .int .i64 M, .int .u8 0] 25 (0, 0)) ∧ w'.heap[w2.heap.size]? = some (.cells #[.int .u8 K, .int .i64 S, .int .i64 C, .int .i64 T, .int .i64 M, .int .u8 v] 25 (0, 0)) ∧ w'.heap[w3.heap.size]? = some (.cells #[.int .u8 K, .int .i64 S, .int .i64 C, .int .i64 T, .int .i64 M, .int .u8 0] 25 (0, 0)) ∧ w'.heap[w3.heap.size + 1]? = some (.cells #[.int .u8 K, .int .i64 S, .int .i64 C, .int .i64 T, .int .i64 M, .int .u8 v] 25 (0, 0)))) rfl (by kernel_rfl) Qw9.out.1 (fun hHeld => ?_)
  refine lane_alone rfl (by kernel_rfl) (by rfl) (fun K hK => ?_)
  go_simp
  refine (ntawake_any _).mono ?_
  rintro e wa ⟨rfl, hb⟩
  have hb : Below w9.heap.size w9 wa := ((Below.refl _ _).drew).trans hb
  have Qwa := Lib.hid (S4.step hb Qw9.out)
  have Wwa := Lib.hid (Ww9.out.trans (hb.mono Ww9.out.size))
  refine hK _ _ Qwa.out.1 (fun hHeld => ?_)
  clear hK K hb
  refine lane_take (v := ?_) rfl (by kernel_rfl) (by kernel_rfl) (by rfl) ?_ (by assumption) ?_
  rotate_left
  · intro w' hSw
    go_simp
    try (with_reducible rfl)
  simp only [Act.put, List.setIfInBounds_toArray, List.set_cons_zero, List.set_cons_succ]
  refine lane_take rfl (by kernel_rfl) (by kernel_rfl) (by rfl) (fun w' hS => exec_load rfl rfl (ldn hS.1 rfl)) (by assumption) ?_
  simp only [Act.put, List.setIfInBounds_toArray, List.set_cons_zero, List.set_cons_succ]
  refine lane_take (v := ?_) rfl (by kernel_rfl) (by kernel_rfl) (by rfl) ?_ (by assumption) ?_
  rotate_left
  · intro w' hSw
    go_simp
    try (with_reducible rfl)
  simp only [Act.put, List.setIfInBounds_toArray, List.set_cons_zero, List.set_cons_succ]
  refine lane_take (v := ?_) rfl (by kernel_rfl) (by kernel_rfl) (by rfl) ?_ (by assumption) ?_
  rotate_left
  · intro w' hSw
    have c0 := cell_of_row _ _ 0 _ _ _ hSw.1
    go_simp
    try (with_reducible rfl)
  simp only [Act.put, List.setIfInBounds_toArray, List.set_cons_zero, List.set_cons_succ]
  refine lane_take (v := ?_) rfl (by kernel_rfl) (by kernel_rfl) (by rfl) ?_ (by assumption) ?_
  rotate_left
  · intro w' hSw
    go_simp
    try (with_reducible rfl)
  simp only [Act.put, List.setIfInBounds_toArray, List.set_cons_zero, List.set_cons_succ]
  refine lane_two (i := 3) (j := 5) (ordJ := [9, 10, 3, 4, 11, 12, 13, 14, 15, 16, 17, 18, 19, 20, 21, 22, 23, 24, 25, 26, 27, 28, 29, 30, 31]) rfl rfl (by kernel_rfl) rfl (by rfl) (by rfl) (fun K' hK => ?_) (fun K' hK => ?_)
  · go_simp
    refine (asked_any K S C T M 0 _).mono ?_
    rintro e wb ⟨rfl, hb⟩
    have Qwb := Lib.hid (S4.step hb Qwa.out)
    have Wwb := Lib.hid (Wwa.out.trans (hb.mono Wwa.out.size))
    refine hK _ _ Qwb.out.1 (fun hHeld => ?_)
    clear hK K' hb
    refine lane_two (i := 4) (j := 5) (ordJ := [9, 10, 4, 11, 12, 13, 14, 15, 16, 17, 18, 19, 20, 21, 22, 23, 24, 25, 26, 27, 28, 29, 30, 31]) rfl rfl (by kernel_rfl) rfl (by rfl) (by rfl) (fun K' hK => ?_) (fun K' hK => ?_)
    · go_simp
      refine (party_any K S C T M 0 _).mono ?_
      rw [HPAR.out]
      rintro e wc ⟨rfl, hb⟩
      have Qwc := Lib.hid (S4.step hb Qwb.out)
      have Wwc := Lib.hid (Wwb.out.trans (hb.mono Wwb.out.size))
      refine hK _ _ Qwc.out.1 (fun hHeld => ?_)
      clear hK K' hb
      refine lane_alone rfl (by kernel_rfl) (by rfl) (fun K' hK => ?_)
      go_simp
      have hb : Below wc.heap.size wc (wc.alloc (.cells #[.int .u8 0, .int .u8 0, .int .u8 1, .int .u8 1, .int .u8 2] 5)) := (Below.refl _ _).alloc (Nat.le_refl _) _
      have hl : (wc.alloc (.cells #[.int .u8 0, .int .u8 0, .int .u8 1, .int .u8 1, .int .u8 2] 5)).cell? ⟨wc.heap.size, k, none⟩ = some (.int .u8 P) := (cell_of_row _ _ k _ _ _ alloc_block).trans HLIT.out
      have zl : wc.heap.size < (wc.alloc (.cells #[.int .u8 0, .int .u8 0, .int .u8 1, .int .u8 1, .int .u8 2] 5)).heap.size := by simp
      have Qwd := Lib.hid (S4.step hb Qwc.out)
      have Wwd := Lib.hid (Wwc.out.trans (hb.mono Wwc.out.size))
      refine hK _ _ Qwd.out.1 (fun hHeld => ?_)
      clear hK K' hb
      obtain ⟨bl, ebl⟩ : ∃ bl, bl = wc.heap.size := ⟨_, rfl⟩
      rw [← ebl] at hl zl ⊢
      clear ebl
      generalize wc.alloc (.cells #[.int .u8 0, .int .u8 0, .int .u8 1, .int .u8 1, .int .u8 2] 5) = wd at *
      have lwwd := hl
      clear hl
      refine lane_into (S' := fun w' => (w'.heap[w.heap.size]? = some (.cells #[.int .u8 K, .int .i64 S, .int .i64 C, .int .i64 T, .int .i64 M, .int .u8 0] 25 (0, 0)) ∧ w'.heap[w2.heap.size]? = some (.cells #[.int .u8 K, .int .i64 S, .int .i64 C, .int .i64 T, .int .i64 M, .int .u8 v] 25 (0, 0)) ∧ w'.heap[w3.heap.size]? = some (.cells #[.int .u8 K, .int .i64 S, .int .i64 C, .int .i64 T, .int .i64 M, .int .u8 0] 25 (0, 0)) ∧ w'.heap[w3.heap.size + 1]? = some (.cells #[.int .u8 K, .int .i64 S, .int .i64 C, .int .i64 T, .int .i64 M, .int .u8 v] 25 (0, 0))) ∧ w'.cell? ⟨bl, k, none⟩ = some (.int .u8 P)) (fun _ h => h.1) ⟨Qwd.out.1, lwwd⟩ (fun hHeld => ?_)
      refine lane_take (v := ?_) rfl (by kernel_rfl) (by kernel_rfl) (by rfl) ?_ (by assumption) ?_
      rotate_left
      · intro w' hSw
        obtain ⟨_, hc⟩ := hSw
        go_simp
        try (with_reducible rfl)
      simp only [Act.put, List.setIfInBounds_toArray, List.set_cons_zero, List.set_cons_succ]
      refine lane_take (v := ?_) rfl (by kernel_rfl) (by kernel_rfl) (by rfl) ?_ (by assumption) ?_
      rotate_left
      · intro w' hSw
        obtain ⟨_, hc⟩ := hSw
        go_simp
        try (with_reducible rfl)
      simp only [Act.put, List.setIfInBounds_toArray, List.set_cons_zero, List.set_cons_succ]
      refine lane_take (v := ?_) rfl (by kernel_rfl) (by kernel_rfl) (by rfl) ?_ (by assumption) ?_
      rotate_left
      · intro w' hSw
        go_simp
        try (with_reducible rfl)
      simp only [Act.put, List.setIfInBounds_toArray, List.set_cons_zero, List.set_cons_succ]
      refine lane_take (v := ?_) rfl (by kernel_rfl) (by kernel_rfl) (by rfl) ?_ (by assumption) ?_
      rotate_left
      · intro w' hSw
        go_simp
        try (with_reducible rfl)
      simp only [Act.put, List.setIfInBounds_toArray, List.set_cons_zero, List.set_cons_succ]
      refine lane_take (v := ?_) rfl (by kernel_rfl) (by kernel_rfl) (by rfl) ?_ (by assumption) ?_
      rotate_left
      · intro w' hSw
        go_simp
        try (with_reducible rfl)
      simp only [Act.put, List.setIfInBounds_toArray, List.set_cons_zero, List.set_cons_succ]
      refine lane_take rfl (by kernel_rfl) (by kernel_rfl) (by rfl) (fun w' hS => exec_load rfl rfl (ldn hS.1.2.1 rfl)) (by assumption) ?_
      simp only [Act.put, List.setIfInBounds_toArray, List.set_cons_zero, List.set_cons_succ]
      refine lane_take rfl (by kernel_rfl) (by kernel_rfl) (by rfl) (fun w' hS => exec_load rfl rfl (ldn hS.1.2.2.2 rfl)) (by assumption) ?_
      simp only [Act.put, List.setIfInBounds_toArray, List.set_cons_zero, List.set_cons_succ]
      refine lane_take rfl (by kernel_rfl) (by kernel_rfl) (by rfl) (fun w' hS => exec_eql6' (v := ⟨K, S, C, T, M, v⟩) (v' := ⟨K, S, C, T, M, v⟩) (decide_eq_true rfl) rfl rfl rfl w') (by assumption) ?_
      simp only [Act.put, List.setIfInBounds_toArray, List.set_cons_zero, List.set_cons_succ]
      refine lane_take (v := ?_) rfl (by kernel_rfl) (by kernel_rfl) (by rfl) ?_ (by assumption) ?_
      rotate_left
      · intro w' hSw
        go_simp
        try (with_reducible rfl)
      simp only [Act.put, List.setIfInBounds_toArray, List.set_cons_zero, List.set_cons_succ]
      refine lane_take (v := ?_) rfl (by kernel_rfl) (by kernel_rfl) (by rfl) ?_ (by assumption) ?_
      rotate_left
      · intro w' hSw
        go_simp
        try (with_reducible rfl)
      simp only [Act.put, List.setIfInBounds_toArray, List.set_cons_zero, List.set_cons_succ]
      refine lane_take rfl (by kernel_rfl) (by kernel_rfl) (by rfl) (fun w' hS => exec_load rfl rfl (ldn hS.1.2.2.1 rfl)) (by assumption) ?_
      simp only [Act.put, List.setIfInBounds_toArray, List.set_cons_zero, List.set_cons_succ]
      refine lane_take rfl (by kernel_rfl) (by kernel_rfl) (by rfl) (fun w' hS => exec_load rfl rfl (ldn hS.1.1 rfl)) (by assumption) ?_
      simp only [Act.put, List.setIfInBounds_toArray, List.set_cons_zero, List.set_cons_succ]
      refine lane_take rfl (by kernel_rfl) (by kernel_rfl) (by rfl) (fun w' hS => exec_eql6' (v := ⟨K, S, C, T, M, 0⟩) (v' := ⟨K, S, C, T, M, 0⟩) (decide_eq_true rfl) rfl rfl rfl w') (by assumption) ?_
      simp only [Act.put, List.setIfInBounds_toArray, List.set_cons_zero, List.set_cons_succ]
      repeat (first
        | (refine lane_skip rfl (by kernel_rfl) (by kernel_rfl) (by rfl) (by assumption) ?_; simp only [Act.put, List.setIfInBounds_toArray, List.set_cons_zero, List.set_cons_succ])
        | (refine lane_take (v := ?_) rfl (by kernel_rfl) (by kernel_rfl) (by rfl) ?_ (by assumption) ?_; rotate_left; (focus (intro w' hSw; go_simp; try (with_reducible rfl))); simp only [Act.put, List.setIfInBounds_toArray, List.set_cons_zero, List.set_cons_succ]))
      refine lane_end (by kernel_rfl) ?_
      have HF := Wwd
      clear hHeld
      go_wp2
      go_ret
      exact ⟨rfl, HF.out⟩
    · go_simp
      have hb : Below wb.heap.size wb (wb.alloc (.cells #[.int .u8 0, .int .u8 0, .int .u8 1, .int .u8 1, .int .u8 2] 5)) := (Below.refl _ _).alloc (Nat.le_refl _) _
      have hl : (wb.alloc (.cells #[.int .u8 0, .int .u8 0, .int .u8 1, .int .u8 1, .int .u8 2] 5)).cell? ⟨wb.heap.size, k, none⟩ = some (.int .u8 P) := (cell_of_row _ _ k _ _ _ alloc_block).trans HLIT.out
      have zl : wb.heap.size < (wb.alloc (.cells #[.int .u8 0, .int .u8 0, .int .u8 1, .int .u8 1, .int .u8 2] 5)).heap.size := by simp
      have Qwc := Lib.hid (S4.step hb Qwb.out)
      have Wwc := Lib.hid (Wwb.out.trans (hb.mono Wwb.out.size))
      refine hK _ _ Qwc.out.1 (fun hHeld => ?_)
      clear hK K' hb
      obtain ⟨bl, ebl⟩ : ∃ bl, bl = wb.heap.size := ⟨_, rfl⟩
      rw [← ebl] at hl zl ⊢
      clear ebl
      generalize wb.alloc (.cells #[.int .u8 0, .int .u8 0, .int .u8 1, .int .u8 1, .int .u8 2] 5) = wc at *
      have lwwc := hl
      clear hl
      refine lane_into (S' := fun w' => (w'.heap[w.heap.size]? = some (.cells #[.int .u8 K, .int .i64 S, .int .i64 C, .int .i64 T, .int .i64 M, .int .u8 0] 25 (0, 0)) ∧ w'.heap[w2.heap.size]? = some (.cells #[.int .u8 K, .int .i64 S, .int .i64 C, .int .i64 T, .int .i64 M, .int .u8 v] 25 (0, 0)) ∧ w'.heap[w3.heap.size]? = some (.cells #[.int .u8 K, .int .i64 S, .int .i64 C, .int .i64 T, .int .i64 M, .int .u8 0] 25 (0, 0)) ∧ w'.heap[w3.heap.size + 1]? = some (.cells #[.int .u8 K, .int .i64 S, .int .i64 C, .int .i64 T, .int .i64 M, .int .u8 v] 25 (0, 0))) ∧ w'.cell? ⟨bl, k, none⟩ = some (.int .u8 P)) (fun _ h => h.1) ⟨Qwc.out.1, lwwc⟩ (fun hHeld => ?_)
      refine lane_take (v := ?_) rfl (by kernel_rfl) (by kernel_rfl) (by rfl) ?_ (by assumption) ?_
      rotate_left
      · intro w' hSw
        obtain ⟨_, hc⟩ := hSw
        go_simp
        try (with_reducible rfl)
      simp only [Act.put, List.setIfInBounds_toArray, List.set_cons_zero, List.set_cons_succ]
      refine lane_take (v := ?_) rfl (by kernel_rfl) (by kernel_rfl) (by rfl) ?_ (by assumption) ?_
      rotate_left
      · intro w' hSw
        obtain ⟨_, hc⟩ := hSw
        go_simp
        try (with_reducible rfl)
      simp only [Act.put, List.setIfInBounds_toArray, List.set_cons_zero, List.set_cons_succ]
      refine lane_alone rfl (by kernel_rfl) (by rfl) (fun K' hK => ?_)
      go_simp
      refine (party_any K S C T M 0 _).mono ?_
      rw [HPAR.out]
      rintro e wd ⟨rfl, hb⟩
      have Qwd := Lib.hid (S4.step hb Qwc.out)
      have Wwd := Lib.hid (Wwc.out.trans (hb.mono Wwc.out.size))
      have lwwd := (World.cell?_of_block (a := ⟨bl, k, none⟩) (hb.block bl zl)).trans lwwc
      have zl := Nat.lt_of_lt_of_le zl hb.size
      refine hK _ _ ⟨Qwd.out.1, lwwd⟩ (fun hHeld => ?_)
      clear hK K' hb
      refine lane_take (v := ?_) rfl (by kernel_rfl) (by kernel_rfl) (by rfl) ?_ (by assumption) ?_
      rotate_left
      · intro w' hSw
        go_simp
        try (with_reducible rfl)
      simp only [Act.put, List.setIfInBounds_toArray, List.set_cons_zero, List.set_cons_succ]
      refine lane_take (v := ?_) rfl (by kernel_rfl) (by kernel_rfl) (by rfl) ?_ (by assumption) ?_
      rotate_left
      · intro w' hSw
        go_simp
        try (with_reducible rfl)
      simp only [Act.put, List.setIfInBounds_toArray, List.set_cons_zero, List.set_cons_succ]
      refine lane_take (v := ?_) rfl (by kernel_rfl) (by kernel_rfl) (by rfl) ?_ (by assumption) ?_
      rotate_left
      · intro w' hSw
        go_simp
        try (with_reducible rfl)
      simp only [Act.put, List.setIfInBounds_toArray, List.set_cons_zero, List.set_cons_succ]
      refine lane_take rfl (by kernel_rfl) (by kernel_rfl) (by rfl) (fun w' hS => exec_load rfl rfl (ldn hS.1.2.1 rfl)) (by assumption) ?_
      simp only [Act.put, List.setIfInBounds_toArray, List.set_cons_zero, List.set_cons_succ]
      refine lane_take rfl (by kernel_rfl) (by kernel_rfl) (by rfl) (fun w' hS => exec_load rfl rfl (ldn hS.1.2.2.2 rfl)) (by assumption) ?_
      simp only [Act.put, List.setIfInBounds_toArray, List.set_cons_zero, List.set_cons_succ]
      refine lane_take rfl (by kernel_rfl) (by kernel_rfl) (by rfl) (fun w' hS => exec_eql6' (v := ⟨K, S, C, T, M, v⟩) (v' := ⟨K, S, C, T, M, v⟩) (decide_eq_true rfl) rfl rfl rfl w') (by assumption) ?_
      simp only [Act.put, List.setIfInBounds_toArray, List.set_cons_zero, List.set_cons_succ]
      refine lane_take (v := ?_) rfl (by kernel_rfl) (by kernel_rfl) (by rfl) ?_ (by assumption) ?_
      rotate_left
      · intro w' hSw
        go_simp
        try (with_reducible rfl)
      simp only [Act.put, List.setIfInBounds_toArray, List.set_cons_zero, List.set_cons_succ]
      refine lane_take (v := ?_) rfl (by kernel_rfl) (by kernel_rfl) (by rfl) ?_ (by assumption) ?_
      rotate_left
      · intro w' hSw
        go_simp
        try (with_reducible rfl)
      simp only [Act.put, List.setIfInBounds_toArray, List.set_cons_zero, List.set_cons_succ]
      refine lane_take rfl (by kernel_rfl) (by kernel_rfl) (by rfl) (fun w' hS => exec_load rfl rfl (ldn hS.1.2.2.1 rfl)) (by assumption) ?_
      simp only [Act.put, List.setIfInBounds_toArray, List.set_cons_zero, List.set_cons_succ]
      refine lane_take rfl (by kernel_rfl) (by kernel_rfl) (by rfl) (fun w' hS => exec_load rfl rfl (ldn hS.1.1 rfl)) (by assumption) ?_
      simp only [Act.put, List.setIfInBounds_toArray, List.set_cons_zero, List.set_cons_succ]
      refine lane_take rfl (by kernel_rfl) (by kernel_rfl) (by rfl) (fun w' hS => exec_eql6' (v := ⟨K, S, C, T, M, 0⟩) (v' := ⟨K, S, C, T, M, 0⟩) (decide_eq_true rfl) rfl rfl rfl w') (by assumption) ?_
      simp only [Act.put, List.setIfInBounds_toArray, List.set_cons_zero, List.set_cons_succ]
      repeat (first
        | (refine lane_skip rfl (by kernel_rfl) (by kernel_rfl) (by rfl) (by assumption) ?_; simp only [Act.put, List.setIfInBounds_toArray, List.set_cons_zero, List.set_cons_succ])
        | (refine lane_take (v := ?_) rfl (by kernel_rfl) (by kernel_rfl) (by rfl) ?_ (by assumption) ?_; rotate_left; (focus (intro w' hSw; go_simp; try (with_reducible rfl))); simp only [Act.put, List.setIfInBounds_toArray, List.set_cons_zero, List.set_cons_succ]))
      refine lane_end (by kernel_rfl) ?_
      have HF := Wwd
      clear hHeld
      go_wp2
      go_ret
      exact ⟨rfl, HF.out⟩
  · go_simp
    have hb : Below wa.heap.size wa (wa.alloc (.cells #[.int .u8 0, .int .u8 0, .int .u8 1, .int .u8 1, .int .u8 2] 5)) := (Below.refl _ _).alloc (Nat.le_refl _) _
    have hl : (wa.alloc (.cells #[.int .u8 0, .int .u8 0, .int .u8 1, .int .u8 1, .int .u8 2] 5)).cell? ⟨wa.heap.size, k, none⟩ = some (.int .u8 P) := (cell_of_row _ _ k _ _ _ alloc_block).trans HLIT.out
    have zl : wa.heap.size < (wa.alloc (.cells #[.int .u8 0, .int .u8 0, .int .u8 1, .int .u8 1, .int .u8 2] 5)).heap.size := by simp
    have Qwb := Lib.hid (S4.step hb Qwa.out)
    have Wwb := Lib.hid (Wwa.out.trans (hb.mono Wwa.out.size))
    refine hK _ _ Qwb.out.1 (fun hHeld => ?_)
    clear hK K' hb
    obtain ⟨bl, ebl⟩ : ∃ bl, bl = wa.heap.size := ⟨_, rfl⟩
    rw [← ebl] at hl zl ⊢
    clear ebl
    generalize wa.alloc (.cells #[.int .u8 0, .int .u8 0, .int .u8 1, .int .u8 1, .int .u8 2] 5) = wb at *
    have lwwb := hl
    clear hl
    refine lane_into (S' := fun w' => (w'.heap[w.heap.size]? = some (.cells #[.int .u8 K, .int .i64 S, .int .i64 C, .int .i64 T, .int .i64 M, .int .u8 0] 25 (0, 0)) ∧ w'.heap[w2.heap.size]? = some (.cells #[.int .u8 K, .int .i64 S, .int .i64 C, .int .i64 T, .int .i64 M, .int .u8 v] 25 (0, 0)) ∧ w'.heap[w3.heap.size]? = some (.cells #[.int .u8 K, .int .i64 S, .int .i64 C, .int .i64 T, .int .i64 M, .int .u8 0] 25 (0, 0)) ∧ w'.heap[w3.heap.size + 1]? = some (.cells #[.int .u8 K, .int .i64 S, .int .i64 C, .int .i64 T, .int .i64 M, .int .u8 v] 25 (0, 0))) ∧ w'.cell? ⟨bl, k, none⟩ = some (.int .u8 P)) (fun _ h => h.1) ⟨Qwb.out.1, lwwb⟩ (fun hHeld => ?_)
    refine lane_take (v := ?_) rfl (by kernel_rfl) (by kernel_rfl) (by rfl) ?_ (by assumption) ?_
    rotate_left
    · intro w' hSw
      obtain ⟨_, hc⟩ := hSw
      go_simp
      try (with_reducible rfl)
    simp only [Act.put, List.setIfInBounds_toArray, List.set_cons_zero, List.set_cons_succ]
    refine lane_take (v := ?_) rfl (by kernel_rfl) (by kernel_rfl) (by rfl) ?_ (by assumption) ?_
    rotate_left
    · intro w' hSw
      obtain ⟨_, hc⟩ := hSw
      go_simp
      try (with_reducible rfl)
    simp only [Act.put, List.setIfInBounds_toArray, List.set_cons_zero, List.set_cons_succ]
    refine lane_alone rfl (by kernel_rfl) (by rfl) (fun K' hK => ?_)
    go_simp
    refine (asked_any K S C T M 0 _).mono ?_
    rintro e wc ⟨rfl, hb⟩
    have Qwc := Lib.hid (S4.step hb Qwb.out)
    have Wwc := Lib.hid (Wwb.out.trans (hb.mono Wwb.out.size))
    have lwwc := (World.cell?_of_block (a := ⟨bl, k, none⟩) (hb.block bl zl)).trans lwwb
    have zl := Nat.lt_of_lt_of_le zl hb.size
    refine hK _ _ ⟨Qwc.out.1, lwwc⟩ (fun hHeld => ?_)
    clear hK K' hb
    refine lane_alone rfl (by kernel_rfl) (by rfl) (fun K' hK => ?_)
    go_simp
    refine (party_any K S C T M 0 _).mono ?_
    rw [HPAR.out]
    rintro e wd ⟨rfl, hb⟩
    have Qwd := Lib.hid (S4.step hb Qwc.out)
    have Wwd := Lib.hid (Wwc.out.trans (hb.mono Wwc.out.size))
    have lwwd := (World.cell?_of_block (a := ⟨bl, k, none⟩) (hb.block bl zl)).trans lwwc
    have zl := Nat.lt_of_lt_of_le zl hb.size
    refine hK _ _ ⟨Qwd.out.1, lwwd⟩ (fun hHeld => ?_)
    clear hK K' hb
    refine lane_take (v := ?_) rfl (by kernel_rfl) (by kernel_rfl) (by rfl) ?_ (by assumption) ?_
    rotate_left
    · intro w' hSw
      go_simp
      try (with_reducible rfl)
    simp only [Act.put, List.setIfInBounds_toArray, List.set_cons_zero, List.set_cons_succ]
    refine lane_take (v := ?_) rfl (by kernel_rfl) (by kernel_rfl) (by rfl) ?_ (by assumption) ?_
    rotate_left
    · intro w' hSw
      go_simp
      try (with_reducible rfl)
    simp only [Act.put, List.setIfInBounds_toArray, List.set_cons_zero, List.set_cons_succ]
    refine lane_take (v := ?_) rfl (by kernel_rfl) (by kernel_rfl) (by rfl) ?_ (by assumption) ?_
    rotate_left
    · intro w' hSw
      go_simp
      try (with_reducible rfl)
    simp only [Act.put, List.setIfInBounds_toArray, List.set_cons_zero, List.set_cons_succ]
    refine lane_take rfl (by kernel_rfl) (by kernel_rfl) (by rfl) (fun w' hS => exec_load rfl rfl (ldn hS.1.2.1 rfl)) (by assumption) ?_
    simp only [Act.put, List.setIfInBounds_toArray, List.set_cons_zero, List.set_cons_succ]
    refine lane_take rfl (by kernel_rfl) (by kernel_rfl) (by rfl) (fun w' hS => exec_load rfl rfl (ldn hS.1.2.2.2 rfl)) (by assumption) ?_
    simp only [Act.put, List.setIfInBounds_toArray, List.set_cons_zero, List.set_cons_succ]
    refine lane_take rfl (by kernel_rfl) (by kernel_rfl) (by rfl) (fun w' hS => exec_eql6' (v := ⟨K, S, C, T, M, v⟩) (v' := ⟨K, S, C, T, M, v⟩) (decide_eq_true rfl) rfl rfl rfl w') (by assumption) ?_
    simp only [Act.put, List.setIfInBounds_toArray, List.set_cons_zero, List.set_cons_succ]
    refine lane_take (v := ?_) rfl (by kernel_rfl) (by kernel_rfl) (by rfl) ?_ (by assumption) ?_
    rotate_left
    · intro w' hSw
      go_simp
      try (with_reducible rfl)
    simp only [Act.put, List.setIfInBounds_toArray, List.set_cons_zero, List.set_cons_succ]
    refine lane_take (v := ?_) rfl (by kernel_rfl) (by kernel_rfl) (by rfl) ?_ (by assumption) ?_
    rotate_left
    · intro w' hSw
      go_simp
      try (with_reducible rfl)
    simp only [Act.put, List.setIfInBounds_toArray, List.set_cons_zero, List.set_cons_succ]
    refine lane_take rfl (by kernel_rfl) (by kernel_rfl) (by rfl) (fun w' hS => exec_load rfl rfl (ldn hS.1.2.2.1 rfl)) (by assumption) ?_
    simp only [Act.put, List.setIfInBounds_toArray, List.set_cons_zero, List.set_cons_succ]
    refine lane_take rfl (by kernel_rfl) (by kernel_rfl) (by rfl) (fun w' hS => exec_load rfl rfl (ldn hS.1.1 rfl)) (by assumption) ?_
    simp only [Act.put, List.setIfInBounds_toArray, List.set_cons_zero, List.set_cons_succ]
    refine lane_take rfl (by kernel_rfl) (by kernel_rfl) (by rfl) (fun w' hS => exec_eql6' (v := ⟨K, S, C, T, M, 0⟩) (v' := ⟨K, S, C, T, M, 0⟩) (decide_eq_true rfl) rfl rfl rfl w') (by assumption) ?_
    simp only [Act.put, List.setIfInBounds_toArray, List.set_cons_zero, List.set_cons_succ]
    repeat (first
      | (refine lane_skip rfl (by kernel_rfl) (by kernel_rfl) (by rfl) (by assumption) ?_; simp only [Act.put, List.setIfInBounds_toArray, List.set_cons_zero, List.set_cons_succ])
      | (refine lane_take (v := ?_) rfl (by kernel_rfl) (by kernel_rfl) (by rfl) ?_ (by assumption) ?_; rotate_left; (focus (intro w' hSw; go_simp; try (with_reducible rfl))); simp only [Act.put, List.setIfInBounds_toArray, List.set_cons_zero, List.set_cons_succ]))
    refine lane_end (by kernel_rfl) ?_
    have HF := Wwd
    clear hHeld
    go_wp2
    go_ret
    exact ⟨rfl, HF.out⟩

set_option maxHeartbeats 4000000 in
theorem noticeParties_other (w : World) (k0 s0 c0 t0 a0 v0 : Int) (h : (⟨k0, s0, c0, t0, a0, v0⟩ : Nv).Wf) (v : Int) (K S C T M V : Int) (hx : Nv.nearA ⟨k0, s0, c0, t0, a0, v0⟩ = ⟨K, S, C, T, M, V⟩) (hv : V ≠ 0) (k : Nat) (hk : k < 5) (hK : K = (k : Int) + 1) :
    Calls Try.prog 9 #[.agg #[.int .u8 k0, .int .i64 s0, .int .i64 c0, .int .i64 t0, .int .i64 a0, .int .u8 v0], .int .u8 v] w fun e w' => e = .returned (.bool true) ∧ Below w.heap.size w w' := by
  have HN0 : Hid (∀ w, Calls Try.prog 28 #[.agg #[.int .u8 k0, .int .i64 s0, .int .i64 c0, .int .i64 t0, .int .i64 a0, .int .u8 v0]] w fun x w' => x = .returned (.agg #[.int .u8 K, .int .i64 S, .int .i64 C, .int .i64 T, .int .i64 M, .int .u8 V]) ∧ Below w.heap.size w w') := Lib.hid (fun w => by
    have := nneara_any k0 s0 c0 t0 a0 v0 w h.1 h.2.2.2.2.2.1
    rw [hx] at this
    exact this)
  obtain ⟨P, p0, p2, hlit, hpar⟩ := party_lit k hk S C T M
  rw [← hK] at hpar
  have HPAR := Lib.hid hpar
  have HLIT := Lib.hid hlit
  have HKK := Lib.hid hK
  have hwk : IntKind.u8.wrap (K - 1) = (k : Int) := by rw [hK]; simp [IntKind.wrap, IntKind.bits, IntKind.signed]; omega
  have hp3 : decide (P < 3) = true := by simp; omega
  have hk5 : (k : Int) < 5 := by omega
  have zv : (V != 0) = true := by simpa using hv
  clear hv
  clear h hx hpar hK
  go_enter Try.func9, Try.ntmps9
  go_wp2_with (first | ((with_reducible_and_instances (show wpList _ _ _ (Oper.mk _ (Op.load 25 _) _ _ _ _ :: _) _ _)); refine wl_load Try.underlying25 rfl info6 rfl rfl rfl (by (repeat (first | assumption | (with_reducible refine alloc_at ?_; (focus (first | omega | (simp; done) | (simp; omega)))) | (with_reducible refine boxed_at ?_; (focus (first | omega | (simp; done) | (simp; omega)))) | (with_reducible refine alloc_old ?_ ?_; (focus (first | omega | (simp; done) | (simp; omega)))) | (with_reducible refine boxed_old ?_ ?_; (focus (first | omega | (simp; done) | (simp; omega)))) | (with_reducible refine drew_old ?_)))) (by rfl) ?_) | ((with_reducible_and_instances (show wpList _ _ _ (Oper.mk _ (Op.store 25 _ _) _ _ _ _ :: _) _ _)); refine wl_store info6 rfl rfl rfl rfl (by (repeat (first | assumption | (with_reducible refine alloc_at ?_; (focus (first | omega | (simp; done) | (simp; omega)))) | (with_reducible refine boxed_at ?_; (focus (first | omega | (simp; done) | (simp; omega)))) | (with_reducible refine alloc_old ?_ ?_; (focus (first | omega | (simp; done) | (simp; omega)))) | (with_reducible refine boxed_old ?_ ?_; (focus (first | omega | (simp; done) | (simp; omega)))) | (with_reducible refine drew_old ?_)))) (by rfl) (by rfl) (by simp [Value.oneCell']) ?_))
  refine (HN0.out _).mono ?_
  rintro e w1 ⟨rfl, hb1⟩
  obtain ⟨hw1, s1, e1⟩ := keep0 hb1
  rw [e1]
  have HW1 := Lib.hid hw1
  clear e1 hb1 hw1
  have hlit1 : ((boxed w1 w.heap.size #[.int .u8 K, .int .i64 S, .int .i64 C, .int .i64 T, .int .i64 M, .int .u8 V] 25).alloc (.cells #[.int .u8 0, .int .u8 0, .int .u8 1, .int .u8 1, .int .u8 2] 5)).cell? ⟨w1.heap.size, k, none⟩ = some (.int .u8 P) := by rw [cell_of_row _ _ k _ _ (0, 0) (alloc_at (by rw [boxed_size]))]; exact hlit
  clear hlit
  go_wp2_with (first | ((with_reducible_and_instances (show wpList _ _ _ (Oper.mk _ (Op.load 25 _) _ _ _ _ :: _) _ _)); refine wl_load Try.underlying25 rfl info6 rfl rfl rfl (by (repeat (first | assumption | (with_reducible refine alloc_at ?_; (focus (first | omega | (simp; done) | (simp; omega)))) | (with_reducible refine boxed_at ?_; (focus (first | omega | (simp; done) | (simp; omega)))) | (with_reducible refine alloc_old ?_ ?_; (focus (first | omega | (simp; done) | (simp; omega)))) | (with_reducible refine boxed_old ?_ ?_; (focus (first | omega | (simp; done) | (simp; omega)))) | (with_reducible refine drew_old ?_)))) (by rfl) ?_) | ((with_reducible_and_instances (show wpList _ _ _ (Oper.mk _ (Op.store 25 _ _) _ _ _ _ :: _) _ _)); refine wl_store info6 rfl rfl rfl rfl (by (repeat (first | assumption | (with_reducible refine alloc_at ?_; (focus (first | omega | (simp; done) | (simp; omega)))) | (with_reducible refine boxed_at ?_; (focus (first | omega | (simp; done) | (simp; omega)))) | (with_reducible refine alloc_old ?_ ?_; (focus (first | omega | (simp; done) | (simp; omega)))) | (with_reducible refine boxed_old ?_ ?_; (focus (first | omega | (simp; done) | (simp; omega)))) | (with_reducible refine drew_old ?_)))) (by rfl) (by rfl) (by simp [Value.oneCell']) ?_))
  refine (answer_any K S C T M V v _).mono ?_
  rintro e w2 ⟨rfl, hb2⟩
  have h2 := (hb2.block w.heap.size (by first | omega | (simp; done) | (simp; omega))).trans (show _ = some (Obj.cells #[.int .u8 K, .int .i64 S, .int .i64 C, .int .i64 T, .int .i64 M, .int .u8 V] 25 (0, 0)) by (repeat (first | assumption | (with_reducible refine alloc_at ?_; (focus (first | omega | (simp; done) | (simp; omega)))) | (with_reducible refine boxed_at ?_; (focus (first | omega | (simp; done) | (simp; omega)))) | (with_reducible refine alloc_old ?_ ?_; (focus (first | omega | (simp; done) | (simp; omega)))) | (with_reducible refine boxed_old ?_ ?_; (focus (first | omega | (simp; done) | (simp; omega)))) | (with_reducible refine drew_old ?_))))
  have HW2 : Hid (Below w.heap.size w w2) := Lib.hid ((boxed_below HW1.out (Nat.le_refl _)).trans ((((Below.refl _ _).alloc (Nat.le_refl _) _).trans (hb2.mono (by first | omega | (simp; done) | (simp; omega)))).mono (by first | omega | (simp; done) | (simp; omega))))
  have s2 : w.heap.size < w2.heap.size := by have := hb2.size; simp at this; omega
  clear hb2 HW1 s1 hlit1
  go_wp2_with (first | ((with_reducible_and_instances (show wpList _ _ _ (Oper.mk _ (Op.load 25 _) _ _ _ _ :: _) _ _)); refine wl_load Try.underlying25 rfl info6 rfl rfl rfl (by (repeat (first | assumption | (with_reducible refine alloc_at ?_; (focus (first | omega | (simp; done) | (simp; omega)))) | (with_reducible refine boxed_at ?_; (focus (first | omega | (simp; done) | (simp; omega)))) | (with_reducible refine alloc_old ?_ ?_; (focus (first | omega | (simp; done) | (simp; omega)))) | (with_reducible refine boxed_old ?_ ?_; (focus (first | omega | (simp; done) | (simp; omega)))) | (with_reducible refine drew_old ?_)))) (by rfl) ?_) | ((with_reducible_and_instances (show wpList _ _ _ (Oper.mk _ (Op.store 25 _ _) _ _ _ _ :: _) _ _)); refine wl_store info6 rfl rfl rfl rfl (by (repeat (first | assumption | (with_reducible refine alloc_at ?_; (focus (first | omega | (simp; done) | (simp; omega)))) | (with_reducible refine boxed_at ?_; (focus (first | omega | (simp; done) | (simp; omega)))) | (with_reducible refine alloc_old ?_ ?_; (focus (first | omega | (simp; done) | (simp; omega)))) | (with_reducible refine boxed_old ?_ ?_; (focus (first | omega | (simp; done) | (simp; omega)))) | (with_reducible refine drew_old ?_)))) (by rfl) (by rfl) (by simp [Value.oneCell']) ?_))
  refine (asked_any K S C T M v _).mono ?_
  rintro e w3 ⟨rfl, hb3⟩
  have h32 := (hb3.block w.heap.size (by first | omega | (simp; done) | (simp; omega))).trans (show _ = some (Obj.cells #[.int .u8 K, .int .i64 S, .int .i64 C, .int .i64 T, .int .i64 M, .int .u8 V] 25 (0, 0)) by (repeat (first | assumption | (with_reducible refine alloc_at ?_; (focus (first | omega | (simp; done) | (simp; omega)))) | (with_reducible refine boxed_at ?_; (focus (first | omega | (simp; done) | (simp; omega)))) | (with_reducible refine alloc_old ?_ ?_; (focus (first | omega | (simp; done) | (simp; omega)))) | (with_reducible refine boxed_old ?_ ?_; (focus (first | omega | (simp; done) | (simp; omega)))) | (with_reducible refine drew_old ?_))))
  have h36 := (hb3.block w2.heap.size (by first | omega | (simp; done) | (simp; omega))).trans (show _ = some (Obj.cells #[.int .u8 K, .int .i64 S, .int .i64 C, .int .i64 T, .int .i64 M, .int .u8 v] 25 (0, 0)) by (repeat (first | assumption | (with_reducible refine alloc_at ?_; (focus (first | omega | (simp; done) | (simp; omega)))) | (with_reducible refine boxed_at ?_; (focus (first | omega | (simp; done) | (simp; omega)))) | (with_reducible refine alloc_old ?_ ?_; (focus (first | omega | (simp; done) | (simp; omega)))) | (with_reducible refine boxed_old ?_ ?_; (focus (first | omega | (simp; done) | (simp; omega)))) | (with_reducible refine drew_old ?_))))
  have HW3 : Hid (Below w.heap.size w w3) := Lib.hid (HW2.out.trans (((boxed_below ((Below.refl _ _).alloc (Nat.le_refl _) _) (Nat.le_refl _)).trans (hb3.mono (by first | omega | (simp; done) | (simp; omega)))).mono HW2.out.size))
  have s3 : w2.heap.size < w3.heap.size := by have := hb3.size; simp at this; omega
  have s30 : w.heap.size < w3.heap.size := Nat.lt_trans s2 s3
  have e3 := Lib.hid (boxed_self h32)
  rw [e3.out]
  have H36 := Lib.hid h36
  clear hb3 h2 HW2 e3 h36
  go_wp2_with (first | ((with_reducible_and_instances (show wpList _ _ _ (Oper.mk _ (Op.load 25 _) _ _ _ _ :: _) _ _)); refine wl_load Try.underlying25 rfl info6 rfl rfl rfl (by (repeat (first | assumption | (with_reducible refine alloc_at ?_; (focus (first | omega | (simp; done) | (simp; omega)))) | (with_reducible refine boxed_at ?_; (focus (first | omega | (simp; done) | (simp; omega)))) | (with_reducible refine alloc_old ?_ ?_; (focus (first | omega | (simp; done) | (simp; omega)))) | (with_reducible refine boxed_old ?_ ?_; (focus (first | omega | (simp; done) | (simp; omega)))) | (with_reducible refine drew_old ?_)))) (by rfl) ?_) | ((with_reducible_and_instances (show wpList _ _ _ (Oper.mk _ (Op.store 25 _ _) _ _ _ _ :: _) _ _)); refine wl_store info6 rfl rfl rfl rfl (by (repeat (first | assumption | (with_reducible refine alloc_at ?_; (focus (first | omega | (simp; done) | (simp; omega)))) | (with_reducible refine boxed_at ?_; (focus (first | omega | (simp; done) | (simp; omega)))) | (with_reducible refine alloc_old ?_ ?_; (focus (first | omega | (simp; done) | (simp; omega)))) | (with_reducible refine boxed_old ?_ ?_; (focus (first | omega | (simp; done) | (simp; omega)))) | (with_reducible refine drew_old ?_)))) (by rfl) (by rfl) (by simp [Value.oneCell']) ?_))
  have Qw9 : Hid (S4 #[.int .u8 K, .int .i64 S, .int .i64 C, .int .i64 T, .int .i64 M, .int .u8 0] #[.int .u8 K, .int .i64 S, .int .i64 C, .int .i64 T, .int .i64 M, .int .u8 v] 25 w.heap.size w2.heap.size w3.heap.size (w3.heap.size + 1) (boxed ((boxed ((boxed w3 w.heap.size #[.int .u8 K, .int .i64 S, .int .i64 C, .int .i64 T, .int .i64 M, .int .u8 0] 25).alloc (.cells #[.int .u8 0, .int .i64 0, .int .i64 0, .int .i64 0, .int .i64 0, .int .u8 0] 25)) w3.heap.size #[.int .u8 K, .int .i64 S, .int .i64 C, .int .i64 T, .int .i64 M, .int .u8 0] 25).alloc (.cells #[.int .u8 0, .int .i64 0, .int .i64 0, .int .i64 0, .int .i64 0, .int .u8 0] 25)) (w3.heap.size + 1) #[.int .u8 K, .int .i64 S, .int .i64 C, .int .i64 T, .int .i64 M, .int .u8 v] 25)) := Lib.hid ⟨⟨by (repeat (first | assumption | (with_reducible refine alloc_at ?_; (focus (first | omega | (simp; done) | (simp; omega)))) | (with_reducible refine boxed_at ?_; (focus (first | omega | (simp; done) | (simp; omega)))) | (with_reducible refine alloc_old ?_ ?_; (focus (first | omega | (simp; done) | (simp; omega)))) | (with_reducible refine boxed_old ?_ ?_; (focus (first | omega | (simp; done) | (simp; omega)))) | (with_reducible refine drew_old ?_))), (by have h36 := H36.out; (repeat (first | assumption | (with_reducible refine alloc_at ?_; (focus (first | omega | (simp; done) | (simp; omega)))) | (with_reducible refine boxed_at ?_; (focus (first | omega | (simp; done) | (simp; omega)))) | (with_reducible refine alloc_old ?_ ?_; (focus (first | omega | (simp; done) | (simp; omega)))) | (with_reducible refine boxed_old ?_ ?_; (focus (first | omega | (simp; done) | (simp; omega)))) | (with_reducible refine drew_old ?_)))), by (repeat (first | assumption | (with_reducible refine alloc_at ?_; (focus (first | omega | (simp; done) | (simp; omega)))) | (with_reducible refine boxed_at ?_; (focus (first | omega | (simp; done) | (simp; omega)))) | (with_reducible refine alloc_old ?_ ?_; (focus (first | omega | (simp; done) | (simp; omega)))) | (with_reducible refine boxed_old ?_ ?_; (focus (first | omega | (simp; done) | (simp; omega)))) | (with_reducible refine drew_old ?_))), by (repeat (first | assumption | (with_reducible refine alloc_at ?_; (focus (first | omega | (simp; done) | (simp; omega)))) | (with_reducible refine boxed_at ?_; (focus (first | omega | (simp; done) | (simp; omega)))) | (with_reducible refine alloc_old ?_ ?_; (focus (first | omega | (simp; done) | (simp; omega)))) | (with_reducible refine boxed_old ?_ ?_; (focus (first | omega | (simp; done) | (simp; omega)))) | (with_reducible refine drew_old ?_)))⟩, (by first | omega | (simp; done) | (simp; omega)), (by first | omega | (simp; done) | (simp; omega)), (by first | omega | (simp; done) | (simp; omega)), (by first | omega | (simp; done) | (simp; omega))⟩
  have Ww9 : Hid (Below w.heap.size w (boxed ((boxed ((boxed w3 w.heap.size #[.int .u8 K, .int .i64 S, .int .i64 C, .int .i64 T, .int .i64 M, .int .u8 0] 25).alloc (.cells #[.int .u8 0, .int .i64 0, .int .i64 0, .int .i64 0, .int .i64 0, .int .u8 0] 25)) w3.heap.size #[.int .u8 K, .int .i64 S, .int .i64 C, .int .i64 T, .int .i64 M, .int .u8 0] 25).alloc (.cells #[.int .u8 0, .int .i64 0, .int .i64 0, .int .i64 0, .int .i64 0, .int .u8 0] 25)) (w3.heap.size + 1) #[.int .u8 K, .int .i64 S, .int .i64 C, .int .i64 T, .int .i64 M, .int .u8 v] 25)) := Lib.hid (boxed_below ((boxed_below ((boxed_below HW3.out (Nat.le_refl _)).alloc (by first | omega | (simp; done) | (simp; omega)) _) (by first | omega | (simp; done) | (simp; omega))).alloc (by first | omega | (simp; done) | (simp; omega)) _) (by first | omega | (simp; done) | (simp; omega)))
  clear h32 H36
  generalize (boxed ((boxed ((boxed w3 w.heap.size #[.int .u8 K, .int .i64 S, .int .i64 C, .int .i64 T, .int .i64 M, .int .u8 0] 25).alloc (.cells #[.int .u8 0, .int .i64 0, .int .i64 0, .int .i64 0, .int .i64 0, .int .u8 0] 25)) w3.heap.size #[.int .u8 K, .int .i64 S, .int .i64 C, .int .i64 T, .int .i64 M, .int .u8 0] 25).alloc (.cells #[.int .u8 0, .int .i64 0, .int .i64 0, .int .i64 0, .int .i64 0, .int .u8 0] 25)) (w3.heap.size + 1) #[.int .u8 K, .int .i64 S, .int .i64 C, .int .i64 T, .int .i64 M, .int .u8 v] 25) = w9 at *
  refine lane_start (ord := [0, 1, 2, 6, 7, 8, 3, 4, 5, 9, 10, 11, 12, 13, 14, 15, 16, 17, 18, 19, 20, 21, 22, 23, 24, 25, 26, 27, 28, 29, 30, 31]) (S := fun w' => (w'.heap[w.heap.size]? = some (.cells #[.int .u8 K, .int .i64 S, .int .i64 C, .int .i64 T, .int .i64 M, .int .u8 0] 25 (0, 0)) ∧ w'.heap[w2.heap.size]? = some (.cells #[.int .u8 K, .int .i64 S, .int .i64 C, .int .i64 T, .int .i64 M, .int .u8 v] 25 (0, 0)) ∧ w'.heap[w3.heap.size]? = some (.cells #[.int .u8 K, .int .i64 S, .int .i64 C, .int .i64 T, .int .i64 M, .int .u8 0] 25 (0, 0)) ∧ w'.heap[w3.heap.size + 1]? = some (.cells #[.int .u8 K, .int .i64 S, .int .i64 C, .int .i64 T, .int .i64 M, .int .u8 v] 25 (0, 0)))) rfl (by kernel_rfl) Qw9.out.1 (fun hHeld => ?_)
  refine lane_alone rfl (by kernel_rfl) (by rfl) (fun K hK => ?_)
  go_simp
  refine (ntawake_any _).mono ?_
  rintro e wa ⟨rfl, hb⟩
  have hb : Below w9.heap.size w9 wa := ((Below.refl _ _).drew).trans hb
  have Qwa := Lib.hid (S4.step hb Qw9.out)
  have Wwa := Lib.hid (Ww9.out.trans (hb.mono Ww9.out.size))
  refine hK _ _ Qwa.out.1 (fun hHeld => ?_)
  clear hK K hb
  refine lane_take (v := ?_) rfl (by kernel_rfl) (by kernel_rfl) (by rfl) ?_ (by assumption) ?_
  rotate_left
  · intro w' hSw
    go_simp
    try (with_reducible rfl)
  simp only [Act.put, List.setIfInBounds_toArray, List.set_cons_zero, List.set_cons_succ]
  refine lane_take rfl (by kernel_rfl) (by kernel_rfl) (by rfl) (fun w' hS => exec_load rfl rfl (ldn hS.1 rfl)) (by assumption) ?_
  simp only [Act.put, List.setIfInBounds_toArray, List.set_cons_zero, List.set_cons_succ]
  refine lane_take (v := ?_) rfl (by kernel_rfl) (by kernel_rfl) (by rfl) ?_ (by assumption) ?_
  rotate_left
  · intro w' hSw
    go_simp
    try (with_reducible rfl)
  simp only [Act.put, List.setIfInBounds_toArray, List.set_cons_zero, List.set_cons_succ]
  refine lane_take (v := ?_) rfl (by kernel_rfl) (by kernel_rfl) (by rfl) ?_ (by assumption) ?_
  rotate_left
  · intro w' hSw
    have c0 := cell_of_row _ _ 0 _ _ _ hSw.1
    go_simp
    try (with_reducible rfl)
  simp only [Act.put, List.setIfInBounds_toArray, List.set_cons_zero, List.set_cons_succ]
  refine lane_take (v := ?_) rfl (by kernel_rfl) (by kernel_rfl) (by rfl) ?_ (by assumption) ?_
  rotate_left
  · intro w' hSw
    go_simp
    try (with_reducible rfl)
  simp only [Act.put, List.setIfInBounds_toArray, List.set_cons_zero, List.set_cons_succ]
  refine lane_two (i := 3) (j := 5) (ordJ := [9, 10, 3, 4, 11, 12, 13, 14, 15, 16, 17, 18, 19, 20, 21, 22, 23, 24, 25, 26, 27, 28, 29, 30, 31]) rfl rfl (by kernel_rfl) rfl (by rfl) (by rfl) (fun K' hK => ?_) (fun K' hK => ?_)
  · go_simp
    refine (asked_any K S C T M 0 _).mono ?_
    rintro e wb ⟨rfl, hb⟩
    have Qwb := Lib.hid (S4.step hb Qwa.out)
    have Wwb := Lib.hid (Wwa.out.trans (hb.mono Wwa.out.size))
    refine hK _ _ Qwb.out.1 (fun hHeld => ?_)
    clear hK K' hb
    refine lane_two (i := 4) (j := 5) (ordJ := [9, 10, 4, 11, 12, 13, 14, 15, 16, 17, 18, 19, 20, 21, 22, 23, 24, 25, 26, 27, 28, 29, 30, 31]) rfl rfl (by kernel_rfl) rfl (by rfl) (by rfl) (fun K' hK => ?_) (fun K' hK => ?_)
    · go_simp
      refine (party_any K S C T M 0 _).mono ?_
      rw [HPAR.out]
      rintro e wc ⟨rfl, hb⟩
      have Qwc := Lib.hid (S4.step hb Qwb.out)
      have Wwc := Lib.hid (Wwb.out.trans (hb.mono Wwb.out.size))
      refine hK _ _ Qwc.out.1 (fun hHeld => ?_)
      clear hK K' hb
      refine lane_alone rfl (by kernel_rfl) (by rfl) (fun K' hK => ?_)
      go_simp
      have hb : Below wc.heap.size wc (wc.alloc (.cells #[.int .u8 0, .int .u8 0, .int .u8 1, .int .u8 1, .int .u8 2] 5)) := (Below.refl _ _).alloc (Nat.le_refl _) _
      have hl : (wc.alloc (.cells #[.int .u8 0, .int .u8 0, .int .u8 1, .int .u8 1, .int .u8 2] 5)).cell? ⟨wc.heap.size, k, none⟩ = some (.int .u8 P) := (cell_of_row _ _ k _ _ _ alloc_block).trans HLIT.out
      have zl : wc.heap.size < (wc.alloc (.cells #[.int .u8 0, .int .u8 0, .int .u8 1, .int .u8 1, .int .u8 2] 5)).heap.size := by simp
      have Qwd := Lib.hid (S4.step hb Qwc.out)
      have Wwd := Lib.hid (Wwc.out.trans (hb.mono Wwc.out.size))
      refine hK _ _ Qwd.out.1 (fun hHeld => ?_)
      clear hK K' hb
      obtain ⟨bl, ebl⟩ : ∃ bl, bl = wc.heap.size := ⟨_, rfl⟩
      rw [← ebl] at hl zl ⊢
      clear ebl
      generalize wc.alloc (.cells #[.int .u8 0, .int .u8 0, .int .u8 1, .int .u8 1, .int .u8 2] 5) = wd at *
      have lwwd := hl
      clear hl
      refine lane_into (S' := fun w' => (w'.heap[w.heap.size]? = some (.cells #[.int .u8 K, .int .i64 S, .int .i64 C, .int .i64 T, .int .i64 M, .int .u8 0] 25 (0, 0)) ∧ w'.heap[w2.heap.size]? = some (.cells #[.int .u8 K, .int .i64 S, .int .i64 C, .int .i64 T, .int .i64 M, .int .u8 v] 25 (0, 0)) ∧ w'.heap[w3.heap.size]? = some (.cells #[.int .u8 K, .int .i64 S, .int .i64 C, .int .i64 T, .int .i64 M, .int .u8 0] 25 (0, 0)) ∧ w'.heap[w3.heap.size + 1]? = some (.cells #[.int .u8 K, .int .i64 S, .int .i64 C, .int .i64 T, .int .i64 M, .int .u8 v] 25 (0, 0))) ∧ w'.cell? ⟨bl, k, none⟩ = some (.int .u8 P)) (fun _ h => h.1) ⟨Qwd.out.1, lwwd⟩ (fun hHeld => ?_)
      refine lane_take (v := ?_) rfl (by kernel_rfl) (by kernel_rfl) (by rfl) ?_ (by assumption) ?_
      rotate_left
      · intro w' hSw
        obtain ⟨_, hc⟩ := hSw
        go_simp
        try (with_reducible rfl)
      simp only [Act.put, List.setIfInBounds_toArray, List.set_cons_zero, List.set_cons_succ]
      refine lane_take (v := ?_) rfl (by kernel_rfl) (by kernel_rfl) (by rfl) ?_ (by assumption) ?_
      rotate_left
      · intro w' hSw
        obtain ⟨_, hc⟩ := hSw
        go_simp
        try (with_reducible rfl)
      simp only [Act.put, List.setIfInBounds_toArray, List.set_cons_zero, List.set_cons_succ]
      refine lane_take (v := ?_) rfl (by kernel_rfl) (by kernel_rfl) (by rfl) ?_ (by assumption) ?_
      rotate_left
      · intro w' hSw
        go_simp
        try (with_reducible rfl)
      simp only [Act.put, List.setIfInBounds_toArray, List.set_cons_zero, List.set_cons_succ]
      refine lane_take (v := ?_) rfl (by kernel_rfl) (by kernel_rfl) (by rfl) ?_ (by assumption) ?_
      rotate_left
      · intro w' hSw
        go_simp
        try (with_reducible rfl)
      simp only [Act.put, List.setIfInBounds_toArray, List.set_cons_zero, List.set_cons_succ]
      refine lane_take (v := ?_) rfl (by kernel_rfl) (by kernel_rfl) (by rfl) ?_ (by assumption) ?_
      rotate_left
      · intro w' hSw
        go_simp
        try (with_reducible rfl)
      simp only [Act.put, List.setIfInBounds_toArray, List.set_cons_zero, List.set_cons_succ]
      refine lane_take rfl (by kernel_rfl) (by kernel_rfl) (by rfl) (fun w' hS => exec_load rfl rfl (ldn hS.1.2.1 rfl)) (by assumption) ?_
      simp only [Act.put, List.setIfInBounds_toArray, List.set_cons_zero, List.set_cons_succ]
      refine lane_take rfl (by kernel_rfl) (by kernel_rfl) (by rfl) (fun w' hS => exec_load rfl rfl (ldn hS.1.2.2.2 rfl)) (by assumption) ?_
      simp only [Act.put, List.setIfInBounds_toArray, List.set_cons_zero, List.set_cons_succ]
      refine lane_take rfl (by kernel_rfl) (by kernel_rfl) (by rfl) (fun w' hS => exec_eql6' (v := ⟨K, S, C, T, M, v⟩) (v' := ⟨K, S, C, T, M, v⟩) (decide_eq_true rfl) rfl rfl rfl w') (by assumption) ?_
      simp only [Act.put, List.setIfInBounds_toArray, List.set_cons_zero, List.set_cons_succ]
      refine lane_take (v := ?_) rfl (by kernel_rfl) (by kernel_rfl) (by rfl) ?_ (by assumption) ?_
      rotate_left
      · intro w' hSw
        go_simp
        try (with_reducible rfl)
      simp only [Act.put, List.setIfInBounds_toArray, List.set_cons_zero, List.set_cons_succ]
      refine lane_take (v := ?_) rfl (by kernel_rfl) (by kernel_rfl) (by rfl) ?_ (by assumption) ?_
      rotate_left
      · intro w' hSw
        go_simp
        try (with_reducible rfl)
      simp only [Act.put, List.setIfInBounds_toArray, List.set_cons_zero, List.set_cons_succ]
      refine lane_take rfl (by kernel_rfl) (by kernel_rfl) (by rfl) (fun w' hS => exec_load rfl rfl (ldn hS.1.2.2.1 rfl)) (by assumption) ?_
      simp only [Act.put, List.setIfInBounds_toArray, List.set_cons_zero, List.set_cons_succ]
      refine lane_take rfl (by kernel_rfl) (by kernel_rfl) (by rfl) (fun w' hS => exec_load rfl rfl (ldn hS.1.1 rfl)) (by assumption) ?_
      simp only [Act.put, List.setIfInBounds_toArray, List.set_cons_zero, List.set_cons_succ]
      refine lane_take rfl (by kernel_rfl) (by kernel_rfl) (by rfl) (fun w' hS => exec_eql6' (v := ⟨K, S, C, T, M, 0⟩) (v' := ⟨K, S, C, T, M, 0⟩) (decide_eq_true rfl) rfl rfl rfl w') (by assumption) ?_
      simp only [Act.put, List.setIfInBounds_toArray, List.set_cons_zero, List.set_cons_succ]
      repeat (first
        | (refine lane_skip rfl (by kernel_rfl) (by kernel_rfl) (by rfl) (by assumption) ?_; simp only [Act.put, List.setIfInBounds_toArray, List.set_cons_zero, List.set_cons_succ])
        | (refine lane_take (v := ?_) rfl (by kernel_rfl) (by kernel_rfl) (by rfl) ?_ (by assumption) ?_; rotate_left; (focus (intro w' hSw; go_simp; try (with_reducible rfl))); simp only [Act.put, List.setIfInBounds_toArray, List.set_cons_zero, List.set_cons_succ]))
      refine lane_end (by kernel_rfl) ?_
      have HF := Wwd
      clear hHeld
      go_wp2
      go_ret
      exact ⟨rfl, HF.out⟩
    · go_simp
      have hb : Below wb.heap.size wb (wb.alloc (.cells #[.int .u8 0, .int .u8 0, .int .u8 1, .int .u8 1, .int .u8 2] 5)) := (Below.refl _ _).alloc (Nat.le_refl _) _
      have hl : (wb.alloc (.cells #[.int .u8 0, .int .u8 0, .int .u8 1, .int .u8 1, .int .u8 2] 5)).cell? ⟨wb.heap.size, k, none⟩ = some (.int .u8 P) := (cell_of_row _ _ k _ _ _ alloc_block).trans HLIT.out
      have zl : wb.heap.size < (wb.alloc (.cells #[.int .u8 0, .int .u8 0, .int .u8 1, .int .u8 1, .int .u8 2] 5)).heap.size := by simp
      have Qwc := Lib.hid (S4.step hb Qwb.out)
      have Wwc := Lib.hid (Wwb.out.trans (hb.mono Wwb.out.size))
      refine hK _ _ Qwc.out.1 (fun hHeld => ?_)
      clear hK K' hb
      obtain ⟨bl, ebl⟩ : ∃ bl, bl = wb.heap.size := ⟨_, rfl⟩
      rw [← ebl] at hl zl ⊢
      clear ebl
      generalize wb.alloc (.cells #[.int .u8 0, .int .u8 0, .int .u8 1, .int .u8 1, .int .u8 2] 5) = wc at *
      have lwwc := hl
      clear hl
      refine lane_into (S' := fun w' => (w'.heap[w.heap.size]? = some (.cells #[.int .u8 K, .int .i64 S, .int .i64 C, .int .i64 T, .int .i64 M, .int .u8 0] 25 (0, 0)) ∧ w'.heap[w2.heap.size]? = some (.cells #[.int .u8 K, .int .i64 S, .int .i64 C, .int .i64 T, .int .i64 M, .int .u8 v] 25 (0, 0)) ∧ w'.heap[w3.heap.size]? = some (.cells #[.int .u8 K, .int .i64 S, .int .i64 C, .int .i64 T, .int .i64 M, .int .u8 0] 25 (0, 0)) ∧ w'.heap[w3.heap.size + 1]? = some (.cells #[.int .u8 K, .int .i64 S, .int .i64 C, .int .i64 T, .int .i64 M, .int .u8 v] 25 (0, 0))) ∧ w'.cell? ⟨bl, k, none⟩ = some (.int .u8 P)) (fun _ h => h.1) ⟨Qwc.out.1, lwwc⟩ (fun hHeld => ?_)
      refine lane_take (v := ?_) rfl (by kernel_rfl) (by kernel_rfl) (by rfl) ?_ (by assumption) ?_
      rotate_left
      · intro w' hSw
        obtain ⟨_, hc⟩ := hSw
        go_simp
        try (with_reducible rfl)
      simp only [Act.put, List.setIfInBounds_toArray, List.set_cons_zero, List.set_cons_succ]
      refine lane_take (v := ?_) rfl (by kernel_rfl) (by kernel_rfl) (by rfl) ?_ (by assumption) ?_
      rotate_left
      · intro w' hSw
        obtain ⟨_, hc⟩ := hSw
        go_simp
        try (with_reducible rfl)
      simp only [Act.put, List.setIfInBounds_toArray, List.set_cons_zero, List.set_cons_succ]
      refine lane_alone rfl (by kernel_rfl) (by rfl) (fun K' hK => ?_)
      go_simp
      refine (party_any K S C T M 0 _).mono ?_
      rw [HPAR.out]
      rintro e wd ⟨rfl, hb⟩
      have Qwd := Lib.hid (S4.step hb Qwc.out)
      have Wwd := Lib.hid (Wwc.out.trans (hb.mono Wwc.out.size))
      have lwwd := (World.cell?_of_block (a := ⟨bl, k, none⟩) (hb.block bl zl)).trans lwwc
      have zl := Nat.lt_of_lt_of_le zl hb.size
      refine hK _ _ ⟨Qwd.out.1, lwwd⟩ (fun hHeld => ?_)
      clear hK K' hb
      refine lane_take (v := ?_) rfl (by kernel_rfl) (by kernel_rfl) (by rfl) ?_ (by assumption) ?_
      rotate_left
      · intro w' hSw
        go_simp
        try (with_reducible rfl)
      simp only [Act.put, List.setIfInBounds_toArray, List.set_cons_zero, List.set_cons_succ]
      refine lane_take (v := ?_) rfl (by kernel_rfl) (by kernel_rfl) (by rfl) ?_ (by assumption) ?_
      rotate_left
      · intro w' hSw
        go_simp
        try (with_reducible rfl)
      simp only [Act.put, List.setIfInBounds_toArray, List.set_cons_zero, List.set_cons_succ]
      refine lane_take (v := ?_) rfl (by kernel_rfl) (by kernel_rfl) (by rfl) ?_ (by assumption) ?_
      rotate_left
      · intro w' hSw
        go_simp
        try (with_reducible rfl)
      simp only [Act.put, List.setIfInBounds_toArray, List.set_cons_zero, List.set_cons_succ]
      refine lane_take rfl (by kernel_rfl) (by kernel_rfl) (by rfl) (fun w' hS => exec_load rfl rfl (ldn hS.1.2.1 rfl)) (by assumption) ?_
      simp only [Act.put, List.setIfInBounds_toArray, List.set_cons_zero, List.set_cons_succ]
      refine lane_take rfl (by kernel_rfl) (by kernel_rfl) (by rfl) (fun w' hS => exec_load rfl rfl (ldn hS.1.2.2.2 rfl)) (by assumption) ?_
      simp only [Act.put, List.setIfInBounds_toArray, List.set_cons_zero, List.set_cons_succ]
      refine lane_take rfl (by kernel_rfl) (by kernel_rfl) (by rfl) (fun w' hS => exec_eql6' (v := ⟨K, S, C, T, M, v⟩) (v' := ⟨K, S, C, T, M, v⟩) (decide_eq_true rfl) rfl rfl rfl w') (by assumption) ?_
      simp only [Act.put, List.setIfInBounds_toArray, List.set_cons_zero, List.set_cons_succ]
      refine lane_take (v := ?_) rfl (by kernel_rfl) (by kernel_rfl) (by rfl) ?_ (by assumption) ?_
      rotate_left
      · intro w' hSw
        go_simp
        try (with_reducible rfl)
      simp only [Act.put, List.setIfInBounds_toArray, List.set_cons_zero, List.set_cons_succ]
      refine lane_take (v := ?_) rfl (by kernel_rfl) (by kernel_rfl) (by rfl) ?_ (by assumption) ?_
      rotate_left
      · intro w' hSw
        go_simp
        try (with_reducible rfl)
      simp only [Act.put, List.setIfInBounds_toArray, List.set_cons_zero, List.set_cons_succ]
      refine lane_take rfl (by kernel_rfl) (by kernel_rfl) (by rfl) (fun w' hS => exec_load rfl rfl (ldn hS.1.2.2.1 rfl)) (by assumption) ?_
      simp only [Act.put, List.setIfInBounds_toArray, List.set_cons_zero, List.set_cons_succ]
      refine lane_take rfl (by kernel_rfl) (by kernel_rfl) (by rfl) (fun w' hS => exec_load rfl rfl (ldn hS.1.1 rfl)) (by assumption) ?_
      simp only [Act.put, List.setIfInBounds_toArray, List.set_cons_zero, List.set_cons_succ]
      refine lane_take rfl (by kernel_rfl) (by kernel_rfl) (by rfl) (fun w' hS => exec_eql6' (v := ⟨K, S, C, T, M, 0⟩) (v' := ⟨K, S, C, T, M, 0⟩) (decide_eq_true rfl) rfl rfl rfl w') (by assumption) ?_
      simp only [Act.put, List.setIfInBounds_toArray, List.set_cons_zero, List.set_cons_succ]
      repeat (first
        | (refine lane_skip rfl (by kernel_rfl) (by kernel_rfl) (by rfl) (by assumption) ?_; simp only [Act.put, List.setIfInBounds_toArray, List.set_cons_zero, List.set_cons_succ])
        | (refine lane_take (v := ?_) rfl (by kernel_rfl) (by kernel_rfl) (by rfl) ?_ (by assumption) ?_; rotate_left; (focus (intro w' hSw; go_simp; try (with_reducible rfl))); simp only [Act.put, List.setIfInBounds_toArray, List.set_cons_zero, List.set_cons_succ]))
      refine lane_end (by kernel_rfl) ?_
      have HF := Wwd
      clear hHeld
      go_wp2
      go_ret
      exact ⟨rfl, HF.out⟩
  · go_simp
    have hb : Below wa.heap.size wa (wa.alloc (.cells #[.int .u8 0, .int .u8 0, .int .u8 1, .int .u8 1, .int .u8 2] 5)) := (Below.refl _ _).alloc (Nat.le_refl _) _
    have hl : (wa.alloc (.cells #[.int .u8 0, .int .u8 0, .int .u8 1, .int .u8 1, .int .u8 2] 5)).cell? ⟨wa.heap.size, k, none⟩ = some (.int .u8 P) := (cell_of_row _ _ k _ _ _ alloc_block).trans HLIT.out
    have zl : wa.heap.size < (wa.alloc (.cells #[.int .u8 0, .int .u8 0, .int .u8 1, .int .u8 1, .int .u8 2] 5)).heap.size := by simp
    have Qwb := Lib.hid (S4.step hb Qwa.out)
    have Wwb := Lib.hid (Wwa.out.trans (hb.mono Wwa.out.size))
    refine hK _ _ Qwb.out.1 (fun hHeld => ?_)
    clear hK K' hb
    obtain ⟨bl, ebl⟩ : ∃ bl, bl = wa.heap.size := ⟨_, rfl⟩
    rw [← ebl] at hl zl ⊢
    clear ebl
    generalize wa.alloc (.cells #[.int .u8 0, .int .u8 0, .int .u8 1, .int .u8 1, .int .u8 2] 5) = wb at *
    have lwwb := hl
    clear hl
    refine lane_into (S' := fun w' => (w'.heap[w.heap.size]? = some (.cells #[.int .u8 K, .int .i64 S, .int .i64 C, .int .i64 T, .int .i64 M, .int .u8 0] 25 (0, 0)) ∧ w'.heap[w2.heap.size]? = some (.cells #[.int .u8 K, .int .i64 S, .int .i64 C, .int .i64 T, .int .i64 M, .int .u8 v] 25 (0, 0)) ∧ w'.heap[w3.heap.size]? = some (.cells #[.int .u8 K, .int .i64 S, .int .i64 C, .int .i64 T, .int .i64 M, .int .u8 0] 25 (0, 0)) ∧ w'.heap[w3.heap.size + 1]? = some (.cells #[.int .u8 K, .int .i64 S, .int .i64 C, .int .i64 T, .int .i64 M, .int .u8 v] 25 (0, 0))) ∧ w'.cell? ⟨bl, k, none⟩ = some (.int .u8 P)) (fun _ h => h.1) ⟨Qwb.out.1, lwwb⟩ (fun hHeld => ?_)
    refine lane_take (v := ?_) rfl (by kernel_rfl) (by kernel_rfl) (by rfl) ?_ (by assumption) ?_
    rotate_left
    · intro w' hSw
      obtain ⟨_, hc⟩ := hSw
      go_simp
      try (with_reducible rfl)
    simp only [Act.put, List.setIfInBounds_toArray, List.set_cons_zero, List.set_cons_succ]
    refine lane_take (v := ?_) rfl (by kernel_rfl) (by kernel_rfl) (by rfl) ?_ (by assumption) ?_
    rotate_left
    · intro w' hSw
      obtain ⟨_, hc⟩ := hSw
      go_simp
      try (with_reducible rfl)
    simp only [Act.put, List.setIfInBounds_toArray, List.set_cons_zero, List.set_cons_succ]
    refine lane_alone rfl (by kernel_rfl) (by rfl) (fun K' hK => ?_)
    go_simp
    refine (asked_any K S C T M 0 _).mono ?_
    rintro e wc ⟨rfl, hb⟩
    have Qwc := Lib.hid (S4.step hb Qwb.out)
    have Wwc := Lib.hid (Wwb.out.trans (hb.mono Wwb.out.size))
    have lwwc := (World.cell?_of_block (a := ⟨bl, k, none⟩) (hb.block bl zl)).trans lwwb
    have zl := Nat.lt_of_lt_of_le zl hb.size
    refine hK _ _ ⟨Qwc.out.1, lwwc⟩ (fun hHeld => ?_)
    clear hK K' hb
    refine lane_alone rfl (by kernel_rfl) (by rfl) (fun K' hK => ?_)
    go_simp
    refine (party_any K S C T M 0 _).mono ?_
    rw [HPAR.out]
    rintro e wd ⟨rfl, hb⟩
    have Qwd := Lib.hid (S4.step hb Qwc.out)
    have Wwd := Lib.hid (Wwc.out.trans (hb.mono Wwc.out.size))
    have lwwd := (World.cell?_of_block (a := ⟨bl, k, none⟩) (hb.block bl zl)).trans lwwc
    have zl := Nat.lt_of_lt_of_le zl hb.size
    refine hK _ _ ⟨Qwd.out.1, lwwd⟩ (fun hHeld => ?_)
    clear hK K' hb
    refine lane_take (v := ?_) rfl (by kernel_rfl) (by kernel_rfl) (by rfl) ?_ (by assumption) ?_
    rotate_left
    · intro w' hSw
      go_simp
      try (with_reducible rfl)
    simp only [Act.put, List.setIfInBounds_toArray, List.set_cons_zero, List.set_cons_succ]
    refine lane_take (v := ?_) rfl (by kernel_rfl) (by kernel_rfl) (by rfl) ?_ (by assumption) ?_
    rotate_left
    · intro w' hSw
      go_simp
      try (with_reducible rfl)
    simp only [Act.put, List.setIfInBounds_toArray, List.set_cons_zero, List.set_cons_succ]
    refine lane_take (v := ?_) rfl (by kernel_rfl) (by kernel_rfl) (by rfl) ?_ (by assumption) ?_
    rotate_left
    · intro w' hSw
      go_simp
      try (with_reducible rfl)
    simp only [Act.put, List.setIfInBounds_toArray, List.set_cons_zero, List.set_cons_succ]
    refine lane_take rfl (by kernel_rfl) (by kernel_rfl) (by rfl) (fun w' hS => exec_load rfl rfl (ldn hS.1.2.1 rfl)) (by assumption) ?_
    simp only [Act.put, List.setIfInBounds_toArray, List.set_cons_zero, List.set_cons_succ]
    refine lane_take rfl (by kernel_rfl) (by kernel_rfl) (by rfl) (fun w' hS => exec_load rfl rfl (ldn hS.1.2.2.2 rfl)) (by assumption) ?_
    simp only [Act.put, List.setIfInBounds_toArray, List.set_cons_zero, List.set_cons_succ]
    refine lane_take rfl (by kernel_rfl) (by kernel_rfl) (by rfl) (fun w' hS => exec_eql6' (v := ⟨K, S, C, T, M, v⟩) (v' := ⟨K, S, C, T, M, v⟩) (decide_eq_true rfl) rfl rfl rfl w') (by assumption) ?_
    simp only [Act.put, List.setIfInBounds_toArray, List.set_cons_zero, List.set_cons_succ]
    refine lane_take (v := ?_) rfl (by kernel_rfl) (by kernel_rfl) (by rfl) ?_ (by assumption) ?_
    rotate_left
    · intro w' hSw
      go_simp
      try (with_reducible rfl)
    simp only [Act.put, List.setIfInBounds_toArray, List.set_cons_zero, List.set_cons_succ]
    refine lane_take (v := ?_) rfl (by kernel_rfl) (by kernel_rfl) (by rfl) ?_ (by assumption) ?_
    rotate_left
    · intro w' hSw
      go_simp
      try (with_reducible rfl)
    simp only [Act.put, List.setIfInBounds_toArray, List.set_cons_zero, List.set_cons_succ]
    refine lane_take rfl (by kernel_rfl) (by kernel_rfl) (by rfl) (fun w' hS => exec_load rfl rfl (ldn hS.1.2.2.1 rfl)) (by assumption) ?_
    simp only [Act.put, List.setIfInBounds_toArray, List.set_cons_zero, List.set_cons_succ]
    refine lane_take rfl (by kernel_rfl) (by kernel_rfl) (by rfl) (fun w' hS => exec_load rfl rfl (ldn hS.1.1 rfl)) (by assumption) ?_
    simp only [Act.put, List.setIfInBounds_toArray, List.set_cons_zero, List.set_cons_succ]
    refine lane_take rfl (by kernel_rfl) (by kernel_rfl) (by rfl) (fun w' hS => exec_eql6' (v := ⟨K, S, C, T, M, 0⟩) (v' := ⟨K, S, C, T, M, 0⟩) (decide_eq_true rfl) rfl rfl rfl w') (by assumption) ?_
    simp only [Act.put, List.setIfInBounds_toArray, List.set_cons_zero, List.set_cons_succ]
    repeat (first
      | (refine lane_skip rfl (by kernel_rfl) (by kernel_rfl) (by rfl) (by assumption) ?_; simp only [Act.put, List.setIfInBounds_toArray, List.set_cons_zero, List.set_cons_succ])
      | (refine lane_take (v := ?_) rfl (by kernel_rfl) (by kernel_rfl) (by rfl) ?_ (by assumption) ?_; rotate_left; (focus (intro w' hSw; go_simp; try (with_reducible rfl))); simp only [Act.put, List.setIfInBounds_toArray, List.set_cons_zero, List.set_cons_succ]))
    refine lane_end (by kernel_rfl) ?_
    have HF := Wwd
    clear hHeld
    go_wp2
    go_ret
    exact ⟨rfl, HF.out⟩

theorem noticeParties_walk {w : World} (K S C T M V : Int) (h : (⟨K, S, C, T, M, V⟩ : Nv).Wf) (v : Int) (_ : (Lit.int .u8 v).wf = true) :
    Calls Try.prog 9 #[.agg #[.int .u8 K, .int .i64 S, .int .i64 C, .int .i64 T, .int .i64 M, .int .u8 V], .int .u8 v] w fun e w' => e = .returned (.bool true) ∧ Below w.heap.size w w' := by
  obtain ⟨x, hx⟩ : ∃ x, Nv.nearA ⟨K, S, C, T, M, V⟩ = x := ⟨_, rfl⟩
  have ho := Nv.nearA_ok ⟨K, S, C, T, M, V⟩
  rw [hx] at ho
  obtain ⟨K', S', C', T', M', V'⟩ := x
  obtain ⟨k, hk⟩ : ∃ k : Nat, K' = (k : Int) + 1 := ⟨(K' - 1).toNat, by have := ho.1; dsimp only at this; omega⟩
  have h5 : k < 5 := by have := ho.2.1; dsimp only at this; omega
  by_cases hv : V' = 0
  · subst hv
    exact noticeParties_zero w K S C T M V h v K' S' C' T' M' hx k h5 hk
  · exact noticeParties_other w K S C T M V h v K' S' C' T' M' V' hx hv k h5 hk
end Go.Proofs.Ytambppcnmggocaa
