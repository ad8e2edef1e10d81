/-
  The walk of the law OrderBytes: it returns true, whatever the input, and makes new blocks alone. No conditions.
-/
import Derived.Test.YtambppcnmggocaaOrBytesA
namespace Go.Proofs.Ytambppcnmggocaa
set_option maxRecDepth 20000
open Go.ChangeShapes Go.WideShapes Go.ChangeAt Go.RowKit

set_option maxHeartbeats 4000000 in
theorem orderBytes_1_ff (o : Ov) (ho : o.Wf) (hk : o.near.k = 1) (hg : o.near.P.g = false) (hl : o.near.P.l = false) (w : World) : Calls Try.prog 4 #[.agg o.arr] w fun e w' => e = .returned (.bool true) ∧ Below w.heap.size w w' := by
  have HNA := Lib.hid (near_o o ho)
  have wx := o.near_wf ho
  have rx := o.near_right
  have HE0 := Lib.hid (fun w => enc_o o ho.2.2.2.2.1.2.1.1 w)
  have HX := Lib.hid (fun w => enc_o o.near wx.2.2.2.2.1.2.1.1 w)
  rw [o.out_near] at HX
  clear ho
  generalize o.near = x at *
  have hn : nm x.k = 1 := by rw [hk]; rfl
  have hby : Pk.encs (1 :: [x.P.a, x.P.u, x.P.e, x.P.t, 0, 0]) = x.bytes := by
    unfold Ov.bytes
    rw [Ov.rest_one hn, hk, Pk.encs_cons]
    rw [hg, hl]; rfl
  have HBY := Lib.hid hby
  have hle := x.len wx rx
  have HLE := Lib.hid hle.2
  have hni : I64 (1 :: [x.P.a, x.P.u, x.P.e, x.P.t, 0, 0]) := by
    have hN := (right_zero rx).1
    have hb := pn_zero ((right_zero rx).2.2 hk)
    have hu := wx.2.2.2.2.1.2.1.1
    intro y hy; simp only [List.mem_cons, List.not_mem_nil, or_false] at hy; rcases hy with rfl | rfl | rfl | rfl | rfl | rfl | rfl <;> omega
  have HNI := Lib.hid hni
  have HNL : Hid ((1 :: [x.P.a, x.P.u, x.P.e, x.P.t, 0, 0] : List Int).length ≤ 1000) := Lib.hid (by simp)
  have HK := Lib.hid hk
  have HRX := Lib.hid rx
  have HWX := Lib.hid wx
  have hwk : IntKind.i64.wrap 1 = 1 := by simp only [IntKind.wrap_i64]; omega
  have hwu : IntKind.i64.wrap x.P.u = x.P.u := by have := wx.2.2.2.2.1.2.1; simp only [IntKind.wrap_i64]; omega
  have HGV := Lib.hid hg
  have HLV := Lib.hid hl
  clear hn hby hle hni hk rx wx hg hl
  obtain ⟨X, hX⟩ : ∃ X, o.right = X := ⟨_, rfl⟩
  have HXV := Lib.hid hX
  clear hX
  go_enter Try.func4, Try.ntmps4
  go_wp2_with (first | ((with_reducible_and_instances (show wpList _ _ _ (Oper.mk _ (Op.load 27 _) _ _ _ _ :: _) _ _)); refine wl_load Try.underlying27 rfl info16 rfl rfl rfl (by (repeat (first | assumption | (with_reducible refine alloc_at ?_; (focus (first | omega | (simp; done) | (simp; omega)))) | (with_reducible refine boxed_at ?_; (focus (first | omega | (simp; done) | (simp; omega)))) | (with_reducible refine alloc_old ?_ ?_; (focus (first | omega | (simp; done) | (simp; omega)))) | (with_reducible refine boxed_old ?_ ?_; (focus (first | omega | (simp; done) | (simp; omega)))) | (with_reducible refine drew_old ?_)))) (by rfl) ?_) | ((with_reducible_and_instances (show wpList _ _ _ (Oper.mk _ (Op.store 27 _ _) _ _ _ _ :: _) _ _)); refine wl_store info16 rfl rfl rfl rfl (by (repeat (first | assumption | (with_reducible refine alloc_at ?_; (focus (first | omega | (simp; done) | (simp; omega)))) | (with_reducible refine boxed_at ?_; (focus (first | omega | (simp; done) | (simp; omega)))) | (with_reducible refine alloc_old ?_ ?_; (focus (first | omega | (simp; done) | (simp; omega)))) | (with_reducible refine boxed_old ?_ ?_; (focus (first | omega | (simp; done) | (simp; omega)))) | (with_reducible refine drew_old ?_)))) (by rfl) (by rfl) (by first | exact Ov.arr_one _ | (rw [← hz]; exact Ov.arr_one _) | simp [Value.oneCell']) ?_))
  refine (lright_o o _).mono ?_
  rw [HXV.out]
  rintro e w1 ⟨rfl, hb1⟩
  have h1 : w1.heap[w.heap.size]? = some (.cells o.arr 27 (0, 0)) := (hb1.block _ (by simp)).trans alloc_block
  have H1 : Hid (Below w.heap.size w w1) := Lib.hid (((Below.refl _ w).alloc (Nat.le_refl _) _).trans (hb1.mono (by first | omega | (simp; done) | (simp; omega))))
  have s1 : w.heap.size < w1.heap.size := by have := hb1.size; simp at this; omega
  clear hb1
  by_cases d : X = 0
  case' pos =>
    subst d
    have H2 := H1
    have h2 := h1
    have s2 := s1
    obtain ⟨w2, e2⟩ : ∃ w2, w2 = w1 := ⟨_, rfl⟩
    rw [← e2] at H2 h2 s2 ⊢
    clear e2 H1 h1 s1
    go_wp2_with (first | ((with_reducible_and_instances (show wpList _ _ _ (Oper.mk _ (Op.load 27 _) _ _ _ _ :: _) _ _)); refine wl_load Try.underlying27 rfl info16 rfl rfl rfl (by (repeat (first | assumption | (with_reducible refine alloc_at ?_; (focus (first | omega | (simp; done) | (simp; omega)))) | (with_reducible refine boxed_at ?_; (focus (first | omega | (simp; done) | (simp; omega)))) | (with_reducible refine alloc_old ?_ ?_; (focus (first | omega | (simp; done) | (simp; omega)))) | (with_reducible refine boxed_old ?_ ?_; (focus (first | omega | (simp; done) | (simp; omega)))) | (with_reducible refine drew_old ?_)))) (by rfl) ?_) | ((with_reducible_and_instances (show wpList _ _ _ (Oper.mk _ (Op.store 27 _ _) _ _ _ _ :: _) _ _)); refine wl_store info16 rfl rfl rfl rfl (by (repeat (first | assumption | (with_reducible refine alloc_at ?_; (focus (first | omega | (simp; done) | (simp; omega)))) | (with_reducible refine boxed_at ?_; (focus (first | omega | (simp; done) | (simp; omega)))) | (with_reducible refine alloc_old ?_ ?_; (focus (first | omega | (simp; done) | (simp; omega)))) | (with_reducible refine boxed_old ?_ ?_; (focus (first | omega | (simp; done) | (simp; omega)))) | (with_reducible refine drew_old ?_)))) (by rfl) (by rfl) (by first | exact Ov.arr_one _ | (rw [← hz]; exact Ov.arr_one _) | simp [Value.oneCell']) ?_))
  case' neg =>
    have z : (X != 0) = true := by simpa using d
    have HO : Hid (∀ w, Calls Try.prog 17 #[.agg o.arr] w (Owned w [])) := Lib.hid (by
      have := HE0.out
      unfold Ov.out at this
      rw [HXV.out, if_neg d] at this
      exact this)
    clear d
    go_wp2_with (first | ((with_reducible_and_instances (show wpList _ _ _ (Oper.mk _ (Op.load 27 _) _ _ _ _ :: _) _ _)); refine wl_load Try.underlying27 rfl info16 rfl rfl rfl (by (repeat (first | assumption | (with_reducible refine alloc_at ?_; (focus (first | omega | (simp; done) | (simp; omega)))) | (with_reducible refine boxed_at ?_; (focus (first | omega | (simp; done) | (simp; omega)))) | (with_reducible refine alloc_old ?_ ?_; (focus (first | omega | (simp; done) | (simp; omega)))) | (with_reducible refine boxed_old ?_ ?_; (focus (first | omega | (simp; done) | (simp; omega)))) | (with_reducible refine drew_old ?_)))) (by rfl) ?_) | ((with_reducible_and_instances (show wpList _ _ _ (Oper.mk _ (Op.store 27 _ _) _ _ _ _ :: _) _ _)); refine wl_store info16 rfl rfl rfl rfl (by (repeat (first | assumption | (with_reducible refine alloc_at ?_; (focus (first | omega | (simp; done) | (simp; omega)))) | (with_reducible refine boxed_at ?_; (focus (first | omega | (simp; done) | (simp; omega)))) | (with_reducible refine alloc_old ?_ ?_; (focus (first | omega | (simp; done) | (simp; omega)))) | (with_reducible refine boxed_old ?_ ?_; (focus (first | omega | (simp; done) | (simp; omega)))) | (with_reducible refine drew_old ?_)))) (by rfl) (by rfl) (by first | exact Ov.arr_one _ | (rw [← hz]; exact Ov.arr_one _) | simp [Value.oneCell']) ?_))
    refine (HO.out _).mono ?_
    intro e w2 hO
    obtain ⟨A2, c2, rfl, HB2⟩ := hO.open_nil
    have h2 : w2.heap[w.heap.size]? = some (.cells o.arr 27 (0, 0)) := (HB2.out.block _ s1).trans h1
    have H2 : Hid (Below w.heap.size w w2) := Lib.hid (H1.out.trans (HB2.out.mono H1.out.size))
    have s2 : w.heap.size < w2.heap.size := Nat.lt_of_lt_of_le s1 HB2.out.size
    clear hO HB2 H1 h1 s1
    go_wp2_with (first | ((with_reducible_and_instances (show wpList _ _ _ (Oper.mk _ (Op.load 27 _) _ _ _ _ :: _) _ _)); refine wl_load Try.underlying27 rfl info16 rfl rfl rfl (by (repeat (first | assumption | (with_reducible refine alloc_at ?_; (focus (first | omega | (simp; done) | (simp; omega)))) | (with_reducible refine boxed_at ?_; (focus (first | omega | (simp; done) | (simp; omega)))) | (with_reducible refine alloc_old ?_ ?_; (focus (first | omega | (simp; done) | (simp; omega)))) | (with_reducible refine boxed_old ?_ ?_; (focus (first | omega | (simp; done) | (simp; omega)))) | (with_reducible refine drew_old ?_)))) (by rfl) ?_) | ((with_reducible_and_instances (show wpList _ _ _ (Oper.mk _ (Op.store 27 _ _) _ _ _ _ :: _) _ _)); refine wl_store info16 rfl rfl rfl rfl (by (repeat (first | assumption | (with_reducible refine alloc_at ?_; (focus (first | omega | (simp; done) | (simp; omega)))) | (with_reducible refine boxed_at ?_; (focus (first | omega | (simp; done) | (simp; omega)))) | (with_reducible refine alloc_old ?_ ?_; (focus (first | omega | (simp; done) | (simp; omega)))) | (with_reducible refine boxed_old ?_ ?_; (focus (first | omega | (simp; done) | (simp; omega)))) | (with_reducible refine drew_old ?_)))) (by rfl) (by rfl) (by first | exact Ov.arr_one _ | (rw [← hz]; exact Ov.arr_one _) | simp [Value.oneCell']) ?_))
  all_goals
    refine (HNA.out _).mono ?_
    rintro e w3 ⟨rfl, hb3⟩
    have h3 : w3.heap[w.heap.size]? = some (.cells o.arr 27 (0, 0)) := (hb3.block _ s2).trans h2
    have H3 : Hid (Below w.heap.size w w3) := Lib.hid (H2.out.trans (hb3.mono H2.out.size))
    have s3 : w.heap.size < w3.heap.size := Nat.lt_of_lt_of_le s2 hb3.size
    clear hb3 H2 h2 s2
    go_wp2_with (first | ((with_reducible_and_instances (show wpList _ _ _ (Oper.mk _ (Op.load 27 _) _ _ _ _ :: _) _ _)); refine wl_load Try.underlying27 rfl info16 rfl rfl rfl (by (repeat (first | assumption | (with_reducible refine alloc_at ?_; (focus (first | omega | (simp; done) | (simp; omega)))) | (with_reducible refine boxed_at ?_; (focus (first | omega | (simp; done) | (simp; omega)))) | (with_reducible refine alloc_old ?_ ?_; (focus (first | omega | (simp; done) | (simp; omega)))) | (with_reducible refine boxed_old ?_ ?_; (focus (first | omega | (simp; done) | (simp; omega)))) | (with_reducible refine drew_old ?_)))) (by rfl) ?_) | ((with_reducible_and_instances (show wpList _ _ _ (Oper.mk _ (Op.store 27 _ _) _ _ _ _ :: _) _ _)); refine wl_store info16 rfl rfl rfl rfl (by (repeat (first | assumption | (with_reducible refine alloc_at ?_; (focus (first | omega | (simp; done) | (simp; omega)))) | (with_reducible refine boxed_at ?_; (focus (first | omega | (simp; done) | (simp; omega)))) | (with_reducible refine alloc_old ?_ ?_; (focus (first | omega | (simp; done) | (simp; omega)))) | (with_reducible refine boxed_old ?_ ?_; (focus (first | omega | (simp; done) | (simp; omega)))) | (with_reducible refine drew_old ?_)))) (by rfl) (by rfl) (by first | exact Ov.arr_one _ | (rw [← hz]; exact Ov.arr_one _) | simp [Value.oneCell']) ?_))
    refine (HX.out _).mono ?_
    intro e w4 hO
    obtain ⟨A4, n4, c4, rfl, HN4, HO4, HB4, HR4, h41, h42⟩ := hO.open_
    have h4 : w4.heap[w.heap.size]? = some (.cells x.arr 27 (0, 0)) := (HB4.out.block _ (by rw [boxed_size]; exact s3)).trans (boxed_block s3)
    have H4 : Hid (Below w.heap.size w w4) := Lib.hid ((boxed_below H3.out (Nat.le_refl _)).trans (HB4.out.mono (by rw [boxed_size]; exact Nat.le_of_lt s3)))
    have s4 : w.heap.size < w4.heap.size := Nat.lt_of_lt_of_le s3 (by have := HB4.out.size; rwa [boxed_size] at this)
    clear hO HB4 H3 h3 s3 HO4
    go_wp2_with (first | ((with_reducible_and_instances (show wpList _ _ _ (Oper.mk _ (Op.load 27 _) _ _ _ _ :: _) _ _)); refine wl_load Try.underlying27 rfl info16 rfl rfl rfl (by (repeat (first | assumption | (with_reducible refine alloc_at ?_; (focus (first | omega | (simp; done) | (simp; omega)))) | (with_reducible refine boxed_at ?_; (focus (first | omega | (simp; done) | (simp; omega)))) | (with_reducible refine alloc_old ?_ ?_; (focus (first | omega | (simp; done) | (simp; omega)))) | (with_reducible refine boxed_old ?_ ?_; (focus (first | omega | (simp; done) | (simp; omega)))) | (with_reducible refine drew_old ?_)))) (by rfl) ?_) | ((with_reducible_and_instances (show wpList _ _ _ (Oper.mk _ (Op.store 27 _ _) _ _ _ _ :: _) _ _)); refine wl_store info16 rfl rfl rfl rfl (by (repeat (first | assumption | (with_reducible refine alloc_at ?_; (focus (first | omega | (simp; done) | (simp; omega)))) | (with_reducible refine boxed_at ?_; (focus (first | omega | (simp; done) | (simp; omega)))) | (with_reducible refine alloc_old ?_ ?_; (focus (first | omega | (simp; done) | (simp; omega)))) | (with_reducible refine boxed_old ?_ ?_; (focus (first | omega | (simp; done) | (simp; omega)))) | (with_reducible refine drew_old ?_)))) (by rfl) (by rfl) (by first | exact Ov.arr_one _ | (rw [← hz]; exact Ov.arr_one _) | simp [Value.oneCell']) ?_))
    refine (decode_any w4 A4 n4 c4 x.bytes HR4.out (Nat.le_trans HLE.out (by omega)) (fun y hy => by have := x.bytes_ok y hy; omega) HN4.out).mono ?_
    rintro e w5 ⟨x', e', rfl, hd, hb5⟩
    obtain ⟨rfl, rfl⟩ := hd.is HRX.out HWX.out
    rw [Ov.val_arr]
    have h5 : w5.heap[w.heap.size]? = some (.cells x'.arr 27 (0, 0)) := (hb5.block _ s4).trans h4
    have H5 : Hid (Below w.heap.size w w5) := Lib.hid (H4.out.trans (hb5.mono H4.out.size))
    have s5 : w.heap.size < w5.heap.size := Nat.lt_of_lt_of_le s4 hb5.size
    have HR5 : Hid (Rd w5 .u8 w4.heap.size A4 x'.bytes) := Lib.hid (HR4.out.below hb5)
    have H45 := Lib.hid hb5.size
    have hc0 : w5.cell? ⟨w.heap.size, 0, none⟩ = some (.int .u8 1) := by rw [cell_of_row _ _ 0 _ _ _ h5, ← HK.out]; rfl
    have hc4 : w5.cell? ⟨w.heap.size, 4, none⟩ = some (.int .i64 x'.P.a) := cell_of_row _ _ 4 _ _ _ h5
    have hc5 : w5.cell? ⟨w.heap.size, 5, none⟩ = some (.int .u8 x'.P.u) := cell_of_row _ _ 5 _ _ _ h5
    have hc6 : w5.cell? ⟨w.heap.size, 6, none⟩ = some (.int .i64 x'.P.e) := cell_of_row _ _ 6 _ _ _ h5
    have hc7 : w5.cell? ⟨w.heap.size, 7, none⟩ = some (.int .i64 x'.P.t) := cell_of_row _ _ 7 _ _ _ h5
    have hc8 : w5.cell? ⟨w.heap.size, 8, none⟩ = some (.bool false) := by rw [cell_of_row _ _ 8 _ _ _ h5, ← HGV.out]; rfl
    have hc9 : w5.cell? ⟨w.heap.size, 9, none⟩ = some (.bool false) := by rw [cell_of_row _ _ 9 _ _ _ h5, ← HLV.out]; rfl
    clear hd hb5 H4 h4 s4
    go_wp2_with (first | ((with_reducible_and_instances (show wpList _ _ _ (Oper.mk _ (Op.load 27 _) _ _ _ _ :: _) _ _)); refine wl_load Try.underlying27 rfl info16 rfl rfl rfl (by (repeat (first | assumption | (with_reducible refine alloc_at ?_; (focus (first | omega | (simp; done) | (simp; omega)))) | (with_reducible refine boxed_at ?_; (focus (first | omega | (simp; done) | (simp; omega)))) | (with_reducible refine alloc_old ?_ ?_; (focus (first | omega | (simp; done) | (simp; omega)))) | (with_reducible refine boxed_old ?_ ?_; (focus (first | omega | (simp; done) | (simp; omega)))) | (with_reducible refine drew_old ?_)))) (by rfl) ?_) | ((with_reducible_and_instances (show wpList _ _ _ (Oper.mk _ (Op.store 27 _ _) _ _ _ _ :: _) _ _)); refine wl_store info16 rfl rfl rfl rfl (by (repeat (first | assumption | (with_reducible refine alloc_at ?_; (focus (first | omega | (simp; done) | (simp; omega)))) | (with_reducible refine boxed_at ?_; (focus (first | omega | (simp; done) | (simp; omega)))) | (with_reducible refine alloc_old ?_ ?_; (focus (first | omega | (simp; done) | (simp; omega)))) | (with_reducible refine boxed_old ?_ ?_; (focus (first | omega | (simp; done) | (simp; omega)))) | (with_reducible refine drew_old ?_)))) (by rfl) (by rfl) (by first | exact Ov.arr_one _ | (rw [← hz]; exact Ov.arr_one _) | simp [Value.oneCell']) ?_) | (at_builtin; refine wpList_append_lits rfl _ _ rfl rfl _ _ 1 [x'.P.a, x'.P.u, x'.P.e, x'.P.t, 0, 0] _ _ 6 rfl rfl (by simp) (by simp) rfl rfl rfl (by omega) ?_; intro A7 c7 w7 hb7 hr7; have hB1 := (hb7.block w.heap.size (by simp; omega)).trans (show _ = some (Obj.cells x'.arr 27 (0, 0)) by (repeat (first | assumption | (with_reducible refine alloc_at ?_; (focus (first | omega | (simp; done) | (simp; omega)))) | (with_reducible refine boxed_at ?_; (focus (first | omega | (simp; done) | (simp; omega)))) | (with_reducible refine alloc_old ?_ ?_; (focus (first | omega | (simp; done) | (simp; omega)))) | (with_reducible refine boxed_old ?_ ?_; (focus (first | omega | (simp; done) | (simp; omega)))) | (with_reducible refine drew_old ?_)))); have hB4 := (hb7.block w5.heap.size (by simp)).trans (show _ = some (Obj.cells x'.arr 27 (0, 0)) by (repeat (first | assumption | (with_reducible refine alloc_at ?_; (focus (first | omega | (simp; done) | (simp; omega)))) | (with_reducible refine boxed_at ?_; (focus (first | omega | (simp; done) | (simp; omega)))) | (with_reducible refine alloc_old ?_ ?_; (focus (first | omega | (simp; done) | (simp; omega)))) | (with_reducible refine boxed_old ?_ ?_; (focus (first | omega | (simp; done) | (simp; omega)))) | (with_reducible refine drew_old ?_)))); have hb57 : Below w5.heap.size w5 w7 := (boxed_below ((Below.refl _ _).alloc (Nat.le_refl _) _) (Nat.le_refl _)).trans (hb7.mono (by simp)); have hs57 : w5.heap.size < w7.heap.size := (by have := hb7.size; simp at this; omega); have HB1 := Lib.hid hB1; have HB4 := Lib.hid hB4; have HR7 := Lib.hid hr7; have H57 := Lib.hid hb57; clear hB1 hB4 hb7 hr7 hb57))
    have H7 : Hid (Below w.heap.size w w7) := Lib.hid (H5.out.trans (H57.out.mono H5.out.size))
    have s74 : w5.heap.size < w7.heap.size := hs57
    have s71 : w.heap.size < w7.heap.size := Nat.lt_trans s5 hs57
    have HCV : Hid (∀ w', Below w7.heap.size w7 w' → (convert 34 9 (.slice A4 n4 c4)).run Try.prog w' = .ok (.string (bst x'.bytes)) w') := Lib.hid (fun w' hw => conv_len w' A4 _ c4 n4 _ (HR5.out.below ((H57.out.mono H45.out).trans (hw.mono (Nat.le_trans H45.out H57.out.size)))) HN4.out)
    clear h5 hc0 hc4 hc5 hc6 hc7 hc8 hc9
    refine lane_start (ord := [0, 1, 2, 3, 4, 5, 6, 7, 8, 9, 10, 11, 12, 13, 14, 15, 16, 17, 18]) (S := fun w' => (w'.heap[w5.heap.size]? = some (.cells x'.arr 27 (0, 0)) ∧ w'.heap[w.heap.size]? = some (.cells x'.arr 27 (0, 0))) ∧ (convert 34 9 (.slice A4 n4 c4)).run Try.prog w' = .ok (.string (bst x'.bytes)) w') rfl (by kernel_rfl) ⟨⟨HB4.out, HB1.out⟩, HCV.out _ ((Below.refl _ _).drew)⟩ (fun hHeld => ?_)
    refine lane_alone rfl (by kernel_rfl) (by rfl) (fun K hK => ?_)
    go_simp
    refine (awake_any _).mono ?_
    rintro e w8 ⟨rfl, hb8⟩
    have hb8 : Below w7.heap.size w7 w8 := ((Below.refl _ _).drew).trans hb8
    have h81 := (hb8.block _ s71).trans HB1.out
    have h84 := (hb8.block _ s74).trans HB4.out
    refine hK _ _ ⟨⟨h84, h81⟩, HCV.out _ hb8⟩ (fun hHeld => ?_)
    clear hK K
    refine lane_take (v := ?_) rfl (by kernel_rfl) (by kernel_rfl) (by rfl) ?_ (by assumption) ?_
    rotate_left
    · intro w' hSw
      obtain ⟨_, hc⟩ := hSw
      go_simp
      try (with_reducible rfl)
    simp only [Act.put, List.setIfInBounds_toArray, List.set_cons_zero, List.set_cons_succ]
    refine lane_take (v := ?_) rfl (by kernel_rfl) (by kernel_rfl) (by rfl) ?_ (by assumption) ?_
    rotate_left
    · intro w' hSw
      obtain ⟨_, hc⟩ := hSw
      go_simp
      try (with_reducible rfl)
    simp only [Act.put, List.setIfInBounds_toArray, List.set_cons_zero, List.set_cons_succ]
    refine lane_take (v := ?_) rfl (by kernel_rfl) (by kernel_rfl) (by rfl) ?_ (by assumption) ?_
    rotate_left
    · intro w' hSw
      obtain ⟨_, hc⟩ := hSw
      go_simp
      try (with_reducible rfl)
    simp only [Act.put, List.setIfInBounds_toArray, List.set_cons_zero, List.set_cons_succ]
    refine lane_take (v := ?_) rfl (by kernel_rfl) (by kernel_rfl) (by rfl) ?_ (by assumption) ?_
    rotate_left
    · intro w' hSw
      obtain ⟨_, hc⟩ := hSw
      go_simp
      try (with_reducible rfl)
    simp only [Act.put, List.setIfInBounds_toArray, List.set_cons_zero, List.set_cons_succ]
    refine lane_alone rfl (by kernel_rfl) (by rfl) (fun K hK => ?_)
    go_simp
    refine (packs_any A7 w7.heap.size c7 _ w8 (HR7.out.below hb8) hb8.size HNL.out HNI.out).mono ?_
    intro e w9 hO
    rw [HBY.out] at hO
    obtain ⟨A9, n9, c9, rfl, HN9, _, HL9, HR9, _, _⟩ := hO.open_
    have hb9 := hb8.trans (HL9.out.mono hb8.size)
    have h91 := (hb9.block _ s71).trans HB1.out
    have h94 := (hb9.block _ s74).trans HB4.out
    have hcv9 := conv_len w9 A9 _ c9 n9 _ HR9.out HN9.out
    refine hK _ _ ⟨⟨h94, h91⟩, HCV.out _ hb9⟩ (fun hHeld => ?_)
    clear hK K
    clear h81 h84
    refine lane_alone rfl (by kernel_rfl) (by rfl) (fun K hK => ?_)
    go_simp
    refine hK _ _ hHeld (fun hHeld => ?_)
    clear hK K hcv9
    refine lane_take (v := ?_) rfl (by kernel_rfl) (by kernel_rfl) (by rfl) ?_ (by assumption) ?_
    rotate_left
    · intro w' hSw
      go_simp
      try (with_reducible rfl)
    simp only [Act.put, List.setIfInBounds_toArray, List.set_cons_zero, List.set_cons_succ]
    refine lane_take (v := ?_) rfl (by kernel_rfl) (by kernel_rfl) (by rfl) ?_ (by assumption) ?_
    rotate_left
    · intro w' hSw
      go_simp
      try (with_reducible rfl)
    simp only [Act.put, List.setIfInBounds_toArray, List.set_cons_zero, List.set_cons_succ]
    refine lane_take (v := ?_) rfl (by kernel_rfl) (by kernel_rfl) (by rfl) ?_ (by assumption) ?_
    rotate_left
    · intro w' hSw
      go_simp
      try (with_reducible rfl)
    simp only [Act.put, List.setIfInBounds_toArray, List.set_cons_zero, List.set_cons_succ]
    refine lane_take (v := ?_) rfl (by kernel_rfl) (by kernel_rfl) (by rfl) ?_ (by assumption) ?_
    rotate_left
    · intro w' hSw
      go_simp
      try (with_reducible rfl)
    simp only [Act.put, List.setIfInBounds_toArray, List.set_cons_zero, List.set_cons_succ]
    refine lane_take (v := ?_) rfl (by kernel_rfl) (by kernel_rfl) (by rfl) ?_ (by assumption) ?_
    rotate_left
    · intro w' hSw
      go_simp
      try (with_reducible rfl)
    simp only [Act.put, List.setIfInBounds_toArray, List.set_cons_zero, List.set_cons_succ]
    refine lane_take (v := ?_) rfl (by kernel_rfl) (by kernel_rfl) (by rfl) ?_ (by assumption) ?_
    rotate_left
    · intro w' hSw
      go_simp
      try (with_reducible rfl)
    simp only [Act.put, List.setIfInBounds_toArray, List.set_cons_zero, List.set_cons_succ]
    refine lane_take (v := ?_) rfl (by kernel_rfl) (by kernel_rfl) (by rfl) ?_ (by assumption) ?_
    rotate_left
    · intro w' hSw
      go_simp
      try (with_reducible rfl)
    simp only [Act.put, List.setIfInBounds_toArray, List.set_cons_zero, List.set_cons_succ]
    refine lane_take rfl (by kernel_rfl) (by kernel_rfl) (by rfl) (fun w' hS => exec_load rfl rfl (ld16 hS.1.1 rfl)) (by assumption) ?_
    simp only [Act.put, List.setIfInBounds_toArray, List.set_cons_zero, List.set_cons_succ]
    refine lane_take rfl (by kernel_rfl) (by kernel_rfl) (by rfl) (fun w' hS => exec_load rfl rfl (ld16 hS.1.2 rfl)) (by assumption) ?_
    simp only [Act.put, List.setIfInBounds_toArray, List.set_cons_zero, List.set_cons_succ]
    refine lane_take rfl (by kernel_rfl) (by kernel_rfl) (by rfl) (fun w' hS => exec_eql16' (decide_eq_true rfl) rfl rfl rfl w') (by assumption) ?_
    simp only [Act.put, List.setIfInBounds_toArray, List.set_cons_zero, List.set_cons_succ]
    repeat (first
      | (refine lane_skip rfl (by kernel_rfl) (by kernel_rfl) (by rfl) (by assumption) ?_; simp only [Act.put, List.setIfInBounds_toArray, List.set_cons_zero, List.set_cons_succ])
      | (refine lane_take (v := ?_) rfl (by kernel_rfl) (by kernel_rfl) (by rfl) ?_ (by assumption) ?_; rotate_left; (focus (intro w' hSw; go_simp; try (with_reducible rfl))); simp only [Act.put, List.setIfInBounds_toArray, List.set_cons_zero, List.set_cons_succ]))
    refine lane_end (by kernel_rfl) ?_
    clear hHeld
    have HF := Lib.hid (H7.out.trans (hb9.mono H7.out.size))
    clear h91 h94 hb8 hb9
    go_wp2
    go_ret
    exact ⟨rfl, HF.out⟩

set_option maxHeartbeats 4000000 in
theorem orderBytes_1_ft (o : Ov) (ho : o.Wf) (hk : o.near.k = 1) (hg : o.near.P.g = false) (hl : o.near.P.l = true) (w : World) : Calls Try.prog 4 #[.agg o.arr] w fun e w' => e = .returned (.bool true) ∧ Below w.heap.size w w' := by
  have HNA := Lib.hid (near_o o ho)
  have wx := o.near_wf ho
  have rx := o.near_right
  have HE0 := Lib.hid (fun w => enc_o o ho.2.2.2.2.1.2.1.1 w)
  have HX := Lib.hid (fun w => enc_o o.near wx.2.2.2.2.1.2.1.1 w)
  rw [o.out_near] at HX
  clear ho
  generalize o.near = x at *
  have hn : nm x.k = 1 := by rw [hk]; rfl
  have hby : Pk.encs (1 :: [x.P.a, x.P.u, x.P.e, x.P.t, 0, 1]) = x.bytes := by
    unfold Ov.bytes
    rw [Ov.rest_one hn, hk, Pk.encs_cons]
    rw [hg, hl]; rfl
  have HBY := Lib.hid hby
  have hle := x.len wx rx
  have HLE := Lib.hid hle.2
  have hni : I64 (1 :: [x.P.a, x.P.u, x.P.e, x.P.t, 0, 1]) := by
    have hN := (right_zero rx).1
    have hb := pn_zero ((right_zero rx).2.2 hk)
    have hu := wx.2.2.2.2.1.2.1.1
    intro y hy; simp only [List.mem_cons, List.not_mem_nil, or_false] at hy; rcases hy with rfl | rfl | rfl | rfl | rfl | rfl | rfl <;> omega
  have HNI := Lib.hid hni
  have HNL : Hid ((1 :: [x.P.a, x.P.u, x.P.e, x.P.t, 0, 1] : List Int).length ≤ 1000) := Lib.hid (by simp)
  have HK := Lib.hid hk
  have HRX := Lib.hid rx
  have HWX := Lib.hid wx
  have hwk : IntKind.i64.wrap 1 = 1 := by simp only [IntKind.wrap_i64]; omega
  have hwu : IntKind.i64.wrap x.P.u = x.P.u := by have := wx.2.2.2.2.1.2.1; simp only [IntKind.wrap_i64]; omega
  have HGV := Lib.hid hg
  have HLV := Lib.hid hl
  clear hn hby hle hni hk rx wx hg hl
  obtain ⟨X, hX⟩ : ∃ X, o.right = X := ⟨_, rfl⟩
  have HXV := Lib.hid hX
  clear hX
  go_enter Try.func4, Try.ntmps4
  go_wp2_with (first | ((with_reducible_and_instances (show wpList _ _ _ (Oper.mk _ (Op.load 27 _) _ _ _ _ :: _) _ _)); refine wl_load Try.underlying27 rfl info16 rfl rfl rfl (by (repeat (first | assumption | (with_reducible refine alloc_at ?_; (focus (first | omega | (simp; done) | (simp; omega)))) | (with_reducible refine boxed_at ?_; (focus (first | omega | (simp; done) | (simp; omega)))) | (with_reducible refine alloc_old ?_ ?_; (focus (first | omega | (simp; done) | (simp; omega)))) | (with_reducible refine boxed_old ?_ ?_; (focus (first | omega | (simp; done) | (simp; omega)))) | (with_reducible refine drew_old ?_)))) (by rfl) ?_) | ((with_reducible_and_instances (show wpList _ _ _ (Oper.mk _ (Op.store 27 _ _) _ _ _ _ :: _) _ _)); refine wl_store info16 rfl rfl rfl rfl (by (repeat (first | assumption | (with_reducible refine alloc_at ?_; (focus (first | omega | (simp; done) | (simp; omega)))) | (with_reducible refine boxed_at ?_; (focus (first | omega | (simp; done) | (simp; omega)))) | (with_reducible refine alloc_old ?_ ?_; (focus (first | omega | (simp; done) | (simp; omega)))) | (with_reducible refine boxed_old ?_ ?_; (focus (first | omega | (simp; done) | (simp; omega)))) | (with_reducible refine drew_old ?_)))) (by rfl) (by rfl) (by first | exact Ov.arr_one _ | (rw [← hz]; exact Ov.arr_one _) | simp [Value.oneCell']) ?_))
  refine (lright_o o _).mono ?_
  rw [HXV.out]
  rintro e w1 ⟨rfl, hb1⟩
  have h1 : w1.heap[w.heap.size]? = some (.cells o.arr 27 (0, 0)) := (hb1.block _ (by simp)).trans alloc_block
  have H1 : Hid (Below w.heap.size w w1) := Lib.hid (((Below.refl _ w).alloc (Nat.le_refl _) _).trans (hb1.mono (by first | omega | (simp; done) | (simp; omega))))
  have s1 : w.heap.size < w1.heap.size := by have := hb1.size; simp at this; omega
  clear hb1
  by_cases d : X = 0
  case' pos =>
    subst d
    have H2 := H1
    have h2 := h1
    have s2 := s1
    obtain ⟨w2, e2⟩ : ∃ w2, w2 = w1 := ⟨_, rfl⟩
    rw [← e2] at H2 h2 s2 ⊢
    clear e2 H1 h1 s1
    go_wp2_with (first | ((with_reducible_and_instances (show wpList _ _ _ (Oper.mk _ (Op.load 27 _) _ _ _ _ :: _) _ _)); refine wl_load Try.underlying27 rfl info16 rfl rfl rfl (by (repeat (first | assumption | (with_reducible refine alloc_at ?_; (focus (first | omega | (simp; done) | (simp; omega)))) | (with_reducible refine boxed_at ?_; (focus (first | omega | (simp; done) | (simp; omega)))) | (with_reducible refine alloc_old ?_ ?_; (focus (first | omega | (simp; done) | (simp; omega)))) | (with_reducible refine boxed_old ?_ ?_; (focus (first | omega | (simp; done) | (simp; omega)))) | (with_reducible refine drew_old ?_)))) (by rfl) ?_) | ((with_reducible_and_instances (show wpList _ _ _ (Oper.mk _ (Op.store 27 _ _) _ _ _ _ :: _) _ _)); refine wl_store info16 rfl rfl rfl rfl (by (repeat (first | assumption | (with_reducible refine alloc_at ?_; (focus (first | omega | (simp; done) | (simp; omega)))) | (with_reducible refine boxed_at ?_; (focus (first | omega | (simp; done) | (simp; omega)))) | (with_reducible refine alloc_old ?_ ?_; (focus (first | omega | (simp; done) | (simp; omega)))) | (with_reducible refine boxed_old ?_ ?_; (focus (first | omega | (simp; done) | (simp; omega)))) | (with_reducible refine drew_old ?_)))) (by rfl) (by rfl) (by first | exact Ov.arr_one _ | (rw [← hz]; exact Ov.arr_one _) | simp [Value.oneCell']) ?_))
  case' neg =>
    have z : (X != 0) = true := by simpa using d
    have HO : Hid (∀ w, Calls Try.prog 17 #[.agg o.arr] w (Owned w [])) := Lib.hid (by
      have := HE0.out
      unfold Ov.out at this
      rw [HXV.out, if_neg d] at this
      exact this)
    clear d
    go_wp2_with (first | ((with_reducible_and_instances (show wpList _ _ _ (Oper.mk _ (Op.load 27 _) _ _ _ _ :: _) _ _)); refine wl_load Try.underlying27 rfl info16 rfl rfl rfl (by (repeat (first | assumption | (with_reducible refine alloc_at ?_; (focus (first | omega | (simp; done) | (simp; omega)))) | (with_reducible refine boxed_at ?_; (focus (first | omega | (simp; done) | (simp; omega)))) | (with_reducible refine alloc_old ?_ ?_; (focus (first | omega | (simp; done) | (simp; omega)))) | (with_reducible refine boxed_old ?_ ?_; (focus (first | omega | (simp; done) | (simp; omega)))) | (with_reducible refine drew_old ?_)))) (by rfl) ?_) | ((with_reducible_and_instances (show wpList _ _ _ (Oper.mk _ (Op.store 27 _ _) _ _ _ _ :: _) _ _)); refine wl_store info16 rfl rfl rfl rfl (by (repeat (first | assumption | (with_reducible refine alloc_at ?_; (focus (first | omega | (simp; done) | (simp; omega)))) | (with_reducible refine boxed_at ?_; (focus (first | omega | (simp; done) | (simp; omega)))) | (with_reducible refine alloc_old ?_ ?_; (focus (first | omega | (simp; done) | (simp; omega)))) | (with_reducible refine boxed_old ?_ ?_; (focus (first | omega | (simp; done) | (simp; omega)))) | (with_reducible refine drew_old ?_)))) (by rfl) (by rfl) (by first | exact Ov.arr_one _ | (rw [← hz]; exact Ov.arr_one _) | simp [Value.oneCell']) ?_))
    refine (HO.out _).mono ?_
    intro e w2 hO
    obtain ⟨A2, c2, rfl, HB2⟩ := hO.open_nil
    have h2 : w2.heap[w.heap.size]? = some (.cells o.arr 27 (0, 0)) := (HB2.out.block _ s1).trans h1
    have H2 : Hid (Below w.heap.size w w2) := Lib.hid (H1.out.trans (HB2.out.mono H1.out.size))
    have s2 : w.heap.size < w2.heap.size := Nat.lt_of_lt_of_le s1 HB2.out.size
    clear hO HB2 H1 h1 s1
    go_wp2_with (first | ((with_reducible_and_instances (show wpList _ _ _ (Oper.mk _ (Op.load 27 _) _ _ _ _ :: _) _ _)); refine wl_load Try.underlying27 rfl info16 rfl rfl rfl (by (repeat (first | assumption | (with_reducible refine alloc_at ?_; (focus (first | omega | (simp; done) | (simp; omega)))) | (with_reducible refine boxed_at ?_; (focus (first | omega | (simp; done) | (simp; omega)))) | (with_reducible refine alloc_old ?_ ?_; (focus (first | omega | (simp; done) | (simp; omega)))) | (with_reducible refine boxed_old ?_ ?_; (focus (first | omega | (simp; done) | (simp; omega)))) | (with_reducible refine drew_old ?_)))) (by rfl) ?_) | ((with_reducible_and_instances (show wpList _ _ _ (Oper.mk _ (Op.store 27 _ _) _ _ _ _ :: _) _ _)); refine wl_store info16 rfl rfl rfl rfl (by (repeat (first | assumption | (with_reducible refine alloc_at ?_; (focus (first | omega | (simp; done) | (simp; omega)))) | (with_reducible refine boxed_at ?_; (focus (first | omega | (simp; done) | (simp; omega)))) | (with_reducible refine alloc_old ?_ ?_; (focus (first | omega | (simp; done) | (simp; omega)))) | (with_reducible refine boxed_old ?_ ?_; (focus (first | omega | (simp; done) | (simp; omega)))) | (with_reducible refine drew_old ?_)))) (by rfl) (by rfl) (by first | exact Ov.arr_one _ | (rw [← hz]; exact Ov.arr_one _) | simp [Value.oneCell']) ?_))
  all_goals
    refine (HNA.out _).mono ?_
    rintro e w3 ⟨rfl, hb3⟩
    have h3 : w3.heap[w.heap.size]? = some (.cells o.arr 27 (0, 0)) := (hb3.block _ s2).trans h2
    have H3 : Hid (Below w.heap.size w w3) := Lib.hid (H2.out.trans (hb3.mono H2.out.size))
    have s3 : w.heap.size < w3.heap.size := Nat.lt_of_lt_of_le s2 hb3.size
    clear hb3 H2 h2 s2
    go_wp2_with (first | ((with_reducible_and_instances (show wpList _ _ _ (Oper.mk _ (Op.load 27 _) _ _ _ _ :: _) _ _)); refine wl_load Try.underlying27 rfl info16 rfl rfl rfl (by (repeat (first | assumption | (with_reducible refine alloc_at ?_; (focus (first | omega | (simp; done) | (simp; omega)))) | (with_reducible refine boxed_at ?_; (focus (first | omega | (simp; done) | (simp; omega)))) | (with_reducible refine alloc_old ?_ ?_; (focus (first | omega | (simp; done) | (simp; omega)))) | (with_reducible refine boxed_old ?_ ?_; (focus (first | omega | (simp; done) | (simp; omega)))) | (with_reducible refine drew_old ?_)))) (by rfl) ?_) | ((with_reducible_and_instances (show wpList _ _ _ (Oper.mk _ (Op.store 27 _ _) _ _ _ _ :: _) _ _)); refine wl_store info16 rfl rfl rfl rfl (by (repeat (first | assumption | (with_reducible refine alloc_at ?_; (focus (first | omega | (simp; done) | (simp; omega)))) | (with_reducible refine boxed_at ?_; (focus (first | omega | (simp; done) | (simp; omega)))) | (with_reducible refine alloc_old ?_ ?_; (focus (first | omega | (simp; done) | (simp; omega)))) | (with_reducible refine boxed_old ?_ ?_; (focus (first | omega | (simp; done) | (simp; omega)))) | (with_reducible refine drew_old ?_)))) (by rfl) (by rfl) (by first | exact Ov.arr_one _ | (rw [← hz]; exact Ov.arr_one _) | simp [Value.oneCell']) ?_))
    refine (HX.out _).mono ?_
    intro e w4 hO
    obtain ⟨A4, n4, c4, rfl, HN4, HO4, HB4, HR4, h41, h42⟩ := hO.open_
    have h4 : w4.heap[w.heap.size]? = some (.cells x.arr 27 (0, 0)) := (HB4.out.block _ (by rw [boxed_size]; exact s3)).trans (boxed_block s3)
    have H4 : Hid (Below w.heap.size w w4) := Lib.hid ((boxed_below H3.out (Nat.le_refl _)).trans (HB4.out.mono (by rw [boxed_size]; exact Nat.le_of_lt s3)))
    have s4 : w.heap.size < w4.heap.size := Nat.lt_of_lt_of_le s3 (by have := HB4.out.size; rwa [boxed_size] at this)
    clear hO HB4 H3 h3 s3 HO4
    go_wp2_with (first | ((with_reducible_and_instances (show wpList _ _ _ (Oper.mk _ (Op.load 27 _) _ _ _ _ :: _) _ _)); refine wl_load Try.underlying27 rfl info16 rfl rfl rfl (by (repeat (first | assumption | (with_reducible refine alloc_at ?_; (focus (first | omega | (simp; done) | (simp; omega)))) | (with_reducible refine boxed_at ?_; (focus (first | omega | (simp; done) | (simp; omega)))) | (with_reducible refine alloc_old ?_ ?_; (focus (first | omega | (simp; done) | (simp; omega)))) | (with_reducible refine boxed_old ?_ ?_; (focus (first | omega | (simp; done) | (simp; omega)))) | (with_reducible refine drew_old ?_)))) (by rfl) ?_) | ((with_reducible_and_instances (show wpList _ _ _ (Oper.mk _ (Op.store 27 _ _) _ _ _ _ :: _) _ _)); refine wl_store info16 rfl rfl rfl rfl (by (repeat (first | assumption | (with_reducible refine alloc_at ?_; (focus (first | omega | (simp; done) | (simp; omega)))) | (with_reducible refine boxed_at ?_; (focus (first | omega | (simp; done) | (simp; omega)))) | (with_reducible refine alloc_old ?_ ?_; (focus (first | omega | (simp; done) | (simp; omega)))) | (with_reducible refine boxed_old ?_ ?_; (focus (first | omega | (simp; done) | (simp; omega)))) | (with_reducible refine drew_old ?_)))) (by rfl) (by rfl) (by first | exact Ov.arr_one _ | (rw [← hz]; exact Ov.arr_one _) | simp [Value.oneCell']) ?_))
    refine (decode_any w4 A4 n4 c4 x.bytes HR4.out (Nat.le_trans HLE.out (by omega)) (fun y hy => by have := x.bytes_ok y hy; omega) HN4.out).mono ?_
    rintro e w5 ⟨x', e', rfl, hd, hb5⟩
    obtain ⟨rfl, rfl⟩ := hd.is HRX.out HWX.out
    rw [Ov.val_arr]
    have h5 : w5.heap[w.heap.size]? = some (.cells x'.arr 27 (0, 0)) := (hb5.block _ s4).trans h4
    have H5 : Hid (Below w.heap.size w w5) := Lib.hid (H4.out.trans (hb5.mono H4.out.size))
    have s5 : w.heap.size < w5.heap.size := Nat.lt_of_lt_of_le s4 hb5.size
    have HR5 : Hid (Rd w5 .u8 w4.heap.size A4 x'.bytes) := Lib.hid (HR4.out.below hb5)
    have H45 := Lib.hid hb5.size
    have hc0 : w5.cell? ⟨w.heap.size, 0, none⟩ = some (.int .u8 1) := by rw [cell_of_row _ _ 0 _ _ _ h5, ← HK.out]; rfl
    have hc4 : w5.cell? ⟨w.heap.size, 4, none⟩ = some (.int .i64 x'.P.a) := cell_of_row _ _ 4 _ _ _ h5
    have hc5 : w5.cell? ⟨w.heap.size, 5, none⟩ = some (.int .u8 x'.P.u) := cell_of_row _ _ 5 _ _ _ h5
    have hc6 : w5.cell? ⟨w.heap.size, 6, none⟩ = some (.int .i64 x'.P.e) := cell_of_row _ _ 6 _ _ _ h5
    have hc7 : w5.cell? ⟨w.heap.size, 7, none⟩ = some (.int .i64 x'.P.t) := cell_of_row _ _ 7 _ _ _ h5
    have hc8 : w5.cell? ⟨w.heap.size, 8, none⟩ = some (.bool false) := by rw [cell_of_row _ _ 8 _ _ _ h5, ← HGV.out]; rfl
    have hc9 : w5.cell? ⟨w.heap.size, 9, none⟩ = some (.bool true) := by rw [cell_of_row _ _ 9 _ _ _ h5, ← HLV.out]; rfl
    clear hd hb5 H4 h4 s4
    go_wp2_with (first | ((with_reducible_and_instances (show wpList _ _ _ (Oper.mk _ (Op.load 27 _) _ _ _ _ :: _) _ _)); refine wl_load Try.underlying27 rfl info16 rfl rfl rfl (by (repeat (first | assumption | (with_reducible refine alloc_at ?_; (focus (first | omega | (simp; done) | (simp; omega)))) | (with_reducible refine boxed_at ?_; (focus (first | omega | (simp; done) | (simp; omega)))) | (with_reducible refine alloc_old ?_ ?_; (focus (first | omega | (simp; done) | (simp; omega)))) | (with_reducible refine boxed_old ?_ ?_; (focus (first | omega | (simp; done) | (simp; omega)))) | (with_reducible refine drew_old ?_)))) (by rfl) ?_) | ((with_reducible_and_instances (show wpList _ _ _ (Oper.mk _ (Op.store 27 _ _) _ _ _ _ :: _) _ _)); refine wl_store info16 rfl rfl rfl rfl (by (repeat (first | assumption | (with_reducible refine alloc_at ?_; (focus (first | omega | (simp; done) | (simp; omega)))) | (with_reducible refine boxed_at ?_; (focus (first | omega | (simp; done) | (simp; omega)))) | (with_reducible refine alloc_old ?_ ?_; (focus (first | omega | (simp; done) | (simp; omega)))) | (with_reducible refine boxed_old ?_ ?_; (focus (first | omega | (simp; done) | (simp; omega)))) | (with_reducible refine drew_old ?_)))) (by rfl) (by rfl) (by first | exact Ov.arr_one _ | (rw [← hz]; exact Ov.arr_one _) | simp [Value.oneCell']) ?_) | (at_builtin; refine wpList_append_lits rfl _ _ rfl rfl _ _ 1 [x'.P.a, x'.P.u, x'.P.e, x'.P.t, 0, 1] _ _ 6 rfl rfl (by simp) (by simp) rfl rfl rfl (by omega) ?_; intro A7 c7 w7 hb7 hr7; have hB1 := (hb7.block w.heap.size (by simp; omega)).trans (show _ = some (Obj.cells x'.arr 27 (0, 0)) by (repeat (first | assumption | (with_reducible refine alloc_at ?_; (focus (first | omega | (simp; done) | (simp; omega)))) | (with_reducible refine boxed_at ?_; (focus (first | omega | (simp; done) | (simp; omega)))) | (with_reducible refine alloc_old ?_ ?_; (focus (first | omega | (simp; done) | (simp; omega)))) | (with_reducible refine boxed_old ?_ ?_; (focus (first | omega | (simp; done) | (simp; omega)))) | (with_reducible refine drew_old ?_)))); have hB4 := (hb7.block w5.heap.size (by simp)).trans (show _ = some (Obj.cells x'.arr 27 (0, 0)) by (repeat (first | assumption | (with_reducible refine alloc_at ?_; (focus (first | omega | (simp; done) | (simp; omega)))) | (with_reducible refine boxed_at ?_; (focus (first | omega | (simp; done) | (simp; omega)))) | (with_reducible refine alloc_old ?_ ?_; (focus (first | omega | (simp; done) | (simp; omega)))) | (with_reducible refine boxed_old ?_ ?_; (focus (first | omega | (simp; done) | (simp; omega)))) | (with_reducible refine drew_old ?_)))); have hb57 : Below w5.heap.size w5 w7 := (boxed_below ((Below.refl _ _).alloc (Nat.le_refl _) _) (Nat.le_refl _)).trans (hb7.mono (by simp)); have hs57 : w5.heap.size < w7.heap.size := (by have := hb7.size; simp at this; omega); have HB1 := Lib.hid hB1; have HB4 := Lib.hid hB4; have HR7 := Lib.hid hr7; have H57 := Lib.hid hb57; clear hB1 hB4 hb7 hr7 hb57))
    have H7 : Hid (Below w.heap.size w w7) := Lib.hid (H5.out.trans (H57.out.mono H5.out.size))
    have s74 : w5.heap.size < w7.heap.size := hs57
    have s71 : w.heap.size < w7.heap.size := Nat.lt_trans s5 hs57
    have HCV : Hid (∀ w', Below w7.heap.size w7 w' → (convert 34 9 (.slice A4 n4 c4)).run Try.prog w' = .ok (.string (bst x'.bytes)) w') := Lib.hid (fun w' hw => conv_len w' A4 _ c4 n4 _ (HR5.out.below ((H57.out.mono H45.out).trans (hw.mono (Nat.le_trans H45.out H57.out.size)))) HN4.out)
    clear h5 hc0 hc4 hc5 hc6 hc7 hc8 hc9
    refine lane_start (ord := [0, 1, 2, 3, 4, 5, 6, 7, 8, 9, 10, 11, 12, 13, 14, 15, 16, 17, 18]) (S := fun w' => (w'.heap[w5.heap.size]? = some (.cells x'.arr 27 (0, 0)) ∧ w'.heap[w.heap.size]? = some (.cells x'.arr 27 (0, 0))) ∧ (convert 34 9 (.slice A4 n4 c4)).run Try.prog w' = .ok (.string (bst x'.bytes)) w') rfl (by kernel_rfl) ⟨⟨HB4.out, HB1.out⟩, HCV.out _ ((Below.refl _ _).drew)⟩ (fun hHeld => ?_)
    refine lane_alone rfl (by kernel_rfl) (by rfl) (fun K hK => ?_)
    go_simp
    refine (awake_any _).mono ?_
    rintro e w8 ⟨rfl, hb8⟩
    have hb8 : Below w7.heap.size w7 w8 := ((Below.refl _ _).drew).trans hb8
    have h81 := (hb8.block _ s71).trans HB1.out
    have h84 := (hb8.block _ s74).trans HB4.out
    refine hK _ _ ⟨⟨h84, h81⟩, HCV.out _ hb8⟩ (fun hHeld => ?_)
    clear hK K
    refine lane_take (v := ?_) rfl (by kernel_rfl) (by kernel_rfl) (by rfl) ?_ (by assumption) ?_
    rotate_left
    · intro w' hSw
      obtain ⟨_, hc⟩ := hSw
      go_simp
      try (with_reducible rfl)
    simp only [Act.put, List.setIfInBounds_toArray, List.set_cons_zero, List.set_cons_succ]
    refine lane_take (v := ?_) rfl (by kernel_rfl) (by kernel_rfl) (by rfl) ?_ (by assumption) ?_
    rotate_left
    · intro w' hSw
      obtain ⟨_, hc⟩ := hSw
      go_simp
      try (with_reducible rfl)
    simp only [Act.put, List.setIfInBounds_toArray, List.set_cons_zero, List.set_cons_succ]
    refine lane_take (v := ?_) rfl (by kernel_rfl) (by kernel_rfl) (by rfl) ?_ (by assumption) ?_
    rotate_left
    · intro w' hSw
      obtain ⟨_, hc⟩ := hSw
      go_simp
      try (with_reducible rfl)
    simp only [Act.put, List.setIfInBounds_toArray, List.set_cons_zero, List.set_cons_succ]
    refine lane_take (v := ?_) rfl (by kernel_rfl) (by kernel_rfl) (by rfl) ?_ (by assumption) ?_
    rotate_left
    · intro w' hSw
      obtain ⟨_, hc⟩ := hSw
      go_simp
      try (with_reducible rfl)
    simp only [Act.put, List.setIfInBounds_toArray, List.set_cons_zero, List.set_cons_succ]
    refine lane_alone rfl (by kernel_rfl) (by rfl) (fun K hK => ?_)
    go_simp
    refine (packs_any A7 w7.heap.size c7 _ w8 (HR7.out.below hb8) hb8.size HNL.out HNI.out).mono ?_
    intro e w9 hO
    rw [HBY.out] at hO
    obtain ⟨A9, n9, c9, rfl, HN9, _, HL9, HR9, _, _⟩ := hO.open_
    have hb9 := hb8.trans (HL9.out.mono hb8.size)
    have h91 := (hb9.block _ s71).trans HB1.out
    have h94 := (hb9.block _ s74).trans HB4.out
    have hcv9 := conv_len w9 A9 _ c9 n9 _ HR9.out HN9.out
    refine hK _ _ ⟨⟨h94, h91⟩, HCV.out _ hb9⟩ (fun hHeld => ?_)
    clear hK K
    clear h81 h84
    refine lane_alone rfl (by kernel_rfl) (by rfl) (fun K hK => ?_)
    go_simp
    refine hK _ _ hHeld (fun hHeld => ?_)
    clear hK K hcv9
    refine lane_take (v := ?_) rfl (by kernel_rfl) (by kernel_rfl) (by rfl) ?_ (by assumption) ?_
    rotate_left
    · intro w' hSw
      go_simp
      try (with_reducible rfl)
    simp only [Act.put, List.setIfInBounds_toArray, List.set_cons_zero, List.set_cons_succ]
    refine lane_take (v := ?_) rfl (by kernel_rfl) (by kernel_rfl) (by rfl) ?_ (by assumption) ?_
    rotate_left
    · intro w' hSw
      go_simp
      try (with_reducible rfl)
    simp only [Act.put, List.setIfInBounds_toArray, List.set_cons_zero, List.set_cons_succ]
    refine lane_take (v := ?_) rfl (by kernel_rfl) (by kernel_rfl) (by rfl) ?_ (by assumption) ?_
    rotate_left
    · intro w' hSw
      go_simp
      try (with_reducible rfl)
    simp only [Act.put, List.setIfInBounds_toArray, List.set_cons_zero, List.set_cons_succ]
    refine lane_take (v := ?_) rfl (by kernel_rfl) (by kernel_rfl) (by rfl) ?_ (by assumption) ?_
    rotate_left
    · intro w' hSw
      go_simp
      try (with_reducible rfl)
    simp only [Act.put, List.setIfInBounds_toArray, List.set_cons_zero, List.set_cons_succ]
    refine lane_take (v := ?_) rfl (by kernel_rfl) (by kernel_rfl) (by rfl) ?_ (by assumption) ?_
    rotate_left
    · intro w' hSw
      go_simp
      try (with_reducible rfl)
    simp only [Act.put, List.setIfInBounds_toArray, List.set_cons_zero, List.set_cons_succ]
    refine lane_take (v := ?_) rfl (by kernel_rfl) (by kernel_rfl) (by rfl) ?_ (by assumption) ?_
    rotate_left
    · intro w' hSw
      go_simp
      try (with_reducible rfl)
    simp only [Act.put, List.setIfInBounds_toArray, List.set_cons_zero, List.set_cons_succ]
    refine lane_take (v := ?_) rfl (by kernel_rfl) (by kernel_rfl) (by rfl) ?_ (by assumption) ?_
    rotate_left
    · intro w' hSw
      go_simp
      try (with_reducible rfl)
    simp only [Act.put, List.setIfInBounds_toArray, List.set_cons_zero, List.set_cons_succ]
    refine lane_take rfl (by kernel_rfl) (by kernel_rfl) (by rfl) (fun w' hS => exec_load rfl rfl (ld16 hS.1.1 rfl)) (by assumption) ?_
    simp only [Act.put, List.setIfInBounds_toArray, List.set_cons_zero, List.set_cons_succ]
    refine lane_take rfl (by kernel_rfl) (by kernel_rfl) (by rfl) (fun w' hS => exec_load rfl rfl (ld16 hS.1.2 rfl)) (by assumption) ?_
    simp only [Act.put, List.setIfInBounds_toArray, List.set_cons_zero, List.set_cons_succ]
    refine lane_take rfl (by kernel_rfl) (by kernel_rfl) (by rfl) (fun w' hS => exec_eql16' (decide_eq_true rfl) rfl rfl rfl w') (by assumption) ?_
    simp only [Act.put, List.setIfInBounds_toArray, List.set_cons_zero, List.set_cons_succ]
    repeat (first
      | (refine lane_skip rfl (by kernel_rfl) (by kernel_rfl) (by rfl) (by assumption) ?_; simp only [Act.put, List.setIfInBounds_toArray, List.set_cons_zero, List.set_cons_succ])
      | (refine lane_take (v := ?_) rfl (by kernel_rfl) (by kernel_rfl) (by rfl) ?_ (by assumption) ?_; rotate_left; (focus (intro w' hSw; go_simp; try (with_reducible rfl))); simp only [Act.put, List.setIfInBounds_toArray, List.set_cons_zero, List.set_cons_succ]))
    refine lane_end (by kernel_rfl) ?_
    clear hHeld
    have HF := Lib.hid (H7.out.trans (hb9.mono H7.out.size))
    clear h91 h94 hb8 hb9
    go_wp2
    go_ret
    exact ⟨rfl, HF.out⟩

set_option maxHeartbeats 4000000 in
theorem orderBytes_1_tf (o : Ov) (ho : o.Wf) (hk : o.near.k = 1) (hg : o.near.P.g = true) (hl : o.near.P.l = false) (w : World) : Calls Try.prog 4 #[.agg o.arr] w fun e w' => e = .returned (.bool true) ∧ Below w.heap.size w w' := by
  have HNA := Lib.hid (near_o o ho)
  have wx := o.near_wf ho
  have rx := o.near_right
  have HE0 := Lib.hid (fun w => enc_o o ho.2.2.2.2.1.2.1.1 w)
  have HX := Lib.hid (fun w => enc_o o.near wx.2.2.2.2.1.2.1.1 w)
  rw [o.out_near] at HX
  clear ho
  generalize o.near = x at *
  have hn : nm x.k = 1 := by rw [hk]; rfl
  have hby : Pk.encs (1 :: [x.P.a, x.P.u, x.P.e, x.P.t, 1, 0]) = x.bytes := by
    unfold Ov.bytes
    rw [Ov.rest_one hn, hk, Pk.encs_cons]
    rw [hg, hl]; rfl
  have HBY := Lib.hid hby
  have hle := x.len wx rx
  have HLE := Lib.hid hle.2
  have hni : I64 (1 :: [x.P.a, x.P.u, x.P.e, x.P.t, 1, 0]) := by
    have hN := (right_zero rx).1
    have hb := pn_zero ((right_zero rx).2.2 hk)
    have hu := wx.2.2.2.2.1.2.1.1
    intro y hy; simp only [List.mem_cons, List.not_mem_nil, or_false] at hy; rcases hy with rfl | rfl | rfl | rfl | rfl | rfl | rfl <;> omega
  have HNI := Lib.hid hni
  have HNL : Hid ((1 :: [x.P.a, x.P.u, x.P.e, x.P.t, 1, 0] : List Int).length ≤ 1000) := Lib.hid (by simp)
  have HK := Lib.hid hk
  have HRX := Lib.hid rx
  have HWX := Lib.hid wx
  have hwk : IntKind.i64.wrap 1 = 1 := by simp only [IntKind.wrap_i64]; omega
  have hwu : IntKind.i64.wrap x.P.u = x.P.u := by have := wx.2.2.2.2.1.2.1; simp only [IntKind.wrap_i64]; omega
  have HGV := Lib.hid hg
  have HLV := Lib.hid hl
  clear hn hby hle hni hk rx wx hg hl
  obtain ⟨X, hX⟩ : ∃ X, o.right = X := ⟨_, rfl⟩
  have HXV := Lib.hid hX
  clear hX
  go_enter Try.func4, Try.ntmps4
  go_wp2_with (first | ((with_reducible_and_instances (show wpList _ _ _ (Oper.mk _ (Op.load 27 _) _ _ _ _ :: _) _ _)); refine wl_load Try.underlying27 rfl info16 rfl rfl rfl (by (repeat (first | assumption | (with_reducible refine alloc_at ?_; (focus (first | omega | (simp; done) | (simp; omega)))) | (with_reducible refine boxed_at ?_; (focus (first | omega | (simp; done) | (simp; omega)))) | (with_reducible refine alloc_old ?_ ?_; (focus (first | omega | (simp; done) | (simp; omega)))) | (with_reducible refine boxed_old ?_ ?_; (focus (first | omega | (simp; done) | (simp; omega)))) | (with_reducible refine drew_old ?_)))) (by rfl) ?_) | ((with_reducible_and_instances (show wpList _ _ _ (Oper.mk _ (Op.store 27 _ _) _ _ _ _ :: _) _ _)); refine wl_store info16 rfl rfl rfl rfl (by (repeat (first | assumption | (with_reducible refine alloc_at ?_; (focus (first | omega | (simp; done) | (simp; omega)))) | (with_reducible refine boxed_at ?_; (focus (first | omega | (simp; done) | (simp; omega)))) | (with_reducible refine alloc_old ?_ ?_; (focus (first | omega | (simp; done) | (simp; omega)))) | (with_reducible refine boxed_old ?_ ?_; (focus (first | omega | (simp; done) | (simp; omega)))) | (with_reducible refine drew_old ?_)))) (by rfl) (by rfl) (by first | exact Ov.arr_one _ | (rw [← hz]; exact Ov.arr_one _) | simp [Value.oneCell']) ?_))
  refine (lright_o o _).mono ?_
  rw [HXV.out]
  rintro e w1 ⟨rfl, hb1⟩
  have h1 : w1.heap[w.heap.size]? = some (.cells o.arr 27 (0, 0)) := (hb1.block _ (by simp)).trans alloc_block
  have H1 : Hid (Below w.heap.size w w1) := Lib.hid (((Below.refl _ w).alloc (Nat.le_refl _) _).trans (hb1.mono (by first | omega | (simp; done) | (simp; omega))))
  have s1 : w.heap.size < w1.heap.size := by have := hb1.size; simp at this; omega
  clear hb1
  by_cases d : X = 0
  case' pos =>
    subst d
    have H2 := H1
    have h2 := h1
    have s2 := s1
    obtain ⟨w2, e2⟩ : ∃ w2, w2 = w1 := ⟨_, rfl⟩
    rw [← e2] at H2 h2 s2 ⊢
    clear e2 H1 h1 s1
    go_wp2_with (first | ((with_reducible_and_instances (show wpList _ _ _ (Oper.mk _ (Op.load 27 _) _ _ _ _ :: _) _ _)); refine wl_load Try.underlying27 rfl info16 rfl rfl rfl (by (repeat (first | assumption | (with_reducible refine alloc_at ?_; (focus (first | omega | (simp; done) | (simp; omega)))) | (with_reducible refine boxed_at ?_; (focus (first | omega | (simp; done) | (simp; omega)))) | (with_reducible refine alloc_old ?_ ?_; (focus (first | omega | (simp; done) | (simp; omega)))) | (with_reducible refine boxed_old ?_ ?_; (focus (first | omega | (simp; done) | (simp; omega)))) | (with_reducible refine drew_old ?_)))) (by rfl) ?_) | ((with_reducible_and_instances (show wpList _ _ _ (Oper.mk _ (Op.store 27 _ _) _ _ _ _ :: _) _ _)); refine wl_store info16 rfl rfl rfl rfl (by (repeat (first | assumption | (with_reducible refine alloc_at ?_; (focus (first | omega | (simp; done) | (simp; omega)))) | (with_reducible refine boxed_at ?_; (focus (first | omega | (simp; done) | (simp; omega)))) | (with_reducible refine alloc_old ?_ ?_; (focus (first | omega | (simp; done) | (simp; omega)))) | (with_reducible refine boxed_old ?_ ?_; (focus (first | omega | (simp; done) | (simp; omega)))) | (with_reducible refine drew_old ?_)))) (by rfl) (by rfl) (by first | exact Ov.arr_one _ | (rw [← hz]; exact Ov.arr_one _) | simp [Value.oneCell']) ?_))
  case' neg =>
    have z : (X != 0) = true := by simpa using d
    have HO : Hid (∀ w, Calls Try.prog 17 #[.agg o.arr] w (Owned w [])) := Lib.hid (by
      have := HE0.out
      unfold Ov.out at this
      rw [HXV.out, if_neg d] at this
      exact this)
    clear d
    go_wp2_with (first | ((with_reducible_and_instances (show wpList _ _ _ (Oper.mk _ (Op.load 27 _) _ _ _ _ :: _) _ _)); refine wl_load Try.underlying27 rfl info16 rfl rfl rfl (by (repeat (first | assumption | (with_reducible refine alloc_at ?_; (focus (first | omega | (simp; done) | (simp; omega)))) | (with_reducible refine boxed_at ?_; (focus (first | omega | (simp; done) | (simp; omega)))) | (with_reducible refine alloc_old ?_ ?_; (focus (first | omega | (simp; done) | (simp; omega)))) | (with_reducible refine boxed_old ?_ ?_; (focus (first | omega | (simp; done) | (simp; omega)))) | (with_reducible refine drew_old ?_)))) (by rfl) ?_) | ((with_reducible_and_instances (show wpList _ _ _ (Oper.mk _ (Op.store 27 _ _) _ _ _ _ :: _) _ _)); refine wl_store info16 rfl rfl rfl rfl (by (repeat (first | assumption | (with_reducible refine alloc_at ?_; (focus (first | omega | (simp; done) | (simp; omega)))) | (with_reducible refine boxed_at ?_; (focus (first | omega | (simp; done) | (simp; omega)))) | (with_reducible refine alloc_old ?_ ?_; (focus (first | omega | (simp; done) | (simp; omega)))) | (with_reducible refine boxed_old ?_ ?_; (focus (first | omega | (simp; done) | (simp; omega)))) | (with_reducible refine drew_old ?_)))) (by rfl) (by rfl) (by first | exact Ov.arr_one _ | (rw [← hz]; exact Ov.arr_one _) | simp [Value.oneCell']) ?_))
    refine (HO.out _).mono ?_
    intro e w2 hO
    obtain ⟨A2, c2, rfl, HB2⟩ := hO.open_nil
    have h2 : w2.heap[w.heap.size]? = some (.cells o.arr 27 (0, 0)) := (HB2.out.block _ s1).trans h1
    have H2 : Hid (Below w.heap.size w w2) := Lib.hid (H1.out.trans (HB2.out.mono H1.out.size))
    have s2 : w.heap.size < w2.heap.size := Nat.lt_of_lt_of_le s1 HB2.out.size
    clear hO HB2 H1 h1 s1
    go_wp2_with (first | ((with_reducible_and_instances (show wpList _ _ _ (Oper.mk _ (Op.load 27 _) _ _ _ _ :: _) _ _)); refine wl_load Try.underlying27 rfl info16 rfl rfl rfl (by (repeat (first | assumption | (with_reducible refine alloc_at ?_; (focus (first | omega | (simp; done) | (simp; omega)))) | (with_reducible refine boxed_at ?_; (focus (first | omega | (simp; done) | (simp; omega)))) | (with_reducible refine alloc_old ?_ ?_; (focus (first | omega | (simp; done) | (simp; omega)))) | (with_reducible refine boxed_old ?_ ?_; (focus (first | omega | (simp; done) | (simp; omega)))) | (with_reducible refine drew_old ?_)))) (by rfl) ?_) | ((with_reducible_and_instances (show wpList _ _ _ (Oper.mk _ (Op.store 27 _ _) _ _ _ _ :: _) _ _)); refine wl_store info16 rfl rfl rfl rfl (by (repeat (first | assumption | (with_reducible refine alloc_at ?_; (focus (first | omega | (simp; done) | (simp; omega)))) | (with_reducible refine boxed_at ?_; (focus (first | omega | (simp; done) | (simp; omega)))) | (with_reducible refine alloc_old ?_ ?_; (focus (first | omega | (simp; done) | (simp; omega)))) | (with_reducible refine boxed_old ?_ ?_; (focus (first | omega | (simp; done) | (simp; omega)))) | (with_reducible refine drew_old ?_)))) (by rfl) (by rfl) (by first | exact Ov.arr_one _ | (rw [← hz]; exact Ov.arr_one _) | simp [Value.oneCell']) ?_))
  all_goals
    refine (HNA.out _).mono ?_
    rintro e w3 ⟨rfl, hb3⟩
    have h3 : w3.heap[w.heap.size]? = some (.cells o.arr 27 (0, 0)) := (hb3.block _ s2).trans h2
    have H3 : Hid (Below w.heap.size w w3) := Lib.hid (H2.out.trans (hb3.mono H2.out.size))
    have s3 : w.heap.size < w3.heap.size := Nat.lt_of_lt_of_le s2 hb3.size
    clear hb3 H2 h2 s2
    go_wp2_with (first | ((with_reducible_and_instances (show wpList _ _ _ (Oper.mk _ (Op.load 27 _) _ _ _ _ :: _) _ _)); refine wl_load Try.underlying27 rfl info16 rfl rfl rfl (by (repeat (first | assumption | (with_reducible refine alloc_at ?_; (focus (first | omega | (simp; done) | (simp; omega)))) | (with_reducible refine boxed_at ?_; (focus (first | omega | (simp; done) | (simp; omega)))) | (with_reducible refine alloc_old ?_ ?_; (focus (first | omega | (simp; done) | (simp; omega)))) | (with_reducible refine boxed_old ?_ ?_; (focus (first | omega | (simp; done) | (simp; omega)))) | (with_reducible refine drew_old ?_)))) (by rfl) ?_) | ((with_reducible_and_instances (show wpList _ _ _ (Oper.mk _ (Op.store 27 _ _) _ _ _ _ :: _) _ _)); refine wl_store info16 rfl rfl rfl rfl (by (repeat (first | assumption | (with_reducible refine alloc_at ?_; (focus (first | omega | (simp; done) | (simp; omega)))) | (with_reducible refine boxed_at ?_; (focus (first | omega | (simp; done) | (simp; omega)))) | (with_reducible refine alloc_old ?_ ?_; (focus (first | omega | (simp; done) | (simp; omega)))) | (with_reducible refine boxed_old ?_ ?_; (focus (first | omega | (simp; done) | (simp; omega)))) | (with_reducible refine drew_old ?_)))) (by rfl) (by rfl) (by first | exact Ov.arr_one _ | (rw [← hz]; exact Ov.arr_one _) | simp [Value.oneCell']) ?_))
    refine (HX.out _).mono ?_
    intro e w4 hO
    obtain ⟨A4, n4, c4, rfl, HN4, HO4, HB4, HR4, h41, h42⟩ := hO.open_
    have h4 : w4.heap[w.heap.size]? = some (.cells x.arr 27 (0, 0)) := (HB4.out.block _ (by rw [boxed_size]; exact s3)).trans (boxed_block s3)
    have H4 : Hid (Below w.heap.size w w4) := Lib.hid ((boxed_below H3.out (Nat.le_refl _)).trans (HB4.out.mono (by rw [boxed_size]; exact Nat.le_of_lt s3)))
    have s4 : w.heap.size < w4.heap.size := Nat.lt_of_lt_of_le s3 (by have := HB4.out.size; rwa [boxed_size] at this)
    clear hO HB4 H3 h3 s3 HO4
    go_wp2_with (first | ((with_reducible_and_instances (show wpList _ _ _ (Oper.mk _ (Op.load 27 _) _ _ _ _ :: _) _ _)); refine wl_load Try.underlying27 rfl info16 rfl rfl rfl (by (repeat (first | assumption | (with_reducible refine alloc_at ?_; (focus (first | omega | (simp; done) | (simp; omega)))) | (with_reducible refine boxed_at ?_; (focus (first | omega | (simp; done) | (simp; omega)))) | (with_reducible refine alloc_old ?_ ?_; (focus (first | omega | (simp; done) | (simp; omega)))) | (with_reducible refine boxed_old ?_ ?_; (focus (first | omega | (simp; done) | (simp; omega)))) | (with_reducible refine drew_old ?_)))) (by rfl) ?_) | ((with_reducible_and_instances (show wpList _ _ _ (Oper.mk _ (Op.store 27 _ _) _ _ _ _ :: _) _ _)); refine wl_store info16 rfl rfl rfl rfl (by (repeat (first | assumption | (with_reducible refine alloc_at ?_; (focus (first | omega | (simp; done) | (simp; omega)))) | (with_reducible refine boxed_at ?_; (focus (first | omega | (simp; done) | (simp; omega)))) | (with_reducible refine alloc_old ?_ ?_; (focus (first | omega | (simp; done) | (simp; omega)))) | (with_reducible refine boxed_old ?_ ?_; (focus (first | omega | (simp; done) | (simp; omega)))) | (with_reducible refine drew_old ?_)))) (by rfl) (by rfl) (by first | exact Ov.arr_one _ | (rw [← hz]; exact Ov.arr_one _) | simp [Value.oneCell']) ?_))
    refine (decode_any w4 A4 n4 c4 x.bytes HR4.out (Nat.le_trans HLE.out (by omega)) (fun y hy => by have := x.bytes_ok y hy; omega) HN4.out).mono ?_
    rintro e w5 ⟨x', e', rfl, hd, hb5⟩
    obtain ⟨rfl, rfl⟩ := hd.is HRX.out HWX.out
    rw [Ov.val_arr]
    have h5 : w5.heap[w.heap.size]? = some (.cells x'.arr 27 (0, 0)) := (hb5.block _ s4).trans h4
    have H5 : Hid (Below w.heap.size w w5) := Lib.hid (H4.out.trans (hb5.mono H4.out.size))
    have s5 : w.heap.size < w5.heap.size := Nat.lt_of_lt_of_le s4 hb5.size
    have HR5 : Hid (Rd w5 .u8 w4.heap.size A4 x'.bytes) := Lib.hid (HR4.out.below hb5)
    have H45 := Lib.hid hb5.size
    have hc0 : w5.cell? ⟨w.heap.size, 0, none⟩ = some (.int .u8 1) := by rw [cell_of_row _ _ 0 _ _ _ h5, ← HK.out]; rfl
    have hc4 : w5.cell? ⟨w.heap.size, 4, none⟩ = some (.int .i64 x'.P.a) := cell_of_row _ _ 4 _ _ _ h5
    have hc5 : w5.cell? ⟨w.heap.size, 5, none⟩ = some (.int .u8 x'.P.u) := cell_of_row _ _ 5 _ _ _ h5
    have hc6 : w5.cell? ⟨w.heap.size, 6, none⟩ = some (.int .i64 x'.P.e) := cell_of_row _ _ 6 _ _ _ h5
    have hc7 : w5.cell? ⟨w.heap.size, 7, none⟩ = some (.int .i64 x'.P.t) := cell_of_row _ _ 7 _ _ _ h5
    have hc8 : w5.cell? ⟨w.heap.size, 8, none⟩ = some (.bool true) := by rw [cell_of_row _ _ 8 _ _ _ h5, ← HGV.out]; rfl
    have hc9 : w5.cell? ⟨w.heap.size, 9, none⟩ = some (.bool false) := by rw [cell_of_row _ _ 9 _ _ _ h5, ← HLV.out]; rfl
    clear hd hb5 H4 h4 s4
    go_wp2_with (first | ((with_reducible_and_instances (show wpList _ _ _ (Oper.mk _ (Op.load 27 _) _ _ _ _ :: _) _ _)); refine wl_load Try.underlying27 rfl info16 rfl rfl rfl (by (repeat (first | assumption | (with_reducible refine alloc_at ?_; (focus (first | omega | (simp; done) | (simp; omega)))) | (with_reducible refine boxed_at ?_; (focus (first | omega | (simp; done) | (simp; omega)))) | (with_reducible refine alloc_old ?_ ?_; (focus (first | omega | (simp; done) | (simp; omega)))) | (with_reducible refine boxed_old ?_ ?_; (focus (first | omega | (simp; done) | (simp; omega)))) | (with_reducible refine drew_old ?_)))) (by rfl) ?_) | ((with_reducible_and_instances (show wpList _ _ _ (Oper.mk _ (Op.store 27 _ _) _ _ _ _ :: _) _ _)); refine wl_store info16 rfl rfl rfl rfl (by (repeat (first | assumption | (with_reducible refine alloc_at ?_; (focus (first | omega | (simp; done) | (simp; omega)))) | (with_reducible refine boxed_at ?_; (focus (first | omega | (simp; done) | (simp; omega)))) | (with_reducible refine alloc_old ?_ ?_; (focus (first | omega | (simp; done) | (simp; omega)))) | (with_reducible refine boxed_old ?_ ?_; (focus (first | omega | (simp; done) | (simp; omega)))) | (with_reducible refine drew_old ?_)))) (by rfl) (by rfl) (by first | exact Ov.arr_one _ | (rw [← hz]; exact Ov.arr_one _) | simp [Value.oneCell']) ?_) | (at_builtin; refine wpList_append_lits rfl _ _ rfl rfl _ _ 1 [x'.P.a, x'.P.u, x'.P.e, x'.P.t, 1, 0] _ _ 6 rfl rfl (by simp) (by simp) rfl rfl rfl (by omega) ?_; intro A7 c7 w7 hb7 hr7; have hB1 := (hb7.block w.heap.size (by simp; omega)).trans (show _ = some (Obj.cells x'.arr 27 (0, 0)) by (repeat (first | assumption | (with_reducible refine alloc_at ?_; (focus (first | omega | (simp; done) | (simp; omega)))) | (with_reducible refine boxed_at ?_; (focus (first | omega | (simp; done) | (simp; omega)))) | (with_reducible refine alloc_old ?_ ?_; (focus (first | omega | (simp; done) | (simp; omega)))) | (with_reducible refine boxed_old ?_ ?_; (focus (first | omega | (simp; done) | (simp; omega)))) | (with_reducible refine drew_old ?_)))); have hB4 := (hb7.block w5.heap.size (by simp)).trans (show _ = some (Obj.cells x'.arr 27 (0, 0)) by (repeat (first | assumption | (with_reducible refine alloc_at ?_; (focus (first | omega | (simp; done) | (simp; omega)))) | (with_reducible refine boxed_at ?_; (focus (first | omega | (simp; done) | (simp; omega)))) | (with_reducible refine alloc_old ?_ ?_; (focus (first | omega | (simp; done) | (simp; omega)))) | (with_reducible refine boxed_old ?_ ?_; (focus (first | omega | (simp; done) | (simp; omega)))) | (with_reducible refine drew_old ?_)))); have hb57 : Below w5.heap.size w5 w7 := (boxed_below ((Below.refl _ _).alloc (Nat.le_refl _) _) (Nat.le_refl _)).trans (hb7.mono (by simp)); have hs57 : w5.heap.size < w7.heap.size := (by have := hb7.size; simp at this; omega); have HB1 := Lib.hid hB1; have HB4 := Lib.hid hB4; have HR7 := Lib.hid hr7; have H57 := Lib.hid hb57; clear hB1 hB4 hb7 hr7 hb57))
    have H7 : Hid (Below w.heap.size w w7) := Lib.hid (H5.out.trans (H57.out.mono H5.out.size))
    have s74 : w5.heap.size < w7.heap.size := hs57
    have s71 : w.heap.size < w7.heap.size := Nat.lt_trans s5 hs57
    have HCV : Hid (∀ w', Below w7.heap.size w7 w' → (convert 34 9 (.slice A4 n4 c4)).run Try.prog w' = .ok (.string (bst x'.bytes)) w') := Lib.hid (fun w' hw => conv_len w' A4 _ c4 n4 _ (HR5.out.below ((H57.out.mono H45.out).trans (hw.mono (Nat.le_trans H45.out H57.out.size)))) HN4.out)
    clear h5 hc0 hc4 hc5 hc6 hc7 hc8 hc9
    refine lane_start (ord := [0, 1, 2, 3, 4, 5, 6, 7, 8, 9, 10, 11, 12, 13, 14, 15, 16, 17, 18]) (S := fun w' => (w'.heap[w5.heap.size]? = some (.cells x'.arr 27 (0, 0)) ∧ w'.heap[w.heap.size]? = some (.cells x'.arr 27 (0, 0))) ∧ (convert 34 9 (.slice A4 n4 c4)).run Try.prog w' = .ok (.string (bst x'.bytes)) w') rfl (by kernel_rfl) ⟨⟨HB4.out, HB1.out⟩, HCV.out _ ((Below.refl _ _).drew)⟩ (fun hHeld => ?_)
    refine lane_alone rfl (by kernel_rfl) (by rfl) (fun K hK => ?_)
    go_simp
    refine (awake_any _).mono ?_
    rintro e w8 ⟨rfl, hb8⟩
    have hb8 : Below w7.heap.size w7 w8 := ((Below.refl _ _).drew).trans hb8
    have h81 := (hb8.block _ s71).trans HB1.out
    have h84 := (hb8.block _ s74).trans HB4.out
    refine hK _ _ ⟨⟨h84, h81⟩, HCV.out _ hb8⟩ (fun hHeld => ?_)
    clear hK K
    refine lane_take (v := ?_) rfl (by kernel_rfl) (by kernel_rfl) (by rfl) ?_ (by assumption) ?_
    rotate_left
    · intro w' hSw
      obtain ⟨_, hc⟩ := hSw
      go_simp
      try (with_reducible rfl)
    simp only [Act.put, List.setIfInBounds_toArray, List.set_cons_zero, List.set_cons_succ]
    refine lane_take (v := ?_) rfl (by kernel_rfl) (by kernel_rfl) (by rfl) ?_ (by assumption) ?_
    rotate_left
    · intro w' hSw
      obtain ⟨_, hc⟩ := hSw
      go_simp
      try (with_reducible rfl)
    simp only [Act.put, List.setIfInBounds_toArray, List.set_cons_zero, List.set_cons_succ]
    refine lane_take (v := ?_) rfl (by kernel_rfl) (by kernel_rfl) (by rfl) ?_ (by assumption) ?_
    rotate_left
    · intro w' hSw
      obtain ⟨_, hc⟩ := hSw
      go_simp
      try (with_reducible rfl)
    simp only [Act.put, List.setIfInBounds_toArray, List.set_cons_zero, List.set_cons_succ]
    refine lane_take (v := ?_) rfl (by kernel_rfl) (by kernel_rfl) (by rfl) ?_ (by assumption) ?_
    rotate_left
    · intro w' hSw
      obtain ⟨_, hc⟩ := hSw
      go_simp
      try (with_reducible rfl)
    simp only [Act.put, List.setIfInBounds_toArray, List.set_cons_zero, List.set_cons_succ]
    refine lane_alone rfl (by kernel_rfl) (by rfl) (fun K hK => ?_)
    go_simp
    refine (packs_any A7 w7.heap.size c7 _ w8 (HR7.out.below hb8) hb8.size HNL.out HNI.out).mono ?_
    intro e w9 hO
    rw [HBY.out] at hO
    obtain ⟨A9, n9, c9, rfl, HN9, _, HL9, HR9, _, _⟩ := hO.open_
    have hb9 := hb8.trans (HL9.out.mono hb8.size)
    have h91 := (hb9.block _ s71).trans HB1.out
    have h94 := (hb9.block _ s74).trans HB4.out
    have hcv9 := conv_len w9 A9 _ c9 n9 _ HR9.out HN9.out
    refine hK _ _ ⟨⟨h94, h91⟩, HCV.out _ hb9⟩ (fun hHeld => ?_)
    clear hK K
    clear h81 h84
    refine lane_alone rfl (by kernel_rfl) (by rfl) (fun K hK => ?_)
    go_simp
    refine hK _ _ hHeld (fun hHeld => ?_)
    clear hK K hcv9
    refine lane_take (v := ?_) rfl (by kernel_rfl) (by kernel_rfl) (by rfl) ?_ (by assumption) ?_
    rotate_left
    · intro w' hSw
      go_simp
      try (with_reducible rfl)
    simp only [Act.put, List.setIfInBounds_toArray, List.set_cons_zero, List.set_cons_succ]
    refine lane_take (v := ?_) rfl (by kernel_rfl) (by kernel_rfl) (by rfl) ?_ (by assumption) ?_
    rotate_left
    · intro w' hSw
      go_simp
      try (with_reducible rfl)
    simp only [Act.put, List.setIfInBounds_toArray, List.set_cons_zero, List.set_cons_succ]
    refine lane_take (v := ?_) rfl (by kernel_rfl) (by kernel_rfl) (by rfl) ?_ (by assumption) ?_
    rotate_left
    · intro w' hSw
      go_simp
      try (with_reducible rfl)
    simp only [Act.put, List.setIfInBounds_toArray, List.set_cons_zero, List.set_cons_succ]
    refine lane_take (v := ?_) rfl (by kernel_rfl) (by kernel_rfl) (by rfl) ?_ (by assumption) ?_
    rotate_left
    · intro w' hSw
      go_simp
      try (with_reducible rfl)
    simp only [Act.put, List.setIfInBounds_toArray, List.set_cons_zero, List.set_cons_succ]
    refine lane_take (v := ?_) rfl (by kernel_rfl) (by kernel_rfl) (by rfl) ?_ (by assumption) ?_
    rotate_left
    · intro w' hSw
      go_simp
      try (with_reducible rfl)
    simp only [Act.put, List.setIfInBounds_toArray, List.set_cons_zero, List.set_cons_succ]
    refine lane_take (v := ?_) rfl (by kernel_rfl) (by kernel_rfl) (by rfl) ?_ (by assumption) ?_
    rotate_left
    · intro w' hSw
      go_simp
      try (with_reducible rfl)
    simp only [Act.put, List.setIfInBounds_toArray, List.set_cons_zero, List.set_cons_succ]
    refine lane_take (v := ?_) rfl (by kernel_rfl) (by kernel_rfl) (by rfl) ?_ (by assumption) ?_
    rotate_left
    · intro w' hSw
      go_simp
      try (with_reducible rfl)
    simp only [Act.put, List.setIfInBounds_toArray, List.set_cons_zero, List.set_cons_succ]
    refine lane_take rfl (by kernel_rfl) (by kernel_rfl) (by rfl) (fun w' hS => exec_load rfl rfl (ld16 hS.1.1 rfl)) (by assumption) ?_
    simp only [Act.put, List.setIfInBounds_toArray, List.set_cons_zero, List.set_cons_succ]
    refine lane_take rfl (by kernel_rfl) (by kernel_rfl) (by rfl) (fun w' hS => exec_load rfl rfl (ld16 hS.1.2 rfl)) (by assumption) ?_
    simp only [Act.put, List.setIfInBounds_toArray, List.set_cons_zero, List.set_cons_succ]
    refine lane_take rfl (by kernel_rfl) (by kernel_rfl) (by rfl) (fun w' hS => exec_eql16' (decide_eq_true rfl) rfl rfl rfl w') (by assumption) ?_
    simp only [Act.put, List.setIfInBounds_toArray, List.set_cons_zero, List.set_cons_succ]
    repeat (first
      | (refine lane_skip rfl (by kernel_rfl) (by kernel_rfl) (by rfl) (by assumption) ?_; simp only [Act.put, List.setIfInBounds_toArray, List.set_cons_zero, List.set_cons_succ])
      | (refine lane_take (v := ?_) rfl (by kernel_rfl) (by kernel_rfl) (by rfl) ?_ (by assumption) ?_; rotate_left; (focus (intro w' hSw; go_simp; try (with_reducible rfl))); simp only [Act.put, List.setIfInBounds_toArray, List.set_cons_zero, List.set_cons_succ]))
    refine lane_end (by kernel_rfl) ?_
    clear hHeld
    have HF := Lib.hid (H7.out.trans (hb9.mono H7.out.size))
    clear h91 h94 hb8 hb9
    go_wp2
    go_ret
    exact ⟨rfl, HF.out⟩

set_option maxHeartbeats 4000000 in
theorem orderBytes_1_tt (o : Ov) (ho : o.Wf) (hk : o.near.k = 1) (hg : o.near.P.g = true) (hl : o.near.P.l = true) (w : World) : Calls Try.prog 4 #[.agg o.arr] w fun e w' => e = .returned (.bool true) ∧ Below w.heap.size w w' := by
  have HNA := Lib.hid (near_o o ho)
  have wx := o.near_wf ho
  have rx := o.near_right
  have HE0 := Lib.hid (fun w => enc_o o ho.2.2.2.2.1.2.1.1 w)
  have HX := Lib.hid (fun w => enc_o o.near wx.2.2.2.2.1.2.1.1 w)
  rw [o.out_near] at HX
  clear ho
  generalize o.near = x at *
  have hn : nm x.k = 1 := by rw [hk]; rfl
  have hby : Pk.encs (1 :: [x.P.a, x.P.u, x.P.e, x.P.t, 1, 1]) = x.bytes := by
    unfold Ov.bytes
    rw [Ov.rest_one hn, hk, Pk.encs_cons]
    rw [hg, hl]; rfl
  have HBY := Lib.hid hby
  have hle := x.len wx rx
  have HLE := Lib.hid hle.2
  have hni : I64 (1 :: [x.P.a, x.P.u, x.P.e, x.P.t, 1, 1]) := by
    have hN := (right_zero rx).1
    have hb := pn_zero ((right_zero rx).2.2 hk)
    have hu := wx.2.2.2.2.1.2.1.1
    intro y hy; simp only [List.mem_cons, List.not_mem_nil, or_false] at hy; rcases hy with rfl | rfl | rfl | rfl | rfl | rfl | rfl <;> omega
  have HNI := Lib.hid hni
  have HNL : Hid ((1 :: [x.P.a, x.P.u, x.P.e, x.P.t, 1, 1] : List Int).length ≤ 1000) := Lib.hid (by simp)
  have HK := Lib.hid hk
  have HRX := Lib.hid rx
  have HWX := Lib.hid wx
  have hwk : IntKind.i64.wrap 1 = 1 := by simp only [IntKind.wrap_i64]; omega
  have hwu : IntKind.i64.wrap x.P.u = x.P.u := by have := wx.2.2.2.2.1.2.1; simp only [IntKind.wrap_i64]; omega
  have HGV := Lib.hid hg
  have HLV := Lib.hid hl
  clear hn hby hle hni hk rx wx hg hl
  obtain ⟨X, hX⟩ : ∃ X, o.right = X := ⟨_, rfl⟩
  have HXV := Lib.hid hX
  clear hX
  go_enter Try.func4, Try.ntmps4
  go_wp2_with (first | ((with_reducible_and_instances (show wpList _ _ _ (Oper.mk _ (Op.load 27 _) _ _ _ _ :: _) _ _)); refine wl_load Try.underlying27 rfl info16 rfl rfl rfl (by (repeat (first | assumption | (with_reducible refine alloc_at ?_; (focus (first | omega | (simp; done) | (simp; omega)))) | (with_reducible refine boxed_at ?_; (focus (first | omega | (simp; done) | (simp; omega)))) | (with_reducible refine alloc_old ?_ ?_; (focus (first | omega | (simp; done) | (simp; omega)))) | (with_reducible refine boxed_old ?_ ?_; (focus (first | omega | (simp; done) | (simp; omega)))) | (with_reducible refine drew_old ?_)))) (by rfl) ?_) | ((with_reducible_and_instances (show wpList _ _ _ (Oper.mk _ (Op.store 27 _ _) _ _ _ _ :: _) _ _)); refine wl_store info16 rfl rfl rfl rfl (by (repeat (first | assumption | (with_reducible refine alloc_at ?_; (focus (first | omega | (simp; done) | (simp; omega)))) | (with_reducible refine boxed_at ?_; (focus (first | omega | (simp; done) | (simp; omega)))) | (with_reducible refine alloc_old ?_ ?_; (focus (first | omega | (simp; done) | (simp; omega)))) | (with_reducible refine boxed_old ?_ ?_; (focus (first | omega | (simp; done) | (simp; omega)))) | (with_reducible refine drew_old ?_)))) (by rfl) (by rfl) (by first | exact Ov.arr_one _ | (rw [← hz]; exact Ov.arr_one _) | simp [Value.oneCell']) ?_))
  refine (lright_o o _).mono ?_
  rw [HXV.out]
  rintro e w1 ⟨rfl, hb1⟩
  have h1 : w1.heap[w.heap.size]? = some (.cells o.arr 27 (0, 0)) := (hb1.block _ (by simp)).trans alloc_block
  have H1 : Hid (Below w.heap.size w w1) := Lib.hid (((Below.refl _ w).alloc (Nat.le_refl _) _).trans (hb1.mono (by first | omega | (simp; done) | (simp; omega))))
  have s1 : w.heap.size < w1.heap.size := by have := hb1.size; simp at this; omega
  clear hb1
  by_cases d : X = 0
  case' pos =>
    subst d
    have H2 := H1
    have h2 := h1
    have s2 := s1
    obtain ⟨w2, e2⟩ : ∃ w2, w2 = w1 := ⟨_, rfl⟩
    rw [← e2] at H2 h2 s2 ⊢
    clear e2 H1 h1 s1
    go_wp2_with (first | ((with_reducible_and_instances (show wpList _ _ _ (Oper.mk _ (Op.load 27 _) _ _ _ _ :: _) _ _)); refine wl_load Try.underlying27 rfl info16 rfl rfl rfl (by (repeat (first | assumption | (with_reducible refine alloc_at ?_; (focus (first | omega | (simp; done) | (simp; omega)))) | (with_reducible refine boxed_at ?_; (focus (first | omega | (simp; done) | (simp; omega)))) | (with_reducible refine alloc_old ?_ ?_; (focus (first | omega | (simp; done) | (simp; omega)))) | (with_reducible refine boxed_old ?_ ?_; (focus (first | omega | (simp; done) | (simp; omega)))) | (with_reducible refine drew_old ?_)))) (by rfl) ?_) | ((with_reducible_and_instances (show wpList _ _ _ (Oper.mk _ (Op.store 27 _ _) _ _ _ _ :: _) _ _)); refine wl_store info16 rfl rfl rfl rfl (by (repeat (first | assumption | (with_reducible refine alloc_at ?_; (focus (first | omega | (simp; done) | (simp; omega)))) | (with_reducible refine boxed_at ?_; (focus (first | omega | (simp; done) | (simp; omega)))) | (with_reducible refine alloc_old ?_ ?_; (focus (first | omega | (simp; done) | (simp; omega)))) | (with_reducible refine boxed_old ?_ ?_; (focus (first | omega | (simp; done) | (simp; omega)))) | (with_reducible refine drew_old ?_)))) (by rfl) (by rfl) (by first | exact Ov.arr_one _ | (rw [← hz]; exact Ov.arr_one _) | simp [Value.oneCell']) ?_))
  case' neg =>
    have z : (X != 0) = true := by simpa using d
    have HO : Hid (∀ w, Calls Try.prog 17 #[.agg o.arr] w (Owned w [])) := Lib.hid (by
      have := HE0.out
      unfold Ov.out at this
      rw [HXV.out, if_neg d] at this
      exact this)
    clear d
    go_wp2_with (first | ((with_reducible_and_instances (show wpList _ _ _ (Oper.mk _ (Op.load 27 _) _ _ _ _ :: _) _ _)); refine wl_load Try.underlying27 rfl info16 rfl rfl rfl (by (repeat (first | assumption | (with_reducible refine alloc_at ?_; (focus (first | omega | (simp; done) | (simp; omega)))) | (with_reducible refine boxed_at ?_; (focus (first | omega | (simp; done) | (simp; omega)))) | (with_reducible refine alloc_old ?_ ?_; (focus (first | omega | (simp; done) | (simp; omega)))) | (with_reducible refine boxed_old ?_ ?_; (focus (first | omega | (simp; done) | (simp; omega)))) | (with_reducible refine drew_old ?_)))) (by rfl) ?_) | ((with_reducible_and_instances (show wpList _ _ _ (Oper.mk _ (Op.store 27 _ _) _ _ _ _ :: _) _ _)); refine wl_store info16 rfl rfl rfl rfl (by (repeat (first | assumption | (with_reducible refine alloc_at ?_; (focus (first | omega | (simp; done) | (simp; omega)))) | (with_reducible refine boxed_at ?_; (focus (first | omega | (simp; done) | (simp; omega)))) | (with_reducible refine alloc_old ?_ ?_; (focus (first | omega | (simp; done) | (simp; omega)))) | (with_reducible refine boxed_old ?_ ?_; (focus (first | omega | (simp; done) | (simp; omega)))) | (with_reducible refine drew_old ?_)))) (by rfl) (by rfl) (by first | exact Ov.arr_one _ | (rw [← hz]; exact Ov.arr_one _) | simp [Value.oneCell']) ?_))
    refine (HO.out _).mono ?_
    intro e w2 hO
    obtain ⟨A2, c2, rfl, HB2⟩ := hO.open_nil
    have h2 : w2.heap[w.heap.size]? = some (.cells o.arr 27 (0, 0)) := (HB2.out.block _ s1).trans h1
    have H2 : Hid (Below w.heap.size w w2) := Lib.hid (H1.out.trans (HB2.out.mono H1.out.size))
    have s2 : w.heap.size < w2.heap.size := Nat.lt_of_lt_of_le s1 HB2.out.size
    clear hO HB2 H1 h1 s1
    go_wp2_with (first | ((with_reducible_and_instances (show wpList _ _ _ (Oper.mk _ (Op.load 27 _) _ _ _ _ :: _) _ _)); refine wl_load Try.underlying27 rfl info16 rfl rfl rfl (by (repeat (first | assumption | (with_reducible refine alloc_at ?_; (focus (first | omega | (simp; done) | (simp; omega)))) | (with_reducible refine boxed_at ?_; (focus (first | omega | (simp; done) | (simp; omega)))) | (with_reducible refine alloc_old ?_ ?_; (focus (first | omega | (simp; done) | (simp; omega)))) | (with_reducible refine boxed_old ?_ ?_; (focus (first | omega | (simp; done) | (simp; omega)))) | (with_reducible refine drew_old ?_)))) (by rfl) ?_) | ((with_reducible_and_instances (show wpList _ _ _ (Oper.mk _ (Op.store 27 _ _) _ _ _ _ :: _) _ _)); refine wl_store info16 rfl rfl rfl rfl (by (repeat (first | assumption | (with_reducible refine alloc_at ?_; (focus (first | omega | (simp; done) | (simp; omega)))) | (with_reducible refine boxed_at ?_; (focus (first | omega | (simp; done) | (simp; omega)))) | (with_reducible refine alloc_old ?_ ?_; (focus (first | omega | (simp; done) | (simp; omega)))) | (with_reducible refine boxed_old ?_ ?_; (focus (first | omega | (simp; done) | (simp; omega)))) | (with_reducible refine drew_old ?_)))) (by rfl) (by rfl) (by first | exact Ov.arr_one _ | (rw [← hz]; exact Ov.arr_one _) | simp [Value.oneCell']) ?_))
  all_goals
    refine (HNA.out _).mono ?_
    rintro e w3 ⟨rfl, hb3⟩
    have h3 : w3.heap[w.heap.size]? = some (.cells o.arr 27 (0, 0)) := (hb3.block _ s2).trans h2
    have H3 : Hid (Below w.heap.size w w3) := Lib.hid (H2.out.trans (hb3.mono H2.out.size))
    have s3 : w.heap.size < w3.heap.size := Nat.lt_of_lt_of_le s2 hb3.size
    clear hb3 H2 h2 s2
    go_wp2_with (first | ((with_reducible_and_instances (show wpList _ _ _ (Oper.mk _ (Op.load 27 _) _ _ _ _ :: _) _ _)); refine wl_load Try.underlying27 rfl info16 rfl rfl rfl (by (repeat (first | assumption | (with_reducible refine alloc_at ?_; (focus (first | omega | (simp; done) | (simp; omega)))) | (with_reducible refine boxed_at ?_; (focus (first | omega | (simp; done) | (simp; omega)))) | (with_reducible refine alloc_old ?_ ?_; (focus (first | omega | (simp; done) | (simp; omega)))) | (with_reducible refine boxed_old ?_ ?_; (focus (first | omega | (simp; done) | (simp; omega)))) | (with_reducible refine drew_old ?_)))) (by rfl) ?_) | ((with_reducible_and_instances (show wpList _ _ _ (Oper.mk _ (Op.store 27 _ _) _ _ _ _ :: _) _ _)); refine wl_store info16 rfl rfl rfl rfl (by (repeat (first | assumption | (with_reducible refine alloc_at ?_; (focus (first | omega | (simp; done) | (simp; omega)))) | (with_reducible refine boxed_at ?_; (focus (first | omega | (simp; done) | (simp; omega)))) | (with_reducible refine alloc_old ?_ ?_; (focus (first | omega | (simp; done) | (simp; omega)))) | (with_reducible refine boxed_old ?_ ?_; (focus (first | omega | (simp; done) | (simp; omega)))) | (with_reducible refine drew_old ?_)))) (by rfl) (by rfl) (by first | exact Ov.arr_one _ | (rw [← hz]; exact Ov.arr_one _) | simp [Value.oneCell']) ?_))
    refine (HX.out _).mono ?_
    intro e w4 hO
    obtain ⟨A4, n4, c4, rfl, HN4, HO4, HB4, HR4, h41, h42⟩ := hO.open_
    have h4 : w4.heap[w.heap.size]? = some (.cells x.arr 27 (0, 0)) := (HB4.out.block _ (by rw [boxed_size]; exact s3)).trans (boxed_block s3)
    have H4 : Hid (Below w.heap.size w w4) := Lib.hid ((boxed_below H3.out (Nat.le_refl _)).trans (HB4.out.mono (by rw [boxed_size]; exact Nat.le_of_lt s3)))
    have s4 : w.heap.size < w4.heap.size := Nat.lt_of_lt_of_le s3 (by have := HB4.out.size; rwa [boxed_size] at this)
    clear hO HB4 H3 h3 s3 HO4
    go_wp2_with (first | ((with_reducible_and_instances (show wpList _ _ _ (Oper.mk _ (Op.load 27 _) _ _ _ _ :: _) _ _)); refine wl_load Try.underlying27 rfl info16 rfl rfl rfl (by (repeat (first | assumption | (with_reducible refine alloc_at ?_; (focus (first | omega | (simp; done) | (simp; omega)))) | (with_reducible refine boxed_at ?_; (focus (first | omega | (simp; done) | (simp; omega)))) | (with_reducible refine alloc_old ?_ ?_; (focus (first | omega | (simp; done) | (simp; omega)))) | (with_reducible refine boxed_old ?_ ?_; (focus (first | omega | (simp; done) | (simp; omega)))) | (with_reducible refine drew_old ?_)))) (by rfl) ?_) | ((with_reducible_and_instances (show wpList _ _ _ (Oper.mk _ (Op.store 27 _ _) _ _ _ _ :: _) _ _)); refine wl_store info16 rfl rfl rfl rfl (by (repeat (first | assumption | (with_reducible refine alloc_at ?_; (focus (first | omega | (simp; done) | (simp; omega)))) | (with_reducible refine boxed_at ?_; (focus (first | omega | (simp; done) | (simp; omega)))) | (with_reducible refine alloc_old ?_ ?_; (focus (first | omega | (simp; done) | (simp; omega)))) | (with_reducible refine boxed_old ?_ ?_; (focus (first | omega | (simp; done) | (simp; omega)))) | (with_reducible refine drew_old ?_)))) (by rfl) (by rfl) (by first | exact Ov.arr_one _ | (rw [← hz]; exact Ov.arr_one _) | simp [Value.oneCell']) ?_))
    refine (decode_any w4 A4 n4 c4 x.bytes HR4.out (Nat.le_trans HLE.out (by omega)) (fun y hy => by have := x.bytes_ok y hy; omega) HN4.out).mono ?_
    rintro e w5 ⟨x', e', rfl, hd, hb5⟩
    obtain ⟨rfl, rfl⟩ := hd.is HRX.out HWX.out
    rw [Ov.val_arr]
    have h5 : w5.heap[w.heap.size]? = some (.cells x'.arr 27 (0, 0)) := (hb5.block _ s4).trans h4
    have H5 : Hid (Below w.heap.size w w5) := Lib.hid (H4.out.trans (hb5.mono H4.out.size))
    have s5 : w.heap.size < w5.heap.size := Nat.lt_of_lt_of_le s4 hb5.size
    have HR5 : Hid (Rd w5 .u8 w4.heap.size A4 x'.bytes) := Lib.hid (HR4.out.below hb5)
    have H45 := Lib.hid hb5.size
    have hc0 : w5.cell? ⟨w.heap.size, 0, none⟩ = some (.int .u8 1) := by rw [cell_of_row _ _ 0 _ _ _ h5, ← HK.out]; rfl
    have hc4 : w5.cell? ⟨w.heap.size, 4, none⟩ = some (.int .i64 x'.P.a) := cell_of_row _ _ 4 _ _ _ h5
    have hc5 : w5.cell? ⟨w.heap.size, 5, none⟩ = some (.int .u8 x'.P.u) := cell_of_row _ _ 5 _ _ _ h5
    have hc6 : w5.cell? ⟨w.heap.size, 6, none⟩ = some (.int .i64 x'.P.e) := cell_of_row _ _ 6 _ _ _ h5
    have hc7 : w5.cell? ⟨w.heap.size, 7, none⟩ = some (.int .i64 x'.P.t) := cell_of_row _ _ 7 _ _ _ h5
    have hc8 : w5.cell? ⟨w.heap.size, 8, none⟩ = some (.bool true) := by rw [cell_of_row _ _ 8 _ _ _ h5, ← HGV.out]; rfl
    have hc9 : w5.cell? ⟨w.heap.size, 9, none⟩ = some (.bool true) := by rw [cell_of_row _ _ 9 _ _ _ h5, ← HLV.out]; rfl
    clear hd hb5 H4 h4 s4
    go_wp2_with (first | ((with_reducible_and_instances (show wpList _ _ _ (Oper.mk _ (Op.load 27 _) _ _ _ _ :: _) _ _)); refine wl_load Try.underlying27 rfl info16 rfl rfl rfl (by (repeat (first | assumption | (with_reducible refine alloc_at ?_; (focus (first | omega | (simp; done) | (simp; omega)))) | (with_reducible refine boxed_at ?_; (focus (first | omega | (simp; done) | (simp; omega)))) | (with_reducible refine alloc_old ?_ ?_; (focus (first | omega | (simp; done) | (simp; omega)))) | (with_reducible refine boxed_old ?_ ?_; (focus (first | omega | (simp; done) | (simp; omega)))) | (with_reducible refine drew_old ?_)))) (by rfl) ?_) | ((with_reducible_and_instances (show wpList _ _ _ (Oper.mk _ (Op.store 27 _ _) _ _ _ _ :: _) _ _)); refine wl_store info16 rfl rfl rfl rfl (by (repeat (first | assumption | (with_reducible refine alloc_at ?_; (focus (first | omega | (simp; done) | (simp; omega)))) | (with_reducible refine boxed_at ?_; (focus (first | omega | (simp; done) | (simp; omega)))) | (with_reducible refine alloc_old ?_ ?_; (focus (first | omega | (simp; done) | (simp; omega)))) | (with_reducible refine boxed_old ?_ ?_; (focus (first | omega | (simp; done) | (simp; omega)))) | (with_reducible refine drew_old ?_)))) (by rfl) (by rfl) (by first | exact Ov.arr_one _ | (rw [← hz]; exact Ov.arr_one _) | simp [Value.oneCell']) ?_) | (at_builtin; refine wpList_append_lits rfl _ _ rfl rfl _ _ 1 [x'.P.a, x'.P.u, x'.P.e, x'.P.t, 1, 1] _ _ 6 rfl rfl (by simp) (by simp) rfl rfl rfl (by omega) ?_; intro A7 c7 w7 hb7 hr7; have hB1 := (hb7.block w.heap.size (by simp; omega)).trans (show _ = some (Obj.cells x'.arr 27 (0, 0)) by (repeat (first | assumption | (with_reducible refine alloc_at ?_; (focus (first | omega | (simp; done) | (simp; omega)))) | (with_reducible refine boxed_at ?_; (focus (first | omega | (simp; done) | (simp; omega)))) | (with_reducible refine alloc_old ?_ ?_; (focus (first | omega | (simp; done) | (simp; omega)))) | (with_reducible refine boxed_old ?_ ?_; (focus (first | omega | (simp; done) | (simp; omega)))) | (with_reducible refine drew_old ?_)))); have hB4 := (hb7.block w5.heap.size (by simp)).trans (show _ = some (Obj.cells x'.arr 27 (0, 0)) by (repeat (first | assumption | (with_reducible refine alloc_at ?_; (focus (first | omega | (simp; done) | (simp; omega)))) | (with_reducible refine boxed_at ?_; (focus (first | omega | (simp; done) | (simp; omega)))) | (with_reducible refine alloc_old ?_ ?_; (focus (first | omega | (simp; done) | (simp; omega)))) | (with_reducible refine boxed_old ?_ ?_; (focus (first | omega | (simp; done) | (simp; omega)))) | (with_reducible refine drew_old ?_)))); have hb57 : Below w5.heap.size w5 w7 := (boxed_below ((Below.refl _ _).alloc (Nat.le_refl _) _) (Nat.le_refl _)).trans (hb7.mono (by simp)); have hs57 : w5.heap.size < w7.heap.size := (by have := hb7.size; simp at this; omega); have HB1 := Lib.hid hB1; have HB4 := Lib.hid hB4; have HR7 := Lib.hid hr7; have H57 := Lib.hid hb57; clear hB1 hB4 hb7 hr7 hb57))
    have H7 : Hid (Below w.heap.size w w7) := Lib.hid (H5.out.trans (H57.out.mono H5.out.size))
    have s74 : w5.heap.size < w7.heap.size := hs57
    have s71 : w.heap.size < w7.heap.size := Nat.lt_trans s5 hs57
    have HCV : Hid (∀ w', Below w7.heap.size w7 w' → (convert 34 9 (.slice A4 n4 c4)).run Try.prog w' = .ok (.string (bst x'.bytes)) w') := Lib.hid (fun w' hw => conv_len w' A4 _ c4 n4 _ (HR5.out.below ((H57.out.mono H45.out).trans (hw.mono (Nat.le_trans H45.out H57.out.size)))) HN4.out)
    clear h5 hc0 hc4 hc5 hc6 hc7 hc8 hc9
    refine lane_start (ord := [0, 1, 2, 3, 4, 5, 6, 7, 8, 9, 10, 11, 12, 13, 14, 15, 16, 17, 18]) (S := fun w' => (w'.heap[w5.heap.size]? = some (.cells x'.arr 27 (0, 0)) ∧ w'.heap[w.heap.size]? = some (.cells x'.arr 27 (0, 0))) ∧ (convert 34 9 (.slice A4 n4 c4)).run Try.prog w' = .ok (.string (bst x'.bytes)) w') rfl (by kernel_rfl) ⟨⟨HB4.out, HB1.out⟩, HCV.out _ ((Below.refl _ _).drew)⟩ (fun hHeld => ?_)
    refine lane_alone rfl (by kernel_rfl) (by rfl) (fun K hK => ?_)
    go_simp
    refine (awake_any _).mono ?_
    rintro e w8 ⟨rfl, hb8⟩
    have hb8 : Below w7.heap.size w7 w8 := ((Below.refl _ _).drew).trans hb8
    have h81 := (hb8.block _ s71).trans HB1.out
    have h84 := (hb8.block _ s74).trans HB4.out
    refine hK _ _ ⟨⟨h84, h81⟩, HCV.out _ hb8⟩ (fun hHeld => ?_)
    clear hK K
    refine lane_take (v := ?_) rfl (by kernel_rfl) (by kernel_rfl) (by rfl) ?_ (by assumption) ?_
    rotate_left
    · intro w' hSw
      obtain ⟨_, hc⟩ := hSw
      go_simp
      try (with_reducible rfl)
    simp only [Act.put, List.setIfInBounds_toArray, List.set_cons_zero, List.set_cons_succ]
    refine lane_take (v := ?_) rfl (by kernel_rfl) (by kernel_rfl) (by rfl) ?_ (by assumption) ?_
    rotate_left
    · intro w' hSw
      obtain ⟨_, hc⟩ := hSw
      go_simp
      try (with_reducible rfl)
    simp only [Act.put, List.setIfInBounds_toArray, List.set_cons_zero, List.set_cons_succ]
    refine lane_take (v := ?_) rfl (by kernel_rfl) (by kernel_rfl) (by rfl) ?_ (by assumption) ?_
    rotate_left
    · intro w' hSw
      obtain ⟨_, hc⟩ := hSw
      go_simp
      try (with_reducible rfl)
    simp only [Act.put, List.setIfInBounds_toArray, List.set_cons_zero, List.set_cons_succ]
    refine lane_take (v := ?_) rfl (by kernel_rfl) (by kernel_rfl) (by rfl) ?_ (by assumption) ?_
    rotate_left
    · intro w' hSw
      obtain ⟨_, hc⟩ := hSw
      go_simp
      try (with_reducible rfl)
    simp only [Act.put, List.setIfInBounds_toArray, List.set_cons_zero, List.set_cons_succ]
    refine lane_alone rfl (by kernel_rfl) (by rfl) (fun K hK => ?_)
    go_simp
    refine (packs_any A7 w7.heap.size c7 _ w8 (HR7.out.below hb8) hb8.size HNL.out HNI.out).mono ?_
    intro e w9 hO
    rw [HBY.out] at hO
    obtain ⟨A9, n9, c9, rfl, HN9, _, HL9, HR9, _, _⟩ := hO.open_
    have hb9 := hb8.trans (HL9.out.mono hb8.size)
    have h91 := (hb9.block _ s71).trans HB1.out
    have h94 := (hb9.block _ s74).trans HB4.out
    have hcv9 := conv_len w9 A9 _ c9 n9 _ HR9.out HN9.out
    refine hK _ _ ⟨⟨h94, h91⟩, HCV.out _ hb9⟩ (fun hHeld => ?_)
    clear hK K
    clear h81 h84
    refine lane_alone rfl (by kernel_rfl) (by rfl) (fun K hK => ?_)
    go_simp
    refine hK _ _ hHeld (fun hHeld => ?_)
    clear hK K hcv9
    refine lane_take (v := ?_) rfl (by kernel_rfl) (by kernel_rfl) (by rfl) ?_ (by assumption) ?_
    rotate_left
    · intro w' hSw
      go_simp
      try (with_reducible rfl)
    simp only [Act.put, List.setIfInBounds_toArray, List.set_cons_zero, List.set_cons_succ]
    refine lane_take (v := ?_) rfl (by kernel_rfl) (by kernel_rfl) (by rfl) ?_ (by assumption) ?_
    rotate_left
    · intro w' hSw
      go_simp
      try (with_reducible rfl)
    simp only [Act.put, List.setIfInBounds_toArray, List.set_cons_zero, List.set_cons_succ]
    refine lane_take (v := ?_) rfl (by kernel_rfl) (by kernel_rfl) (by rfl) ?_ (by assumption) ?_
    rotate_left
    · intro w' hSw
      go_simp
      try (with_reducible rfl)
    simp only [Act.put, List.setIfInBounds_toArray, List.set_cons_zero, List.set_cons_succ]
    refine lane_take (v := ?_) rfl (by kernel_rfl) (by kernel_rfl) (by rfl) ?_ (by assumption) ?_
    rotate_left
    · intro w' hSw
      go_simp
      try (with_reducible rfl)
    simp only [Act.put, List.setIfInBounds_toArray, List.set_cons_zero, List.set_cons_succ]
    refine lane_take (v := ?_) rfl (by kernel_rfl) (by kernel_rfl) (by rfl) ?_ (by assumption) ?_
    rotate_left
    · intro w' hSw
      go_simp
      try (with_reducible rfl)
    simp only [Act.put, List.setIfInBounds_toArray, List.set_cons_zero, List.set_cons_succ]
    refine lane_take (v := ?_) rfl (by kernel_rfl) (by kernel_rfl) (by rfl) ?_ (by assumption) ?_
    rotate_left
    · intro w' hSw
      go_simp
      try (with_reducible rfl)
    simp only [Act.put, List.setIfInBounds_toArray, List.set_cons_zero, List.set_cons_succ]
    refine lane_take (v := ?_) rfl (by kernel_rfl) (by kernel_rfl) (by rfl) ?_ (by assumption) ?_
    rotate_left
    · intro w' hSw
      go_simp
      try (with_reducible rfl)
    simp only [Act.put, List.setIfInBounds_toArray, List.set_cons_zero, List.set_cons_succ]
    refine lane_take rfl (by kernel_rfl) (by kernel_rfl) (by rfl) (fun w' hS => exec_load rfl rfl (ld16 hS.1.1 rfl)) (by assumption) ?_
    simp only [Act.put, List.setIfInBounds_toArray, List.set_cons_zero, List.set_cons_succ]
    refine lane_take rfl (by kernel_rfl) (by kernel_rfl) (by rfl) (fun w' hS => exec_load rfl rfl (ld16 hS.1.2 rfl)) (by assumption) ?_
    simp only [Act.put, List.setIfInBounds_toArray, List.set_cons_zero, List.set_cons_succ]
    refine lane_take rfl (by kernel_rfl) (by kernel_rfl) (by rfl) (fun w' hS => exec_eql16' (decide_eq_true rfl) rfl rfl rfl w') (by assumption) ?_
    simp only [Act.put, List.setIfInBounds_toArray, List.set_cons_zero, List.set_cons_succ]
    repeat (first
      | (refine lane_skip rfl (by kernel_rfl) (by kernel_rfl) (by rfl) (by assumption) ?_; simp only [Act.put, List.setIfInBounds_toArray, List.set_cons_zero, List.set_cons_succ])
      | (refine lane_take (v := ?_) rfl (by kernel_rfl) (by kernel_rfl) (by rfl) ?_ (by assumption) ?_; rotate_left; (focus (intro w' hSw; go_simp; try (with_reducible rfl))); simp only [Act.put, List.setIfInBounds_toArray, List.set_cons_zero, List.set_cons_succ]))
    refine lane_end (by kernel_rfl) ?_
    clear hHeld
    have HF := Lib.hid (H7.out.trans (hb9.mono H7.out.size))
    clear h91 h94 hb8 hb9
    go_wp2
    go_ret
    exact ⟨rfl, HF.out⟩

end Go.Proofs.Ytambppcnmggocaa
