/-
  The walk of the law OrderApart: it returns true, whatever the input, and makes new blocks alone. No conditions.
-/
import Derived.Test.YtambppcnmggocaaOrA
namespace Go.Proofs.Ytambppcnmggocaa
set_option maxRecDepth 20000
open Go.ChangeShapes Go.WideShapes Go.ChangeAt Go.RowKit

theorem Ov.rest_one {o : Ov} (h : nm o.k = 1) : o.rest = Pk.encs [o.P.a, o.P.u, o.P.e, o.P.t, Pn.one o.P.g, Pn.one o.P.l] := by unfold Ov.rest; rw [if_pos h, Pn.bytes_eq]
theorem Ov.rest_two {o : Ov} (h : nm o.k = 2) : o.rest = Pk.encs [o.s, o.p] := by unfold Ov.rest; simp only [h, Int.reduceEq, if_true, if_false]
theorem Ov.rest_three {o : Ov} (h : nm o.k = 3) : o.rest = Pk.encs [o.s] := by unfold Ov.rest; simp only [h, Int.reduceEq, if_true, if_false]
theorem Ov.rest_four {o : Ov} (h : nm o.k = 4) : o.rest = Pk.encs [o.n] := by unfold Ov.rest; simp only [h, Int.reduceEq, if_true, if_false]
theorem Ov.rest_five {o : Ov} (h : nm o.k = 5) : o.rest = Pk.encs [o.A.k, o.A.s, o.A.c, o.A.t, o.A.a, o.A.v] := by unfold Ov.rest Nv.bytes; simp only [h, Int.reduceEq, if_true, if_false]
theorem one_inj {a b : Bool} (h : Pn.one a = Pn.one b) : a = b := by cases a <;> cases b <;> simp [Pn.one] at h ⊢
/-- Unlike orders have unlike bytes. -/
theorem Ov.bytes_inj {x z : Ov} (hx : x.right = 0) (hz : z.right = 0) (wx : x.Wf) (wz : z.Wf) (h : x.bytes = z.bytes) : x = z := by
  obtain ⟨nx, ex, px⟩ := right_zero hx
  obtain ⟨nz, ez, pz⟩ := right_zero hz
  have kx := num_range nx
  have kz := num_range nz
  unfold Ov.bytes at h
  have d1 := Pk.dec_zig x.k x.rest (by omega) (by omega)
  rw [h, Pk.dec_zig z.k z.rest (by omega) (by omega)] at d1
  injection d1 with e1 _
  have e1 := e1.symm
  have h : x.rest = z.rest := by rw [e1] at h; exact List.append_cancel_left h
  obtain ⟨k, s, p, n, ⟨a, u, e, t, g, l⟩, ⟨K, S, C, T, M, V⟩⟩ := x
  obtain ⟨k', s', p', n', ⟨a', u', e', t', g', l'⟩, ⟨K', S', C', T', M', V'⟩⟩ := z
  dsimp only at e1
  subst e1
  rw [ex, ez]
  refine nm_ways k (fun hn _ => absurd (num_0 hn nx) id) (fun hn hk => ?_) (fun hn _ => ?_) (fun hn _ => ?_) (fun hn _ => ?_) (fun hn _ => ?_)
  · have b1 := pn_zero (px hk)
    have b2 := pn_zero (pz hk)
    have u1 := wx.2.2.2.2.1.2.1.1
    have u2 := wz.2.2.2.2.1.2.1.1
    have o1 := Pn.one_ok g
    have o2 := Pn.one_ok g'
    have o3 := Pn.one_ok l
    have o4 := Pn.one_ok l'
    dsimp only at b1 b2 u1 u2
    rw [Ov.rest_one hn, Ov.rest_one hn] at h
    have := Pk.encs_inj [a, u, e, t, Pn.one g, Pn.one l] [a', u', e', t', Pn.one g', Pn.one l'] rfl (by intro x hx; simp only [List.mem_cons, List.not_mem_nil, or_false] at hx; rcases hx with rfl | rfl | rfl | rfl | rfl | rfl <;> omega) (by intro x hx; simp only [List.mem_cons, List.not_mem_nil, or_false] at hx; rcases hx with rfl | rfl | rfl | rfl | rfl | rfl <;> omega) h
    simp only [List.cons.injEq, and_true] at this
    obtain ⟨rfl, rfl, rfl, rfl, h5, h6⟩ := this
    rw [one_inj h5, one_inj h6]
    unfold Ov.named; simp only [hn, Int.reduceEq, if_true, if_false]
  · have b1 := num_2 hn nx
    have b2 := num_2 hn nz
    dsimp only at b1 b2
    rw [Ov.rest_two hn, Ov.rest_two hn] at h
    have := Pk.encs_inj [s, p] [s', p'] rfl (by intro x hx; simp only [List.mem_cons, List.not_mem_nil, or_false] at hx; rcases hx with rfl | rfl <;> omega) (by intro x hx; simp only [List.mem_cons, List.not_mem_nil, or_false] at hx; rcases hx with rfl | rfl <;> omega) h
    simp only [List.cons.injEq, and_true] at this
    obtain ⟨rfl, rfl⟩ := this
    unfold Ov.named; simp only [hn, Int.reduceEq, if_true, if_false]
  · have b1 := num_3 hn nx
    have b2 := num_3 hn nz
    dsimp only at b1 b2
    rw [Ov.rest_three hn, Ov.rest_three hn] at h
    have := Pk.encs_inj [s] [s'] rfl (by intro x hx; simp only [List.mem_cons, List.not_mem_nil, or_false] at hx; rcases hx with rfl <;> omega) (by intro x hx; simp only [List.mem_cons, List.not_mem_nil, or_false] at hx; rcases hx with rfl <;> omega) h
    simp only [List.cons.injEq, and_true] at this
    obtain rfl := this
    unfold Ov.named; simp only [hn, Int.reduceEq, if_true, if_false]
  · have b1 := num_4 hn nx
    have b2 := num_4 hn nz
    dsimp only at b1 b2
    rw [Ov.rest_four hn, Ov.rest_four hn] at h
    have := Pk.encs_inj [n] [n'] rfl (by intro x hx; simp only [List.mem_cons, List.not_mem_nil, or_false] at hx; rcases hx with rfl <;> omega) (by intro x hx; simp only [List.mem_cons, List.not_mem_nil, or_false] at hx; rcases hx with rfl <;> omega) h
    simp only [List.cons.injEq, and_true] at this
    obtain rfl := this
    unfold Ov.named; simp only [hn, Int.reduceEq, if_true, if_false]
  · have b1 := (num_5 hn nx).ok.i64
    have b2 := (num_5 hn nz).ok.i64
    rw [Ov.rest_five hn, Ov.rest_five hn] at h
    have := Pk.encs_inj [K, S, C, T, M, V] [K', S', C', T', M', V'] rfl b1 b2 h
    simp only [List.cons.injEq, and_true] at this
    obtain ⟨rfl, rfl, rfl, rfl, rfl, rfl⟩ := this
    unfold Ov.named; simp only [hn, Int.reduceEq, if_true, if_false]
theorem Ov.bytes_same {x z : Ov} (hx : x.right = 0) (hz : z.right = 0) (wx : x.Wf) (wz : z.Wf) : (((bst x.bytes).toList == (bst z.bytes).toList) == decide (x = z)) = true := by
  rw [beq_iff_eq, Bool.eq_iff_iff, beq_iff_eq, decide_eq_true_eq]
  constructor
  · intro e
    exact Ov.bytes_inj hx hz wx wz (bst_inj (fun c hc => by have := x.bytes_ok c hc; omega) (fun c hc => by have := z.bytes_ok c hc; omega) (ByteArray.ext (by simpa [ByteArray.toList_eq] using e)))
  · rintro rfl; rfl

set_option maxHeartbeats 4000000 in
theorem orderApart_false (a b : Ov) (ha : a.Wf) (hb : b.Wf) (w : World) : Calls Try.prog 7 #[.agg a.arr, .agg b.arr, .bool false] w fun e w' => e = .returned (.bool true) ∧ Below w.heap.size w w' := by
  have HNA := Lib.hid (near_o a ha)
  have HNB := Lib.hid (near_o b hb)
  have wa := a.near_wf ha
  have wb := b.near_wf hb
  have HX := Lib.hid (fun w => enc_o a.near wa.2.2.2.2.1.2.1.1 w)
  have HY := Lib.hid (fun w => enc_o b.near wb.2.2.2.2.1.2.1.1 w)
  rw [a.out_near] at HX
  rw [b.out_near] at HY
  have heq := Ov.bytes_same a.near_right b.near_right wa wb
  clear wa wb
  generalize a.near = x at *
  generalize b.near = y at *
  go_enter Try.func7, Try.ntmps7
  go_wp2_with (first | ((with_reducible_and_instances (show wpList _ _ _ (Oper.mk _ (Op.load 27 _) _ _ _ _ :: _) _ _)); refine wl_load Try.underlying27 rfl info16 rfl rfl rfl (by (repeat (first | assumption | (with_reducible refine alloc_at ?_; (focus (first | omega | (simp; done) | (simp; omega)))) | (with_reducible refine boxed_at ?_; (focus (first | omega | (simp; done) | (simp; omega)))) | (with_reducible refine alloc_old ?_ ?_; (focus (first | omega | (simp; done) | (simp; omega)))) | (with_reducible refine boxed_old ?_ ?_; (focus (first | omega | (simp; done) | (simp; omega)))) | (with_reducible refine drew_old ?_)))) (by rfl) ?_))
  refine (HNA.out _).mono ?_
  rintro e w1 ⟨rfl, hb1⟩
  have h14 : w1.heap[w.heap.size + 1]? = some (.cells b.arr 27 (0, 0)) := (hb1.block _ (by first | omega | (simp; done) | (simp; omega))).trans (alloc_at (by first | omega | (simp; done) | (simp; omega)))
  have H1 : Hid (Below w.heap.size w w1) := Lib.hid ((((Below.refl _ w).alloc (Nat.le_refl _) _).alloc (by first | omega | (simp; done) | (simp; omega)) _).trans (hb1.mono (by first | omega | (simp; done) | (simp; omega))))
  have s1 : w.heap.size + 1 < w1.heap.size := by have := hb1.size; simp at this; omega
  clear hb1
  go_wp2_with (first | ((with_reducible_and_instances (show wpList _ _ _ (Oper.mk _ (Op.load 27 _) _ _ _ _ :: _) _ _)); refine wl_load Try.underlying27 rfl info16 rfl rfl rfl (by (repeat (first | assumption | (with_reducible refine alloc_at ?_; (focus (first | omega | (simp; done) | (simp; omega)))) | (with_reducible refine boxed_at ?_; (focus (first | omega | (simp; done) | (simp; omega)))) | (with_reducible refine alloc_old ?_ ?_; (focus (first | omega | (simp; done) | (simp; omega)))) | (with_reducible refine boxed_old ?_ ?_; (focus (first | omega | (simp; done) | (simp; omega)))) | (with_reducible refine drew_old ?_)))) (by rfl) ?_) | ((with_reducible_and_instances (show wpList _ _ _ (Oper.mk _ (Op.store 27 _ _) _ _ _ _ :: _) _ _)); refine wl_store info16 rfl rfl rfl rfl (by (repeat (first | assumption | (with_reducible refine alloc_at ?_; (focus (first | omega | (simp; done) | (simp; omega)))) | (with_reducible refine boxed_at ?_; (focus (first | omega | (simp; done) | (simp; omega)))) | (with_reducible refine alloc_old ?_ ?_; (focus (first | omega | (simp; done) | (simp; omega)))) | (with_reducible refine boxed_old ?_ ?_; (focus (first | omega | (simp; done) | (simp; omega)))) | (with_reducible refine drew_old ?_)))) (by rfl) (by rfl) (by first | exact Ov.arr_one _ | simp [Value.oneCell']) ?_))
  refine (HNB.out _).mono ?_
  rintro e w2 ⟨rfl, hb2⟩
  have h27 : w2.heap[w1.heap.size]? = some (.cells x.arr 27 (0, 0)) := (hb2.block _ (by first | omega | (simp; done) | (simp; omega))).trans (boxed_at (by first | omega | (simp; done) | (simp; omega)))
  have H2 : Hid (Below w.heap.size w w2) := Lib.hid (H1.out.trans (((boxed_below ((Below.refl _ w1).alloc (Nat.le_refl _) _) (Nat.le_refl _)).trans (hb2.mono (by first | omega | (simp; done) | (simp; omega)))).mono H1.out.size))
  have s2 : w1.heap.size < w2.heap.size := by have := hb2.size; simp at this; omega
  clear hb2 h14
  go_wp2_with (first | ((with_reducible_and_instances (show wpList _ _ _ (Oper.mk _ (Op.load 27 _) _ _ _ _ :: _) _ _)); refine wl_load Try.underlying27 rfl info16 rfl rfl rfl (by (repeat (first | assumption | (with_reducible refine alloc_at ?_; (focus (first | omega | (simp; done) | (simp; omega)))) | (with_reducible refine boxed_at ?_; (focus (first | omega | (simp; done) | (simp; omega)))) | (with_reducible refine alloc_old ?_ ?_; (focus (first | omega | (simp; done) | (simp; omega)))) | (with_reducible refine boxed_old ?_ ?_; (focus (first | omega | (simp; done) | (simp; omega)))) | (with_reducible refine drew_old ?_)))) (by rfl) ?_) | ((with_reducible_and_instances (show wpList _ _ _ (Oper.mk _ (Op.store 27 _ _) _ _ _ _ :: _) _ _)); refine wl_store info16 rfl rfl rfl rfl (by (repeat (first | assumption | (with_reducible refine alloc_at ?_; (focus (first | omega | (simp; done) | (simp; omega)))) | (with_reducible refine boxed_at ?_; (focus (first | omega | (simp; done) | (simp; omega)))) | (with_reducible refine alloc_old ?_ ?_; (focus (first | omega | (simp; done) | (simp; omega)))) | (with_reducible refine boxed_old ?_ ?_; (focus (first | omega | (simp; done) | (simp; omega)))) | (with_reducible refine drew_old ?_)))) (by rfl) (by rfl) (by first | exact Ov.arr_one _ | simp [Value.oneCell']) ?_))
  have H3 : Hid (Below w.heap.size w (boxed (w2.alloc (.cells #[.int .u8 0, .int .i64 0, .int .i64 0, .int .i64 0, .int .i64 0, .int .u8 0, .int .i64 0, .int .i64 0, .bool false, .bool false, .int .u8 0, .int .i64 0, .int .i64 0, .int .i64 0, .int .i64 0, .int .u8 0] 27)) w2.heap.size y.arr 27)) := Lib.hid (H2.out.trans ((boxed_below ((Below.refl _ w2).alloc (Nat.le_refl _) _) (Nat.le_refl _)).mono H2.out.size))
  have HB7 : Hid ((boxed (w2.alloc (.cells #[.int .u8 0, .int .i64 0, .int .i64 0, .int .i64 0, .int .i64 0, .int .u8 0, .int .i64 0, .int .i64 0, .bool false, .bool false, .int .u8 0, .int .i64 0, .int .i64 0, .int .i64 0, .int .i64 0, .int .u8 0] 27)) w2.heap.size y.arr 27).heap[w1.heap.size]? = some (.cells x.arr 27 (0, 0))) := Lib.hid (by (repeat (first | assumption | (with_reducible refine alloc_at ?_; (focus (first | omega | (simp; done) | (simp; omega)))) | (with_reducible refine boxed_at ?_; (focus (first | omega | (simp; done) | (simp; omega)))) | (with_reducible refine alloc_old ?_ ?_; (focus (first | omega | (simp; done) | (simp; omega)))) | (with_reducible refine boxed_old ?_ ?_; (focus (first | omega | (simp; done) | (simp; omega)))) | (with_reducible refine drew_old ?_))))
  have HB8 : Hid ((boxed (w2.alloc (.cells #[.int .u8 0, .int .i64 0, .int .i64 0, .int .i64 0, .int .i64 0, .int .u8 0, .int .i64 0, .int .i64 0, .bool false, .bool false, .int .u8 0, .int .i64 0, .int .i64 0, .int .i64 0, .int .i64 0, .int .u8 0] 27)) w2.heap.size y.arr 27).heap[w2.heap.size]? = some (.cells y.arr 27 (0, 0))) := Lib.hid (by (repeat (first | assumption | (with_reducible refine alloc_at ?_; (focus (first | omega | (simp; done) | (simp; omega)))) | (with_reducible refine boxed_at ?_; (focus (first | omega | (simp; done) | (simp; omega)))) | (with_reducible refine alloc_old ?_ ?_; (focus (first | omega | (simp; done) | (simp; omega)))) | (with_reducible refine boxed_old ?_ ?_; (focus (first | omega | (simp; done) | (simp; omega)))) | (with_reducible refine drew_old ?_))))
  have s8 : w2.heap.size < (boxed (w2.alloc (.cells #[.int .u8 0, .int .i64 0, .int .i64 0, .int .i64 0, .int .i64 0, .int .u8 0, .int .i64 0, .int .i64 0, .bool false, .bool false, .int .u8 0, .int .i64 0, .int .i64 0, .int .i64 0, .int .i64 0, .int .u8 0] 27)) w2.heap.size y.arr 27).heap.size := by simp
  have s7 : w1.heap.size < (boxed (w2.alloc (.cells #[.int .u8 0, .int .i64 0, .int .i64 0, .int .i64 0, .int .i64 0, .int .u8 0, .int .i64 0, .int .i64 0, .bool false, .bool false, .int .u8 0, .int .i64 0, .int .i64 0, .int .i64 0, .int .i64 0, .int .u8 0] 27)) w2.heap.size y.arr 27).heap.size := Nat.lt_trans s2 s8
  clear h27
  generalize (boxed (w2.alloc (.cells #[.int .u8 0, .int .i64 0, .int .i64 0, .int .i64 0, .int .i64 0, .int .u8 0, .int .i64 0, .int .i64 0, .bool false, .bool false, .int .u8 0, .int .i64 0, .int .i64 0, .int .i64 0, .int .i64 0, .int .u8 0] 27)) w2.heap.size y.arr 27) = w3 at *
  refine lane_start (ord := [0, 1, 2, 5, 9, 10, 11, 3, 4, 6, 7, 8, 12, 13, 14]) (S := fun w' => w'.heap[w1.heap.size]? = some (.cells x.arr 27 (0, 0)) ∧ w'.heap[w2.heap.size]? = some (.cells y.arr 27 (0, 0))) rfl (by kernel_rfl) ⟨HB7.out, HB8.out⟩ (fun hHeld => ?_)
  refine lane_alone rfl (by kernel_rfl) (by rfl) (fun K hK => ?_)
  go_simp
  refine (awake_any _).mono ?_
  rintro e w4 ⟨rfl, hb4⟩
  have hb4 : Below w3.heap.size w3 w4 := ((Below.refl _ _).drew).trans hb4
  have h47 := (hb4.block _ s7).trans HB7.out
  have h48 := (hb4.block _ s8).trans HB8.out
  refine hK _ _ ⟨h47, h48⟩ (fun hHeld => ?_)
  clear hK K
  refine lane_take (v := ?_) rfl (by kernel_rfl) (by kernel_rfl) (by rfl) ?_ (by assumption) ?_
  rotate_left
  · intro w' hSw
    go_simp
    try (with_reducible rfl)
  simp only [Act.put, List.setIfInBounds_toArray, List.set_cons_zero, List.set_cons_succ]
  refine lane_take rfl (by kernel_rfl) (by kernel_rfl) (by rfl) (fun w' hS => exec_load rfl rfl (ld16 hS.1 rfl)) (by assumption) ?_
  simp only [Act.put, List.setIfInBounds_toArray, List.set_cons_zero, List.set_cons_succ]
  refine lane_take rfl (by kernel_rfl) (by kernel_rfl) (by rfl) (fun w' hS => exec_load rfl rfl (ld16 hS.2 rfl)) (by assumption) ?_
  simp only [Act.put, List.setIfInBounds_toArray, List.set_cons_zero, List.set_cons_succ]
  refine lane_take rfl (by kernel_rfl) (by kernel_rfl) (by rfl) (fun w' hS => exec_load rfl rfl (ld16 hS.1 rfl)) (by assumption) ?_
  simp only [Act.put, List.setIfInBounds_toArray, List.set_cons_zero, List.set_cons_succ]
  refine lane_take rfl (by kernel_rfl) (by kernel_rfl) (by rfl) (fun w' hS => exec_load rfl rfl (ld16 hS.2 rfl)) (by assumption) ?_
  simp only [Act.put, List.setIfInBounds_toArray, List.set_cons_zero, List.set_cons_succ]
  refine lane_take rfl (by kernel_rfl) (by kernel_rfl) (by rfl) (fun w' hS => exec_eql16' rfl rfl rfl rfl w') (by assumption) ?_
  simp only [Act.put, List.setIfInBounds_toArray, List.set_cons_zero, List.set_cons_succ]
  refine lane_alone rfl (by kernel_rfl) (by rfl) (fun K hK => ?_)
  go_simp
  refine (HX.out _).mono ?_
  intro e w5 hO
  obtain ⟨A5, n5, c5, rfl, HN5, _, HL5, HR5, _, _⟩ := hO.open_
  have h57 := (HL5.out.block _ (Nat.lt_of_lt_of_le s7 hb4.size)).trans h47
  have h58 := (HL5.out.block _ (Nat.lt_of_lt_of_le s8 hb4.size)).trans h48
  have hb5 := hb4.trans (HL5.out.mono hb4.size)
  have hcv5 := conv_len w5 A5 _ c5 n5 _ HR5.out HN5.out
  refine hK _ _ ⟨h57, h58⟩ (fun hHeld => ?_)
  clear hK K
  refine lane_into (S' := fun w' => (w'.heap[w1.heap.size]? = some (.cells x.arr 27 (0, 0)) ∧ w'.heap[w2.heap.size]? = some (.cells y.arr 27 (0, 0))) ∧ (convert 34 9 (.slice A5 n5 c5)).run Try.prog w' = .ok (.string (bst x.bytes)) w') (fun _ h => h.1) ⟨⟨h57, h58⟩, hcv5⟩ (fun hHeld => ?_)
  clear hcv5
  refine lane_take (v := ?_) rfl (by kernel_rfl) (by kernel_rfl) (by rfl) ?_ (by assumption) ?_
  rotate_left
  · intro w' hSw
    obtain ⟨_, hc⟩ := hSw
    go_simp
    try (with_reducible rfl)
  simp only [Act.put, List.setIfInBounds_toArray, List.set_cons_zero, List.set_cons_succ]
  refine lane_alone rfl (by kernel_rfl) (by rfl) (fun K hK => ?_)
  go_simp
  refine (HY.out _).mono ?_
  intro e w6 hO
  obtain ⟨A6, n6, c6, rfl, HN6, _, HL6, HR6, _, _⟩ := hO.open_
  have h67 := (HL6.out.block _ (Nat.lt_of_lt_of_le s7 hb5.size)).trans h57
  have h68 := (HL6.out.block _ (Nat.lt_of_lt_of_le s8 hb5.size)).trans h58
  have hb6 := hb5.trans (HL6.out.mono hb5.size)
  have hcv5 := conv_len w6 A5 _ c5 n5 _ (HR5.out.below HL6.out) HN5.out
  have hcv6 := conv_len w6 A6 _ c6 n6 _ HR6.out HN6.out
  refine hK _ _ ⟨⟨h67, h68⟩, hcv5⟩ (fun hHeld => ?_)
  clear hK K
  clear hcv5
  refine lane_alone rfl (by kernel_rfl) (by rfl) (fun K hK => ?_)
  go_simp
  refine hK _ _ hHeld (fun hHeld => ?_)
  clear hK K hcv6
  repeat (first
    | (refine lane_skip rfl (by kernel_rfl) (by kernel_rfl) (by rfl) (by assumption) ?_; simp only [Act.put, List.setIfInBounds_toArray, List.set_cons_zero, List.set_cons_succ])
    | (refine lane_take (v := ?_) rfl (by kernel_rfl) (by kernel_rfl) (by rfl) ?_ (by assumption) ?_; rotate_left; (focus (intro w' hSw; go_simp; try (with_reducible rfl))); simp only [Act.put, List.setIfInBounds_toArray, List.set_cons_zero, List.set_cons_succ]))
  refine lane_end (by kernel_rfl) ?_
  clear hHeld
  have HF := Lib.hid (H3.out.trans (hb6.mono H3.out.size))
  clear h47 h48 h57 h58 h67 h68 hb4 hb5 hb6
  go_wp2
  go_ret
  exact ⟨rfl, HF.out⟩

set_option maxHeartbeats 4000000 in
theorem orderApart_true (a b : Ov) (ha : a.Wf) (hb : b.Wf) (w : World) : Calls Try.prog 7 #[.agg a.arr, .agg b.arr, .bool true] w fun e w' => e = .returned (.bool true) ∧ Below w.heap.size w w' := by
  have HNA := Lib.hid (near_o a ha)
  have HNB := Lib.hid (near_o b hb)
  have wa := a.near_wf ha
  have wb := b.near_wf hb
  have HX := Lib.hid (fun w => enc_o a.near wa.2.2.2.2.1.2.1.1 w)
  have HY := Lib.hid (fun w => enc_o b.near wb.2.2.2.2.1.2.1.1 w)
  rw [a.out_near] at HX
  rw [b.out_near] at HY
  clear wa wb
  generalize a.near = x at *
  generalize b.near = y at *
  go_enter Try.func7, Try.ntmps7
  go_wp2_with (first | ((with_reducible_and_instances (show wpList _ _ _ (Oper.mk _ (Op.load 27 _) _ _ _ _ :: _) _ _)); refine wl_load Try.underlying27 rfl info16 rfl rfl rfl (by (repeat (first | assumption | (with_reducible refine alloc_at ?_; (focus (first | omega | (simp; done) | (simp; omega)))) | (with_reducible refine boxed_at ?_; (focus (first | omega | (simp; done) | (simp; omega)))) | (with_reducible refine alloc_old ?_ ?_; (focus (first | omega | (simp; done) | (simp; omega)))) | (with_reducible refine boxed_old ?_ ?_; (focus (first | omega | (simp; done) | (simp; omega)))) | (with_reducible refine drew_old ?_)))) (by rfl) ?_))
  refine (HNA.out _).mono ?_
  rintro e w1 ⟨rfl, hb1⟩
  have h14 : w1.heap[w.heap.size + 1]? = some (.cells b.arr 27 (0, 0)) := (hb1.block _ (by first | omega | (simp; done) | (simp; omega))).trans (alloc_at (by first | omega | (simp; done) | (simp; omega)))
  have H1 : Hid (Below w.heap.size w w1) := Lib.hid ((((Below.refl _ w).alloc (Nat.le_refl _) _).alloc (by first | omega | (simp; done) | (simp; omega)) _).trans (hb1.mono (by first | omega | (simp; done) | (simp; omega))))
  have s1 : w.heap.size + 1 < w1.heap.size := by have := hb1.size; simp at this; omega
  clear hb1
  go_wp2_with (first | ((with_reducible_and_instances (show wpList _ _ _ (Oper.mk _ (Op.load 27 _) _ _ _ _ :: _) _ _)); refine wl_load Try.underlying27 rfl info16 rfl rfl rfl (by (repeat (first | assumption | (with_reducible refine alloc_at ?_; (focus (first | omega | (simp; done) | (simp; omega)))) | (with_reducible refine boxed_at ?_; (focus (first | omega | (simp; done) | (simp; omega)))) | (with_reducible refine alloc_old ?_ ?_; (focus (first | omega | (simp; done) | (simp; omega)))) | (with_reducible refine boxed_old ?_ ?_; (focus (first | omega | (simp; done) | (simp; omega)))) | (with_reducible refine drew_old ?_)))) (by rfl) ?_) | ((with_reducible_and_instances (show wpList _ _ _ (Oper.mk _ (Op.store 27 _ _) _ _ _ _ :: _) _ _)); refine wl_store info16 rfl rfl rfl rfl (by (repeat (first | assumption | (with_reducible refine alloc_at ?_; (focus (first | omega | (simp; done) | (simp; omega)))) | (with_reducible refine boxed_at ?_; (focus (first | omega | (simp; done) | (simp; omega)))) | (with_reducible refine alloc_old ?_ ?_; (focus (first | omega | (simp; done) | (simp; omega)))) | (with_reducible refine boxed_old ?_ ?_; (focus (first | omega | (simp; done) | (simp; omega)))) | (with_reducible refine drew_old ?_)))) (by rfl) (by rfl) (by first | exact Ov.arr_one _ | simp [Value.oneCell']) ?_))
  refine (HNB.out _).mono ?_
  rintro e w2 ⟨rfl, hb2⟩
  have h27 : w2.heap[w1.heap.size]? = some (.cells x.arr 27 (0, 0)) := (hb2.block _ (by first | omega | (simp; done) | (simp; omega))).trans (boxed_at (by first | omega | (simp; done) | (simp; omega)))
  have H2 : Hid (Below w.heap.size w w2) := Lib.hid (H1.out.trans (((boxed_below ((Below.refl _ w1).alloc (Nat.le_refl _) _) (Nat.le_refl _)).trans (hb2.mono (by first | omega | (simp; done) | (simp; omega)))).mono H1.out.size))
  have s2 : w1.heap.size < w2.heap.size := by have := hb2.size; simp at this; omega
  clear hb2 h14
  go_wp2_with (first | ((with_reducible_and_instances (show wpList _ _ _ (Oper.mk _ (Op.load 27 _) _ _ _ _ :: _) _ _)); refine wl_load Try.underlying27 rfl info16 rfl rfl rfl (by (repeat (first | assumption | (with_reducible refine alloc_at ?_; (focus (first | omega | (simp; done) | (simp; omega)))) | (with_reducible refine boxed_at ?_; (focus (first | omega | (simp; done) | (simp; omega)))) | (with_reducible refine alloc_old ?_ ?_; (focus (first | omega | (simp; done) | (simp; omega)))) | (with_reducible refine boxed_old ?_ ?_; (focus (first | omega | (simp; done) | (simp; omega)))) | (with_reducible refine drew_old ?_)))) (by rfl) ?_) | ((with_reducible_and_instances (show wpList _ _ _ (Oper.mk _ (Op.store 27 _ _) _ _ _ _ :: _) _ _)); refine wl_store info16 rfl rfl rfl rfl (by (repeat (first | assumption | (with_reducible refine alloc_at ?_; (focus (first | omega | (simp; done) | (simp; omega)))) | (with_reducible refine boxed_at ?_; (focus (first | omega | (simp; done) | (simp; omega)))) | (with_reducible refine alloc_old ?_ ?_; (focus (first | omega | (simp; done) | (simp; omega)))) | (with_reducible refine boxed_old ?_ ?_; (focus (first | omega | (simp; done) | (simp; omega)))) | (with_reducible refine drew_old ?_)))) (by rfl) (by rfl) (by first | exact Ov.arr_one _ | simp [Value.oneCell']) ?_))
  rw [boxed_again]
  have H3 : Hid (Below w.heap.size w (boxed (w2.alloc (.cells #[.int .u8 0, .int .i64 0, .int .i64 0, .int .i64 0, .int .i64 0, .int .u8 0, .int .i64 0, .int .i64 0, .bool false, .bool false, .int .u8 0, .int .i64 0, .int .i64 0, .int .i64 0, .int .i64 0, .int .u8 0] 27)) w2.heap.size x.arr 27)) := Lib.hid (H2.out.trans ((boxed_below ((Below.refl _ w2).alloc (Nat.le_refl _) _) (Nat.le_refl _)).mono H2.out.size))
  have HB7 : Hid ((boxed (w2.alloc (.cells #[.int .u8 0, .int .i64 0, .int .i64 0, .int .i64 0, .int .i64 0, .int .u8 0, .int .i64 0, .int .i64 0, .bool false, .bool false, .int .u8 0, .int .i64 0, .int .i64 0, .int .i64 0, .int .i64 0, .int .u8 0] 27)) w2.heap.size x.arr 27).heap[w1.heap.size]? = some (.cells x.arr 27 (0, 0))) := Lib.hid (by (repeat (first | assumption | (with_reducible refine alloc_at ?_; (focus (first | omega | (simp; done) | (simp; omega)))) | (with_reducible refine boxed_at ?_; (focus (first | omega | (simp; done) | (simp; omega)))) | (with_reducible refine alloc_old ?_ ?_; (focus (first | omega | (simp; done) | (simp; omega)))) | (with_reducible refine boxed_old ?_ ?_; (focus (first | omega | (simp; done) | (simp; omega)))) | (with_reducible refine drew_old ?_))))
  have HB8 : Hid ((boxed (w2.alloc (.cells #[.int .u8 0, .int .i64 0, .int .i64 0, .int .i64 0, .int .i64 0, .int .u8 0, .int .i64 0, .int .i64 0, .bool false, .bool false, .int .u8 0, .int .i64 0, .int .i64 0, .int .i64 0, .int .i64 0, .int .u8 0] 27)) w2.heap.size x.arr 27).heap[w2.heap.size]? = some (.cells x.arr 27 (0, 0))) := Lib.hid (by (repeat (first | assumption | (with_reducible refine alloc_at ?_; (focus (first | omega | (simp; done) | (simp; omega)))) | (with_reducible refine boxed_at ?_; (focus (first | omega | (simp; done) | (simp; omega)))) | (with_reducible refine alloc_old ?_ ?_; (focus (first | omega | (simp; done) | (simp; omega)))) | (with_reducible refine boxed_old ?_ ?_; (focus (first | omega | (simp; done) | (simp; omega)))) | (with_reducible refine drew_old ?_))))
  have s8 : w2.heap.size < (boxed (w2.alloc (.cells #[.int .u8 0, .int .i64 0, .int .i64 0, .int .i64 0, .int .i64 0, .int .u8 0, .int .i64 0, .int .i64 0, .bool false, .bool false, .int .u8 0, .int .i64 0, .int .i64 0, .int .i64 0, .int .i64 0, .int .u8 0] 27)) w2.heap.size x.arr 27).heap.size := by simp
  have s7 : w1.heap.size < (boxed (w2.alloc (.cells #[.int .u8 0, .int .i64 0, .int .i64 0, .int .i64 0, .int .i64 0, .int .u8 0, .int .i64 0, .int .i64 0, .bool false, .bool false, .int .u8 0, .int .i64 0, .int .i64 0, .int .i64 0, .int .i64 0, .int .u8 0] 27)) w2.heap.size x.arr 27).heap.size := Nat.lt_trans s2 s8
  clear h27
  generalize (boxed (w2.alloc (.cells #[.int .u8 0, .int .i64 0, .int .i64 0, .int .i64 0, .int .i64 0, .int .u8 0, .int .i64 0, .int .i64 0, .bool false, .bool false, .int .u8 0, .int .i64 0, .int .i64 0, .int .i64 0, .int .i64 0, .int .u8 0] 27)) w2.heap.size x.arr 27) = w3 at *
  refine lane_start (ord := [0, 1, 2, 5, 9, 10, 11, 3, 4, 6, 7, 8, 12, 13, 14]) (S := fun w' => w'.heap[w1.heap.size]? = some (.cells x.arr 27 (0, 0)) ∧ w'.heap[w2.heap.size]? = some (.cells x.arr 27 (0, 0))) rfl (by kernel_rfl) ⟨HB7.out, HB8.out⟩ (fun hHeld => ?_)
  refine lane_alone rfl (by kernel_rfl) (by rfl) (fun K hK => ?_)
  go_simp
  refine (awake_any _).mono ?_
  rintro e w4 ⟨rfl, hb4⟩
  have hb4 : Below w3.heap.size w3 w4 := ((Below.refl _ _).drew).trans hb4
  have h47 := (hb4.block _ s7).trans HB7.out
  have h48 := (hb4.block _ s8).trans HB8.out
  refine hK _ _ ⟨h47, h48⟩ (fun hHeld => ?_)
  clear hK K
  refine lane_take (v := ?_) rfl (by kernel_rfl) (by kernel_rfl) (by rfl) ?_ (by assumption) ?_
  rotate_left
  · intro w' hSw
    go_simp
    try (with_reducible rfl)
  simp only [Act.put, List.setIfInBounds_toArray, List.set_cons_zero, List.set_cons_succ]
  refine lane_take rfl (by kernel_rfl) (by kernel_rfl) (by rfl) (fun w' hS => exec_load rfl rfl (ld16 hS.1 rfl)) (by assumption) ?_
  simp only [Act.put, List.setIfInBounds_toArray, List.set_cons_zero, List.set_cons_succ]
  refine lane_take rfl (by kernel_rfl) (by kernel_rfl) (by rfl) (fun w' hS => exec_load rfl rfl (ld16 hS.2 rfl)) (by assumption) ?_
  simp only [Act.put, List.setIfInBounds_toArray, List.set_cons_zero, List.set_cons_succ]
  refine lane_take rfl (by kernel_rfl) (by kernel_rfl) (by rfl) (fun w' hS => exec_load rfl rfl (ld16 hS.1 rfl)) (by assumption) ?_
  simp only [Act.put, List.setIfInBounds_toArray, List.set_cons_zero, List.set_cons_succ]
  refine lane_take rfl (by kernel_rfl) (by kernel_rfl) (by rfl) (fun w' hS => exec_load rfl rfl (ld16 hS.2 rfl)) (by assumption) ?_
  simp only [Act.put, List.setIfInBounds_toArray, List.set_cons_zero, List.set_cons_succ]
  refine lane_take rfl (by kernel_rfl) (by kernel_rfl) (by rfl) (fun w' hS => exec_eql16' rfl rfl rfl rfl w') (by assumption) ?_
  simp only [Act.put, List.setIfInBounds_toArray, List.set_cons_zero, List.set_cons_succ]
  refine lane_alone rfl (by kernel_rfl) (by rfl) (fun K hK => ?_)
  go_simp
  refine (HX.out _).mono ?_
  intro e w5 hO
  obtain ⟨A5, n5, c5, rfl, HN5, _, HL5, HR5, _, _⟩ := hO.open_
  have h57 := (HL5.out.block _ (Nat.lt_of_lt_of_le s7 hb4.size)).trans h47
  have h58 := (HL5.out.block _ (Nat.lt_of_lt_of_le s8 hb4.size)).trans h48
  have hb5 := hb4.trans (HL5.out.mono hb4.size)
  have hcv5 := conv_len w5 A5 _ c5 n5 _ HR5.out HN5.out
  refine hK _ _ ⟨h57, h58⟩ (fun hHeld => ?_)
  clear hK K
  refine lane_into (S' := fun w' => (w'.heap[w1.heap.size]? = some (.cells x.arr 27 (0, 0)) ∧ w'.heap[w2.heap.size]? = some (.cells x.arr 27 (0, 0))) ∧ (convert 34 9 (.slice A5 n5 c5)).run Try.prog w' = .ok (.string (bst x.bytes)) w') (fun _ h => h.1) ⟨⟨h57, h58⟩, hcv5⟩ (fun hHeld => ?_)
  clear hcv5
  refine lane_take (v := ?_) rfl (by kernel_rfl) (by kernel_rfl) (by rfl) ?_ (by assumption) ?_
  rotate_left
  · intro w' hSw
    obtain ⟨_, hc⟩ := hSw
    go_simp
    try (with_reducible rfl)
  simp only [Act.put, List.setIfInBounds_toArray, List.set_cons_zero, List.set_cons_succ]
  refine lane_alone rfl (by kernel_rfl) (by rfl) (fun K hK => ?_)
  go_simp
  refine (HX.out _).mono ?_
  intro e w6 hO
  obtain ⟨A6, n6, c6, rfl, HN6, _, HL6, HR6, _, _⟩ := hO.open_
  have h67 := (HL6.out.block _ (Nat.lt_of_lt_of_le s7 hb5.size)).trans h57
  have h68 := (HL6.out.block _ (Nat.lt_of_lt_of_le s8 hb5.size)).trans h58
  have hb6 := hb5.trans (HL6.out.mono hb5.size)
  have hcv5 := conv_len w6 A5 _ c5 n5 _ (HR5.out.below HL6.out) HN5.out
  have hcv6 := conv_len w6 A6 _ c6 n6 _ HR6.out HN6.out
  refine hK _ _ ⟨⟨h67, h68⟩, hcv5⟩ (fun hHeld => ?_)
  clear hK K
  clear hcv5
  refine lane_alone rfl (by kernel_rfl) (by rfl) (fun K hK => ?_)
  go_simp
  refine hK _ _ hHeld (fun hHeld => ?_)
  clear hK K hcv6
  repeat (first
    | (refine lane_skip rfl (by kernel_rfl) (by kernel_rfl) (by rfl) (by assumption) ?_; simp only [Act.put, List.setIfInBounds_toArray, List.set_cons_zero, List.set_cons_succ])
    | (refine lane_take (v := ?_) rfl (by kernel_rfl) (by kernel_rfl) (by rfl) ?_ (by assumption) ?_; rotate_left; (focus (intro w' hSw; go_simp; try (with_reducible rfl))); simp only [Act.put, List.setIfInBounds_toArray, List.set_cons_zero, List.set_cons_succ]))
  refine lane_end (by kernel_rfl) ?_
  clear hHeld
  have HF := Lib.hid (H3.out.trans (hb6.mono H3.out.size))
  clear h47 h48 h57 h58 h67 h68 hb4 hb5 hb6
  go_wp2
  go_ret
  exact ⟨rfl, HF.out⟩

theorem orderApart_walk (k s p n a u e t : Int) (g l : Bool) (K S C T M V : Int) (h : (⟨k, s, p, n, ⟨a, u, e, t, g, l⟩, ⟨K, S, C, T, M, V⟩⟩ : Ov).Wf) (k' s' p' n' a' u' e' t' : Int) (g' l' : Bool) (K' S' C' T' M' V' : Int) (h' : (⟨k', s', p', n', ⟨a', u', e', t', g', l'⟩, ⟨K', S', C', T', M', V'⟩⟩ : Ov).Wf) (same : Bool) (w : World) : Calls Try.prog 7 #[.agg #[.int .u8 k, .int .i64 s, .int .i64 p, .int .i64 n, .int .i64 a, .int .u8 u, .int .i64 e, .int .i64 t, .bool g, .bool l, .int .u8 K, .int .i64 S, .int .i64 C, .int .i64 T, .int .i64 M, .int .u8 V], .agg #[.int .u8 k', .int .i64 s', .int .i64 p', .int .i64 n', .int .i64 a', .int .u8 u', .int .i64 e', .int .i64 t', .bool g', .bool l', .int .u8 K', .int .i64 S', .int .i64 C', .int .i64 T', .int .i64 M', .int .u8 V'], .bool same] w fun e w' => e = .returned (.bool true) ∧ Below w.heap.size w w' := by
  cases same
  · exact orderApart_false ⟨k, s, p, n, ⟨a, u, e, t, g, l⟩, ⟨K, S, C, T, M, V⟩⟩ ⟨k', s', p', n', ⟨a', u', e', t', g', l'⟩, ⟨K', S', C', T', M', V'⟩⟩ h h' w
  · exact orderApart_true ⟨k, s, p, n, ⟨a, u, e, t, g, l⟩, ⟨K, S, C, T, M, V⟩⟩ ⟨k', s', p', n', ⟨a', u', e', t', g', l'⟩, ⟨K', S', C', T', M', V'⟩⟩ h h' w
end Go.Proofs.Ytambppcnmggocaa
