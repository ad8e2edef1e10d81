/-
  The walk of the law OrderBytes: it returns true, whatever the input, and makes new blocks alone. No conditions.
-/
import Derived.Test.YtambppcnmggocaaOrDec
import Derived.Test.YtambppcnmggocaaOrApartWalk
namespace Go.Proofs.Ytambppcnmggocaa
set_option maxRecDepth 20000
open Go.ChangeShapes Go.WideShapes Go.ChangeAt Go.RowKit

theorem Ov.Dec.is {x o : Ov} {e : Int} (h : Ov.Dec x.bytes o e) (hx : x.right = 0) (wx : x.Wf) : o = x ∧ e = 0 := by
  rcases h with ⟨rfl, hr, hw, hl⟩ | ⟨_, _, hn⟩
  · exact ⟨(Ov.bytes_inj hx hr wx hw hl).symm, rfl⟩
  · exact absurd rfl (hn x hx wx.2.2.2.2.1.2.1.1)
theorem i64info : (Try.prog.info? 2).map (fun i => (i.zero, i.size, i.bytes)) = some (some (.int .i64 0), 1, 8) := by kernel_rfl
/-- Numbers in a literal, behind one in a literal. -/
theorem wpList_append_lits {W : World} {ops : Array Oper} {rest : List Oper} {o : Oper} {a : Act} {Q : Exit → Act → World → Prop} (hgd : o.guard = none) (s x : Operand)
    (ho : o.op = .call { callee := .builtin .append, args := #[s, x], argTypes := #[38, 38] }) (hty : o.type = 38)
    (c1 c2 : Array Value) (k : Int) (news : List Int) (B1 B2 m : Nat) (hsv : a.eval s = .slice (some ⟨B1, 0, none⟩) 1 1) (hx : a.eval x = .slice (some ⟨B2, 0, none⟩) m m) (hB1 : B1 = W.heap.size) (hB2 : B2 = W.heap.size + 1) (hc1 : c1.toList = cl .i64 [k]) (hc2 : c2.toList = cl .i64 news) (hm : news.length = m) (hs : m ≤ 1000)
    (h : ∀ A c w', Below W.heap.size W w' → Rd w' .i64 w'.heap.size A (k :: news) → wpList Try.prog ops Q rest (a.put o.dst (.slice A (1 + m) c)) w') : wpList Try.prog ops Q (o :: rest) a ((W.alloc (.cells c1 2)).alloc (.cells c2 2)) := by
  subst hm hB1 hB2
  have hown : ((W.alloc (.cells c1 2)).alloc (.cells c2 2)).ownsRow W.heap.size 2 1 (.slice (some ⟨W.heap.size, 0, none⟩) 1 1) 1 (cl .i64 [k]) := by
    have hs1 : c1.size = 1 := by rw [← Array.length_toList, hc1, cl_length]; rfl
    refine ⟨by rw [cl_length]; rfl, .inr ⟨W.heap.size, 1, c1, rfl, Nat.le_refl _, (alloc_block_old (by simp)).trans alloc_block, Nat.le_refl _, by unfold maxLen; omega, by rw [hs1], ?_⟩⟩
    rw [hc1]; rfl
  have hr : ∀ j u, (cl .i64 news)[j]? = some u → ((W.alloc (.cells c1 2)).alloc (.cells c2 2)).cell? ((⟨W.heap.size + 1, 0, none⟩ : Addr).add j) = some u := fun j u hu => by
    have hb : ((W.alloc (.cells c1 2)).alloc (.cells c2 2)).heap[W.heap.size + 1]? = some (.cells c2 2) := alloc_at (by simp)
    rw [ad_head, cell_of_row _ _ _ _ _ (0, 0) hb, ← Array.getElem?_toList, hc2, hu]
  obtain ⟨i, hi, hz, hsz, hby⟩ := info_parts i64info
  obtain ⟨v', w', hrun, h2, h3, _, _⟩ := run_append_own_at (P := Try.prog) _ W.heap.size 38 38 2 i (.int .i64 0) 1 8 Try.underlying38 hi hz hsz hby rfl (by decide) _ 1 (cl .i64 [k]) hown
    ⟨W.heap.size + 1, 0, none⟩ news.length news.length (cl .i64 news) (by rw [cl_length, Nat.mul_one]) hr (cl_one _ _) (by unfold maxLen; omega) (by omega) (by simp; omega)
  rw [← cl_append] at h2
  have hb : Below W.heap.size W w' := by
    refine (((Below.refl _ W).alloc (Nat.le_refl _) _).alloc (by simp) _).trans ⟨h3.os, h3.tape, h3.output, h3.size, fun i hi => h3.block i (by simp; omega) fun e => ?_⟩
    have := (hown.lt i e.symm).1; omega
  obtain ⟨A, c, rfl, _, _⟩ := own_form h2
  refine wpList_plain hgd fun K hK => ?_
  unfold Oper.wp execOp
  simp only [ho, resolve, invoke, builtin, Sem.run_bind, Sem.run_pure, Result.andThen_ok, List.map_toArray, List.map_cons, List.map_nil, hsv, hx, hty, hrun]
  exact hK _ _ (h A c w' hb (Rd.own h2))
theorem Owned.open_nil {w w' : World} {e : Ending} (h : Owned w [] e w') : ∃ A c, e = .returned (.slice A 0 c) ∧ Hid (Below w.heap.size w w') := by
  obtain ⟨A, c, he, _, hb, _⟩ := h.open_n 0 rfl
  exact ⟨A, c, he, hb⟩

set_option maxHeartbeats 4000000 in
theorem orderBytes_2 (o : Ov) (ho : o.Wf) (hk : o.near.k = 2) (w : World) : Calls Try.prog 4 #[.agg o.arr] w fun e w' => e = .returned (.bool true) ∧ Below w.heap.size w w' := by
  have HNA := Lib.hid (near_o o ho)
  have wx := o.near_wf ho
  have rx := o.near_right
  have HE0 := Lib.hid (fun w => enc_o o ho.2.2.2.2.1.2.1.1 w)
  have HX := Lib.hid (fun w => enc_o o.near wx.2.2.2.2.1.2.1.1 w)
  rw [o.out_near] at HX
  clear ho
  generalize o.near = x at *
  have hn : nm x.k = 2 := by rw [hk]; rfl
  have hby : Pk.encs (2 :: [x.s, x.p]) = x.bytes := by
    unfold Ov.bytes
    rw [Ov.rest_two hn, hk, Pk.encs_cons]
  have HBY := Lib.hid hby
  have hle := x.len wx rx
  have HLE := Lib.hid hle.2
  have hni : I64 (2 :: [x.s, x.p]) := by
    have hN := (right_zero rx).1
    have hb := num_2 hn hN
    intro y hy; simp only [List.mem_cons, List.not_mem_nil, or_false] at hy; rcases hy with rfl | rfl | rfl <;> omega
  have HNI := Lib.hid hni
  have HNL : Hid ((2 :: [x.s, x.p] : List Int).length ≤ 1000) := Lib.hid (by simp)
  have HK := Lib.hid hk
  have HRX := Lib.hid rx
  have HWX := Lib.hid wx
  have hwk : IntKind.i64.wrap 2 = 2 := by simp only [IntKind.wrap_i64]; omega
  clear hn hby hle hni hk rx wx
  obtain ⟨X, hX⟩ : ∃ X, o.right = X := ⟨_, rfl⟩
  have HXV := Lib.hid hX
  clear hX
  go_enter Try.func4, Try.ntmps4
  go_wp2_with (first | ((with_reducible_and_instances (show wpList _ _ _ (Oper.mk _ (Op.load 27 _) _ _ _ _ :: _) _ _)); refine wl_load Try.underlying27 rfl info16 rfl rfl rfl (by (repeat (first | assumption | (with_reducible refine alloc_at ?_; (focus (first | omega | (simp; done) | (simp; omega)))) | (with_reducible refine boxed_at ?_; (focus (first | omega | (simp; done) | (simp; omega)))) | (with_reducible refine alloc_old ?_ ?_; (focus (first | omega | (simp; done) | (simp; omega)))) | (with_reducible refine boxed_old ?_ ?_; (focus (first | omega | (simp; done) | (simp; omega)))) | (with_reducible refine drew_old ?_)))) (by rfl) ?_) | ((with_reducible_and_instances (show wpList _ _ _ (Oper.mk _ (Op.store 27 _ _) _ _ _ _ :: _) _ _)); refine wl_store info16 rfl rfl rfl rfl (by (repeat (first | assumption | (with_reducible refine alloc_at ?_; (focus (first | omega | (simp; done) | (simp; omega)))) | (with_reducible refine boxed_at ?_; (focus (first | omega | (simp; done) | (simp; omega)))) | (with_reducible refine alloc_old ?_ ?_; (focus (first | omega | (simp; done) | (simp; omega)))) | (with_reducible refine boxed_old ?_ ?_; (focus (first | omega | (simp; done) | (simp; omega)))) | (with_reducible refine drew_old ?_)))) (by rfl) (by rfl) (by first | exact Ov.arr_one _ | (rw [← hz]; exact Ov.arr_one _) | simp [Value.oneCell']) ?_))
  refine (lright_o o _).mono ?_
  rw [HXV.out]
  rintro e w1 ⟨rfl, hb1⟩
  have h1 : w1.heap[w.heap.size]? = some (.cells o.arr 27 (0, 0)) := (hb1.block _ (by simp)).trans alloc_block
  have H1 : Hid (Below w.heap.size w w1) := Lib.hid (((Below.refl _ w).alloc (Nat.le_refl _) _).trans (hb1.mono (by first | omega | (simp; done) | (simp; omega))))
  have s1 : w.heap.size < w1.heap.size := by have := hb1.size; simp at this; omega
  clear hb1
  by_cases d : X = 0
  case' pos =>
    subst d
    have H2 := H1
    have h2 := h1
    have s2 := s1
    obtain ⟨w2, e2⟩ : ∃ w2, w2 = w1 := ⟨_, rfl⟩
    rw [← e2] at H2 h2 s2 ⊢
    clear e2 H1 h1 s1
    go_wp2_with (first | ((with_reducible_and_instances (show wpList _ _ _ (Oper.mk _ (Op.load 27 _) _ _ _ _ :: _) _ _)); refine wl_load Try.underlying27 rfl info16 rfl rfl rfl (by (repeat (first | assumption | (with_reducible refine alloc_at ?_; (focus (first | omega | (simp; done) | (simp; omega)))) | (with_reducible refine boxed_at ?_; (focus (first | omega | (simp; done) | (simp; omega)))) | (with_reducible refine alloc_old ?_ ?_; (focus (first | omega | (simp; done) | (simp; omega)))) | (with_reducible refine boxed_old ?_ ?_; (focus (first | omega | (simp; done) | (simp; omega)))) | (with_reducible refine drew_old ?_)))) (by rfl) ?_) | ((with_reducible_and_instances (show wpList _ _ _ (Oper.mk _ (Op.store 27 _ _) _ _ _ _ :: _) _ _)); refine wl_store info16 rfl rfl rfl rfl (by (repeat (first | assumption | (with_reducible refine alloc_at ?_; (focus (first | omega | (simp; done) | (simp; omega)))) | (with_reducible refine boxed_at ?_; (focus (first | omega | (simp; done) | (simp; omega)))) | (with_reducible refine alloc_old ?_ ?_; (focus (first | omega | (simp; done) | (simp; omega)))) | (with_reducible refine boxed_old ?_ ?_; (focus (first | omega | (simp; done) | (simp; omega)))) | (with_reducible refine drew_old ?_)))) (by rfl) (by rfl) (by first | exact Ov.arr_one _ | (rw [← hz]; exact Ov.arr_one _) | simp [Value.oneCell']) ?_))
  case' neg =>
    have z : (X != 0) = true := by simpa using d
    have HO : Hid (∀ w, Calls Try.prog 17 #[.agg o.arr] w (Owned w [])) := Lib.hid (by
      have := HE0.out
      unfold Ov.out at this
      rw [HXV.out, if_neg d] at this
      exact this)
    clear d
    go_wp2_with (first | ((with_reducible_and_instances (show wpList _ _ _ (Oper.mk _ (Op.load 27 _) _ _ _ _ :: _) _ _)); refine wl_load Try.underlying27 rfl info16 rfl rfl rfl (by (repeat (first | assumption | (with_reducible refine alloc_at ?_; (focus (first | omega | (simp; done) | (simp; omega)))) | (with_reducible refine boxed_at ?_; (focus (first | omega | (simp; done) | (simp; omega)))) | (with_reducible refine alloc_old ?_ ?_; (focus (first | omega | (simp; done) | (simp; omega)))) | (with_reducible refine boxed_old ?_ ?_; (focus (first | omega | (simp; done) | (simp; omega)))) | (with_reducible refine drew_old ?_)))) (by rfl) ?_) | ((with_reducible_and_instances (show wpList _ _ _ (Oper.mk _ (Op.store 27 _ _) _ _ _ _ :: _) _ _)); refine wl_store info16 rfl rfl rfl rfl (by (repeat (first | assumption | (with_reducible refine alloc_at ?_; (focus (first | omega | (simp; done) | (simp; omega)))) | (with_reducible refine boxed_at ?_; (focus (first | omega | (simp; done) | (simp; omega)))) | (with_reducible refine alloc_old ?_ ?_; (focus (first | omega | (simp; done) | (simp; omega)))) | (with_reducible refine boxed_old ?_ ?_; (focus (first | omega | (simp; done) | (simp; omega)))) | (with_reducible refine drew_old ?_)))) (by rfl) (by rfl) (by first | exact Ov.arr_one _ | (rw [← hz]; exact Ov.arr_one _) | simp [Value.oneCell']) ?_))
    refine (HO.out _).mono ?_
    intro e w2 hO
    obtain ⟨A2, c2, rfl, HB2⟩ := hO.open_nil
    have h2 : w2.heap[w.heap.size]? = some (.cells o.arr 27 (0, 0)) := (HB2.out.block _ s1).trans h1
    have H2 : Hid (Below w.heap.size w w2) := Lib.hid (H1.out.trans (HB2.out.mono H1.out.size))
    have s2 : w.heap.size < w2.heap.size := Nat.lt_of_lt_of_le s1 HB2.out.size
    clear hO HB2 H1 h1 s1
    go_wp2_with (first | ((with_reducible_and_instances (show wpList _ _ _ (Oper.mk _ (Op.load 27 _) _ _ _ _ :: _) _ _)); refine wl_load Try.underlying27 rfl info16 rfl rfl rfl (by (repeat (first | assumption | (with_reducible refine alloc_at ?_; (focus (first | omega | (simp; done) | (simp; omega)))) | (with_reducible refine boxed_at ?_; (focus (first | omega | (simp; done) | (simp; omega)))) | (with_reducible refine alloc_old ?_ ?_; (focus (first | omega | (simp; done) | (simp; omega)))) | (with_reducible refine boxed_old ?_ ?_; (focus (first | omega | (simp; done) | (simp; omega)))) | (with_reducible refine drew_old ?_)))) (by rfl) ?_) | ((with_reducible_and_instances (show wpList _ _ _ (Oper.mk _ (Op.store 27 _ _) _ _ _ _ :: _) _ _)); refine wl_store info16 rfl rfl rfl rfl (by (repeat (first | assumption | (with_reducible refine alloc_at ?_; (focus (first | omega | (simp; done) | (simp; omega)))) | (with_reducible refine boxed_at ?_; (focus (first | omega | (simp; done) | (simp; omega)))) | (with_reducible refine alloc_old ?_ ?_; (focus (first | omega | (simp; done) | (simp; omega)))) | (with_reducible refine boxed_old ?_ ?_; (focus (first | omega | (simp; done) | (simp; omega)))) | (with_reducible refine drew_old ?_)))) (by rfl) (by rfl) (by first | exact Ov.arr_one _ | (rw [← hz]; exact Ov.arr_one _) | simp [Value.oneCell']) ?_))
  all_goals
    refine (HNA.out _).mono ?_
    rintro e w3 ⟨rfl, hb3⟩
    have h3 : w3.heap[w.heap.size]? = some (.cells o.arr 27 (0, 0)) := (hb3.block _ s2).trans h2
    have H3 : Hid (Below w.heap.size w w3) := Lib.hid (H2.out.trans (hb3.mono H2.out.size))
    have s3 : w.heap.size < w3.heap.size := Nat.lt_of_lt_of_le s2 hb3.size
    clear hb3 H2 h2 s2
    go_wp2_with (first | ((with_reducible_and_instances (show wpList _ _ _ (Oper.mk _ (Op.load 27 _) _ _ _ _ :: _) _ _)); refine wl_load Try.underlying27 rfl info16 rfl rfl rfl (by (repeat (first | assumption | (with_reducible refine alloc_at ?_; (focus (first | omega | (simp; done) | (simp; omega)))) | (with_reducible refine boxed_at ?_; (focus (first | omega | (simp; done) | (simp; omega)))) | (with_reducible refine alloc_old ?_ ?_; (focus (first | omega | (simp; done) | (simp; omega)))) | (with_reducible refine boxed_old ?_ ?_; (focus (first | omega | (simp; done) | (simp; omega)))) | (with_reducible refine drew_old ?_)))) (by rfl) ?_) | ((with_reducible_and_instances (show wpList _ _ _ (Oper.mk _ (Op.store 27 _ _) _ _ _ _ :: _) _ _)); refine wl_store info16 rfl rfl rfl rfl (by (repeat (first | assumption | (with_reducible refine alloc_at ?_; (focus (first | omega | (simp; done) | (simp; omega)))) | (with_reducible refine boxed_at ?_; (focus (first | omega | (simp; done) | (simp; omega)))) | (with_reducible refine alloc_old ?_ ?_; (focus (first | omega | (simp; done) | (simp; omega)))) | (with_reducible refine boxed_old ?_ ?_; (focus (first | omega | (simp; done) | (simp; omega)))) | (with_reducible refine drew_old ?_)))) (by rfl) (by rfl) (by first | exact Ov.arr_one _ | (rw [← hz]; exact Ov.arr_one _) | simp [Value.oneCell']) ?_))
    refine (HX.out _).mono ?_
    intro e w4 hO
    obtain ⟨A4, n4, c4, rfl, HN4, HO4, HB4, HR4, h41, h42⟩ := hO.open_
    have h4 : w4.heap[w.heap.size]? = some (.cells x.arr 27 (0, 0)) := (HB4.out.block _ (by rw [boxed_size]; exact s3)).trans (boxed_block s3)
    have H4 : Hid (Below w.heap.size w w4) := Lib.hid ((boxed_below H3.out (Nat.le_refl _)).trans (HB4.out.mono (by rw [boxed_size]; exact Nat.le_of_lt s3)))
    have s4 : w.heap.size < w4.heap.size := Nat.lt_of_lt_of_le s3 (by have := HB4.out.size; rwa [boxed_size] at this)
    clear hO HB4 H3 h3 s3 HO4
    go_wp2_with (first | ((with_reducible_and_instances (show wpList _ _ _ (Oper.mk _ (Op.load 27 _) _ _ _ _ :: _) _ _)); refine wl_load Try.underlying27 rfl info16 rfl rfl rfl (by (repeat (first | assumption | (with_reducible refine alloc_at ?_; (focus (first | omega | (simp; done) | (simp; omega)))) | (with_reducible refine boxed_at ?_; (focus (first | omega | (simp; done) | (simp; omega)))) | (with_reducible refine alloc_old ?_ ?_; (focus (first | omega | (simp; done) | (simp; omega)))) | (with_reducible refine boxed_old ?_ ?_; (focus (first | omega | (simp; done) | (simp; omega)))) | (with_reducible refine drew_old ?_)))) (by rfl) ?_) | ((with_reducible_and_instances (show wpList _ _ _ (Oper.mk _ (Op.store 27 _ _) _ _ _ _ :: _) _ _)); refine wl_store info16 rfl rfl rfl rfl (by (repeat (first | assumption | (with_reducible refine alloc_at ?_; (focus (first | omega | (simp; done) | (simp; omega)))) | (with_reducible refine boxed_at ?_; (focus (first | omega | (simp; done) | (simp; omega)))) | (with_reducible refine alloc_old ?_ ?_; (focus (first | omega | (simp; done) | (simp; omega)))) | (with_reducible refine boxed_old ?_ ?_; (focus (first | omega | (simp; done) | (simp; omega)))) | (with_reducible refine drew_old ?_)))) (by rfl) (by rfl) (by first | exact Ov.arr_one _ | (rw [← hz]; exact Ov.arr_one _) | simp [Value.oneCell']) ?_))
    refine (decode_any w4 A4 n4 c4 x.bytes HR4.out (Nat.le_trans HLE.out (by omega)) (fun y hy => by have := x.bytes_ok y hy; omega) HN4.out).mono ?_
    rintro e w5 ⟨x', e', rfl, hd, hb5⟩
    obtain ⟨rfl, rfl⟩ := hd.is HRX.out HWX.out
    rw [Ov.val_arr]
    have h5 : w5.heap[w.heap.size]? = some (.cells x'.arr 27 (0, 0)) := (hb5.block _ s4).trans h4
    have H5 : Hid (Below w.heap.size w w5) := Lib.hid (H4.out.trans (hb5.mono H4.out.size))
    have s5 : w.heap.size < w5.heap.size := Nat.lt_of_lt_of_le s4 hb5.size
    have HR5 : Hid (Rd w5 .u8 w4.heap.size A4 x'.bytes) := Lib.hid (HR4.out.below hb5)
    have H45 := Lib.hid hb5.size
    have hc0 : w5.cell? ⟨w.heap.size, 0, none⟩ = some (.int .u8 2) := by rw [cell_of_row _ _ 0 _ _ _ h5, ← HK.out]; rfl
    have hc1 : w5.cell? ⟨w.heap.size, 1, none⟩ = some (.int .i64 x'.s) := cell_of_row _ _ 1 _ _ _ h5
    have hc2 : w5.cell? ⟨w.heap.size, 2, none⟩ = some (.int .i64 x'.p) := cell_of_row _ _ 2 _ _ _ h5
    clear hd hb5 H4 h4 s4
    go_wp2_with (first | ((with_reducible_and_instances (show wpList _ _ _ (Oper.mk _ (Op.load 27 _) _ _ _ _ :: _) _ _)); refine wl_load Try.underlying27 rfl info16 rfl rfl rfl (by (repeat (first | assumption | (with_reducible refine alloc_at ?_; (focus (first | omega | (simp; done) | (simp; omega)))) | (with_reducible refine boxed_at ?_; (focus (first | omega | (simp; done) | (simp; omega)))) | (with_reducible refine alloc_old ?_ ?_; (focus (first | omega | (simp; done) | (simp; omega)))) | (with_reducible refine boxed_old ?_ ?_; (focus (first | omega | (simp; done) | (simp; omega)))) | (with_reducible refine drew_old ?_)))) (by rfl) ?_) | ((with_reducible_and_instances (show wpList _ _ _ (Oper.mk _ (Op.store 27 _ _) _ _ _ _ :: _) _ _)); refine wl_store info16 rfl rfl rfl rfl (by (repeat (first | assumption | (with_reducible refine alloc_at ?_; (focus (first | omega | (simp; done) | (simp; omega)))) | (with_reducible refine boxed_at ?_; (focus (first | omega | (simp; done) | (simp; omega)))) | (with_reducible refine alloc_old ?_ ?_; (focus (first | omega | (simp; done) | (simp; omega)))) | (with_reducible refine boxed_old ?_ ?_; (focus (first | omega | (simp; done) | (simp; omega)))) | (with_reducible refine drew_old ?_)))) (by rfl) (by rfl) (by first | exact Ov.arr_one _ | (rw [← hz]; exact Ov.arr_one _) | simp [Value.oneCell']) ?_) | (at_builtin; refine wpList_append_lits rfl _ _ rfl rfl _ _ 2 [x'.s, x'.p] _ _ 2 rfl rfl (by simp) (by simp) rfl rfl rfl (by omega) ?_; intro A7 c7 w7 hb7 hr7; have hB1 := (hb7.block w.heap.size (by simp; omega)).trans (show _ = some (Obj.cells x'.arr 27 (0, 0)) by (repeat (first | assumption | (with_reducible refine alloc_at ?_; (focus (first | omega | (simp; done) | (simp; omega)))) | (with_reducible refine boxed_at ?_; (focus (first | omega | (simp; done) | (simp; omega)))) | (with_reducible refine alloc_old ?_ ?_; (focus (first | omega | (simp; done) | (simp; omega)))) | (with_reducible refine boxed_old ?_ ?_; (focus (first | omega | (simp; done) | (simp; omega)))) | (with_reducible refine drew_old ?_)))); have hB4 := (hb7.block w5.heap.size (by simp)).trans (show _ = some (Obj.cells x'.arr 27 (0, 0)) by (repeat (first | assumption | (with_reducible refine alloc_at ?_; (focus (first | omega | (simp; done) | (simp; omega)))) | (with_reducible refine boxed_at ?_; (focus (first | omega | (simp; done) | (simp; omega)))) | (with_reducible refine alloc_old ?_ ?_; (focus (first | omega | (simp; done) | (simp; omega)))) | (with_reducible refine boxed_old ?_ ?_; (focus (first | omega | (simp; done) | (simp; omega)))) | (with_reducible refine drew_old ?_)))); have hb57 : Below w5.heap.size w5 w7 := (boxed_below ((Below.refl _ _).alloc (Nat.le_refl _) _) (Nat.le_refl _)).trans (hb7.mono (by simp)); have hs57 : w5.heap.size < w7.heap.size := (by have := hb7.size; simp at this; omega); have HB1 := Lib.hid hB1; have HB4 := Lib.hid hB4; have HR7 := Lib.hid hr7; have H57 := Lib.hid hb57; clear hB1 hB4 hb7 hr7 hb57))
    have H7 : Hid (Below w.heap.size w w7) := Lib.hid (H5.out.trans (H57.out.mono H5.out.size))
    have s74 : w5.heap.size < w7.heap.size := hs57
    have s71 : w.heap.size < w7.heap.size := Nat.lt_trans s5 hs57
    have HCV : Hid (∀ w', Below w7.heap.size w7 w' → (convert 34 9 (.slice A4 n4 c4)).run Try.prog w' = .ok (.string (bst x'.bytes)) w') := Lib.hid (fun w' hw => conv_len w' A4 _ c4 n4 _ (HR5.out.below ((H57.out.mono H45.out).trans (hw.mono (Nat.le_trans H45.out H57.out.size)))) HN4.out)
    clear h5 hc0 hc1 hc2
    refine lane_start (ord := [0, 1, 2, 3, 4, 5, 6, 7, 8, 9, 10, 11, 12, 13, 14, 15, 16, 17, 18]) (S := fun w' => (w'.heap[w5.heap.size]? = some (.cells x'.arr 27 (0, 0)) ∧ w'.heap[w.heap.size]? = some (.cells x'.arr 27 (0, 0))) ∧ (convert 34 9 (.slice A4 n4 c4)).run Try.prog w' = .ok (.string (bst x'.bytes)) w') rfl (by kernel_rfl) ⟨⟨HB4.out, HB1.out⟩, HCV.out _ ((Below.refl _ _).drew)⟩ (fun hHeld => ?_)
    refine lane_alone rfl (by kernel_rfl) (by rfl) (fun K hK => ?_)
    go_simp
    refine (awake_any _).mono ?_
    rintro e w8 ⟨rfl, hb8⟩
    have hb8 : Below w7.heap.size w7 w8 := ((Below.refl _ _).drew).trans hb8
    have h81 := (hb8.block _ s71).trans HB1.out
    have h84 := (hb8.block _ s74).trans HB4.out
    refine hK _ _ ⟨⟨h84, h81⟩, HCV.out _ hb8⟩ (fun hHeld => ?_)
    clear hK K
    refine lane_take (v := ?_) rfl (by kernel_rfl) (by kernel_rfl) (by rfl) ?_ (by assumption) ?_
    rotate_left
    · intro w' hSw
      obtain ⟨_, hc⟩ := hSw
      go_simp
      try (with_reducible rfl)
    simp only [Act.put, List.setIfInBounds_toArray, List.set_cons_zero, List.set_cons_succ]
    refine lane_take (v := ?_) rfl (by kernel_rfl) (by kernel_rfl) (by rfl) ?_ (by assumption) ?_
    rotate_left
    · intro w' hSw
      obtain ⟨_, hc⟩ := hSw
      go_simp
      try (with_reducible rfl)
    simp only [Act.put, List.setIfInBounds_toArray, List.set_cons_zero, List.set_cons_succ]
    refine lane_take (v := ?_) rfl (by kernel_rfl) (by kernel_rfl) (by rfl) ?_ (by assumption) ?_
    rotate_left
    · intro w' hSw
      obtain ⟨_, hc⟩ := hSw
      go_simp
      try (with_reducible rfl)
    simp only [Act.put, List.setIfInBounds_toArray, List.set_cons_zero, List.set_cons_succ]
    refine lane_take (v := ?_) rfl (by kernel_rfl) (by kernel_rfl) (by rfl) ?_ (by assumption) ?_
    rotate_left
    · intro w' hSw
      obtain ⟨_, hc⟩ := hSw
      go_simp
      try (with_reducible rfl)
    simp only [Act.put, List.setIfInBounds_toArray, List.set_cons_zero, List.set_cons_succ]
    refine lane_alone rfl (by kernel_rfl) (by rfl) (fun K hK => ?_)
    go_simp
    refine (packs_any A7 w7.heap.size c7 _ w8 (HR7.out.below hb8) hb8.size HNL.out HNI.out).mono ?_
    intro e w9 hO
    rw [HBY.out] at hO
    obtain ⟨A9, n9, c9, rfl, HN9, _, HL9, HR9, _, _⟩ := hO.open_
    have hb9 := hb8.trans (HL9.out.mono hb8.size)
    have h91 := (hb9.block _ s71).trans HB1.out
    have h94 := (hb9.block _ s74).trans HB4.out
    have hcv9 := conv_len w9 A9 _ c9 n9 _ HR9.out HN9.out
    refine hK _ _ ⟨⟨h94, h91⟩, HCV.out _ hb9⟩ (fun hHeld => ?_)
    clear hK K
    clear h81 h84
    refine lane_alone rfl (by kernel_rfl) (by rfl) (fun K hK => ?_)
    go_simp
    refine hK _ _ hHeld (fun hHeld => ?_)
    clear hK K hcv9
    refine lane_take (v := ?_) rfl (by kernel_rfl) (by kernel_rfl) (by rfl) ?_ (by assumption) ?_
    rotate_left
    · intro w' hSw
      go_simp
      try (with_reducible rfl)
    simp only [Act.put, List.setIfInBounds_toArray, List.set_cons_zero, List.set_cons_succ]
    refine lane_take (v := ?_) rfl (by kernel_rfl) (by kernel_rfl) (by rfl) ?_ (by assumption) ?_
    rotate_left
    · intro w' hSw
      go_simp
      try (with_reducible rfl)
    simp only [Act.put, List.setIfInBounds_toArray, List.set_cons_zero, List.set_cons_succ]
    refine lane_take (v := ?_) rfl (by kernel_rfl) (by kernel_rfl) (by rfl) ?_ (by assumption) ?_
    rotate_left
    · intro w' hSw
      go_simp
      try (with_reducible rfl)
    simp only [Act.put, List.setIfInBounds_toArray, List.set_cons_zero, List.set_cons_succ]
    refine lane_take (v := ?_) rfl (by kernel_rfl) (by kernel_rfl) (by rfl) ?_ (by assumption) ?_
    rotate_left
    · intro w' hSw
      go_simp
      try (with_reducible rfl)
    simp only [Act.put, List.setIfInBounds_toArray, List.set_cons_zero, List.set_cons_succ]
    refine lane_take (v := ?_) rfl (by kernel_rfl) (by kernel_rfl) (by rfl) ?_ (by assumption) ?_
    rotate_left
    · intro w' hSw
      go_simp
      try (with_reducible rfl)
    simp only [Act.put, List.setIfInBounds_toArray, List.set_cons_zero, List.set_cons_succ]
    refine lane_take (v := ?_) rfl (by kernel_rfl) (by kernel_rfl) (by rfl) ?_ (by assumption) ?_
    rotate_left
    · intro w' hSw
      go_simp
      try (with_reducible rfl)
    simp only [Act.put, List.setIfInBounds_toArray, List.set_cons_zero, List.set_cons_succ]
    refine lane_take (v := ?_) rfl (by kernel_rfl) (by kernel_rfl) (by rfl) ?_ (by assumption) ?_
    rotate_left
    · intro w' hSw
      go_simp
      try (with_reducible rfl)
    simp only [Act.put, List.setIfInBounds_toArray, List.set_cons_zero, List.set_cons_succ]
    refine lane_take rfl (by kernel_rfl) (by kernel_rfl) (by rfl) (fun w' hS => exec_load rfl rfl (ld16 hS.1.1 rfl)) (by assumption) ?_
    simp only [Act.put, List.setIfInBounds_toArray, List.set_cons_zero, List.set_cons_succ]
    refine lane_take rfl (by kernel_rfl) (by kernel_rfl) (by rfl) (fun w' hS => exec_load rfl rfl (ld16 hS.1.2 rfl)) (by assumption) ?_
    simp only [Act.put, List.setIfInBounds_toArray, List.set_cons_zero, List.set_cons_succ]
    refine lane_take rfl (by kernel_rfl) (by kernel_rfl) (by rfl) (fun w' hS => exec_eql16' (decide_eq_true rfl) rfl rfl rfl w') (by assumption) ?_
    simp only [Act.put, List.setIfInBounds_toArray, List.set_cons_zero, List.set_cons_succ]
    repeat (first
      | (refine lane_skip rfl (by kernel_rfl) (by kernel_rfl) (by rfl) (by assumption) ?_; simp only [Act.put, List.setIfInBounds_toArray, List.set_cons_zero, List.set_cons_succ])
      | (refine lane_take (v := ?_) rfl (by kernel_rfl) (by kernel_rfl) (by rfl) ?_ (by assumption) ?_; rotate_left; (focus (intro w' hSw; go_simp; try (with_reducible rfl))); simp only [Act.put, List.setIfInBounds_toArray, List.set_cons_zero, List.set_cons_succ]))
    refine lane_end (by kernel_rfl) ?_
    clear hHeld
    have HF := Lib.hid (H7.out.trans (hb9.mono H7.out.size))
    clear h91 h94 hb8 hb9
    go_wp2
    go_ret
    exact ⟨rfl, HF.out⟩

set_option maxHeartbeats 4000000 in
theorem orderBytes_3 (o : Ov) (ho : o.Wf) (hk : o.near.k = 3) (w : World) : Calls Try.prog 4 #[.agg o.arr] w fun e w' => e = .returned (.bool true) ∧ Below w.heap.size w w' := by
  have HNA := Lib.hid (near_o o ho)
  have wx := o.near_wf ho
  have rx := o.near_right
  have HE0 := Lib.hid (fun w => enc_o o ho.2.2.2.2.1.2.1.1 w)
  have HX := Lib.hid (fun w => enc_o o.near wx.2.2.2.2.1.2.1.1 w)
  rw [o.out_near] at HX
  clear ho
  generalize o.near = x at *
  have hn : nm x.k = 2 := by rw [hk]; rfl
  have hby : Pk.encs (3 :: [x.s, x.p]) = x.bytes := by
    unfold Ov.bytes
    rw [Ov.rest_two hn, hk, Pk.encs_cons]
  have HBY := Lib.hid hby
  have hle := x.len wx rx
  have HLE := Lib.hid hle.2
  have hni : I64 (3 :: [x.s, x.p]) := by
    have hN := (right_zero rx).1
    have hb := num_2 hn hN
    intro y hy; simp only [List.mem_cons, List.not_mem_nil, or_false] at hy; rcases hy with rfl | rfl | rfl <;> omega
  have HNI := Lib.hid hni
  have HNL : Hid ((3 :: [x.s, x.p] : List Int).length ≤ 1000) := Lib.hid (by simp)
  have HK := Lib.hid hk
  have HRX := Lib.hid rx
  have HWX := Lib.hid wx
  have hwk : IntKind.i64.wrap 3 = 3 := by simp only [IntKind.wrap_i64]; omega
  clear hn hby hle hni hk rx wx
  obtain ⟨X, hX⟩ : ∃ X, o.right = X := ⟨_, rfl⟩
  have HXV := Lib.hid hX
  clear hX
  go_enter Try.func4, Try.ntmps4
  go_wp2_with (first | ((with_reducible_and_instances (show wpList _ _ _ (Oper.mk _ (Op.load 27 _) _ _ _ _ :: _) _ _)); refine wl_load Try.underlying27 rfl info16 rfl rfl rfl (by (repeat (first | assumption | (with_reducible refine alloc_at ?_; (focus (first | omega | (simp; done) | (simp; omega)))) | (with_reducible refine boxed_at ?_; (focus (first | omega | (simp; done) | (simp; omega)))) | (with_reducible refine alloc_old ?_ ?_; (focus (first | omega | (simp; done) | (simp; omega)))) | (with_reducible refine boxed_old ?_ ?_; (focus (first | omega | (simp; done) | (simp; omega)))) | (with_reducible refine drew_old ?_)))) (by rfl) ?_) | ((with_reducible_and_instances (show wpList _ _ _ (Oper.mk _ (Op.store 27 _ _) _ _ _ _ :: _) _ _)); refine wl_store info16 rfl rfl rfl rfl (by (repeat (first | assumption | (with_reducible refine alloc_at ?_; (focus (first | omega | (simp; done) | (simp; omega)))) | (with_reducible refine boxed_at ?_; (focus (first | omega | (simp; done) | (simp; omega)))) | (with_reducible refine alloc_old ?_ ?_; (focus (first | omega | (simp; done) | (simp; omega)))) | (with_reducible refine boxed_old ?_ ?_; (focus (first | omega | (simp; done) | (simp; omega)))) | (with_reducible refine drew_old ?_)))) (by rfl) (by rfl) (by first | exact Ov.arr_one _ | (rw [← hz]; exact Ov.arr_one _) | simp [Value.oneCell']) ?_))
  refine (lright_o o _).mono ?_
  rw [HXV.out]
  rintro e w1 ⟨rfl, hb1⟩
  have h1 : w1.heap[w.heap.size]? = some (.cells o.arr 27 (0, 0)) := (hb1.block _ (by simp)).trans alloc_block
  have H1 : Hid (Below w.heap.size w w1) := Lib.hid (((Below.refl _ w).alloc (Nat.le_refl _) _).trans (hb1.mono (by first | omega | (simp; done) | (simp; omega))))
  have s1 : w.heap.size < w1.heap.size := by have := hb1.size; simp at this; omega
  clear hb1
  by_cases d : X = 0
  case' pos =>
    subst d
    have H2 := H1
    have h2 := h1
    have s2 := s1
    obtain ⟨w2, e2⟩ : ∃ w2, w2 = w1 := ⟨_, rfl⟩
    rw [← e2] at H2 h2 s2 ⊢
    clear e2 H1 h1 s1
    go_wp2_with (first | ((with_reducible_and_instances (show wpList _ _ _ (Oper.mk _ (Op.load 27 _) _ _ _ _ :: _) _ _)); refine wl_load Try.underlying27 rfl info16 rfl rfl rfl (by (repeat (first | assumption | (with_reducible refine alloc_at ?_; (focus (first | omega | (simp; done) | (simp; omega)))) | (with_reducible refine boxed_at ?_; (focus (first | omega | (simp; done) | (simp; omega)))) | (with_reducible refine alloc_old ?_ ?_; (focus (first | omega | (simp; done) | (simp; omega)))) | (with_reducible refine boxed_old ?_ ?_; (focus (first | omega | (simp; done) | (simp; omega)))) | (with_reducible refine drew_old ?_)))) (by rfl) ?_) | ((with_reducible_and_instances (show wpList _ _ _ (Oper.mk _ (Op.store 27 _ _) _ _ _ _ :: _) _ _)); refine wl_store info16 rfl rfl rfl rfl (by (repeat (first | assumption | (with_reducible refine alloc_at ?_; (focus (first | omega | (simp; done) | (simp; omega)))) | (with_reducible refine boxed_at ?_; (focus (first | omega | (simp; done) | (simp; omega)))) | (with_reducible refine alloc_old ?_ ?_; (focus (first | omega | (simp; done) | (simp; omega)))) | (with_reducible refine boxed_old ?_ ?_; (focus (first | omega | (simp; done) | (simp; omega)))) | (with_reducible refine drew_old ?_)))) (by rfl) (by rfl) (by first | exact Ov.arr_one _ | (rw [← hz]; exact Ov.arr_one _) | simp [Value.oneCell']) ?_))
  case' neg =>
    have z : (X != 0) = true := by simpa using d
    have HO : Hid (∀ w, Calls Try.prog 17 #[.agg o.arr] w (Owned w [])) := Lib.hid (by
      have := HE0.out
      unfold Ov.out at this
      rw [HXV.out, if_neg d] at this
      exact this)
    clear d
    go_wp2_with (first | ((with_reducible_and_instances (show wpList _ _ _ (Oper.mk _ (Op.load 27 _) _ _ _ _ :: _) _ _)); refine wl_load Try.underlying27 rfl info16 rfl rfl rfl (by (repeat (first | assumption | (with_reducible refine alloc_at ?_; (focus (first | omega | (simp; done) | (simp; omega)))) | (with_reducible refine boxed_at ?_; (focus (first | omega | (simp; done) | (simp; omega)))) | (with_reducible refine alloc_old ?_ ?_; (focus (first | omega | (simp; done) | (simp; omega)))) | (with_reducible refine boxed_old ?_ ?_; (focus (first | omega | (simp; done) | (simp; omega)))) | (with_reducible refine drew_old ?_)))) (by rfl) ?_) | ((with_reducible_and_instances (show wpList _ _ _ (Oper.mk _ (Op.store 27 _ _) _ _ _ _ :: _) _ _)); refine wl_store info16 rfl rfl rfl rfl (by (repeat (first | assumption | (with_reducible refine alloc_at ?_; (focus (first | omega | (simp; done) | (simp; omega)))) | (with_reducible refine boxed_at ?_; (focus (first | omega | (simp; done) | (simp; omega)))) | (with_reducible refine alloc_old ?_ ?_; (focus (first | omega | (simp; done) | (simp; omega)))) | (with_reducible refine boxed_old ?_ ?_; (focus (first | omega | (simp; done) | (simp; omega)))) | (with_reducible refine drew_old ?_)))) (by rfl) (by rfl) (by first | exact Ov.arr_one _ | (rw [← hz]; exact Ov.arr_one _) | simp [Value.oneCell']) ?_))
    refine (HO.out _).mono ?_
    intro e w2 hO
    obtain ⟨A2, c2, rfl, HB2⟩ := hO.open_nil
    have h2 : w2.heap[w.heap.size]? = some (.cells o.arr 27 (0, 0)) := (HB2.out.block _ s1).trans h1
    have H2 : Hid (Below w.heap.size w w2) := Lib.hid (H1.out.trans (HB2.out.mono H1.out.size))
    have s2 : w.heap.size < w2.heap.size := Nat.lt_of_lt_of_le s1 HB2.out.size
    clear hO HB2 H1 h1 s1
    go_wp2_with (first | ((with_reducible_and_instances (show wpList _ _ _ (Oper.mk _ (Op.load 27 _) _ _ _ _ :: _) _ _)); refine wl_load Try.underlying27 rfl info16 rfl rfl rfl (by (repeat (first | assumption | (with_reducible refine alloc_at ?_; (focus (first | omega | (simp; done) | (simp; omega)))) | (with_reducible refine boxed_at ?_; (focus (first | omega | (simp; done) | (simp; omega)))) | (with_reducible refine alloc_old ?_ ?_; (focus (first | omega | (simp; done) | (simp; omega)))) | (with_reducible refine boxed_old ?_ ?_; (focus (first | omega | (simp; done) | (simp; omega)))) | (with_reducible refine drew_old ?_)))) (by rfl) ?_) | ((with_reducible_and_instances (show wpList _ _ _ (Oper.mk _ (Op.store 27 _ _) _ _ _ _ :: _) _ _)); refine wl_store info16 rfl rfl rfl rfl (by (repeat (first | assumption | (with_reducible refine alloc_at ?_; (focus (first | omega | (simp; done) | (simp; omega)))) | (with_reducible refine boxed_at ?_; (focus (first | omega | (simp; done) | (simp; omega)))) | (with_reducible refine alloc_old ?_ ?_; (focus (first | omega | (simp; done) | (simp; omega)))) | (with_reducible refine boxed_old ?_ ?_; (focus (first | omega | (simp; done) | (simp; omega)))) | (with_reducible refine drew_old ?_)))) (by rfl) (by rfl) (by first | exact Ov.arr_one _ | (rw [← hz]; exact Ov.arr_one _) | simp [Value.oneCell']) ?_))
  all_goals
    refine (HNA.out _).mono ?_
    rintro e w3 ⟨rfl, hb3⟩
    have h3 : w3.heap[w.heap.size]? = some (.cells o.arr 27 (0, 0)) := (hb3.block _ s2).trans h2
    have H3 : Hid (Below w.heap.size w w3) := Lib.hid (H2.out.trans (hb3.mono H2.out.size))
    have s3 : w.heap.size < w3.heap.size := Nat.lt_of_lt_of_le s2 hb3.size
    clear hb3 H2 h2 s2
    go_wp2_with (first | ((with_reducible_and_instances (show wpList _ _ _ (Oper.mk _ (Op.load 27 _) _ _ _ _ :: _) _ _)); refine wl_load Try.underlying27 rfl info16 rfl rfl rfl (by (repeat (first | assumption | (with_reducible refine alloc_at ?_; (focus (first | omega | (simp; done) | (simp; omega)))) | (with_reducible refine boxed_at ?_; (focus (first | omega | (simp; done) | (simp; omega)))) | (with_reducible refine alloc_old ?_ ?_; (focus (first | omega | (simp; done) | (simp; omega)))) | (with_reducible refine boxed_old ?_ ?_; (focus (first | omega | (simp; done) | (simp; omega)))) | (with_reducible refine drew_old ?_)))) (by rfl) ?_) | ((with_reducible_and_instances (show wpList _ _ _ (Oper.mk _ (Op.store 27 _ _) _ _ _ _ :: _) _ _)); refine wl_store info16 rfl rfl rfl rfl (by (repeat (first | assumption | (with_reducible refine alloc_at ?_; (focus (first | omega | (simp; done) | (simp; omega)))) | (with_reducible refine boxed_at ?_; (focus (first | omega | (simp; done) | (simp; omega)))) | (with_reducible refine alloc_old ?_ ?_; (focus (first | omega | (simp; done) | (simp; omega)))) | (with_reducible refine boxed_old ?_ ?_; (focus (first | omega | (simp; done) | (simp; omega)))) | (with_reducible refine drew_old ?_)))) (by rfl) (by rfl) (by first | exact Ov.arr_one _ | (rw [← hz]; exact Ov.arr_one _) | simp [Value.oneCell']) ?_))
    refine (HX.out _).mono ?_
    intro e w4 hO
    obtain ⟨A4, n4, c4, rfl, HN4, HO4, HB4, HR4, h41, h42⟩ := hO.open_
    have h4 : w4.heap[w.heap.size]? = some (.cells x.arr 27 (0, 0)) := (HB4.out.block _ (by rw [boxed_size]; exact s3)).trans (boxed_block s3)
    have H4 : Hid (Below w.heap.size w w4) := Lib.hid ((boxed_below H3.out (Nat.le_refl _)).trans (HB4.out.mono (by rw [boxed_size]; exact Nat.le_of_lt s3)))
    have s4 : w.heap.size < w4.heap.size := Nat.lt_of_lt_of_le s3 (by have := HB4.out.size; rwa [boxed_size] at this)
    clear hO HB4 H3 h3 s3 HO4
    go_wp2_with (first | ((with_reducible_and_instances (show wpList _ _ _ (Oper.mk _ (Op.load 27 _) _ _ _ _ :: _) _ _)); refine wl_load Try.underlying27 rfl info16 rfl rfl rfl (by (repeat (first | assumption | (with_reducible refine alloc_at ?_; (focus (first | omega | (simp; done) | (simp; omega)))) | (with_reducible refine boxed_at ?_; (focus (first | omega | (simp; done) | (simp; omega)))) | (with_reducible refine alloc_old ?_ ?_; (focus (first | omega | (simp; done) | (simp; omega)))) | (with_reducible refine boxed_old ?_ ?_; (focus (first | omega | (simp; done) | (simp; omega)))) | (with_reducible refine drew_old ?_)))) (by rfl) ?_) | ((with_reducible_and_instances (show wpList _ _ _ (Oper.mk _ (Op.store 27 _ _) _ _ _ _ :: _) _ _)); refine wl_store info16 rfl rfl rfl rfl (by (repeat (first | assumption | (with_reducible refine alloc_at ?_; (focus (first | omega | (simp; done) | (simp; omega)))) | (with_reducible refine boxed_at ?_; (focus (first | omega | (simp; done) | (simp; omega)))) | (with_reducible refine alloc_old ?_ ?_; (focus (first | omega | (simp; done) | (simp; omega)))) | (with_reducible refine boxed_old ?_ ?_; (focus (first | omega | (simp; done) | (simp; omega)))) | (with_reducible refine drew_old ?_)))) (by rfl) (by rfl) (by first | exact Ov.arr_one _ | (rw [← hz]; exact Ov.arr_one _) | simp [Value.oneCell']) ?_))
    refine (decode_any w4 A4 n4 c4 x.bytes HR4.out (Nat.le_trans HLE.out (by omega)) (fun y hy => by have := x.bytes_ok y hy; omega) HN4.out).mono ?_
    rintro e w5 ⟨x', e', rfl, hd, hb5⟩
    obtain ⟨rfl, rfl⟩ := hd.is HRX.out HWX.out
    rw [Ov.val_arr]
    have h5 : w5.heap[w.heap.size]? = some (.cells x'.arr 27 (0, 0)) := (hb5.block _ s4).trans h4
    have H5 : Hid (Below w.heap.size w w5) := Lib.hid (H4.out.trans (hb5.mono H4.out.size))
    have s5 : w.heap.size < w5.heap.size := Nat.lt_of_lt_of_le s4 hb5.size
    have HR5 : Hid (Rd w5 .u8 w4.heap.size A4 x'.bytes) := Lib.hid (HR4.out.below hb5)
    have H45 := Lib.hid hb5.size
    have hc0 : w5.cell? ⟨w.heap.size, 0, none⟩ = some (.int .u8 3) := by rw [cell_of_row _ _ 0 _ _ _ h5, ← HK.out]; rfl
    have hc1 : w5.cell? ⟨w.heap.size, 1, none⟩ = some (.int .i64 x'.s) := cell_of_row _ _ 1 _ _ _ h5
    have hc2 : w5.cell? ⟨w.heap.size, 2, none⟩ = some (.int .i64 x'.p) := cell_of_row _ _ 2 _ _ _ h5
    clear hd hb5 H4 h4 s4
    go_wp2_with (first | ((with_reducible_and_instances (show wpList _ _ _ (Oper.mk _ (Op.load 27 _) _ _ _ _ :: _) _ _)); refine wl_load Try.underlying27 rfl info16 rfl rfl rfl (by (repeat (first | assumption | (with_reducible refine alloc_at ?_; (focus (first | omega | (simp; done) | (simp; omega)))) | (with_reducible refine boxed_at ?_; (focus (first | omega | (simp; done) | (simp; omega)))) | (with_reducible refine alloc_old ?_ ?_; (focus (first | omega | (simp; done) | (simp; omega)))) | (with_reducible refine boxed_old ?_ ?_; (focus (first | omega | (simp; done) | (simp; omega)))) | (with_reducible refine drew_old ?_)))) (by rfl) ?_) | ((with_reducible_and_instances (show wpList _ _ _ (Oper.mk _ (Op.store 27 _ _) _ _ _ _ :: _) _ _)); refine wl_store info16 rfl rfl rfl rfl (by (repeat (first | assumption | (with_reducible refine alloc_at ?_; (focus (first | omega | (simp; done) | (simp; omega)))) | (with_reducible refine boxed_at ?_; (focus (first | omega | (simp; done) | (simp; omega)))) | (with_reducible refine alloc_old ?_ ?_; (focus (first | omega | (simp; done) | (simp; omega)))) | (with_reducible refine boxed_old ?_ ?_; (focus (first | omega | (simp; done) | (simp; omega)))) | (with_reducible refine drew_old ?_)))) (by rfl) (by rfl) (by first | exact Ov.arr_one _ | (rw [← hz]; exact Ov.arr_one _) | simp [Value.oneCell']) ?_) | (at_builtin; refine wpList_append_lits rfl _ _ rfl rfl _ _ 3 [x'.s, x'.p] _ _ 2 rfl rfl (by simp) (by simp) rfl rfl rfl (by omega) ?_; intro A7 c7 w7 hb7 hr7; have hB1 := (hb7.block w.heap.size (by simp; omega)).trans (show _ = some (Obj.cells x'.arr 27 (0, 0)) by (repeat (first | assumption | (with_reducible refine alloc_at ?_; (focus (first | omega | (simp; done) | (simp; omega)))) | (with_reducible refine boxed_at ?_; (focus (first | omega | (simp; done) | (simp; omega)))) | (with_reducible refine alloc_old ?_ ?_; (focus (first | omega | (simp; done) | (simp; omega)))) | (with_reducible refine boxed_old ?_ ?_; (focus (first | omega | (simp; done) | (simp; omega)))) | (with_reducible refine drew_old ?_)))); have hB4 := (hb7.block w5.heap.size (by simp)).trans (show _ = some (Obj.cells x'.arr 27 (0, 0)) by (repeat (first | assumption | (with_reducible refine alloc_at ?_; (focus (first | omega | (simp; done) | (simp; omega)))) | (with_reducible refine boxed_at ?_; (focus (first | omega | (simp; done) | (simp; omega)))) | (with_reducible refine alloc_old ?_ ?_; (focus (first | omega | (simp; done) | (simp; omega)))) | (with_reducible refine boxed_old ?_ ?_; (focus (first | omega | (simp; done) | (simp; omega)))) | (with_reducible refine drew_old ?_)))); have hb57 : Below w5.heap.size w5 w7 := (boxed_below ((Below.refl _ _).alloc (Nat.le_refl _) _) (Nat.le_refl _)).trans (hb7.mono (by simp)); have hs57 : w5.heap.size < w7.heap.size := (by have := hb7.size; simp at this; omega); have HB1 := Lib.hid hB1; have HB4 := Lib.hid hB4; have HR7 := Lib.hid hr7; have H57 := Lib.hid hb57; clear hB1 hB4 hb7 hr7 hb57))
    have H7 : Hid (Below w.heap.size w w7) := Lib.hid (H5.out.trans (H57.out.mono H5.out.size))
    have s74 : w5.heap.size < w7.heap.size := hs57
    have s71 : w.heap.size < w7.heap.size := Nat.lt_trans s5 hs57
    have HCV : Hid (∀ w', Below w7.heap.size w7 w' → (convert 34 9 (.slice A4 n4 c4)).run Try.prog w' = .ok (.string (bst x'.bytes)) w') := Lib.hid (fun w' hw => conv_len w' A4 _ c4 n4 _ (HR5.out.below ((H57.out.mono H45.out).trans (hw.mono (Nat.le_trans H45.out H57.out.size)))) HN4.out)
    clear h5 hc0 hc1 hc2
    refine lane_start (ord := [0, 1, 2, 3, 4, 5, 6, 7, 8, 9, 10, 11, 12, 13, 14, 15, 16, 17, 18]) (S := fun w' => (w'.heap[w5.heap.size]? = some (.cells x'.arr 27 (0, 0)) ∧ w'.heap[w.heap.size]? = some (.cells x'.arr 27 (0, 0))) ∧ (convert 34 9 (.slice A4 n4 c4)).run Try.prog w' = .ok (.string (bst x'.bytes)) w') rfl (by kernel_rfl) ⟨⟨HB4.out, HB1.out⟩, HCV.out _ ((Below.refl _ _).drew)⟩ (fun hHeld => ?_)
    refine lane_alone rfl (by kernel_rfl) (by rfl) (fun K hK => ?_)
    go_simp
    refine (awake_any _).mono ?_
    rintro e w8 ⟨rfl, hb8⟩
    have hb8 : Below w7.heap.size w7 w8 := ((Below.refl _ _).drew).trans hb8
    have h81 := (hb8.block _ s71).trans HB1.out
    have h84 := (hb8.block _ s74).trans HB4.out
    refine hK _ _ ⟨⟨h84, h81⟩, HCV.out _ hb8⟩ (fun hHeld => ?_)
    clear hK K
    refine lane_take (v := ?_) rfl (by kernel_rfl) (by kernel_rfl) (by rfl) ?_ (by assumption) ?_
    rotate_left
    · intro w' hSw
      obtain ⟨_, hc⟩ := hSw
      go_simp
      try (with_reducible rfl)
    simp only [Act.put, List.setIfInBounds_toArray, List.set_cons_zero, List.set_cons_succ]
    refine lane_take (v := ?_) rfl (by kernel_rfl) (by kernel_rfl) (by rfl) ?_ (by assumption) ?_
    rotate_left
    · intro w' hSw
      obtain ⟨_, hc⟩ := hSw
      go_simp
      try (with_reducible rfl)
    simp only [Act.put, List.setIfInBounds_toArray, List.set_cons_zero, List.set_cons_succ]
    refine lane_take (v := ?_) rfl (by kernel_rfl) (by kernel_rfl) (by rfl) ?_ (by assumption) ?_
    rotate_left
    · intro w' hSw
      obtain ⟨_, hc⟩ := hSw
      go_simp
      try (with_reducible rfl)
    simp only [Act.put, List.setIfInBounds_toArray, List.set_cons_zero, List.set_cons_succ]
    refine lane_take (v := ?_) rfl (by kernel_rfl) (by kernel_rfl) (by rfl) ?_ (by assumption) ?_
    rotate_left
    · intro w' hSw
      obtain ⟨_, hc⟩ := hSw
      go_simp
      try (with_reducible rfl)
    simp only [Act.put, List.setIfInBounds_toArray, List.set_cons_zero, List.set_cons_succ]
    refine lane_alone rfl (by kernel_rfl) (by rfl) (fun K hK => ?_)
    go_simp
    refine (packs_any A7 w7.heap.size c7 _ w8 (HR7.out.below hb8) hb8.size HNL.out HNI.out).mono ?_
    intro e w9 hO
    rw [HBY.out] at hO
    obtain ⟨A9, n9, c9, rfl, HN9, _, HL9, HR9, _, _⟩ := hO.open_
    have hb9 := hb8.trans (HL9.out.mono hb8.size)
    have h91 := (hb9.block _ s71).trans HB1.out
    have h94 := (hb9.block _ s74).trans HB4.out
    have hcv9 := conv_len w9 A9 _ c9 n9 _ HR9.out HN9.out
    refine hK _ _ ⟨⟨h94, h91⟩, HCV.out _ hb9⟩ (fun hHeld => ?_)
    clear hK K
    clear h81 h84
    refine lane_alone rfl (by kernel_rfl) (by rfl) (fun K hK => ?_)
    go_simp
    refine hK _ _ hHeld (fun hHeld => ?_)
    clear hK K hcv9
    refine lane_take (v := ?_) rfl (by kernel_rfl) (by kernel_rfl) (by rfl) ?_ (by assumption) ?_
    rotate_left
    · intro w' hSw
      go_simp
      try (with_reducible rfl)
    simp only [Act.put, List.setIfInBounds_toArray, List.set_cons_zero, List.set_cons_succ]
    refine lane_take (v := ?_) rfl (by kernel_rfl) (by kernel_rfl) (by rfl) ?_ (by assumption) ?_
    rotate_left
    · intro w' hSw
      go_simp
      try (with_reducible rfl)
    simp only [Act.put, List.setIfInBounds_toArray, List.set_cons_zero, List.set_cons_succ]
    refine lane_take (v := ?_) rfl (by kernel_rfl) (by kernel_rfl) (by rfl) ?_ (by assumption) ?_
    rotate_left
    · intro w' hSw
      go_simp
      try (with_reducible rfl)
    simp only [Act.put, List.setIfInBounds_toArray, List.set_cons_zero, List.set_cons_succ]
    refine lane_take (v := ?_) rfl (by kernel_rfl) (by kernel_rfl) (by rfl) ?_ (by assumption) ?_
    rotate_left
    · intro w' hSw
      go_simp
      try (with_reducible rfl)
    simp only [Act.put, List.setIfInBounds_toArray, List.set_cons_zero, List.set_cons_succ]
    refine lane_take (v := ?_) rfl (by kernel_rfl) (by kernel_rfl) (by rfl) ?_ (by assumption) ?_
    rotate_left
    · intro w' hSw
      go_simp
      try (with_reducible rfl)
    simp only [Act.put, List.setIfInBounds_toArray, List.set_cons_zero, List.set_cons_succ]
    refine lane_take (v := ?_) rfl (by kernel_rfl) (by kernel_rfl) (by rfl) ?_ (by assumption) ?_
    rotate_left
    · intro w' hSw
      go_simp
      try (with_reducible rfl)
    simp only [Act.put, List.setIfInBounds_toArray, List.set_cons_zero, List.set_cons_succ]
    refine lane_take (v := ?_) rfl (by kernel_rfl) (by kernel_rfl) (by rfl) ?_ (by assumption) ?_
    rotate_left
    · intro w' hSw
      go_simp
      try (with_reducible rfl)
    simp only [Act.put, List.setIfInBounds_toArray, List.set_cons_zero, List.set_cons_succ]
    refine lane_take rfl (by kernel_rfl) (by kernel_rfl) (by rfl) (fun w' hS => exec_load rfl rfl (ld16 hS.1.1 rfl)) (by assumption) ?_
    simp only [Act.put, List.setIfInBounds_toArray, List.set_cons_zero, List.set_cons_succ]
    refine lane_take rfl (by kernel_rfl) (by kernel_rfl) (by rfl) (fun w' hS => exec_load rfl rfl (ld16 hS.1.2 rfl)) (by assumption) ?_
    simp only [Act.put, List.setIfInBounds_toArray, List.set_cons_zero, List.set_cons_succ]
    refine lane_take rfl (by kernel_rfl) (by kernel_rfl) (by rfl) (fun w' hS => exec_eql16' (decide_eq_true rfl) rfl rfl rfl w') (by assumption) ?_
    simp only [Act.put, List.setIfInBounds_toArray, List.set_cons_zero, List.set_cons_succ]
    repeat (first
      | (refine lane_skip rfl (by kernel_rfl) (by kernel_rfl) (by rfl) (by assumption) ?_; simp only [Act.put, List.setIfInBounds_toArray, List.set_cons_zero, List.set_cons_succ])
      | (refine lane_take (v := ?_) rfl (by kernel_rfl) (by kernel_rfl) (by rfl) ?_ (by assumption) ?_; rotate_left; (focus (intro w' hSw; go_simp; try (with_reducible rfl))); simp only [Act.put, List.setIfInBounds_toArray, List.set_cons_zero, List.set_cons_succ]))
    refine lane_end (by kernel_rfl) ?_
    clear hHeld
    have HF := Lib.hid (H7.out.trans (hb9.mono H7.out.size))
    clear h91 h94 hb8 hb9
    go_wp2
    go_ret
    exact ⟨rfl, HF.out⟩

set_option maxHeartbeats 4000000 in
theorem orderBytes_4 (o : Ov) (ho : o.Wf) (k : Int) (hk : o.near.k = k) (k4 : 4 ≤ k) (k8 : k ≤ 8) (w : World) : Calls Try.prog 4 #[.agg o.arr] w fun e w' => e = .returned (.bool true) ∧ Below w.heap.size w w' := by
  have HNA := Lib.hid (near_o o ho)
  have wx := o.near_wf ho
  have rx := o.near_right
  have HE0 := Lib.hid (fun w => enc_o o ho.2.2.2.2.1.2.1.1 w)
  have HX := Lib.hid (fun w => enc_o o.near wx.2.2.2.2.1.2.1.1 w)
  rw [o.out_near] at HX
  clear ho
  generalize o.near = x at *
  have d1 : (k == 1) = false := by rw [beq_eq_false_iff_ne]; omega
  have d2 : (k == 2) = false := by rw [beq_eq_false_iff_ne]; omega
  have d3 : (k == 3) = false := by rw [beq_eq_false_iff_ne]; omega
  have d9 : (k == 9) = false := by rw [beq_eq_false_iff_ne]; omega
  have d10 : (k == 10) = false := by rw [beq_eq_false_iff_ne]; omega
  have hn : nm x.k = 3 := by rw [hk]; unfold nm; rw [if_neg (by omega), if_neg (by omega), if_pos (by omega)]
  have hby : Pk.encs (k :: [x.s]) = x.bytes := by
    unfold Ov.bytes
    rw [Ov.rest_three hn, hk, Pk.encs_cons]
  have HBY := Lib.hid hby
  have hle := x.len wx rx
  have HLE := Lib.hid hle.2
  have hni : I64 (k :: [x.s]) := by
    have hN := (right_zero rx).1
    have hb := num_3 hn hN
    intro y hy; simp only [List.mem_cons, List.not_mem_nil, or_false] at hy; rcases hy with rfl | rfl <;> omega
  have HNI := Lib.hid hni
  have HNL : Hid ((k :: [x.s] : List Int).length ≤ 1000) := Lib.hid (by simp)
  have HK := Lib.hid hk
  have HRX := Lib.hid rx
  have HWX := Lib.hid wx
  have hwk : IntKind.i64.wrap k = k := by simp only [IntKind.wrap_i64]; omega
  clear hn hby hle hni hk rx wx
  obtain ⟨X, hX⟩ : ∃ X, o.right = X := ⟨_, rfl⟩
  have HXV := Lib.hid hX
  clear hX
  go_enter Try.func4, Try.ntmps4
  go_wp2_with (first | ((with_reducible_and_instances (show wpList _ _ _ (Oper.mk _ (Op.load 27 _) _ _ _ _ :: _) _ _)); refine wl_load Try.underlying27 rfl info16 rfl rfl rfl (by (repeat (first | assumption | (with_reducible refine alloc_at ?_; (focus (first | omega | (simp; done) | (simp; omega)))) | (with_reducible refine boxed_at ?_; (focus (first | omega | (simp; done) | (simp; omega)))) | (with_reducible refine alloc_old ?_ ?_; (focus (first | omega | (simp; done) | (simp; omega)))) | (with_reducible refine boxed_old ?_ ?_; (focus (first | omega | (simp; done) | (simp; omega)))) | (with_reducible refine drew_old ?_)))) (by rfl) ?_) | ((with_reducible_and_instances (show wpList _ _ _ (Oper.mk _ (Op.store 27 _ _) _ _ _ _ :: _) _ _)); refine wl_store info16 rfl rfl rfl rfl (by (repeat (first | assumption | (with_reducible refine alloc_at ?_; (focus (first | omega | (simp; done) | (simp; omega)))) | (with_reducible refine boxed_at ?_; (focus (first | omega | (simp; done) | (simp; omega)))) | (with_reducible refine alloc_old ?_ ?_; (focus (first | omega | (simp; done) | (simp; omega)))) | (with_reducible refine boxed_old ?_ ?_; (focus (first | omega | (simp; done) | (simp; omega)))) | (with_reducible refine drew_old ?_)))) (by rfl) (by rfl) (by first | exact Ov.arr_one _ | (rw [← hz]; exact Ov.arr_one _) | simp [Value.oneCell']) ?_))
  refine (lright_o o _).mono ?_
  rw [HXV.out]
  rintro e w1 ⟨rfl, hb1⟩
  have h1 : w1.heap[w.heap.size]? = some (.cells o.arr 27 (0, 0)) := (hb1.block _ (by simp)).trans alloc_block
  have H1 : Hid (Below w.heap.size w w1) := Lib.hid (((Below.refl _ w).alloc (Nat.le_refl _) _).trans (hb1.mono (by first | omega | (simp; done) | (simp; omega))))
  have s1 : w.heap.size < w1.heap.size := by have := hb1.size; simp at this; omega
  clear hb1
  by_cases d : X = 0
  case' pos =>
    subst d
    have H2 := H1
    have h2 := h1
    have s2 := s1
    obtain ⟨w2, e2⟩ : ∃ w2, w2 = w1 := ⟨_, rfl⟩
    rw [← e2] at H2 h2 s2 ⊢
    clear e2 H1 h1 s1
    go_wp2_with (first | ((with_reducible_and_instances (show wpList _ _ _ (Oper.mk _ (Op.load 27 _) _ _ _ _ :: _) _ _)); refine wl_load Try.underlying27 rfl info16 rfl rfl rfl (by (repeat (first | assumption | (with_reducible refine alloc_at ?_; (focus (first | omega | (simp; done) | (simp; omega)))) | (with_reducible refine boxed_at ?_; (focus (first | omega | (simp; done) | (simp; omega)))) | (with_reducible refine alloc_old ?_ ?_; (focus (first | omega | (simp; done) | (simp; omega)))) | (with_reducible refine boxed_old ?_ ?_; (focus (first | omega | (simp; done) | (simp; omega)))) | (with_reducible refine drew_old ?_)))) (by rfl) ?_) | ((with_reducible_and_instances (show wpList _ _ _ (Oper.mk _ (Op.store 27 _ _) _ _ _ _ :: _) _ _)); refine wl_store info16 rfl rfl rfl rfl (by (repeat (first | assumption | (with_reducible refine alloc_at ?_; (focus (first | omega | (simp; done) | (simp; omega)))) | (with_reducible refine boxed_at ?_; (focus (first | omega | (simp; done) | (simp; omega)))) | (with_reducible refine alloc_old ?_ ?_; (focus (first | omega | (simp; done) | (simp; omega)))) | (with_reducible refine boxed_old ?_ ?_; (focus (first | omega | (simp; done) | (simp; omega)))) | (with_reducible refine drew_old ?_)))) (by rfl) (by rfl) (by first | exact Ov.arr_one _ | (rw [← hz]; exact Ov.arr_one _) | simp [Value.oneCell']) ?_))
  case' neg =>
    have z : (X != 0) = true := by simpa using d
    have HO : Hid (∀ w, Calls Try.prog 17 #[.agg o.arr] w (Owned w [])) := Lib.hid (by
      have := HE0.out
      unfold Ov.out at this
      rw [HXV.out, if_neg d] at this
      exact this)
    clear d
    go_wp2_with (first | ((with_reducible_and_instances (show wpList _ _ _ (Oper.mk _ (Op.load 27 _) _ _ _ _ :: _) _ _)); refine wl_load Try.underlying27 rfl info16 rfl rfl rfl (by (repeat (first | assumption | (with_reducible refine alloc_at ?_; (focus (first | omega | (simp; done) | (simp; omega)))) | (with_reducible refine boxed_at ?_; (focus (first | omega | (simp; done) | (simp; omega)))) | (with_reducible refine alloc_old ?_ ?_; (focus (first | omega | (simp; done) | (simp; omega)))) | (with_reducible refine boxed_old ?_ ?_; (focus (first | omega | (simp; done) | (simp; omega)))) | (with_reducible refine drew_old ?_)))) (by rfl) ?_) | ((with_reducible_and_instances (show wpList _ _ _ (Oper.mk _ (Op.store 27 _ _) _ _ _ _ :: _) _ _)); refine wl_store info16 rfl rfl rfl rfl (by (repeat (first | assumption | (with_reducible refine alloc_at ?_; (focus (first | omega | (simp; done) | (simp; omega)))) | (with_reducible refine boxed_at ?_; (focus (first | omega | (simp; done) | (simp; omega)))) | (with_reducible refine alloc_old ?_ ?_; (focus (first | omega | (simp; done) | (simp; omega)))) | (with_reducible refine boxed_old ?_ ?_; (focus (first | omega | (simp; done) | (simp; omega)))) | (with_reducible refine drew_old ?_)))) (by rfl) (by rfl) (by first | exact Ov.arr_one _ | (rw [← hz]; exact Ov.arr_one _) | simp [Value.oneCell']) ?_))
    refine (HO.out _).mono ?_
    intro e w2 hO
    obtain ⟨A2, c2, rfl, HB2⟩ := hO.open_nil
    have h2 : w2.heap[w.heap.size]? = some (.cells o.arr 27 (0, 0)) := (HB2.out.block _ s1).trans h1
    have H2 : Hid (Below w.heap.size w w2) := Lib.hid (H1.out.trans (HB2.out.mono H1.out.size))
    have s2 : w.heap.size < w2.heap.size := Nat.lt_of_lt_of_le s1 HB2.out.size
    clear hO HB2 H1 h1 s1
    go_wp2_with (first | ((with_reducible_and_instances (show wpList _ _ _ (Oper.mk _ (Op.load 27 _) _ _ _ _ :: _) _ _)); refine wl_load Try.underlying27 rfl info16 rfl rfl rfl (by (repeat (first | assumption | (with_reducible refine alloc_at ?_; (focus (first | omega | (simp; done) | (simp; omega)))) | (with_reducible refine boxed_at ?_; (focus (first | omega | (simp; done) | (simp; omega)))) | (with_reducible refine alloc_old ?_ ?_; (focus (first | omega | (simp; done) | (simp; omega)))) | (with_reducible refine boxed_old ?_ ?_; (focus (first | omega | (simp; done) | (simp; omega)))) | (with_reducible refine drew_old ?_)))) (by rfl) ?_) | ((with_reducible_and_instances (show wpList _ _ _ (Oper.mk _ (Op.store 27 _ _) _ _ _ _ :: _) _ _)); refine wl_store info16 rfl rfl rfl rfl (by (repeat (first | assumption | (with_reducible refine alloc_at ?_; (focus (first | omega | (simp; done) | (simp; omega)))) | (with_reducible refine boxed_at ?_; (focus (first | omega | (simp; done) | (simp; omega)))) | (with_reducible refine alloc_old ?_ ?_; (focus (first | omega | (simp; done) | (simp; omega)))) | (with_reducible refine boxed_old ?_ ?_; (focus (first | omega | (simp; done) | (simp; omega)))) | (with_reducible refine drew_old ?_)))) (by rfl) (by rfl) (by first | exact Ov.arr_one _ | (rw [← hz]; exact Ov.arr_one _) | simp [Value.oneCell']) ?_))
  all_goals
    refine (HNA.out _).mono ?_
    rintro e w3 ⟨rfl, hb3⟩
    have h3 : w3.heap[w.heap.size]? = some (.cells o.arr 27 (0, 0)) := (hb3.block _ s2).trans h2
    have H3 : Hid (Below w.heap.size w w3) := Lib.hid (H2.out.trans (hb3.mono H2.out.size))
    have s3 : w.heap.size < w3.heap.size := Nat.lt_of_lt_of_le s2 hb3.size
    clear hb3 H2 h2 s2
    go_wp2_with (first | ((with_reducible_and_instances (show wpList _ _ _ (Oper.mk _ (Op.load 27 _) _ _ _ _ :: _) _ _)); refine wl_load Try.underlying27 rfl info16 rfl rfl rfl (by (repeat (first | assumption | (with_reducible refine alloc_at ?_; (focus (first | omega | (simp; done) | (simp; omega)))) | (with_reducible refine boxed_at ?_; (focus (first | omega | (simp; done) | (simp; omega)))) | (with_reducible refine alloc_old ?_ ?_; (focus (first | omega | (simp; done) | (simp; omega)))) | (with_reducible refine boxed_old ?_ ?_; (focus (first | omega | (simp; done) | (simp; omega)))) | (with_reducible refine drew_old ?_)))) (by rfl) ?_) | ((with_reducible_and_instances (show wpList _ _ _ (Oper.mk _ (Op.store 27 _ _) _ _ _ _ :: _) _ _)); refine wl_store info16 rfl rfl rfl rfl (by (repeat (first | assumption | (with_reducible refine alloc_at ?_; (focus (first | omega | (simp; done) | (simp; omega)))) | (with_reducible refine boxed_at ?_; (focus (first | omega | (simp; done) | (simp; omega)))) | (with_reducible refine alloc_old ?_ ?_; (focus (first | omega | (simp; done) | (simp; omega)))) | (with_reducible refine boxed_old ?_ ?_; (focus (first | omega | (simp; done) | (simp; omega)))) | (with_reducible refine drew_old ?_)))) (by rfl) (by rfl) (by first | exact Ov.arr_one _ | (rw [← hz]; exact Ov.arr_one _) | simp [Value.oneCell']) ?_))
    refine (HX.out _).mono ?_
    intro e w4 hO
    obtain ⟨A4, n4, c4, rfl, HN4, HO4, HB4, HR4, h41, h42⟩ := hO.open_
    have h4 : w4.heap[w.heap.size]? = some (.cells x.arr 27 (0, 0)) := (HB4.out.block _ (by rw [boxed_size]; exact s3)).trans (boxed_block s3)
    have H4 : Hid (Below w.heap.size w w4) := Lib.hid ((boxed_below H3.out (Nat.le_refl _)).trans (HB4.out.mono (by rw [boxed_size]; exact Nat.le_of_lt s3)))
    have s4 : w.heap.size < w4.heap.size := Nat.lt_of_lt_of_le s3 (by have := HB4.out.size; rwa [boxed_size] at this)
    clear hO HB4 H3 h3 s3 HO4
    go_wp2_with (first | ((with_reducible_and_instances (show wpList _ _ _ (Oper.mk _ (Op.load 27 _) _ _ _ _ :: _) _ _)); refine wl_load Try.underlying27 rfl info16 rfl rfl rfl (by (repeat (first | assumption | (with_reducible refine alloc_at ?_; (focus (first | omega | (simp; done) | (simp; omega)))) | (with_reducible refine boxed_at ?_; (focus (first | omega | (simp; done) | (simp; omega)))) | (with_reducible refine alloc_old ?_ ?_; (focus (first | omega | (simp; done) | (simp; omega)))) | (with_reducible refine boxed_old ?_ ?_; (focus (first | omega | (simp; done) | (simp; omega)))) | (with_reducible refine drew_old ?_)))) (by rfl) ?_) | ((with_reducible_and_instances (show wpList _ _ _ (Oper.mk _ (Op.store 27 _ _) _ _ _ _ :: _) _ _)); refine wl_store info16 rfl rfl rfl rfl (by (repeat (first | assumption | (with_reducible refine alloc_at ?_; (focus (first | omega | (simp; done) | (simp; omega)))) | (with_reducible refine boxed_at ?_; (focus (first | omega | (simp; done) | (simp; omega)))) | (with_reducible refine alloc_old ?_ ?_; (focus (first | omega | (simp; done) | (simp; omega)))) | (with_reducible refine boxed_old ?_ ?_; (focus (first | omega | (simp; done) | (simp; omega)))) | (with_reducible refine drew_old ?_)))) (by rfl) (by rfl) (by first | exact Ov.arr_one _ | (rw [← hz]; exact Ov.arr_one _) | simp [Value.oneCell']) ?_))
    refine (decode_any w4 A4 n4 c4 x.bytes HR4.out (Nat.le_trans HLE.out (by omega)) (fun y hy => by have := x.bytes_ok y hy; omega) HN4.out).mono ?_
    rintro e w5 ⟨x', e', rfl, hd, hb5⟩
    obtain ⟨rfl, rfl⟩ := hd.is HRX.out HWX.out
    rw [Ov.val_arr]
    have h5 : w5.heap[w.heap.size]? = some (.cells x'.arr 27 (0, 0)) := (hb5.block _ s4).trans h4
    have H5 : Hid (Below w.heap.size w w5) := Lib.hid (H4.out.trans (hb5.mono H4.out.size))
    have s5 : w.heap.size < w5.heap.size := Nat.lt_of_lt_of_le s4 hb5.size
    have HR5 : Hid (Rd w5 .u8 w4.heap.size A4 x'.bytes) := Lib.hid (HR4.out.below hb5)
    have H45 := Lib.hid hb5.size
    have hc0 : w5.cell? ⟨w.heap.size, 0, none⟩ = some (.int .u8 k) := by rw [cell_of_row _ _ 0 _ _ _ h5, ← HK.out]; rfl
    have hc1 : w5.cell? ⟨w.heap.size, 1, none⟩ = some (.int .i64 x'.s) := cell_of_row _ _ 1 _ _ _ h5
    clear hd hb5 H4 h4 s4
    go_wp2_with (first | ((with_reducible_and_instances (show wpList _ _ _ (Oper.mk _ (Op.load 27 _) _ _ _ _ :: _) _ _)); refine wl_load Try.underlying27 rfl info16 rfl rfl rfl (by (repeat (first | assumption | (with_reducible refine alloc_at ?_; (focus (first | omega | (simp; done) | (simp; omega)))) | (with_reducible refine boxed_at ?_; (focus (first | omega | (simp; done) | (simp; omega)))) | (with_reducible refine alloc_old ?_ ?_; (focus (first | omega | (simp; done) | (simp; omega)))) | (with_reducible refine boxed_old ?_ ?_; (focus (first | omega | (simp; done) | (simp; omega)))) | (with_reducible refine drew_old ?_)))) (by rfl) ?_) | ((with_reducible_and_instances (show wpList _ _ _ (Oper.mk _ (Op.store 27 _ _) _ _ _ _ :: _) _ _)); refine wl_store info16 rfl rfl rfl rfl (by (repeat (first | assumption | (with_reducible refine alloc_at ?_; (focus (first | omega | (simp; done) | (simp; omega)))) | (with_reducible refine boxed_at ?_; (focus (first | omega | (simp; done) | (simp; omega)))) | (with_reducible refine alloc_old ?_ ?_; (focus (first | omega | (simp; done) | (simp; omega)))) | (with_reducible refine boxed_old ?_ ?_; (focus (first | omega | (simp; done) | (simp; omega)))) | (with_reducible refine drew_old ?_)))) (by rfl) (by rfl) (by first | exact Ov.arr_one _ | (rw [← hz]; exact Ov.arr_one _) | simp [Value.oneCell']) ?_) | (at_builtin; refine wpList_append_lits rfl _ _ rfl rfl _ _ k [x'.s] _ _ 1 rfl rfl (by simp) (by simp) rfl rfl rfl (by omega) ?_; intro A7 c7 w7 hb7 hr7; have hB1 := (hb7.block w.heap.size (by simp; omega)).trans (show _ = some (Obj.cells x'.arr 27 (0, 0)) by (repeat (first | assumption | (with_reducible refine alloc_at ?_; (focus (first | omega | (simp; done) | (simp; omega)))) | (with_reducible refine boxed_at ?_; (focus (first | omega | (simp; done) | (simp; omega)))) | (with_reducible refine alloc_old ?_ ?_; (focus (first | omega | (simp; done) | (simp; omega)))) | (with_reducible refine boxed_old ?_ ?_; (focus (first | omega | (simp; done) | (simp; omega)))) | (with_reducible refine drew_old ?_)))); have hB4 := (hb7.block w5.heap.size (by simp)).trans (show _ = some (Obj.cells x'.arr 27 (0, 0)) by (repeat (first | assumption | (with_reducible refine alloc_at ?_; (focus (first | omega | (simp; done) | (simp; omega)))) | (with_reducible refine boxed_at ?_; (focus (first | omega | (simp; done) | (simp; omega)))) | (with_reducible refine alloc_old ?_ ?_; (focus (first | omega | (simp; done) | (simp; omega)))) | (with_reducible refine boxed_old ?_ ?_; (focus (first | omega | (simp; done) | (simp; omega)))) | (with_reducible refine drew_old ?_)))); have hb57 : Below w5.heap.size w5 w7 := (boxed_below ((Below.refl _ _).alloc (Nat.le_refl _) _) (Nat.le_refl _)).trans (hb7.mono (by simp)); have hs57 : w5.heap.size < w7.heap.size := (by have := hb7.size; simp at this; omega); have HB1 := Lib.hid hB1; have HB4 := Lib.hid hB4; have HR7 := Lib.hid hr7; have H57 := Lib.hid hb57; clear hB1 hB4 hb7 hr7 hb57))
    have H7 : Hid (Below w.heap.size w w7) := Lib.hid (H5.out.trans (H57.out.mono H5.out.size))
    have s74 : w5.heap.size < w7.heap.size := hs57
    have s71 : w.heap.size < w7.heap.size := Nat.lt_trans s5 hs57
    have HCV : Hid (∀ w', Below w7.heap.size w7 w' → (convert 34 9 (.slice A4 n4 c4)).run Try.prog w' = .ok (.string (bst x'.bytes)) w') := Lib.hid (fun w' hw => conv_len w' A4 _ c4 n4 _ (HR5.out.below ((H57.out.mono H45.out).trans (hw.mono (Nat.le_trans H45.out H57.out.size)))) HN4.out)
    clear h5 hc0 hc1
    refine lane_start (ord := [0, 1, 2, 3, 4, 5, 6, 7, 8, 9, 10, 11, 12, 13, 14, 15, 16, 17, 18]) (S := fun w' => (w'.heap[w5.heap.size]? = some (.cells x'.arr 27 (0, 0)) ∧ w'.heap[w.heap.size]? = some (.cells x'.arr 27 (0, 0))) ∧ (convert 34 9 (.slice A4 n4 c4)).run Try.prog w' = .ok (.string (bst x'.bytes)) w') rfl (by kernel_rfl) ⟨⟨HB4.out, HB1.out⟩, HCV.out _ ((Below.refl _ _).drew)⟩ (fun hHeld => ?_)
    refine lane_alone rfl (by kernel_rfl) (by rfl) (fun K hK => ?_)
    go_simp
    refine (awake_any _).mono ?_
    rintro e w8 ⟨rfl, hb8⟩
    have hb8 : Below w7.heap.size w7 w8 := ((Below.refl _ _).drew).trans hb8
    have h81 := (hb8.block _ s71).trans HB1.out
    have h84 := (hb8.block _ s74).trans HB4.out
    refine hK _ _ ⟨⟨h84, h81⟩, HCV.out _ hb8⟩ (fun hHeld => ?_)
    clear hK K
    refine lane_take (v := ?_) rfl (by kernel_rfl) (by kernel_rfl) (by rfl) ?_ (by assumption) ?_
    rotate_left
    · intro w' hSw
      obtain ⟨_, hc⟩ := hSw
      go_simp
      try (with_reducible rfl)
    simp only [Act.put, List.setIfInBounds_toArray, List.set_cons_zero, List.set_cons_succ]
    refine lane_take (v := ?_) rfl (by kernel_rfl) (by kernel_rfl) (by rfl) ?_ (by assumption) ?_
    rotate_left
    · intro w' hSw
      obtain ⟨_, hc⟩ := hSw
      go_simp
      try (with_reducible rfl)
    simp only [Act.put, List.setIfInBounds_toArray, List.set_cons_zero, List.set_cons_succ]
    refine lane_take (v := ?_) rfl (by kernel_rfl) (by kernel_rfl) (by rfl) ?_ (by assumption) ?_
    rotate_left
    · intro w' hSw
      obtain ⟨_, hc⟩ := hSw
      go_simp
      try (with_reducible rfl)
    simp only [Act.put, List.setIfInBounds_toArray, List.set_cons_zero, List.set_cons_succ]
    refine lane_take (v := ?_) rfl (by kernel_rfl) (by kernel_rfl) (by rfl) ?_ (by assumption) ?_
    rotate_left
    · intro w' hSw
      obtain ⟨_, hc⟩ := hSw
      go_simp
      try (with_reducible rfl)
    simp only [Act.put, List.setIfInBounds_toArray, List.set_cons_zero, List.set_cons_succ]
    refine lane_alone rfl (by kernel_rfl) (by rfl) (fun K hK => ?_)
    go_simp
    refine (packs_any A7 w7.heap.size c7 _ w8 (HR7.out.below hb8) hb8.size HNL.out HNI.out).mono ?_
    intro e w9 hO
    rw [HBY.out] at hO
    obtain ⟨A9, n9, c9, rfl, HN9, _, HL9, HR9, _, _⟩ := hO.open_
    have hb9 := hb8.trans (HL9.out.mono hb8.size)
    have h91 := (hb9.block _ s71).trans HB1.out
    have h94 := (hb9.block _ s74).trans HB4.out
    have hcv9 := conv_len w9 A9 _ c9 n9 _ HR9.out HN9.out
    refine hK _ _ ⟨⟨h94, h91⟩, HCV.out _ hb9⟩ (fun hHeld => ?_)
    clear hK K
    clear h81 h84
    refine lane_alone rfl (by kernel_rfl) (by rfl) (fun K hK => ?_)
    go_simp
    refine hK _ _ hHeld (fun hHeld => ?_)
    clear hK K hcv9
    refine lane_take (v := ?_) rfl (by kernel_rfl) (by kernel_rfl) (by rfl) ?_ (by assumption) ?_
    rotate_left
    · intro w' hSw
      go_simp
      try (with_reducible rfl)
    simp only [Act.put, List.setIfInBounds_toArray, List.set_cons_zero, List.set_cons_succ]
    refine lane_take (v := ?_) rfl (by kernel_rfl) (by kernel_rfl) (by rfl) ?_ (by assumption) ?_
    rotate_left
    · intro w' hSw
      go_simp
      try (with_reducible rfl)
    simp only [Act.put, List.setIfInBounds_toArray, List.set_cons_zero, List.set_cons_succ]
    refine lane_take (v := ?_) rfl (by kernel_rfl) (by kernel_rfl) (by rfl) ?_ (by assumption) ?_
    rotate_left
    · intro w' hSw
      go_simp
      try (with_reducible rfl)
    simp only [Act.put, List.setIfInBounds_toArray, List.set_cons_zero, List.set_cons_succ]
    refine lane_take (v := ?_) rfl (by kernel_rfl) (by kernel_rfl) (by rfl) ?_ (by assumption) ?_
    rotate_left
    · intro w' hSw
      go_simp
      try (with_reducible rfl)
    simp only [Act.put, List.setIfInBounds_toArray, List.set_cons_zero, List.set_cons_succ]
    refine lane_take (v := ?_) rfl (by kernel_rfl) (by kernel_rfl) (by rfl) ?_ (by assumption) ?_
    rotate_left
    · intro w' hSw
      go_simp
      try (with_reducible rfl)
    simp only [Act.put, List.setIfInBounds_toArray, List.set_cons_zero, List.set_cons_succ]
    refine lane_take (v := ?_) rfl (by kernel_rfl) (by kernel_rfl) (by rfl) ?_ (by assumption) ?_
    rotate_left
    · intro w' hSw
      go_simp
      try (with_reducible rfl)
    simp only [Act.put, List.setIfInBounds_toArray, List.set_cons_zero, List.set_cons_succ]
    refine lane_take (v := ?_) rfl (by kernel_rfl) (by kernel_rfl) (by rfl) ?_ (by assumption) ?_
    rotate_left
    · intro w' hSw
      go_simp
      try (with_reducible rfl)
    simp only [Act.put, List.setIfInBounds_toArray, List.set_cons_zero, List.set_cons_succ]
    refine lane_take rfl (by kernel_rfl) (by kernel_rfl) (by rfl) (fun w' hS => exec_load rfl rfl (ld16 hS.1.1 rfl)) (by assumption) ?_
    simp only [Act.put, List.setIfInBounds_toArray, List.set_cons_zero, List.set_cons_succ]
    refine lane_take rfl (by kernel_rfl) (by kernel_rfl) (by rfl) (fun w' hS => exec_load rfl rfl (ld16 hS.1.2 rfl)) (by assumption) ?_
    simp only [Act.put, List.setIfInBounds_toArray, List.set_cons_zero, List.set_cons_succ]
    refine lane_take rfl (by kernel_rfl) (by kernel_rfl) (by rfl) (fun w' hS => exec_eql16' (decide_eq_true rfl) rfl rfl rfl w') (by assumption) ?_
    simp only [Act.put, List.setIfInBounds_toArray, List.set_cons_zero, List.set_cons_succ]
    repeat (first
      | (refine lane_skip rfl (by kernel_rfl) (by kernel_rfl) (by rfl) (by assumption) ?_; simp only [Act.put, List.setIfInBounds_toArray, List.set_cons_zero, List.set_cons_succ])
      | (refine lane_take (v := ?_) rfl (by kernel_rfl) (by kernel_rfl) (by rfl) ?_ (by assumption) ?_; rotate_left; (focus (intro w' hSw; go_simp; try (with_reducible rfl))); simp only [Act.put, List.setIfInBounds_toArray, List.set_cons_zero, List.set_cons_succ]))
    refine lane_end (by kernel_rfl) ?_
    clear hHeld
    have HF := Lib.hid (H7.out.trans (hb9.mono H7.out.size))
    clear h91 h94 hb8 hb9
    go_wp2
    go_ret
    exact ⟨rfl, HF.out⟩

set_option maxHeartbeats 4000000 in
theorem orderBytes_9 (o : Ov) (ho : o.Wf) (hk : o.near.k = 9) (w : World) : Calls Try.prog 4 #[.agg o.arr] w fun e w' => e = .returned (.bool true) ∧ Below w.heap.size w w' := by
  have HNA := Lib.hid (near_o o ho)
  have wx := o.near_wf ho
  have rx := o.near_right
  have HE0 := Lib.hid (fun w => enc_o o ho.2.2.2.2.1.2.1.1 w)
  have HX := Lib.hid (fun w => enc_o o.near wx.2.2.2.2.1.2.1.1 w)
  rw [o.out_near] at HX
  clear ho
  generalize o.near = x at *
  have hn : nm x.k = 4 := by rw [hk]; rfl
  have hby : Pk.encs (9 :: [x.n]) = x.bytes := by
    unfold Ov.bytes
    rw [Ov.rest_four hn, hk, Pk.encs_cons]
  have HBY := Lib.hid hby
  have hle := x.len wx rx
  have HLE := Lib.hid hle.2
  have hni : I64 (9 :: [x.n]) := by
    have hN := (right_zero rx).1
    have hb := num_4 hn hN
    intro y hy; simp only [List.mem_cons, List.not_mem_nil, or_false] at hy; rcases hy with rfl | rfl <;> omega
  have HNI := Lib.hid hni
  have HNL : Hid ((9 :: [x.n] : List Int).length ≤ 1000) := Lib.hid (by simp)
  have HK := Lib.hid hk
  have HRX := Lib.hid rx
  have HWX := Lib.hid wx
  have hwk : IntKind.i64.wrap 9 = 9 := by simp only [IntKind.wrap_i64]; omega
  clear hn hby hle hni hk rx wx
  obtain ⟨X, hX⟩ : ∃ X, o.right = X := ⟨_, rfl⟩
  have HXV := Lib.hid hX
  clear hX
  go_enter Try.func4, Try.ntmps4
  go_wp2_with (first | ((with_reducible_and_instances (show wpList _ _ _ (Oper.mk _ (Op.load 27 _) _ _ _ _ :: _) _ _)); refine wl_load Try.underlying27 rfl info16 rfl rfl rfl (by (repeat (first | assumption | (with_reducible refine alloc_at ?_; (focus (first | omega | (simp; done) | (simp; omega)))) | (with_reducible refine boxed_at ?_; (focus (first | omega | (simp; done) | (simp; omega)))) | (with_reducible refine alloc_old ?_ ?_; (focus (first | omega | (simp; done) | (simp; omega)))) | (with_reducible refine boxed_old ?_ ?_; (focus (first | omega | (simp; done) | (simp; omega)))) | (with_reducible refine drew_old ?_)))) (by rfl) ?_) | ((with_reducible_and_instances (show wpList _ _ _ (Oper.mk _ (Op.store 27 _ _) _ _ _ _ :: _) _ _)); refine wl_store info16 rfl rfl rfl rfl (by (repeat (first | assumption | (with_reducible refine alloc_at ?_; (focus (first | omega | (simp; done) | (simp; omega)))) | (with_reducible refine boxed_at ?_; (focus (first | omega | (simp; done) | (simp; omega)))) | (with_reducible refine alloc_old ?_ ?_; (focus (first | omega | (simp; done) | (simp; omega)))) | (with_reducible refine boxed_old ?_ ?_; (focus (first | omega | (simp; done) | (simp; omega)))) | (with_reducible refine drew_old ?_)))) (by rfl) (by rfl) (by first | exact Ov.arr_one _ | (rw [← hz]; exact Ov.arr_one _) | simp [Value.oneCell']) ?_))
  refine (lright_o o _).mono ?_
  rw [HXV.out]
  rintro e w1 ⟨rfl, hb1⟩
  have h1 : w1.heap[w.heap.size]? = some (.cells o.arr 27 (0, 0)) := (hb1.block _ (by simp)).trans alloc_block
  have H1 : Hid (Below w.heap.size w w1) := Lib.hid (((Below.refl _ w).alloc (Nat.le_refl _) _).trans (hb1.mono (by first | omega | (simp; done) | (simp; omega))))
  have s1 : w.heap.size < w1.heap.size := by have := hb1.size; simp at this; omega
  clear hb1
  by_cases d : X = 0
  case' pos =>
    subst d
    have H2 := H1
    have h2 := h1
    have s2 := s1
    obtain ⟨w2, e2⟩ : ∃ w2, w2 = w1 := ⟨_, rfl⟩
    rw [← e2] at H2 h2 s2 ⊢
    clear e2 H1 h1 s1
    go_wp2_with (first | ((with_reducible_and_instances (show wpList _ _ _ (Oper.mk _ (Op.load 27 _) _ _ _ _ :: _) _ _)); refine wl_load Try.underlying27 rfl info16 rfl rfl rfl (by (repeat (first | assumption | (with_reducible refine alloc_at ?_; (focus (first | omega | (simp; done) | (simp; omega)))) | (with_reducible refine boxed_at ?_; (focus (first | omega | (simp; done) | (simp; omega)))) | (with_reducible refine alloc_old ?_ ?_; (focus (first | omega | (simp; done) | (simp; omega)))) | (with_reducible refine boxed_old ?_ ?_; (focus (first | omega | (simp; done) | (simp; omega)))) | (with_reducible refine drew_old ?_)))) (by rfl) ?_) | ((with_reducible_and_instances (show wpList _ _ _ (Oper.mk _ (Op.store 27 _ _) _ _ _ _ :: _) _ _)); refine wl_store info16 rfl rfl rfl rfl (by (repeat (first | assumption | (with_reducible refine alloc_at ?_; (focus (first | omega | (simp; done) | (simp; omega)))) | (with_reducible refine boxed_at ?_; (focus (first | omega | (simp; done) | (simp; omega)))) | (with_reducible refine alloc_old ?_ ?_; (focus (first | omega | (simp; done) | (simp; omega)))) | (with_reducible refine boxed_old ?_ ?_; (focus (first | omega | (simp; done) | (simp; omega)))) | (with_reducible refine drew_old ?_)))) (by rfl) (by rfl) (by first | exact Ov.arr_one _ | (rw [← hz]; exact Ov.arr_one _) | simp [Value.oneCell']) ?_))
  case' neg =>
    have z : (X != 0) = true := by simpa using d
    have HO : Hid (∀ w, Calls Try.prog 17 #[.agg o.arr] w (Owned w [])) := Lib.hid (by
      have := HE0.out
      unfold Ov.out at this
      rw [HXV.out, if_neg d] at this
      exact this)
    clear d
    go_wp2_with (first | ((with_reducible_and_instances (show wpList _ _ _ (Oper.mk _ (Op.load 27 _) _ _ _ _ :: _) _ _)); refine wl_load Try.underlying27 rfl info16 rfl rfl rfl (by (repeat (first | assumption | (with_reducible refine alloc_at ?_; (focus (first | omega | (simp; done) | (simp; omega)))) | (with_reducible refine boxed_at ?_; (focus (first | omega | (simp; done) | (simp; omega)))) | (with_reducible refine alloc_old ?_ ?_; (focus (first | omega | (simp; done) | (simp; omega)))) | (with_reducible refine boxed_old ?_ ?_; (focus (first | omega | (simp; done) | (simp; omega)))) | (with_reducible refine drew_old ?_)))) (by rfl) ?_) | ((with_reducible_and_instances (show wpList _ _ _ (Oper.mk _ (Op.store 27 _ _) _ _ _ _ :: _) _ _)); refine wl_store info16 rfl rfl rfl rfl (by (repeat (first | assumption | (with_reducible refine alloc_at ?_; (focus (first | omega | (simp; done) | (simp; omega)))) | (with_reducible refine boxed_at ?_; (focus (first | omega | (simp; done) | (simp; omega)))) | (with_reducible refine alloc_old ?_ ?_; (focus (first | omega | (simp; done) | (simp; omega)))) | (with_reducible refine boxed_old ?_ ?_; (focus (first | omega | (simp; done) | (simp; omega)))) | (with_reducible refine drew_old ?_)))) (by rfl) (by rfl) (by first | exact Ov.arr_one _ | (rw [← hz]; exact Ov.arr_one _) | simp [Value.oneCell']) ?_))
    refine (HO.out _).mono ?_
    intro e w2 hO
    obtain ⟨A2, c2, rfl, HB2⟩ := hO.open_nil
    have h2 : w2.heap[w.heap.size]? = some (.cells o.arr 27 (0, 0)) := (HB2.out.block _ s1).trans h1
    have H2 : Hid (Below w.heap.size w w2) := Lib.hid (H1.out.trans (HB2.out.mono H1.out.size))
    have s2 : w.heap.size < w2.heap.size := Nat.lt_of_lt_of_le s1 HB2.out.size
    clear hO HB2 H1 h1 s1
    go_wp2_with (first | ((with_reducible_and_instances (show wpList _ _ _ (Oper.mk _ (Op.load 27 _) _ _ _ _ :: _) _ _)); refine wl_load Try.underlying27 rfl info16 rfl rfl rfl (by (repeat (first | assumption | (with_reducible refine alloc_at ?_; (focus (first | omega | (simp; done) | (simp; omega)))) | (with_reducible refine boxed_at ?_; (focus (first | omega | (simp; done) | (simp; omega)))) | (with_reducible refine alloc_old ?_ ?_; (focus (first | omega | (simp; done) | (simp; omega)))) | (with_reducible refine boxed_old ?_ ?_; (focus (first | omega | (simp; done) | (simp; omega)))) | (with_reducible refine drew_old ?_)))) (by rfl) ?_) | ((with_reducible_and_instances (show wpList _ _ _ (Oper.mk _ (Op.store 27 _ _) _ _ _ _ :: _) _ _)); refine wl_store info16 rfl rfl rfl rfl (by (repeat (first | assumption | (with_reducible refine alloc_at ?_; (focus (first | omega | (simp; done) | (simp; omega)))) | (with_reducible refine boxed_at ?_; (focus (first | omega | (simp; done) | (simp; omega)))) | (with_reducible refine alloc_old ?_ ?_; (focus (first | omega | (simp; done) | (simp; omega)))) | (with_reducible refine boxed_old ?_ ?_; (focus (first | omega | (simp; done) | (simp; omega)))) | (with_reducible refine drew_old ?_)))) (by rfl) (by rfl) (by first | exact Ov.arr_one _ | (rw [← hz]; exact Ov.arr_one _) | simp [Value.oneCell']) ?_))
  all_goals
    refine (HNA.out _).mono ?_
    rintro e w3 ⟨rfl, hb3⟩
    have h3 : w3.heap[w.heap.size]? = some (.cells o.arr 27 (0, 0)) := (hb3.block _ s2).trans h2
    have H3 : Hid (Below w.heap.size w w3) := Lib.hid (H2.out.trans (hb3.mono H2.out.size))
    have s3 : w.heap.size < w3.heap.size := Nat.lt_of_lt_of_le s2 hb3.size
    clear hb3 H2 h2 s2
    go_wp2_with (first | ((with_reducible_and_instances (show wpList _ _ _ (Oper.mk _ (Op.load 27 _) _ _ _ _ :: _) _ _)); refine wl_load Try.underlying27 rfl info16 rfl rfl rfl (by (repeat (first | assumption | (with_reducible refine alloc_at ?_; (focus (first | omega | (simp; done) | (simp; omega)))) | (with_reducible refine boxed_at ?_; (focus (first | omega | (simp; done) | (simp; omega)))) | (with_reducible refine alloc_old ?_ ?_; (focus (first | omega | (simp; done) | (simp; omega)))) | (with_reducible refine boxed_old ?_ ?_; (focus (first | omega | (simp; done) | (simp; omega)))) | (with_reducible refine drew_old ?_)))) (by rfl) ?_) | ((with_reducible_and_instances (show wpList _ _ _ (Oper.mk _ (Op.store 27 _ _) _ _ _ _ :: _) _ _)); refine wl_store info16 rfl rfl rfl rfl (by (repeat (first | assumption | (with_reducible refine alloc_at ?_; (focus (first | omega | (simp; done) | (simp; omega)))) | (with_reducible refine boxed_at ?_; (focus (first | omega | (simp; done) | (simp; omega)))) | (with_reducible refine alloc_old ?_ ?_; (focus (first | omega | (simp; done) | (simp; omega)))) | (with_reducible refine boxed_old ?_ ?_; (focus (first | omega | (simp; done) | (simp; omega)))) | (with_reducible refine drew_old ?_)))) (by rfl) (by rfl) (by first | exact Ov.arr_one _ | (rw [← hz]; exact Ov.arr_one _) | simp [Value.oneCell']) ?_))
    refine (HX.out _).mono ?_
    intro e w4 hO
    obtain ⟨A4, n4, c4, rfl, HN4, HO4, HB4, HR4, h41, h42⟩ := hO.open_
    have h4 : w4.heap[w.heap.size]? = some (.cells x.arr 27 (0, 0)) := (HB4.out.block _ (by rw [boxed_size]; exact s3)).trans (boxed_block s3)
    have H4 : Hid (Below w.heap.size w w4) := Lib.hid ((boxed_below H3.out (Nat.le_refl _)).trans (HB4.out.mono (by rw [boxed_size]; exact Nat.le_of_lt s3)))
    have s4 : w.heap.size < w4.heap.size := Nat.lt_of_lt_of_le s3 (by have := HB4.out.size; rwa [boxed_size] at this)
    clear hO HB4 H3 h3 s3 HO4
    go_wp2_with (first | ((with_reducible_and_instances (show wpList _ _ _ (Oper.mk _ (Op.load 27 _) _ _ _ _ :: _) _ _)); refine wl_load Try.underlying27 rfl info16 rfl rfl rfl (by (repeat (first | assumption | (with_reducible refine alloc_at ?_; (focus (first | omega | (simp; done) | (simp; omega)))) | (with_reducible refine boxed_at ?_; (focus (first | omega | (simp; done) | (simp; omega)))) | (with_reducible refine alloc_old ?_ ?_; (focus (first | omega | (simp; done) | (simp; omega)))) | (with_reducible refine boxed_old ?_ ?_; (focus (first | omega | (simp; done) | (simp; omega)))) | (with_reducible refine drew_old ?_)))) (by rfl) ?_) | ((with_reducible_and_instances (show wpList _ _ _ (Oper.mk _ (Op.store 27 _ _) _ _ _ _ :: _) _ _)); refine wl_store info16 rfl rfl rfl rfl (by (repeat (first | assumption | (with_reducible refine alloc_at ?_; (focus (first | omega | (simp; done) | (simp; omega)))) | (with_reducible refine boxed_at ?_; (focus (first | omega | (simp; done) | (simp; omega)))) | (with_reducible refine alloc_old ?_ ?_; (focus (first | omega | (simp; done) | (simp; omega)))) | (with_reducible refine boxed_old ?_ ?_; (focus (first | omega | (simp; done) | (simp; omega)))) | (with_reducible refine drew_old ?_)))) (by rfl) (by rfl) (by first | exact Ov.arr_one _ | (rw [← hz]; exact Ov.arr_one _) | simp [Value.oneCell']) ?_))
    refine (decode_any w4 A4 n4 c4 x.bytes HR4.out (Nat.le_trans HLE.out (by omega)) (fun y hy => by have := x.bytes_ok y hy; omega) HN4.out).mono ?_
    rintro e w5 ⟨x', e', rfl, hd, hb5⟩
    obtain ⟨rfl, rfl⟩ := hd.is HRX.out HWX.out
    rw [Ov.val_arr]
    have h5 : w5.heap[w.heap.size]? = some (.cells x'.arr 27 (0, 0)) := (hb5.block _ s4).trans h4
    have H5 : Hid (Below w.heap.size w w5) := Lib.hid (H4.out.trans (hb5.mono H4.out.size))
    have s5 : w.heap.size < w5.heap.size := Nat.lt_of_lt_of_le s4 hb5.size
    have HR5 : Hid (Rd w5 .u8 w4.heap.size A4 x'.bytes) := Lib.hid (HR4.out.below hb5)
    have H45 := Lib.hid hb5.size
    have hc0 : w5.cell? ⟨w.heap.size, 0, none⟩ = some (.int .u8 9) := by rw [cell_of_row _ _ 0 _ _ _ h5, ← HK.out]; rfl
    have hc3 : w5.cell? ⟨w.heap.size, 3, none⟩ = some (.int .i64 x'.n) := cell_of_row _ _ 3 _ _ _ h5
    clear hd hb5 H4 h4 s4
    go_wp2_with (first | ((with_reducible_and_instances (show wpList _ _ _ (Oper.mk _ (Op.load 27 _) _ _ _ _ :: _) _ _)); refine wl_load Try.underlying27 rfl info16 rfl rfl rfl (by (repeat (first | assumption | (with_reducible refine alloc_at ?_; (focus (first | omega | (simp; done) | (simp; omega)))) | (with_reducible refine boxed_at ?_; (focus (first | omega | (simp; done) | (simp; omega)))) | (with_reducible refine alloc_old ?_ ?_; (focus (first | omega | (simp; done) | (simp; omega)))) | (with_reducible refine boxed_old ?_ ?_; (focus (first | omega | (simp; done) | (simp; omega)))) | (with_reducible refine drew_old ?_)))) (by rfl) ?_) | ((with_reducible_and_instances (show wpList _ _ _ (Oper.mk _ (Op.store 27 _ _) _ _ _ _ :: _) _ _)); refine wl_store info16 rfl rfl rfl rfl (by (repeat (first | assumption | (with_reducible refine alloc_at ?_; (focus (first | omega | (simp; done) | (simp; omega)))) | (with_reducible refine boxed_at ?_; (focus (first | omega | (simp; done) | (simp; omega)))) | (with_reducible refine alloc_old ?_ ?_; (focus (first | omega | (simp; done) | (simp; omega)))) | (with_reducible refine boxed_old ?_ ?_; (focus (first | omega | (simp; done) | (simp; omega)))) | (with_reducible refine drew_old ?_)))) (by rfl) (by rfl) (by first | exact Ov.arr_one _ | (rw [← hz]; exact Ov.arr_one _) | simp [Value.oneCell']) ?_) | (at_builtin; refine wpList_append_lits rfl _ _ rfl rfl _ _ 9 [x'.n] _ _ 1 rfl rfl (by simp) (by simp) rfl rfl rfl (by omega) ?_; intro A7 c7 w7 hb7 hr7; have hB1 := (hb7.block w.heap.size (by simp; omega)).trans (show _ = some (Obj.cells x'.arr 27 (0, 0)) by (repeat (first | assumption | (with_reducible refine alloc_at ?_; (focus (first | omega | (simp; done) | (simp; omega)))) | (with_reducible refine boxed_at ?_; (focus (first | omega | (simp; done) | (simp; omega)))) | (with_reducible refine alloc_old ?_ ?_; (focus (first | omega | (simp; done) | (simp; omega)))) | (with_reducible refine boxed_old ?_ ?_; (focus (first | omega | (simp; done) | (simp; omega)))) | (with_reducible refine drew_old ?_)))); have hB4 := (hb7.block w5.heap.size (by simp)).trans (show _ = some (Obj.cells x'.arr 27 (0, 0)) by (repeat (first | assumption | (with_reducible refine alloc_at ?_; (focus (first | omega | (simp; done) | (simp; omega)))) | (with_reducible refine boxed_at ?_; (focus (first | omega | (simp; done) | (simp; omega)))) | (with_reducible refine alloc_old ?_ ?_; (focus (first | omega | (simp; done) | (simp; omega)))) | (with_reducible refine boxed_old ?_ ?_; (focus (first | omega | (simp; done) | (simp; omega)))) | (with_reducible refine drew_old ?_)))); have hb57 : Below w5.heap.size w5 w7 := (boxed_below ((Below.refl _ _).alloc (Nat.le_refl _) _) (Nat.le_refl _)).trans (hb7.mono (by simp)); have hs57 : w5.heap.size < w7.heap.size := (by have := hb7.size; simp at this; omega); have HB1 := Lib.hid hB1; have HB4 := Lib.hid hB4; have HR7 := Lib.hid hr7; have H57 := Lib.hid hb57; clear hB1 hB4 hb7 hr7 hb57))
    have H7 : Hid (Below w.heap.size w w7) := Lib.hid (H5.out.trans (H57.out.mono H5.out.size))
    have s74 : w5.heap.size < w7.heap.size := hs57
    have s71 : w.heap.size < w7.heap.size := Nat.lt_trans s5 hs57
    have HCV : Hid (∀ w', Below w7.heap.size w7 w' → (convert 34 9 (.slice A4 n4 c4)).run Try.prog w' = .ok (.string (bst x'.bytes)) w') := Lib.hid (fun w' hw => conv_len w' A4 _ c4 n4 _ (HR5.out.below ((H57.out.mono H45.out).trans (hw.mono (Nat.le_trans H45.out H57.out.size)))) HN4.out)
    clear h5 hc0 hc3
    refine lane_start (ord := [0, 1, 2, 3, 4, 5, 6, 7, 8, 9, 10, 11, 12, 13, 14, 15, 16, 17, 18]) (S := fun w' => (w'.heap[w5.heap.size]? = some (.cells x'.arr 27 (0, 0)) ∧ w'.heap[w.heap.size]? = some (.cells x'.arr 27 (0, 0))) ∧ (convert 34 9 (.slice A4 n4 c4)).run Try.prog w' = .ok (.string (bst x'.bytes)) w') rfl (by kernel_rfl) ⟨⟨HB4.out, HB1.out⟩, HCV.out _ ((Below.refl _ _).drew)⟩ (fun hHeld => ?_)
    refine lane_alone rfl (by kernel_rfl) (by rfl) (fun K hK => ?_)
    go_simp
    refine (awake_any _).mono ?_
    rintro e w8 ⟨rfl, hb8⟩
    have hb8 : Below w7.heap.size w7 w8 := ((Below.refl _ _).drew).trans hb8
    have h81 := (hb8.block _ s71).trans HB1.out
    have h84 := (hb8.block _ s74).trans HB4.out
    refine hK _ _ ⟨⟨h84, h81⟩, HCV.out _ hb8⟩ (fun hHeld => ?_)
    clear hK K
    refine lane_take (v := ?_) rfl (by kernel_rfl) (by kernel_rfl) (by rfl) ?_ (by assumption) ?_
    rotate_left
    · intro w' hSw
      obtain ⟨_, hc⟩ := hSw
      go_simp
      try (with_reducible rfl)
    simp only [Act.put, List.setIfInBounds_toArray, List.set_cons_zero, List.set_cons_succ]
    refine lane_take (v := ?_) rfl (by kernel_rfl) (by kernel_rfl) (by rfl) ?_ (by assumption) ?_
    rotate_left
    · intro w' hSw
      obtain ⟨_, hc⟩ := hSw
      go_simp
      try (with_reducible rfl)
    simp only [Act.put, List.setIfInBounds_toArray, List.set_cons_zero, List.set_cons_succ]
    refine lane_take (v := ?_) rfl (by kernel_rfl) (by kernel_rfl) (by rfl) ?_ (by assumption) ?_
    rotate_left
    · intro w' hSw
      obtain ⟨_, hc⟩ := hSw
      go_simp
      try (with_reducible rfl)
    simp only [Act.put, List.setIfInBounds_toArray, List.set_cons_zero, List.set_cons_succ]
    refine lane_take (v := ?_) rfl (by kernel_rfl) (by kernel_rfl) (by rfl) ?_ (by assumption) ?_
    rotate_left
    · intro w' hSw
      obtain ⟨_, hc⟩ := hSw
      go_simp
      try (with_reducible rfl)
    simp only [Act.put, List.setIfInBounds_toArray, List.set_cons_zero, List.set_cons_succ]
    refine lane_alone rfl (by kernel_rfl) (by rfl) (fun K hK => ?_)
    go_simp
    refine (packs_any A7 w7.heap.size c7 _ w8 (HR7.out.below hb8) hb8.size HNL.out HNI.out).mono ?_
    intro e w9 hO
    rw [HBY.out] at hO
    obtain ⟨A9, n9, c9, rfl, HN9, _, HL9, HR9, _, _⟩ := hO.open_
    have hb9 := hb8.trans (HL9.out.mono hb8.size)
    have h91 := (hb9.block _ s71).trans HB1.out
    have h94 := (hb9.block _ s74).trans HB4.out
    have hcv9 := conv_len w9 A9 _ c9 n9 _ HR9.out HN9.out
    refine hK _ _ ⟨⟨h94, h91⟩, HCV.out _ hb9⟩ (fun hHeld => ?_)
    clear hK K
    clear h81 h84
    refine lane_alone rfl (by kernel_rfl) (by rfl) (fun K hK => ?_)
    go_simp
    refine hK _ _ hHeld (fun hHeld => ?_)
    clear hK K hcv9
    refine lane_take (v := ?_) rfl (by kernel_rfl) (by kernel_rfl) (by rfl) ?_ (by assumption) ?_
    rotate_left
    · intro w' hSw
      go_simp
      try (with_reducible rfl)
    simp only [Act.put, List.setIfInBounds_toArray, List.set_cons_zero, List.set_cons_succ]
    refine lane_take (v := ?_) rfl (by kernel_rfl) (by kernel_rfl) (by rfl) ?_ (by assumption) ?_
    rotate_left
    · intro w' hSw
      go_simp
      try (with_reducible rfl)
    simp only [Act.put, List.setIfInBounds_toArray, List.set_cons_zero, List.set_cons_succ]
    refine lane_take (v := ?_) rfl (by kernel_rfl) (by kernel_rfl) (by rfl) ?_ (by assumption) ?_
    rotate_left
    · intro w' hSw
      go_simp
      try (with_reducible rfl)
    simp only [Act.put, List.setIfInBounds_toArray, List.set_cons_zero, List.set_cons_succ]
    refine lane_take (v := ?_) rfl (by kernel_rfl) (by kernel_rfl) (by rfl) ?_ (by assumption) ?_
    rotate_left
    · intro w' hSw
      go_simp
      try (with_reducible rfl)
    simp only [Act.put, List.setIfInBounds_toArray, List.set_cons_zero, List.set_cons_succ]
    refine lane_take (v := ?_) rfl (by kernel_rfl) (by kernel_rfl) (by rfl) ?_ (by assumption) ?_
    rotate_left
    · intro w' hSw
      go_simp
      try (with_reducible rfl)
    simp only [Act.put, List.setIfInBounds_toArray, List.set_cons_zero, List.set_cons_succ]
    refine lane_take (v := ?_) rfl (by kernel_rfl) (by kernel_rfl) (by rfl) ?_ (by assumption) ?_
    rotate_left
    · intro w' hSw
      go_simp
      try (with_reducible rfl)
    simp only [Act.put, List.setIfInBounds_toArray, List.set_cons_zero, List.set_cons_succ]
    refine lane_take (v := ?_) rfl (by kernel_rfl) (by kernel_rfl) (by rfl) ?_ (by assumption) ?_
    rotate_left
    · intro w' hSw
      go_simp
      try (with_reducible rfl)
    simp only [Act.put, List.setIfInBounds_toArray, List.set_cons_zero, List.set_cons_succ]
    refine lane_take rfl (by kernel_rfl) (by kernel_rfl) (by rfl) (fun w' hS => exec_load rfl rfl (ld16 hS.1.1 rfl)) (by assumption) ?_
    simp only [Act.put, List.setIfInBounds_toArray, List.set_cons_zero, List.set_cons_succ]
    refine lane_take rfl (by kernel_rfl) (by kernel_rfl) (by rfl) (fun w' hS => exec_load rfl rfl (ld16 hS.1.2 rfl)) (by assumption) ?_
    simp only [Act.put, List.setIfInBounds_toArray, List.set_cons_zero, List.set_cons_succ]
    refine lane_take rfl (by kernel_rfl) (by kernel_rfl) (by rfl) (fun w' hS => exec_eql16' (decide_eq_true rfl) rfl rfl rfl w') (by assumption) ?_
    simp only [Act.put, List.setIfInBounds_toArray, List.set_cons_zero, List.set_cons_succ]
    repeat (first
      | (refine lane_skip rfl (by kernel_rfl) (by kernel_rfl) (by rfl) (by assumption) ?_; simp only [Act.put, List.setIfInBounds_toArray, List.set_cons_zero, List.set_cons_succ])
      | (refine lane_take (v := ?_) rfl (by kernel_rfl) (by kernel_rfl) (by rfl) ?_ (by assumption) ?_; rotate_left; (focus (intro w' hSw; go_simp; try (with_reducible rfl))); simp only [Act.put, List.setIfInBounds_toArray, List.set_cons_zero, List.set_cons_succ]))
    refine lane_end (by kernel_rfl) ?_
    clear hHeld
    have HF := Lib.hid (H7.out.trans (hb9.mono H7.out.size))
    clear h91 h94 hb8 hb9
    go_wp2
    go_ret
    exact ⟨rfl, HF.out⟩

end Go.Proofs.Ytambppcnmggocaa
