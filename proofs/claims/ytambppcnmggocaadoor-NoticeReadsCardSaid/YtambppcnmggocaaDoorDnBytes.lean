/-
  The walk of the law NoticeBytes: it returns true, whatever the input, and makes new blocks alone. Condition: the table holds what the program's text lays.
-/
import Derived.Test.YtambppcnmggocaaDoorDnSeal
namespace Go.Proofs.YtambppcnmggocaaDoor
set_option maxRecDepth 20000
open Go.ChangeShapes Go.WideShapes Go.ChangeAt Go.RowKit

theorem bin_eql6 {v v' : Nv} {r : Bool} (hr : decide (v = v') = r) (w : World) : (binOp .eql 23 (.agg v.arr) (.agg v'.arr)).run Tryd.prog w = .ok (.bool r) w := by
  subst hr
  have he := eq6 v v' w
  unfold Nv.val at he
  unfold Nv.arr
  rw [run_eql_struct, he]; rfl
theorem rd_lit_at (W : World) (cs : Array Value) (k : IntKind) (l : List Int) (t : TypeId) (B : Nat) (hB : B = W.heap.size) (h : cs.toList = cl k l) : Rd (W.alloc (.cells cs t)) k (B + 1) (some ⟨B, 0, none⟩) l := by
  subst hB; exact rd_lit W cs k l t (0, 0) h
theorem Nv.nearA_wf (n : Nv) : n.nearA.Wf := by
  obtain ⟨h1, h2, h3, h4, h5, h6, h7, h8, h9, h10, h11, h12⟩ := n.nearA_ok
  exact ⟨by omega, by omega, by omega, by omega, by omega, by omega⟩

set_option maxHeartbeats 4000000 in
theorem noticeBytes_n (n : Nv) (h : n.Wf) (w : World) (ht : Lines w) : Calls Tryd.prog 3 #[.agg n.arr] w fun e w' => e = .returned (.bool true) ∧ Below w.heap.size w w' := by
  have HT := Lib.hid ht
  have HNA := Lib.hid (near_n n h)
  have hx := n.nearA_ok
  have wx := n.nearA_wf
  clear h ht
  generalize n.nearA = x at *
  have HO := Lib.hid hx
  have HL := Lib.hid (x.len hx).2
  have hwk : IntKind.i64.wrap x.k = x.k := by have := wx.1; simp only [IntKind.wrap_i64]; omega
  have hwv : IntKind.i64.wrap x.v = x.v := by have := wx.2.2.2.2.2; simp only [IntKind.wrap_i64]; omega
  have heq := bin_eql6 (v := x) (v' := x) (decide_eq_true rfl)
  clear hx wx
  go_enter Tryd.func3, Tryd.ntmps3
  go_wp2_with (first | ((with_reducible_and_instances (show wpList _ _ _ (Oper.mk _ (Op.load 23 _) _ _ _ _ :: _) _ _)); refine wl_load Tryd.underlying23 rfl info6 rfl rfl rfl (by (repeat (first | assumption | (with_reducible refine alloc_at ?_; (focus (first | omega | (simp; done) | (simp; omega)))) | (with_reducible refine boxed_at ?_; (focus (first | omega | (simp; done) | (simp; omega)))) | (with_reducible refine alloc_old ?_ ?_; (focus (first | omega | (simp; done) | (simp; omega)))) | (with_reducible refine boxed_old ?_ ?_; (focus (first | omega | (simp; done) | (simp; omega)))) | (with_reducible refine drew_old ?_)))) (by rfl) ?_) | ((with_reducible_and_instances (show wpList _ _ _ (Oper.mk _ (Op.store 23 _ _) _ _ _ _ :: _) _ _)); refine wl_store info6 rfl rfl rfl rfl (by (repeat (first | assumption | (with_reducible refine alloc_at ?_; (focus (first | omega | (simp; done) | (simp; omega)))) | (with_reducible refine boxed_at ?_; (focus (first | omega | (simp; done) | (simp; omega)))) | (with_reducible refine alloc_old ?_ ?_; (focus (first | omega | (simp; done) | (simp; omega)))) | (with_reducible refine boxed_old ?_ ?_; (focus (first | omega | (simp; done) | (simp; omega)))) | (with_reducible refine drew_old ?_)))) (by rfl) (by rfl) (by first | exact Nv.arr_one _ | simp [Value.oneCell']) ?_))
  refine (HNA.out _).mono ?_
  rintro e w1 ⟨rfl, hb1⟩
  have h1 : w1.heap[w.heap.size]? = some (.cells n.arr 23 (0, 0)) := (hb1.block _ (by simp)).trans alloc_block
  have H1 : Hid (Below w.heap.size w w1) := Lib.hid (((Below.refl _ w).alloc (Nat.le_refl _) _).trans (hb1.mono (by simp)))
  have s1 : w.heap.size < w1.heap.size := by have := hb1.size; simp at this; omega
  clear hb1
  go_wp2_with (first | ((with_reducible_and_instances (show wpList _ _ _ (Oper.mk _ (Op.load 23 _) _ _ _ _ :: _) _ _)); refine wl_load Tryd.underlying23 rfl info6 rfl rfl rfl (by (repeat (first | assumption | (with_reducible refine alloc_at ?_; (focus (first | omega | (simp; done) | (simp; omega)))) | (with_reducible refine boxed_at ?_; (focus (first | omega | (simp; done) | (simp; omega)))) | (with_reducible refine alloc_old ?_ ?_; (focus (first | omega | (simp; done) | (simp; omega)))) | (with_reducible refine boxed_old ?_ ?_; (focus (first | omega | (simp; done) | (simp; omega)))) | (with_reducible refine drew_old ?_)))) (by rfl) ?_) | ((with_reducible_and_instances (show wpList _ _ _ (Oper.mk _ (Op.store 23 _ _) _ _ _ _ :: _) _ _)); refine wl_store info6 rfl rfl rfl rfl (by (repeat (first | assumption | (with_reducible refine alloc_at ?_; (focus (first | omega | (simp; done) | (simp; omega)))) | (with_reducible refine boxed_at ?_; (focus (first | omega | (simp; done) | (simp; omega)))) | (with_reducible refine alloc_old ?_ ?_; (focus (first | omega | (simp; done) | (simp; omega)))) | (with_reducible refine boxed_old ?_ ?_; (focus (first | omega | (simp; done) | (simp; omega)))) | (with_reducible refine drew_old ?_)))) (by rfl) (by rfl) (by first | exact Nv.arr_one _ | simp [Value.oneCell']) ?_))
  have B2 : Hid ((boxed w1 w.heap.size x.arr 23).heap[w.heap.size]? = some (.cells x.arr 23 (0, 0))) := Lib.hid (boxed_block s1)
  have H2 : Hid (Below w.heap.size w (boxed w1 w.heap.size x.arr 23)) := Lib.hid (boxed_below H1.out (Nat.le_refl _))
  have s2 : w.heap.size < (boxed w1 w.heap.size x.arr 23).heap.size := by rw [boxed_size]; exact s1
  clear h1 H1 s1
  generalize boxed w1 w.heap.size x.arr 23 = w2 at *
  refine (nenc_n x HO.out w2 (HT.out.below H2.out)).mono ?_
  intro e w3 hO
  obtain ⟨A3, n3, c3, rfl, HN3, _, HB3, HR3, hc3, _⟩ := hO.open_
  have h3 := (HB3.out.block _ s2).trans B2.out
  have H3 : Hid (Below w.heap.size w w3) := Lib.hid (H2.out.trans (HB3.out.mono H2.out.size))
  have s3 : w.heap.size < w3.heap.size := Nat.lt_of_lt_of_le s2 HB3.out.size
  clear hO HB3 B2 H2 s2
  go_wp2_with (fail)
  refine (ndec_n w3 A3 n3 c3 x.seal (HT.out.below H3.out) HR3.out (by have := HN3.out; have := HL.out; rw [Nv.seal_len] at *; omega) x.seal_ok HN3.out hc3).mono ?_
  rintro e w4 ⟨m, e', rfl, hd, hb4⟩
  obtain ⟨rfl, rfl⟩ := hd.is HO.out
  have h4 := (hb4.block _ s3).trans h3
  have H4 : Hid (Below w.heap.size w w4) := Lib.hid (H3.out.trans (hb4.mono H3.out.size))
  have s4 : w.heap.size < w4.heap.size := Nat.lt_of_lt_of_le s3 hb4.size
  have HR4 : Hid (Rd w4 .u8 w3.heap.size A3 m.seal) := Lib.hid (HR3.out.below hb4)
  have H34 := Lib.hid hb4.size
  have c0 : w4.cell? ⟨w.heap.size, 0, none⟩ = some (.int .u8 m.k) := cell_of_row _ _ 0 _ _ _ h4
  have c1 : w4.cell? ⟨w.heap.size, 1, none⟩ = some (.int .i64 m.s) := cell_of_row _ _ 1 _ _ _ h4
  have c2 : w4.cell? ⟨w.heap.size, 2, none⟩ = some (.int .i64 m.c) := cell_of_row _ _ 2 _ _ _ h4
  have c3' : w4.cell? ⟨w.heap.size, 3, none⟩ = some (.int .i64 m.t) := cell_of_row _ _ 3 _ _ _ h4
  have c4 : w4.cell? ⟨w.heap.size, 4, none⟩ = some (.int .i64 m.a) := cell_of_row _ _ 4 _ _ _ h4
  have c5 : w4.cell? ⟨w.heap.size, 5, none⟩ = some (.int .u8 m.v) := cell_of_row _ _ 5 _ _ _ h4
  clear hd hb4 h3 H3 s3
  go_wp2_with (first | ((with_reducible_and_instances (show wpList _ _ _ (Oper.mk _ (Op.load 23 _) _ _ _ _ :: _) _ _)); refine wl_load Tryd.underlying23 rfl info6 rfl rfl rfl (by (repeat (first | assumption | (with_reducible refine alloc_at ?_; (focus (first | omega | (simp; done) | (simp; omega)))) | (with_reducible refine boxed_at ?_; (focus (first | omega | (simp; done) | (simp; omega)))) | (with_reducible refine alloc_old ?_ ?_; (focus (first | omega | (simp; done) | (simp; omega)))) | (with_reducible refine boxed_old ?_ ?_; (focus (first | omega | (simp; done) | (simp; omega)))) | (with_reducible refine drew_old ?_)))) (by rfl) ?_) | ((with_reducible_and_instances (show wpList _ _ _ (Oper.mk _ (Op.store 23 _ _) _ _ _ _ :: _) _ _)); refine wl_store info6 rfl rfl rfl rfl (by (repeat (first | assumption | (with_reducible refine alloc_at ?_; (focus (first | omega | (simp; done) | (simp; omega)))) | (with_reducible refine boxed_at ?_; (focus (first | omega | (simp; done) | (simp; omega)))) | (with_reducible refine alloc_old ?_ ?_; (focus (first | omega | (simp; done) | (simp; omega)))) | (with_reducible refine boxed_old ?_ ?_; (focus (first | omega | (simp; done) | (simp; omega)))) | (with_reducible refine drew_old ?_)))) (by rfl) (by rfl) (by first | exact Nv.arr_one _ | simp [Value.oneCell']) ?_))
  have B1 : Hid ((boxed (w4.alloc (.cells #[.int .u8 0, .int .i64 0, .int .i64 0, .int .i64 0, .int .i64 0, .int .u8 0] 23)) w4.heap.size m.arr 23).heap[w.heap.size]? = some (.cells m.arr 23 (0, 0))) := Lib.hid (by (repeat (first | assumption | (with_reducible refine alloc_at ?_; (focus (first | omega | (simp; done) | (simp; omega)))) | (with_reducible refine boxed_at ?_; (focus (first | omega | (simp; done) | (simp; omega)))) | (with_reducible refine alloc_old ?_ ?_; (focus (first | omega | (simp; done) | (simp; omega)))) | (with_reducible refine boxed_old ?_ ?_; (focus (first | omega | (simp; done) | (simp; omega)))) | (with_reducible refine drew_old ?_))))
  have B4 : Hid ((boxed (w4.alloc (.cells #[.int .u8 0, .int .i64 0, .int .i64 0, .int .i64 0, .int .i64 0, .int .u8 0] 23)) w4.heap.size m.arr 23).heap[w4.heap.size]? = some (.cells m.arr 23 (0, 0))) := Lib.hid (by (repeat (first | assumption | (with_reducible refine alloc_at ?_; (focus (first | omega | (simp; done) | (simp; omega)))) | (with_reducible refine boxed_at ?_; (focus (first | omega | (simp; done) | (simp; omega)))) | (with_reducible refine alloc_old ?_ ?_; (focus (first | omega | (simp; done) | (simp; omega)))) | (with_reducible refine boxed_old ?_ ?_; (focus (first | omega | (simp; done) | (simp; omega)))) | (with_reducible refine drew_old ?_))))
  have z5 : (boxed (w4.alloc (.cells #[.int .u8 0, .int .i64 0, .int .i64 0, .int .i64 0, .int .i64 0, .int .u8 0] 23)) w4.heap.size m.arr 23).heap.size = w4.heap.size + 1 := by simp
  have H45 : Hid (Below w4.heap.size w4 (boxed (w4.alloc (.cells #[.int .u8 0, .int .i64 0, .int .i64 0, .int .i64 0, .int .i64 0, .int .u8 0] 23)) w4.heap.size m.arr 23)) := Lib.hid (boxed_below ((Below.refl _ _).alloc (Nat.le_refl _) _) (Nat.le_refl _))
  generalize (boxed (w4.alloc (.cells #[.int .u8 0, .int .i64 0, .int .i64 0, .int .i64 0, .int .i64 0, .int .u8 0] 23)) w4.heap.size m.arr 23) = w5 at *
  have H5 : Hid (Below w.heap.size w w5) := Lib.hid (H4.out.trans (H45.out.mono H4.out.size))
  clear c0 c1 c2 c3' c4 c5 h4
  refine (packs_any _ (w4.heap.size + 2) _ [m.k, m.s, m.c, m.t, m.a, m.v] _ (rd_lit_at w5 _ _ _ _ _ z5.symm rfl) (by rw [World.size_alloc]; omega) (by simp) HO.out.i64).mono ?_
  intro e w6 hO
  rw [show Pk.encs [m.k, m.s, m.c, m.t, m.a, m.v] = m.bytes from rfl] at hO
  obtain ⟨A6, n6, c6, rfl, HN6, _, HB6, HR6, _, _⟩ := hO.open_
  have H56 : Hid (Below w5.heap.size w5 w6) := Lib.hid (((Below.refl _ _).alloc (Nat.le_refl _) _).trans (HB6.out.mono (by simp)))
  clear hO HB6
  go_wp2_with (fail)
  refine (refClose_any 0 0 A6 w6.heap.size c6 n6 m.bytes w6 (by omega) (by omega) HR6.out (Nat.le_refl _) m.bytes_ok HN6.out (by have := HN6.out; have := HL.out; omega)).mono ?_
  intro e w7 hO
  obtain ⟨A7, n7, c7, rfl, HN7, _, HB7, HR7, _, _⟩ := hO.open_
  have H57 : Hid (Below w5.heap.size w5 w7) := Lib.hid (H56.out.trans (HB7.out.mono H56.out.size))
  clear hO HB7 H56
  go_wp2_with (fail)
  refine (ntawake_any _).mono ?_
  rintro e w8 ⟨rfl, hb8⟩
  have H58 : Hid (Below w5.heap.size w5 w8) := Lib.hid (H57.out.trans (hb8.mono H57.out.size))
  have h81 : w8.heap[w.heap.size]? = some (.cells m.arr 23 (0, 0)) := (H58.out.block _ (by omega)).trans B1.out
  have h84 : w8.heap[w4.heap.size]? = some (.cells m.arr 23 (0, 0)) := (H58.out.block _ (by omega)).trans B4.out
  have hcv3 := conv_len w8 A3 _ c3 n3 _ (HR4.out.below ((H45.out.trans (H58.out.mono (by omega))).mono H34.out)) HN3.out
  have hcv7 := conv_len w8 A7 _ c7 n7 _ (HR7.out.below hb8) HN7.out
  have HF : Hid (Below w.heap.size w w8) := Lib.hid (H5.out.trans (H58.out.mono H5.out.size))
  clear hb8 H58 B1 B4 H45 H57
  go_wp2_with (first | ((with_reducible_and_instances (show wpList _ _ _ (Oper.mk _ (Op.load 23 _) _ _ _ _ :: _) _ _)); refine wl_load Tryd.underlying23 rfl info6 rfl rfl rfl (by (repeat (first | assumption | (with_reducible refine alloc_at ?_; (focus (first | omega | (simp; done) | (simp; omega)))) | (with_reducible refine boxed_at ?_; (focus (first | omega | (simp; done) | (simp; omega)))) | (with_reducible refine alloc_old ?_ ?_; (focus (first | omega | (simp; done) | (simp; omega)))) | (with_reducible refine boxed_old ?_ ?_; (focus (first | omega | (simp; done) | (simp; omega)))) | (with_reducible refine drew_old ?_)))) (by rfl) ?_) | ((with_reducible_and_instances (show wpList _ _ _ (Oper.mk _ (Op.store 23 _ _) _ _ _ _ :: _) _ _)); refine wl_store info6 rfl rfl rfl rfl (by (repeat (first | assumption | (with_reducible refine alloc_at ?_; (focus (first | omega | (simp; done) | (simp; omega)))) | (with_reducible refine boxed_at ?_; (focus (first | omega | (simp; done) | (simp; omega)))) | (with_reducible refine alloc_old ?_ ?_; (focus (first | omega | (simp; done) | (simp; omega)))) | (with_reducible refine boxed_old ?_ ?_; (focus (first | omega | (simp; done) | (simp; omega)))) | (with_reducible refine drew_old ?_)))) (by rfl) (by rfl) (by first | exact Nv.arr_one _ | simp [Value.oneCell']) ?_))
  go_ret
  exact ⟨rfl, HF.out⟩
theorem noticeBytes_walk (w : World) (K S C T M V : Int) (h : (⟨K, S, C, T, M, V⟩ : Nv).Wf) (ht : Lines w) : Calls Tryd.prog 3 #[.agg #[.int .u8 K, .int .i64 S, .int .i64 C, .int .i64 T, .int .i64 M, .int .u8 V]] w fun e w' => e = .returned (.bool true) ∧ Below w.heap.size w w' := noticeBytes_n ⟨K, S, C, T, M, V⟩ h w ht
end Go.Proofs.YtambppcnmggocaaDoor
