/-
  The walk of the law OrderNotices: it returns true, whatever the input, and makes new blocks alone. No conditions.
-/
import Derived.Test.YtambppcnmggocaaOrDec
import Derived.Test.YtambppcnmggocaaOrRightsWalk
namespace Go.Proofs.Ytambppcnmggocaa
set_option maxRecDepth 20000
open Go.ChangeShapes Go.WideShapes Go.ChangeAt Go.RowKit

theorem Nv.val_at (n : Nv) : n.val = .agg #[.int .u8 n.k, .int .i64 n.s, .int .i64 n.c, .int .i64 n.t, .int .i64 n.a, .int .u8 n.v] := rfl
set_option maxHeartbeats 1000000 in
theorem orderNotices_long (K S C T M V : Int) (ask : Bool) (A : Option Addr) (n c : Nat) (hn : 50 < n) (w : World) :
    Calls Try.prog 6 #[.agg #[.int .u8 K, .int .i64 S, .int .i64 C, .int .i64 T, .int .i64 M, .int .u8 V], .bool ask, .slice A n c] w fun e w' => e = .returned (.bool true) ∧ Below w.heap.size w w' := by
  have t : decide ((50 : Int) < (n : Int)) = true := by simp; omega
  clear hn
  go_enter Try.func6, Try.ntmps6
  go_wp2_with (fail)
  refine (awake_any _).mono ?_
  rintro e w1 ⟨rfl, hb1⟩
  go_wp2_with (fail)
  refine (awake_any _).mono ?_
  rintro e w2 ⟨rfl, hb2⟩
  go_wp2
  go_ret
  exact ⟨rfl, ((Below.refl _ w).alloc (Nat.le_refl _) _).trans ((hb1.trans (hb2.mono hb1.size)).mono (by simp))⟩

set_option maxHeartbeats 4000000 in
theorem orderNotices_false (w : World) (K S C T M V : Int) (h : (⟨K, S, C, T, M, V⟩ : Nv).Wf) (A : Option Addr) (n c : Nat) (p : List Int) (hr : Rd w .u8 w.heap.size A p) (hb : BytesOk p) (hm : p.length = n) (hn : n ≤ 50) :
    Calls Try.prog 6 #[.agg #[.int .u8 K, .int .i64 S, .int .i64 C, .int .i64 T, .int .i64 M, .int .u8 V], .bool false, .slice A n c] w fun e w' => e = .returned (.bool true) ∧ Below w.heap.size w w' := by
  have t : decide ((50 : Int) < (n : Int)) = false := by simp; omega
  have HRP := Lib.hid hr
  have HBP := Lib.hid hb
  have HMP := Lib.hid hm
  have hnn : n ≤ 900000 := by omega
  have HN0 : Hid (∀ w, Calls Try.prog 20 #[.agg #[.int .u8 K, .int .i64 S, .int .i64 C, .int .i64 T, .int .i64 M, .int .u8 V]] w fun x w' => x = .returned (Nv.near ⟨K, S, C, T, M, V⟩).val ∧ Below w.heap.size w w') := Lib.hid (fun w => nnear_any K S C T M V w h.1 h.2.2.2.2.2)
  have hx := (Nv.near_ans ⟨K, S, C, T, M, V⟩).ok
  generalize Nv.near ⟨K, S, C, T, M, V⟩ = x at *
  obtain ⟨y, hy⟩ : ∃ y : Nv, y = x := ⟨_, rfl⟩
  have HYC : Hid ((#[.int .u8 x.k, .int .i64 x.s, .int .i64 x.c, .int .i64 x.t, .int .i64 x.a, .int .u8 x.v] : Array Value) = #[.int .u8 y.k, .int .i64 y.s, .int .i64 y.c, .int .i64 y.t, .int .i64 y.a, .int .u8 y.v]) := Lib.hid (by rw [hy])
  have hyo : y.Ok := by rw [hy]; exact hx
  have HYO := Lib.hid hyo
  have hyl := y.len hyo
  have HYL := Lib.hid hyl.2
  clear hr hb hm h hx hy hyo hyl
  go_enter Try.func6, Try.ntmps6
  go_wp2_with (fail)
  refine (awake_any _).mono ?_
  rintro e w1 ⟨rfl, hb1⟩
  obtain ⟨hw1, s1, e1⟩ := keep0 hb1
  rw [e1]
  have HW1 := Lib.hid hw1
  clear e1 hb1 hw1
  go_wp2_with (fail)
  refine (HN0.out _).mono ?_
  rw [Nv.val_at]
  rintro e w2 ⟨rfl, hb2⟩
  obtain ⟨hw2, s2, e2⟩ := keep1 HW1.out (Nat.le_refl _) s1 hb2
  rw [e2]
  have HW2 := Lib.hid hw2
  clear e2 hb2 hw2
  go_wp2_with (fail)
  have H2 : Hid (Below w.heap.size w (boxed w2 w.heap.size #[.int .u8 x.k, .int .i64 x.s, .int .i64 x.c, .int .i64 x.t, .int .i64 x.a, .int .u8 x.v] 25)) := Lib.hid (boxed_below HW2.out (Nat.le_refl _))
  have B2 : Hid ((boxed w2 w.heap.size #[.int .u8 x.k, .int .i64 x.s, .int .i64 x.c, .int .i64 x.t, .int .i64 x.a, .int .u8 x.v] 25).heap[w.heap.size]? = some (.cells #[.int .u8 x.k, .int .i64 x.s, .int .i64 x.c, .int .i64 x.t, .int .i64 x.a, .int .u8 x.v] 25 (0, 0))) := Lib.hid (boxed_block s2)
  have z2 : w.heap.size < (boxed w2 w.heap.size #[.int .u8 x.k, .int .i64 x.s, .int .i64 x.c, .int .i64 x.t, .int .i64 x.a, .int .u8 x.v] 25).heap.size := by rw [boxed_size]; exact s2
  generalize boxed w2 w.heap.size #[.int .u8 x.k, .int .i64 x.s, .int .i64 x.c, .int .i64 x.t, .int .i64 x.a, .int .u8 x.v] 25 = w3 at *
  rw [HYC.out] at B2
  clear HYC HW1 HW2 HN0 s1 s2
  refine (new_any _).mono ?_
  rintro e w4 ⟨rfl, rfl⟩
  have hc3 : w3.heap[w.heap.size]? = some (.cells #[.int .u8 y.k, .int .i64 y.s, .int .i64 y.c, .int .i64 y.t, .int .i64 y.a, .int .u8 y.v] 25 (0, 0)) := B2.out
  have h0 : w3.cell? ⟨w.heap.size, 0, none⟩ = some (.int .u8 y.k) := cell_of_row _ _ 0 _ _ _ hc3
  have h1 : w3.cell? ⟨w.heap.size, 1, none⟩ = some (.int .i64 y.s) := cell_of_row _ _ 1 _ _ _ hc3
  have h2 : w3.cell? ⟨w.heap.size, 2, none⟩ = some (.int .i64 y.c) := cell_of_row _ _ 2 _ _ _ hc3
  have h3 : w3.cell? ⟨w.heap.size, 3, none⟩ = some (.int .i64 y.t) := cell_of_row _ _ 3 _ _ _ hc3
  have h4 : w3.cell? ⟨w.heap.size, 4, none⟩ = some (.int .i64 y.a) := cell_of_row _ _ 4 _ _ _ hc3
  have h5 : w3.cell? ⟨w.heap.size, 5, none⟩ = some (.int .u8 y.v) := cell_of_row _ _ 5 _ _ _ hc3
  clear hc3
  have HPB := Lib.hid (pb_new w3 w3.heap.size (Nat.le_refl _))
  go_wp2_with (fail)
  refine (oput_any _ w3.heap.size w3.heap.size [] y.k y.s y.c y.t y.a y.v HPB.out (by simp) HYO.out.i64).mono ?_
  rintro e w5 ⟨rfl, hp⟩
  have HP5 := Lib.hid hp.box
  have H35 : Hid (Below w3.heap.size w3 w5) := Lib.hid (((Below.refl _ w3).alloc (Nat.le_refl _) _).trans hp.below)
  rw [List.nil_append, show Pk.encs [y.k, y.s, y.c, y.t, y.a, y.v] = y.bytes from rfl] at HP5
  clear hp h0 h1 h2 h3 h4 h5 HPB
  go_wp2_with (fail)
  refine (done_put _ _ _ _ HP5.out (Nat.le_trans HYL.out (by omega))).mono ?_
  intro e w6 hO
  obtain ⟨A6, n6, c6, rfl, HN6, _, HB6, HR6, _, _⟩ := hO.open_
  have H36 : Hid (Below w3.heap.size w3 w6) := Lib.hid (H35.out.trans (HB6.out.mono H35.out.size))
  clear hO HB6 HP5 H35
  go_wp2_with (fail)
  refine (of_len A6 _ c6 n6 _ w6 HR6.out (Nat.le_refl _) (Nat.le_trans HYL.out (by omega)) (fun z hz => by have := Pk.encs_range _ z hz; omega) HN6.out).mono ?_
  rintro e w7 ⟨g8, rfl, hg8, hb7, hl8⟩
  have HG8 := Lib.hid hg8
  have H37 : Hid (Below w3.heap.size w3 w7) := Lib.hid (H36.out.trans (hb7.mono H36.out.size))
  have z8 : w3.heap.size ≤ g8 := Nat.le_trans H36.out.size hl8
  have z87 : g8 < w7.heap.size := hg8.lt
  clear hg8 hb7 hl8 H36 HR6 HN6
  go_wp2_with (fail)
  refine (of_len A w.heap.size c n p w7 (HRP.out.below (H2.out.trans (H37.out.mono H2.out.size))) (Nat.le_trans H2.out.size H37.out.size) (by rw [HMP.out]; exact hnn) HBP.out HMP.out).mono ?_
  rintro e w8 ⟨g9, rfl, hg9, hb8, hl9⟩
  have HG9 := Lib.hid hg9
  have HG8' := Lib.hid (HG8.out.more hb8)
  have H38 : Hid (Below w3.heap.size w3 w8) := Lib.hid (H37.out.trans (hb8.mono H37.out.size))
  have z9 : g8 < g9 := by omega
  clear hg9 hb8 HG8 H37 hnn HRP HBP HMP
  go_wp2_with (fail)
  refine (oget_any _ _ _ _ HG9.out).mono ?_
  rintro e w9 ⟨m, l', f', rfl, hgot, hgr, hg9⟩
  have HG9' := Lib.hid hg9
  have HG8 : Hid (GB w9 g8 y.bytes 0) := Lib.hid (HG8'.out.kept fun i hi => hgr.block i (by have := HG8'.out.lt; omega) (by intro e; injection e; omega))
  have H39 : Hid (Below w3.heap.size w3 w9) := Lib.hid (H38.out.trans (grown_below hgr (by omega) H38.out.size))
  have HGOT := Lib.hid hgot
  have HNN := Lib.hid HG9.out.nn
  clear hgot hgr hg9 HG8' HG9 H38
  rw [Nv.val_at]
  obtain ⟨A9, c9, hx9, _⟩ := HG9'.out
  have hx9 := hx9.kept (w' := w9.alloc (.cells #[.int .u8 m.k, .int .i64 m.s, .int .i64 m.c, .int .i64 m.t, .int .i64 m.a, .int .u8 m.v] 25)) (alloc_block_old HG9'.out.lt)
  have HX9 := Lib.hid hx9
  clear hx9
  go_wp2_with (fail)
  refine (fault_box _ _ _ _ HX9.out).mono ?_
  rintro e w10 ⟨rfl, rfl⟩
  have hb3 : (w9.alloc (.cells #[.int .u8 m.k, .int .i64 m.s, .int .i64 m.c, .int .i64 m.t, .int .i64 m.a, .int .u8 m.v] 25)).heap[w.heap.size]? = some (.cells #[.int .u8 y.k, .int .i64 y.s, .int .i64 y.c, .int .i64 y.t, .int .i64 y.a, .int .u8 y.v] 25 (0, 0)) := (alloc_block_old (Nat.lt_of_lt_of_le z2 H39.out.size)).trans ((H39.out.block _ z2).trans B2.out)
  have hb10 : (w9.alloc (.cells #[.int .u8 m.k, .int .i64 m.s, .int .i64 m.c, .int .i64 m.t, .int .i64 m.a, .int .u8 m.v] 25)).heap[w9.heap.size]? = some (.cells #[.int .u8 m.k, .int .i64 m.s, .int .i64 m.c, .int .i64 m.t, .int .i64 m.a, .int .u8 m.v] 25 (0, 0)) := alloc_block
  have HG := Lib.hid (HG8.out.more ((Below.refl _ w9).alloc (o := .cells #[.int .u8 m.k, .int .i64 m.s, .int .i64 m.c, .int .i64 m.t, .int .i64 m.a, .int .u8 m.v] 25) (Nat.le_refl _)))
  have HWX : Hid (Below w.heap.size w (w9.alloc (.cells #[.int .u8 m.k, .int .i64 m.s, .int .i64 m.c, .int .i64 m.t, .int .i64 m.a, .int .u8 m.v] 25))) := Lib.hid ((H2.out.trans (H39.out.mono H2.out.size)).trans ((Below.refl _ _).alloc (H2.out.trans (H39.out.mono H2.out.size)).size _))
  have z910 : w9.heap.size < (w9.alloc (.cells #[.int .u8 m.k, .int .i64 m.s, .int .i64 m.c, .int .i64 m.t, .int .i64 m.a, .int .u8 m.v] 25)).heap.size := by simp
  have z89 : g8 < w9.heap.size := HG8.out.lt
  have z39 : w3.heap.size ≤ w9.heap.size := H39.out.size
  clear HG8 HG9' HX9 H39 H2 B2
  generalize w9.alloc (.cells #[.int .u8 m.k, .int .i64 m.s, .int .i64 m.c, .int .i64 m.t, .int .i64 m.a, .int .u8 m.v] 25) = wx at *
  have hgy : GB wx.drew g8 (y.bytes ++ []) 0 := by rw [List.append_nil]; exact HG.out.kept fun _ _ => rfl
  have HGY := Lib.hid hgy
  clear hgy HG
  by_cases d : f' = 0
  · subst d
    obtain ⟨_, hmo, _⟩ := HGOT.out.ok HNN.out
    obtain ⟨j1, j2, j3, j4, hkey⟩ := hmo
    have HKM := Lib.hid (decide_eq_true hkey)
    clear hkey
    go_wp2
    refine lane_start (ord := [0, 2, 1, 3, 4, 5, 6, 7, 8, 9, 10, 11, 12, 13, 14, 15, 16, 17, 18, 19, 20, 21, 22, 23, 24, 25, 26, 27, 28, 29, 30, 31]) (S := fun w' => w'.heap[w.heap.size]? = some (.cells #[.int .u8 y.k, .int .i64 y.s, .int .i64 y.c, .int .i64 y.t, .int .i64 y.a, .int .u8 y.v] 25 (0, 0)) ∧ w'.heap[w9.heap.size]? = some (.cells #[.int .u8 m.k, .int .i64 m.s, .int .i64 m.c, .int .i64 m.t, .int .i64 m.a, .int .u8 m.v] 25 (0, 0))) rfl (by kernel_rfl) ⟨hb3, hb10⟩ (fun hHeld => ?_)
    refine lane_take (v := ?_) rfl (by kernel_rfl) (by kernel_rfl) (by rfl) ?_ (by assumption) ?_
    rotate_left
    · intro w' hSw
      go_simp
      try (with_reducible rfl)
    simp only [Act.put, List.setIfInBounds_toArray, List.set_cons_zero, List.set_cons_succ]
    refine lane_take rfl (by kernel_rfl) (by kernel_rfl) (by rfl) (fun w' hS => exec_load rfl rfl (ldn hS.1 rfl)) (by assumption) ?_
    simp only [Act.put, List.setIfInBounds_toArray, List.set_cons_zero, List.set_cons_succ]
    refine lane_alone rfl (by kernel_rfl) (by rfl) (fun K hK => ?_)
    go_simp
    refine (oget_any _ _ _ _ HGY.out).mono ?_
    rintro e wa ⟨m', l1, f1, rfl, hgot1, hgra, hga⟩
    obtain ⟨rfl, rfl, rfl⟩ := hgot1.go HYO.out
    clear hgot1
    have ha3 := (hgra.block w.heap.size (Nat.lt_trans z2 (Nat.lt_of_le_of_lt z39 z910)) (by intro e; injection e; omega)).trans hb3
    have ha10 := (hgra.block w9.heap.size z910 (by intro e; injection e; omega)).trans hb10
    have hWa : Below w.heap.size w wa := HWX.out.drew.trans (grown_below hgra (by omega) HWX.out.size)
    refine hK _ _ ⟨ha3, ha10⟩ (fun hHeld => ?_)
    clear hK K
    refine lane_take rfl (by kernel_rfl) (by kernel_rfl) (by rfl) (fun w' hS => exec_eql6' (decide_eq_true rfl) rfl rfl rfl w') (by assumption) ?_
    simp only [Act.put, List.setIfInBounds_toArray, List.set_cons_zero, List.set_cons_succ]
    refine lane_take (v := ?_) rfl (by kernel_rfl) (by kernel_rfl) (by rfl) ?_ (by assumption) ?_
    rotate_left
    · intro w' hSw
      go_simp
      try (with_reducible rfl)
    simp only [Act.put, List.setIfInBounds_toArray, List.set_cons_zero, List.set_cons_succ]
    refine lane_take (v := ?_) rfl (by kernel_rfl) (by kernel_rfl) (by rfl) ?_ (by assumption) ?_
    rotate_left
    · intro w' hSw
      go_simp
      try (with_reducible rfl)
    simp only [Act.put, List.setIfInBounds_toArray, List.set_cons_zero, List.set_cons_succ]
    refine lane_alone rfl (by kernel_rfl) (by rfl) (fun K hK => ?_)
    go_simp
    refine (end_any _ _ _ _ hga).mono ?_
    rintro e wb ⟨⟨X, rfl, hX⟩, rfl⟩
    obtain rfl : X = 0 := by
      rcases hX with ⟨h, _⟩ | ⟨_, h⟩
      · exact h
      · exact absurd h (by simp)
    clear hX hga
    refine hK _ _ ⟨ha3, ha10⟩ (fun hHeld => ?_)
    clear hK K
    refine lane_take (v := ?_) rfl (by kernel_rfl) (by kernel_rfl) (by rfl) ?_ (by assumption) ?_
    rotate_left
    · intro w' hSw
      go_simp
      try (with_reducible rfl)
    simp only [Act.put, List.setIfInBounds_toArray, List.set_cons_zero, List.set_cons_succ]
    refine lane_take (v := ?_) rfl (by kernel_rfl) (by kernel_rfl) (by rfl) ?_ (by assumption) ?_
    rotate_left
    · intro w' hSw
      go_simp
      try (with_reducible rfl)
    simp only [Act.put, List.setIfInBounds_toArray, List.set_cons_zero, List.set_cons_succ]
    refine lane_take (v := ?_) rfl (by kernel_rfl) (by kernel_rfl) (by rfl) ?_ (by assumption) ?_
    rotate_left
    · intro w' hSw
      go_simp
      try (with_reducible rfl)
    simp only [Act.put, List.setIfInBounds_toArray, List.set_cons_zero, List.set_cons_succ]
    refine lane_take (v := ?_) rfl (by kernel_rfl) (by kernel_rfl) (by rfl) ?_ (by assumption) ?_
    rotate_left
    · intro w' hSw
      go_simp
      try (with_reducible rfl)
    simp only [Act.put, List.setIfInBounds_toArray, List.set_cons_zero, List.set_cons_succ]
    refine lane_take (v := ?_) rfl (by kernel_rfl) (by kernel_rfl) (by rfl) ?_ (by assumption) ?_
    rotate_left
    · intro w' hSw
      go_simp
      try (with_reducible rfl)
    simp only [Act.put, List.setIfInBounds_toArray, List.set_cons_zero, List.set_cons_succ]
    refine lane_take rfl (by kernel_rfl) (by kernel_rfl) (by rfl) (fun w' hS => exec_load rfl rfl (ldn hS.2 rfl)) (by assumption) ?_
    simp only [Act.put, List.setIfInBounds_toArray, List.set_cons_zero, List.set_cons_succ]
    refine lane_alone rfl (by kernel_rfl) (by rfl) (fun K hK => ?_)
    go_simp
    refine (lkey_o m _).mono ?_
    rintro e wb ⟨rfl, hbb⟩
    rw [HKM.out]
    have hb3' := (hbb.block _ (Nat.lt_of_lt_of_le (Nat.lt_trans z2 (Nat.lt_of_le_of_lt z39 z910)) hgra.size)).trans ha3
    have hb10' := (hbb.block _ (Nat.lt_of_lt_of_le z910 hgra.size)).trans ha10
    have hWb := hWa.trans (hbb.mono hWa.size)
    refine hK _ _ ⟨hb3', hb10'⟩ (fun hHeld => ?_)
    clear hK K
    repeat (first
      | (refine lane_skip rfl (by kernel_rfl) (by kernel_rfl) (by rfl) (by assumption) ?_; simp only [Act.put, List.setIfInBounds_toArray, List.set_cons_zero, List.set_cons_succ])
      | (refine lane_take (v := ?_) rfl (by kernel_rfl) (by kernel_rfl) (by rfl) ?_ (by assumption) ?_; rotate_left; (focus (intro w' hSw; have c0 := cell_of_row _ _ 0 _ _ _ hSw.2; have c5 := cell_of_row _ _ 5 _ _ _ hSw.2; go_simp; try (with_reducible rfl))); simp only [Act.put, List.setIfInBounds_toArray, List.set_cons_zero, List.set_cons_succ]))
    refine lane_end (by kernel_rfl) ?_
    have HF := Lib.hid hWb
    clear hHeld
    clear hb3' hb10' hWb ha3 ha10 hWa hb3 hb10
    go_wp2
    go_ret
    exact ⟨rfl, HF.out⟩
  · have zf : (f' != 0) = true := by simpa using d
    clear d
    go_wp2
    refine lane_start (ord := [0, 2, 1, 3, 4, 5, 6, 7, 8, 9, 10, 11, 12, 13, 14, 15, 16, 17, 18, 19, 20, 21, 22, 23, 24, 25, 26, 27, 28, 29, 30, 31]) (S := fun w' => w'.heap[w.heap.size]? = some (.cells #[.int .u8 y.k, .int .i64 y.s, .int .i64 y.c, .int .i64 y.t, .int .i64 y.a, .int .u8 y.v] 25 (0, 0)) ∧ w'.heap[w9.heap.size]? = some (.cells #[.int .u8 m.k, .int .i64 m.s, .int .i64 m.c, .int .i64 m.t, .int .i64 m.a, .int .u8 m.v] 25 (0, 0))) rfl (by kernel_rfl) ⟨hb3, hb10⟩ (fun hHeld => ?_)
    refine lane_take (v := ?_) rfl (by kernel_rfl) (by kernel_rfl) (by rfl) ?_ (by assumption) ?_
    rotate_left
    · intro w' hSw
      go_simp
      try (with_reducible rfl)
    simp only [Act.put, List.setIfInBounds_toArray, List.set_cons_zero, List.set_cons_succ]
    refine lane_take rfl (by kernel_rfl) (by kernel_rfl) (by rfl) (fun w' hS => exec_load rfl rfl (ldn hS.1 rfl)) (by assumption) ?_
    simp only [Act.put, List.setIfInBounds_toArray, List.set_cons_zero, List.set_cons_succ]
    refine lane_alone rfl (by kernel_rfl) (by rfl) (fun K hK => ?_)
    go_simp
    refine (oget_any _ _ _ _ HGY.out).mono ?_
    rintro e wa ⟨m', l1, f1, rfl, hgot1, hgra, hga⟩
    obtain ⟨rfl, rfl, rfl⟩ := hgot1.go HYO.out
    clear hgot1
    have ha3 := (hgra.block w.heap.size (Nat.lt_trans z2 (Nat.lt_of_le_of_lt z39 z910)) (by intro e; injection e; omega)).trans hb3
    have ha10 := (hgra.block w9.heap.size z910 (by intro e; injection e; omega)).trans hb10
    have hWa : Below w.heap.size w wa := HWX.out.drew.trans (grown_below hgra (by omega) HWX.out.size)
    refine hK _ _ ⟨ha3, ha10⟩ (fun hHeld => ?_)
    clear hK K
    refine lane_take rfl (by kernel_rfl) (by kernel_rfl) (by rfl) (fun w' hS => exec_eql6' (decide_eq_true rfl) rfl rfl rfl w') (by assumption) ?_
    simp only [Act.put, List.setIfInBounds_toArray, List.set_cons_zero, List.set_cons_succ]
    refine lane_take (v := ?_) rfl (by kernel_rfl) (by kernel_rfl) (by rfl) ?_ (by assumption) ?_
    rotate_left
    · intro w' hSw
      go_simp
      try (with_reducible rfl)
    simp only [Act.put, List.setIfInBounds_toArray, List.set_cons_zero, List.set_cons_succ]
    refine lane_take (v := ?_) rfl (by kernel_rfl) (by kernel_rfl) (by rfl) ?_ (by assumption) ?_
    rotate_left
    · intro w' hSw
      go_simp
      try (with_reducible rfl)
    simp only [Act.put, List.setIfInBounds_toArray, List.set_cons_zero, List.set_cons_succ]
    refine lane_alone rfl (by kernel_rfl) (by rfl) (fun K hK => ?_)
    go_simp
    refine (end_any _ _ _ _ hga).mono ?_
    rintro e wb ⟨⟨X, rfl, hX⟩, rfl⟩
    obtain rfl : X = 0 := by
      rcases hX with ⟨h, _⟩ | ⟨_, h⟩
      · exact h
      · exact absurd h (by simp)
    clear hX hga
    refine hK _ _ ⟨ha3, ha10⟩ (fun hHeld => ?_)
    clear hK K
    refine lane_take (v := ?_) rfl (by kernel_rfl) (by kernel_rfl) (by rfl) ?_ (by assumption) ?_
    rotate_left
    · intro w' hSw
      go_simp
      try (with_reducible rfl)
    simp only [Act.put, List.setIfInBounds_toArray, List.set_cons_zero, List.set_cons_succ]
    refine lane_take (v := ?_) rfl (by kernel_rfl) (by kernel_rfl) (by rfl) ?_ (by assumption) ?_
    rotate_left
    · intro w' hSw
      go_simp
      try (with_reducible rfl)
    simp only [Act.put, List.setIfInBounds_toArray, List.set_cons_zero, List.set_cons_succ]
    refine lane_take (v := ?_) rfl (by kernel_rfl) (by kernel_rfl) (by rfl) ?_ (by assumption) ?_
    rotate_left
    · intro w' hSw
      go_simp
      try (with_reducible rfl)
    simp only [Act.put, List.setIfInBounds_toArray, List.set_cons_zero, List.set_cons_succ]
    refine lane_take (v := ?_) rfl (by kernel_rfl) (by kernel_rfl) (by rfl) ?_ (by assumption) ?_
    rotate_left
    · intro w' hSw
      go_simp
      try (with_reducible rfl)
    simp only [Act.put, List.setIfInBounds_toArray, List.set_cons_zero, List.set_cons_succ]
    refine lane_take (v := ?_) rfl (by kernel_rfl) (by kernel_rfl) (by rfl) ?_ (by assumption) ?_
    rotate_left
    · intro w' hSw
      go_simp
      try (with_reducible rfl)
    simp only [Act.put, List.setIfInBounds_toArray, List.set_cons_zero, List.set_cons_succ]
    repeat (first
      | (refine lane_skip rfl (by kernel_rfl) (by kernel_rfl) (by rfl) (by assumption) ?_; simp only [Act.put, List.setIfInBounds_toArray, List.set_cons_zero, List.set_cons_succ])
      | (refine lane_take (v := ?_) rfl (by kernel_rfl) (by kernel_rfl) (by rfl) ?_ (by assumption) ?_; rotate_left; (focus (intro w' hSw; go_simp; try (with_reducible rfl))); simp only [Act.put, List.setIfInBounds_toArray, List.set_cons_zero, List.set_cons_succ]))
    refine lane_end (by kernel_rfl) ?_
    have HF := Lib.hid hWa
    clear hHeld
    clear  ha3 ha10 hWa hb3 hb10
    go_wp2
    go_ret
    exact ⟨rfl, HF.out⟩

set_option maxHeartbeats 4000000 in
theorem orderNotices_true (w : World) (K S C T M V : Int) (h : (⟨K, S, C, T, M, V⟩ : Nv).Wf) (A : Option Addr) (n c : Nat) (p : List Int) (hr : Rd w .u8 w.heap.size A p) (hb : BytesOk p) (hm : p.length = n) (hn : n ≤ 50) :
    Calls Try.prog 6 #[.agg #[.int .u8 K, .int .i64 S, .int .i64 C, .int .i64 T, .int .i64 M, .int .u8 V], .bool true, .slice A n c] w fun e w' => e = .returned (.bool true) ∧ Below w.heap.size w w' := by
  have t : decide ((50 : Int) < (n : Int)) = false := by simp; omega
  have HRP := Lib.hid hr
  have HBP := Lib.hid hb
  have HMP := Lib.hid hm
  have hnn : n ≤ 900000 := by omega
  have HN0 : Hid (∀ w, Calls Try.prog 20 #[.agg #[.int .u8 K, .int .i64 S, .int .i64 C, .int .i64 T, .int .i64 M, .int .u8 V]] w fun x w' => x = .returned (Nv.near ⟨K, S, C, T, M, V⟩).val ∧ Below w.heap.size w w') := Lib.hid (fun w => nnear_any K S C T M V w h.1 h.2.2.2.2.2)
  have hx := (Nv.near_ans ⟨K, S, C, T, M, V⟩).ok
  generalize Nv.near ⟨K, S, C, T, M, V⟩ = x at *
  obtain ⟨y, hy⟩ : ∃ y : Nv, y = (⟨x.k, x.s, x.c, x.t, x.a, 0⟩ : Nv) := ⟨_, rfl⟩
  have HYC : Hid ((#[.int .u8 x.k, .int .i64 x.s, .int .i64 x.c, .int .i64 x.t, .int .i64 x.a, .int .u8 0] : Array Value) = #[.int .u8 y.k, .int .i64 y.s, .int .i64 y.c, .int .i64 y.t, .int .i64 y.a, .int .u8 y.v]) := Lib.hid (by rw [hy])
  have hyo : y.Ok := by rw [hy]; exact ⟨hx.1, hx.2.1, by dsimp only; omega, by dsimp only; omega, hx.2.2.2.2⟩
  have HYO := Lib.hid hyo
  have hyl := y.len hyo
  have HYL := Lib.hid hyl.2
  clear hr hb hm h hx hy hyo hyl
  go_enter Try.func6, Try.ntmps6
  go_wp2_with (fail)
  refine (awake_any _).mono ?_
  rintro e w1 ⟨rfl, hb1⟩
  obtain ⟨hw1, s1, e1⟩ := keep0 hb1
  rw [e1]
  have HW1 := Lib.hid hw1
  clear e1 hb1 hw1
  go_wp2_with (fail)
  refine (HN0.out _).mono ?_
  rw [Nv.val_at]
  rintro e w2 ⟨rfl, hb2⟩
  obtain ⟨hw2, s2, e2⟩ := keep1 HW1.out (Nat.le_refl _) s1 hb2
  rw [e2]
  have HW2 := Lib.hid hw2
  clear e2 hb2 hw2
  go_wp2_with (fail)
  have H2 : Hid (Below w.heap.size w (boxed w2 w.heap.size #[.int .u8 x.k, .int .i64 x.s, .int .i64 x.c, .int .i64 x.t, .int .i64 x.a, .int .u8 0] 25)) := Lib.hid (boxed_below HW2.out (Nat.le_refl _))
  have B2 : Hid ((boxed w2 w.heap.size #[.int .u8 x.k, .int .i64 x.s, .int .i64 x.c, .int .i64 x.t, .int .i64 x.a, .int .u8 0] 25).heap[w.heap.size]? = some (.cells #[.int .u8 x.k, .int .i64 x.s, .int .i64 x.c, .int .i64 x.t, .int .i64 x.a, .int .u8 0] 25 (0, 0))) := Lib.hid (boxed_block s2)
  have z2 : w.heap.size < (boxed w2 w.heap.size #[.int .u8 x.k, .int .i64 x.s, .int .i64 x.c, .int .i64 x.t, .int .i64 x.a, .int .u8 0] 25).heap.size := by rw [boxed_size]; exact s2
  generalize boxed w2 w.heap.size #[.int .u8 x.k, .int .i64 x.s, .int .i64 x.c, .int .i64 x.t, .int .i64 x.a, .int .u8 0] 25 = w3 at *
  rw [HYC.out] at B2
  clear HYC HW1 HW2 HN0 s1 s2
  refine (new_any _).mono ?_
  rintro e w4 ⟨rfl, rfl⟩
  have hc3 : w3.heap[w.heap.size]? = some (.cells #[.int .u8 y.k, .int .i64 y.s, .int .i64 y.c, .int .i64 y.t, .int .i64 y.a, .int .u8 y.v] 25 (0, 0)) := B2.out
  have h0 : w3.cell? ⟨w.heap.size, 0, none⟩ = some (.int .u8 y.k) := cell_of_row _ _ 0 _ _ _ hc3
  have h1 : w3.cell? ⟨w.heap.size, 1, none⟩ = some (.int .i64 y.s) := cell_of_row _ _ 1 _ _ _ hc3
  have h2 : w3.cell? ⟨w.heap.size, 2, none⟩ = some (.int .i64 y.c) := cell_of_row _ _ 2 _ _ _ hc3
  have h3 : w3.cell? ⟨w.heap.size, 3, none⟩ = some (.int .i64 y.t) := cell_of_row _ _ 3 _ _ _ hc3
  have h4 : w3.cell? ⟨w.heap.size, 4, none⟩ = some (.int .i64 y.a) := cell_of_row _ _ 4 _ _ _ hc3
  have h5 : w3.cell? ⟨w.heap.size, 5, none⟩ = some (.int .u8 y.v) := cell_of_row _ _ 5 _ _ _ hc3
  clear hc3
  have HPB := Lib.hid (pb_new w3 w3.heap.size (Nat.le_refl _))
  go_wp2_with (fail)
  refine (oput_any _ w3.heap.size w3.heap.size [] y.k y.s y.c y.t y.a y.v HPB.out (by simp) HYO.out.i64).mono ?_
  rintro e w5 ⟨rfl, hp⟩
  have HP5 := Lib.hid hp.box
  have H35 : Hid (Below w3.heap.size w3 w5) := Lib.hid (((Below.refl _ w3).alloc (Nat.le_refl _) _).trans hp.below)
  rw [List.nil_append, show Pk.encs [y.k, y.s, y.c, y.t, y.a, y.v] = y.bytes from rfl] at HP5
  clear hp h0 h1 h2 h3 h4 h5 HPB
  go_wp2_with (fail)
  refine (done_put _ _ _ _ HP5.out (Nat.le_trans HYL.out (by omega))).mono ?_
  intro e w6 hO
  obtain ⟨A6, n6, c6, rfl, HN6, _, HB6, HR6, _, _⟩ := hO.open_
  have H36 : Hid (Below w3.heap.size w3 w6) := Lib.hid (H35.out.trans (HB6.out.mono H35.out.size))
  clear hO HB6 HP5 H35
  go_wp2_with (fail)
  refine (of_len A6 _ c6 n6 _ w6 HR6.out (Nat.le_refl _) (Nat.le_trans HYL.out (by omega)) (fun z hz => by have := Pk.encs_range _ z hz; omega) HN6.out).mono ?_
  rintro e w7 ⟨g8, rfl, hg8, hb7, hl8⟩
  have HG8 := Lib.hid hg8
  have H37 : Hid (Below w3.heap.size w3 w7) := Lib.hid (H36.out.trans (hb7.mono H36.out.size))
  have z8 : w3.heap.size ≤ g8 := Nat.le_trans H36.out.size hl8
  have z87 : g8 < w7.heap.size := hg8.lt
  clear hg8 hb7 hl8 H36 HR6 HN6
  go_wp2_with (fail)
  refine (of_len A w.heap.size c n p w7 (HRP.out.below (H2.out.trans (H37.out.mono H2.out.size))) (Nat.le_trans H2.out.size H37.out.size) (by rw [HMP.out]; exact hnn) HBP.out HMP.out).mono ?_
  rintro e w8 ⟨g9, rfl, hg9, hb8, hl9⟩
  have HG9 := Lib.hid hg9
  have HG8' := Lib.hid (HG8.out.more hb8)
  have H38 : Hid (Below w3.heap.size w3 w8) := Lib.hid (H37.out.trans (hb8.mono H37.out.size))
  have z9 : g8 < g9 := by omega
  clear hg9 hb8 HG8 H37 hnn HRP HBP HMP
  go_wp2_with (fail)
  refine (oget_any _ _ _ _ HG9.out).mono ?_
  rintro e w9 ⟨m, l', f', rfl, hgot, hgr, hg9⟩
  have HG9' := Lib.hid hg9
  have HG8 : Hid (GB w9 g8 y.bytes 0) := Lib.hid (HG8'.out.kept fun i hi => hgr.block i (by have := HG8'.out.lt; omega) (by intro e; injection e; omega))
  have H39 : Hid (Below w3.heap.size w3 w9) := Lib.hid (H38.out.trans (grown_below hgr (by omega) H38.out.size))
  have HGOT := Lib.hid hgot
  have HNN := Lib.hid HG9.out.nn
  clear hgot hgr hg9 HG8' HG9 H38
  rw [Nv.val_at]
  obtain ⟨A9, c9, hx9, _⟩ := HG9'.out
  have hx9 := hx9.kept (w' := w9.alloc (.cells #[.int .u8 m.k, .int .i64 m.s, .int .i64 m.c, .int .i64 m.t, .int .i64 m.a, .int .u8 m.v] 25)) (alloc_block_old HG9'.out.lt)
  have HX9 := Lib.hid hx9
  clear hx9
  go_wp2_with (fail)
  refine (fault_box _ _ _ _ HX9.out).mono ?_
  rintro e w10 ⟨rfl, rfl⟩
  have hb3 : (w9.alloc (.cells #[.int .u8 m.k, .int .i64 m.s, .int .i64 m.c, .int .i64 m.t, .int .i64 m.a, .int .u8 m.v] 25)).heap[w.heap.size]? = some (.cells #[.int .u8 y.k, .int .i64 y.s, .int .i64 y.c, .int .i64 y.t, .int .i64 y.a, .int .u8 y.v] 25 (0, 0)) := (alloc_block_old (Nat.lt_of_lt_of_le z2 H39.out.size)).trans ((H39.out.block _ z2).trans B2.out)
  have hb10 : (w9.alloc (.cells #[.int .u8 m.k, .int .i64 m.s, .int .i64 m.c, .int .i64 m.t, .int .i64 m.a, .int .u8 m.v] 25)).heap[w9.heap.size]? = some (.cells #[.int .u8 m.k, .int .i64 m.s, .int .i64 m.c, .int .i64 m.t, .int .i64 m.a, .int .u8 m.v] 25 (0, 0)) := alloc_block
  have HG := Lib.hid (HG8.out.more ((Below.refl _ w9).alloc (o := .cells #[.int .u8 m.k, .int .i64 m.s, .int .i64 m.c, .int .i64 m.t, .int .i64 m.a, .int .u8 m.v] 25) (Nat.le_refl _)))
  have HWX : Hid (Below w.heap.size w (w9.alloc (.cells #[.int .u8 m.k, .int .i64 m.s, .int .i64 m.c, .int .i64 m.t, .int .i64 m.a, .int .u8 m.v] 25))) := Lib.hid ((H2.out.trans (H39.out.mono H2.out.size)).trans ((Below.refl _ _).alloc (H2.out.trans (H39.out.mono H2.out.size)).size _))
  have z910 : w9.heap.size < (w9.alloc (.cells #[.int .u8 m.k, .int .i64 m.s, .int .i64 m.c, .int .i64 m.t, .int .i64 m.a, .int .u8 m.v] 25)).heap.size := by simp
  have z89 : g8 < w9.heap.size := HG8.out.lt
  have z39 : w3.heap.size ≤ w9.heap.size := H39.out.size
  clear HG8 HG9' HX9 H39 H2 B2
  generalize w9.alloc (.cells #[.int .u8 m.k, .int .i64 m.s, .int .i64 m.c, .int .i64 m.t, .int .i64 m.a, .int .u8 m.v] 25) = wx at *
  have hgy : GB wx.drew g8 (y.bytes ++ []) 0 := by rw [List.append_nil]; exact HG.out.kept fun _ _ => rfl
  have HGY := Lib.hid hgy
  clear hgy HG
  by_cases d : f' = 0
  · subst d
    obtain ⟨_, hmo, _⟩ := HGOT.out.ok HNN.out
    obtain ⟨j1, j2, j3, j4, hkey⟩ := hmo
    have HKM := Lib.hid (decide_eq_true hkey)
    clear hkey
    go_wp2
    refine lane_start (ord := [0, 2, 1, 3, 4, 5, 6, 7, 8, 9, 10, 11, 12, 13, 14, 15, 16, 17, 18, 19, 20, 21, 22, 23, 24, 25, 26, 27, 28, 29, 30, 31]) (S := fun w' => w'.heap[w.heap.size]? = some (.cells #[.int .u8 y.k, .int .i64 y.s, .int .i64 y.c, .int .i64 y.t, .int .i64 y.a, .int .u8 y.v] 25 (0, 0)) ∧ w'.heap[w9.heap.size]? = some (.cells #[.int .u8 m.k, .int .i64 m.s, .int .i64 m.c, .int .i64 m.t, .int .i64 m.a, .int .u8 m.v] 25 (0, 0))) rfl (by kernel_rfl) ⟨hb3, hb10⟩ (fun hHeld => ?_)
    refine lane_take (v := ?_) rfl (by kernel_rfl) (by kernel_rfl) (by rfl) ?_ (by assumption) ?_
    rotate_left
    · intro w' hSw
      go_simp
      try (with_reducible rfl)
    simp only [Act.put, List.setIfInBounds_toArray, List.set_cons_zero, List.set_cons_succ]
    refine lane_take rfl (by kernel_rfl) (by kernel_rfl) (by rfl) (fun w' hS => exec_load rfl rfl (ldn hS.1 rfl)) (by assumption) ?_
    simp only [Act.put, List.setIfInBounds_toArray, List.set_cons_zero, List.set_cons_succ]
    refine lane_alone rfl (by kernel_rfl) (by rfl) (fun K hK => ?_)
    go_simp
    refine (oget_any _ _ _ _ HGY.out).mono ?_
    rintro e wa ⟨m', l1, f1, rfl, hgot1, hgra, hga⟩
    obtain ⟨rfl, rfl, rfl⟩ := hgot1.go HYO.out
    clear hgot1
    have ha3 := (hgra.block w.heap.size (Nat.lt_trans z2 (Nat.lt_of_le_of_lt z39 z910)) (by intro e; injection e; omega)).trans hb3
    have ha10 := (hgra.block w9.heap.size z910 (by intro e; injection e; omega)).trans hb10
    have hWa : Below w.heap.size w wa := HWX.out.drew.trans (grown_below hgra (by omega) HWX.out.size)
    refine hK _ _ ⟨ha3, ha10⟩ (fun hHeld => ?_)
    clear hK K
    refine lane_take rfl (by kernel_rfl) (by kernel_rfl) (by rfl) (fun w' hS => exec_eql6' (decide_eq_true rfl) rfl rfl rfl w') (by assumption) ?_
    simp only [Act.put, List.setIfInBounds_toArray, List.set_cons_zero, List.set_cons_succ]
    refine lane_take (v := ?_) rfl (by kernel_rfl) (by kernel_rfl) (by rfl) ?_ (by assumption) ?_
    rotate_left
    · intro w' hSw
      go_simp
      try (with_reducible rfl)
    simp only [Act.put, List.setIfInBounds_toArray, List.set_cons_zero, List.set_cons_succ]
    refine lane_take (v := ?_) rfl (by kernel_rfl) (by kernel_rfl) (by rfl) ?_ (by assumption) ?_
    rotate_left
    · intro w' hSw
      go_simp
      try (with_reducible rfl)
    simp only [Act.put, List.setIfInBounds_toArray, List.set_cons_zero, List.set_cons_succ]
    refine lane_alone rfl (by kernel_rfl) (by rfl) (fun K hK => ?_)
    go_simp
    refine (end_any _ _ _ _ hga).mono ?_
    rintro e wb ⟨⟨X, rfl, hX⟩, rfl⟩
    obtain rfl : X = 0 := by
      rcases hX with ⟨h, _⟩ | ⟨_, h⟩
      · exact h
      · exact absurd h (by simp)
    clear hX hga
    refine hK _ _ ⟨ha3, ha10⟩ (fun hHeld => ?_)
    clear hK K
    refine lane_take (v := ?_) rfl (by kernel_rfl) (by kernel_rfl) (by rfl) ?_ (by assumption) ?_
    rotate_left
    · intro w' hSw
      go_simp
      try (with_reducible rfl)
    simp only [Act.put, List.setIfInBounds_toArray, List.set_cons_zero, List.set_cons_succ]
    refine lane_take (v := ?_) rfl (by kernel_rfl) (by kernel_rfl) (by rfl) ?_ (by assumption) ?_
    rotate_left
    · intro w' hSw
      go_simp
      try (with_reducible rfl)
    simp only [Act.put, List.setIfInBounds_toArray, List.set_cons_zero, List.set_cons_succ]
    refine lane_take (v := ?_) rfl (by kernel_rfl) (by kernel_rfl) (by rfl) ?_ (by assumption) ?_
    rotate_left
    · intro w' hSw
      go_simp
      try (with_reducible rfl)
    simp only [Act.put, List.setIfInBounds_toArray, List.set_cons_zero, List.set_cons_succ]
    refine lane_take (v := ?_) rfl (by kernel_rfl) (by kernel_rfl) (by rfl) ?_ (by assumption) ?_
    rotate_left
    · intro w' hSw
      go_simp
      try (with_reducible rfl)
    simp only [Act.put, List.setIfInBounds_toArray, List.set_cons_zero, List.set_cons_succ]
    refine lane_take (v := ?_) rfl (by kernel_rfl) (by kernel_rfl) (by rfl) ?_ (by assumption) ?_
    rotate_left
    · intro w' hSw
      go_simp
      try (with_reducible rfl)
    simp only [Act.put, List.setIfInBounds_toArray, List.set_cons_zero, List.set_cons_succ]
    refine lane_take rfl (by kernel_rfl) (by kernel_rfl) (by rfl) (fun w' hS => exec_load rfl rfl (ldn hS.2 rfl)) (by assumption) ?_
    simp only [Act.put, List.setIfInBounds_toArray, List.set_cons_zero, List.set_cons_succ]
    refine lane_alone rfl (by kernel_rfl) (by rfl) (fun K hK => ?_)
    go_simp
    refine (lkey_o m _).mono ?_
    rintro e wb ⟨rfl, hbb⟩
    rw [HKM.out]
    have hb3' := (hbb.block _ (Nat.lt_of_lt_of_le (Nat.lt_trans z2 (Nat.lt_of_le_of_lt z39 z910)) hgra.size)).trans ha3
    have hb10' := (hbb.block _ (Nat.lt_of_lt_of_le z910 hgra.size)).trans ha10
    have hWb := hWa.trans (hbb.mono hWa.size)
    refine hK _ _ ⟨hb3', hb10'⟩ (fun hHeld => ?_)
    clear hK K
    repeat (first
      | (refine lane_skip rfl (by kernel_rfl) (by kernel_rfl) (by rfl) (by assumption) ?_; simp only [Act.put, List.setIfInBounds_toArray, List.set_cons_zero, List.set_cons_succ])
      | (refine lane_take (v := ?_) rfl (by kernel_rfl) (by kernel_rfl) (by rfl) ?_ (by assumption) ?_; rotate_left; (focus (intro w' hSw; have c0 := cell_of_row _ _ 0 _ _ _ hSw.2; have c5 := cell_of_row _ _ 5 _ _ _ hSw.2; go_simp; try (with_reducible rfl))); simp only [Act.put, List.setIfInBounds_toArray, List.set_cons_zero, List.set_cons_succ]))
    refine lane_end (by kernel_rfl) ?_
    have HF := Lib.hid hWb
    clear hHeld
    clear hb3' hb10' hWb ha3 ha10 hWa hb3 hb10
    go_wp2
    go_ret
    exact ⟨rfl, HF.out⟩
  · have zf : (f' != 0) = true := by simpa using d
    clear d
    go_wp2
    refine lane_start (ord := [0, 2, 1, 3, 4, 5, 6, 7, 8, 9, 10, 11, 12, 13, 14, 15, 16, 17, 18, 19, 20, 21, 22, 23, 24, 25, 26, 27, 28, 29, 30, 31]) (S := fun w' => w'.heap[w.heap.size]? = some (.cells #[.int .u8 y.k, .int .i64 y.s, .int .i64 y.c, .int .i64 y.t, .int .i64 y.a, .int .u8 y.v] 25 (0, 0)) ∧ w'.heap[w9.heap.size]? = some (.cells #[.int .u8 m.k, .int .i64 m.s, .int .i64 m.c, .int .i64 m.t, .int .i64 m.a, .int .u8 m.v] 25 (0, 0))) rfl (by kernel_rfl) ⟨hb3, hb10⟩ (fun hHeld => ?_)
    refine lane_take (v := ?_) rfl (by kernel_rfl) (by kernel_rfl) (by rfl) ?_ (by assumption) ?_
    rotate_left
    · intro w' hSw
      go_simp
      try (with_reducible rfl)
    simp only [Act.put, List.setIfInBounds_toArray, List.set_cons_zero, List.set_cons_succ]
    refine lane_take rfl (by kernel_rfl) (by kernel_rfl) (by rfl) (fun w' hS => exec_load rfl rfl (ldn hS.1 rfl)) (by assumption) ?_
    simp only [Act.put, List.setIfInBounds_toArray, List.set_cons_zero, List.set_cons_succ]
    refine lane_alone rfl (by kernel_rfl) (by rfl) (fun K hK => ?_)
    go_simp
    refine (oget_any _ _ _ _ HGY.out).mono ?_
    rintro e wa ⟨m', l1, f1, rfl, hgot1, hgra, hga⟩
    obtain ⟨rfl, rfl, rfl⟩ := hgot1.go HYO.out
    clear hgot1
    have ha3 := (hgra.block w.heap.size (Nat.lt_trans z2 (Nat.lt_of_le_of_lt z39 z910)) (by intro e; injection e; omega)).trans hb3
    have ha10 := (hgra.block w9.heap.size z910 (by intro e; injection e; omega)).trans hb10
    have hWa : Below w.heap.size w wa := HWX.out.drew.trans (grown_below hgra (by omega) HWX.out.size)
    refine hK _ _ ⟨ha3, ha10⟩ (fun hHeld => ?_)
    clear hK K
    refine lane_take rfl (by kernel_rfl) (by kernel_rfl) (by rfl) (fun w' hS => exec_eql6' (decide_eq_true rfl) rfl rfl rfl w') (by assumption) ?_
    simp only [Act.put, List.setIfInBounds_toArray, List.set_cons_zero, List.set_cons_succ]
    refine lane_take (v := ?_) rfl (by kernel_rfl) (by kernel_rfl) (by rfl) ?_ (by assumption) ?_
    rotate_left
    · intro w' hSw
      go_simp
      try (with_reducible rfl)
    simp only [Act.put, List.setIfInBounds_toArray, List.set_cons_zero, List.set_cons_succ]
    refine lane_take (v := ?_) rfl (by kernel_rfl) (by kernel_rfl) (by rfl) ?_ (by assumption) ?_
    rotate_left
    · intro w' hSw
      go_simp
      try (with_reducible rfl)
    simp only [Act.put, List.setIfInBounds_toArray, List.set_cons_zero, List.set_cons_succ]
    refine lane_alone rfl (by kernel_rfl) (by rfl) (fun K hK => ?_)
    go_simp
    refine (end_any _ _ _ _ hga).mono ?_
    rintro e wb ⟨⟨X, rfl, hX⟩, rfl⟩
    obtain rfl : X = 0 := by
      rcases hX with ⟨h, _⟩ | ⟨_, h⟩
      · exact h
      · exact absurd h (by simp)
    clear hX hga
    refine hK _ _ ⟨ha3, ha10⟩ (fun hHeld => ?_)
    clear hK K
    refine lane_take (v := ?_) rfl (by kernel_rfl) (by kernel_rfl) (by rfl) ?_ (by assumption) ?_
    rotate_left
    · intro w' hSw
      go_simp
      try (with_reducible rfl)
    simp only [Act.put, List.setIfInBounds_toArray, List.set_cons_zero, List.set_cons_succ]
    refine lane_take (v := ?_) rfl (by kernel_rfl) (by kernel_rfl) (by rfl) ?_ (by assumption) ?_
    rotate_left
    · intro w' hSw
      go_simp
      try (with_reducible rfl)
    simp only [Act.put, List.setIfInBounds_toArray, List.set_cons_zero, List.set_cons_succ]
    refine lane_take (v := ?_) rfl (by kernel_rfl) (by kernel_rfl) (by rfl) ?_ (by assumption) ?_
    rotate_left
    · intro w' hSw
      go_simp
      try (with_reducible rfl)
    simp only [Act.put, List.setIfInBounds_toArray, List.set_cons_zero, List.set_cons_succ]
    refine lane_take (v := ?_) rfl (by kernel_rfl) (by kernel_rfl) (by rfl) ?_ (by assumption) ?_
    rotate_left
    · intro w' hSw
      go_simp
      try (with_reducible rfl)
    simp only [Act.put, List.setIfInBounds_toArray, List.set_cons_zero, List.set_cons_succ]
    refine lane_take (v := ?_) rfl (by kernel_rfl) (by kernel_rfl) (by rfl) ?_ (by assumption) ?_
    rotate_left
    · intro w' hSw
      go_simp
      try (with_reducible rfl)
    simp only [Act.put, List.setIfInBounds_toArray, List.set_cons_zero, List.set_cons_succ]
    repeat (first
      | (refine lane_skip rfl (by kernel_rfl) (by kernel_rfl) (by rfl) (by assumption) ?_; simp only [Act.put, List.setIfInBounds_toArray, List.set_cons_zero, List.set_cons_succ])
      | (refine lane_take (v := ?_) rfl (by kernel_rfl) (by kernel_rfl) (by rfl) ?_ (by assumption) ?_; rotate_left; (focus (intro w' hSw; go_simp; try (with_reducible rfl))); simp only [Act.put, List.setIfInBounds_toArray, List.set_cons_zero, List.set_cons_succ]))
    refine lane_end (by kernel_rfl) ?_
    have HF := Lib.hid hWa
    clear hHeld
    clear  ha3 ha10 hWa hb3 hb10
    go_wp2
    go_ret
    exact ⟨rfl, HF.out⟩

theorem orderNotices_walk {w : World} (K S C T M V : Int) (h : (⟨K, S, C, T, M, V⟩ : Nv).Wf) (ask : Bool) (A : Option Addr) (c : Nat) (b : List Int) (hr : Rd w .u8 w.heap.size A b) (hb : ∀ x ∈ b, (Lit.int .u8 x).wf = true) :
    Calls Try.prog 6 #[.agg #[.int .u8 K, .int .i64 S, .int .i64 C, .int .i64 T, .int .i64 M, .int .u8 V], .bool ask, .slice A b.length c] w fun e w' => e = .returned (.bool true) ∧ Below w.heap.size w w' := by
  by_cases hn : 50 < b.length
  · exact orderNotices_long K S C T M V ask A b.length c hn w
  · cases ask
    · exact orderNotices_false w K S C T M V h A b.length c b hr (fun x hx => wf_u8 (hb x hx)) rfl (by omega)
    · exact orderNotices_true w K S C T M V h A b.length c b hr (fun x hx => wf_u8 (hb x hx)) rfl (by omega)
end Go.Proofs.Ytambppcnmggocaa
