/-
  The walk of the law CivilOrders: it returns true, whatever the input, and makes new blocks alone. Condition: the library's table of powers of ten holds what its text lays.
-/
import Derived.Test.YtlfmclcbdjobnaaDoorCalU
import Derived.Test.YtlfmclcbdjobnaaDoorRefOf
import Derived.Test.YtlfmclcbdjobnaaDoorPadded
namespace Go.Proofs.YtlfmclcbdjobnaaDoor
open Go.ChangeShapes Go.WideShapes Go.ChangeAt Go.RowKit

set_option maxHeartbeats 3200000 in
theorem orders_y (a0 a1 y m d y' m' d' : Int) (w : World) (u0 : 0 ≤ a0) (u1 : a0 ≤ 4294967295) (v0 : 0 ≤ a1) (v1 : a1 ≤ 4294967295)
    (h : Cal.right y m d = true) (hn : Cal.num y m d = a0 % 3652059) (h' : Cal.right y' m' d' = true) (hn' : Cal.num y' m' d' = a1 % 3652059) (c : y < y') (ht : Tab w) :
    Calls Tryd.prog 4 #[.int .u32 a0, .int .u32 a1] w fun e w' => e = .returned (.bool true) ∧ Below w.heap.size w w' := by
  have c' : Cal.ahead y m d y' m' d' := Or.inl c
  have k1 := Cal.num_ahead h h' c'
  have t1 := (Cal.txt_ahead h h' c').1
  have k2 : (Cal.num y m d == Cal.num y' m' d') = false := by rw [beq_eq_false_iff_ne]; omega
  have q1 : (y == y') = false := by rw [beq_eq_false_iff_ne]; omega
  clear c'
  obtain ⟨m1, m2⟩ := Cal.right_month h
  obtain ⟨y1, y2, d1, d2⟩ := Cal.right_true.1 h
  have d3 := (Cal.mon_lo y m).2
  obtain ⟨m1', m2'⟩ := Cal.right_month h'
  obtain ⟨y1', y2', d1', d2'⟩ := Cal.right_true.1 h'
  have d3' := (Cal.mon_lo y' m').2
  have H := Lib.hid h
  have HN := Lib.hid hn
  have H' := Lib.hid h'
  have HN' := Lib.hid hn'
  have HT := Lib.hid ht
  clear h hn h' hn' ht
  go_enter Tryd.func4, Tryd.ntmps4
  go_wp2_with fail
  refine (rof_yes _ _ _ _ _ H.out HN.out).mono ?_
  rintro e w1 ⟨rfl, h1⟩
  have H1 := Lib.hid h1
  clear h1
  go_wp2_with fail
  refine (rof_yes _ _ _ _ _ H'.out HN'.out).mono ?_
  rintro e w2 ⟨rfl, hb⟩
  obtain ⟨h2, z2, e2⟩ := keep_alloc H1.out H1.out.size hb
  rw [e2]
  have H2 := Lib.hid h2
  clear hb h2 e2
  go_wp2_with fail
  refine (number_yes _ _ _ _ H.out).mono ?_
  rintro e w3 ⟨rfl, hb⟩
  obtain ⟨h3, z3, y3, e3⟩ := keep1_alloc H2.out H1.out.size z2 hb
  rw [e3]
  have H3 := Lib.hid h3
  have n1 : w1.heap.size ≠ w2.heap.size := by omega
  have n2 : w2.heap.size ≠ w1.heap.size := by omega
  clear hb h3 e3
  go_wp2_with fail
  refine (number_yes _ _ _ _ H'.out).mono ?_
  rintro e w4 ⟨rfl, hb⟩
  obtain ⟨h4, z4, y4, e4⟩ := keep2 H3.out H1.out.size z2 y3 hb
  rw [e4]
  have H4 := Lib.hid h4
  have HB := Lib.hid (fun x => tab_below (tab_below HT.out (Below.mono (boxed_below (boxed_below h4 H1.out.size) (by have := H1.out.size; omega)) (Nat.le_refl _))) (over_below (boxed (boxed w4 w1.heap.size #[.int .i64 y, .int .i64 m, .int .i64 d] 24) w2.heap.size #[.int .i64 y', .int .i64 m', .int .i64 d'] 24) x))
  clear hb h4 e4
  go_wp2
  refine region_over (by kernel_rfl) (by kernel_rfl) ?_
  repeat (go_big_quiet_step ((first | (go_at_call 8; exact over_call (awake_any _)) | (go_at_call 6; exact over_call (text_any _ _ _ _ (by omega) (by omega) (by omega) (by omega) (by omega) (by omega) (HB.out _))))))
  refine wpQuiet_nil ?_
  rintro w5 ⟨⟨_, hb⟩, rfl⟩
  obtain ⟨h5, z5, y5, e5⟩ := keep2 H4.out H1.out.size z2 y4 hb
  have H5 := Lib.hid h5
  clear hb h5 e5
  go_wp2
  go_ret
  exact ⟨rfl, H5.out⟩

set_option maxHeartbeats 3200000 in
theorem orders_y2 (a0 a1 y m d y' m' d' : Int) (w : World) (u0 : 0 ≤ a0) (u1 : a0 ≤ 4294967295) (v0 : 0 ≤ a1) (v1 : a1 ≤ 4294967295)
    (h : Cal.right y m d = true) (hn : Cal.num y m d = a0 % 3652059) (h' : Cal.right y' m' d' = true) (hn' : Cal.num y' m' d' = a1 % 3652059) (c : y' < y) (ht : Tab w) :
    Calls Tryd.prog 4 #[.int .u32 a0, .int .u32 a1] w fun e w' => e = .returned (.bool true) ∧ Below w.heap.size w w' := by
  have c' : Cal.ahead y' m' d' y m d := Or.inl c
  have k1 := Cal.num_ahead h' h c'
  have t1 := (Cal.txt_ahead h' h c').2
  have k3 : decide (Cal.num y m d < Cal.num y' m' d') = false := decide_eq_false (by omega)
  have k2 : (Cal.num y m d == Cal.num y' m' d') = false := by rw [beq_eq_false_iff_ne]; omega
  have q1 : (y == y') = false := by rw [beq_eq_false_iff_ne]; omega
  have q0 : decide (y < y') = false := decide_eq_false (by omega)
  clear c'
  obtain ⟨m1, m2⟩ := Cal.right_month h
  obtain ⟨y1, y2, d1, d2⟩ := Cal.right_true.1 h
  have d3 := (Cal.mon_lo y m).2
  obtain ⟨m1', m2'⟩ := Cal.right_month h'
  obtain ⟨y1', y2', d1', d2'⟩ := Cal.right_true.1 h'
  have d3' := (Cal.mon_lo y' m').2
  have H := Lib.hid h
  have HN := Lib.hid hn
  have H' := Lib.hid h'
  have HN' := Lib.hid hn'
  have HT := Lib.hid ht
  clear h hn h' hn' ht
  go_enter Tryd.func4, Tryd.ntmps4
  go_wp2_with fail
  refine (rof_yes _ _ _ _ _ H.out HN.out).mono ?_
  rintro e w1 ⟨rfl, h1⟩
  have H1 := Lib.hid h1
  clear h1
  go_wp2_with fail
  refine (rof_yes _ _ _ _ _ H'.out HN'.out).mono ?_
  rintro e w2 ⟨rfl, hb⟩
  obtain ⟨h2, z2, e2⟩ := keep_alloc H1.out H1.out.size hb
  rw [e2]
  have H2 := Lib.hid h2
  clear hb h2 e2
  go_wp2_with fail
  refine (number_yes _ _ _ _ H.out).mono ?_
  rintro e w3 ⟨rfl, hb⟩
  obtain ⟨h3, z3, y3, e3⟩ := keep1_alloc H2.out H1.out.size z2 hb
  rw [e3]
  have H3 := Lib.hid h3
  have n1 : w1.heap.size ≠ w2.heap.size := by omega
  have n2 : w2.heap.size ≠ w1.heap.size := by omega
  clear hb h3 e3
  go_wp2_with fail
  refine (number_yes _ _ _ _ H'.out).mono ?_
  rintro e w4 ⟨rfl, hb⟩
  obtain ⟨h4, z4, y4, e4⟩ := keep2 H3.out H1.out.size z2 y3 hb
  rw [e4]
  have H4 := Lib.hid h4
  have HB := Lib.hid (fun x => tab_below (tab_below HT.out (Below.mono (boxed_below (boxed_below h4 H1.out.size) (by have := H1.out.size; omega)) (Nat.le_refl _))) (over_below (boxed (boxed w4 w1.heap.size #[.int .i64 y, .int .i64 m, .int .i64 d] 24) w2.heap.size #[.int .i64 y', .int .i64 m', .int .i64 d'] 24) x))
  clear hb h4 e4
  go_wp2
  refine region_over (by kernel_rfl) (by kernel_rfl) ?_
  repeat (go_big_quiet_step ((first | (go_at_call 8; exact over_call (awake_any _)) | (go_at_call 6; exact over_call (text_any _ _ _ _ (by omega) (by omega) (by omega) (by omega) (by omega) (by omega) (HB.out _))))))
  refine wpQuiet_nil ?_
  rintro w5 ⟨⟨_, hb⟩, rfl⟩
  obtain ⟨h5, z5, y5, e5⟩ := keep2 H4.out H1.out.size z2 y4 hb
  have H5 := Lib.hid h5
  clear hb h5 e5
  go_wp2
  go_ret
  exact ⟨rfl, H5.out⟩

set_option maxHeartbeats 3200000 in
theorem orders_m (a0 a1 y m d m' d' : Int) (w : World) (u0 : 0 ≤ a0) (u1 : a0 ≤ 4294967295) (v0 : 0 ≤ a1) (v1 : a1 ≤ 4294967295)
    (h : Cal.right y m d = true) (hn : Cal.num y m d = a0 % 3652059) (h' : Cal.right y m' d' = true) (hn' : Cal.num y m' d' = a1 % 3652059) (c : m < m') (ht : Tab w) :
    Calls Tryd.prog 4 #[.int .u32 a0, .int .u32 a1] w fun e w' => e = .returned (.bool true) ∧ Below w.heap.size w w' := by
  have c' : Cal.ahead y m d y m' d' := Or.inr ⟨rfl, Or.inl c⟩
  have k1 := Cal.num_ahead h h' c'
  have t1 := (Cal.txt_ahead h h' c').1
  have k2 : (Cal.num y m d == Cal.num y m' d') = false := by rw [beq_eq_false_iff_ne]; omega
  have q1 : (m == m') = false := by rw [beq_eq_false_iff_ne]; omega
  clear c'
  obtain ⟨m1, m2⟩ := Cal.right_month h
  obtain ⟨y1, y2, d1, d2⟩ := Cal.right_true.1 h
  have d3 := (Cal.mon_lo y m).2
  obtain ⟨m1', m2'⟩ := Cal.right_month h'
  obtain ⟨y1', y2', d1', d2'⟩ := Cal.right_true.1 h'
  have d3' := (Cal.mon_lo y m').2
  have H := Lib.hid h
  have HN := Lib.hid hn
  have H' := Lib.hid h'
  have HN' := Lib.hid hn'
  have HT := Lib.hid ht
  clear h hn h' hn' ht
  go_enter Tryd.func4, Tryd.ntmps4
  go_wp2_with fail
  refine (rof_yes _ _ _ _ _ H.out HN.out).mono ?_
  rintro e w1 ⟨rfl, h1⟩
  have H1 := Lib.hid h1
  clear h1
  go_wp2_with fail
  refine (rof_yes _ _ _ _ _ H'.out HN'.out).mono ?_
  rintro e w2 ⟨rfl, hb⟩
  obtain ⟨h2, z2, e2⟩ := keep_alloc H1.out H1.out.size hb
  rw [e2]
  have H2 := Lib.hid h2
  clear hb h2 e2
  go_wp2_with fail
  refine (number_yes _ _ _ _ H.out).mono ?_
  rintro e w3 ⟨rfl, hb⟩
  obtain ⟨h3, z3, y3, e3⟩ := keep1_alloc H2.out H1.out.size z2 hb
  rw [e3]
  have H3 := Lib.hid h3
  have n1 : w1.heap.size ≠ w2.heap.size := by omega
  have n2 : w2.heap.size ≠ w1.heap.size := by omega
  clear hb h3 e3
  go_wp2_with fail
  refine (number_yes _ _ _ _ H'.out).mono ?_
  rintro e w4 ⟨rfl, hb⟩
  obtain ⟨h4, z4, y4, e4⟩ := keep2 H3.out H1.out.size z2 y3 hb
  rw [e4]
  have H4 := Lib.hid h4
  have HB := Lib.hid (fun x => tab_below (tab_below HT.out (Below.mono (boxed_below (boxed_below h4 H1.out.size) (by have := H1.out.size; omega)) (Nat.le_refl _))) (over_below (boxed (boxed w4 w1.heap.size #[.int .i64 y, .int .i64 m, .int .i64 d] 24) w2.heap.size #[.int .i64 y, .int .i64 m', .int .i64 d'] 24) x))
  clear hb h4 e4
  go_wp2
  refine region_over (by kernel_rfl) (by kernel_rfl) ?_
  repeat (go_big_quiet_step ((first | (go_at_call 8; exact over_call (awake_any _)) | (go_at_call 6; exact over_call (text_any _ _ _ _ (by omega) (by omega) (by omega) (by omega) (by omega) (by omega) (HB.out _))))))
  refine wpQuiet_nil ?_
  rintro w5 ⟨⟨_, hb⟩, rfl⟩
  obtain ⟨h5, z5, y5, e5⟩ := keep2 H4.out H1.out.size z2 y4 hb
  have H5 := Lib.hid h5
  clear hb h5 e5
  go_wp2
  go_ret
  exact ⟨rfl, H5.out⟩

set_option maxHeartbeats 3200000 in
theorem orders_m2 (a0 a1 y m d m' d' : Int) (w : World) (u0 : 0 ≤ a0) (u1 : a0 ≤ 4294967295) (v0 : 0 ≤ a1) (v1 : a1 ≤ 4294967295)
    (h : Cal.right y m d = true) (hn : Cal.num y m d = a0 % 3652059) (h' : Cal.right y m' d' = true) (hn' : Cal.num y m' d' = a1 % 3652059) (c : m' < m) (ht : Tab w) :
    Calls Tryd.prog 4 #[.int .u32 a0, .int .u32 a1] w fun e w' => e = .returned (.bool true) ∧ Below w.heap.size w w' := by
  have c' : Cal.ahead y m' d' y m d := Or.inr ⟨rfl, Or.inl c⟩
  have k1 := Cal.num_ahead h' h c'
  have t1 := (Cal.txt_ahead h' h c').2
  have k3 : decide (Cal.num y m d < Cal.num y m' d') = false := decide_eq_false (by omega)
  have k2 : (Cal.num y m d == Cal.num y m' d') = false := by rw [beq_eq_false_iff_ne]; omega
  have q1 : (m == m') = false := by rw [beq_eq_false_iff_ne]; omega
  have q0 : decide (m < m') = false := decide_eq_false (by omega)
  clear c'
  obtain ⟨m1, m2⟩ := Cal.right_month h
  obtain ⟨y1, y2, d1, d2⟩ := Cal.right_true.1 h
  have d3 := (Cal.mon_lo y m).2
  obtain ⟨m1', m2'⟩ := Cal.right_month h'
  obtain ⟨y1', y2', d1', d2'⟩ := Cal.right_true.1 h'
  have d3' := (Cal.mon_lo y m').2
  have H := Lib.hid h
  have HN := Lib.hid hn
  have H' := Lib.hid h'
  have HN' := Lib.hid hn'
  have HT := Lib.hid ht
  clear h hn h' hn' ht
  go_enter Tryd.func4, Tryd.ntmps4
  go_wp2_with fail
  refine (rof_yes _ _ _ _ _ H.out HN.out).mono ?_
  rintro e w1 ⟨rfl, h1⟩
  have H1 := Lib.hid h1
  clear h1
  go_wp2_with fail
  refine (rof_yes _ _ _ _ _ H'.out HN'.out).mono ?_
  rintro e w2 ⟨rfl, hb⟩
  obtain ⟨h2, z2, e2⟩ := keep_alloc H1.out H1.out.size hb
  rw [e2]
  have H2 := Lib.hid h2
  clear hb h2 e2
  go_wp2_with fail
  refine (number_yes _ _ _ _ H.out).mono ?_
  rintro e w3 ⟨rfl, hb⟩
  obtain ⟨h3, z3, y3, e3⟩ := keep1_alloc H2.out H1.out.size z2 hb
  rw [e3]
  have H3 := Lib.hid h3
  have n1 : w1.heap.size ≠ w2.heap.size := by omega
  have n2 : w2.heap.size ≠ w1.heap.size := by omega
  clear hb h3 e3
  go_wp2_with fail
  refine (number_yes _ _ _ _ H'.out).mono ?_
  rintro e w4 ⟨rfl, hb⟩
  obtain ⟨h4, z4, y4, e4⟩ := keep2 H3.out H1.out.size z2 y3 hb
  rw [e4]
  have H4 := Lib.hid h4
  have HB := Lib.hid (fun x => tab_below (tab_below HT.out (Below.mono (boxed_below (boxed_below h4 H1.out.size) (by have := H1.out.size; omega)) (Nat.le_refl _))) (over_below (boxed (boxed w4 w1.heap.size #[.int .i64 y, .int .i64 m, .int .i64 d] 24) w2.heap.size #[.int .i64 y, .int .i64 m', .int .i64 d'] 24) x))
  clear hb h4 e4
  go_wp2
  refine region_over (by kernel_rfl) (by kernel_rfl) ?_
  repeat (go_big_quiet_step ((first | (go_at_call 8; exact over_call (awake_any _)) | (go_at_call 6; exact over_call (text_any _ _ _ _ (by omega) (by omega) (by omega) (by omega) (by omega) (by omega) (HB.out _))))))
  refine wpQuiet_nil ?_
  rintro w5 ⟨⟨_, hb⟩, rfl⟩
  obtain ⟨h5, z5, y5, e5⟩ := keep2 H4.out H1.out.size z2 y4 hb
  have H5 := Lib.hid h5
  clear hb h5 e5
  go_wp2
  go_ret
  exact ⟨rfl, H5.out⟩

set_option maxHeartbeats 3200000 in
theorem orders_d (a0 a1 y m d d' : Int) (w : World) (u0 : 0 ≤ a0) (u1 : a0 ≤ 4294967295) (v0 : 0 ≤ a1) (v1 : a1 ≤ 4294967295)
    (h : Cal.right y m d = true) (hn : Cal.num y m d = a0 % 3652059) (h' : Cal.right y m d' = true) (hn' : Cal.num y m d' = a1 % 3652059) (c : d < d') (ht : Tab w) :
    Calls Tryd.prog 4 #[.int .u32 a0, .int .u32 a1] w fun e w' => e = .returned (.bool true) ∧ Below w.heap.size w w' := by
  have c' : Cal.ahead y m d y m d' := Or.inr ⟨rfl, Or.inr ⟨rfl, c⟩⟩
  have k1 := Cal.num_ahead h h' c'
  have t1 := (Cal.txt_ahead h h' c').1
  have k2 : (Cal.num y m d == Cal.num y m d') = false := by rw [beq_eq_false_iff_ne]; omega
  have q1 : (d == d') = false := by rw [beq_eq_false_iff_ne]; omega
  clear c'
  obtain ⟨m1, m2⟩ := Cal.right_month h
  obtain ⟨y1, y2, d1, d2⟩ := Cal.right_true.1 h
  have d3 := (Cal.mon_lo y m).2
  obtain ⟨m1', m2'⟩ := Cal.right_month h'
  obtain ⟨y1', y2', d1', d2'⟩ := Cal.right_true.1 h'
  have d3' := (Cal.mon_lo y m).2
  have H := Lib.hid h
  have HN := Lib.hid hn
  have H' := Lib.hid h'
  have HN' := Lib.hid hn'
  have HT := Lib.hid ht
  clear h hn h' hn' ht
  go_enter Tryd.func4, Tryd.ntmps4
  go_wp2_with fail
  refine (rof_yes _ _ _ _ _ H.out HN.out).mono ?_
  rintro e w1 ⟨rfl, h1⟩
  have H1 := Lib.hid h1
  clear h1
  go_wp2_with fail
  refine (rof_yes _ _ _ _ _ H'.out HN'.out).mono ?_
  rintro e w2 ⟨rfl, hb⟩
  obtain ⟨h2, z2, e2⟩ := keep_alloc H1.out H1.out.size hb
  rw [e2]
  have H2 := Lib.hid h2
  clear hb h2 e2
  go_wp2_with fail
  refine (number_yes _ _ _ _ H.out).mono ?_
  rintro e w3 ⟨rfl, hb⟩
  obtain ⟨h3, z3, y3, e3⟩ := keep1_alloc H2.out H1.out.size z2 hb
  rw [e3]
  have H3 := Lib.hid h3
  have n1 : w1.heap.size ≠ w2.heap.size := by omega
  have n2 : w2.heap.size ≠ w1.heap.size := by omega
  clear hb h3 e3
  go_wp2_with fail
  refine (number_yes _ _ _ _ H'.out).mono ?_
  rintro e w4 ⟨rfl, hb⟩
  obtain ⟨h4, z4, y4, e4⟩ := keep2 H3.out H1.out.size z2 y3 hb
  rw [e4]
  have H4 := Lib.hid h4
  have HB := Lib.hid (fun x => tab_below (tab_below HT.out (Below.mono (boxed_below (boxed_below h4 H1.out.size) (by have := H1.out.size; omega)) (Nat.le_refl _))) (over_below (boxed (boxed w4 w1.heap.size #[.int .i64 y, .int .i64 m, .int .i64 d] 24) w2.heap.size #[.int .i64 y, .int .i64 m, .int .i64 d'] 24) x))
  clear hb h4 e4
  go_wp2
  refine region_over (by kernel_rfl) (by kernel_rfl) ?_
  repeat (go_big_quiet_step ((first | (go_at_call 8; exact over_call (awake_any _)) | (go_at_call 6; exact over_call (text_any _ _ _ _ (by omega) (by omega) (by omega) (by omega) (by omega) (by omega) (HB.out _))))))
  refine wpQuiet_nil ?_
  rintro w5 ⟨⟨_, hb⟩, rfl⟩
  obtain ⟨h5, z5, y5, e5⟩ := keep2 H4.out H1.out.size z2 y4 hb
  have H5 := Lib.hid h5
  clear hb h5 e5
  go_wp2
  go_ret
  exact ⟨rfl, H5.out⟩

set_option maxHeartbeats 3200000 in
theorem orders_d2 (a0 a1 y m d d' : Int) (w : World) (u0 : 0 ≤ a0) (u1 : a0 ≤ 4294967295) (v0 : 0 ≤ a1) (v1 : a1 ≤ 4294967295)
    (h : Cal.right y m d = true) (hn : Cal.num y m d = a0 % 3652059) (h' : Cal.right y m d' = true) (hn' : Cal.num y m d' = a1 % 3652059) (c : d' < d) (ht : Tab w) :
    Calls Tryd.prog 4 #[.int .u32 a0, .int .u32 a1] w fun e w' => e = .returned (.bool true) ∧ Below w.heap.size w w' := by
  have c' : Cal.ahead y m d' y m d := Or.inr ⟨rfl, Or.inr ⟨rfl, c⟩⟩
  have k1 := Cal.num_ahead h' h c'
  have t1 := (Cal.txt_ahead h' h c').2
  have k3 : decide (Cal.num y m d < Cal.num y m d') = false := decide_eq_false (by omega)
  have k2 : (Cal.num y m d == Cal.num y m d') = false := by rw [beq_eq_false_iff_ne]; omega
  have q1 : (d == d') = false := by rw [beq_eq_false_iff_ne]; omega
  have q0 : decide (d < d') = false := decide_eq_false (by omega)
  clear c'
  obtain ⟨m1, m2⟩ := Cal.right_month h
  obtain ⟨y1, y2, d1, d2⟩ := Cal.right_true.1 h
  have d3 := (Cal.mon_lo y m).2
  obtain ⟨m1', m2'⟩ := Cal.right_month h'
  obtain ⟨y1', y2', d1', d2'⟩ := Cal.right_true.1 h'
  have d3' := (Cal.mon_lo y m).2
  have H := Lib.hid h
  have HN := Lib.hid hn
  have H' := Lib.hid h'
  have HN' := Lib.hid hn'
  have HT := Lib.hid ht
  clear h hn h' hn' ht
  go_enter Tryd.func4, Tryd.ntmps4
  go_wp2_with fail
  refine (rof_yes _ _ _ _ _ H.out HN.out).mono ?_
  rintro e w1 ⟨rfl, h1⟩
  have H1 := Lib.hid h1
  clear h1
  go_wp2_with fail
  refine (rof_yes _ _ _ _ _ H'.out HN'.out).mono ?_
  rintro e w2 ⟨rfl, hb⟩
  obtain ⟨h2, z2, e2⟩ := keep_alloc H1.out H1.out.size hb
  rw [e2]
  have H2 := Lib.hid h2
  clear hb h2 e2
  go_wp2_with fail
  refine (number_yes _ _ _ _ H.out).mono ?_
  rintro e w3 ⟨rfl, hb⟩
  obtain ⟨h3, z3, y3, e3⟩ := keep1_alloc H2.out H1.out.size z2 hb
  rw [e3]
  have H3 := Lib.hid h3
  have n1 : w1.heap.size ≠ w2.heap.size := by omega
  have n2 : w2.heap.size ≠ w1.heap.size := by omega
  clear hb h3 e3
  go_wp2_with fail
  refine (number_yes _ _ _ _ H'.out).mono ?_
  rintro e w4 ⟨rfl, hb⟩
  obtain ⟨h4, z4, y4, e4⟩ := keep2 H3.out H1.out.size z2 y3 hb
  rw [e4]
  have H4 := Lib.hid h4
  have HB := Lib.hid (fun x => tab_below (tab_below HT.out (Below.mono (boxed_below (boxed_below h4 H1.out.size) (by have := H1.out.size; omega)) (Nat.le_refl _))) (over_below (boxed (boxed w4 w1.heap.size #[.int .i64 y, .int .i64 m, .int .i64 d] 24) w2.heap.size #[.int .i64 y, .int .i64 m, .int .i64 d'] 24) x))
  clear hb h4 e4
  go_wp2
  refine region_over (by kernel_rfl) (by kernel_rfl) ?_
  repeat (go_big_quiet_step ((first | (go_at_call 8; exact over_call (awake_any _)) | (go_at_call 6; exact over_call (text_any _ _ _ _ (by omega) (by omega) (by omega) (by omega) (by omega) (by omega) (HB.out _))))))
  refine wpQuiet_nil ?_
  rintro w5 ⟨⟨_, hb⟩, rfl⟩
  obtain ⟨h5, z5, y5, e5⟩ := keep2 H4.out H1.out.size z2 y4 hb
  have H5 := Lib.hid h5
  clear hb h5 e5
  go_wp2
  go_ret
  exact ⟨rfl, H5.out⟩

set_option maxHeartbeats 3200000 in
theorem orders_e (a0 a1 y m d : Int) (w : World) (u0 : 0 ≤ a0) (u1 : a0 ≤ 4294967295) (v0 : 0 ≤ a1) (v1 : a1 ≤ 4294967295)
    (h : Cal.right y m d = true) (hn : Cal.num y m d = a0 % 3652059) (h' : Cal.right y m d = true) (hn' : Cal.num y m d = a1 % 3652059)  (ht : Tab w) :
    Calls Tryd.prog 4 #[.int .u32 a0, .int .u32 a1] w fun e w' => e = .returned (.bool true) ∧ Below w.heap.size w w' := by
  have t1 := Cal.txt_same y m d
  obtain ⟨m1, m2⟩ := Cal.right_month h
  obtain ⟨y1, y2, d1, d2⟩ := Cal.right_true.1 h
  have d3 := (Cal.mon_lo y m).2
  obtain ⟨m1', m2'⟩ := Cal.right_month h'
  obtain ⟨y1', y2', d1', d2'⟩ := Cal.right_true.1 h'
  have d3' := (Cal.mon_lo y m).2
  have H := Lib.hid h
  have HN := Lib.hid hn
  have H' := Lib.hid h'
  have HN' := Lib.hid hn'
  have HT := Lib.hid ht
  clear h hn h' hn' ht
  go_enter Tryd.func4, Tryd.ntmps4
  go_wp2_with fail
  refine (rof_yes _ _ _ _ _ H.out HN.out).mono ?_
  rintro e w1 ⟨rfl, h1⟩
  have H1 := Lib.hid h1
  clear h1
  go_wp2_with fail
  refine (rof_yes _ _ _ _ _ H'.out HN'.out).mono ?_
  rintro e w2 ⟨rfl, hb⟩
  obtain ⟨h2, z2, e2⟩ := keep_alloc H1.out H1.out.size hb
  rw [e2]
  have H2 := Lib.hid h2
  clear hb h2 e2
  go_wp2_with fail
  refine (number_yes _ _ _ _ H.out).mono ?_
  rintro e w3 ⟨rfl, hb⟩
  obtain ⟨h3, z3, y3, e3⟩ := keep1_alloc H2.out H1.out.size z2 hb
  rw [e3]
  have H3 := Lib.hid h3
  have n1 : w1.heap.size ≠ w2.heap.size := by omega
  have n2 : w2.heap.size ≠ w1.heap.size := by omega
  clear hb h3 e3
  go_wp2_with fail
  refine (number_yes _ _ _ _ H'.out).mono ?_
  rintro e w4 ⟨rfl, hb⟩
  obtain ⟨h4, z4, y4, e4⟩ := keep2 H3.out H1.out.size z2 y3 hb
  rw [e4]
  have H4 := Lib.hid h4
  have HB := Lib.hid (fun x => tab_below (tab_below HT.out (Below.mono (boxed_below (boxed_below h4 H1.out.size) (by have := H1.out.size; omega)) (Nat.le_refl _))) (over_below (boxed (boxed w4 w1.heap.size #[.int .i64 y, .int .i64 m, .int .i64 d] 24) w2.heap.size #[.int .i64 y, .int .i64 m, .int .i64 d] 24) x))
  clear hb h4 e4
  go_wp2
  refine region_over (by kernel_rfl) (by kernel_rfl) ?_
  repeat (go_big_quiet_step ((first | (go_at_call 8; exact over_call (awake_any _)) | (go_at_call 6; exact over_call (text_any _ _ _ _ (by omega) (by omega) (by omega) (by omega) (by omega) (by omega) (HB.out _))))))
  refine wpQuiet_nil ?_
  rintro w5 ⟨⟨_, hb⟩, rfl⟩
  obtain ⟨h5, z5, y5, e5⟩ := keep2 H4.out H1.out.size z2 y4 hb
  have H5 := Lib.hid h5
  clear hb h5 e5
  go_wp2
  go_ret
  exact ⟨rfl, H5.out⟩

theorem civilOrders_walk (a0 : Int) (w0 : (Lit.int .u32 a0).wf = true) (a1 : Int) (w1 : (Lit.int .u32 a1).wf = true) (w : World) (ht : Tab w) :
    Calls Tryd.prog 4 #[.int .u32 a0, .int .u32 a1] w fun e w' => e = .returned (.bool true) ∧ Below w.heap.size w w' := by
  have u0 : 0 ≤ a0 ∧ a0 ≤ 4294967295 := by simpa [Lit.wf, IntKind.min, IntKind.max, IntKind.bits, IntKind.signed] using w0
  have v0 : 0 ≤ a1 ∧ a1 ≤ 4294967295 := by simpa [Lit.wf, IntKind.min, IntKind.max, IntKind.bits, IntKind.signed] using w1
  obtain ⟨y, m, d, hr, hn⟩ := Cal.day_of (a0 % 3652059) (by omega) (by omega)
  obtain ⟨y', m', d', hr', hn'⟩ := Cal.day_of (a1 % 3652059) (by omega) (by omega)
  by_cases c1 : y < y'
  · exact orders_y a0 a1 y m d y' m' d' w u0.1 u0.2 v0.1 v0.2 hr hn hr' hn' c1 ht
  by_cases c2 : y' < y
  · exact orders_y2 a0 a1 y m d y' m' d' w u0.1 u0.2 v0.1 v0.2 hr hn hr' hn' c2 ht
  obtain rfl : y = y' := by omega
  by_cases c3 : m < m'
  · exact orders_m a0 a1 y m d m' d' w u0.1 u0.2 v0.1 v0.2 hr hn hr' hn' c3 ht
  by_cases c4 : m' < m
  · exact orders_m2 a0 a1 y m d m' d' w u0.1 u0.2 v0.1 v0.2 hr hn hr' hn' c4 ht
  obtain rfl : m = m' := by omega
  by_cases c5 : d < d'
  · exact orders_d a0 a1 y m d d' w u0.1 u0.2 v0.1 v0.2 hr hn hr' hn' c5 ht
  by_cases c6 : d' < d
  · exact orders_d2 a0 a1 y m d d' w u0.1 u0.2 v0.1 v0.2 hr hn hr' hn' c6 ht
  obtain rfl : d = d' := by omega
  exact orders_e a0 a1 y m d w u0.1 u0.2 v0.1 v0.2 hr hn hr' hn' ht
end Go.Proofs.YtlfmclcbdjobnaaDoor
