/-
  The walk of the law CivilDays: it returns true, whatever the input, and makes new blocks alone. No conditions.
-/
import Derived.Test.YtlfmclcbdjobnaaOf
import Derived.Test.YtlfmclcbdjobnaaRefOf
import Derived.Test.YtlfmclcbdjobnaaRefNum
namespace Go.Proofs.Ytlfmclcbdjobnaa
open Go.ChangeShapes Go.WideShapes Go.ChangeAt Go.RowKit
open Cal (leap mon)

set_option maxHeartbeats 800000 in
theorem civilDays_no (n : Int) (w : World) (h : n < 0 ∨ 3652058 < n) :
    Calls Try.prog 5 #[.int .i64 n] w fun e w' => e = .returned (.bool true) ∧ Below w.heap.size w w' := by
  have h' : ¬ (0 ≤ n ∧ n ≤ 3652058) := by omega
  rcases h with h | h
  all_goals
    try have g : ¬ n < 0 := by omega
    clear h'
    go_enter Try.func5, Try.ntmps5
    go_wp2_with fail
    refine (of_no _ _ (by omega)).mono ?_
    rintro e w1 ⟨rfl, h1⟩
    have H1 := Lib.hid h1
    clear h1
    go_wp2_with fail
    refine (awake_any _).mono ?_
    rintro e w2 ⟨rfl, hb⟩
    obtain ⟨h2, z2, e2⟩ := keep_alloc H1.out H1.out.size hb
    rw [e2]
    have H2 := Lib.hid h2
    clear hb h2 e2
    go_wp2
    go_ret
    exact ⟨rfl, boxed_below H2.out H1.out.size⟩

set_option maxHeartbeats 1600000 in
theorem civilDays_yes (n y m d : Int) (w : World) (h : Cal.right y m d = true) (hn : Cal.num y m d = n) :
    Calls Try.prog 5 #[.int .i64 n] w fun e w' => e = .returned (.bool true) ∧ Below w.heap.size w w' := by
  obtain ⟨_, _, n3, n4⟩ := Cal.num_lo h
  have NX := Lib.hid (@Cal.next_right y m d h)
  rw [hn] at n3 n4
  have H := Lib.hid h
  have HN := Lib.hid hn
  clear h hn
  by_cases hl : n < 3652058
  · have hne : (n == 3652058) = false := by rw [beq_eq_false_iff_ne]; omega
    obtain ⟨x1, x2⟩ := NX.out (by rw [HN.out]; exact hl)
    rw [HN.out] at x2
    have X1 := Lib.hid x1
    have X2 := Lib.hid x2
    clear x1 x2 NX
    go_enter Try.func5, Try.ntmps5
    go_wp2_with fail
    refine (of_yes _ _ _ _ _ H.out HN.out).mono ?_
    rintro e w1 ⟨rfl, h1⟩
    have H1 := Lib.hid h1
    clear h1
    go_wp2_with fail
    refine region_over (by kernel_rfl) (by kernel_rfl) ?_
    repeat (go_big_quiet_step ((first | (go_at_call 19; exact over_call (rof_yes _ _ _ _ _ H.out HN.out)) | (go_at_call 15; exact over_call (by have := rright_any y m d; rw [H.out] at this; exact this _)))))
    refine wpQuiet_nil ?_
    rintro w2 ⟨⟨_, hb⟩, rfl⟩
    obtain ⟨h2, z2, e2⟩ := keep_alloc H1.out H1.out.size hb
    rw [e2]
    have H2 := Lib.hid h2
    clear hb h2 e2
    go_wp2_with fail
    refine (number_yes _ _ _ _ H.out).mono ?_
    rintro e w3 ⟨rfl, hb⟩
    obtain ⟨h3, z3, e3⟩ := keep1 H2.out H1.out.size z2 hb
    rw [e3, HN.out]
    have H3 := Lib.hid h3
    clear hb h3 e3
    go_wp2_with fail
    refine (of_yes _ _ _ _ _ X1.out X2.out).mono ?_
    rintro e w4 ⟨rfl, hb⟩
    obtain ⟨h4, z4, e4⟩ := keep1 H3.out H1.out.size z3 hb
    rw [e4]
    have H4 := Lib.hid h4
    clear hb h4 e4
    have n1 : w1.heap.size ≠ w4.heap.size := by omega
    have n2 : w4.heap.size ≠ w1.heap.size := by omega
    go_wp2_with fail
    refine region_over (by kernel_rfl) (by kernel_rfl) ?_
    repeat (go_big_quiet_step ((first | (go_at_call 9; exact over_call (awake_any _)) | (go_at_call 20; exact over_call (next_yes _ _ _ _ H.out)))))
    refine wpQuiet_nil ?_
    rintro w5 ⟨⟨_, hb⟩, rfl⟩
    obtain ⟨h5, z5, y5, e5⟩ := keep1_alloc H4.out H1.out.size z4 hb
    have H5 := Lib.hid h5
    clear hb h5 e5
    go_wp2
    go_ret
    exact ⟨rfl, H5.out⟩
  · obtain rfl : n = 3652058 := by omega
    clear NX
    go_enter Try.func5, Try.ntmps5
    go_wp2_with fail
    refine (of_yes _ _ _ _ _ H.out HN.out).mono ?_
    rintro e w1 ⟨rfl, h1⟩
    have H1 := Lib.hid h1
    clear h1
    go_wp2_with fail
    refine region_over (by kernel_rfl) (by kernel_rfl) ?_
    repeat (go_big_quiet_step ((first | (go_at_call 19; exact over_call (rof_yes _ _ _ _ _ H.out HN.out)) | (go_at_call 15; exact over_call (by have := rright_any y m d; rw [H.out] at this; exact this _)))))
    refine wpQuiet_nil ?_
    rintro w2 ⟨⟨_, hb⟩, rfl⟩
    obtain ⟨h2, z2, e2⟩ := keep_alloc H1.out H1.out.size hb
    rw [e2]
    have H2 := Lib.hid h2
    clear hb h2 e2
    go_wp2_with fail
    refine (number_yes _ _ _ _ H.out).mono ?_
    rintro e w3 ⟨rfl, hb⟩
    obtain ⟨h3, z3, e3⟩ := keep1 H2.out H1.out.size z2 hb
    rw [e3, HN.out]
    have H3 := Lib.hid h3
    clear hb h3 e3
    go_wp2_with fail
    refine (of_no _ _ (by omega)).mono ?_
    rintro e w4 ⟨rfl, hb⟩
    obtain ⟨h4, z4, e4⟩ := keep1 H3.out H1.out.size z3 hb
    rw [e4]
    have H4 := Lib.hid h4
    clear hb h4 e4
    have n1 : w1.heap.size ≠ w4.heap.size := by omega
    have n2 : w4.heap.size ≠ w1.heap.size := by omega
    go_wp2_with fail
    refine region_over (by kernel_rfl) (by kernel_rfl) ?_
    repeat (go_big_quiet_step ((first | (go_at_call 9; exact over_call (awake_any _)) | (go_at_call 20; exact over_call (next_yes _ _ _ _ H.out)))))
    refine wpQuiet_nil ?_
    rintro w5 ⟨⟨_, hb⟩, rfl⟩
    obtain ⟨h5, z5, y5, e5⟩ := keep1_alloc H4.out H1.out.size z4 hb
    have H5 := Lib.hid h5
    clear hb h5 e5
    go_wp2
    go_ret
    exact ⟨rfl, H5.out⟩

theorem civilDays_walk (n : Int) (_ : (Lit.int .i64 n).wf = true) (w : World) :
    Calls Try.prog 5 #[.int .i64 n] w fun e w' => e = .returned (.bool true) ∧ Below w.heap.size w w' := by
  by_cases h : n < 0 ∨ 3652058 < n
  · exact civilDays_no n w h
  · obtain ⟨y, m, d, hr, hn⟩ := Cal.day_of n (by omega) (by omega)
    exact civilDays_yes n y m d w hr hn
end Go.Proofs.Ytlfmclcbdjobnaa
