/-
  The walk of the law CivilNumbers: it returns true, whatever the input, and makes new blocks alone. No conditions.
-/
import Derived.Test.YtlfmclcbdjobnaaOf
import Derived.Test.YtlfmclcbdjobnaaRefNum
namespace Go.Proofs.Ytlfmclcbdjobnaa
open Go.ChangeShapes Go.WideShapes Go.ChangeAt Go.RowKit
open Cal (leap mon)

set_option maxHeartbeats 800000 in
theorem civilNumbers_no (y m d : Int) (w : World) (h : Cal.right y m d = false) :
    Calls Try.prog 4 #[.agg #[.int .i64 y, .int .i64 m, .int .i64 d]] w fun e w' => e = .returned (.bool true) ∧ Below w.heap.size w w' := by
  have H := Lib.hid h
  clear h
  go_enter Try.func4, Try.ntmps4
  go_wp2_with fail
  refine (number_no _ _ _ _ H.out).mono ?_
  rintro e w1 ⟨rfl, hb⟩
  obtain ⟨h1, z1, e1⟩ := keep0 hb
  rw [e1]
  have H1 := Lib.hid h1
  clear hb h1 e1
  go_wp2_with fail
  refine (rright_any _ _ _ _).mono ?_
  rintro e w2 ⟨rfl, hb⟩
  obtain ⟨h2, z2, e2⟩ := keep1 H1.out (Nat.le_refl _) z1 hb
  rw [e2, H.out]
  have H2 := Lib.hid h2
  clear hb h2 e2
  go_wp2_with fail
  refine (awake_any _).mono ?_
  rintro e w3 ⟨rfl, hb⟩
  obtain ⟨h3, z3, e3⟩ := keep1 H2.out (Nat.le_refl _) z2 hb
  rw [e3]
  have H3 := Lib.hid h3
  clear hb h3 e3
  go_wp2_with fail
  refine (right_any _ _ _ _).mono ?_
  rintro e w4 ⟨rfl, hb⟩
  obtain ⟨h4, z4, e4⟩ := keep1 H3.out (Nat.le_refl _) z3 hb
  rw [H.out]
  have H4 := Lib.hid h4
  clear hb h4 e4
  go_wp2
  go_ret
  exact ⟨rfl, H4.out⟩

set_option maxHeartbeats 1000000 in
theorem civilNumbers_yes (y m d : Int) (w : World) (h : Cal.right y m d = true) :
    Calls Try.prog 4 #[.agg #[.int .i64 y, .int .i64 m, .int .i64 d]] w fun e w' => e = .returned (.bool true) ∧ Below w.heap.size w w' := by
  have H := Lib.hid h
  clear h
  go_enter Try.func4, Try.ntmps4
  go_wp2_with fail
  refine (number_yes _ _ _ _ H.out).mono ?_
  rintro e w1 ⟨rfl, hb⟩
  obtain ⟨h1, z1, e1⟩ := keep0 hb
  rw [e1]
  have H1 := Lib.hid h1
  clear hb h1 e1
  go_wp2_with fail
  refine (rright_any _ _ _ _).mono ?_
  rintro e w2 ⟨rfl, hb⟩
  obtain ⟨h2, z2, e2⟩ := keep1 H1.out (Nat.le_refl _) z1 hb
  rw [e2, H.out]
  have H2 := Lib.hid h2
  clear hb h2 e2
  go_wp2_with fail
  refine (of_yes _ _ _ _ _ H.out rfl).mono ?_
  rintro e w3 ⟨rfl, hb⟩
  obtain ⟨h3, z3, e3⟩ := keep1 H2.out (Nat.le_refl _) z2 hb
  rw [e3]
  have H3 := Lib.hid h3
  clear hb h3 e3
  go_wp2_with fail
  refine (awake_any _).mono ?_
  rintro e w4 ⟨rfl, hb⟩
  obtain ⟨h4, z4, y4, e4⟩ := keep1_alloc H3.out (Nat.le_refl _) z3 hb
  rw [e4]
  have H4 := Lib.hid h4
  have n1 : w.heap.size ≠ w3.heap.size := by omega
  have n2 : w3.heap.size ≠ w.heap.size := by omega
  clear hb h4 e4
  go_wp2_with fail
  refine (right_any _ _ _ _).mono ?_
  rintro e w5 ⟨rfl, hb⟩
  obtain ⟨h5, z5, y5, e5⟩ := keep2 H4.out (Nat.le_refl _) z3 y4 hb
  rw [e5, H.out]
  have H5 := Lib.hid h5
  clear hb h5 e5
  go_wp2_with fail
  refine (rnumber_yes _ _ _ _ H.out).mono ?_
  rintro e w6 ⟨rfl, hb⟩
  obtain ⟨h6, z6, y6, e6⟩ := keep2 H5.out (Nat.le_refl _) z3 y5 hb
  rw [e6]
  have H6 := Lib.hid h6
  clear hb h6 e6
  go_wp2
  go_ret
  exact ⟨rfl, boxed_below (boxed_below H6.out (Nat.le_refl _)) (by omega)⟩

theorem civilNumbers_walk (y m d : Int) (_ : (Lit.int .i64 y).wf = true) (_ : (Lit.int .i64 m).wf = true) (_ : (Lit.int .i64 d).wf = true) (w : World) :
    Calls Try.prog 4 #[.agg #[.int .i64 y, .int .i64 m, .int .i64 d]] w fun e w' => e = .returned (.bool true) ∧ Below w.heap.size w w' := by
  cases h : Cal.right y m d
  · exact civilNumbers_no y m d w h
  · exact civilNumbers_yes y m d w h
end Go.Proofs.Ytlfmclcbdjobnaa
