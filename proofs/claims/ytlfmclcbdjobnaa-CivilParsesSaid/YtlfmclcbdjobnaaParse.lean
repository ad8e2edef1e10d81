/-
  Contracts of the function that reads a day's text: of a text of a day's form, its day or the fault that there is none; of any other one, the fault of its form. No conditions.
-/
import Derived.Test.YtlfmclcbdjobnaaShape
import Derived.Test.YtlfmclcbdjobnaaRight
import Derived.Test.YtlfmclcbdjobnaaBoxed
namespace Go.Proofs.Ytlfmclcbdjobnaa
open Go.ChangeShapes Go.WideShapes Go.ChangeAt Go.RowKit

set_option maxHeartbeats 800000 in
theorem parse_form (s : ByteArray) (w : World) (h : Cal.shape s = false) :
    Calls Try.prog 24 #[.string s] w fun e w' => e = .returned (.tuple #[.agg #[.int .i64 0, .int .i64 0, .int .i64 0], .int .i64 4]) ∧ Below w.heap.size w w' := by
  have H := Lib.hid h
  clear h
  go_enter Try.func24, Try.ntmps24
  go_wp2_with fail
  refine (numbersOf_no _ _ H.out).mono ?_
  rintro e w1 ⟨rfl, hb⟩
  obtain ⟨h1, z1, e1⟩ := keep0 hb
  rw [e1]
  have H1 := Lib.hid h1
  clear hb h1 e1
  go_wp2
  exact bodyPost_ret (v := .tuple #[.agg #[.int .i64 0, .int .i64 0, .int .i64 0], .int .i64 4]) (by simp [results, Try.results24, go_sem, z1]) rfl ⟨rfl, (boxed_below H1.out (Nat.le_refl _)).alloc (by simp; omega) _⟩

set_option maxHeartbeats 1600000 in
theorem parse_arg (s : ByteArray) (w : World) (h : Cal.shape s = true) (hr : Cal.right (Cal.year s) (Cal.month s) (Cal.day s) = false) :
    Calls Try.prog 24 #[.string s] w fun e w' => e = .returned (.tuple #[.agg #[.int .i64 0, .int .i64 0, .int .i64 0], .int .i64 1]) ∧ Below w.heap.size w w' := by
  have H := Lib.hid h
  have HR := Lib.hid hr
  clear h hr
  go_enter Try.func24, Try.ntmps24
  go_wp2_with fail
  refine (numbersOf_yes _ _ H.out).mono ?_
  rintro e w1 ⟨rfl, hb⟩
  obtain ⟨h1, z1, e1⟩ := keep0 hb
  rw [e1]
  have H1 := Lib.hid h1
  clear hb h1 e1
  go_wp2_with fail
  refine (right_any _ _ _ _).mono ?_
  rintro e w2 ⟨rfl, hb⟩
  obtain ⟨h2, z2, y2, e2⟩ := keep1_alloc2 H1.out (Nat.le_refl _) z1 hb
  have n1 : w.heap.size ≠ w1.heap.size + 1 := by omega
  have n2 : w1.heap.size + 1 ≠ w.heap.size := by omega
  rw [e2, HR.out]
  have H2 := Lib.hid h2
  clear hb h2 e2
  go_wp2
  exact bodyPost_ret (v := .tuple #[.agg #[.int .i64 0, .int .i64 0, .int .i64 0], .int .i64 1]) (by simp [results, Try.results24, go_sem, z2, n1]) rfl ⟨rfl, boxed_below (boxed_below H2.out (Nat.le_refl _)) (by omega)⟩

set_option maxHeartbeats 1600000 in
theorem parse_yes (s : ByteArray) (w : World) (h : Cal.shape s = true) (hr : Cal.right (Cal.year s) (Cal.month s) (Cal.day s) = true) :
    Calls Try.prog 24 #[.string s] w fun e w' => e = .returned (.tuple #[.agg #[.int .i64 (Cal.year s), .int .i64 (Cal.month s), .int .i64 (Cal.day s)], .int .i64 0]) ∧ Below w.heap.size w w' := by
  have H := Lib.hid h
  have HR := Lib.hid hr
  clear h hr
  go_enter Try.func24, Try.ntmps24
  go_wp2_with fail
  refine (numbersOf_yes _ _ H.out).mono ?_
  rintro e w1 ⟨rfl, hb⟩
  obtain ⟨h1, z1, e1⟩ := keep0 hb
  rw [e1]
  have H1 := Lib.hid h1
  clear hb h1 e1
  go_wp2_with fail
  refine (right_any _ _ _ _).mono ?_
  rintro e w2 ⟨rfl, hb⟩
  obtain ⟨h2, z2, y2, e2⟩ := keep1_alloc2 H1.out (Nat.le_refl _) z1 hb
  have n1 : w.heap.size ≠ w1.heap.size + 1 := by omega
  have n2 : w1.heap.size + 1 ≠ w.heap.size := by omega
  rw [e2, HR.out]
  have H2 := Lib.hid h2
  clear hb h2 e2
  go_wp2
  exact bodyPost_ret (v := .tuple #[.agg #[.int .i64 (Cal.year s), .int .i64 (Cal.month s), .int .i64 (Cal.day s)], .int .i64 0]) (by simp [results, Try.results24, go_sem, z2, n1]) rfl ⟨rfl, boxed_below (boxed_below H2.out (Nat.le_refl _)) (by omega)⟩
end Go.Proofs.Ytlfmclcbdjobnaa
