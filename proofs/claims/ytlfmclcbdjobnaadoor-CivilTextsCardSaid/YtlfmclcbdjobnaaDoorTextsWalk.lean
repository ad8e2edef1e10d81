/-
  The walk of the law CivilTexts: it returns true, whatever the input, and makes new blocks alone. Condition: the library's table of powers of ten holds what its text lays.
-/
import Derived.Test.YtlfmclcbdjobnaaDoorCalT
import Derived.Test.YtlfmclcbdjobnaaDoorRefOf
import Derived.Test.YtlfmclcbdjobnaaDoorPadded
import Derived.Test.YtlfmclcbdjobnaaDoorParse
namespace Go.Proofs.YtlfmclcbdjobnaaDoor
open Go.ChangeShapes Go.WideShapes Go.ChangeAt Go.RowKit

theorem parse_txt (y m d : Int) (w : World) (h : Cal.right y m d = true) :
    Calls Tryd.prog 7 #[.string (Cal.txt y m d)] w fun e w' => e = .returned (.tuple #[.agg #[.int .i64 y, .int .i64 m, .int .i64 d], .int .i64 0]) ∧ Below w.heap.size w w' := by
  obtain ⟨m1, m2⟩ := Cal.right_month h
  obtain ⟨y1, y2, d1, d2⟩ := Cal.right_true.1 h
  have d3 := (Cal.mon_lo y m).2
  have e1 := Cal.txt_year y m d (by omega) (by omega)
  have e2 := Cal.txt_month y m d (by omega) (by omega)
  have e3 := Cal.txt_day y m d (by omega) (by omega)
  have := parse_yes (Cal.txt y m d) w (Cal.txt_shape y m d) (by rw [e1, e2, e3]; exact h)
  rw [e1, e2, e3] at this
  exact this

set_option maxHeartbeats 1600000 in
theorem civilTexts_day (a0 y m d : Int) (w : World) (u0 : 0 ≤ a0) (u1 : a0 ≤ 4294967295) (h : Cal.right y m d = true) (hn : Cal.num y m d = a0 % 3652059) (ht : Tab w) :
    Calls Tryd.prog 3 #[.int .u32 a0] w fun e w' => e = .returned (.bool true) ∧ Below w.heap.size w w' := by
  obtain ⟨m1, m2⟩ := Cal.right_month h
  obtain ⟨y1, y2, d1, d2⟩ := Cal.right_true.1 h
  have d3 := (Cal.mon_lo y m).2
  have H := Lib.hid h
  have HN := Lib.hid hn
  have HT := Lib.hid ht
  clear h hn ht
  go_enter Tryd.func3, Tryd.ntmps3
  go_wp2_with fail
  refine (rof_yes _ _ _ _ _ H.out HN.out).mono ?_
  rintro e w1 ⟨rfl, h1⟩
  have T1 := Lib.hid (tab_below HT.out h1)
  have H1 := Lib.hid h1
  clear h1
  go_wp2_with fail
  refine (text_any _ _ _ _ (by omega) (by omega) (by omega) (by omega) (by omega) (by omega) (tab_below T1.out ((Below.refl _ _).alloc (Nat.le_refl _) _))).mono ?_
  rintro e w2 ⟨rfl, hb⟩
  obtain ⟨h2, z2, e2⟩ := keep_alloc H1.out H1.out.size hb
  rw [e2]
  have H2 := Lib.hid h2
  clear hb h2 e2
  go_wp2_with fail
  refine (parse_txt _ _ _ _ H.out).mono ?_
  rintro e w3 ⟨rfl, hb⟩
  obtain ⟨h3, z3, e3⟩ := keep1 H2.out H1.out.size z2 hb
  rw [e3]
  have H3 := Lib.hid h3
  clear hb h3 e3
  go_wp2_with fail
  refine (awake_any _).mono ?_
  rintro e w4 ⟨rfl, hb⟩
  obtain ⟨h4, z4, y4, e4⟩ := keep1_alloc H3.out H1.out.size z3 hb
  rw [e4]
  have H4 := Lib.hid h4
  have n1 : w1.heap.size ≠ w3.heap.size := by omega
  have n2 : w3.heap.size ≠ w1.heap.size := by omega
  clear hb h4 e4
  go_wp2_with fail
  refine (rtext_any _ _ _ _ (by omega) (by omega) (by omega) (by omega) (by omega) (by omega)).mono ?_
  rintro e w5 ⟨rfl, hb⟩
  obtain ⟨h5, z5, y5, e5⟩ := keep2 H4.out H1.out.size z3 y4 hb
  rw [e5]
  have H5 := Lib.hid h5
  clear hb h5 e5
  go_wp2
  go_ret
  exact ⟨rfl, boxed_below (boxed_below H5.out H1.out.size) (by have := H1.out.size; omega)⟩

theorem civilTexts_walk (a0 : Int) (w0 : (Lit.int .u32 a0).wf = true) (w : World) (ht : Tab w) :
    Calls Tryd.prog 3 #[.int .u32 a0] w fun e w' => e = .returned (.bool true) ∧ Below w.heap.size w w' := by
  have u0 : 0 ≤ a0 ∧ a0 ≤ 4294967295 := by simpa [Lit.wf, IntKind.min, IntKind.max, IntKind.bits, IntKind.signed] using w0
  obtain ⟨y, m, d, hr, hn⟩ := Cal.day_of (a0 % 3652059) (by omega) (by omega)
  exact civilTexts_day a0 y m d w u0.1 u0.2 hr hn ht
end Go.Proofs.YtlfmclcbdjobnaaDoor
