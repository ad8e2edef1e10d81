/-
  The walk of the law CivilClamps: it returns true, whatever the input, and makes new blocks alone. No conditions.
-/
import Derived.Test.YtlfmclcbdjobnaaNumber
import Derived.Test.YtlfmclcbdjobnaaBoxed
namespace Go.Proofs.Ytlfmclcbdjobnaa
open Go.ChangeShapes Go.WideShapes Go.ChangeAt Go.RowKit
open Cal (leap mon)

set_option maxHeartbeats 400000 in
theorem clamp_any (y m d c : Int) (w : World) (m1 : 1 ≤ m) (m2 : m ≤ 12) (h : d ≤ 1 ∧ c = 1 ∨ 1 < d ∧ d ≤ mon y m ∧ c = d ∨ mon y m < d ∧ c = mon y m) :
    Calls Try.prog 22 #[.int .i64 y, .int .i64 m, .int .i64 d] w fun e w' => e = .returned (.agg #[.int .i64 y, .int .i64 m, .int .i64 c]) ∧ Below w.heap.size w w' := by
  have ml := Cal.mon_28 y m m1 m2
  rcases h with ⟨h, rfl⟩ | ⟨h, g, rfl⟩ | ⟨h, rfl⟩
  all_goals
    go_enter Try.func22, Try.ntmps22
    go_wp2_with (go_at_call 12; refine (month_any _ _ _).mono ?_; rintro e w' ⟨rfl, rfl⟩)
  all_goals first
    | exact bodyPost_ret (v := .agg #[.int .i64 y, .int .i64 m, .int .i64 1]) (by simp [results, Try.results22, go_sem]) rfl ⟨rfl, by go_grown⟩
    | exact bodyPost_ret (v := .agg #[.int .i64 y, .int .i64 m, .int .i64 d]) (by simp [results, Try.results22, go_sem]) rfl ⟨rfl, by go_grown⟩
    | exact bodyPost_ret (v := .agg #[.int .i64 y, .int .i64 m, .int .i64 c]) (by simp [results, Try.results22, go_sem]) rfl ⟨rfl, by go_grown⟩
    | exact bodyPost_ret (v := .agg #[.int .i64 y, .int .i64 m, .int .i64 (mon y m)]) (by simp [results, Try.results22, go_sem]) rfl ⟨rfl, by go_grown⟩

set_option maxHeartbeats 1600000 in
theorem civilClamps_case (a0 a1 d c : Int) (w : World) (r0 : -32768 ≤ a0) (r1 : a0 ≤ 32767) (u0 : 0 ≤ a1) (u1 : a1 ≤ 255)
    (h : d < 1 ∧ c = 1 ∨ d = 1 ∧ c = 1 ∨ 1 < d ∧ d ≤ mon a0 (1 + a1 % 12) ∧ c = d ∨ mon a0 (1 + a1 % 12) < d ∧ c = mon a0 (1 + a1 % 12)) :
    Calls Try.prog 7 #[.int .i16 a0, .int .u8 a1, .int .i64 d] w fun e w' => e = .returned (.bool true) ∧ Below w.heap.size w w' := by
  have HC := Lib.hid (show d ≤ 1 ∧ c = 1 ∨ 1 < d ∧ d ≤ mon a0 (1 + a1 % 12) ∧ c = d ∨ mon a0 (1 + a1 % 12) < d ∧ c = mon a0 (1 + a1 % 12) by omega)
  have ml := Cal.mon_28 a0 (1 + a1 % 12) (by omega) (by omega)
  rcases h with ⟨h, hc⟩ | ⟨rfl, hc⟩ | ⟨h, g, hc⟩ | ⟨h, hc⟩
  rotate_left 3
  · have HE := Lib.hid hc
    clear hc
    go_enter Try.func7, Try.ntmps7
    go_wp2_with fail
    refine (clamp_any _ _ _ _ _ (by omega) (by omega) HC.out).mono ?_
    rintro e w1 ⟨rfl, h1⟩
    have H1 := Lib.hid h1
    clear h1
    go_wp2_with fail
    refine (rmonth_any _ _ _).mono ?_
    rintro e w2 ⟨rfl, hb⟩
    obtain ⟨h2, z2, e2⟩ := keep_alloc H1.out H1.out.size hb
    rw [e2]
    have H2 := Lib.hid h2
    clear hb h2 e2
    go_wp2_with fail
    refine (rmonth_any _ _ _).mono ?_
    rintro e w3 ⟨rfl, hb⟩
    obtain ⟨h3, z3, e3⟩ := keep1 H2.out H1.out.size z2 hb
    rw [e3]
    have H3 := Lib.hid h3
    clear hb h3 e3
    go_wp2_with fail
    refine (awake_any _).mono ?_
    rintro e w4 ⟨rfl, hb⟩
    obtain ⟨h4, z4, e4⟩ := keep1 H3.out H1.out.size z3 hb
    rw [e4, HE.out]
    have H4 := Lib.hid h4
    clear hb h4 e4
    go_wp2
    go_ret
    exact ⟨rfl, boxed_below H4.out H1.out.size⟩
  all_goals
    have HE := Lib.hid hc
    clear hc
    go_enter Try.func7, Try.ntmps7
    go_wp2_with fail
    refine (clamp_any _ _ _ _ _ (by omega) (by omega) HC.out).mono ?_
    rintro e w1 ⟨rfl, h1⟩
    have H1 := Lib.hid h1
    clear h1
    go_wp2_with fail
    refine (rmonth_any _ _ _).mono ?_
    rintro e w2 ⟨rfl, hb⟩
    obtain ⟨h2, z2, e2⟩ := keep_alloc H1.out H1.out.size hb
    rw [e2]
    have H2 := Lib.hid h2
    clear hb h2 e2
    go_wp2_with fail
    refine (awake_any _).mono ?_
    rintro e w3 ⟨rfl, hb⟩
    obtain ⟨h3, z3, e3⟩ := keep1 H2.out H1.out.size z2 hb
    rw [e3, HE.out]
    have H3 := Lib.hid h3
    clear hb h3 e3
    go_wp2
    go_ret
    exact ⟨rfl, boxed_below H3.out H1.out.size⟩

theorem civilClamps_walk (a0 : Int) (w0 : (Lit.int .i16 a0).wf = true) (a1 : Int) (w1 : (Lit.int .u8 a1).wf = true) (d : Int) (_ : (Lit.int .i64 d).wf = true) (w : World) :
    Calls Try.prog 7 #[.int .i16 a0, .int .u8 a1, .int .i64 d] w fun e w' => e = .returned (.bool true) ∧ Below w.heap.size w w' := by
  have r0 : -32768 ≤ a0 ∧ a0 ≤ 32767 := by simpa [Lit.wf, IntKind.min, IntKind.max, IntKind.bits, IntKind.signed] using w0
  have u0 : 0 ≤ a1 ∧ a1 ≤ 255 := by simpa [Lit.wf, IntKind.min, IntKind.max, IntKind.bits, IntKind.signed] using w1
  have ml := Cal.mon_28 a0 (1 + a1 % 12) (by omega) (by omega)
  by_cases c1 : d ≤ 1
  · exact civilClamps_case a0 a1 d 1 w r0.1 r0.2 u0.1 u0.2 (by omega)
  · by_cases c2 : d ≤ mon a0 (1 + a1 % 12)
    · exact civilClamps_case a0 a1 d d w r0.1 r0.2 u0.1 u0.2 (by omega)
    · exact civilClamps_case a0 a1 d (mon a0 (1 + a1 % 12)) w r0.1 r0.2 u0.1 u0.2 (by omega)
end Go.Proofs.Ytlfmclcbdjobnaa
