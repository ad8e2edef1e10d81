/-
  Contracts of the calendar's smallest functions (leap years, the months' days, a year's first day, weekdays): each returns what the plain mathematics says, and leaves the world alone. No conditions but the numbers' own ranges.
-/
import Derived.Test.YtcgglphphdpplaaRows
import Derived.Test.YtcgglphphdpplaaCal
import Derived.Test.YtcgglphphdpplaaOver
import Derived.WalkKit
import Derived.ProofKit
import Derived.OpenShut
import Derived.Handy
import Derived.Outline
import Derived.Lib.Hide
namespace Go.Proofs.Ytcgglphphdpplaa
open Go.ChangeShapes Go.WideShapes Go.ChangeAt Go.RowKit
open Cal (leap mon)

theorem leap_case (y : Int) (P : Bool → Prop)
    (a : y % 4 = 0 → ¬ y % 100 = 0 → ¬ y % 400 = 0 → P true) (b : y % 4 = 0 → y % 100 = 0 → y % 400 = 0 → P true)
    (c : y % 4 = 0 → y % 100 = 0 → ¬ y % 400 = 0 → P false) (d : ¬ y % 4 = 0 → ¬ y % 400 = 0 → P false) : P (leap y) := by
  by_cases h4 : y % 4 = 0
  · by_cases h1 : y % 100 = 0
    · by_cases h5 : y % 400 = 0
      · rw [Cal.leap_true.2 ⟨h4, Or.inr h5⟩]; exact b h4 h1 h5
      · rw [Cal.leap_false.2 (by omega)]; exact c h4 h1 h5
    · rw [Cal.leap_true.2 ⟨h4, Or.inl h1⟩]; exact a h4 h1 (by omega)
  · rw [Cal.leap_false.2 (by omega)]; exact d h4 (by omega)

set_option maxHeartbeats 400000 in
theorem leap_any (y : Int) (w : World) :
    Calls Try.prog 99 #[.int .i64 y] w fun e w' => e = .returned (.bool (leap y)) ∧ w = w' := by
  refine leap_case y (fun b => Calls Try.prog 99 #[.int .i64 y] w fun e w' => e = .returned (.bool b) ∧ w = w') ?_ ?_ ?_ ?_
  · intro h4 h1 h5
    have e4 := Cal.tmod_eq h4; have e1 := Cal.tmod_neq h1; clear h4 h1 h5
    go_enter Try.func99, Try.ntmps99
    go_wp2
    go_ret
    exact ⟨rfl, rfl⟩
  · intro h4 h1 h5
    have e4 := Cal.tmod_eq h4; have e1 := Cal.tmod_nne h1; have e5 := Cal.tmod_eq h5; clear h4 h1 h5
    go_enter Try.func99, Try.ntmps99
    go_wp2
    go_ret
    exact ⟨rfl, rfl⟩
  · intro h4 h1 h5
    have e4 := Cal.tmod_eq h4; have e1 := Cal.tmod_nne h1; have e5 := Cal.tmod_ne h5; clear h4 h1 h5
    go_enter Try.func99, Try.ntmps99
    go_wp2
    go_ret
    exact ⟨rfl, rfl⟩
  · intro h4 h5
    have e4 := Cal.tmod_ne h4; have e5 := Cal.tmod_ne h5; clear h4 h5
    go_enter Try.func99, Try.ntmps99
    go_wp2
    go_ret
    exact ⟨rfl, rfl⟩

set_option maxHeartbeats 400000 in
theorem rleap_any (y : Int) (w : World) :
    Calls Try.prog 67 #[.int .i64 y] w fun e w' => e = .returned (.bool (leap y)) ∧ w = w' := by
  refine leap_case y (fun b => Calls Try.prog 67 #[.int .i64 y] w fun e w' => e = .returned (.bool b) ∧ w = w') ?_ ?_ ?_ ?_
  · intro h4 h1 h5
    have e4 := Cal.tmod_eq h4; have e1 := Cal.tmod_neq h1; have e5 := Cal.tmod_ne h5; clear h4 h1 h5
    go_enter Try.func67, Try.ntmps67
    go_wp2
    go_ret
    exact ⟨rfl, rfl⟩
  · intro h4 h1 h5
    have e4 := Cal.tmod_eq h4; have e1 := Cal.tmod_nne h1; have e5 := Cal.tmod_eq h5; clear h4 h1 h5
    go_enter Try.func67, Try.ntmps67
    go_wp2
    go_ret
    exact ⟨rfl, rfl⟩
  · intro h4 h1 h5
    have e4 := Cal.tmod_eq h4; have e1 := Cal.tmod_nne h1; have e5 := Cal.tmod_ne h5; clear h4 h1 h5
    go_enter Try.func67, Try.ntmps67
    go_wp2
    go_ret
    exact ⟨rfl, rfl⟩
  · intro h4 h5
    have e4 := Cal.tmod_ne h4; have e5 := Cal.tmod_ne h5; clear h4 h5
    go_enter Try.func67, Try.ntmps67
    go_wp2
    go_ret
    exact ⟨rfl, rfl⟩

theorem mon_case (y m : Int) (P : Int → Prop)
    (h31 : (m = 1 ∨ m = 3 ∨ m = 5 ∨ m = 7 ∨ m = 8 ∨ m = 10 ∨ m = 12) → P 31)
    (h30 : (m = 4 ∨ m = 6 ∨ m = 9 ∨ m = 11) → P 30)
    (h29 : m = 2 → leap y = true → P 29) (h28 : m = 2 → leap y = false → P 28)
    (h0 : (m < 1 ∨ 12 < m) → P 0) : P (mon y m) := by
  unfold mon
  by_cases a : m = 1 ∨ m = 3 ∨ m = 5 ∨ m = 7 ∨ m = 8 ∨ m = 10 ∨ m = 12
  · rw [if_pos a]; exact h31 a
  · rw [if_neg a]
    by_cases b : m = 4 ∨ m = 6 ∨ m = 9 ∨ m = 11
    · rw [if_pos b]; exact h30 b
    · rw [if_neg b]
      by_cases c : m = 2
      · rw [if_pos c]
        cases hl : leap y
        · exact h28 c hl
        · exact h29 c hl
      · rw [if_neg c]; exact h0 (by omega)

set_option maxHeartbeats 400000 in
theorem month_any (y m : Int) (w : World) :
    Calls Try.prog 95 #[.int .i64 y, .int .i64 m] w fun e w' => e = .returned (.int .i64 (mon y m)) ∧ w = w' := by
  refine mon_case y m (fun b => Calls Try.prog 95 #[.int .i64 y, .int .i64 m] w fun e w' => e = .returned (.int .i64 b) ∧ w = w') ?_ ?_ ?_ ?_ ?_
  · rintro (rfl | rfl | rfl | rfl | rfl | rfl | rfl)
    all_goals
      go_enter Try.func95, Try.ntmps95
      go_wp2
      go_ret
      exact ⟨rfl, rfl⟩
  · rintro (rfl | rfl | rfl | rfl)
    all_goals
      go_enter Try.func95, Try.ntmps95
      go_wp2
      go_ret
      exact ⟨rfl, rfl⟩
  · rintro rfl hl
    go_enter Try.func95, Try.ntmps95
    go_wp2_with (go_at_call 99; refine (leap_any _ _).mono ?_; rintro e w' ⟨rfl, rfl⟩)
    go_ret
    exact ⟨rfl, rfl⟩
  · rintro rfl hl
    go_enter Try.func95, Try.ntmps95
    go_wp2_with (go_at_call 99; refine (leap_any _ _).mono ?_; rintro e w' ⟨rfl, rfl⟩)
    go_ret
    exact ⟨rfl, rfl⟩
  · intro h
    have n1 : (m == 1) = false := beq_eq_false_iff_ne.2 (by omega)
    have n2 : (m == 2) = false := beq_eq_false_iff_ne.2 (by omega)
    have n3 : (m == 3) = false := beq_eq_false_iff_ne.2 (by omega)
    have n4 : (m == 4) = false := beq_eq_false_iff_ne.2 (by omega)
    have n5 : (m == 5) = false := beq_eq_false_iff_ne.2 (by omega)
    have n6 : (m == 6) = false := beq_eq_false_iff_ne.2 (by omega)
    have n7 : (m == 7) = false := beq_eq_false_iff_ne.2 (by omega)
    have n8 : (m == 8) = false := beq_eq_false_iff_ne.2 (by omega)
    have n9 : (m == 9) = false := beq_eq_false_iff_ne.2 (by omega)
    have n10 : (m == 10) = false := beq_eq_false_iff_ne.2 (by omega)
    have n11 : (m == 11) = false := beq_eq_false_iff_ne.2 (by omega)
    have n12 : (m == 12) = false := beq_eq_false_iff_ne.2 (by omega)
    clear h
    go_enter Try.func95, Try.ntmps95
    go_wp2
    go_ret
    exact ⟨rfl, rfl⟩

set_option maxHeartbeats 400000 in
theorem rmonth_any (y m : Int) (w : World) :
    Calls Try.prog 45 #[.int .i64 y, .int .i64 m] w fun e w' => e = .returned (.int .i64 (mon y m)) ∧ Below w.heap.size w w' := by
  refine mon_case y m (fun b => Calls Try.prog 45 #[.int .i64 y, .int .i64 m] w fun e w' => e = .returned (.int .i64 b) ∧ Below w.heap.size w w') ?_ ?_ ?_ ?_ ?_
  · rintro (rfl | rfl | rfl | rfl | rfl | rfl | rfl)
    all_goals
      go_enter Try.func45, Try.ntmps45
      go_wp2
      go_ret
      exact ⟨rfl, by go_grown⟩
  · rintro (rfl | rfl | rfl | rfl)
    all_goals
      go_enter Try.func45, Try.ntmps45
      go_wp2
      go_ret
      exact ⟨rfl, by go_grown⟩
  · rintro rfl hl
    go_enter Try.func45, Try.ntmps45
    go_wp2_with (go_at_call 67; refine (rleap_any _ _).mono ?_; rintro e w' ⟨rfl, rfl⟩)
    go_ret
    exact ⟨rfl, by go_grown⟩
  · rintro rfl hl
    go_enter Try.func45, Try.ntmps45
    go_wp2_with (go_at_call 67; refine (rleap_any _ _).mono ?_; rintro e w' ⟨rfl, rfl⟩)
    go_ret
    exact ⟨rfl, by go_grown⟩
  · rintro (h | h)
    · go_enter Try.func45, Try.ntmps45
      go_wp2
      go_ret
      exact ⟨rfl, by go_grown⟩
    · have h1 : ¬ m < 1 := by omega
      go_enter Try.func45, Try.ntmps45
      go_wp2
      go_ret
      exact ⟨rfl, by go_grown⟩

set_option maxHeartbeats 400000 in
theorem yearStart_any (y : Int) (w : World) (h0 : 1 ≤ y) (h1 : y ≤ 100000) :
    Calls Try.prog 94 #[.int .i64 y] w fun e w' => e = .returned (.int .i64 (Cal.dby y)) ∧ w = w' := by
  go_enter Try.func94, Try.ntmps94
  go_wp2
  go_ret
  exact ⟨by unfold Cal.dby; rfl, rfl⟩

end Go.Proofs.Ytcgglphphdpplaa
