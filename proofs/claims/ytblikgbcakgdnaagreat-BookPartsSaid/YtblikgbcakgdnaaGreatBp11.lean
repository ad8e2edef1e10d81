/-
  Contracts of the calendar's smallest functions (leap years, the months' days, a year's first day, weekdays): each returns what the plain mathematics says, and leaves the world alone. No conditions but the numbers' own ranges.
-/
import Derived.Test.YtblikgbcakgdnaaGreatRows
import Derived.WalkKit
import Derived.ProofKit
import Derived.OpenShut
import Derived.Handy
import Derived.Outline
import Derived.Lib.Hide
import Derived.Deep.QuietTactic
import Derived.BigQuiet
import Derived.Deep.RegionHeld3
import Derived.Deep.RegionWith
import Derived.Test.YtblikgbcakgdnaaGreatBp02
import Derived.Test.YtblikgbcakgdnaaGreatBp09
import Derived.Test.YtblikgbcakgdnaaGreatBp10
set_option linter.unusedSimpArgs false
set_option linter.unusedVariables false
namespace Go.Proofs.YtblikgbcakgdnaaGreat
open Go.ChangeShapes Go.WideShapes Go.ChangeAt Go.RowKit
open Cal (leap mon)

theorem leap_case (y : Int) (P : Bool → Prop)
    (a : y % 4 = 0 → ¬ y % 100 = 0 → ¬ y % 400 = 0 → P true) (b : y % 4 = 0 → y % 100 = 0 → y % 400 = 0 → P true)
    (c : y % 4 = 0 → y % 100 = 0 → ¬ y % 400 = 0 → P false) (d : ¬ y % 4 = 0 → ¬ y % 400 = 0 → P false) : P (leap y) := by
  by_cases h4 : y % 4 = 0
  · by_cases h1 : y % 100 = 0
    · by_cases h5 : y % 400 = 0
      · rw [Cal.leap_true.2 ⟨h4, Or.inr h5⟩]; exact b h4 h1 h5
      · rw [Cal.leap_false.2 (by omega)]; exact c h4 h1 h5
    · rw [Cal.leap_true.2 ⟨h4, Or.inl h1⟩]; exact a h4 h1 (by omega)
  · rw [Cal.leap_false.2 (by omega)]; exact d h4 (by omega)

set_option maxHeartbeats 400000 in
theorem leap_any (y : Int) (w : World) :
    Calls Tryz.prog 141 #[.int .i64 y] w fun e w' => e = .returned (.bool (leap y)) ∧ w = w' := by
  refine leap_case y (fun b => Calls Tryz.prog 141 #[.int .i64 y] w fun e w' => e = .returned (.bool b) ∧ w = w') ?_ ?_ ?_ ?_
  · intro h4 h1 h5
    have e4 := Cal.tmod_eq h4; have e1 := Cal.tmod_neq h1; clear h4 h1 h5
    go_enter Tryz.func141, Tryz.ntmps141
    go_wp2
    go_ret
    exact ⟨rfl, rfl⟩
  · intro h4 h1 h5
    have e4 := Cal.tmod_eq h4; have e1 := Cal.tmod_nne h1; have e5 := Cal.tmod_eq h5; clear h4 h1 h5
    go_enter Tryz.func141, Tryz.ntmps141
    go_wp2
    go_ret
    exact ⟨rfl, rfl⟩
  · intro h4 h1 h5
    have e4 := Cal.tmod_eq h4; have e1 := Cal.tmod_nne h1; have e5 := Cal.tmod_ne h5; clear h4 h1 h5
    go_enter Tryz.func141, Tryz.ntmps141
    go_wp2
    go_ret
    exact ⟨rfl, rfl⟩
  · intro h4 h5
    have e4 := Cal.tmod_ne h4; have e5 := Cal.tmod_ne h5; clear h4 h5
    go_enter Tryz.func141, Tryz.ntmps141
    go_wp2
    go_ret
    exact ⟨rfl, rfl⟩

set_option maxHeartbeats 400000 in
theorem rleap_any (y : Int) (w : World) :
    Calls Tryz.prog 120 #[.int .i64 y] w fun e w' => e = .returned (.bool (leap y)) ∧ w = w' := by
  refine leap_case y (fun b => Calls Tryz.prog 120 #[.int .i64 y] w fun e w' => e = .returned (.bool b) ∧ w = w') ?_ ?_ ?_ ?_
  · intro h4 h1 h5
    have e4 := Cal.tmod_eq h4; have e1 := Cal.tmod_neq h1; have e5 := Cal.tmod_ne h5; clear h4 h1 h5
    go_enter Tryz.func120, Tryz.ntmps120
    go_wp2
    go_ret
    exact ⟨rfl, rfl⟩
  · intro h4 h1 h5
    have e4 := Cal.tmod_eq h4; have e1 := Cal.tmod_nne h1; have e5 := Cal.tmod_eq h5; clear h4 h1 h5
    go_enter Tryz.func120, Tryz.ntmps120
    go_wp2
    go_ret
    exact ⟨rfl, rfl⟩
  · intro h4 h1 h5
    have e4 := Cal.tmod_eq h4; have e1 := Cal.tmod_nne h1; have e5 := Cal.tmod_ne h5; clear h4 h1 h5
    go_enter Tryz.func120, Tryz.ntmps120
    go_wp2
    go_ret
    exact ⟨rfl, rfl⟩
  · intro h4 h5
    have e4 := Cal.tmod_ne h4; have e5 := Cal.tmod_ne h5; clear h4 h5
    go_enter Tryz.func120, Tryz.ntmps120
    go_wp2
    go_ret
    exact ⟨rfl, rfl⟩

theorem mon_case (y m : Int) (P : Int → Prop)
    (h31 : (m = 1 ∨ m = 3 ∨ m = 5 ∨ m = 7 ∨ m = 8 ∨ m = 10 ∨ m = 12) → P 31)
    (h30 : (m = 4 ∨ m = 6 ∨ m = 9 ∨ m = 11) → P 30)
    (h29 : m = 2 → leap y = true → P 29) (h28 : m = 2 → leap y = false → P 28)
    (h0 : (m < 1 ∨ 12 < m) → P 0) : P (mon y m) := by
  unfold mon
  by_cases a : m = 1 ∨ m = 3 ∨ m = 5 ∨ m = 7 ∨ m = 8 ∨ m = 10 ∨ m = 12
  · rw [if_pos a]; exact h31 a
  · rw [if_neg a]
    by_cases b : m = 4 ∨ m = 6 ∨ m = 9 ∨ m = 11
    · rw [if_pos b]; exact h30 b
    · rw [if_neg b]
      by_cases c : m = 2
      · rw [if_pos c]
        cases hl : leap y
        · exact h28 c hl
        · exact h29 c hl
      · rw [if_neg c]; exact h0 (by omega)

set_option maxHeartbeats 400000 in
theorem month_any (y m : Int) (w : World) :
    Calls Tryz.prog 136 #[.int .i64 y, .int .i64 m] w fun e w' => e = .returned (.int .i64 (mon y m)) ∧ w = w' := by
  refine mon_case y m (fun b => Calls Tryz.prog 136 #[.int .i64 y, .int .i64 m] w fun e w' => e = .returned (.int .i64 b) ∧ w = w') ?_ ?_ ?_ ?_ ?_
  · rintro (rfl | rfl | rfl | rfl | rfl | rfl | rfl)
    all_goals
      go_enter Tryz.func136, Tryz.ntmps136
      go_wp2
      go_ret
      exact ⟨rfl, rfl⟩
  · rintro (rfl | rfl | rfl | rfl)
    all_goals
      go_enter Tryz.func136, Tryz.ntmps136
      go_wp2
      go_ret
      exact ⟨rfl, rfl⟩
  · rintro rfl hl
    go_enter Tryz.func136, Tryz.ntmps136
    go_wp2_with (go_at_call 141; refine (leap_any _ _).mono ?_; rintro e w' ⟨rfl, rfl⟩)
    go_ret
    exact ⟨rfl, rfl⟩
  · rintro rfl hl
    go_enter Tryz.func136, Tryz.ntmps136
    go_wp2_with (go_at_call 141; refine (leap_any _ _).mono ?_; rintro e w' ⟨rfl, rfl⟩)
    go_ret
    exact ⟨rfl, rfl⟩
  · intro h
    have n1 : (m == 1) = false := beq_eq_false_iff_ne.2 (by omega)
    have n2 : (m == 2) = false := beq_eq_false_iff_ne.2 (by omega)
    have n3 : (m == 3) = false := beq_eq_false_iff_ne.2 (by omega)
    have n4 : (m == 4) = false := beq_eq_false_iff_ne.2 (by omega)
    have n5 : (m == 5) = false := beq_eq_false_iff_ne.2 (by omega)
    have n6 : (m == 6) = false := beq_eq_false_iff_ne.2 (by omega)
    have n7 : (m == 7) = false := beq_eq_false_iff_ne.2 (by omega)
    have n8 : (m == 8) = false := beq_eq_false_iff_ne.2 (by omega)
    have n9 : (m == 9) = false := beq_eq_false_iff_ne.2 (by omega)
    have n10 : (m == 10) = false := beq_eq_false_iff_ne.2 (by omega)
    have n11 : (m == 11) = false := beq_eq_false_iff_ne.2 (by omega)
    have n12 : (m == 12) = false := beq_eq_false_iff_ne.2 (by omega)
    clear h
    go_enter Tryz.func136, Tryz.ntmps136
    go_wp2
    go_ret
    exact ⟨rfl, rfl⟩

set_option maxHeartbeats 400000 in
theorem rmonth_any (y m : Int) (w : World) :
    Calls Tryz.prog 100 #[.int .i64 y, .int .i64 m] w fun e w' => e = .returned (.int .i64 (mon y m)) ∧ Below w.heap.size w w' := by
  refine mon_case y m (fun b => Calls Tryz.prog 100 #[.int .i64 y, .int .i64 m] w fun e w' => e = .returned (.int .i64 b) ∧ Below w.heap.size w w') ?_ ?_ ?_ ?_ ?_
  · rintro (rfl | rfl | rfl | rfl | rfl | rfl | rfl)
    all_goals
      go_enter Tryz.func100, Tryz.ntmps100
      go_wp2
      go_ret
      exact ⟨rfl, by go_grown⟩
  · rintro (rfl | rfl | rfl | rfl)
    all_goals
      go_enter Tryz.func100, Tryz.ntmps100
      go_wp2
      go_ret
      exact ⟨rfl, by go_grown⟩
  · rintro rfl hl
    go_enter Tryz.func100, Tryz.ntmps100
    go_wp2_with (go_at_call 120; refine (rleap_any _ _).mono ?_; rintro e w' ⟨rfl, rfl⟩)
    go_ret
    exact ⟨rfl, by go_grown⟩
  · rintro rfl hl
    go_enter Tryz.func100, Tryz.ntmps100
    go_wp2_with (go_at_call 120; refine (rleap_any _ _).mono ?_; rintro e w' ⟨rfl, rfl⟩)
    go_ret
    exact ⟨rfl, by go_grown⟩
  · rintro (h | h)
    · go_enter Tryz.func100, Tryz.ntmps100
      go_wp2
      go_ret
      exact ⟨rfl, by go_grown⟩
    · have h1 : ¬ m < 1 := by omega
      go_enter Tryz.func100, Tryz.ntmps100
      go_wp2
      go_ret
      exact ⟨rfl, by go_grown⟩

set_option maxHeartbeats 400000 in
theorem yearStart_any (y : Int) (w : World) (h0 : 1 ≤ y) (h1 : y ≤ 100000) :
    Calls Tryz.prog 135 #[.int .i64 y] w fun e w' => e = .returned (.int .i64 (Cal.dby y)) ∧ w = w' := by
  go_enter Tryz.func135, Tryz.ntmps135
  go_wp2
  go_ret
  exact ⟨by unfold Cal.dby; rfl, rfl⟩

end Go.Proofs.YtblikgbcakgdnaaGreat
/-
  Contracts of the two functions that ask whether there is such a day: each returns what the plain mathematics says, and turns nothing that was there. No conditions.
-/
namespace Go.Proofs.YtblikgbcakgdnaaGreat
open Go.ChangeShapes Go.WideShapes Go.ChangeAt Go.RowKit
open Cal (leap mon)

theorem right_case (y m d : Int) (P : Bool → Prop)
    (a : y < 1 → P false) (b : 1 ≤ y → 9999 < y → P false) (c : 1 ≤ y → y ≤ 9999 → d < 1 → P false)
    (f : 1 ≤ y → y ≤ 9999 → 1 ≤ d → mon y m < d → P false) (g : 1 ≤ y → y ≤ 9999 → 1 ≤ d → d ≤ mon y m → P true) : P (Cal.right y m d) := by
  by_cases h1 : 1 ≤ y
  · by_cases h2 : y ≤ 9999
    · by_cases h3 : 1 ≤ d
      · by_cases h4 : d ≤ mon y m
        · rw [Cal.right_true.2 ⟨h1, h2, h3, h4⟩]; exact g h1 h2 h3 h4
        · rw [Cal.right_false.2 (by omega)]; exact f h1 h2 h3 (by omega)
      · rw [Cal.right_false.2 (by omega)]; exact c h1 h2 (by omega)
    · rw [Cal.right_false.2 (by omega)]; exact b h1 (by omega)
  · rw [Cal.right_false.2 (by omega)]; exact a (by omega)

set_option maxHeartbeats 400000 in
theorem right_any (y m d : Int) (w : World) :
    Calls Tryz.prog 142 #[.agg #[.int .i64 y, .int .i64 m, .int .i64 d]] w fun e w' => e = .returned (.bool (Cal.right y m d)) ∧ Below w.heap.size w w' := by
  refine right_case y m d (fun b => Calls Tryz.prog 142 #[.agg #[.int .i64 y, .int .i64 m, .int .i64 d]] w fun e w' => e = .returned (.bool b) ∧ Below w.heap.size w w') ?_ ?_ ?_ ?_ ?_
  · intro h1
    have e1 : decide (1 ≤ y) = false := by simp; omega
    go_enter Tryz.func142, Tryz.ntmps142
    go_wp2
    go_quiet (fail)
    go_wp2
    go_ret
    exact ⟨rfl, Below.drewN' (by go_grown) _⟩
  · intro h1 h2
    have e1 : decide (y ≤ 9999) = false := by simp; omega
    go_enter Tryz.func142, Tryz.ntmps142
    go_wp2
    go_quiet (fail)
    go_wp2
    go_ret
    exact ⟨rfl, Below.drewN' (by go_grown) _⟩
  · intro h1 h2 h3
    have e1 : decide (1 ≤ d) = false := by simp; omega
    go_enter Tryz.func142, Tryz.ntmps142
    go_wp2
    go_quiet (fail)
    go_wp2
    go_ret
    exact ⟨rfl, Below.drewN' (by go_grown) _⟩
  · intro h1 h2 h3 h4
    have e1 : decide (d ≤ mon y m) = false := by simp; omega
    go_enter Tryz.func142, Tryz.ntmps142
    go_wp2
    go_quiet ((go_at_call 136; exact Calls.quiet_of_same ((month_any _ _ _).mono fun e w' h => ⟨h.1, h.2.symm⟩)))
    go_wp2
    go_ret
    exact ⟨rfl, Below.drewN' (by go_grown) _⟩
  · intro h1 h2 h3 h4
    go_enter Tryz.func142, Tryz.ntmps142
    go_wp2
    go_quiet ((go_at_call 136; exact Calls.quiet_of_same ((month_any _ _ _).mono fun e w' h => ⟨h.1, h.2.symm⟩)))
    go_wp2
    go_ret
    exact ⟨rfl, Below.drewN' (by go_grown) _⟩

end Go.Proofs.YtblikgbcakgdnaaGreat
/-
  Contracts of the function that tells a day's number, and of the statements' own example: of a day that there is, its number; else the fault. No conditions.
-/
namespace Go.Proofs.YtblikgbcakgdnaaGreat
open Go.ChangeShapes Go.WideShapes Go.ChangeAt Go.RowKit
open Cal (leap mon)

set_option maxHeartbeats 800000 in
theorem number_yes (y m d : Int) (w : World) (h : Cal.right y m d = true) :
    Calls Tryz.prog 137 #[.agg #[.int .i64 y, .int .i64 m, .int .i64 d]] w fun e w' => e = .returned (.tuple #[.int .i64 (Cal.num y m d), .int .i64 0]) ∧ Below w.heap.size w w' := by
  obtain ⟨m1, m2⟩ := Cal.right_month h
  obtain ⟨y1, y2, d1, d2⟩ := Cal.right_true.1 h
  have d3 := (Cal.mon_lo y m).2
  have hd := Cal.dby_bd y y1 (by omega)
  go_enter Tryz.func137, Tryz.ntmps137
  go_wp2_with fail
  refine (right_any _ _ _ _).mono ?_
  rintro e w1 ⟨rfl, hb⟩
  obtain ⟨hc, hf⟩ := bcell hb
  go_wp2_with (go_at_call 135; refine (yearStart_any _ _ (by omega) (by omega)).mono ?_; rintro e w' ⟨rfl, rfl⟩)
  go_loop [4, 5] (fun n k => ∃ i : Int, 1 ≤ i ∧ i ≤ m ∧ k = .int .i64 i ∧ n = .int .i64 (Cal.dby y + Cal.cum y i)) (fun _ k => (m - intOf k).toNat)
  case atStart => exact ⟨1, by omega, by omega, rfl, by rw [Cal.cum_one, Int.add_zero]⟩
  case round =>
    obtain ⟨i, i1, i2, rfl, rfl⟩ := hrel
    have cb := Cal.cum_bd y i
    have cs := Cal.cum_succ y i i1 (by omega)
    have ml := Cal.mon_lo y i
    by_cases hlt : i < m
    · have CS := Lib.hid cs
      clear cs
      go_wp2_with (go_at_call 136; refine (month_any _ _ _).mono ?_; rintro e w' ⟨rfl, rfl⟩)
      go_round
      case rel => exact ⟨i + 1, by omega, by omega, rfl, by rw [CS.out, Int.add_assoc]⟩
      case measure => simp [intOf]; omega
    · obtain rfl : i = m := by omega
      clear cs
      go_wp2
      go_ret2
      exact ⟨rfl, ((Below.refl _ _).alloc (Nat.le_refl _) _).trans (hb.mono (by simp))⟩

end Go.Proofs.YtblikgbcakgdnaaGreat
/-
  Contracts of the function that tells the day of a number: the day that has the number, where there is one; else the fault. No conditions.
-/
namespace Go.Proofs.YtblikgbcakgdnaaGreat
open Go.ChangeShapes Go.WideShapes Go.ChangeAt Go.RowKit
open Cal (leap mon)

set_option maxHeartbeats 1000000 in
theorem of_yes (n y m d : Int) (w : World) (h : Cal.right y m d = true) (hn : Cal.num y m d = n) :
    Calls Tryz.prog 130 #[.int .i64 n] w fun e w' => e = .returned (.tuple #[.agg #[.int .i64 y, .int .i64 m, .int .i64 d], .int .i64 0]) ∧ Below w.heap.size w w' := by
  obtain ⟨m1, m2⟩ := Cal.right_month h
  obtain ⟨y1, y2, d1, d2⟩ := Cal.right_true.1 h
  obtain ⟨g1, g2⟩ := Cal.guess_le h
  obtain ⟨n1, n2, n3, n4⟩ := Cal.num_lo h
  have hlast : n = Cal.dby y + Cal.cum y m + d - 1 := by rw [← hn]; rfl
  rw [hn] at g1 g2 n1 n2 n3 n4
  have NL := Lib.hid hlast
  clear hn hlast h
  go_enter Tryz.func130, Tryz.ntmps130
  go_wp2
  go_loop [4] (fun t => ∃ i : Int, 1 ≤ i ∧ i ≤ y ∧ t = .int .i64 i) (fun t => (y - intOf t).toNat)
  case atStart => exact ⟨_, g1, g2, rfl⟩
  case round =>
    obtain ⟨i, i1, i2, rfl⟩ := hrel
    by_cases hlt : i < y
    · have hd : Cal.dby (i + 1) ≤ n := by have := Cal.dby_mono (i + 1) y (by omega); omega
      go_wp2_with (go_at_call 135; refine (yearStart_any _ _ (by omega) (by omega)).mono ?_; rintro e w' ⟨rfl, rfl⟩)
      go_round
      case rel => exact ⟨i + 1, by omega, by omega, rfl⟩
      case measure => simp [intOf]; omega
    · obtain rfl : i = y := by omega
      have hd : ¬ Cal.dby (i + 1) ≤ n := by omega
      have db := Cal.dby_bd i y1 (by omega)
      go_wp2_with (go_at_call 135; refine (yearStart_any _ _ (by omega) (by omega)).mono ?_; rintro e w' ⟨rfl, rfl⟩)
      go_loop [5, 6] (fun r k => ∃ j : Int, 1 ≤ j ∧ j ≤ m ∧ k = .int .i64 j ∧ r = .int .i64 (n - Cal.dby i - Cal.cum i j)) (fun _ k => (m - intOf k).toNat)
      case atStart => exact ⟨1, by omega, by omega, rfl, by rw [Cal.cum_one, Int.sub_zero]⟩
      case round =>
        obtain ⟨j, j1, j2, rfl, rfl⟩ := hrel
        have cb := Cal.cum_bd i j
        have mb := Cal.mon_lo i j
        by_cases hj : j < m
        · have cs := Cal.cum_succ i j j1 (by omega)
          have cm := Cal.cum_mono i j m j1 hj m2
          have hge : mon i j ≤ n - Cal.dby i - Cal.cum i j := by have := NL.out; omega
          have CS := Lib.hid cs
          clear cs
          go_wp2_with (go_at_call 136; refine (month_any _ _ _).mono ?_; rintro e w' ⟨rfl, rfl⟩)
          go_round
          case rel => exact ⟨j + 1, by omega, by omega, rfl, by rw [CS.out, Int.sub_sub _ (Cal.cum i j)]⟩
          case measure => simp [intOf]; omega
        · obtain rfl : j = m := by omega
          have hge : ¬ mon i j ≤ n - Cal.dby i - Cal.cum i j := by have := NL.out; omega
          go_wp2_with (go_at_call 136; refine (month_any _ _ _).mono ?_; rintro e w' ⟨rfl, rfl⟩)
          have hq : n - Cal.dby i - Cal.cum i j + 1 = d := by have := NL.out; omega
          exact bodyPost_ret (v := .tuple #[.agg #[.int .i64 i, .int .i64 j, .int .i64 (n - Cal.dby i - Cal.cum i j + 1)], .int .i64 0]) (by simp [results, Tryz.results130, go_sem]) rfl ⟨by rw [hq], by go_grown⟩
end Go.Proofs.YtblikgbcakgdnaaGreat
/-
  Contract of the function that takes the day of a month, or its last one. No conditions but that there is such a month.
-/
namespace Go.Proofs.YtblikgbcakgdnaaGreat
open Go.ChangeShapes Go.WideShapes Go.ChangeAt Go.RowKit
open Cal (leap mon)

set_option maxHeartbeats 400000 in
theorem clamp_any (y m d c : Int) (w : World) (m1 : 1 ≤ m) (m2 : m ≤ 12) (h : d ≤ 1 ∧ c = 1 ∨ 1 < d ∧ d ≤ mon y m ∧ c = d ∨ mon y m < d ∧ c = mon y m) :
    Calls Tryz.prog 138 #[.int .i64 y, .int .i64 m, .int .i64 d] w fun e w' => e = .returned (.agg #[.int .i64 y, .int .i64 m, .int .i64 c]) ∧ Below w.heap.size w w' := by
  have ml := Cal.mon_28 y m m1 m2
  rcases h with ⟨h, rfl⟩ | ⟨h, g, rfl⟩ | ⟨h, rfl⟩
  all_goals
    go_enter Tryz.func138, Tryz.ntmps138
    go_wp2_with (go_at_call 136; refine (month_any _ _ _).mono ?_; rintro e w' ⟨rfl, rfl⟩)
  all_goals first
    | exact bodyPost_ret (v := .agg #[.int .i64 y, .int .i64 m, .int .i64 1]) (by simp [results, Tryz.results138, go_sem] <;> omega) rfl ⟨rfl, by go_grown⟩
    | exact bodyPost_ret (v := .agg #[.int .i64 y, .int .i64 m, .int .i64 d]) (by simp [results, Tryz.results138, go_sem] <;> omega) rfl ⟨rfl, by go_grown⟩
    | exact bodyPost_ret (v := .agg #[.int .i64 y, .int .i64 m, .int .i64 c]) (by simp [results, Tryz.results138, go_sem] <;> omega) rfl ⟨rfl, by go_grown⟩
    | exact bodyPost_ret (v := .agg #[.int .i64 y, .int .i64 m, .int .i64 (mon y m)]) (by simp [results, Tryz.results138, go_sem] <;> omega) rfl ⟨rfl, by go_grown⟩
end Go.Proofs.YtblikgbcakgdnaaGreat
