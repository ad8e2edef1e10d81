/-
  Contract of the document's own answer whether there is such a day. No conditions.
-/
import Derived.Test.YtlfmclcbdjobnaaRight
namespace Go.Proofs.Ytlfmclcbdjobnaa
open Go.ChangeShapes Go.WideShapes Go.ChangeAt Go.RowKit
open Cal (leap mon)

set_option maxHeartbeats 400000 in
theorem rright_any (y m d : Int) (w : World) :
    Calls Try.prog 15 #[.agg #[.int .i64 y, .int .i64 m, .int .i64 d]] w fun e w' => e = .returned (.bool (Cal.right y m d)) ∧ Below w.heap.size w w' := by
  by_cases g1 : m < 1 ∨ 12 < m
  · rw [Cal.right_false.2 (by rw [Cal.mon_zero g1]; omega)]
    by_cases h1 : 1 ≤ y
    · by_cases h2 : y ≤ 9999
      · rcases g1 with g1 | g1
        · have e1 : decide (1 ≤ m) = false := by simp; omega
          go_enter Try.func15, Try.ntmps15
          go_wp2
          go_quiet (fail)
          go_wp2
          go_ret
          exact ⟨rfl, Below.drewN' (by go_grown) _⟩
        · have h3 : 1 ≤ m := by omega
          have e1 : decide (m ≤ 12) = false := by simp; omega
          go_enter Try.func15, Try.ntmps15
          go_wp2
          go_quiet (fail)
          go_wp2
          go_ret
          exact ⟨rfl, Below.drewN' (by go_grown) _⟩
      · have e1 : decide (y ≤ 9999) = false := by simp; omega
        go_enter Try.func15, Try.ntmps15
        go_wp2
        go_quiet (fail)
        go_wp2
        go_ret
        exact ⟨rfl, Below.drewN' (by go_grown) _⟩
    · have e1 : decide (1 ≤ y) = false := by simp; omega
      go_enter Try.func15, Try.ntmps15
      go_wp2
      go_quiet (fail)
      go_wp2
      go_ret
      exact ⟨rfl, Below.drewN' (by go_grown) _⟩
  · have g2 : 1 ≤ m := by omega
    have g3 : m ≤ 12 := by omega
    clear g1
    refine right_case y m d (fun b => Calls Try.prog 15 #[.agg #[.int .i64 y, .int .i64 m, .int .i64 d]] w fun e w' => e = .returned (.bool b) ∧ Below w.heap.size w w') ?_ ?_ ?_ ?_ ?_
    · intro h1
      have e1 : decide (1 ≤ y) = false := by simp; omega
      go_enter Try.func15, Try.ntmps15
      go_wp2
      go_quiet (fail)
      go_wp2
      go_ret
      exact ⟨rfl, Below.drewN' (by go_grown) _⟩
    · intro h1 h2
      have e1 : decide (y ≤ 9999) = false := by simp; omega
      go_enter Try.func15, Try.ntmps15
      go_wp2
      go_quiet (fail)
      go_wp2
      go_ret
      exact ⟨rfl, Below.drewN' (by go_grown) _⟩
    · intro h1 h2 h3
      have e1 : decide (1 ≤ d) = false := by simp; omega
      go_enter Try.func15, Try.ntmps15
      go_wp2
      go_quiet (fail)
      go_wp2
      go_ret
      exact ⟨rfl, Below.drewN' (by go_grown) _⟩
    · intro h1 h2 h3 h4
      have e1 : decide (d ≤ mon y m) = false := by simp; omega
      go_enter Try.func15, Try.ntmps15
      go_wp2
      refine region_over (by kernel_rfl) (by kernel_rfl) ?_
      repeat (go_big_quiet_step (((go_at_call 13; exact over_call (rmonth_any _ _ _)))))
      refine wpQuiet_nil ?_
      rintro _ ⟨x, rfl⟩
      go_wp2
      go_ret
      exact ⟨rfl, ((Below.refl _ _).alloc (Nat.le_refl _) _).trans ((over_below _ x).mono (by simp))⟩
    · intro h1 h2 h3 h4
      go_enter Try.func15, Try.ntmps15
      go_wp2
      refine region_over (by kernel_rfl) (by kernel_rfl) ?_
      repeat (go_big_quiet_step (((go_at_call 13; exact over_call (rmonth_any _ _ _)))))
      refine wpQuiet_nil ?_
      rintro _ ⟨x, rfl⟩
      go_wp2
      go_ret
      exact ⟨rfl, ((Below.refl _ _).alloc (Nat.le_refl _) _).trans ((over_below _ x).mono (by simp))⟩
end Go.Proofs.Ytlfmclcbdjobnaa
