/-
  Contracts of the two functions that ask whether there is such a day: each returns what the plain mathematics says, and turns nothing that was there. No conditions.
-/
import Derived.Test.YtcgglphphdpplaaLeaf
import Derived.Deep.QuietTactic
import Derived.BigQuiet
import Derived.Deep.RegionHeld3
import Derived.Deep.RegionWith
namespace Go.Proofs.Ytcgglphphdpplaa
open Go.ChangeShapes Go.WideShapes Go.ChangeAt Go.RowKit
open Cal (leap mon)

theorem right_case (y m d : Int) (P : Bool → Prop)
    (a : y < 1 → P false) (b : 1 ≤ y → 9999 < y → P false) (c : 1 ≤ y → y ≤ 9999 → d < 1 → P false)
    (f : 1 ≤ y → y ≤ 9999 → 1 ≤ d → mon y m < d → P false) (g : 1 ≤ y → y ≤ 9999 → 1 ≤ d → d ≤ mon y m → P true) : P (Cal.right y m d) := by
  by_cases h1 : 1 ≤ y
  · by_cases h2 : y ≤ 9999
    · by_cases h3 : 1 ≤ d
      · by_cases h4 : d ≤ mon y m
        · rw [Cal.right_true.2 ⟨h1, h2, h3, h4⟩]; exact g h1 h2 h3 h4
        · rw [Cal.right_false.2 (by omega)]; exact f h1 h2 h3 (by omega)
      · rw [Cal.right_false.2 (by omega)]; exact c h1 h2 (by omega)
    · rw [Cal.right_false.2 (by omega)]; exact b h1 (by omega)
  · rw [Cal.right_false.2 (by omega)]; exact a (by omega)

set_option maxHeartbeats 400000 in
theorem right_any (y m d : Int) (w : World) :
    Calls Try.prog 96 #[.agg #[.int .i64 y, .int .i64 m, .int .i64 d]] w fun e w' => e = .returned (.bool (Cal.right y m d)) ∧ Below w.heap.size w w' := by
  refine right_case y m d (fun b => Calls Try.prog 96 #[.agg #[.int .i64 y, .int .i64 m, .int .i64 d]] w fun e w' => e = .returned (.bool b) ∧ Below w.heap.size w w') ?_ ?_ ?_ ?_ ?_
  · intro h1
    have e1 : decide (1 ≤ y) = false := by simp; omega
    go_enter Try.func96, Try.ntmps96
    go_wp2
    go_quiet (fail)
    go_wp2
    go_ret
    exact ⟨rfl, Below.drewN' (by go_grown) _⟩
  · intro h1 h2
    have e1 : decide (y ≤ 9999) = false := by simp; omega
    go_enter Try.func96, Try.ntmps96
    go_wp2
    go_quiet (fail)
    go_wp2
    go_ret
    exact ⟨rfl, Below.drewN' (by go_grown) _⟩
  · intro h1 h2 h3
    have e1 : decide (1 ≤ d) = false := by simp; omega
    go_enter Try.func96, Try.ntmps96
    go_wp2
    go_quiet (fail)
    go_wp2
    go_ret
    exact ⟨rfl, Below.drewN' (by go_grown) _⟩
  · intro h1 h2 h3 h4
    have e1 : decide (d ≤ mon y m) = false := by simp; omega
    go_enter Try.func96, Try.ntmps96
    go_wp2
    go_quiet ((go_at_call 95; exact Calls.quiet_of_same ((month_any _ _ _).mono fun e w' h => ⟨h.1, h.2.symm⟩)))
    go_wp2
    go_ret
    exact ⟨rfl, Below.drewN' (by go_grown) _⟩
  · intro h1 h2 h3 h4
    go_enter Try.func96, Try.ntmps96
    go_wp2
    go_quiet ((go_at_call 95; exact Calls.quiet_of_same ((month_any _ _ _).mono fun e w' h => ⟨h.1, h.2.symm⟩)))
    go_wp2
    go_ret
    exact ⟨rfl, Below.drewN' (by go_grown) _⟩

end Go.Proofs.Ytcgglphphdpplaa
