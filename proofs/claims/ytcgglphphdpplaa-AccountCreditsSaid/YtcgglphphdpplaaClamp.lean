/-
  Contract of the function that takes the day of a month, or its last one. No conditions but that there is such a month.
-/
import Derived.Test.YtcgglphphdpplaaNumber
namespace Go.Proofs.Ytcgglphphdpplaa
open Go.ChangeShapes Go.WideShapes Go.ChangeAt Go.RowKit
open Cal (leap mon)

set_option maxHeartbeats 400000 in
theorem clamp_any (y m d c : Int) (w : World) (m1 : 1 ≤ m) (m2 : m ≤ 12) (h : d ≤ 1 ∧ c = 1 ∨ 1 < d ∧ d ≤ mon y m ∧ c = d ∨ mon y m < d ∧ c = mon y m) :
    Calls Try.prog 91 #[.int .i64 y, .int .i64 m, .int .i64 d] w fun e w' => e = .returned (.agg #[.int .i64 y, .int .i64 m, .int .i64 c]) ∧ Below w.heap.size w w' := by
  have ml := Cal.mon_28 y m m1 m2
  rcases h with ⟨h, rfl⟩ | ⟨h, g, rfl⟩ | ⟨h, rfl⟩
  all_goals
    go_enter Try.func91, Try.ntmps91
    go_wp2_with (go_at_call 95; refine (month_any _ _ _).mono ?_; rintro e w' ⟨rfl, rfl⟩)
  all_goals first
    | exact bodyPost_ret (v := .agg #[.int .i64 y, .int .i64 m, .int .i64 1]) (by simp [results, Try.results91, go_sem]) rfl ⟨rfl, by go_grown⟩
    | exact bodyPost_ret (v := .agg #[.int .i64 y, .int .i64 m, .int .i64 d]) (by simp [results, Try.results91, go_sem]) rfl ⟨rfl, by go_grown⟩
    | exact bodyPost_ret (v := .agg #[.int .i64 y, .int .i64 m, .int .i64 c]) (by simp [results, Try.results91, go_sem]) rfl ⟨rfl, by go_grown⟩
    | exact bodyPost_ret (v := .agg #[.int .i64 y, .int .i64 m, .int .i64 (mon y m)]) (by simp [results, Try.results91, go_sem]) rfl ⟨rfl, by go_grown⟩
end Go.Proofs.Ytcgglphphdpplaa
