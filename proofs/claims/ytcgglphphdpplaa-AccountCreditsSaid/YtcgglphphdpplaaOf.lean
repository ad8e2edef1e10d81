/-
  Contracts of the function that tells the day of a number: the day that has the number, where there is one; else the fault. No conditions.
-/
import Derived.Test.YtcgglphphdpplaaCalC
import Derived.Test.YtcgglphphdpplaaNumber
namespace Go.Proofs.Ytcgglphphdpplaa
open Go.ChangeShapes Go.WideShapes Go.ChangeAt Go.RowKit
open Cal (leap mon)

set_option maxHeartbeats 400000 in
theorem of_no (n : Int) (w : World) (h : n < 0 ∨ 3652058 < n) :
    Calls Try.prog 89 #[.int .i64 n] w fun e w' => e = .returned (.tuple #[.agg #[.int .i64 0, .int .i64 0, .int .i64 0], .int .i64 1]) ∧ Below w.heap.size w w' := by
  rcases h with h | h
  · go_enter Try.func89, Try.ntmps89
    go_wp2
    exact bodyPost_ret (v := .tuple #[.agg #[.int .i64 0, .int .i64 0, .int .i64 0], .int .i64 1]) (by simp [results, Try.results89, go_sem]) rfl ⟨rfl, by go_grown⟩
  · have h' : ¬ n < 0 := by omega
    go_enter Try.func89, Try.ntmps89
    go_wp2
    exact bodyPost_ret (v := .tuple #[.agg #[.int .i64 0, .int .i64 0, .int .i64 0], .int .i64 1]) (by simp [results, Try.results89, go_sem]) rfl ⟨rfl, by go_grown⟩

set_option maxHeartbeats 1000000 in
theorem of_yes (n y m d : Int) (w : World) (h : Cal.right y m d = true) (hn : Cal.num y m d = n) :
    Calls Try.prog 89 #[.int .i64 n] w fun e w' => e = .returned (.tuple #[.agg #[.int .i64 y, .int .i64 m, .int .i64 d], .int .i64 0]) ∧ Below w.heap.size w w' := by
  obtain ⟨m1, m2⟩ := Cal.right_month h
  obtain ⟨y1, y2, d1, d2⟩ := Cal.right_true.1 h
  obtain ⟨g1, g2⟩ := Cal.guess_le h
  obtain ⟨n1, n2, n3, n4⟩ := Cal.num_lo h
  have hlast : n = Cal.dby y + Cal.cum y m + d - 1 := by rw [← hn]; rfl
  rw [hn] at g1 g2 n1 n2 n3 n4
  have NL := Lib.hid hlast
  clear hn hlast h
  go_enter Try.func89, Try.ntmps89
  go_wp2
  go_loop [4] (fun t => ∃ i : Int, 1 ≤ i ∧ i ≤ y ∧ t = .int .i64 i) (fun t => (y - intOf t).toNat)
  case atStart => exact ⟨_, g1, g2, rfl⟩
  case round =>
    obtain ⟨i, i1, i2, rfl⟩ := hrel
    by_cases hlt : i < y
    · have hd : Cal.dby (i + 1) ≤ n := by have := Cal.dby_mono (i + 1) y (by omega); omega
      go_wp2_with (go_at_call 94; refine (yearStart_any _ _ (by omega) (by omega)).mono ?_; rintro e w' ⟨rfl, rfl⟩)
      go_round
      case rel => exact ⟨i + 1, by omega, by omega, rfl⟩
      case measure => simp [intOf]; omega
    · obtain rfl : i = y := by omega
      have hd : ¬ Cal.dby (i + 1) ≤ n := by omega
      have db := Cal.dby_bd i y1 (by omega)
      go_wp2_with (go_at_call 94; refine (yearStart_any _ _ (by omega) (by omega)).mono ?_; rintro e w' ⟨rfl, rfl⟩)
      go_loop [5, 6] (fun r k => ∃ j : Int, 1 ≤ j ∧ j ≤ m ∧ k = .int .i64 j ∧ r = .int .i64 (n - Cal.dby i - Cal.cum i j)) (fun _ k => (m - intOf k).toNat)
      case atStart => exact ⟨1, by omega, by omega, rfl, by rw [Cal.cum_one, Int.sub_zero]⟩
      case round =>
        obtain ⟨j, j1, j2, rfl, rfl⟩ := hrel
        have cb := Cal.cum_bd i j
        have mb := Cal.mon_lo i j
        by_cases hj : j < m
        · have cs := Cal.cum_succ i j j1 (by omega)
          have cm := Cal.cum_mono i j m j1 hj m2
          have hge : mon i j ≤ n - Cal.dby i - Cal.cum i j := by have := NL.out; omega
          have CS := Lib.hid cs
          clear cs
          go_wp2_with (go_at_call 95; refine (month_any _ _ _).mono ?_; rintro e w' ⟨rfl, rfl⟩)
          go_round
          case rel => exact ⟨j + 1, by omega, by omega, rfl, by rw [CS.out, Int.sub_sub _ (Cal.cum i j)]⟩
          case measure => simp [intOf]; omega
        · obtain rfl : j = m := by omega
          have hge : ¬ mon i j ≤ n - Cal.dby i - Cal.cum i j := by have := NL.out; omega
          go_wp2_with (go_at_call 95; refine (month_any _ _ _).mono ?_; rintro e w' ⟨rfl, rfl⟩)
          have hq : n - Cal.dby i - Cal.cum i j + 1 = d := by have := NL.out; omega
          exact bodyPost_ret (v := .tuple #[.agg #[.int .i64 i, .int .i64 j, .int .i64 (n - Cal.dby i - Cal.cum i j + 1)], .int .i64 0]) (by simp [results, Try.results89, go_sem]) rfl ⟨by rw [hq], by go_grown⟩
end Go.Proofs.Ytcgglphphdpplaa
