/-
  Plain mathematics of the calendar, continued: each number is a day's, the day behind a day, the sums by four hundreds of years. No conditions.
-/
import Derived.Test.YtcgglphphdpplaaCalB
namespace Go.Proofs.Ytcgglphphdpplaa.Cal

theorem cum_last (y : Int) : cum y 13 = 365 + lp y := rfl
theorem cum_end (y m : Int) (h1 : 1 ≤ m) (h2 : m ≤ 12) : cum y m + mon y m ≤ 365 + lp y := by
  have h : m = 1 ∨ m = 2 ∨ m = 3 ∨ m = 4 ∨ m = 5 ∨ m = 6 ∨ m = 7 ∨ m = 8 ∨ m = 9 ∨ m = 10 ∨ m = 11 ∨ m = 12 := by omega
  have := lp_01 y
  rw [← cum_succ y m h1 h2]
  rcases h with rfl | rfl | rfl | rfl | rfl | rfl | rfl | rfl | rfl | rfl | rfl | rfl
  all_goals (simp [cum]; try omega)
theorem cum_mono (y i m : Int) (h0 : 1 ≤ i) (h1 : i < m) (h2 : m ≤ 12) : cum y i + mon y i ≤ cum y m := by
  obtain ⟨k, hk⟩ : ∃ k : Nat, m = i + 1 + k := ⟨(m - i - 1).toNat, by omega⟩
  clear h1
  induction k generalizing m with
  | zero => rw [show m = i + 1 by omega, cum_succ y i h0 (by omega)]; omega
  | succ k ih =>
    have := ih (m - 1) (by omega) (by omega)
    have h := cum_succ y (m - 1) (by omega) (by omega)
    rw [show m - 1 + 1 = m by omega] at h
    have := mon_lo y (m - 1)
    omega

theorem num_lo {y m d : Int} (h : right y m d = true) : dby y ≤ num y m d ∧ num y m d < dby (y + 1) ∧ 0 ≤ num y m d ∧ num y m d ≤ 3652058 := by
  obtain ⟨m1, m2⟩ := right_month h
  obtain ⟨y1, y2, d1, d2⟩ := right_true.1 h
  have a := cum_end y m m1 m2
  have b := cum_bd y m
  have c := dby_succ y
  have e := dby_mono (y + 1) 10000 (by omega)
  have f := dby_bd y y1 (by omega)
  have g := dby_max
  unfold num
  omega

/-- The day behind a day. -/
def nextY (y m d : Int) : Int := if mon y m < d + 1 ∧ 12 < m + 1 then y + 1 else y
def nextM (y m d : Int) : Int := if mon y m < d + 1 then (if 12 < m + 1 then 1 else m + 1) else m
def nextD (y m d : Int) : Int := if mon y m < d + 1 then 1 else d + 1

theorem next_right {y m d : Int} (h : right y m d = true) (hn : num y m d < 3652058) :
    right (nextY y m d) (nextM y m d) (nextD y m d) = true ∧ num (nextY y m d) (nextM y m d) (nextD y m d) = num y m d + 1 := by
  obtain ⟨m1, m2⟩ := right_month h
  obtain ⟨y1, y2, d1, d2⟩ := right_true.1 h
  have cs := cum_succ y m m1 m2
  by_cases a : mon y m < d + 1
  · have hd : d = mon y m := by omega
    by_cases b : 12 < m + 1
    · have hm : m = 12 := by omega
      subst hm
      have e1 : nextY y 12 d = y + 1 := by unfold nextY; rw [if_pos ⟨a, b⟩]
      have e2 : nextM y 12 d = 1 := by unfold nextM; rw [if_pos a, if_pos b]
      have e3 : nextD y 12 d = 1 := by unfold nextD; rw [if_pos a]
      rw [e1, e2, e3]
      have hs := dby_succ y
      rw [show (12 : Int) + 1 = 13 from rfl, cum_last] at cs
      have hq : num y 12 d + 1 = dby (y + 1) := by unfold num; omega
      have hy : y < 9999 := by
        by_cases c : y = 9999
        · subst c; have := dby_max; rw [show (9999 : Int) + 1 = 10000 from rfl] at hq; omega
        · omega
      refine ⟨right_true.2 ⟨by omega, by omega, by omega, ?_⟩, ?_⟩
      · have := mon_28 (y + 1) 1 (by omega) (by omega); omega
      · unfold num; unfold num at hq; rw [cum_one]; omega
    · have e1 : nextY y m d = y := by unfold nextY; rw [if_neg (fun c => b c.2)]
      have e2 : nextM y m d = m + 1 := by unfold nextM; rw [if_pos a, if_neg b]
      have e3 : nextD y m d = 1 := by unfold nextD; rw [if_pos a]
      rw [e1, e2, e3]
      refine ⟨right_true.2 ⟨y1, y2, by omega, ?_⟩, ?_⟩
      · have := mon_28 y (m + 1) (by omega) (by omega); omega
      · unfold num; omega
  · have e1 : nextY y m d = y := by unfold nextY; rw [if_neg (fun c => a c.1)]
    have e2 : nextM y m d = m := by unfold nextM; rw [if_neg a]
    have e3 : nextD y m d = d + 1 := by unfold nextD; rw [if_neg a]
    rw [e1, e2, e3]
    exact ⟨right_true.2 ⟨y1, y2, by omega, by omega⟩, by unfold num; omega⟩

theorem num_first : num 1 1 1 = 0 := by decide
theorem day_nat (n : Nat) (h : n ≤ 3652058) : ∃ y m d, right y m d = true ∧ num y m d = n := by
  induction n with
  | zero => exact ⟨1, 1, 1, by decide, by rw [num_first]; rfl⟩
  | succ n ih =>
    obtain ⟨y, m, d, hr, hn⟩ := ih (by omega)
    obtain ⟨a, b⟩ := next_right hr (by omega)
    exact ⟨_, _, _, a, by rw [b, hn]; omega⟩
theorem day_of (n : Int) (h0 : 0 ≤ n) (h1 : n ≤ 3652058) : ∃ y m d, right y m d = true ∧ num y m d = n := by
  obtain ⟨y, m, d, a, b⟩ := day_nat n.toNat (by omega)
  exact ⟨y, m, d, a, by omega⟩

/-- By four hundreds, hundreds, fours of years. -/
theorem dby_fours (y : Int) : (y - 1) / 400 * 146097 + (y - 1) % 400 / 100 * 36524 + (y - 1) % 100 / 4 * 1461 + (y - 1) % 4 * 365 = dby y := by
  unfold dby; omega
theorem dby_400 (q : Int) : dby (1 + 400 * q) = 146097 * q := by unfold dby; omega
/-- A first guess, as if all years were long. -/
theorem guess_le {y m d : Int} (h : right y m d = true) : 1 ≤ num y m d / 366 + 1 ∧ num y m d / 366 + 1 ≤ y := by
  obtain ⟨a, b, c, e⟩ := num_lo h
  obtain ⟨y1, y2, d1, d2⟩ := right_true.1 h
  have : dby (y + 1) ≤ 366 * y := by unfold dby; omega
  omega
end Go.Proofs.Ytcgglphphdpplaa.Cal
