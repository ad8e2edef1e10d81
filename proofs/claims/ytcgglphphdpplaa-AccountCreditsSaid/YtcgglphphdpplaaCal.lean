/-
  Plain mathematics of the proleptic Gregorian calendar, with no program in it: leap years, the months' days, a year's first day, a day's number. No conditions.
-/
import Derived.IntWalk
namespace Go.Proofs.Ytcgglphphdpplaa.Cal

def leap (y : Int) : Bool := decide (y % 4 = 0 ∧ (y % 100 ≠ 0 ∨ y % 400 = 0))

theorem leap_true {y : Int} : leap y = true ↔ (y % 4 = 0 ∧ (y % 100 ≠ 0 ∨ y % 400 = 0)) := by simp [leap]
theorem leap_false {y : Int} : leap y = false ↔ ¬ (y % 4 = 0 ∧ (y % 100 ≠ 0 ∨ y % 400 = 0)) := by
  rw [leap]; exact decide_eq_false_iff_not

def mon (y m : Int) : Int :=
  if m = 1 ∨ m = 3 ∨ m = 5 ∨ m = 7 ∨ m = 8 ∨ m = 10 ∨ m = 12 then 31
  else if m = 4 ∨ m = 6 ∨ m = 9 ∨ m = 11 then 30
  else if m = 2 then (if leap y = true then 29 else 28) else 0

theorem mon_lo (y m : Int) : 0 ≤ mon y m ∧ mon y m ≤ 31 := by
  unfold mon; split <;> (try split) <;> (try split) <;> (try split) <;> omega

theorem tmod_zero (y k : Int) : y.tmod k = 0 ↔ y % k = 0 := by
  constructor
  · intro h; exact Int.emod_eq_zero_of_dvd (Int.dvd_of_tmod_eq_zero h)
  · intro h; exact Int.tmod_eq_zero_of_dvd (Int.dvd_of_emod_eq_zero h)

theorem tmod_eq {y k : Int} (h : y % k = 0) : (y.tmod k == 0) = true := by simp [(tmod_zero y k).2 h]
theorem tmod_ne {y k : Int} (h : ¬ y % k = 0) : (y.tmod k == 0) = false := by
  have : ¬ y.tmod k = 0 := fun e => h ((tmod_zero y k).1 e)
  simp [this]
theorem tmod_neq {y k : Int} (h : ¬ y % k = 0) : (y.tmod k != 0) = true := by
  have : ¬ y.tmod k = 0 := fun e => h ((tmod_zero y k).1 e)
  simp [this]
theorem tmod_nne {y k : Int} (h : y % k = 0) : (y.tmod k != 0) = false := by simp [(tmod_zero y k).2 h]

/-- A year's first day, counted from 0001-01-01. -/
def dby (y : Int) : Int := (y - 1) * 365 + (y - 1) / 4 - (y - 1) / 100 + (y - 1) / 400

theorem week (n : Int) : (n.tmod 7 + 7) % 7 = n % 7 := by
  have h : n.tmod 7 = n - 7 * n.tdiv 7 := by have := Int.mul_tdiv_add_tmod n 7; omega
  rw [h]; omega

/-- Is there such a day? -/
def right (y m d : Int) : Bool := decide (1 ≤ y ∧ y ≤ 9999 ∧ 1 ≤ d ∧ d ≤ mon y m)
theorem right_true {y m d : Int} : right y m d = true ↔ (1 ≤ y ∧ y ≤ 9999 ∧ 1 ≤ d ∧ d ≤ mon y m) := by simp [right]
theorem right_false {y m d : Int} : right y m d = false ↔ ¬ (1 ≤ y ∧ y ≤ 9999 ∧ 1 ≤ d ∧ d ≤ mon y m) := by
  rw [right]; exact decide_eq_false_iff_not
theorem mon_zero {y m : Int} (h : m < 1 ∨ 12 < m) : mon y m = 0 := by
  unfold mon; rw [if_neg (by omega), if_neg (by omega), if_neg (by omega)]
theorem right_month {y m d : Int} (h : right y m d = true) : 1 ≤ m ∧ m ≤ 12 := by
  have h := right_true.1 h
  by_cases c : m < 1 ∨ 12 < m
  · rw [mon_zero c] at h; omega
  · omega
end Go.Proofs.Ytcgglphphdpplaa.Cal
