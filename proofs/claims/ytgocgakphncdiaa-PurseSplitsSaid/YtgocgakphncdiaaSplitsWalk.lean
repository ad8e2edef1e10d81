/-
  The walk of the law PurseSplits: it returns true, whatever the input, and makes new blocks alone. No conditions.
-/
import Derived.Test.YtgocgakphncdiaaSplit
namespace Go.Proofs.Ytgocgakphncdiaa
open Go.ChangeShapes Go.WideShapes Go.ChangeAt Go.RowKit

def psum (a n : Int) (k : Nat) : Int := (k : Int) * (a / n) + (if (k : Int) < a % n then (k : Int) else a % n)
theorem psum_succ (a n : Int) (k : Nat) : psum a n (k + 1) = psum a n k + pv a n k := by
  have e : ((k + 1 : Nat) : Int) * (a / n) = (k : Int) * (a / n) + a / n := by rw [Int.natCast_add, Int.add_mul]; simp
  unfold psum pv
  rw [e]
  by_cases h : (k : Int) < a % n
  · rw [if_pos h, if_pos h]
    by_cases g : ((k + 1 : Nat) : Int) < a % n
    · rw [if_pos g]; omega
    · rw [if_neg g]; omega
  · rw [if_neg h, if_neg h, if_neg (by omega)]; omega
theorem psum_zero (a : Int) (n : Nat) (h : 1 ≤ n) : psum a n 0 = 0 := by
  have := Int.emod_nonneg a (show (n : Int) ≠ 0 by omega)
  unfold psum
  split <;> simp <;> omega
theorem psum_all (a : Int) (n : Nat) (h : 1 ≤ n) : psum a n n = a := by
  have := Int.mul_ediv_add_emod a n
  have := Int.emod_lt_of_pos a (show (0 : Int) < n by omega)
  unfold psum
  rw [if_neg (by omega)]; omega
theorem psum_bd (a : Int) (n : Nat) (h0 : 0 ≤ a) (h : 1 ≤ n) : ∀ k, k ≤ n → 0 ≤ psum a n k ∧ psum a n k ≤ a := by
  have q : 0 ≤ a / (n : Int) := Int.ediv_nonneg h0 (by omega)
  have r := Int.emod_nonneg a (show (n : Int) ≠ 0 by omega)
  have e := Int.mul_ediv_add_emod a n
  intro k hk
  have m := Int.mul_le_mul_of_nonneg_right (show (k : Int) ≤ n by omega) q
  have m' := Int.mul_nonneg (show 0 ≤ (k : Int) by omega) q
  unfold psum
  by_cases g : (k : Int) < a % n
  · rw [if_pos g]; omega
  · rw [if_neg g]; omega
theorem pv_bd (a n : Int) (k : Nat) : a / n ≤ pv a n k ∧ pv a n k ≤ a / n + 1 := by
  unfold pv; split <;> omega
theorem pv_down (a n : Int) (k : Nat) : pv a n (k + 1) ≤ pv a n k := by
  unfold pv
  by_cases h : (k : Int) < a % n
  · rw [if_pos h]; split <;> omega
  · rw [if_neg h, if_neg (by omega)]; omega
theorem parts_all {a : Int} {n k : Nat} (h : k < n) : parts a n n k = .int .i64 (pv a n k) := by unfold parts; rw [if_pos h]

set_option maxHeartbeats 1000000 in
theorem purseSplits_no (a n : Int) (w : World) (h : (a < 0 ∨ 0 ≤ a ∧ 1125899906842624 < a) ∨ (0 ≤ a ∧ a ≤ 1125899906842624) ∧ (n < 1 ∨ 1 ≤ n ∧ 1000 < n)) :
    Calls Try.prog 14 #[.int .i64 a, .int .i64 n] w fun e w' => e = .returned (.bool true) ∧ Below w.heap.size w w' := by
  rcases h with (h | ⟨h, g⟩) | ⟨⟨h0, h1⟩, (h | ⟨h, g⟩)⟩
  all_goals
    try have t1 : decide (n < 1) = false := by simp; omega
    try have t2 : decide (1000 < n) = false := by simp; omega
    go_enter Try.func14, Try.ntmps14
    go_wp2_with (fail)
    first | refine (split_no a n 9 _ (by omega)).mono ?_ | refine (split_no a n 1 _ (by omega)).mono ?_ | refine (split_no a n 6 _ (by omega)).mono ?_
    rintro e w1 ⟨rfl, hb⟩
    go_wp2_with (fail)
    refine (pawake_any _).mono ?_
    rintro e w2 ⟨rfl, hb2⟩
    go_wp2
    go_ret
    exact ⟨rfl, hb.trans (hb2.mono hb.size)⟩

set_option maxHeartbeats 2000000 in
set_option maxRecDepth 100000 in
theorem purseSplits_yes (a : Int) (n : Nat) (w : World) (h0 : 0 ≤ a) (h1 : a ≤ 1125899906842624) (g0 : 1 ≤ n) (g1 : n ≤ 1000) :
    Calls Try.prog 14 #[.int .i64 a, .int .i64 (n : Int)] w fun e w' => e = .returned (.bool true) ∧ Below w.heap.size w w' := by
  have q0 : 0 ≤ a / (n : Int) := Int.ediv_nonneg h0 (by omega)
  have q1 : a / (n : Int) ≤ a := Int.ediv_le_self _ h0
  have z : ((n : Int) == 0) = false := beq_eq_false_iff_ne.2 (by omega)
  have t : decide ((n : Int) < 1) = false := by simp; omega
  have t' : decide ((1000 : Int) < n) = false := by simp; omega
  go_enter Try.func14, Try.ntmps14
  go_wp2_with (fail)
  refine (split_yes a n _ h0 h1 g0 g1).mono ?_
  rintro e w1 ⟨rfl, hb, hr⟩
  have HR := Lib.hid hr
  have HB := Lib.hid hb
  clear hr hb
  go_wp2
  go_loopw [7, 8] (fun s t wr => ∃ k : Nat, k ≤ n ∧ t = .int .i64 k ∧ s = .int .i64 (psum a n k) ∧ ∃ m, wr = w1.drewN m) (fun _ t _ => n - (intOf t).toNat)
  case atStart => exact ⟨0, by omega, rfl, by rw [psum_zero a n g0], 0, rfl⟩
  case round =>
    obtain ⟨k, hk, rfl, rfl, m, rfl⟩ := hrel
    obtain ⟨s0, s1⟩ := psum_bd a n h0 g0 k hk
    by_cases hlt : k < n
    · obtain ⟨v0, v1⟩ := pv_bd a n k
      have PS := Lib.hid (psum_succ a n k)
      obtain ⟨s2, s3⟩ := psum_bd a n h0 g0 (k + 1) (by omega)
      rw [PS.out] at s2 s3
      have c1 := HR.out.cell hlt
      rw [parts_all hlt] at c1
      have L' : (k : Int) < (n : Int) := by omega
      have z1 : ((n : Int) == 0) = false := beq_eq_false_iff_ne.2 (by omega)
      have z2 : (n : Int) ≠ 0 := by omega
      have d1 : decide (pv a n k < a / (n : Int)) = false := by simp; omega
      have d2 : decide (a / (n : Int) + 1 < pv a n k) = false := by simp; omega
      by_cases hz : k = 0
      · have d : decide (0 < k) = false := by simp; omega
        clear hz
        go_wp2
        go_quiet (fail)
        go_wp2
        go_roundw
        case rel => exact ⟨k + 1, by omega, by go_num, by rw [PS.out], m + nq, rfl⟩
        case measure => simp [intOf]; omega
      · obtain ⟨j, rfl⟩ : ∃ j, k = j + 1 := ⟨k - 1, by omega⟩
        have d : decide (0 < ((j + 1 : Nat) : Int)) = true := by simp
        have c2 := HR.out.cell (show j < n by omega)
        rw [parts_all (show j < n by omega)] at c2
        have d3 : decide (pv a n j < pv a n (j + 1)) = false := by have := pv_down a n j; simp; omega
        clear hz
        go_wp2
        go_quiet (fail)
        go_wp2
        go_roundw
        case rel => exact ⟨j + 1 + 1, by omega, by go_num, by rw [PS.out], m + nq, rfl⟩
        case measure => simp [intOf]; omega
    · obtain rfl : k = n := by omega
      clear s0 s1
      have PA := Lib.hid (psum_all a k g0)
      go_wp2_with (fail)
      refine (pawake_any _).mono ?_
      rintro e w2 ⟨rfl, hb2⟩
      rw [PA.out]
      go_wp2
      go_ret
      exact ⟨rfl, (Below.drewN' HB.out m).trans (hb2.mono HB.out.size)⟩

theorem purseSplits_walk (a : Int) (_ : (Lit.int .i64 a).wf = true) (n : Int) (_ : (Lit.int .i64 n).wf = true) (w : World) :
    Calls Try.prog 14 #[.int .i64 a, .int .i64 n] w fun e w' => e = .returned (.bool true) ∧ Below w.heap.size w w' := by
  by_cases h : (0 ≤ a ∧ a ≤ 1125899906842624) ∧ 1 ≤ n ∧ n ≤ 1000
  · obtain ⟨⟨h0, h1⟩, g0, g1⟩ := h
    obtain ⟨n, rfl⟩ := Int.eq_ofNat_of_zero_le (show 0 ≤ n by omega)
    exact purseSplits_yes a n w h0 h1 (by omega) (by omega)
  · exact purseSplits_no a n w (by omega)
end Go.Proofs.Ytgocgakphncdiaa
