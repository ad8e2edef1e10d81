/-
  The walk of the law PurseParts: it returns true, whatever the input, and makes new blocks alone. No conditions.
-/
import Derived.Test.YtgocgakphncdiaaShare
namespace Go.Proofs.Ytgocgakphncdiaa
open Go.ChangeShapes Go.WideShapes Go.ChangeAt Go.RowKit

namespace Dv
theorem longStep (x p q w r b c : Int) (h : x * p = q * w + r) : (2 * x + b) * p = (2 * q + c) * w + (2 * r + b * p - c * w) := by
  rw [Int.add_mul, Int.mul_assoc, h, Int.add_mul, Int.mul_assoc]; omega
theorem long_le {y p q w r : Int} (h : y * p = q * w + r) (h0 : 0 ≤ r) (hp : p ≤ w) (hy : 0 ≤ y) (hw : 1 ≤ w) : q ≤ y := by
  have := Int.mul_le_mul_of_nonneg_left hp hy
  exact Int.le_of_mul_le_mul_right (show q * w ≤ y * w by omega) (by omega)
theorem long_end {a p q w r : Int} (h : a * p = q * w + r) (h0 : 0 ≤ r) (h1 : r < w) : q = a * p / w := by
  rw [h, Int.add_comm, Int.add_mul_ediv_right _ _ (by omega), Int.ediv_eq_zero_of_lt h0 h1]; omega
theorem long_first {a p n : Int} (h0 : 0 ≤ a) (h1 : a ≤ 1125899906842624) : a / 2 ^ ((50 : Int) + 1).toNat * p = 0 * n + 0 := by
  have e : (2 : Int) ^ ((50 : Int) + 1).toNat = 2251799813685248 := by decide
  rw [e, Int.ediv_eq_zero_of_lt h0 (by omega)]; omega
theorem halves (a : Int) (n : Nat) (h : 0 ≤ a) : 0 ≤ a / 2 ^ n ∧ a / 2 ^ n ≤ a ∧ a / 2 ^ (n + 1) = a / 2 ^ n / 2 := by
  have hp : 0 < (2 : Int) ^ n := Int.pow_pos (by decide)
  refine ⟨Int.ediv_nonneg h (by omega), Int.ediv_le_self _ h, ?_⟩
  rw [Int.pow_succ, Int.ediv_ediv_of_nonneg (by omega)]
end Dv

set_option maxHeartbeats 1000000 in
theorem purseParts_no (a p n : Int) (w : World) (h : (a < 0 ∨ 0 ≤ a ∧ 1125899906842624 < a) ∨ (0 ≤ a ∧ a ≤ 1125899906842624) ∧ (n < 1 ∨ 1 ≤ n ∧ p < 0 ∨ 1 ≤ n ∧ 0 ≤ p ∧ n < p)) :
    Calls Try.prog 12 #[.int .i64 a, .int .i64 p, .int .i64 n] w fun e w' => e = .returned (.bool true) ∧ Below w.heap.size w w' := by
  rcases h with (h | ⟨h, g⟩) | ⟨⟨h0, h1⟩, (h | ⟨h, g⟩ | ⟨h, g, k⟩)⟩
  all_goals
    go_enter Try.func12, Try.ntmps12
    go_wp2_with (fail)
    first | refine (part_money _ _ _ _ (by omega)).mono ?_ | refine (part_arg _ _ _ _ (by omega) (by omega) (by omega)).mono ?_
    rintro e w1 ⟨rfl, hb⟩
    go_wp2_with (fail)
    refine (pawake_any _).mono ?_
    rintro e w2 ⟨rfl, hb2⟩
    go_wp2
    go_ret
    exact ⟨rfl, hb.trans (hb2.mono hb.size)⟩

set_option maxHeartbeats 2000000 in
set_option maxRecDepth 100000 in
theorem purseParts_yes (a p n : Int) (w : World) (h0 : 0 ≤ a) (h1 : a ≤ 1125899906842624) (g0 : 0 ≤ p) (g1 : p ≤ n) (n0 : 1 ≤ n) (n1 : n ≤ 9223372036854775807) :
    Calls Try.prog 12 #[.int .i64 a, .int .i64 p, .int .i64 n] w fun e w' => e = .returned (.bool true) ∧ Below w.heap.size w w' := by
  obtain ⟨b0, b1⟩ := Dv.part_bd h0 g0 g1 n0
  go_enter Try.func12, Try.ntmps12
  go_wp2_with (fail)
  refine (part_yes _ _ _ _ h0 h1 g0 g1 n0 n1).mono ?_
  rintro e w1 ⟨rfl, hb⟩
  go_wp2
  go_loop [9, 10, 11] (fun s t u => ∃ q r i : Int, -1 ≤ i ∧ i ≤ 50 ∧ 0 ≤ r ∧ r < n ∧ 0 ≤ q ∧ q ≤ a ∧ Hid (a / 2 ^ (i + 1).toNat * p = q * n + r) ∧ s = .int .i64 q ∧ t = .int .u64 r ∧ u = .int .i64 i) (fun _ _ u => (intOf u + 1).toNat)
  case atStart => exact ⟨0, 0, 50, by omega, by omega, by omega, by omega, by omega, by omega, Lib.hid (Dv.long_first h0 h1), rfl, rfl, rfl⟩
  case round =>
    obtain ⟨q, r, i, i0, i1, r0, r1, q0, q1, H, rfl, rfl, rfl⟩ := hrel
    by_cases hi : 0 ≤ i
    · have hn : (i + 1).toNat = i.toNat + 1 := by omega
      have hn' : (i - 1 + 1).toNat = i.toNat := by omega
      obtain ⟨y0, y1, y2⟩ := Dv.halves a i.toNat h0
      have H' := H.out
      rw [hn, y2] at H'
      clear H hn
      have HN := Lib.hid hn'
      have e0 : decide (9223372036854775808 ≤ r) = false := by simp; omega
      clear y2 hn'
      have SS := Lib.hid (fun b c => Dv.longStep _ _ _ _ _ b c H')
      clear H'
      have y2 : a / 2 ^ i.toNat % 2 = 0 ∨ a / 2 ^ i.toNat % 2 = 1 := by omega
      have t2 : (a / 2 ^ i.toNat).tmod 2 = a / 2 ^ i.toNat % 2 := Int.tmod_eq_emod_of_nonneg y0
      rcases y2 with y2 | y2
      · have e1 : (a / 2 ^ i.toNat % 2 == 1) = false := by rw [beq_eq_false_iff_ne]; omega
        have e2 : ((a / 2 ^ i.toNat).tmod 2 == 1) = false := by rw [t2]; exact e1
        clear t2
        by_cases c1 : n ≤ 2 * r
        · have T := SS.out 0 1
          rw [show 2 * (a / 2 ^ i.toNat / 2) + 0 = a / 2 ^ i.toNat by omega] at T
          have L := Dv.long_le T (by omega) g1 y0 n0
          have HT := Lib.hid (show a / 2 ^ (i - 1 + 1).toNat * p = (2 * q + 1) * n + (2 * r - n) by rw [HN.out]; omega)
          clear T SS y2
          go_wp2
          exact ⟨⟨_, _, _, by omega, by omega, by omega, by omega, by omega, by omega, HT, rfl, rfl, rfl⟩, by simp [intOf]; omega⟩
        · have T := SS.out 0 0
          rw [show 2 * (a / 2 ^ i.toNat / 2) + 0 = a / 2 ^ i.toNat by omega] at T
          have L := Dv.long_le T (by omega) g1 y0 n0
          have HT := Lib.hid (show a / 2 ^ (i - 1 + 1).toNat * p = (2 * q) * n + (2 * r) by rw [HN.out, T, Int.add_zero]; omega)
          clear T SS y2
          go_wp2
          exact ⟨⟨_, _, _, by omega, by omega, by omega, by omega, by omega, by omega, HT, rfl, rfl, rfl⟩, by simp [intOf]; omega⟩
      · have e1 : (a / 2 ^ i.toNat % 2 == 1) = true := by rw [beq_iff_eq]; omega
        have e2 : ((a / 2 ^ i.toNat).tmod 2 == 1) = true := by rw [t2]; exact e1
        clear t2
        by_cases c1 : n ≤ 2 * r
        · by_cases c2 : n - p ≤ 2 * r - n
          · have T := SS.out 1 2
            rw [show 2 * (a / 2 ^ i.toNat / 2) + 1 = a / 2 ^ i.toNat by omega] at T
            have L := Dv.long_le T (by omega) g1 y0 n0
            have HT := Lib.hid (show a / 2 ^ (i - 1 + 1).toNat * p = (2 * q + 1 + 1) * n + (2 * r - n - (n - p)) by rw [HN.out, show 2 * q + 1 + 1 = 2 * q + 2 by omega]; omega)
            clear T SS y2
            go_wp2
            exact ⟨⟨_, _, _, by omega, by omega, by omega, by omega, by omega, by omega, HT, rfl, rfl, rfl⟩, by simp [intOf]; omega⟩
          · have T := SS.out 1 1
            rw [show 2 * (a / 2 ^ i.toNat / 2) + 1 = a / 2 ^ i.toNat by omega] at T
            have L := Dv.long_le T (by omega) g1 y0 n0
            have HT := Lib.hid (show a / 2 ^ (i - 1 + 1).toNat * p = (2 * q + 1) * n + (2 * r - n + p) by rw [HN.out]; omega)
            clear T SS y2
            go_wp2
            exact ⟨⟨_, _, _, by omega, by omega, by omega, by omega, by omega, by omega, HT, rfl, rfl, rfl⟩, by simp [intOf]; omega⟩
        · by_cases c2 : n - p ≤ 2 * r
          · have T := SS.out 1 1
            rw [show 2 * (a / 2 ^ i.toNat / 2) + 1 = a / 2 ^ i.toNat by omega] at T
            have L := Dv.long_le T (by omega) g1 y0 n0
            have HT := Lib.hid (show a / 2 ^ (i - 1 + 1).toNat * p = (2 * q + 1) * n + (2 * r - (n - p)) by rw [HN.out]; omega)
            clear T SS y2
            go_wp2
            exact ⟨⟨_, _, _, by omega, by omega, by omega, by omega, by omega, by omega, HT, rfl, rfl, rfl⟩, by simp [intOf]; omega⟩
          · have T := SS.out 1 0
            rw [show 2 * (a / 2 ^ i.toNat / 2) + 1 = a / 2 ^ i.toNat by omega] at T
            have L := Dv.long_le T (by omega) g1 y0 n0
            have HT := Lib.hid (show a / 2 ^ (i - 1 + 1).toNat * p = (2 * q) * n + (2 * r + p) by rw [HN.out, T, Int.add_zero]; omega)
            clear T SS y2
            go_wp2
            exact ⟨⟨_, _, _, by omega, by omega, by omega, by omega, by omega, by omega, HT, rfl, rfl, rfl⟩, by simp [intOf]; omega⟩
    · obtain rfl : i = -1 := by omega
      have e := H.out
      rw [show ((-1 : Int) + 1).toNat = 0 from rfl, Int.pow_zero, Int.ediv_one] at e
      obtain rfl : q = a * p / n := Dv.long_end e r0 r1
      clear e H
      go_wp2_with (fail)
      refine (pawake_any _).mono ?_
      rintro e w2 ⟨rfl, hb2⟩
      go_wp2
      go_ret
      exact ⟨rfl, hb.trans (hb2.mono hb.size)⟩

theorem purseParts_walk (a0 : Int) (_ : (Lit.int .i64 a0).wf = true) (a1 : Int) (_ : (Lit.int .i64 a1).wf = true) (a2 : Int) (w2 : (Lit.int .i64 a2).wf = true) (w : World) :
    Calls Try.prog 12 #[.int .i64 a0, .int .i64 a1, .int .i64 a2] w fun e w' => e = .returned (.bool true) ∧ Below w.heap.size w w' := by
  have r2 : -9223372036854775808 ≤ a2 ∧ a2 ≤ 9223372036854775807 := by simpa [Lit.wf, IntKind.min, IntKind.max, IntKind.bits, IntKind.signed] using w2
  by_cases h : (0 ≤ a0 ∧ a0 ≤ 1125899906842624) ∧ 1 ≤ a2 ∧ 0 ≤ a1 ∧ a1 ≤ a2
  · exact purseParts_yes a0 a1 a2 w h.1.1 h.1.2 h.2.2.1 h.2.2.2 h.2.1 (by omega)
  · exact purseParts_no a0 a1 a2 w (by omega)
end Go.Proofs.Ytgocgakphncdiaa
