/-
  Contracts of the library's words: how many bits a number wants, how many noughts are ahead of them in 64, and the product of two words in two words. No conditions but the words' own ranges.
-/
import Derived.Test.YtcgglphphdpplaaRows
import Derived.Test.YtcgglphphdpplaaOver
import Derived.Test.YtcgglphphdpplaaLen64
import Derived.Test.YtcgglphphdpplaaDiv
import Derived.Lib.BitFns
import Derived.Lib.Walk
import Derived.Laws.MathBits
import Derived.Laws.BitsAllLaws
import Derived.Outline
namespace Go.Proofs.Ytcgglphphdpplaa
open Go.ChangeShapes Go.WideShapes Go.ChangeAt Go.RowKit

namespace Dv
theorem len_bound : ∀ (f x : Nat), x < 2 ^ f → f ≤ 64 → x < 2 ^ Lib.bitLen x ∧ (x ≠ 0 → 1 ≤ Lib.bitLen x ∧ 2 ^ (Lib.bitLen x - 1) ≤ x)
  | 0, x, h, _ => by
    have : x = 0 := by simpa using h
    subst this
    exact ⟨by decide, fun h => absurd rfl h⟩
  | f + 1, x, h, hf => by
    have h64 : x < 2 ^ 64 := Nat.lt_of_lt_of_le h (Nat.pow_le_pow_right (by decide) hf)
    by_cases h0 : x = 0
    · subst h0; exact ⟨by decide, fun h => absurd rfl h⟩
    · obtain ⟨a, b⟩ := len_bound f (x / 2) (by rw [Nat.pow_succ] at h; omega) (by omega)
      rw [Lib.bitLen_half x h0 h64]
      refine ⟨by rw [Nat.add_comm, Nat.pow_succ]; omega, fun _ => ⟨by omega, ?_⟩⟩
      by_cases h1 : x / 2 = 0
      · rw [h1]; simp [Lib.bitLen, Lib.bitLenAux]; omega
      · obtain ⟨c, d⟩ := b h1
        obtain ⟨k, hk⟩ : ∃ k, Lib.bitLen (x / 2) = k + 1 := ⟨Lib.bitLen (x / 2) - 1, by omega⟩
        rw [hk] at d ⊢
        simp only [Nat.add_sub_cancel, Nat.add_sub_cancel_left] at d ⊢
        rw [Nat.pow_succ]
        omega
/-- How far a word is moved up till its first bit is one. -/
def up (y : Int) : Nat := 64 - Lib.bitLen y.toNat
theorem up_le (y : Int) (h0 : 1 ≤ y) (h1 : y ≤ 18446744073709551615) : up y ≤ 63 ∧ 9223372036854775808 ≤ y * 2 ^ up y ∧ y * 2 ^ up y ≤ 18446744073709551615 ∧ (64 - (Lib.bitLen y.toNat : Int)) = up y := by
  have l := Lib.bitLen_le y.toNat 64 (by omega) (by omega)
  obtain ⟨a, b⟩ := len_bound 64 y.toNat (by omega) (by omega)
  obtain ⟨c, d⟩ := b (by omega)
  unfold up
  generalize Lib.bitLen y.toNat = n at *
  have hp : (2 : Nat) ^ n * 2 ^ (64 - n) = 18446744073709551616 := by rw [← Nat.pow_add, show n + (64 - n) = 64 by omega]
  have hq : (2 : Nat) ^ (n - 1) * 2 ^ (64 - n) = 9223372036854775808 := by rw [← Nat.pow_add, show n - 1 + (64 - n) = 63 by omega]
  have h2 : 0 < (2 : Nat) ^ (64 - n) := Nat.pow_pos (by decide)
  have e1 := Nat.mul_lt_mul_of_pos_right a h2
  have e2 := Nat.mul_le_mul_right (2 ^ (64 - n)) d
  have e3 : y * 2 ^ (64 - n) = ((y.toNat * 2 ^ (64 - n) : Nat) : Int) := by
    rw [Int.natCast_mul, Int.natCast_pow, Int.toNat_of_nonneg (by omega)]; rfl
  rw [e3]
  generalize y.toNat * 2 ^ (64 - n) = z at *
  omega
end Dv

theorem lz64_any (y : Int) (w : World) (h0 : 1 ≤ y) (h1 : y ≤ 18446744073709551615) :
    Calls Try.prog 100 #[.int .u64 y] w fun e w' => e = .returned (.int .i64 (Dv.up y)) ∧ w = w' := by
  obtain ⟨_, _, _, hu⟩ := Dv.up_le y h0 h1
  have l := Lib.bitLen_le y.toNat 64 (by omega) (by omega)
  have HU := Lib.hid hu
  clear hu
  go_enter Try.func100, Try.ntmps100
  go_wp2_with (go_at_call 101; refine (len64_any y _ (by omega) h1).mono ?_; rintro e w' ⟨rfl, rfl⟩)
  go_ret
  exact ⟨ret_int HU.out, rfl⟩

theorem Dv.low32 (z : Int) : bits .and .u64 (z % 18446744073709551616) 4294967295 = z % 18446744073709551616 % 4294967296 := and_low32 _ (by omega) (by omega)

set_option maxHeartbeats 1000000 in
set_option maxRecDepth 100000 in
theorem mul64_any (x y : Int) (w : World) (h0 : 0 ≤ x) (h1 : x ≤ 18446744073709551615) (g0 : 0 ≤ y) (g1 : y ≤ 18446744073709551615) :
    Calls Try.prog 97 #[.int .u64 x, .int .u64 y] w fun e w' => e = .returned (.tuple #[.int .u64 (x * y / 18446744073709551616), .int .u64 (x * y % 18446744073709551616)]) ∧ w = w' := by
  go_enter Try.func97, Try.ntmps97
  go_wp2
  simp only [IntKind.wrap_u64, and_low32 x h0 (by omega), and_low32 y g0 (by omega), Dv.low32]
  rw [mul64_arith x y h0 (by omega) g0 (by omega)]
  go_ret2
  exact ⟨rfl, rfl⟩
end Go.Proofs.Ytcgglphphdpplaa
