/-
  Plain mathematics of a division of a number of two words by one word, half a word at a time: each trial digit is too great by two at most, and the loop that lowers it stops at the right one. No conditions but those that each law names.
-/
import Derived.IntWalk
import Derived.Lib.Mul64
import Derived.Test.YtblikgbcakgdnaaGreatRows
import Derived.Lib.BitFns
import Derived.Lib.Walk
import Derived.Laws.MathBits
import Derived.Laws.BitsAllLaws
import Derived.Outline
import Derived.Test.YtblikgbcakgdnaaGreatBp01
import Derived.Test.YtblikgbcakgdnaaGreatBp02
set_option linter.unusedSimpArgs false
set_option linter.unusedVariables false
namespace Go.Proofs.YtblikgbcakgdnaaGreat.Dv

theorem spread (q v v1 v0 : Int) (hv : v = v1 * 4294967296 + v0) : q * v = q * v1 * 4294967296 + q * v0 := by
  rw [hv, Int.mul_add, Int.mul_assoc]

/-- The first guess of a digit. -/
theorem first {u v v1 v0 w : Int} (hv : v = v1 * 4294967296 + v0) (h1 : 2147483648 ≤ v1) (h2 : v1 ≤ 4294967295) (h3 : 0 ≤ v0) (h4 : v0 ≤ 4294967295) (hu : 0 ≤ u) (huv : u < v) (hw : 0 ≤ w) (hw' : w ≤ 4294967295) :
    0 ≤ u / v1 ∧ u / v1 ≤ 4294967297 ∧ 0 ≤ u - u / v1 * v1 ∧ u - u / v1 * v1 ≤ 4294967295 ∧ (u * 4294967296 + w) / v ≤ u / v1 := by
  have e := Int.mul_ediv_add_emod u v1
  have m1 := Int.emod_nonneg u (show v1 ≠ 0 by omega)
  have m2 := Int.emod_lt_of_pos u (show 0 < v1 by omega)
  have e' : v1 * (u / v1) = u / v1 * v1 := Int.mul_comm _ _
  have q0 : 0 ≤ u / v1 := Int.ediv_nonneg hu (by omega)
  have q1 : u / v1 ≤ 4294967297 := by
    have : u / v1 < 4294967298 := Int.ediv_lt_of_lt_mul (by omega) (by omega)
    omega
  refine ⟨q0, q1, by omega, by omega, ?_⟩
  have hlt : (u * 4294967296 + w) / v < u / v1 + 1 := by
    apply Int.ediv_lt_of_lt_mul (by omega)
    have s := spread (u / v1 + 1) v v1 v0 hv
    have s1 : (u / v1 + 1) * v1 = u / v1 * v1 + v1 := by rw [Int.add_mul, Int.one_mul]
    have s2 : 0 ≤ (u / v1 + 1) * v0 := Int.mul_nonneg (by omega) h3
    omega
  omega

/-- A digit that is too great, as the loop asks it. -/
theorem great {u v v1 v0 w q rh : Int} (hv : v = v1 * 4294967296 + v0) (hpos : 0 < v) (huv : u < v) (hw' : w ≤ 4294967295) (inv : q * v1 + rh = u) (h : 4294967296 ≤ q ∨ 4294967296 * rh + w < q * v0) :
    (u * 4294967296 + w) / v ≤ q - 1 := by
  have hlt : (u * 4294967296 + w) / v < q := by
    apply Int.ediv_lt_of_lt_mul hpos
    have s := spread q v v1 v0 hv
    rcases h with h | h
    · have := Int.mul_le_mul_of_nonneg_right h (show 0 ≤ v by omega)
      omega
    · omega
  omega
theorem lower {v1 q rh u : Int} (inv : q * v1 + rh = u) : (q - 1) * v1 + (rh + v1) = u := by
  rw [Int.sub_mul, Int.one_mul]; omega
/-- A digit that isn't. -/
theorem right {u v v1 v0 w q rh : Int} (hv : v = v1 * 4294967296 + v0) (hpos : 0 < v) (inv : q * v1 + rh = u) (h : q * v0 ≤ 4294967296 * rh + w) (hle : (u * 4294967296 + w) / v ≤ q) :
    q = (u * 4294967296 + w) / v := by
  have s := spread q v v1 v0 hv
  have : q ≤ (u * 4294967296 + w) / v := (Int.le_ediv_iff_mul_le hpos).2 (by omega)
  omega
/-- The loop broke off. -/
theorem broke {u v v1 v0 w q rh : Int} (hv : v = v1 * 4294967296 + v0) (h3 : 0 ≤ v0) (h4 : v0 ≤ 4294967295) (hpos : 0 < v) (hw : 0 ≤ w) (inv : q * v1 + rh = u) (hq : q ≤ 4294967296) (hr : 4294967296 ≤ rh) (hle : (u * 4294967296 + w) / v ≤ q) :
    q = (u * 4294967296 + w) / v := by
  refine right hv hpos inv ?_ hle
  have := Int.mul_le_mul_of_nonneg_right hq h3
  omega
/-- No product of the test is too great. -/
theorem small {q v0 : Int} (h0 : 0 ≤ q) (hq : q ≤ 4294967297) (h3 : 0 ≤ v0) (h4 : v0 ≤ 4294967295) : 0 ≤ q * v0 ∧ q * v0 ≤ 18446744073709551615 := by
  have a := Int.mul_le_mul_of_nonneg_right hq h3
  have b := Int.mul_nonneg h0 h3
  omega
/-- The digit's rest, and its bound. -/
theorem rest {u v w : Int} (hpos : 0 < v) (hu : 0 ≤ u) (huv : u < v) (hw : 0 ≤ w) (hw' : w ≤ 4294967295) :
    0 ≤ (u * 4294967296 + w) / v ∧ (u * 4294967296 + w) / v ≤ 4294967295 ∧ u * 4294967296 + w - (u * 4294967296 + w) / v * v = (u * 4294967296 + w) % v ∧ 0 ≤ (u * 4294967296 + w) % v ∧ (u * 4294967296 + w) % v < v := by
  have e := Int.mul_ediv_add_emod (u * 4294967296 + w) v
  have e' : v * ((u * 4294967296 + w) / v) = (u * 4294967296 + w) / v * v := Int.mul_comm _ _
  have h1 : (u * 4294967296 + w) / v < 4294967296 := Int.ediv_lt_of_lt_mul hpos (by omega)
  refine ⟨Int.ediv_nonneg (by omega) (by omega), by omega, by omega, Int.emod_nonneg _ (by omega), Int.emod_lt_of_pos _ hpos⟩
/-- Both digits together. -/
theorem both {u v w x : Int} (hpos : 0 < v) :
    (u * 4294967296 + w) / v * 4294967296 + ((u * 4294967296 + w) % v * 4294967296 + x) / v = ((u * 4294967296 + w) * 4294967296 + x) / v ∧
    ((u * 4294967296 + w) % v * 4294967296 + x) % v = ((u * 4294967296 + w) * 4294967296 + x) % v := by
  have e := Int.mul_ediv_add_emod (u * 4294967296 + w) v
  generalize (u * 4294967296 + w) / v = q at *
  generalize (u * 4294967296 + w) % v = r at *
  have h : (u * 4294967296 + w) * 4294967296 + x = (r * 4294967296 + x) + v * (q * 4294967296) := by
    rw [← e, Int.add_mul, Int.mul_assoc]; omega
  rw [h]
  constructor
  · rw [Int.add_mul_ediv_left _ _ (by omega)]; omega
  · rw [Int.add_mul_emod_self_left]

/-- The number, and what it is divided by, moved up by the same power of two. -/
theorem moved {n y p : Int} (hp : 0 < p) : n * p / (y * p) = n / y ∧ n * p % (y * p) / p = n % y := by
  constructor
  · exact Int.mul_ediv_mul_of_pos_left _ _ hp
  · rw [Int.emod_def, Int.mul_ediv_mul_of_pos_left _ _ hp, show n * p - y * p * (n / y) = (n - y * (n / y)) * p by rw [Int.sub_mul, Int.mul_right_comm], Int.mul_ediv_cancel _ (by omega), Int.emod_def]
end Go.Proofs.YtblikgbcakgdnaaGreat.Dv
/-
  Contracts of the library's words: how many bits a number wants, how many noughts are ahead of them in 64, and the product of two words in two words. No conditions but the words' own ranges.
-/
namespace Go.Proofs.YtblikgbcakgdnaaGreat
open Go.ChangeShapes Go.WideShapes Go.ChangeAt Go.RowKit

namespace Dv
theorem len_bound : ∀ (f x : Nat), x < 2 ^ f → f ≤ 64 → x < 2 ^ Lib.bitLen x ∧ (x ≠ 0 → 1 ≤ Lib.bitLen x ∧ 2 ^ (Lib.bitLen x - 1) ≤ x)
  | 0, x, h, _ => by
    have : x = 0 := by simpa using h
    subst this
    exact ⟨by decide, fun h => absurd rfl h⟩
  | f + 1, x, h, hf => by
    have h64 : x < 2 ^ 64 := Nat.lt_of_lt_of_le h (Nat.pow_le_pow_right (by decide) hf)
    by_cases h0 : x = 0
    · subst h0; exact ⟨by decide, fun h => absurd rfl h⟩
    · obtain ⟨a, b⟩ := len_bound f (x / 2) (by rw [Nat.pow_succ] at h; omega) (by omega)
      rw [Lib.bitLen_half x h0 h64]
      refine ⟨by rw [Nat.add_comm, Nat.pow_succ]; omega, fun _ => ⟨by omega, ?_⟩⟩
      by_cases h1 : x / 2 = 0
      · rw [h1]; simp [Lib.bitLen, Lib.bitLenAux]; omega
      · obtain ⟨c, d⟩ := b h1
        obtain ⟨k, hk⟩ : ∃ k, Lib.bitLen (x / 2) = k + 1 := ⟨Lib.bitLen (x / 2) - 1, by omega⟩
        rw [hk] at d ⊢
        simp only [Nat.add_sub_cancel, Nat.add_sub_cancel_left] at d ⊢
        rw [Nat.pow_succ]
        omega
/-- How far a word is moved up till its first bit is one. -/
def up (y : Int) : Nat := 64 - Lib.bitLen y.toNat
theorem up_le (y : Int) (h0 : 1 ≤ y) (h1 : y ≤ 18446744073709551615) : up y ≤ 63 ∧ 9223372036854775808 ≤ y * 2 ^ up y ∧ y * 2 ^ up y ≤ 18446744073709551615 ∧ (64 - (Lib.bitLen y.toNat : Int)) = up y := by
  have l := Lib.bitLen_le y.toNat 64 (by omega) (by omega)
  obtain ⟨a, b⟩ := len_bound 64 y.toNat (by omega) (by omega)
  obtain ⟨c, d⟩ := b (by omega)
  unfold up
  generalize Lib.bitLen y.toNat = n at *
  have hp : (2 : Nat) ^ n * 2 ^ (64 - n) = 18446744073709551616 := by rw [← Nat.pow_add, show n + (64 - n) = 64 by omega]
  have hq : (2 : Nat) ^ (n - 1) * 2 ^ (64 - n) = 9223372036854775808 := by rw [← Nat.pow_add, show n - 1 + (64 - n) = 63 by omega]
  have h2 : 0 < (2 : Nat) ^ (64 - n) := Nat.pow_pos (by decide)
  have e1 := Nat.mul_lt_mul_of_pos_right a h2
  have e2 := Nat.mul_le_mul_right (2 ^ (64 - n)) d
  have e3 : y * 2 ^ (64 - n) = ((y.toNat * 2 ^ (64 - n) : Nat) : Int) := by
    rw [Int.natCast_mul, Int.natCast_pow, Int.toNat_of_nonneg (by omega)]; rfl
  rw [e3]
  generalize y.toNat * 2 ^ (64 - n) = z at *
  omega
end Dv

theorem lz64_any (y : Int) (w : World) (h0 : 1 ≤ y) (h1 : y ≤ 18446744073709551615) :
    Calls Tryz.prog 145 #[.int .u64 y] w fun e w' => e = .returned (.int .i64 (Dv.up y)) ∧ w = w' := by
  obtain ⟨_, _, _, hu⟩ := Dv.up_le y h0 h1
  have l := Lib.bitLen_le y.toNat 64 (by omega) (by omega)
  have HU := Lib.hid hu
  clear hu
  go_enter Tryz.func145, Tryz.ntmps145
  go_wp2_with (go_at_call 146; refine (len64_any y _ (by omega) h1).mono ?_; rintro e w' ⟨rfl, rfl⟩)
  go_ret
  exact ⟨ret_int HU.out, rfl⟩

theorem Dv.low32 (z : Int) : bits .and .u64 (z % 18446744073709551616) 4294967295 = z % 18446744073709551616 % 4294967296 := and_low32 _ (by omega) (by omega)

set_option maxHeartbeats 1000000 in
set_option maxRecDepth 100000 in
theorem mul64_any (x y : Int) (w : World) (h0 : 0 ≤ x) (h1 : x ≤ 18446744073709551615) (g0 : 0 ≤ y) (g1 : y ≤ 18446744073709551615) :
    Calls Tryz.prog 143 #[.int .u64 x, .int .u64 y] w fun e w' => e = .returned (.tuple #[.int .u64 (x * y / 18446744073709551616), .int .u64 (x * y % 18446744073709551616)]) ∧ w = w' := by
  go_enter Tryz.func143, Tryz.ntmps143
  go_wp2
  simp only [IntKind.wrap_u64, and_low32 x h0 (by omega), and_low32 y g0 (by omega), Dv.low32]
  rw [mul64_arith x y h0 (by omega) g0 (by omega)]
  go_ret2
  exact ⟨rfl, rfl⟩
end Go.Proofs.YtblikgbcakgdnaaGreat
