/-
  Contract of the library's division of two words by one: the quotient and the rest. No conditions but that the quotient is a word.
-/
import Derived.Lib.Hide
import Derived.Test.YtblikgbcakgdnaaGreatProg
import Derived.Test.YtblikgbcakgdnaaGreatBr02
import Derived.Test.YtblikgbcakgdnaaGreatBr04
set_option linter.unusedSimpArgs false
set_option linter.unusedVariables false
namespace Go.Proofs.YtblikgbcakgdnaaGreat
open Go.ChangeShapes Go.WideShapes Go.ChangeAt Go.RowKit

theorem ret_two {k : IntKind} {a b c d : Int} (h : a = c) (g : b = d) : Ending.returned (.tuple #[.int k a, .int k b]) = .returned (.tuple #[.int k c, .int k d]) := by rw [h, g]

set_option maxHeartbeats 1000000 in
set_option maxRecDepth 100000 in
theorem div64_low (x y : Int) (w : World) (h0 : 0 ≤ x) (h1 : x ≤ 18446744073709551615) (g0 : 1 ≤ y) (g1 : y ≤ 18446744073709551615) :
    Calls Tryz.prog 144 #[.int .u64 0, .int .u64 x, .int .u64 y] w fun e w' => e = .returned (.tuple #[.int .u64 (x / y), .int .u64 (x % y)]) ∧ Below w.heap.size w w' := by
  have e0 : (y == 0) = false := beq_eq_false_iff_ne.2 (by omega)
  have hy : decide (y ≤ 0) = false := by simp; omega
  go_enter Tryz.func144, Tryz.ntmps144
  go_wp2
  go_quiet (fail)
  go_wp2
  go_ret2
  exact ⟨rfl, Below.drewN' (by go_grown) _⟩

namespace Dv
theorem pows (s : Nat) (h : s ≤ 63) : (2 : Int) ^ s * 2 ^ (64 - s) = 18446744073709551616 ∧ 0 < (2 : Int) ^ s ∧ 0 < (2 : Int) ^ (64 - s) := by
  refine ⟨?_, Int.pow_pos (by decide), Int.pow_pos (by decide)⟩
  rw [← Int.pow_add, show s + (64 - s) = 64 by omega]; decide
theorem lifted_le {hi x y : Int} {s : Nat} (hs : s ≤ 63) (p0 : 1 ≤ hi) (p1 : hi < y) (h0 : 0 ≤ x) (h1 : x ≤ 18446744073709551615) (hy : y * 2 ^ s ≤ 18446744073709551615) :
    0 ≤ hi * 2 ^ s + x / 2 ^ (64 - s) ∧ hi * 2 ^ s + x / 2 ^ (64 - s) < y * 2 ^ s ∧ IntKind.u64.wrap (hi * 2 ^ s) = hi * 2 ^ s ∧
    bits .or .u64 (hi * 2 ^ s) (x / 2 ^ (64 - s)) = hi * 2 ^ s + x / 2 ^ (64 - s) ∧
    (hi * 18446744073709551616 + x) * 2 ^ s = ((hi * 2 ^ s + x / 2 ^ (64 - s)) * 4294967296 + x * 2 ^ s % 18446744073709551616 / 4294967296) * 4294967296 + x * 2 ^ s % 18446744073709551616 % 4294967296 := by
  obtain ⟨a, b, c⟩ := pows s hs
  have x0 : 0 ≤ x / 2 ^ (64 - s) := Int.ediv_nonneg h0 (by omega)
  have x1 : x / 2 ^ (64 - s) < 2 ^ s := Int.ediv_lt_of_lt_mul c (by omega)
  have k0 : 0 ≤ hi * 2 ^ s := Int.mul_nonneg (by omega) (by omega)
  have k1 := Int.mul_le_mul_of_nonneg_right (show hi + 1 ≤ y by omega) (show (0 : Int) ≤ 2 ^ s by omega)
  rw [Int.add_mul, Int.one_mul] at k1
  have ex := Int.mul_ediv_add_emod x (2 ^ (64 - s))
  have m0 := Int.emod_nonneg x (show (2 : Int) ^ (64 - s) ≠ 0 by omega)
  have m1 := Int.emod_lt_of_pos x c
  have l : x * 2 ^ s = x / 2 ^ (64 - s) * 18446744073709551616 + x % 2 ^ (64 - s) * 2 ^ s := by
    conv => lhs; rw [← ex, Int.add_mul, Int.mul_comm (2 ^ (64 - s)) (x / 2 ^ (64 - s)), Int.mul_assoc, Int.mul_comm (2 ^ (64 - s)) (2 ^ s), a]
  have l0 : 0 ≤ x % 2 ^ (64 - s) * 2 ^ s := Int.mul_nonneg m0 (by omega)
  have l1 : x % 2 ^ (64 - s) * 2 ^ s < 18446744073709551616 := by
    have := Int.mul_lt_mul_of_pos_right m1 b
    rw [Int.mul_comm (2 ^ (64 - s)), a] at this
    exact this
  have hor : bits .or .u64 (hi * 2 ^ s) (x / 2 ^ (64 - s)) = hi * 2 ^ s + x / 2 ^ (64 - s) := by
    rw [u64_or (hi * 2 ^ s) (x / 2 ^ (64 - s)) k0 (by omega) x0 (by omega)]
    have e1 : (hi * 2 ^ s).toNat = 2 ^ s * hi.toNat := by
      have : hi * 2 ^ s = ((2 ^ s * hi.toNat : Nat) : Int) := by rw [Int.natCast_mul, Int.natCast_pow, Int.toNat_of_nonneg (by omega), Int.mul_comm]; rfl
      omega
    have e2 : ((2 ^ s : Nat) : Int) = 2 ^ s := by rw [Int.natCast_pow]; rfl
    have e3 : (x / 2 ^ (64 - s)).toNat < 2 ^ s := by omega
    rw [e1, ← Nat.two_pow_add_eq_or_of_lt e3 hi.toNat]
    rw [Int.natCast_add, ← e1, Int.toNat_of_nonneg k0, Int.toNat_of_nonneg x0]
  have n : (hi * 18446744073709551616 + x) * 2 ^ s = hi * 2 ^ s * 18446744073709551616 + x * 2 ^ s := by rw [Int.add_mul, Int.mul_right_comm]
  rw [n]
  generalize x * 2 ^ s = xs at *
  generalize hi * 2 ^ s = hs' at *
  generalize y * 2 ^ s = ys at *
  generalize x / 2 ^ (64 - s) = xt at *
  generalize x % 2 ^ (64 - s) * 2 ^ s = xr at *
  generalize (2 : Int) ^ s = pp at *
  refine ⟨by omega, by omega, IntWalk.u64_in _ (by omega), hor, by omega⟩
theorem wrapped {a b c : Int} (h0 : 0 ≤ a * 4294967296 + b - c) (h1 : a * 4294967296 + b - c ≤ 18446744073709551615) :
    IntKind.u64.wrap (IntKind.u64.wrap (IntKind.u64.wrap (a * 4294967296) + b) - IntKind.u64.wrap c) = a * 4294967296 + b - c := by
  simp only [IntKind.wrap_u64]; omega
end Dv

set_option maxHeartbeats 2000000 in
set_option maxRecDepth 100000 in
theorem div64_high (hi x y : Int) (w : World) (h0 : 0 ≤ x) (h1 : x ≤ 18446744073709551615) (p0 : 1 ≤ hi) (p1 : hi < y) (g1 : y ≤ 18446744073709551615) :
    Calls Tryz.prog 144 #[.int .u64 hi, .int .u64 x, .int .u64 y] w fun e w' => e = .returned (.tuple #[.int .u64 ((hi * 18446744073709551616 + x) / y), .int .u64 ((hi * 18446744073709551616 + x) % y)]) ∧ Below w.heap.size w w' := by
  obtain ⟨s1, s2, s3, _⟩ := Dv.up_le y (by omega) g1
  have e0 : (y == 0) = false := beq_eq_false_iff_ne.2 (by omega)
  have e1 : (hi == 0) = false := beq_eq_false_iff_ne.2 (by omega)
  generalize hs : Dv.up y = s at *
  have HS := Lib.hid hs
  clear hs
  go_enter Tryz.func144, Tryz.ntmps144
  go_wp2_with (go_at_call 145; refine (lz64_any y _ (by omega) g1).mono ?_; rintro e w' ⟨rfl, rfl⟩; rw [HS.out])
  obtain ⟨u0, u1, l1, l2, l3⟩ := Dv.lifted_le (x := x) s1 p0 p1 h0 h1 s3
  have mv := @Dv.moved (hi * 18446744073709551616 + x) y (2 ^ s) (Dv.pows s s1).2.1
  rw [l3] at mv
  have MV := Lib.hid mv
  rw [l1, l2, and_low32 (y * 2 ^ s) (by omega) (by omega)]
  simp only [IntKind.wrap_u64 (x * 2 ^ s), Dv.low32]
  clear mv l1 l2 l3 e0 e1
  generalize hz : x * 2 ^ s % 18446744073709551616 = z at *
  generalize hu : hi * 2 ^ s + x / 2 ^ (64 - s) = u at *
  generalize hv : y * 2 ^ s = v at *
  have y1 : 0 < v := by omega
  have z0 : 0 ≤ z ∧ z ≤ 18446744073709551615 := by omega
  clear hz hu hv
  have v1 : v = v / 4294967296 * 4294967296 + v % 4294967296 := by omega
  have v2 : 2147483648 ≤ v / 4294967296 ∧ v / 4294967296 ≤ 4294967295 := by omega
  have v3 : 0 ≤ v % 4294967296 ∧ v % 4294967296 ≤ 4294967295 := by omega
  have w2 : 0 ≤ z / 4294967296 ∧ z / 4294967296 ≤ 4294967295 := by omega
  have w3 : 0 ≤ z % 4294967296 ∧ z % 4294967296 ≤ 4294967295 := by omega
  generalize v / 4294967296 = va at *
  generalize v % 4294967296 = vb at *
  generalize z / 4294967296 = wa at *
  generalize z % 4294967296 = wb at *
  clear z0
  obtain ⟨f1, f2, f3, f4, f5⟩ := Dv.first v1 v2.1 v2.2 v3.1 v3.2 u0 u1 w2.1 w2.2
  have f6 : 0 ≤ u / va * va := Int.mul_nonneg f1 (by omega)
  rw [show u.tdiv va = u / va from Int.tdiv_eq_ediv_of_nonneg u0, IntWalk.u64_in (u / va) (by omega), IntWalk.u64_in (u / va * va) (by omega), IntWalk.u64_in (u - u / va * va) (by omega)]
  obtain ⟨r1, r2, r3, r4, r5⟩ := Dv.rest (show 0 < v by omega) u0 u1 w2.1 w2.2
  have both := @Dv.both u v wa wb y1
  have hinv : u / va * va + (u - u / va * va) = u := by omega
  have HV := Lib.hid v1
  have HI := Lib.hid hinv
  generalize hQ : (u * 4294967296 + wa) / v = Q at *
  generalize hR : (u * 4294967296 + wa) % v = R at *
  have R3 := Lib.hid r3
  have W1 := Lib.hid (show IntKind.u64.wrap (IntKind.u64.wrap (IntKind.u64.wrap (u * 4294967296) + wa) - IntKind.u64.wrap (Q * v)) = R by rw [Dv.wrapped (by omega) (by omega), r3])
  obtain ⟨q1, q2, q3, q4, q5⟩ := Dv.rest y1 r4 r5 w3.1 w3.2
  have e1 := MV.out.1
  have e2 := MV.out.2
  rw [← both.1] at e1
  rw [← both.2] at e2
  generalize hQ2 : (R * 4294967296 + wb) / v = Q2 at *
  have W2 := Lib.hid (show IntKind.u64.wrap (IntKind.u64.wrap (IntKind.u64.wrap (R * 4294967296) + wb) - IntKind.u64.wrap (Q2 * v)) = (R * 4294967296 + wb) % v by rw [Dv.wrapped (by omega) (by omega), q3])
  have H2 := Lib.hid hQ2
  have E1 := Lib.hid e1
  have E2 := Lib.hid e2
  clear hQ2 q3 q4 q5 e1 e2
  have HQ := Lib.hid hQ
  clear v1 hinv r3 hQ hR both
  go_loop [15, 16] (fun t r => ∃ q rh : Int, Hid (q * va + rh = u) ∧ 0 ≤ rh ∧ rh ≤ 4294967295 ∧ 0 ≤ q ∧ q ≤ 4294967297 ∧ Q ≤ q ∧ t = .int .u64 q ∧ r = .int .u64 rh) (fun _ r => (4294967296 - intOf r).toNat)
  case atStart => exact ⟨_, _, HI, f3, f4, f1, f2, f5, rfl, rfl⟩
  case round =>
    obtain ⟨q, rh, inv, i1, i2, i3, i4, i5, rfl, rfl⟩ := hrel
    clear HI f1 f2 f3 f4 f5
    have sm := Dv.small i3 i4 v3.1 v3.2
    by_cases hg : 4294967296 ≤ q ∨ (q < 4294967296 ∧ 4294967296 * rh + wa < q * vb)
    · have lo := Dv.great HV.out y1 u1 w2.2 inv (by omega)
      rw [HQ.out] at lo
      have LW := Lib.hid (Dv.lower inv)
      clear inv
      by_cases hb : 4294967296 ≤ rh + va
      · have eq := Dv.broke HV.out v3.1 v3.2 y1 w2.1 LW.out (by omega) hb (by rw [HQ.out]; omega)
        rw [HQ.out] at eq
        obtain rfl : q = Q + 1 := by omega
        clear eq
        rcases hg with hg | ⟨hg', hg⟩
        all_goals
          go_wp2
          rw [W1.out]
          obtain ⟨f1, f2, f3, f4, f5⟩ := Dv.first HV.out v2.1 v2.2 v3.1 v3.2 r4 r5 w3.1 w3.2
          have f6 : 0 ≤ R / va * va := Int.mul_nonneg f1 (by omega)
          rw [show R.tdiv va = R / va from Int.tdiv_eq_ediv_of_nonneg r4, IntWalk.u64_in (R / va) (by omega), IntWalk.u64_in (R / va * va) (by omega), IntWalk.u64_in (R - R / va * va) (by omega)]
          have HI := Lib.hid (show R / va * va + (R - R / va * va) = R by omega)
          clear f6
          go_loop [18, 16] (fun t r => ∃ q rh : Int, Hid (q * va + rh = R) ∧ 0 ≤ rh ∧ rh ≤ 4294967295 ∧ 0 ≤ q ∧ q ≤ 4294967297 ∧ Q2 ≤ q ∧ t = .int .u64 q ∧ r = .int .u64 rh) (fun _ r => (4294967296 - intOf r).toNat)
          case atStart => exact ⟨_, _, HI, f3, f4, f1, f2, by rw [← H2.out]; exact f5, rfl, rfl⟩
          case round =>
            obtain ⟨q, rh, inv, i1, i2, i3, i4, i5, rfl, rfl⟩ := hrel
            clear HI f1 f2 f3 f4 f5
            have sm := Dv.small i3 i4 v3.1 v3.2
            by_cases hg : 4294967296 ≤ q ∨ (q < 4294967296 ∧ 4294967296 * rh + wb < q * vb)
            · have lo := Dv.great HV.out y1 r5 w3.2 inv (by omega)
              rw [H2.out] at lo
              have LW := Lib.hid (Dv.lower inv)
              clear inv
              by_cases hb : 4294967296 ≤ rh + va
              · have eq := Dv.broke HV.out v3.1 v3.2 y1 w3.1 LW.out (by omega) hb (by rw [H2.out]; omega)
                rw [H2.out] at eq
                obtain rfl : q = Q2 + 1 := by omega
                clear eq
                rcases hg with hg | ⟨hg', hg⟩
                all_goals
                  go_wp2
                  rw [W2.out]
                  go_ret2
                  exact ⟨ret_two E1.out E2.out, by go_grown⟩
              · rcases hg with hg | ⟨hg', hg⟩
                all_goals
                  go_wp2
                  go_round
                  case rel => exact ⟨q - 1, rh + va, LW, by omega, by omega, by omega, by omega, by omega, rfl, rfl⟩
                  case measure => simp [intOf]; omega
            · have eq := Dv.right HV.out y1 inv (show q * vb ≤ 4294967296 * rh + wb by omega) (by rw [H2.out]; exact i5)
              rw [H2.out] at eq
              obtain rfl : q = Q2 := eq
              have g1 : q < 4294967296 := by omega
              have g2 : q * vb ≤ 4294967296 * rh + wb := by omega
              clear hg inv
              go_wp2
              rw [W2.out]
              go_ret2
              exact ⟨ret_two E1.out E2.out, by go_grown⟩
      · rcases hg with hg | ⟨hg', hg⟩
        all_goals
          go_wp2
          go_round
          case rel => exact ⟨q - 1, rh + va, LW, by omega, by omega, by omega, by omega, by omega, rfl, rfl⟩
          case measure => simp [intOf]; omega
    · have eq := Dv.right HV.out y1 inv (show q * vb ≤ 4294967296 * rh + wa by omega) (by rw [HQ.out]; exact i5)
      rw [HQ.out] at eq
      obtain rfl : q = Q := eq
      have g1 : q < 4294967296 := by omega
      have g2 : q * vb ≤ 4294967296 * rh + wa := by omega
      clear hg inv
      go_wp2
      rw [W1.out]
      obtain ⟨f1, f2, f3, f4, f5⟩ := Dv.first HV.out v2.1 v2.2 v3.1 v3.2 r4 r5 w3.1 w3.2
      have f6 : 0 ≤ R / va * va := Int.mul_nonneg f1 (by omega)
      rw [show R.tdiv va = R / va from Int.tdiv_eq_ediv_of_nonneg r4, IntWalk.u64_in (R / va) (by omega), IntWalk.u64_in (R / va * va) (by omega), IntWalk.u64_in (R - R / va * va) (by omega)]
      have HI := Lib.hid (show R / va * va + (R - R / va * va) = R by omega)
      clear f6
      go_loop [18, 16] (fun t r => ∃ q rh : Int, Hid (q * va + rh = R) ∧ 0 ≤ rh ∧ rh ≤ 4294967295 ∧ 0 ≤ q ∧ q ≤ 4294967297 ∧ Q2 ≤ q ∧ t = .int .u64 q ∧ r = .int .u64 rh) (fun _ r => (4294967296 - intOf r).toNat)
      case atStart => exact ⟨_, _, HI, f3, f4, f1, f2, by rw [← H2.out]; exact f5, rfl, rfl⟩
      case round =>
        obtain ⟨q, rh, inv, i1, i2, i3, i4, i5, rfl, rfl⟩ := hrel
        clear HI f1 f2 f3 f4 f5
        have sm := Dv.small i3 i4 v3.1 v3.2
        by_cases hg : 4294967296 ≤ q ∨ (q < 4294967296 ∧ 4294967296 * rh + wb < q * vb)
        · have lo := Dv.great HV.out y1 r5 w3.2 inv (by omega)
          rw [H2.out] at lo
          have LW := Lib.hid (Dv.lower inv)
          clear inv
          by_cases hb : 4294967296 ≤ rh + va
          · have eq := Dv.broke HV.out v3.1 v3.2 y1 w3.1 LW.out (by omega) hb (by rw [H2.out]; omega)
            rw [H2.out] at eq
            obtain rfl : q = Q2 + 1 := by omega
            clear eq
            rcases hg with hg | ⟨hg', hg⟩
            all_goals
              go_wp2
              rw [W2.out]
              go_ret2
              exact ⟨ret_two E1.out E2.out, by go_grown⟩
          · rcases hg with hg | ⟨hg', hg⟩
            all_goals
              go_wp2
              go_round
              case rel => exact ⟨q - 1, rh + va, LW, by omega, by omega, by omega, by omega, by omega, rfl, rfl⟩
              case measure => simp [intOf]; omega
        · have eq := Dv.right HV.out y1 inv (show q * vb ≤ 4294967296 * rh + wb by omega) (by rw [H2.out]; exact i5)
          rw [H2.out] at eq
          obtain rfl : q = Q2 := eq
          have g1 : q < 4294967296 := by omega
          have g2 : q * vb ≤ 4294967296 * rh + wb := by omega
          clear hg inv
          go_wp2
          rw [W2.out]
          go_ret2
          exact ⟨ret_two E1.out E2.out, by go_grown⟩

theorem div64_any (hi x y : Int) (w : World) (h0 : 0 ≤ x) (h1 : x ≤ 18446744073709551615) (p0 : 0 ≤ hi) (p1 : hi < y) (g1 : y ≤ 18446744073709551615) :
    Calls Tryz.prog 144 #[.int .u64 hi, .int .u64 x, .int .u64 y] w fun e w' => e = .returned (.tuple #[.int .u64 ((hi * 18446744073709551616 + x) / y), .int .u64 ((hi * 18446744073709551616 + x) % y)]) ∧ Below w.heap.size w w' := by
  by_cases h : hi = 0
  · subst h
    rw [Int.zero_mul, Int.zero_add]
    exact div64_low x y w h0 h1 (by omega) g1
  · exact div64_high hi x y w h0 h1 (by omega) p1 g1
end Go.Proofs.YtblikgbcakgdnaaGreat
/-
  Contracts of package purse but for its list: what may be, sums, differences, parts, shares. No conditions but the numbers' own ranges.
-/
namespace Go.Proofs.YtblikgbcakgdnaaGreat
open Go.ChangeShapes Go.WideShapes Go.ChangeAt Go.RowKit

namespace Dv
theorem part_bd {a p w : Int} (h0 : 0 ≤ a) (h1 : 0 ≤ p) (h2 : p ≤ w) (h3 : 1 ≤ w) : 0 ≤ a * p / w ∧ a * p / w ≤ a := by
  have e := Int.mul_nonneg h0 h1
  have f := Int.mul_le_mul_of_nonneg_left h2 h0
  refine ⟨Int.ediv_nonneg e (by omega), ?_⟩
  have : a * p / w < a + 1 := by
    apply Int.ediv_lt_of_lt_mul (by omega)
    rw [Int.add_mul, Int.one_mul]; omega
  omega
theorem words {a p w : Int} (h0 : 0 ≤ a) (h4 : a ≤ 1125899906842624) (h1 : 0 ≤ p) (h2 : p ≤ w) (h3 : 1 ≤ w) :
    0 ≤ a * p / 18446744073709551616 ∧ a * p / 18446744073709551616 < w ∧ 0 ≤ a * p % 18446744073709551616 ∧ a * p % 18446744073709551616 ≤ 18446744073709551615 ∧
    (a * p / 18446744073709551616 * 18446744073709551616 + a * p % 18446744073709551616) / w = a * p / w := by
  have e := Int.mul_nonneg h0 h1
  have f := Int.mul_le_mul_of_nonneg_left h2 h0
  have g := Int.mul_le_mul_of_nonneg_right h4 (show 0 ≤ w by omega)
  generalize a * p = x at *
  generalize a * w = y at *
  refine ⟨by omega, by omega, by omega, by omega, by rw [show x / 18446744073709551616 * 18446744073709551616 + x % 18446744073709551616 = x by omega]⟩
theorem all {a w : Int} (h3 : 1 ≤ w) : a * w / w = a := Int.mul_ediv_cancel _ (by omega)
end Dv

set_option maxHeartbeats 400000 in
theorem pright_yes (n : Int) (w : World) (h : -1125899906842624 ≤ n ∧ n ≤ 1125899906842624) :
    Calls Tryz.prog 124 #[.int .i64 n] w fun e w' => e = .returned (.bool true) ∧ w = w' := by
  obtain ⟨h0, h1⟩ := h
  go_enter Tryz.func124, Tryz.ntmps124
  go_wp2
  go_ret
  exact ⟨rfl, rfl⟩
set_option maxHeartbeats 400000 in
theorem partable_yes (n : Int) (w : World) (h0 : 0 ≤ n) (h1 : n ≤ 1125899906842624) :
    Calls Tryz.prog 139 #[.int .i64 n] w fun e w' => e = .returned (.bool true) ∧ w = w' := by
  go_enter Tryz.func139, Tryz.ntmps139
  go_wp2_with (go_at_call 124; refine (pright_yes _ _ (by omega)).mono ?_; rintro e w' ⟨rfl, rfl⟩)
  go_ret
  exact ⟨rfl, rfl⟩
set_option maxHeartbeats 1000000 in
theorem scaled_any (a p n : Int) (w : World) (h0 : 0 ≤ a) (h1 : a ≤ 1125899906842624) (g0 : 0 ≤ p) (g1 : p ≤ n) (n0 : 1 ≤ n) (n1 : n ≤ 9223372036854775807) :
    Calls Tryz.prog 140 #[.int .i64 a, .int .i64 p, .int .i64 n] w fun e w' => e = .returned (.int .i64 (a * p / n)) ∧ Below w.heap.size w w' := by
  obtain ⟨b0, b1⟩ := Dv.part_bd h0 g0 g1 n0
  obtain ⟨c0, c1, c2, c3, c4⟩ := Dv.words h0 h1 g0 g1 n0
  have C4 := Lib.hid c4
  clear c4
  go_enter Tryz.func140, Tryz.ntmps140
  go_wp2_with (go_at_call 143; refine (mul64_any a p _ h0 (by omega) g0 (by omega)).mono ?_; rintro e w' ⟨rfl, rfl⟩)
  refine (div64_any _ _ _ _ c2 c3 c0 c1 (by omega)).mono ?_
  rintro e w1 ⟨rfl, hb⟩
  rw [C4.out]
  go_wp2
  go_ret
  exact ⟨rfl, hb⟩

theorem part_yes (a p n : Int) (w : World) (h0 : 0 ≤ a) (h1 : a ≤ 1125899906842624) (g0 : 0 ≤ p) (g1 : p ≤ n) (n0 : 1 ≤ n) (n1 : n ≤ 9223372036854775807) :
    Calls Tryz.prog 134 #[.int .i64 a, .int .i64 p, .int .i64 n] w fun e w' => e = .returned (.tuple #[.int .i64 (a * p / n), .int .i64 0]) ∧ Below w.heap.size w w' := by
  have t : decide (n < 1) = false := by simp; omega
  have t' : decide (p < 0) = false := by simp; omega
  have t'' : decide (n < p) = false := by simp; omega
  go_enter Tryz.func134, Tryz.ntmps134
  go_wp2_with (go_at_call 139; refine (partable_yes _ _ h0 h1).mono ?_; rintro e w' ⟨rfl, rfl⟩)
  refine (scaled_any _ _ _ _ h0 h1 g0 g1 n0 n1).mono ?_
  rintro e w1 ⟨rfl, hb⟩
  go_wp2
  go_ret2
  exact ⟨rfl, hb⟩

theorem add_yes (a b : Int) (w : World) (ha : -1125899906842624 ≤ a ∧ a ≤ 1125899906842624) (hb : -1125899906842624 ≤ b ∧ b ≤ 1125899906842624) (hs : -1125899906842624 ≤ a + b ∧ a + b ≤ 1125899906842624) :
    Calls Tryz.prog 129 #[.int .i64 a, .int .i64 b] w fun e w' => e = .returned (.tuple #[.int .i64 (a + b), .int .i64 0]) ∧ w = w' := by
  go_enter Tryz.func129, Tryz.ntmps129
  go_wp2_with (go_at_call 124; refine (pright_yes _ _ (by omega)).mono ?_; rintro e w' ⟨rfl, rfl⟩)
  go_ret2
  exact ⟨rfl, rfl⟩
theorem less_yes (a b : Int) (w : World) (ha : -1125899906842624 ≤ a ∧ a ≤ 1125899906842624) (hb : -1125899906842624 ≤ b ∧ b ≤ 1125899906842624) (hs : -1125899906842624 ≤ a - b ∧ a - b ≤ 1125899906842624) :
    Calls Tryz.prog 110 #[.int .i64 a, .int .i64 b] w fun e w' => e = .returned (.tuple #[.int .i64 (a - b), .int .i64 0]) ∧ w = w' := by
  go_enter Tryz.func110, Tryz.ntmps110
  go_wp2_with (go_at_call 124; refine (pright_yes _ _ (by omega)).mono ?_; rintro e w' ⟨rfl, rfl⟩)
  go_ret2
  exact ⟨rfl, rfl⟩
end Go.Proofs.YtblikgbcakgdnaaGreat
/-
  Contracts of season.Right and of package plan's Right; which plans may be; remainders of words without a sign. No conditions.
-/
namespace Go.Proofs.YtblikgbcakgdnaaGreat
set_option maxRecDepth 20000
open Go.ChangeShapes Go.WideShapes Go.ChangeAt Go.RowKit

namespace Pn
/-- May a plan be? -/
def right (a u e t : Int) : Int := if 3 < u ∨ e < 1 ∨ 1000 < e ∨ t < 0 ∨ 1000 < t then 1 else if a < 0 ∨ 1073741824 < a then 9 else 0
/-- The ways that a plan can go. -/
theorem ways {P : Prop} (a u e t : Int) (h1 : 3 < u → P) (h2 : u ≤ 3 → e < 1 → P) (h3 : u ≤ 3 → 1 ≤ e → 1000 < e → P) (h4 : u ≤ 3 → 1 ≤ e → e ≤ 1000 → t < 0 → P) (h5 : u ≤ 3 → 1 ≤ e → e ≤ 1000 → 0 ≤ t → 1000 < t → P)
    (h6 : u ≤ 3 → 1 ≤ e → e ≤ 1000 → 0 ≤ t → t ≤ 1000 → a < 0 → P) (h7 : u ≤ 3 → 1 ≤ e → e ≤ 1000 → 0 ≤ t → t ≤ 1000 → 0 ≤ a → 1073741824 < a → P) (h8 : u ≤ 3 → 1 ≤ e → e ≤ 1000 → 0 ≤ t → t ≤ 1000 → 0 ≤ a → a ≤ 1073741824 → P) : P := by
  by_cases c1 : 3 < u
  · exact h1 c1
  by_cases c2 : e < 1
  · exact h2 (by omega) c2
  by_cases c3 : 1000 < e
  · exact h3 (by omega) (by omega) c3
  by_cases c4 : t < 0
  · exact h4 (by omega) (by omega) (by omega) c4
  by_cases c5 : 1000 < t
  · exact h5 (by omega) (by omega) (by omega) (by omega) c5
  by_cases c6 : a < 0
  · exact h6 (by omega) (by omega) (by omega) (by omega) (by omega) c6
  by_cases c7 : 1073741824 < a
  · exact h7 (by omega) (by omega) (by omega) (by omega) (by omega) (by omega) c7
  · exact h8 (by omega) (by omega) (by omega) (by omega) (by omega) (by omega) (by omega)
end Pn

set_option maxHeartbeats 400000 in
theorem sright_yes (u e : Int) (w : World) (h : u ≤ 3) (h1 : 1 ≤ e) (h2 : e ≤ 1000) :
    Calls Tryz.prog 53 #[.int .u8 u, .int .i64 e] w fun e w' => e = .returned (.bool true) ∧ w = w' := by
  go_enter Tryz.func53, Tryz.ntmps53
  go_wp2
  go_ret
  exact ⟨rfl, rfl⟩
set_option maxHeartbeats 400000 in
theorem sright_no (u e : Int) (w : World) (h : 3 < u ∨ u ≤ 3 ∧ e < 1 ∨ u ≤ 3 ∧ 1 ≤ e ∧ 1000 < e) :
    Calls Tryz.prog 53 #[.int .u8 u, .int .i64 e] w fun e w' => e = .returned (.bool false) ∧ w = w' := by
  rcases h with h | ⟨g, h⟩ | ⟨g, k, h⟩
  · have t : decide (u ≤ 3) = false := by simp; omega
    go_enter Tryz.func53, Tryz.ntmps53
    go_wp2
    go_ret
    exact ⟨rfl, rfl⟩
  · have t : decide (1 ≤ e) = false := by simp; omega
    go_enter Tryz.func53, Tryz.ntmps53
    go_wp2
    go_ret
    exact ⟨rfl, rfl⟩
  · have t : decide (e ≤ 1000) = false := by simp; omega
    go_enter Tryz.func53, Tryz.ntmps53
    go_wp2
    go_ret
    exact ⟨rfl, rfl⟩

set_option maxHeartbeats 1000000 in
theorem plright_any (a u e t : Int) (g l : Bool) (w : World) :
    Calls Tryz.prog 25 #[.agg #[.int .i64 a, .int .u8 u, .int .i64 e, .int .i64 t, .bool g, .bool l]] w fun x w' => x = .returned (.int .i64 (Pn.right a u e t)) ∧ Below w.heap.size w w' := by
  refine Pn.ways a u e t ?_ ?_ ?_ ?_ ?_ ?_ ?_ ?_
  all_goals
    intros
    first | (rw [show Pn.right a u e t = 1 by unfold Pn.right; rw [if_pos (by omega)]]) | (rw [show Pn.right a u e t = 9 by unfold Pn.right; rw [if_neg (by omega), if_pos (by omega)]]) | (rw [show Pn.right a u e t = 0 by unfold Pn.right; rw [if_neg (by omega), if_neg (by omega)]])
    try have d1 : decide (t < 0) = false := by simp; omega
    try have d2 : decide (t < 0) = true := by simp; omega
    try have d3 : decide (1000 < t) = false := by simp; omega
    try have d4 : decide (1000 < t) = true := by simp; omega
    try have d5 : decide (a < 0) = false := by simp; omega
    try have d6 : decide (a < 0) = true := by simp; omega
    try have d7 : decide (1073741824 < a) = false := by simp; omega
    try have d8 : decide (1073741824 < a) = true := by simp; omega
    go_enter Tryz.func25, Tryz.ntmps25
    go_wp2_with (go_at_call 53; (first | refine (sright_yes _ _ _ (by omega) (by omega) (by omega)).mono ?_ | refine (sright_no _ _ _ (by omega)).mono ?_); rintro e w' ⟨rfl, rfl⟩)
    go_ret
    exact ⟨rfl, by go_grown⟩

end Go.Proofs.YtblikgbcakgdnaaGreat
/-
  Contracts of package plan's Right and Change, of the law's own look at what may be, and of the law's plan that may be. No conditions.
-/
namespace Go.Proofs.YtblikgbcakgdnaaGreat
set_option maxRecDepth 20000
open Go.ChangeShapes Go.WideShapes Go.ChangeAt Go.RowKit


/-- Change: both parts. -/
theorem change_yes (a b p n u e t u' e' t' : Int) (g l g' l' : Bool) (w : World) (ha : 0 ≤ a) (ha1 : a ≤ 1125899906842624) (hb : 0 ≤ b) (hb1 : b ≤ 1125899906842624) (g0 : 0 ≤ p) (g1 : p ≤ n) (n0 : 1 ≤ n) (n1 : n ≤ 9223372036854775807) :
    Calls Tryz.prog 128 #[.agg #[.int .i64 a, .int .u8 u, .int .i64 e, .int .i64 t, .bool g, .bool l], .agg #[.int .i64 b, .int .u8 u', .int .i64 e', .int .i64 t', .bool g', .bool l'], .int .i64 p, .int .i64 n] w
      fun x w' => x = .returned (.tuple #[.int .i64 (a * p / n), .int .i64 (b * p / n), .int .i64 0]) ∧ Below w.heap.size w w' := by
  go_enter Tryz.func128, Tryz.ntmps128
  go_wp2_with (fail)
  refine (part_yes _ _ _ _ ha ha1 g0 g1 n0 n1).mono ?_
  rintro x w1 ⟨rfl, hb1'⟩
  obtain ⟨hw, z0, z1, e1⟩ := two_of hb1'
  rw [e1]
  have HW := Lib.hid hw
  clear hw e1 hb1'
  go_wp2_with (fail)
  refine (part_yes _ _ _ _ hb hb1 g0 g1 n0 n1).mono ?_
  rintro x w2 ⟨rfl, hb2⟩
  have hw2 := (two_again HW.out z1 hb2).1
  clear hb2
  go_wp2
  go_ret3
  exact ⟨rfl, hw2⟩
end Go.Proofs.YtblikgbcakgdnaaGreat
