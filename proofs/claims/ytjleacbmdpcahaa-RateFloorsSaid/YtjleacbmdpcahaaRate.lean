/-
  Contracts of the library's float functions on words without a sign, and of rate.Right. No conditions but those on the words.
-/
import Derived.Test.YtjleacbmdpcahaaRows
import Derived.Test.YtjleacbmdpcahaaOver
import Derived.Test.YtjleacbmdpcahaaFlt
import Derived.WalkLawsBesides
import Derived.Laws.Externs
import Derived.Laws.MathBits
import Derived.Laws.BitsAllLaws
namespace Go.Proofs.Ytjleacbmdpcahaa
open Go.ChangeShapes Go.WideShapes Go.ChangeAt Go.RowKit

theorem run_ofbits (n : Int) (w : World) : (callFunc 9 #[.int .u64 n]).run Try.prog w = .ok (.value (.float .f64 n.toNat)) w :=
  run_callFunc_extern Try.func9 (e := Extern.MathFloatBits.float64frombits) (by kernel_rfl) (by kernel_rfl) (by kernel_rfl) (by kernel_rfl) #[.int .u64 n] w
theorem run_bitsof (n : Nat) (w : World) : (callFunc 16 #[.float .f64 n]).run Try.prog w = .ok (.value (.int .u64 n)) w :=
  run_callFunc_extern Try.func16 (e := Extern.MathFloatBits.float64bits) (by kernel_rfl) (by kernel_rfl) (by kernel_rfl) (by kernel_rfl) #[.float .f64 n] w
attribute [simp, go_sem] run_ofbits run_bitsof

namespace Fl
theorem andNot_nat (a c : Nat) (ha : a < 18446744073709551616) (hc : c < 18446744073709551616) :
    bits .andNot .u64 (a : Int) (c : Int) = ((a &&& (18446744073709551615 - c) : Nat) : Int) := by
  have hx : a &&& (18446744073709551615 - c) < 2 ^ 64 := Nat.and_lt_two_pow _ (by omega)
  have h1 : (BitVec.ofInt 64 (a : Int)).toNat = a := by
    rw [BitVec.ofInt_natCast, BitVec.toNat_ofNat]; exact Nat.mod_eq_of_lt (by omega)
  have h2 : (~~~ BitVec.ofInt 64 (c : Int)).toNat = 18446744073709551615 - c := by
    rw [BitVec.toNat_not, BitVec.ofInt_natCast, BitVec.toNat_ofNat, Nat.mod_eq_of_lt (by omega)]
  show IntKind.u64.wrap ((BitVec.ofInt 64 (a : Int) &&& ~~~ BitVec.ofInt 64 (c : Int)).toNat : Int) = _
  rw [BitVec.toNat_and, h1, h2, IntKind.wrap_u64]
  omega
theorem andNot_sign (a : Nat) (ha : a < 18446744073709551616) : bits .andNot .u64 (a : Int) 9223372036854775808 = ((a % 9223372036854775808 : Nat) : Int) := by
  have := andNot_nat a 9223372036854775808 ha (by decide)
  rw [show ((9223372036854775808 : Nat) : Int) = 9223372036854775808 from rfl] at this
  rw [this]
  have e := Nat.and_two_pow_sub_one_eq_mod a 63
  simp only [Nat.reducePow, Nat.reduceSub] at e ⊢
  rw [e]
theorem andNot_exp (a : Nat) (ha : a < 9223372036854775808) : bits .andNot .u64 (a : Int) 9218868437227405312 = ((a % 4503599627370496 : Nat) : Int) := by
  have := andNot_nat a 9218868437227405312 (by omega) (by decide)
  rw [show ((9218868437227405312 : Nat) : Int) = 9218868437227405312 from rfl] at this
  rw [this]
  have e := Nat.and_two_pow_sub_one_eq_mod a 52
  have e2 : a &&& 2 ^ 63 = 0 := by
    rw [nat_bit, Nat.div_eq_of_lt (by omega)]
  have e3 : 18446744073709551615 - 9218868437227405312 = 2 ^ 63 ||| (2 ^ 52 - 1) := by decide
  rw [e3, Nat.and_or_distrib_left, e2, e]
  simp
theorem or_exp (a k : Nat) (ha : a < 4503599627370496) (hk : k < 2048) : bits .or .u64 (a : Int) ((k * 4503599627370496 : Nat) : Int) = ((k * 4503599627370496 + a : Nat) : Int) := by
  rw [bits_or_u64_nat _ _ (by omega) (by omega)]
  have := @Nat.two_pow_add_eq_or_of_lt 52 a (by omega) k
  rw [Nat.or_comm, Nat.mul_comm k, ← this]
theorem and_exp (a : Nat) (ha : a < 9223372036854775808) : bits .and .u64 ((a / 4503599627370496 : Nat) : Int) 2047 = ((a / 4503599627370496 : Nat) : Int) := by
  have := bits_and_u64_nat (a / 4503599627370496) 2047 (by omega) (by decide)
  rw [show ((2047 : Nat) : Int) = 2047 from rfl] at this
  rw [this]
  have e := Nat.and_two_pow_sub_one_eq_mod (a / 4503599627370496) 11
  simp only [Nat.reducePow, Nat.reduceSub] at e
  rw [e, Nat.mod_eq_of_lt (by omega)]
theorem and_exp' (a : Nat) (ha : a < 9223372036854775808) : bits .and .u64 ((a : Int) / 4503599627370496) 2047 = (a : Int) / 4503599627370496 := and_exp a ha
theorem andNot_exp' (a : Nat) (ha : a < 9223372036854775808) : bits .andNot .u64 (a : Int) 9218868437227405312 = (a : Int) % 4503599627370496 := andNot_exp a ha
theorem or_half (a : Nat) : bits .or .u64 ((a : Int) % 4503599627370496) 4602678819172646912 = (a : Int) % 4503599627370496 + 4602678819172646912 := by
  have := or_exp (a % 4503599627370496) 1022 (by omega) (by decide)
  rw [Int.natCast_emod] at this
  refine Eq.trans this ?_
  omega
end Fl

set_option maxHeartbeats 400000 in
theorem abs_pos (r : Nat) (w : World) (h : r < 9223372036854775808) :
    Calls Try.prog 26 #[.float .f64 r] w fun e w' => e = .returned (.float .f64 r) ∧ w = w' := by
  have e := Fl.andNot_sign r (by omega)
  rw [Nat.mod_eq_of_lt h] at e
  go_enter Try.func26, Try.ntmps26
  go_wp2
  go_ret
  exact ⟨rfl, rfl⟩
set_option maxHeartbeats 400000 in
theorem isInf_pos (r : Nat) (k : Int) (w : World) (h : r < 9218868437227405312) (hk : k = 1 ∨ k = 0) :
    Calls Try.prog 21 #[.float .f64 r, .int .i64 k] w fun e w' => e = .returned (.bool false) ∧ w = w' := by
  have e : (FloatKind.f64.format.order r 9218868437227405311 == some .gt) = false := by
    show (Ieee.double.order _ _ == _) = false
    by_cases g : r < 9218868437227405311
    · rw [Fl.order_lt g (by omega)]; rfl
    · rw [show r = 9218868437227405311 by omega, Fl.order_self (by decide)]; rfl
  rcases hk with rfl | rfl
  · go_enter Try.func21, Try.ntmps21
    go_wp2
    go_ret
    exact ⟨rfl, rfl⟩
  · go_enter Try.func21, Try.ntmps21
    go_wp2_with (go_at_call 26; refine (abs_pos r _ (by omega)).mono ?_; rintro e w' ⟨rfl, rfl⟩)
    go_ret
    exact ⟨rfl, rfl⟩
theorem isInf_minus (w : World) :
    Calls Try.prog 21 #[.float .f64 9223372036854775808, .int .i64 1] w fun e w' => e = .returned (.bool false) ∧ w = w' := by
  have e : (FloatKind.f64.format.order 9223372036854775808 9218868437227405311 == some .gt) = false := by
    show (Ieee.double.order _ _ == _) = false
    have c := Fl.N_lt (show 0 < 9218868437227405311 by decide)
    rw [Fl.N_zero] at c
    rw [Fl.order_noughts (by decide), Fl.cmp_lt (by omega)]
    rfl
  go_enter Try.func21, Try.ntmps21
  go_wp2
  go_ret
  exact ⟨rfl, rfl⟩
theorem isInf_inf (w : World) :
    Calls Try.prog 21 #[.float .f64 9218868437227405312, .int .i64 1] w fun e w' => e = .returned (.bool true) ∧ w = w' := by
  have e : (FloatKind.f64.format.order 9218868437227405312 9218868437227405311 == some .gt) = true := by
    show (Ieee.double.order _ _ == _) = true
    rw [Fl.order_inf (by decide)]; rfl
  go_enter Try.func21, Try.ntmps21
  go_wp2
  go_ret
  exact ⟨rfl, rfl⟩
theorem isNaN_no (r : Nat) (w : World) (h : r < 9218868437227405312) :
    Calls Try.prog 27 #[.float .f64 r] w fun e w' => e = .returned (.bool false) ∧ w = w' := by
  have e : FloatKind.f64.format.order r r = some .eq := Fl.order_self h
  go_enter Try.func27, Try.ntmps27
  go_wp2
  go_ret
  exact ⟨rfl, rfl⟩

namespace Fl
/-- May a word's number be taken so many times? -/
def ok (b : Nat) : Prop := b < 9218868437227405312 ∨ b = 9223372036854775808
theorem geq0 {b : Nat} (h : ok b) : (FloatKind.f64.format.order b 0 == some .gt || FloatKind.f64.format.order b 0 == some .eq) = true := by
  show (Ieee.double.order _ _ == _ || Ieee.double.order _ _ == _) = true
  rcases h with h | rfl
  · by_cases g : 0 < b
    · rw [order_gt g h]; rfl
    · rw [show b = 0 by omega, order_self (by decide)]; rfl
  · rw [order_noughts (by decide)]; rfl
end Fl

set_option maxHeartbeats 400000 in
theorem rright_yes (b : Nat) (w : World) (h : Fl.ok b) :
    Calls Try.prog 13 #[.float .f64 b] w fun e w' => e = .returned (.bool true) ∧ w = w' := by
  have g := Fl.geq0 h
  have k : Calls Try.prog 21 #[.float .f64 b, .int .i64 1] w fun e w' => e = .returned (.bool false) ∧ w = w' := by
    rcases h with h | rfl
    · exact isInf_pos b 1 w h (.inl rfl)
    · exact isInf_minus w
  go_enter Try.func13, Try.ntmps13
  go_wp2_with (go_at_call 21; refine k.mono ?_; rintro e w' ⟨rfl, rfl⟩)
  go_ret
  exact ⟨rfl, rfl⟩

set_option maxHeartbeats 400000 in
theorem rright_no (b : Nat) (w : World) (hb : b < 18446744073709551616) (h : ¬ Fl.ok b) :
    Calls Try.prog 13 #[.float .f64 b] w fun e w' => e = .returned (.bool false) ∧ w = w' := by
  have below (g : FloatKind.f64.format.order b 0 = some .lt ∨ FloatKind.f64.format.order b 0 = none) : Calls Try.prog 13 #[.float .f64 b] w fun e w' => e = .returned (.bool false) ∧ w = w' := by
    rcases g with g | g
    all_goals
      go_enter Try.func13, Try.ntmps13
      go_wp2
      go_ret
      exact ⟨rfl, rfl⟩
  rcases Fl.kind_of hb with g | g | ⟨g, g1⟩ | ⟨a, g, g0, g1⟩ | g | g | g
  · exact absurd (.inl (by omega)) h
  · exact absurd (.inr g) h
  · exact absurd (.inl g1) h
  · exact below (.inl (by rw [g]; exact Fl.order_neg g0 g1 (by decide)))
  · subst g
    have e : FloatKind.f64.format.order 9218868437227405312 0 = some .gt := Fl.order_inf (by decide)
    go_enter Try.func13, Try.ntmps13
    go_wp2_with (go_at_call 21; refine (isInf_inf _).mono ?_; rintro e w' ⟨rfl, rfl⟩)
    go_ret
    exact ⟨rfl, rfl⟩
  · exact below (.inl (by rw [g]; exact Fl.order_ninf (by decide)))
  · exact below (.inr (Fl.order_nan 0 g))

set_option maxHeartbeats 400000 in
theorem normalize_big (r : Nat) (w : World) (h0 : 4503599627370496 ≤ r) (h : r < 9218868437227405312) :
    Calls Try.prog 28 #[.float .f64 r] w fun e w' => e = .returned (.tuple #[.float .f64 r, .int .i64 0]) ∧ w = w' := by
  have e : (FloatKind.f64.format.order r 4503599627370496 == some .lt) = false := by
    show (Ieee.double.order _ _ == _) = false
    by_cases g : 4503599627370496 < r
    · rw [Fl.order_gt g h]; rfl
    · rw [show r = 4503599627370496 by omega, Fl.order_self (by decide)]; rfl
  go_enter Try.func28, Try.ntmps28
  go_wp2_with (go_at_call 26; refine (abs_pos r _ (by omega)).mono ?_; rintro e w' ⟨rfl, rfl⟩)
  go_ret2
  exact ⟨rfl, rfl⟩

theorem Fl.mul52 {r : Nat} (h : r < 4503599627370496) : floatBits .mul .f64 r 4841369599423283200 = some (Fl.rg r 52) := by
  refine Fl.mul_exact (by omega) (by decide) (Fl.rg_lt (by omega) (by omega)) ?_
  rw [Fl.N_rg (by omega) (by omega)]
  have e1 : Fl.N r = r := by unfold Fl.N Fl.M Fl.E; rw [if_pos h, Nat.div_eq_of_lt h]; simp
  have e2 : Fl.N 4841369599423283200 = 4503599627370496 * 2 ^ 1074 := by
    rw [show (4841369599423283200 : Nat) = 1074 * 4503599627370496 + 4503599627370496 by rfl, Fl.N_at (by decide) (by decide)]
  rw [e1, e2, show (2 : Nat) ^ 52 = 4503599627370496 by rfl, Nat.mul_assoc]

set_option maxHeartbeats 400000 in
theorem normalize_small (r : Nat) (w : World) (h0 : 0 < r) (h : r < 4503599627370496) :
    Calls Try.prog 28 #[.float .f64 r] w fun e w' => e = .returned (.tuple #[.float .f64 (Fl.rg r 52), .int .i64 (-52)]) ∧ w = w' := by
  have e : FloatKind.f64.format.order r 4503599627370496 = some .lt := Fl.order_lt h (by decide)
  have m := Fl.mul52 h
  have m2 : ∀ t w, (binOp .mul t (.float .f64 r) (.float .f64 4841369599423283200)).run Try.prog w = .ok (.float .f64 (Fl.rg r 52)) w := fun t w => run_float_arith w .mul t .f64 r 4841369599423283200 _ m
  go_enter Try.func28, Try.ntmps28
  go_wp2_with (go_at_call 26; refine (abs_pos r _ (by omega)).mono ?_; rintro e w' ⟨rfl, rfl⟩)
  go_ret2
  exact ⟨rfl, rfl⟩

namespace Fl
/-- The whole number that a word's number is halved from, and how often. -/
def Wh (r : Nat) : Nat := if r < 4503599627370496 then r * 2 ^ (52 - r.log2) else M r
def Ke (r : Nat) : Int := if r < 4503599627370496 then 1126 - r.log2 else 1075 - (r / 4503599627370496 : Nat)
theorem Wh_range {r : Nat} (h0 : 0 < r) (h : r < 9218868437227405312) : 4503599627370496 ≤ Wh r ∧ Wh r < 9007199254740992 := by
  unfold Wh
  split
  · obtain ⟨h1, h2, h3⟩ := norm_range (n := r) (by omega) (by omega)
    exact ⟨h2, h3⟩
  · unfold M; rw [if_neg (by assumption)]; omega
theorem Ke_range {r : Nat} (h0 : 0 < r) (h : r < 9218868437227405312) : -971 ≤ Ke r ∧ Ke r ≤ 1126 := by
  unfold Ke
  split
  · have : r.log2 < 52 := (Nat.log2_lt (by omega)).2 (by omega)
    omega
  · omega
theorem pow_split (a b c d : Nat) (h : a + b = c + d) : (2 : Nat) ^ a * 2 ^ b = 2 ^ c * 2 ^ d := by rw [← Nat.pow_add, ← Nat.pow_add, h]
theorem Wh_Ke' {r : Nat} (c : Nat) (hc : c = 1074) (h0 : 0 < r) : N r * 2 ^ (Ke r).toNat = Wh r * 2 ^ c * 2 ^ (-Ke r).toNat := by
  unfold Wh Ke
  split
  · rename_i h
    have hl : r.log2 < 52 := (Nat.log2_lt (by omega)).2 (by omega)
    have e1 : N r = r := by unfold N M E; rw [if_pos h, Nat.div_eq_of_lt h]; simp
    rw [e1, show (1126 - (r.log2 : Int)).toNat = 1126 - r.log2 by omega, show (-(1126 - (r.log2 : Int))).toNat = 0 by omega, Nat.pow_zero, Nat.mul_one, Nat.mul_assoc, ← Nat.pow_add]
    congr 2; omega
  · rename_i h
    have e1 : E r = r / 4503599627370496 - 1 := rfl
    unfold N
    rw [Nat.mul_assoc, Nat.mul_assoc, ← Nat.pow_add, ← Nat.pow_add]
    congr 2; omega
theorem Wh_Ke {r : Nat} (h0 : 0 < r) : N r * 2 ^ (Ke r).toNat = Wh r * 2 ^ 1074 * 2 ^ (-Ke r).toNat := Wh_Ke' 1074 rfl h0
end Fl


namespace Fl
theorem ret_fi {a b : Nat} {c d : Int} (h : a = b) (g : c = d) : Ending.returned (.tuple #[.float .f64 a, .int .i64 c]) = .returned (.tuple #[.float .f64 b, .int .i64 d]) := by rw [h, g]
theorem rg_norm {m k : Nat} (h0 : 4503599627370496 ≤ m) (h1 : m < 9007199254740992) : rg m k = k * 4503599627370496 + m := by
  have hl : m.log2 = 52 := by rw [Nat.log2_eq_iff (by omega)]; omega
  unfold rg
  rw [if_neg (by omega), hl]
  omega
theorem frexp_bits {r : Nat} (h0 : 4503599627370496 ≤ r) (h : r < 9218868437227405312) :
    ((r : Int) % 4503599627370496 + 4602678819172646912).toNat = rg (Wh r) 1021 ∧ (r : Int) / 4503599627370496 - 1023 + 1 = 53 - Ke r := by
  obtain ⟨a, b⟩ := Wh_range (by omega) h
  have e : Wh r = 4503599627370496 + r % 4503599627370496 := by unfold Wh M; rw [if_neg (by omega), if_neg (by omega)]
  rw [rg_norm a b, e]
  unfold Ke
  rw [if_neg (by omega)]
  omega
theorem small_bits {r : Nat} (h0 : 0 < r) (h : r < 4503599627370496) :
    4503599627370496 ≤ rg r 52 ∧ rg r 52 < 9218868437227405312 ∧ ((rg r 52 : Int) % 4503599627370496 + 4602678819172646912).toNat = rg (Wh r) 1021 ∧ -52 + ((rg r 52 : Int) / 4503599627370496 - 1023 + 1) = 53 - Ke r := by
  obtain ⟨a, b⟩ := Wh_range h0 (by omega)
  have hl : r.log2 < 52 := (Nat.log2_lt (by omega)).2 (by omega)
  have e : rg r 52 = r.log2 * 4503599627370496 + Wh r := by
    unfold rg Wh
    rw [if_neg (by omega), if_pos h, show 52 + r.log2 - 52 = r.log2 by omega]
  rw [rg_norm a b, e]
  unfold Ke
  rw [if_pos h]
  generalize Wh r = m at *
  generalize r.log2 = l at *
  omega
end Fl

set_option maxHeartbeats 1000000 in
theorem frexp_big (r : Nat) (w : World) (h0 : 4503599627370496 ≤ r) (h : r < 9218868437227405312) :
    Calls Try.prog 32 #[.float .f64 r] w fun e w' => e = .returned (.tuple #[.float .f64 (Fl.rg (Fl.Wh r) 1021), .int .i64 (53 - Fl.Ke r)]) ∧ w = w' := by
  have e : FloatKind.f64.format.order r 0 = some .gt := Fl.order_gt (by omega) h
  have b1 := Fl.and_exp' r (by omega)
  have b2 := Fl.andNot_exp' r (by omega)
  have b3 := Fl.or_half r
  obtain ⟨k1, k2⟩ := Fl.frexp_bits h0 h
  have K1 := Lib.hid k1
  have K2 := Lib.hid k2
  clear k1 k2
  go_enter Try.func32, Try.ntmps32
  go_wp2_with (first | (go_at_call 21; refine (isInf_pos r 0 _ h (.inr rfl)).mono ?_; rintro e w' ⟨rfl, rfl⟩) | (go_at_call 27; refine (isNaN_no r _ h).mono ?_; rintro e w' ⟨rfl, rfl⟩) | (go_at_call 28; refine (normalize_big r _ h0 h).mono ?_; rintro e w' ⟨rfl, rfl⟩))
  go_ret2
  exact ⟨Fl.ret_fi K1.out K2.out, rfl⟩

set_option maxHeartbeats 1000000 in
theorem frexp_small (r : Nat) (w : World) (h0 : 0 < r) (h : r < 4503599627370496) :
    Calls Try.prog 32 #[.float .f64 r] w fun e w' => e = .returned (.tuple #[.float .f64 (Fl.rg (Fl.Wh r) 1021), .int .i64 (53 - Fl.Ke r)]) ∧ w = w' := by
  have e : FloatKind.f64.format.order r 0 = some .gt := Fl.order_gt h0 (by omega)
  obtain ⟨j0, j1, k1, k2⟩ := Fl.small_bits h0 h
  have N := normalize_small r w h0 h
  generalize Fl.rg r 52 = q at *
  have b1 := Fl.and_exp' q (by omega)
  have b2 := Fl.andNot_exp' q (by omega)
  have b3 := Fl.or_half q
  have K1 := Lib.hid k1
  have K2 := Lib.hid k2
  clear k1 k2
  go_enter Try.func32, Try.ntmps32
  go_wp2_with (first | (go_at_call 21; refine (isInf_pos r 0 _ (by omega) (.inr rfl)).mono ?_; rintro e w' ⟨rfl, rfl⟩) | (go_at_call 27; refine (isNaN_no r _ (by omega)).mono ?_; rintro e w' ⟨rfl, rfl⟩) | (go_at_call 28; refine N.mono ?_; rintro e w' ⟨rfl, rfl⟩))
  go_ret2
  exact ⟨Fl.ret_fi K1.out K2.out, rfl⟩

set_option maxHeartbeats 1000000 in
theorem frexp_nought (b : Nat) (w : World) (h : b = 0 ∨ b = 9223372036854775808) :
    Calls Try.prog 32 #[.float .f64 b] w fun e w' => e = .returned (.tuple #[.float .f64 b, .int .i64 0]) ∧ w = w' := by
  have e : FloatKind.f64.format.order b 0 = some .eq := by
    rcases h with rfl | rfl
    · exact Fl.order_self (by decide)
    · exact Fl.order_noughts (by decide)
  clear h
  go_enter Try.func32, Try.ntmps32
  go_wp2
  go_ret2
  exact ⟨rfl, rfl⟩

theorem upFrexp (b c : Nat) (k : Int) (w : World) (h : Calls Try.prog 32 #[.float .f64 b] w fun e w' => e = .returned (.tuple #[.float .f64 c, .int .i64 k]) ∧ w = w') :
    Calls Try.prog 24 #[.float .f64 b] w fun e w' => e = .returned (.tuple #[.float .f64 c, .int .i64 k]) ∧ w = w' := by
  go_enter Try.func24, Try.ntmps24
  go_wp2_with (go_at_call 32; refine h.mono ?_; rintro e w' ⟨rfl, rfl⟩)
  go_ret2
  exact ⟨rfl, rfl⟩
end Go.Proofs.Ytjleacbmdpcahaa
