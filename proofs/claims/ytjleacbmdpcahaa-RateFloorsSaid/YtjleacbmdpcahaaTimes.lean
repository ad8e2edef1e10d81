/-
  Contracts of package rate: a float as a whole number that is halved, and an amount taken so many times. No conditions but those on the words and amounts.
-/
import Derived.Test.YtjleacbmdpcahaaRate
import Derived.Lib.BitFns
import Derived.Lib.Walk
import Derived.Outline
namespace Go.Proofs.Ytjleacbmdpcahaa
open Go.ChangeShapes Go.WideShapes Go.ChangeAt Go.RowKit

namespace Fl
theorem mul_pow (m a b c d e : Nat) (h : a + (b + c) = d + e) : m * 2 ^ a * (2 ^ b * 2 ^ c) = m * 2 ^ d * 2 ^ e := by
  rw [Nat.mul_assoc, Nat.mul_assoc, ← Nat.pow_add, ← Nat.pow_add, ← Nat.pow_add, h]
theorem N_pow (e : Nat) : N (e * 4503599627370496 + 4503599627370496) = 2 ^ 52 * 2 ^ e := N_at (by decide) (by decide)
theorem half_at {m : Nat} (a c d q : Nat) (hq : q = c * 4503599627370496 + 4503599627370496) (hd : c = d + 1) (ha : a + 53 = d) : m * 2 ^ a * N q = m * 2 ^ d * 2 ^ d := by
  subst hq
  rw [N_pow]
  exact mul_pow m _ _ _ _ _ (by omega)
theorem mul_half {m : Nat} (h1 : m < 9007199254740992) : floatBits .mul .f64 (rg m 1021) 4845873199050653696 = some (rg m 1074) := by
  refine mul_exact (rg_lt h1 (by omega)) (by decide) (rg_lt h1 (by omega)) ?_
  rw [N_rg h1 (by omega), N_rg h1 (by omega)]
  exact half_at 1021 1075 1074 _ rfl rfl rfl
theorem to_u64 {m : Nat} (h1 : m < 9007199254740992) : floatToIntVal .f64 (rg m 1074) .u64 = some (m : Int) := by
  have e := toInt_exact (n := m) (rg_lt (k := 1074) h1 (by omega)) (N_rg h1 (by omega))
  unfold floatToIntVal
  rw [show FloatKind.decode .f64 (rg m 1074) = Ieee.double.read (rg m 1074) from rfl, e]
  have : IntKind.u64.min ≤ (m : Int) ∧ (m : Int) ≤ IntKind.u64.max := by
    rw [show IntKind.u64.min = 0 from rfl, show IntKind.u64.max = 18446744073709551615 from rfl]; omega
  simp only [this, and_self, if_true]
theorem ret_uk {a : Int} {c d : Int} (g : c = d) : Ending.returned (.tuple #[.int .u64 a, .int .i64 c]) = .returned (.tuple #[.int .u64 a, .int .i64 d]) := by rw [g]
end Fl

set_option maxHeartbeats 1000000 in
theorem taken_any (r : Nat) (w : World) (h0 : 0 < r) (h : r < 9218868437227405312) :
    Calls Try.prog 18 #[.float .f64 r] w fun e w' => e = .returned (.tuple #[.int .u64 (Fl.Wh r), .int .i64 (Fl.Ke r)]) ∧ w = w' := by
  obtain ⟨a0, a1⟩ := Fl.Wh_range h0 h
  obtain ⟨b0, b1⟩ := Fl.Ke_range h0 h
  have F := upFrexp r _ _ w (if c : r < 4503599627370496 then frexp_small r w h0 c else frexp_big r w (by omega) h)
  have m := Fl.mul_half a1
  have c := Fl.to_u64 a1
  have m2 : ∀ t w, (binOp .mul t (.float .f64 (Fl.rg (Fl.Wh r) 1021)) (.float .f64 4845873199050653696)).run Try.prog w = .ok (.float .f64 (Fl.rg (Fl.Wh r) 1074)) w := fun t w => run_float_arith w .mul t .f64 _ 4845873199050653696 _ m
  have m3 : ∀ w, (convert 23 22 (.float .f64 (Fl.rg (Fl.Wh r) 1074))).run Try.prog w = .ok (.int .u64 (Fl.Wh r)) w := fun w => run_convert_float_int w _ _ .f64 .u64 _ _ (by kernel_rfl) (by kernel_rfl) c
  clear m c
  generalize Fl.Ke r = k at *
  generalize Fl.rg (Fl.Wh r) 1021 = q at *
  generalize Fl.rg (Fl.Wh r) 1074 = p at *
  generalize Fl.Wh r = m at *
  go_enter Try.func18, Try.ntmps18
  go_wp2_with (go_at_call 24; refine F.mono ?_; rintro e w' ⟨rfl, rfl⟩)
  go_ret2
  exact ⟨Fl.ret_uk (by omega), rfl⟩

theorem taken_nought (b : Nat) (w : World) (h : b = 0 ∨ b = 9223372036854775808) :
    Calls Try.prog 18 #[.float .f64 b] w fun e w' => e = .returned (.tuple #[.int .u64 0, .int .i64 53]) ∧ w = w' := by
  have F := upFrexp b _ _ w (frexp_nought b w h)
  have m : floatBits .mul .f64 b 4845873199050653696 = some b := by rcases h with rfl | rfl <;> decide +kernel
  have c : floatToIntVal .f64 b .u64 = some 0 := by rcases h with rfl | rfl <;> decide +kernel
  have m2 : ∀ t w, (binOp .mul t (.float .f64 b) (.float .f64 4845873199050653696)).run Try.prog w = .ok (.float .f64 b) w := fun t w => run_float_arith w .mul t .f64 _ 4845873199050653696 _ m
  have m3 : ∀ w, (convert 23 22 (.float .f64 b)).run Try.prog w = .ok (.int .u64 0) w := fun w => run_convert_float_int w _ _ .f64 .u64 _ _ (by kernel_rfl) (by kernel_rfl) c
  clear m c h
  go_enter Try.func18, Try.ntmps18
  go_wp2_with (go_at_call 24; refine F.mono ?_; rintro e w' ⟨rfl, rfl⟩)
  go_ret2
  exact ⟨rfl, rfl⟩

theorem amountOf_yes (n : Int) (w : World) (h0 : 0 ≤ n) (h1 : n ≤ 1125899906842624) :
    Calls Try.prog 25 #[.int .u64 n] w fun e w' => e = .returned (.tuple #[.int .i64 n, .int .i64 0]) ∧ w = w' := by
  go_enter Try.func25, Try.ntmps25
  go_wp2
  go_ret2
  exact ⟨rfl, rfl⟩
theorem amountOf_no (n : Int) (w : World) (h0 : 1125899906842624 < n) :
    Calls Try.prog 25 #[.int .u64 n] w fun e w' => e = .returned (.tuple #[.int .i64 0, .int .i64 9]) ∧ w = w' := by
  go_enter Try.func25, Try.ntmps25
  go_wp2
  go_ret2
  exact ⟨rfl, rfl⟩

theorem halved_nought (k : Int) (w : World) :
    Calls Try.prog 20 #[.int .u64 0, .int .u64 0, .int .i64 k] w fun e w' => e = .returned (.tuple #[.int .i64 0, .int .i64 0]) ∧ w = w' := by
  go_enter Try.func20, Try.ntmps20
  go_wp2
  go_ret2
  exact ⟨rfl, rfl⟩

namespace Fl
theorem two_bool {a b : Int} (h : 0 < a * 18446744073709551616 + b) : (a == 0) = false ∨ a = 0 ∧ (b == 0) = false := by
  by_cases c : a = 0
  · exact .inr ⟨c, beq_eq_false_iff_ne.2 (by omega)⟩
  · exact .inl (beq_eq_false_iff_ne.2 c)
theorem pow_pos (n : Nat) : (0 : Int) < 2 ^ n := Int.pow_pos (by decide)
theorem shr_zero {a k : Int} (h0 : 0 ≤ a) (h : a < 2 ^ k.toNat) (h1 : a ≤ 18446744073709551615) : (a / 2 ^ min k.toNat 64 != 0) = false := by
  have : a / 2 ^ min k.toNat 64 = 0 := by
    apply Int.ediv_eq_zero_of_lt h0
    by_cases c : k.toNat ≤ 64
    · rw [Nat.min_eq_left c]; exact h
    · rw [Nat.min_eq_right (by omega)]; omega
  rw [this]; rfl
theorem shr_more {a k : Int} (h0 : 0 ≤ a) (h : 2 ^ k.toNat ≤ a) (h1 : a ≤ 18446744073709551615) : (a / 2 ^ min k.toNat 64 != 0) = true := by
  have hk : k.toNat < 64 := by
    apply Nat.lt_of_not_le; intro c
    have : (2 : Int) ^ 64 ≤ 2 ^ k.toNat := by
      rcases Nat.lt_or_eq_of_le c with g | g
      · exact Int.le_of_lt (Int.pow_lt_pow_of_lt (by decide) g)
      · rw [← g]; exact Int.le_refl _
    omega
  rw [Nat.min_eq_left (by omega)]
  have : 1 ≤ a / 2 ^ k.toNat := Int.le_ediv_of_mul_le (pow_pos _) (by omega)
  exact bne_iff_ne.2 (by omega)
end Fl

theorem halved_neg (hi lo k : Int) (w : World) (h1 : k < 0) (g0 : 0 ≤ hi) (hp : 0 < hi * 18446744073709551616 + lo) :
    Calls Try.prog 20 #[.int .u64 hi, .int .u64 lo, .int .i64 k] w fun e w' => e = .returned (.tuple #[.int .i64 0, .int .i64 9]) ∧ w = w' := by
  rcases Fl.two_bool hp with e | ⟨rfl, e⟩
  all_goals
    clear hp
    go_enter Try.func20, Try.ntmps20
    go_wp2
    go_ret2
    exact ⟨rfl, rfl⟩

theorem halved_more (hi lo k : Int) (w : World) (h0 : 0 ≤ k) (g0 : 0 ≤ hi) (g1 : hi ≤ 18446744073709551615) (hp : 2 ^ k.toNat ≤ hi) :
    Calls Try.prog 20 #[.int .u64 hi, .int .u64 lo, .int .i64 k] w fun e w' => e = .returned (.tuple #[.int .i64 0, .int .i64 9]) ∧ w = w' := by
  have e := Fl.shr_more g0 hp g1
  have e2 : (hi == 0) = false := beq_eq_false_iff_ne.2 (by have := Fl.pow_pos k.toNat; omega)
  clear hp
  go_enter Try.func20, Try.ntmps20
  go_wp2
  go_ret2
  exact ⟨rfl, rfl⟩

theorem halved_high (hi lo k v : Int) (n x : Int) (w : World) (h0 : 64 ≤ k) (h1 : k ≤ 2000) (g0 : 0 ≤ hi) (g1 : hi ≤ 18446744073709551615) (f : (hi == 0) = false)
    (hv : hi / 2 ^ min (k - 64).toNat 64 = v) (hA : ∀ w, Calls Try.prog 25 #[.int .u64 v] w fun e w' => e = .returned (.tuple #[.int .i64 n, .int .i64 x]) ∧ w = w') :
    Calls Try.prog 20 #[.int .u64 hi, .int .u64 lo, .int .i64 k] w fun e w' => e = .returned (.tuple #[.int .i64 n, .int .i64 x]) ∧ Below w.heap.size w w' := by
  have e : (hi / 18446744073709551616 != 0) = false := by rw [Int.ediv_eq_zero_of_lt g0 (by omega)]; rfl
  go_enter Try.func20, Try.ntmps20
  go_wp2_with (go_at_call 25; refine (hA _).mono ?_; rintro e w' ⟨rfl, rfl⟩)
  go_ret2
  exact ⟨rfl, Below.refl _ _⟩

theorem halved_high0 (lo k : Int) (w : World) (h0 : 64 ≤ k) (h1 : k ≤ 2000) (f : (lo == 0) = false) :
    Calls Try.prog 20 #[.int .u64 0, .int .u64 lo, .int .i64 k] w fun e w' => e = .returned (.tuple #[.int .i64 0, .int .i64 0]) ∧ Below w.heap.size w w' := by
  go_enter Try.func20, Try.ntmps20
  go_wp2_with (go_at_call 25; refine (amountOf_yes 0 _ (by omega) (by omega)).mono ?_; rintro e w' ⟨rfl, rfl⟩)
  go_ret2
  exact ⟨rfl, Below.refl _ _⟩

theorem halved_low0 (lo k : Int) (n x : Int) (w : World) (h0 : 0 ≤ k) (h1 : k < 64) (f : (lo == 0) = false) (hb : bits .or .u64 0 (lo / 2 ^ k.toNat) = lo / 2 ^ k.toNat)
    (hA : ∀ w, Calls Try.prog 25 #[.int .u64 (lo / 2 ^ k.toNat)] w fun e w' => e = .returned (.tuple #[.int .i64 n, .int .i64 x]) ∧ w = w') :
    Calls Try.prog 20 #[.int .u64 0, .int .u64 lo, .int .i64 k] w fun e w' => e = .returned (.tuple #[.int .i64 n, .int .i64 x]) ∧ Below w.heap.size w w' := by
  go_enter Try.func20, Try.ntmps20
  go_wp2_with (fail)
  refine region_over (by kernel_rfl) (by kernel_rfl) ?_
  repeat (go_big_quiet_step (exact over_same (hA _)))
  refine wpQuiet_nil ?_
  rintro _ ⟨x, rfl⟩
  go_wp2
  go_ret2
  exact ⟨rfl, over_below _ x⟩

theorem halved_low (hi lo k v : Int) (n x : Int) (w : World) (h0 : 0 ≤ k) (h1 : k < 64) (f : (hi == 0) = false) (hp : (hi / 2 ^ k.toNat != 0) = false)
    (hb1 : IntKind.u64.wrap (hi * 2 ^ (64 - k).toNat) = hi * 2 ^ (64 - k).toNat) (hb2 : bits .or .u64 (hi * 2 ^ (64 - k).toNat) (lo / 2 ^ k.toNat) = v)
    (hA : ∀ w, Calls Try.prog 25 #[.int .u64 v] w fun e w' => e = .returned (.tuple #[.int .i64 n, .int .i64 x]) ∧ w = w') :
    Calls Try.prog 20 #[.int .u64 hi, .int .u64 lo, .int .i64 k] w fun e w' => e = .returned (.tuple #[.int .i64 n, .int .i64 x]) ∧ Below w.heap.size w w' := by
  go_enter Try.func20, Try.ntmps20
  go_wp2_with (fail)
  refine region_over (by kernel_rfl) (by kernel_rfl) ?_
  repeat (go_big_quiet_step (exact over_same (hA _)))
  refine wpQuiet_nil ?_
  rintro _ ⟨x, rfl⟩
  go_wp2
  go_ret2
  exact ⟨rfl, over_below _ x⟩

namespace Fl
theorem parts_low {hi lo k : Int} (h0 : 0 ≤ k) (h1 : k < 64) (g0 : 0 ≤ hi) (l0 : 0 ≤ lo) (l1 : lo ≤ 18446744073709551615) (hp : hi < 2 ^ k.toNat) :
    IntKind.u64.wrap (hi * 2 ^ (64 - k).toNat) = hi * 2 ^ (64 - k).toNat ∧ bits .or .u64 (hi * 2 ^ (64 - k).toNat) (lo / 2 ^ k.toNat) = (hi * 18446744073709551616 + lo) / 2 ^ k.toNat ∧ 0 ≤ lo / 2 ^ k.toNat ∧
      bits .or .u64 0 (lo / 2 ^ k.toNat) = lo / 2 ^ k.toNat ∧ 0 ≤ (hi * 18446744073709551616 + lo) / 2 ^ k.toNat ∧ (hi * 18446744073709551616 + lo) / 2 ^ k.toNat ≤ 18446744073709551615 := by
  have hk := pow_pos k.toNat
  have hj := pow_pos (64 - k).toNat
  have e : (2 : Int) ^ (64 - k).toNat * 2 ^ k.toNat = 18446744073709551616 := by
    rw [← Int.pow_add, show (64 - k).toNat + k.toNat = 64 by omega]; rfl
  have e0 : 0 ≤ hi * 2 ^ (64 - k).toNat := Int.mul_nonneg g0 (Int.le_of_lt hj)
  have e1 : hi * 2 ^ (64 - k).toNat + 2 ^ (64 - k).toNat ≤ 18446744073709551616 := by
    have := Int.mul_le_mul_of_nonneg_right (show hi + 1 ≤ 2 ^ k.toNat by omega) (Int.le_of_lt hj)
    rw [Int.add_mul, Int.one_mul, Int.mul_comm (2 ^ k.toNat), e] at this
    exact this
  have f0 : 0 ≤ lo / 2 ^ k.toNat := Int.ediv_nonneg l0 (Int.le_of_lt hk)
  have f1 : lo / 2 ^ k.toNat < 2 ^ (64 - k).toNat := by
    apply Int.ediv_lt_of_lt_mul hk
    rw [e]; omega
  have s : (hi * 18446744073709551616 + lo) / 2 ^ k.toNat = hi * 2 ^ (64 - k).toNat + lo / 2 ^ k.toNat := by
    rw [← e, ← Int.mul_assoc, Int.add_comm, Int.add_mul_ediv_right _ _ (by omega), Int.add_comm]
  have w : ∀ n : Int, 0 ≤ n → n < 2 ^ 64 → IntKind.u64.wrap n = n := by
    intro n h h'
    rw [IntKind.wrap_u64]; omega
  refine ⟨w _ e0 (by omega), ?_, f0, ?_, by rw [s]; omega, by rw [s]; omega⟩
  · rw [s]
    exact bits_join .u64 64 (Nat.le_refl _) w (64 - k).toNat _ _ e0 (Int.mul_emod_left _ _) (by omega) f0 f1 (by omega)
  · have := bits_join .u64 64 (Nat.le_refl _) w (64 - k).toNat 0 (lo / 2 ^ k.toNat) (by omega) (Int.zero_emod _) (by decide) f0 f1 (by omega)
    rw [this]; omega
theorem parts_high {hi lo k : Int} (h0 : 64 ≤ k) (g0 : 0 ≤ hi) (g1 : hi ≤ 18446744073709551615) (l0 : 0 ≤ lo) (l1 : lo ≤ 18446744073709551615) :
    hi / 2 ^ min (k - 64).toNat 64 = (hi * 18446744073709551616 + lo) / 2 ^ k.toNat ∧ 0 ≤ (hi * 18446744073709551616 + lo) / 2 ^ k.toNat ∧ (hi * 18446744073709551616 + lo) / 2 ^ k.toNat ≤ 18446744073709551615 := by
  have e : (hi * 18446744073709551616 + lo) / 2 ^ k.toNat = hi / 2 ^ (k - 64).toNat := by
    rw [show k.toNat = 64 + (k - 64).toNat by omega, Int.pow_add, ← Int.ediv_ediv_of_nonneg (by decide), show (hi * 18446744073709551616 + lo) / 2 ^ 64 = hi by omega]
  have hj := pow_pos (k - 64).toNat
  have d0 : 0 ≤ hi / 2 ^ (k - 64).toNat := Int.ediv_nonneg g0 (Int.le_of_lt hj)
  have d1 : hi / 2 ^ (k - 64).toNat ≤ hi := Int.ediv_le_self _ g0
  rw [e]
  refine ⟨?_, d0, by omega⟩
  by_cases c : (k - 64).toNat ≤ 64
  · rw [Nat.min_eq_left c]
  · rw [Nat.min_eq_right (by omega)]
    have l : (2 : Int) ^ 64 < 2 ^ (k - 64).toNat := Int.pow_lt_pow_of_lt (by decide) (by omega)
    rw [Int.ediv_eq_zero_of_lt g0 (by omega), Int.ediv_eq_zero_of_lt g0 (by omega)]
end Fl

theorem halved_via (hi lo k n x : Int) (w : World) (h0 : 0 ≤ k) (h1 : k ≤ 2000) (g0 : 0 ≤ hi) (g1 : hi ≤ 18446744073709551615) (l0 : 0 ≤ lo) (l1 : lo ≤ 18446744073709551615)
    (hP : 0 < hi * 18446744073709551616 + lo) (hp : hi < 2 ^ k.toNat)
    (hA : ∀ w, Calls Try.prog 25 #[.int .u64 ((hi * 18446744073709551616 + lo) / 2 ^ k.toNat)] w fun e w' => e = .returned (.tuple #[.int .i64 n, .int .i64 x]) ∧ w = w')
    (hn : (hi * 18446744073709551616 + lo) / 2 ^ k.toNat = 0 → n = 0 ∧ x = 0) :
    Calls Try.prog 20 #[.int .u64 hi, .int .u64 lo, .int .i64 k] w fun e w' => e = .returned (.tuple #[.int .i64 n, .int .i64 x]) ∧ Below w.heap.size w w' := by
  by_cases c : k < 64
  · obtain ⟨a, b, d0, d, _, _⟩ := Fl.parts_low h0 c g0 l0 l1 hp
    rcases Fl.two_bool hP with f | ⟨rfl, f⟩
    · exact halved_low hi lo k _ n x w h0 c f (by rw [Int.ediv_eq_zero_of_lt g0 hp]; rfl) a b hA
    · rw [show (0 : Int) * 18446744073709551616 + lo = lo by omega] at hA
      exact halved_low0 lo k n x w h0 c f d hA
  · obtain ⟨a, _, _⟩ := Fl.parts_high (lo := lo) (show 64 ≤ k by omega) g0 g1 l0 l1
    rcases Fl.two_bool hP with f | ⟨rfl, f⟩
    · exact halved_high hi lo k _ n x w (by omega) h1 g0 g1 f a hA
    · obtain ⟨r, s⟩ := hn (by rw [← a]; exact Int.zero_ediv _)
      subst r; subst s
      exact halved_high0 lo k w (by omega) h1 f

theorem halved_yes (hi lo k : Int) (w : World) (h0 : 0 ≤ k) (h1 : k ≤ 2000) (g0 : 0 ≤ hi) (g1 : hi ≤ 18446744073709551615) (l0 : 0 ≤ lo) (l1 : lo ≤ 18446744073709551615)
    (hP : 0 < hi * 18446744073709551616 + lo) (hv : (hi * 18446744073709551616 + lo) / 2 ^ k.toNat ≤ 1125899906842624) :
    Calls Try.prog 20 #[.int .u64 hi, .int .u64 lo, .int .i64 k] w fun e w' => e = .returned (.tuple #[.int .i64 ((hi * 18446744073709551616 + lo) / 2 ^ k.toNat), .int .i64 0]) ∧ Below w.heap.size w w' := by
  have hk := Fl.pow_pos k.toNat
  have v0 : 0 ≤ (hi * 18446744073709551616 + lo) / 2 ^ k.toNat := Int.ediv_nonneg (by omega) (by omega)
  have hp : hi < 2 ^ k.toNat := by
    apply Int.lt_of_not_ge; intro c
    have : 18446744073709551616 ≤ (hi * 18446744073709551616 + lo) / 2 ^ k.toNat := by
      apply Int.le_ediv_of_mul_le hk
      omega
    omega
  exact halved_via hi lo k _ 0 w h0 h1 g0 g1 l0 l1 hP hp (fun w => amountOf_yes _ w v0 hv) (fun h => ⟨h, rfl⟩)

theorem halved_no (hi lo k : Int) (w : World) (h1 : k ≤ 2000) (g0 : 0 ≤ hi) (g1 : hi ≤ 18446744073709551615) (l0 : 0 ≤ lo) (l1 : lo ≤ 18446744073709551615)
    (hP : 0 < hi * 18446744073709551616 + lo) (hv : k < 0 ∨ 0 ≤ k ∧ 1125899906842624 < (hi * 18446744073709551616 + lo) / 2 ^ k.toNat) :
    Calls Try.prog 20 #[.int .u64 hi, .int .u64 lo, .int .i64 k] w fun e w' => e = .returned (.tuple #[.int .i64 0, .int .i64 9]) ∧ Below w.heap.size w w' := by
  rcases hv with c | ⟨h0, hv⟩
  · refine (halved_neg hi lo k w c g0 hP).mono ?_
    rintro e w' ⟨rfl, rfl⟩
    exact ⟨rfl, Below.refl _ _⟩
  by_cases hp : hi < 2 ^ k.toNat
  · refine halved_via hi lo k 0 9 w h0 h1 g0 g1 l0 l1 hP hp (fun w => amountOf_no _ w hv) (fun h => by omega)
  · refine (halved_more hi lo k w h0 g0 g1 (by omega)).mono ?_
    rintro e w' ⟨rfl, rfl⟩
    exact ⟨rfl, Below.refl _ _⟩

theorem Dv.low32 (z : Int) : bits .and .u64 (z % 18446744073709551616) 4294967295 = z % 18446744073709551616 % 4294967296 := and_low32 _ (by omega) (by omega)

set_option maxHeartbeats 1000000 in
set_option maxRecDepth 100000 in
theorem mul64_any (x y : Int) (w : World) (h0 : 0 ≤ x) (h1 : x ≤ 18446744073709551615) (g0 : 0 ≤ y) (g1 : y ≤ 18446744073709551615) :
    Calls Try.prog 19 #[.int .u64 x, .int .u64 y] w fun e w' => e = .returned (.tuple #[.int .u64 (x * y / 18446744073709551616), .int .u64 (x * y % 18446744073709551616)]) ∧ w = w' := by
  go_enter Try.func19, Try.ntmps19
  go_wp2
  simp only [IntKind.wrap_u64, and_low32 x h0 (by omega), and_low32 y g0 (by omega), Dv.low32]
  rw [mul64_arith x y h0 (by omega) g0 (by omega)]
  go_ret2
  exact ⟨rfl, rfl⟩
end Go.Proofs.Ytjleacbmdpcahaa
