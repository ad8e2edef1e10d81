/-
  An amount taken so many times, what that is, and the given text's own examples and test of a float. No conditions but those on the amount.
-/
import Derived.Test.YtjleacbmdpcahaaTimes
import Derived.Lib.Hide
namespace Go.Proofs.Ytjleacbmdpcahaa
open Go.ChangeShapes Go.WideShapes Go.ChangeAt Go.RowKit

namespace Fl
/-- The number of a word that may be taken, in units of the least one; and an amount so many times, rounded down. -/
def V (b : Nat) : Int := if b = 9223372036854775808 then 0 else (N b : Int)
def Q : Nat := 1074
theorem Q_eq : Q = 1074 := rfl
def T (a : Int) (b : Nat) : Int := a * V b / 2 ^ Q
theorem V_nonneg (b : Nat) : 0 ≤ V b := by unfold V; split <;> omega
theorem T_nonneg {a : Int} (b : Nat) (h : 0 ≤ a) : 0 ≤ T a b := Int.ediv_nonneg (Int.mul_nonneg h (V_nonneg b)) (Int.le_of_lt (pow_pos _))
theorem V_pos {r : Nat} (h : r < 9218868437227405312) : V r = N r := by unfold V; rw [if_neg (by omega)]
theorem V_nought {b : Nat} (h : b = 0 ∨ b = 9223372036854775808) : V b = 0 := by
  rcases h with rfl | rfl
  · rfl
  · unfold V; rw [if_pos rfl]
theorem T_nought {b : Nat} (a : Int) (h : b = 0 ∨ b = 9223372036854775808) : T a b = 0 := by
  unfold T; rw [V_nought h, Int.mul_zero, Int.zero_ediv]
theorem T_zero (b : Nat) : T 0 b = 0 := by unfold T; rw [Int.zero_mul, Int.zero_ediv]
theorem W_K {r : Nat} (c : Nat) (hc : c = 1074) (h0 : 0 < r) : (N r : Int) * 2 ^ (Ke r).toNat = Wh r * 2 ^ c * 2 ^ (-Ke r).toNat := by
  have := Wh_Ke' c hc h0
  exact_mod_cast this
theorem T_at {a : Int} {r : Nat} (c : Nat) (hc : c = 1074) (h0 : 0 < r) (hk : 0 ≤ Ke r) : a * (N r : Int) / 2 ^ c = a * Wh r / 2 ^ (Ke r).toNat := by
  have e := W_K c hc h0
  rw [show (-Ke r).toNat = 0 by omega, Int.pow_zero, Int.mul_one] at e
  have p1 := pow_pos c
  have p2 := pow_pos (Ke r).toNat
  rw [← Int.mul_ediv_mul_of_pos_left (a * (N r : Int)) (2 ^ c) p2, Int.mul_assoc, e, ← Int.mul_assoc, Int.mul_comm (2 ^ c) (2 ^ (Ke r).toNat), Int.mul_ediv_mul_of_pos_left _ _ p1]
theorem T_much {a : Int} {r : Nat} (c : Nat) (hc : c = 1074) (h0 : 0 < r) (hr : r < 9218868437227405312) (hk : Ke r < 0) (ha : 1 ≤ a) : 1125899906842624 < a * (N r : Int) / 2 ^ c := by
  have e := W_K c hc h0
  rw [show (Ke r).toNat = 0 by omega, Int.pow_zero, Int.mul_one] at e
  have p1 := pow_pos c
  have p2 := pow_pos (-Ke r).toNat
  obtain ⟨q, _⟩ := Wh_range h0 hr
  rw [e, Int.mul_assoc, Int.mul_comm (2 ^ c), ← Int.mul_assoc, ← Int.mul_assoc, Int.mul_ediv_cancel _ (by omega)]
  have b1 : (4503599627370496 : Int) ≤ a * Wh r := by
    have := Int.mul_le_mul_of_nonneg_right ha (show (0 : Int) ≤ Wh r by omega)
    omega
  have b2 := Int.mul_le_mul_of_nonneg_left (show (1 : Int) ≤ 2 ^ (-Ke r).toNat by omega) (show (0 : Int) ≤ a * Wh r by omega)
  omega
theorem words64 {p : Int} (h0 : 0 ≤ p) (h1 : p < 340282366920938463463374607431768211456) :
    0 ≤ p / 18446744073709551616 ∧ p / 18446744073709551616 ≤ 18446744073709551615 ∧ 0 ≤ p % 18446744073709551616 ∧ p % 18446744073709551616 ≤ 18446744073709551615 ∧ p / 18446744073709551616 * 18446744073709551616 + p % 18446744073709551616 = p := by omega
end Fl

theorem mpright_yes (n : Int) (w : World) (h : -1125899906842624 ≤ n ∧ n ≤ 1125899906842624) :
    Calls Try.prog 17 #[.int .i64 n] w fun e w' => e = .returned (.bool true) ∧ w = w' := by
  obtain ⟨h0, h1⟩ := h
  go_enter Try.func17, Try.ntmps17
  go_wp2
  go_ret
  exact ⟨rfl, rfl⟩
theorem mpright_no (n : Int) (w : World) (h : 1125899906842624 < n) :
    Calls Try.prog 17 #[.int .i64 n] w fun e w' => e = .returned (.bool false) ∧ w = w' := by
  have t : decide (n ≤ 1125899906842624) = false := by simp; omega
  go_enter Try.func17, Try.ntmps17
  go_wp2
  go_ret
  exact ⟨rfl, rfl⟩

set_option maxHeartbeats 1000000 in
theorem times_arg (a : Int) (b : Nat) (w : World) (hb : b < 18446744073709551616) (h : ¬ Fl.ok b) :
    Calls Try.prog 10 #[.int .i64 a, .float .f64 b] w fun e w' => e = .returned (.tuple #[.int .i64 0, .int .i64 1]) ∧ w = w' := by
  go_enter Try.func10, Try.ntmps10
  go_wp2_with (go_at_call 13; refine (rright_no b _ hb h).mono ?_; rintro e w' ⟨rfl, rfl⟩)
  go_ret2
  exact ⟨rfl, rfl⟩

set_option maxHeartbeats 1000000 in
theorem times_money (a : Int) (b : Nat) (w : World) (h : Fl.ok b) (ha : a < 0 ∨ 0 ≤ a ∧ 1125899906842624 < a) :
    Calls Try.prog 10 #[.int .i64 a, .float .f64 b] w fun e w' => e = .returned (.tuple #[.int .i64 0, .int .i64 9]) ∧ w = w' := by
  rcases ha with ha | ⟨_, ha⟩
  · go_enter Try.func10, Try.ntmps10
    go_wp2_with (go_at_call 13; refine (rright_yes b _ h).mono ?_; rintro e w' ⟨rfl, rfl⟩)
    go_ret2
    exact ⟨rfl, rfl⟩
  · go_enter Try.func10, Try.ntmps10
    go_wp2_with (first | (go_at_call 13; refine (rright_yes b _ h).mono ?_; rintro e w' ⟨rfl, rfl⟩) | (go_at_call 17; refine (mpright_no a _ ha).mono ?_; rintro e w' ⟨rfl, rfl⟩))
    go_ret2
    exact ⟨rfl, rfl⟩

set_option maxHeartbeats 1000000 in
theorem times_via (a : Int) (b : Nat) (m k n x hi lo : Int) (w : World) (h : Fl.ok b) (h0 : 0 ≤ a) (h1 : a ≤ 1125899906842624)
    (ht : ∀ w, Calls Try.prog 18 #[.float .f64 b] w fun e w' => e = .returned (.tuple #[.int .u64 m, .int .i64 k]) ∧ w = w')
    (hm : ∀ w, Calls Try.prog 19 #[.int .u64 a, .int .u64 m] w fun e w' => e = .returned (.tuple #[.int .u64 hi, .int .u64 lo]) ∧ w = w')
    (hh : ∀ w, Calls Try.prog 20 #[.int .u64 hi, .int .u64 lo, .int .i64 k] w fun e w' => e = .returned (.tuple #[.int .i64 n, .int .i64 x]) ∧ Below w.heap.size w w') :
    Calls Try.prog 10 #[.int .i64 a, .float .f64 b] w fun e w' => e = .returned (.tuple #[.int .i64 n, .int .i64 x]) ∧ Below w.heap.size w w' := by
  go_enter Try.func10, Try.ntmps10
  go_wp2_with (first | (go_at_call 13; refine (rright_yes b _ h).mono ?_; rintro e w' ⟨rfl, rfl⟩) | (go_at_call 17; refine (mpright_yes a _ ⟨by omega, h1⟩).mono ?_; rintro e w' ⟨rfl, rfl⟩) | (go_at_call 18; refine (ht _).mono ?_; rintro e w' ⟨rfl, rfl⟩) | (go_at_call 19; refine (hm _).mono ?_; rintro e w' ⟨rfl, rfl⟩))
  refine (hh _).mono ?_
  rintro e w1 ⟨rfl, hb⟩
  go_wp2
  go_ret2
  exact ⟨rfl, hb⟩

theorem times_nought (a : Int) (b : Nat) (w : World) (h : b = 0 ∨ b = 9223372036854775808) (h0 : 0 ≤ a) (h1 : a ≤ 1125899906842624) :
    Calls Try.prog 10 #[.int .i64 a, .float .f64 b] w fun e w' => e = .returned (.tuple #[.int .i64 0, .int .i64 0]) ∧ Below w.heap.size w w' := by
  refine times_via a b 0 53 0 0 0 0 w (by rcases h with rfl | rfl; exact .inl (by decide); exact .inr rfl) h0 h1 (fun w => taken_nought b w h) (fun w => ?_) (fun w => ?_)
  · have := mul64_any a 0 w h0 (by omega) (by omega) (by omega)
    rw [Int.mul_zero] at this
    exact this
  · refine (halved_nought 53 w).mono ?_
    rintro e w' ⟨rfl, rfl⟩
    exact ⟨rfl, Below.refl _ _⟩

theorem times_none (r : Nat) (w : World) (h : 0 < r) (hr : r < 9218868437227405312) :
    Calls Try.prog 10 #[.int .i64 0, .float .f64 r] w fun e w' => e = .returned (.tuple #[.int .i64 0, .int .i64 0]) ∧ Below w.heap.size w w' := by
  obtain ⟨q0, q1⟩ := Fl.Wh_range h hr
  refine times_via 0 r _ _ 0 0 0 0 w (.inl hr) (by omega) (by omega) (fun w => taken_any r w h hr) (fun w => ?_) (fun w => ?_)
  · have := mul64_any 0 (Fl.Wh r) w (by omega) (by omega) (by omega) (by omega)
    rw [Int.zero_mul] at this
    exact this
  · refine (halved_nought _ w).mono ?_
    rintro e w' ⟨rfl, rfl⟩
    exact ⟨rfl, Below.refl _ _⟩

theorem times_yes (a : Int) (b : Nat) (w : World) (h : Fl.ok b) (h0 : 0 ≤ a) (h1 : a ≤ 1125899906842624) (ht : Fl.T a b ≤ 1125899906842624) :
    Calls Try.prog 10 #[.int .i64 a, .float .f64 b] w fun e w' => e = .returned (.tuple #[.int .i64 (Fl.T a b), .int .i64 0]) ∧ Below w.heap.size w w' := by
  by_cases c : b = 0 ∨ b = 9223372036854775808
  · rw [Fl.T_nought a c]
    exact times_nought a b w c h0 h1
  have hr : b < 9218868437227405312 := by
    rcases h with h | h
    · exact h
    · exact absurd (.inr h) c
  have hb : 0 < b := by omega
  by_cases d : a = 0
  · subst d
    rw [Fl.T_zero]
    exact times_none b w hb hr
  obtain ⟨q0, q1⟩ := Fl.Wh_range hb hr
  obtain ⟨k0, k1⟩ := Fl.Ke_range hb hr
  have p0 := Int.mul_le_mul_of_nonneg_left (show (4503599627370496 : Int) ≤ Fl.Wh b by omega) h0
  have p1 := Int.mul_le_mul_of_nonneg_right h1 (show (0 : Int) ≤ Fl.Wh b by omega)
  have hk : 0 ≤ Fl.Ke b := by
    apply Int.le_of_not_gt; intro g
    have := Fl.T_much (a := a) Fl.Q Fl.Q_eq hb hr g (by omega)
    unfold Fl.T at ht
    rw [Fl.V_pos hr] at ht
    omega
  have e : Fl.T a b = a * Fl.Wh b / 2 ^ (Fl.Ke b).toNat := by
    unfold Fl.T
    rw [Fl.V_pos hr]
    exact Fl.T_at Fl.Q Fl.Q_eq hb hk
  rw [e] at ht ⊢
  obtain ⟨u0, u1, u2, u3, u4⟩ := Fl.words64 (p := a * Fl.Wh b) (by omega) (by omega)
  refine times_via a b _ _ _ 0 _ _ w h h0 h1 (fun w => taken_any b w hb hr) (fun w => mul64_any a (Fl.Wh b) w h0 (by omega) (by omega) (by omega)) (fun w => ?_)
  have := halved_yes _ _ (Fl.Ke b) w hk (by omega) u0 u1 u2 u3 (by rw [u4]; omega) (by rw [u4]; exact ht)
  rw [u4] at this
  exact this

theorem times_no (a : Int) (b : Nat) (w : World) (h : Fl.ok b) (h0 : 0 ≤ a) (h1 : a ≤ 1125899906842624) (ht : 1125899906842624 < Fl.T a b) :
    Calls Try.prog 10 #[.int .i64 a, .float .f64 b] w fun e w' => e = .returned (.tuple #[.int .i64 0, .int .i64 9]) ∧ Below w.heap.size w w' := by
  by_cases c : b = 0 ∨ b = 9223372036854775808
  · rw [Fl.T_nought a c] at ht
    omega
  have hr : b < 9218868437227405312 := by
    rcases h with h | h
    · exact h
    · exact absurd (.inr h) c
  have hb : 0 < b := by omega
  by_cases d : a = 0
  · subst d
    rw [Fl.T_zero] at ht
    omega
  obtain ⟨q0, q1⟩ := Fl.Wh_range hb hr
  obtain ⟨k0, k1⟩ := Fl.Ke_range hb hr
  have p0 := Int.mul_le_mul_of_nonneg_left (show (4503599627370496 : Int) ≤ Fl.Wh b by omega) h0
  have p1 := Int.mul_le_mul_of_nonneg_right h1 (show (0 : Int) ≤ Fl.Wh b by omega)
  obtain ⟨u0, u1, u2, u3, u4⟩ := Fl.words64 (p := a * Fl.Wh b) (by omega) (by omega)
  refine times_via a b _ _ 0 9 _ _ w h h0 h1 (fun w => taken_any b w hb hr) (fun w => mul64_any a (Fl.Wh b) w h0 (by omega) (by omega) (by omega)) (fun w => ?_)
  refine halved_no _ _ (Fl.Ke b) w (by omega) u0 u1 u2 u3 (by rw [u4]; omega) ?_
  by_cases g : Fl.Ke b < 0
  · exact .inl g
  · refine .inr ⟨by omega, ?_⟩
    rw [u4, ← Fl.T_at Fl.Q Fl.Q_eq hb (by omega), ← Fl.V_pos hr]
    exact ht

namespace Fl
/-- What a fraction of a power of two gives. -/
theorem T_rg {n k j : Nat} (a : Int) (h : n < 9007199254740992) (hk : 52 ≤ k) (hj : k + j = 1074) (hq : k ≤ 1993) : T a (rg n k) = a * n / 2 ^ j := by
  unfold T
  rw [V_pos (rg_lt h hq), N_rg h hk, show Q = j + k by rw [Q_eq]; omega]
  have p1 := pow_pos k
  have e : ((n * 2 ^ k : Nat) : Int) = (n : Int) * 2 ^ k := by simp
  rw [e, ← Int.mul_assoc, Int.pow_add, Int.mul_ediv_mul_of_pos_left _ _ p1]
theorem T_mono {a b : Int} {x y : Nat} (h : a ≤ b) (h0 : 0 ≤ a) (g : V x ≤ V y) : T a x ≤ T b y :=
  Int.ediv_le_ediv (pow_pos _) (Int.le_trans (Int.mul_le_mul_of_nonneg_left g h0) (Int.mul_le_mul_of_nonneg_right h (V_nonneg y)))
/-- The examples' two words. -/
theorem ex29 : T 100 4598895795485655695 = 28 := by
  unfold T V
  rw [if_neg (by decide), Q_eq]
  decide +kernel
theorem ex25 : T 100 4598175219545276416 = 25 := by
  unfold T V
  rw [if_neg (by decide), Q_eq]
  decide +kernel
end Fl

set_option maxHeartbeats 1000000 in
theorem fawake_any (w : World) :
    Calls Try.prog 12 #[] w fun e w' => e = .returned (.bool true) ∧ Below w.heap.size w w' := by
  have A := fun w => times_yes 100 4598895795485655695 w (.inl (by decide)) (by decide) (by decide) (by rw [Fl.ex29]; decide)
  rw [Fl.ex29] at A
  have B := fun w => times_yes 100 4598175219545276416 w (.inl (by decide)) (by decide) (by decide) (by rw [Fl.ex25]; decide)
  rw [Fl.ex25] at B
  go_enter Try.func12, Try.ntmps12
  go_wp2_with (fail)
  refine (A _).mono ?_
  rintro e w1 ⟨rfl, h1⟩
  have H1 := Lib.hid h1
  clear h1
  go_wp2_with (fail)
  refine (B _).mono ?_
  rintro e w2 ⟨rfl, h2⟩
  have H2 := Lib.hid (H1.out.trans (h2.mono H1.out.size))
  clear h2
  go_wp2
  go_ret
  exact ⟨rfl, H2.out⟩

set_option maxHeartbeats 400000 in
theorem lright_yes (b : Nat) (w : World) (h : Fl.ok b) :
    Calls Try.prog 11 #[.float .f64 b] w fun e w' => e = .returned (.bool true) ∧ w = w' := by
  have g := Fl.geq0 h
  have s : FloatKind.f64.format.order b b = some .eq := by
    rcases h with h | rfl
    · exact Fl.order_self h
    · exact Fl.order_neg_self (a := 0) (by decide)
  have m : (FloatKind.f64.format.order b 9218868437227405311 == some .lt || FloatKind.f64.format.order b 9218868437227405311 == some .eq) = true := by
    show (Ieee.double.order _ _ == _ || Ieee.double.order _ _ == _) = true
    rcases h with h | rfl
    · by_cases c : b < 9218868437227405311
      · rw [Fl.order_lt c (by decide)]; rfl
      · rw [show b = 9218868437227405311 by omega, Fl.order_self (by decide)]; rfl
    · have c := Fl.N_lt (show 0 < 9218868437227405311 by decide)
      rw [Fl.N_zero] at c
      rw [Fl.order_noughts (by decide), Fl.cmp_lt (by omega)]; rfl
  go_enter Try.func11, Try.ntmps11
  go_wp2
  go_ret
  exact ⟨rfl, rfl⟩

set_option maxHeartbeats 400000 in
theorem lright_no (b : Nat) (w : World) (hb : b < 18446744073709551616) (h : ¬ Fl.ok b) :
    Calls Try.prog 11 #[.float .f64 b] w fun e w' => e = .returned (.bool false) ∧ w = w' := by
  have below (s : FloatKind.f64.format.order b b = some .eq) (g : FloatKind.f64.format.order b 0 = some .lt) : Calls Try.prog 11 #[.float .f64 b] w fun e w' => e = .returned (.bool false) ∧ w = w' := by
    go_enter Try.func11, Try.ntmps11
    go_wp2
    go_ret
    exact ⟨rfl, rfl⟩
  rcases Fl.kind_of hb with g | g | ⟨g, g1⟩ | ⟨a, g, g0, g1⟩ | g | g | g
  · exact absurd (.inl (by omega)) h
  · exact absurd (.inr g) h
  · exact absurd (.inl g1) h
  · exact below (by rw [g]; exact Fl.order_neg_self g1) (by rw [g]; exact Fl.order_neg g0 g1 (by decide))
  · subst g
    have s : FloatKind.f64.format.order 9218868437227405312 9218868437227405312 = some .eq := by decide +kernel
    have e : FloatKind.f64.format.order 9218868437227405312 0 = some .gt := Fl.order_inf (by decide)
    have f : FloatKind.f64.format.order 9218868437227405312 9218868437227405311 = some .gt := Fl.order_inf (by decide)
    go_enter Try.func11, Try.ntmps11
    go_wp2
    go_ret
    exact ⟨rfl, rfl⟩
  · exact below (by rw [g]; decide +kernel) (by rw [g]; exact Fl.order_ninf (by decide))
  · have s : FloatKind.f64.format.order b b = none := Fl.order_nan b g
    go_enter Try.func11, Try.ntmps11
    go_wp2
    go_ret
    exact ⟨rfl, rfl⟩

set_option maxHeartbeats 400000 in
theorem plain_any (b : Nat) (c : Nat) (w : World) (h : (FloatKind.f64.format.order b 0 = some .eq ∧ c = 0) ∨ ((FloatKind.f64.format.order b 0 == some .eq) = false ∧ c = b)) :
    Calls Try.prog 15 #[.float .f64 b] w fun e w' => e = .returned (.float .f64 c) ∧ w = w' := by
  rcases h with ⟨h, rfl⟩ | ⟨h, rfl⟩
  all_goals
    go_enter Try.func15, Try.ntmps15
    go_wp2
    go_ret
    exact ⟨rfl, rfl⟩
end Go.Proofs.Ytjleacbmdpcahaa
