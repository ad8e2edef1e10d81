/-
  Contract of the library's Ldexp, where the word has no sign and the result is a word of full digits. Conditions: just those.
-/
import Derived.Test.YtjleacbmdpcahaaTook
namespace Go.Proofs.Ytjleacbmdpcahaa
open Go.ChangeShapes Go.WideShapes Go.ChangeAt Go.RowKit

namespace Fl
theorem and_exp_i64 (a : Nat) (ha : a < 9223372036854775808) : bits .and .i64 ((a : Int) / 4503599627370496) 2047 = (a : Int) / 4503599627370496 := by
  have := bits_mask .i64 62 (by decide) (fun n h h' => by rw [IntKind.wrap_i64]; omega) 11 (by decide) ((a : Int) / 4503599627370496) (by omega) (by omega)
  rw [show (2 : Int) ^ 11 - 1 = 2047 by rfl, show (2 : Int) ^ 11 = 2048 by rfl] at this
  rw [this]; omega
theorem one_at (c q p : Nat) (hp : p = rg 1 c) (hc : 52 ≤ c) : N p * N q = N q * 2 ^ c := by
  rw [hp, N_rg (by decide) hc, Nat.one_mul, Nat.mul_comm]
theorem one_mul {q : Nat} (h : q < 9218868437227405312) : floatBits .mul .f64 4607182418800017408 q = some q :=
  mul_exact (by decide) h h (one_at 1074 q _ (by decide +kernel) (by decide))
end Fl

set_option maxHeartbeats 2000000 in
theorem ldexp_at (r q : Nat) (k e z : Int) (w : World) (r0 : 4503599627370496 ≤ r) (r1 : r < 9218868437227405312) (q1 : q < 9218868437227405312)
    (k0 : -2000 ≤ k) (k1 : k ≤ 2000) (hv0 : 1 ≤ e + k) (hv1 : e + k ≤ 2046) (e0 : 1 ≤ e) (e1 : e ≤ 2046) (he : (r : Int) / 4503599627370496 = e) (hz : (r : Int) % 4503599627370496 = z)
    (hq : bits .or .u64 z ((k + (e - 1023) + 1023) * 4503599627370496) = q) :
    Calls Try.prog 23 #[.float .f64 r, .int .i64 k] w fun e w' => e = .returned (.float .f64 q) ∧ w = w' := by
  have g : FloatKind.f64.format.order r 0 = some .gt := Fl.order_gt (by omega) r1
  have b1 := Fl.and_exp_i64 r (by omega)
  rw [he] at b1
  have b2 := Fl.andNot_exp' r (by omega)
  rw [hz] at b2
  have m := Fl.one_mul q1
  have m2 : ∀ t w, (binOp .mul t (.float .f64 4607182418800017408) (.float .f64 q)).run Try.prog w = .ok (.float .f64 q) w := fun t w => run_float_arith w .mul t .f64 _ q _ m
  clear m
  go_enter Try.func23, Try.ntmps23
  go_wp2_with (first | (go_at_call 21; refine (isInf_pos r 0 _ r1 (.inr rfl)).mono ?_; rintro e w' ⟨rfl, rfl⟩) | (go_at_call 27; refine (isNaN_no r _ r1).mono ?_; rintro e w' ⟨rfl, rfl⟩) | (go_at_call 28; refine (normalize_big r _ r0 r1).mono ?_; rintro e w' ⟨rfl, rfl⟩))
  go_ret
  exact ⟨rfl, rfl⟩

theorem ldexp_nought (k : Int) (w : World) :
    Calls Try.prog 23 #[.float .f64 0, .int .i64 k] w fun e w' => e = .returned (.float .f64 0) ∧ w = w' := by
  have g : FloatKind.f64.format.order 0 0 = some .eq := Fl.order_self (by decide)
  go_enter Try.func23, Try.ntmps23
  go_wp2
  go_ret
  exact ⟨rfl, rfl⟩

theorem upLdexp (b c : Nat) (k : Int) (w : World) (h : Calls Try.prog 23 #[.float .f64 b, .int .i64 k] w fun e w' => e = .returned (.float .f64 c) ∧ w = w') :
    Calls Try.prog 14 #[.float .f64 b, .int .i64 k] w fun e w' => e = .returned (.float .f64 c) ∧ w = w' := by
  go_enter Try.func14, Try.ntmps14
  go_wp2_with (go_at_call 23; refine h.mono ?_; rintro e w' ⟨rfl, rfl⟩)
  go_ret
  exact ⟨rfl, rfl⟩

namespace Fl
theorem or_exp_int (z : Int) (v : Nat) (h0 : 0 ≤ z) (h1 : z < 4503599627370496) (hv : v < 2048) : bits .or .u64 z ((v : Int) * 4503599627370496) = (v : Int) * 4503599627370496 + z := by
  obtain ⟨a, rfl⟩ := Int.eq_ofNat_of_zero_le h0
  have := or_exp a v (by omega) hv
  rw [show ((v * 4503599627370496 : Nat) : Int) = (v : Int) * 4503599627370496 by omega] at this
  rw [this]; omega
end Fl

/-- A whole number below 2 to the 53, so many times halved. -/
theorem ldexp_rg (n s : Nat) (w : World) (h : n < 9007199254740992) (hs : s ≤ 1000) :
    Calls Try.prog 14 #[.float .f64 (Fl.rg n 1074), .int .i64 (-(s : Int))] w fun e w' => e = .returned (.float .f64 (Fl.rg n (1074 - s))) ∧ w = w' := by
  by_cases c : n = 0
  · subst c
    exact upLdexp 0 0 _ w (ldexp_nought _ w)
  obtain ⟨l, m0, m1⟩ := Fl.norm_range c h
  have er : Fl.rg n 1074 = (1022 + n.log2) * 4503599627370496 + n * 2 ^ (52 - n.log2) := by
    unfold Fl.rg; rw [if_neg c, show 1074 + n.log2 - 52 = 1022 + n.log2 by omega]
  have eq : Fl.rg n (1074 - s) = (1022 - s + n.log2) * 4503599627370496 + n * 2 ^ (52 - n.log2) := by
    unfold Fl.rg; rw [if_neg c, show 1074 - s + n.log2 - 52 = 1022 - s + n.log2 by omega]
  rw [er, eq]
  generalize n * 2 ^ (52 - n.log2) = m at *
  generalize n.log2 = L at *
  have z0 : (((1022 + L) * 4503599627370496 + m : Nat) : Int) % 4503599627370496 = m - 4503599627370496 := by omega
  have z1 : (((1022 + L) * 4503599627370496 + m : Nat) : Int) / 4503599627370496 = 1023 + L := by omega
  refine upLdexp _ _ _ w (ldexp_at _ _ _ (1023 + L) (m - 4503599627370496) w (by omega) (by omega) (by omega) (by omega) (by omega) (by omega) (by omega) (by omega) (by omega) z1 z0 ?_)
  have := Fl.or_exp_int (m - 4503599627370496) (1023 + L - s) (by omega) (by omega) (by omega)
  rw [show -(s : Int) + (1023 + (L : Int) - 1023) + 1023 = ((1023 + L - s : Nat) : Int) by omega, this]
  omega
end Go.Proofs.Ytjleacbmdpcahaa
