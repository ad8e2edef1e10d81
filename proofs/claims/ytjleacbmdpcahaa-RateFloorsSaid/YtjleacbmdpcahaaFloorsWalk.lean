/-
  The walks of the laws RateFloors and RateWholes: each returns true, whatever the input, and makes new blocks alone. No conditions.
-/
import Derived.Test.YtjleacbmdpcahaaLdexp
namespace Go.Proofs.Ytjleacbmdpcahaa
open Go.ChangeShapes Go.WideShapes Go.ChangeAt Go.RowKit

namespace Fl
theorem T_frac {n : Nat} (a : Int) (s : Nat) (h : n < 9007199254740992) (hs : s ≤ 1000) : T a (rg n (1074 - s)) = a * n / 2 ^ s :=
  T_rg a h (by omega) (by omega) (by omega)
theorem prod_bd {a n x y : Int} (a0 : 0 ≤ a) (a1 : a ≤ x) (n0 : 0 ≤ n) (n1 : n ≤ y) : 0 ≤ a * n ∧ a * n ≤ x * y :=
  ⟨Int.mul_nonneg a0 n0, Int.le_trans (Int.mul_le_mul_of_nonneg_right a1 n0) (Int.mul_le_mul_of_nonneg_left n1 (by omega))⟩
theorem div_bd {p : Int} (s : Nat) (h : 0 ≤ p) : 0 ≤ p / 2 ^ s ∧ p / 2 ^ s ≤ p :=
  ⟨Int.ediv_nonneg h (Int.le_of_lt (pow_pos s)), Int.ediv_le_self _ h⟩
end Fl

set_option maxHeartbeats 1000000 in
theorem rateFloors_walk (a : Int) (w0 : (Lit.int .u16 a).wf = true) (m : Int) (w1 : (Lit.int .u32 m).wf = true) (e : Int) (w2 : (Lit.int .u8 e).wf = true) (w : World) :
    Calls Try.prog 5 #[.int .u16 a, .int .u32 m, .int .u8 e] w fun e w' => e = .returned (.bool true) ∧ Below w.heap.size w w' := by
  have r0 : 0 ≤ a ∧ a ≤ 65535 := by simpa [Lit.wf, IntKind.min, IntKind.max, IntKind.bits, IntKind.signed] using w0
  have r1 : 0 ≤ m ∧ m ≤ 4294967295 := by simpa [Lit.wf, IntKind.min, IntKind.max, IntKind.bits, IntKind.signed] using w1
  have r2 : 0 ≤ e ∧ e ≤ 255 := by simpa [Lit.wf, IntKind.min, IntKind.max, IntKind.bits, IntKind.signed] using w2
  obtain ⟨n, rfl⟩ := Int.eq_ofNat_of_zero_le r1.1
  obtain ⟨s, hs⟩ := Int.eq_ofNat_of_zero_le (show 0 ≤ e % 61 by omega)
  have s1 : s ≤ 60 := by omega
  have hn : n < 9007199254740992 := by omega
  obtain ⟨p0, p1⟩ := Fl.prod_bd r0.1 r0.2 r1.1 r1.2
  obtain ⟨d0, d1⟩ := Fl.div_bd s p0
  have f := Fl.floatOfInt_rg hn
  have L := fun w => ldexp_rg n s w hn (by omega)
  have tt := Fl.T_frac a s hn (by omega)
  have A := fun w => times_yes a (Fl.rg n (1074 - s)) w (.inl (Fl.rg_lt hn (by omega))) r0.1 (by omega) (by rw [tt]; omega)
  rw [tt] at A
  have hlast : s = 60 → a * (n : Int) / 2 ^ s = 0 := by
    intro h
    rw [h]
    exact Int.ediv_eq_zero_of_lt p0 (by omega)
  clear tt
  generalize Fl.rg n (1074 - s) = q at *
  generalize Fl.rg n 1074 = r at *
  obtain ⟨r00, r01⟩ := r0
  obtain ⟨r10, r11⟩ := r1
  obtain ⟨r20, r21⟩ := r2
  by_cases c : s < 60
  · clear hlast
    go_enter Try.func5, Try.ntmps5
    go_wp2_with (fail)
    refine (L _).mono ?_
    rintro e w' ⟨rfl, rfl⟩
    go_wp2_with (fail)
    refine (A _).mono ?_
    rintro e w1 ⟨rfl, h1⟩
    have H1 := Lib.hid h1
    clear h1
    go_wp2_with (fail)
    refine (fawake_any _).mono ?_
    rintro e w2 ⟨rfl, h2⟩
    have H2 := Lib.hid (H1.out.trans (h2.mono H1.out.size))
    clear h2
    go_wp2
    go_ret
    exact ⟨rfl, H2.out⟩
  · have c' : s = 60 := by omega
    have z := hlast c'
    rw [z] at A
    subst c'
    clear hlast z d0 d1
    go_enter Try.func5, Try.ntmps5
    go_wp2_with (fail)
    refine (L _).mono ?_
    rintro e w' ⟨rfl, rfl⟩
    go_wp2_with (fail)
    refine (A _).mono ?_
    rintro e w1 ⟨rfl, h1⟩
    have H1 := Lib.hid h1
    clear h1
    go_wp2_with (fail)
    refine (fawake_any _).mono ?_
    rintro e w2 ⟨rfl, h2⟩
    have H2 := Lib.hid (H1.out.trans (h2.mono H1.out.size))
    clear h2
    go_wp2
    go_ret
    exact ⟨rfl, H2.out⟩

namespace Fl
theorem half_rg {n c : Nat} (h : n < 9007199254740992) (h0 : 52 ≤ c) (h1 : c ≤ 1992) : floatBits .quo .f64 (rg n (c + 1)) 4611686018427387904 = some (rg n c) := by
  refine half_exact (rg_lt h (by omega)) (rg_lt h (by omega)) ?_
  rw [N_rg h (by omega), N_rg h h0, Nat.mul_assoc, Nat.pow_succ]
end Fl

set_option maxHeartbeats 1000000 in
theorem rateWholes_walk (a : Int) (w0 : (Lit.int .u32 a).wf = true) (m : Int) (w1 : (Lit.int .u16 m).wf = true) (k : Int) (w2 : (Lit.int .u8 k).wf = true) (w : World) :
    Calls Try.prog 4 #[.int .u32 a, .int .u16 m, .int .u8 k] w fun e w' => e = .returned (.bool true) ∧ Below w.heap.size w w' := by
  have r0 : 0 ≤ a ∧ a ≤ 4294967295 := by simpa [Lit.wf, IntKind.min, IntKind.max, IntKind.bits, IntKind.signed] using w0
  have r1 : 0 ≤ m ∧ m ≤ 65535 := by simpa [Lit.wf, IntKind.min, IntKind.max, IntKind.bits, IntKind.signed] using w1
  have r2 : 0 ≤ k ∧ k ≤ 255 := by simpa [Lit.wf, IntKind.min, IntKind.max, IntKind.bits, IntKind.signed] using w2
  obtain ⟨n, rfl⟩ := Int.eq_ofNat_of_zero_le r1.1
  obtain ⟨s, hs⟩ := Int.eq_ofNat_of_zero_le (show 0 ≤ k % 30 by omega)
  have s1 : s ≤ 29 := by omega
  have hn : n < 9007199254740992 := by omega
  obtain ⟨p0, p1⟩ := Fl.prod_bd r0.1 r0.2 r1.1 r1.2
  obtain ⟨d0, d1⟩ := Fl.div_bd s p0
  have f := Fl.floatOfInt_rg hn
  have D : ∀ j : Nat, j < 30 → ∀ t w, (binOp .quo t (.float .f64 (Fl.rg n (1074 - j))) (.float .f64 4611686018427387904)).run Try.prog w = .ok (.float .f64 (Fl.rg n (1074 - (j + 1)))) w := by
    intro j hj t w
    have := Fl.half_rg (c := 1074 - (j + 1)) hn (by omega) (by omega)
    rw [show 1074 - (j + 1) + 1 = 1074 - j by omega] at this
    exact run_float_arith w .quo t .f64 _ _ _ this
  have tt := Fl.T_frac a s hn (by omega)
  have A := fun w => times_yes a (Fl.rg n (1074 - s)) w (.inl (Fl.rg_lt hn (by omega))) r0.1 (by omega) (by rw [tt]; omega)
  rw [tt] at A
  have t0 : Fl.T a (Fl.rg n 1074) = a * n := by
    rw [Fl.T_rg (j := 0) a hn (by decide) rfl (by decide), Int.pow_zero, Int.ediv_one]
  have B := fun w => times_yes a (Fl.rg n 1074) w (.inl (Fl.rg_lt hn (by omega))) r0.1 (by omega) (by rw [t0]; omega)
  rw [t0] at B
  clear tt t0
  obtain ⟨r00, r01⟩ := r0
  obtain ⟨r10, r11⟩ := r1
  obtain ⟨r20, r21⟩ := r2
  go_enter Try.func4, Try.ntmps4
  go_wp2_with (fail)
  go_loop [8, 9] (fun f i => ∃ j : Nat, j ≤ s ∧ f = .float .f64 (Fl.rg n (1074 - j)) ∧ i = .int .i64 j) (fun _ i => ((s : Int) - intOf i).toNat)
  case atStart => exact ⟨0, by omega, rfl, rfl⟩
  case round =>
    obtain ⟨j, j0, rfl, rfl⟩ := hrel
    by_cases c : j < s
    · have d := D j (by omega)
      go_wp2
      exact ⟨⟨j + 1, by omega, by rw [show 1073 - j = 1074 - (j + 1) by omega], by simp⟩, by simp [intOf]; omega⟩
    · obtain rfl : j = s := by omega
      go_wp2_with (fail)
      refine (A _).mono ?_
      rintro e w1 ⟨rfl, h1⟩
      have H1 := Lib.hid h1
      clear h1
      go_wp2_with (fail)
      refine (B _).mono ?_
      rintro e w2 ⟨rfl, h2⟩
      have H2 := Lib.hid (H1.out.trans (h2.mono H1.out.size))
      clear h2
      go_wp2_with (fail)
      refine (fawake_any _).mono ?_
      rintro e w3 ⟨rfl, h3⟩
      have H3 := Lib.hid (H2.out.trans (h3.mono H2.out.size))
      clear h3
      go_wp2
      go_ret
      exact ⟨rfl, H3.out⟩
end Go.Proofs.Ytjleacbmdpcahaa
