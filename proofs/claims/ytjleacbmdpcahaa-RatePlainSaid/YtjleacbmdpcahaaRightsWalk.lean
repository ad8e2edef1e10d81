/-
  The walks of the laws RateRights, RatePlain and RateOnes: each returns true, whatever the input, and makes new blocks alone. No conditions.
-/
import Derived.Test.YtjleacbmdpcahaaTook
namespace Go.Proofs.Ytjleacbmdpcahaa
open Go.ChangeShapes Go.WideShapes Go.ChangeAt Go.RowKit

set_option maxHeartbeats 1000000 in
theorem rights_no (b : Nat) (a : Int) (w : World) (hb : b < 18446744073709551616) (h : ¬ Fl.ok b) :
    Calls Try.prog 3 #[.int .u64 b, .int .i64 a] w fun e w' => e = .returned (.bool true) ∧ Below w.heap.size w w' := by
  have t : decide (0 ≤ a) = false ∨ decide (0 ≤ a) = true ∧ decide (a ≤ 1125899906842624) = false ∨ decide (0 ≤ a) = true ∧ decide (a ≤ 1125899906842624) = true := by
    simp; omega
  rcases t with t | ⟨t, t2⟩ | ⟨t, t2⟩
  all_goals
    go_enter Try.func3, Try.ntmps3
    go_wp2_with (first | (go_at_call 10; refine (times_arg a b _ hb h).mono ?_; rintro e w' ⟨rfl, rfl⟩) | (go_at_call 11; refine (lright_no b _ hb h).mono ?_; rintro e w' ⟨rfl, rfl⟩))
    refine (fawake_any _).mono ?_
    rintro e w1 ⟨rfl, h1⟩
    have H1 := Lib.hid h1
    clear h1
    go_wp2_with (go_at_call 13; refine (rright_no b _ hb h).mono ?_; rintro e w' ⟨rfl, rfl⟩)
    go_ret
    exact ⟨rfl, H1.out⟩

set_option maxHeartbeats 1000000 in
theorem rights_money (b : Nat) (a : Int) (w : World) (h : Fl.ok b) (ha : a < 0 ∨ 0 ≤ a ∧ 1125899906842624 < a) :
    Calls Try.prog 3 #[.int .u64 b, .int .i64 a] w fun e w' => e = .returned (.bool true) ∧ Below w.heap.size w w' := by
  have T := fun w => times_money a b w h ha
  have t : decide (0 ≤ a) = false ∨ decide (0 ≤ a) = true ∧ decide (a ≤ 1125899906842624) = false := by
    rcases ha with g | ⟨g, k⟩
    · exact .inl (by simp; omega)
    · exact .inr ⟨by simp; omega, by simp; omega⟩
  clear ha
  rcases t with t | ⟨t, t2⟩
  all_goals
    go_enter Try.func3, Try.ntmps3
    go_wp2_with (first | (go_at_call 10; refine (T _).mono ?_; rintro e w' ⟨rfl, rfl⟩) | (go_at_call 11; refine (lright_yes b _ h).mono ?_; rintro e w' ⟨rfl, rfl⟩))
    refine (fawake_any _).mono ?_
    rintro e w1 ⟨rfl, h1⟩
    have H1 := Lib.hid h1
    clear h1
    go_wp2_with (go_at_call 13; refine (rright_yes b _ h).mono ?_; rintro e w' ⟨rfl, rfl⟩)
    go_ret
    exact ⟨rfl, H1.out⟩

set_option maxHeartbeats 1000000 in
theorem rights_ok (b : Nat) (a n x : Int) (w : World) (h : Fl.ok b) (h0 : 0 ≤ a) (h1 : a ≤ 1125899906842624) (hx : x = 0 ∧ 0 ≤ n ∧ n ≤ 1125899906842624 ∨ x = 9 ∧ n = 0)
    (T : ∀ w, Calls Try.prog 10 #[.int .i64 a, .float .f64 b] w fun e w' => e = .returned (.tuple #[.int .i64 n, .int .i64 x]) ∧ Below w.heap.size w w') :
    Calls Try.prog 3 #[.int .u64 b, .int .i64 a] w fun e w' => e = .returned (.bool true) ∧ Below w.heap.size w w' := by
  rcases hx with ⟨rfl, n0, n1⟩ | ⟨rfl, rfl⟩
  all_goals
    go_enter Try.func3, Try.ntmps3
    go_wp2_with (fail)
    refine (T _).mono ?_
    rintro e w1 ⟨rfl, h1⟩
    have H1 := Lib.hid h1
    clear h1
    go_wp2_with (go_at_call 11; refine (lright_yes b _ h).mono ?_; rintro e w' ⟨rfl, rfl⟩)
    refine (fawake_any _).mono ?_
    rintro e w2 ⟨rfl, h2⟩
    have H2 := Lib.hid (H1.out.trans (h2.mono H1.out.size))
    clear h2
    go_wp2_with (go_at_call 13; refine (rright_yes b _ h).mono ?_; rintro e w' ⟨rfl, rfl⟩)
    go_ret
    exact ⟨rfl, H2.out⟩

theorem rateRights_walk (x : Int) (w0 : (Lit.int .u64 x).wf = true) (a : Int) (_ : (Lit.int .i64 a).wf = true) (w : World) :
    Calls Try.prog 3 #[.int .u64 x, .int .i64 a] w fun e w' => e = .returned (.bool true) ∧ Below w.heap.size w w' := by
  have r : 0 ≤ x ∧ x ≤ 18446744073709551615 := by simpa [Lit.wf, IntKind.min, IntKind.max, IntKind.bits, IntKind.signed] using w0
  obtain ⟨b, rfl⟩ := Int.eq_ofNat_of_zero_le r.1
  by_cases h : Fl.ok b
  · by_cases g : 0 ≤ a ∧ a ≤ 1125899906842624
    · have n0 := Fl.T_nonneg b g.1
      by_cases t : Fl.T a b ≤ 1125899906842624
      · exact rights_ok b a _ 0 w h g.1 g.2 (.inl ⟨rfl, n0, t⟩) (fun w => times_yes a b w h g.1 g.2 t)
      · exact rights_ok b a 0 9 w h g.1 g.2 (.inr ⟨rfl, rfl⟩) (fun w => times_no a b w h g.1 g.2 (by omega))
    · exact rights_money b a w h (by omega)
  · exact rights_no b a w (by omega) h

set_option maxHeartbeats 1000000 in
theorem ratePlain_walk (x : Int) (w0 : (Lit.int .u64 x).wf = true) (w : World) :
    Calls Try.prog 7 #[.int .u64 x] w fun e w' => e = .returned (.bool true) ∧ Below w.heap.size w w' := by
  have r : 0 ≤ x ∧ x ≤ 18446744073709551615 := by simpa [Lit.wf, IntKind.min, IntKind.max, IntKind.bits, IntKind.signed] using w0
  obtain ⟨b, rfl⟩ := Int.eq_ofNat_of_zero_le r.1
  have nought (h : FloatKind.f64.format.order b b = some .eq) (g : FloatKind.f64.format.order b 0 = some .eq) :
      Calls Try.prog 7 #[.int .u64 b] w fun e w' => e = .returned (.bool true) ∧ Below w.heap.size w w' := by
    go_enter Try.func7, Try.ntmps7
    go_wp2_with (go_at_call 15; refine (plain_any b 0 _ (.inl ⟨g, rfl⟩)).mono ?_; rintro e w' ⟨rfl, rfl⟩)
    refine (fawake_any _).mono ?_
    rintro e w1 ⟨rfl, h1⟩
    have H1 := Lib.hid h1
    clear h1
    go_wp2
    go_ret
    exact ⟨rfl, H1.out⟩
  have other (h : FloatKind.f64.format.order b b = some .eq) (g : (FloatKind.f64.format.order b 0 == some .eq) = false) :
      Calls Try.prog 7 #[.int .u64 b] w fun e w' => e = .returned (.bool true) ∧ Below w.heap.size w w' := by
    go_enter Try.func7, Try.ntmps7
    go_wp2_with (go_at_call 15; refine (plain_any b b _ (.inr ⟨g, rfl⟩)).mono ?_; rintro e w' ⟨rfl, rfl⟩)
    refine (fawake_any _).mono ?_
    rintro e w1 ⟨rfl, h1⟩
    have H1 := Lib.hid h1
    clear h1
    go_wp2
    go_ret
    exact ⟨rfl, H1.out⟩
  have nan (h : FloatKind.f64.format.order b b = none) (g : (FloatKind.f64.format.order b 0 == some .eq) = false) :
      Calls Try.prog 7 #[.int .u64 b] w fun e w' => e = .returned (.bool true) ∧ Below w.heap.size w w' := by
    go_enter Try.func7, Try.ntmps7
    go_wp2_with (go_at_call 15; refine (plain_any b b _ (.inr ⟨g, rfl⟩)).mono ?_; rintro e w' ⟨rfl, rfl⟩)
    refine (fawake_any _).mono ?_
    rintro e w1 ⟨rfl, h1⟩
    have H1 := Lib.hid h1
    clear h1
    go_wp2
    go_ret
    exact ⟨rfl, H1.out⟩
  have ne {o : Option Ordering} (e : FloatKind.f64.format.order b 0 = o) (f : (o == some .eq) = false) : (FloatKind.f64.format.order b 0 == some .eq) = false := by rw [e]; exact f
  rcases Fl.kind_of (show b < 18446744073709551616 by omega) with g | g | ⟨g, g1⟩ | ⟨a, g, g0, g1⟩ | g | g | g
  · exact nought (by rw [g]; exact Fl.order_self (by decide)) (by rw [g]; exact Fl.order_self (by decide))
  · exact nought (by rw [g]; exact Fl.order_neg_self (a := 0) (by decide)) (by rw [g]; exact Fl.order_noughts (by decide))
  · exact other (Fl.order_self g1) (ne (Fl.order_gt g g1) rfl)
  · exact other (by rw [g]; exact Fl.order_neg_self g1) (ne (o := some .lt) (by rw [g]; exact Fl.order_neg g0 g1 (by decide)) rfl)
  · exact other (by rw [g]; decide +kernel) (ne (o := some .gt) (by rw [g]; exact Fl.order_inf (by decide)) rfl)
  · exact other (by rw [g]; decide +kernel) (ne (o := some .lt) (by rw [g]; exact Fl.order_ninf (by decide)) rfl)
  · exact nan (Fl.order_nan b g) (ne (Fl.order_nan 0 g) rfl)

namespace Fl
theorem T_one (n : Int) : T n 4607182418800017408 = n := by
  have e : (4607182418800017408 : Nat) = rg 1 1074 := by decide +kernel
  rw [e, T_rg (j := 0) n (by decide) (by decide) rfl (by decide)]
  simp
theorem T_half (n : Int) : T n 4602678819172646912 = n / 2 := by
  have e : (4602678819172646912 : Nat) = rg 1 1073 := by decide +kernel
  rw [e, T_rg (j := 1) n (by decide) (by decide) rfl (by decide)]
  simp
theorem T_of (n : Nat) (h : n < 9007199254740992) : T 1 (rg n 1074) = n := by
  rw [T_rg (j := 0) 1 h (by decide) rfl (by decide)]
  simp
end Fl

set_option maxHeartbeats 2000000 in
theorem rateOnes_walk (x : Int) (w0 : (Lit.int .u64 x).wf = true) (w : World) :
    Calls Try.prog 8 #[.int .u64 x] w fun e w' => e = .returned (.bool true) ∧ Below w.heap.size w w' := by
  have r : 0 ≤ x ∧ x ≤ 18446744073709551615 := by simpa [Lit.wf, IntKind.min, IntKind.max, IntKind.bits, IntKind.signed] using w0
  have n0 : 0 ≤ x % 1125899906842625 := by omega
  have n1 : x % 1125899906842625 ≤ 1125899906842624 := by omega
  have A := fun w => times_yes (x % 1125899906842625) 4607182418800017408 w (.inl (by decide)) n0 n1 (by rw [Fl.T_one]; exact n1)
  rw [Fl.T_one] at A
  have B := fun w => times_yes (x % 1125899906842625) 4602678819172646912 w (.inl (by decide)) n0 n1 (by rw [Fl.T_half]; omega)
  rw [Fl.T_half] at B
  have C := fun w => times_nought (x % 1125899906842625) 0 w (.inl rfl) n0 n1
  have hn : ((x % 1125899906842625).toNat : Int) = x % 1125899906842625 := Int.toNat_of_nonneg n0
  have hl : (x % 1125899906842625).toNat < 9007199254740992 := by omega
  have f : floatOfInt .f64 (x % 1125899906842625) = Fl.rg (x % 1125899906842625).toNat 1074 := by
    have := Fl.floatOfInt_rg hl
    rw [hn] at this
    exact this
  have D := fun w => times_yes 1 (Fl.rg (x % 1125899906842625).toNat 1074) w (.inl (Fl.rg_lt hl (by decide))) (by decide) (by decide) (by rw [Fl.T_of _ hl]; omega)
  rw [Fl.T_of _ hl, hn] at D
  clear hn hl
  generalize Fl.rg (x % 1125899906842625).toNat 1074 = q at *
  go_enter Try.func8, Try.ntmps8
  go_wp2_with (fail)
  refine (A _).mono ?_
  rintro e w1 ⟨rfl, h1⟩
  have H1 := Lib.hid h1
  clear h1
  go_wp2_with (fail)
  refine (B _).mono ?_
  rintro e w2 ⟨rfl, h2⟩
  have H2 := Lib.hid (H1.out.trans (h2.mono H1.out.size))
  clear h2
  go_wp2_with (fail)
  refine (C _).mono ?_
  rintro e w3 ⟨rfl, h3⟩
  have H3 := Lib.hid (H2.out.trans (h3.mono H2.out.size))
  clear h3
  go_wp2_with (fail)
  refine (D _).mono ?_
  rintro e w4 ⟨rfl, h4⟩
  have H4 := Lib.hid (H3.out.trans (h4.mono H3.out.size))
  clear h4
  go_wp2_with (fail)
  refine (fawake_any _).mono ?_
  rintro e w5 ⟨rfl, h5⟩
  have H5 := Lib.hid (H4.out.trans (h5.mono H4.out.size))
  clear h5
  go_wp2
  go_ret
  exact ⟨rfl, H5.out⟩
end Go.Proofs.Ytjleacbmdpcahaa
