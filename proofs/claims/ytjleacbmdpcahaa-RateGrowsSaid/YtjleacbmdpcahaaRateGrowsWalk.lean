/-
  The walk of the law RateGrows: it returns true, whatever the input, and makes new blocks alone. No conditions.
-/
import Derived.Test.YtjleacbmdpcahaaTook
namespace Go.Proofs.Ytjleacbmdpcahaa
open Go.ChangeShapes Go.WideShapes Go.ChangeAt Go.RowKit

set_option maxHeartbeats 2000000 in
theorem rgrows_no (a b x y : Int) (w : World) (h : (a < 0 ∨ 0 ≤ a ∧ 1125899906842624 < a) ∨ (0 ≤ a ∧ a ≤ 1125899906842624) ∧ (b < 0 ∨ 0 ≤ b ∧ 1125899906842624 < b)) :
    Calls Try.prog 6 #[.int .i64 a, .int .i64 b, .int .u64 x, .int .u64 y] w fun e w' => e = .returned (.bool true) ∧ Below w.heap.size w w' := by
  rcases h with (h | ⟨h, g⟩) | ⟨⟨h0, h1⟩, (h | ⟨h, g⟩)⟩
  all_goals
    go_enter Try.func6, Try.ntmps6
    go_wp2_with (fail)
    refine (fawake_any _).mono ?_
    rintro e w1 ⟨rfl, h1⟩
    have H1 := Lib.hid h1
    clear h1
    go_wp2
    go_ret
    exact ⟨rfl, H1.out⟩

set_option maxHeartbeats 4000000 in
theorem rgrows_yes (a b x y : Int) (X Y : Nat) (w : World) (x0 : 0 ≤ x) (y0 : 0 ≤ y) (ha : 0 ≤ a ∧ a ≤ 1125899906842624) (hb : 0 ≤ b ∧ b ≤ 1125899906842624) (hX : x % 4611686018427387904 = X) (hY : y % 4611686018427387904 = Y) (kX : X < 4611686018427387904) (kY : Y < 4611686018427387904)
    (a' b' : Int) (X' Y' : Nat) (p e q h : Int) (hab : decide (b < a) = true ∧ a' = b ∧ b' = a ∨ decide (b < a) = false ∧ a' = a ∧ b' = b)
    (hXY : (FloatKind.f64.format.order X Y == some .gt) = true ∧ X' = Y ∧ Y' = X ∨ (FloatKind.f64.format.order X Y == some .gt) = false ∧ X' = X ∧ Y' = Y)
    (T1 : ∀ w, Calls Try.prog 10 #[.int .i64 a', .float .f64 X'] w fun E w' => E = .returned (.tuple #[.int .i64 p, .int .i64 e]) ∧ Below w.heap.size w w')
    (T2 : ∀ w, Calls Try.prog 10 #[.int .i64 b', .float .f64 Y'] w fun E w' => E = .returned (.tuple #[.int .i64 q, .int .i64 h]) ∧ Below w.heap.size w w')
    (hr : e = 9 ∧ h = 9 ∨ e = 0 ∧ h = 9 ∨ e = 0 ∧ h = 0 ∧ p ≤ q) :
    Calls Try.prog 6 #[.int .i64 a, .int .i64 b, .int .u64 x, .int .u64 y] w fun e w' => e = .returned (.bool true) ∧ Below w.heap.size w w' := by
  obtain ⟨a0, a1⟩ := ha
  obtain ⟨b0, b1⟩ := hb
  have d1 : decide (a < 0) = false := by simp; omega
  have d2 : decide (1125899906842624 < a) = false := by simp; omega
  have d3 : decide (b < 0) = false := by simp; omega
  have d4 : decide (1125899906842624 < b) = false := by simp; omega
  have R1 := fun w => lright_yes X w (.inl (by omega))
  have R2 := fun w => lright_yes Y w (.inl (by omega))
  rcases hab with ⟨hab, rfl, rfl⟩ | ⟨hab, rfl, rfl⟩ <;> rcases hXY with ⟨hXY, rfl, rfl⟩ | ⟨hXY, rfl, rfl⟩
  all_goals
    go_enter Try.func6, Try.ntmps6
    go_wp2_with (fail)
    refine (R1 _).mono ?_
    rintro e w' ⟨rfl, rfl⟩
    go_wp2_with (fail)
    refine (R2 _).mono ?_
    rintro e w' ⟨rfl, rfl⟩
    go_wp2_with (fail)
    refine (T1 _).mono ?_
    rintro e w1 ⟨rfl, h1⟩
    have H1 := Lib.hid h1
    clear h1
    go_wp2_with (fail)
    refine (T2 _).mono ?_
    rintro e w2 ⟨rfl, h2⟩
    have H2 := Lib.hid (H1.out.trans (h2.mono H1.out.size))
    clear h2
    rcases hr with ⟨rfl, rfl⟩ | ⟨rfl, rfl⟩ | ⟨rfl, rfl, hr⟩
    all_goals
      go_wp2_with (fail)
      refine (fawake_any _).mono ?_
      rintro e w3 ⟨rfl, h3⟩
      have H3 := Lib.hid (H2.out.trans (h3.mono H2.out.size))
      clear h3
      go_wp2
      go_ret
      exact ⟨rfl, H3.out⟩

theorem rgrows_two (a b : Int) (X Y : Nat) (ha : 0 ≤ a) (h : a ≤ b) (hb : b ≤ 1125899906842624) (g : X ≤ Y) (kY : Y < 4611686018427387904) :
    ∃ p e q h : Int, (∀ w, Calls Try.prog 10 #[.int .i64 a, .float .f64 X] w fun E w' => E = .returned (.tuple #[.int .i64 p, .int .i64 e]) ∧ Below w.heap.size w w') ∧
      (∀ w, Calls Try.prog 10 #[.int .i64 b, .float .f64 Y] w fun E w' => E = .returned (.tuple #[.int .i64 q, .int .i64 h]) ∧ Below w.heap.size w w') ∧ (e = 9 ∧ h = 9 ∨ e = 0 ∧ h = 9 ∨ e = 0 ∧ h = 0 ∧ p ≤ q) := by
  have m : Fl.T a X ≤ Fl.T b Y := Fl.T_mono h ha (by rw [Fl.V_pos (by omega), Fl.V_pos (by omega)]; exact Int.ofNat_le.2 (Fl.N_le g))
  have oX : Fl.ok X := .inl (by omega)
  have oY : Fl.ok Y := .inl (by omega)
  by_cases c : Fl.T a X ≤ 1125899906842624
  · by_cases d : Fl.T b Y ≤ 1125899906842624
    · exact ⟨_, _, _, _, fun w => times_yes a X w oX ha (by omega) c, fun w => times_yes b Y w oY (by omega) hb d, .inr (.inr ⟨rfl, rfl, m⟩)⟩
    · exact ⟨_, _, _, _, fun w => times_yes a X w oX ha (by omega) c, fun w => times_no b Y w oY (by omega) hb (by omega), .inr (.inl ⟨rfl, rfl⟩)⟩
  · exact ⟨_, _, _, _, fun w => times_no a X w oX ha (by omega) (by omega), fun w => times_no b Y w oY (by omega) hb (by omega), .inl ⟨rfl, rfl⟩⟩

theorem rateGrows_walk (a : Int) (_ : (Lit.int .i64 a).wf = true) (b : Int) (_ : (Lit.int .i64 b).wf = true) (x : Int) (w2 : (Lit.int .u64 x).wf = true) (y : Int) (w3 : (Lit.int .u64 y).wf = true) (w : World) :
    Calls Try.prog 6 #[.int .i64 a, .int .i64 b, .int .u64 x, .int .u64 y] w fun e w' => e = .returned (.bool true) ∧ Below w.heap.size w w' := by
  have r0 : 0 ≤ x := by have : 0 ≤ x ∧ x ≤ 18446744073709551615 := by simpa [Lit.wf, IntKind.min, IntKind.max, IntKind.bits, IntKind.signed] using w2
                        exact this.1
  have r1 : 0 ≤ y := by have : 0 ≤ y ∧ y ≤ 18446744073709551615 := by simpa [Lit.wf, IntKind.min, IntKind.max, IntKind.bits, IntKind.signed] using w3
                        exact this.1
  by_cases h : (0 ≤ a ∧ a ≤ 1125899906842624) ∧ (0 ≤ b ∧ b ≤ 1125899906842624)
  · obtain ⟨ha, hb⟩ := h
    obtain ⟨X, hX⟩ := Int.eq_ofNat_of_zero_le (show 0 ≤ x % 4611686018427387904 by omega)
    obtain ⟨Y, hY⟩ := Int.eq_ofNat_of_zero_le (show 0 ≤ y % 4611686018427387904 by omega)
    have kX : X < 4611686018427387904 := by omega
    have kY : Y < 4611686018427387904 := by omega
    by_cases c : b < a
    · by_cases d : Y < X
      · obtain ⟨p, e, q, h, T1, T2, hr⟩ := rgrows_two b a Y X hb.1 (by omega) ha.2 (by omega) kX
        exact rgrows_yes a b x y X Y w r0 r1 ha hb hX hY kX kY b a Y X p e q h (.inl ⟨by simp [c], rfl, rfl⟩) (.inl ⟨by show (Ieee.double.order _ _ == _) = true; rw [Fl.order_gt d (by omega)]; rfl, rfl, rfl⟩) T1 T2 hr
      · obtain ⟨p, e, q, h, T1, T2, hr⟩ := rgrows_two b a X Y hb.1 (by omega) ha.2 (by omega) kY
        refine rgrows_yes a b x y X Y w r0 r1 ha hb hX hY kX kY b a X Y p e q h (.inl ⟨by simp [c], rfl, rfl⟩) (.inr ⟨?_, rfl, rfl⟩) T1 T2 hr
        show (Ieee.double.order _ _ == _) = false
        by_cases f : X < Y
        · rw [Fl.order_lt f (by omega)]; rfl
        · rw [show X = Y by omega, Fl.order_self (by omega)]; rfl
    · by_cases d : Y < X
      · obtain ⟨p, e, q, h, T1, T2, hr⟩ := rgrows_two a b Y X ha.1 (by omega) hb.2 (by omega) kX
        exact rgrows_yes a b x y X Y w r0 r1 ha hb hX hY kX kY a b Y X p e q h (.inr ⟨by simp [c], rfl, rfl⟩) (.inl ⟨by show (Ieee.double.order _ _ == _) = true; rw [Fl.order_gt d (by omega)]; rfl, rfl, rfl⟩) T1 T2 hr
      · obtain ⟨p, e, q, h, T1, T2, hr⟩ := rgrows_two a b X Y ha.1 (by omega) hb.2 (by omega) kY
        refine rgrows_yes a b x y X Y w r0 r1 ha hb hX hY kX kY a b X Y p e q h (.inr ⟨by simp [c], rfl, rfl⟩) (.inr ⟨?_, rfl, rfl⟩) T1 T2 hr
        show (Ieee.double.order _ _ == _) = false
        by_cases f : X < Y
        · rw [Fl.order_lt f (by omega)]; rfl
        · rw [show X = Y by omega, Fl.order_self (by omega)]; rfl
  · exact rgrows_no a b x y w (by omega)
end Go.Proofs.Ytjleacbmdpcahaa
