/-
  Contract of the function that takes the day of a month, or its last one. No conditions but that there is such a month.
-/
import Derived.Test.YtblikgbcakgdnaaGreatBr02
import Derived.Test.YtblikgbcakgdnaaGreatBr05
import Derived.Test.YtblikgbcakgdnaaGreatBr07
set_option linter.unusedSimpArgs false
set_option linter.unusedVariables false
namespace Go.Proofs.YtblikgbcakgdnaaGreat
open Go.ChangeShapes Go.WideShapes Go.ChangeAt Go.RowKit
open Cal (leap mon)

set_option maxHeartbeats 400000 in
theorem clamp_any (y m d c : Int) (w : World) (m1 : 1 ≤ m) (m2 : m ≤ 12) (h : d ≤ 1 ∧ c = 1 ∨ 1 < d ∧ d ≤ mon y m ∧ c = d ∨ mon y m < d ∧ c = mon y m) :
    Calls Tryz.prog 138 #[.int .i64 y, .int .i64 m, .int .i64 d] w fun e w' => e = .returned (.agg #[.int .i64 y, .int .i64 m, .int .i64 c]) ∧ Below w.heap.size w w' := by
  have ml := Cal.mon_28 y m m1 m2
  rcases h with ⟨h, rfl⟩ | ⟨h, g, rfl⟩ | ⟨h, rfl⟩
  all_goals
    go_enter Tryz.func138, Tryz.ntmps138
    go_wp2_with (go_at_call 136; refine (month_any _ _ _).mono ?_; rintro e w' ⟨rfl, rfl⟩)
  all_goals first
    | exact bodyPost_ret (v := .agg #[.int .i64 y, .int .i64 m, .int .i64 1]) (by simp [results, Tryz.results138, go_sem] <;> omega) rfl ⟨rfl, by go_grown⟩
    | exact bodyPost_ret (v := .agg #[.int .i64 y, .int .i64 m, .int .i64 d]) (by simp [results, Tryz.results138, go_sem] <;> omega) rfl ⟨rfl, by go_grown⟩
    | exact bodyPost_ret (v := .agg #[.int .i64 y, .int .i64 m, .int .i64 c]) (by simp [results, Tryz.results138, go_sem] <;> omega) rfl ⟨rfl, by go_grown⟩
    | exact bodyPost_ret (v := .agg #[.int .i64 y, .int .i64 m, .int .i64 (mon y m)]) (by simp [results, Tryz.results138, go_sem] <;> omega) rfl ⟨rfl, by go_grown⟩
end Go.Proofs.YtblikgbcakgdnaaGreat
/-
  Contracts of package season: which periods may be, their first days, how many have begun, and the period of a day. No conditions but the numbers' own ranges.
-/
namespace Go.Proofs.YtblikgbcakgdnaaGreat
open Go.ChangeShapes Go.WideShapes Go.ChangeAt Go.RowKit
open Cal (leap mon)

theorem ret_ib {a b : Int} {c : Bool} (h : a = b) : Ending.returned (.tuple #[.int .i64 a, .bool c]) = .returned (.tuple #[.int .i64 b, .bool c]) := by rw [h]
set_option maxHeartbeats 400000 in
theorem isDay_yes (a k d : Int) (w : World) (h : Cal.At a k d) :
    Calls Tryz.prog 121 #[.int .i64 a] w fun e w' => e = .returned (.bool true) ∧ Below w.heap.size w w' := by
  obtain ⟨hr, hn⟩ := h.right
  have HR := Lib.hid hr
  have HN := Lib.hid hn
  clear hr hn h
  go_enter Tryz.func121, Tryz.ntmps121
  go_wp2_with fail
  refine (of_yes _ _ _ _ _ HR.out HN.out).mono ?_
  rintro e w1 ⟨rfl, h1⟩
  go_wp2
  go_ret
  exact ⟨rfl, h1.alloc h1.size _⟩
set_option maxHeartbeats 400000 in
theorem monthOf_yes (a k d : Int) (w : World) (h : Cal.At a k d) :
    Calls Tryz.prog 133 #[.int .i64 a] w fun e w' => e = .returned (.int .i64 k) ∧ Below w.heap.size w w' := by
  obtain ⟨hr, hn⟩ := h.right
  have HR := Lib.hid hr
  have HN := Lib.hid hn
  have k0 := h.k0
  have k1 := h.k1
  have EK := Lib.hid (show k / 12 * 12 + (k % 12 + 1) - 1 = k by omega)
  have y0 : 0 ≤ k / 12 ∧ k / 12 ≤ 9998 := by omega
  have m0 : 0 ≤ k % 12 ∧ k % 12 ≤ 11 := by omega
  clear hr hn h
  generalize k / 12 = q at *
  generalize k % 12 = r at *
  go_enter Tryz.func133, Tryz.ntmps133
  go_wp2_with fail
  refine (of_yes _ _ _ _ _ HR.out HN.out).mono ?_
  rintro e w1 ⟨rfl, h1⟩
  go_wp2
  go_ret
  exact ⟨ret_int EK.out, h1.alloc h1.size _⟩

set_option maxHeartbeats 400000 in
theorem stepOf_days (u e : Int) (w : World) (h0 : 0 ≤ u) (h : u < 2) (h1 : 1 ≤ e) (h2 : e ≤ 12000) :
    Calls Tryz.prog 131 #[.int .u8 u, .int .i64 e] w fun r w' => r = .returned (.tuple #[.int .i64 (Cal.stp u e), .bool false]) ∧ w = w' := by
  rcases (show u = 0 ∨ u = 1 by omega) with rfl | rfl
  all_goals
    go_enter Tryz.func131, Tryz.ntmps131
    go_wp2
    go_ret2
    exact ⟨ret_ib (by simp [Cal.stp]), rfl⟩
set_option maxHeartbeats 400000 in
theorem stepOf_months (u e : Int) (w : World) (h0 : ¬ u < 2) (h : u ≤ 3) (h1 : 1 ≤ e) (h2 : e ≤ 12000) :
    Calls Tryz.prog 131 #[.int .u8 u, .int .i64 e] w fun r w' => r = .returned (.tuple #[.int .i64 (Cal.stp u e), .bool true]) ∧ w = w' := by
  rcases (show u = 2 ∨ u = 3 by omega) with rfl | rfl
  all_goals
    go_enter Tryz.func131, Tryz.ntmps131
    go_wp2
    go_ret2
    exact ⟨ret_ib (by simp [Cal.stp]), rfl⟩

theorem Cal.fit {x n s : Int} (hs : 1 ≤ s) : n ≤ x / s ↔ n * s ≤ x := Int.le_ediv_iff_mul_le (by omega)
theorem Cal.clamped {d K : Int} (h : 1 ≤ d) : d ≤ 1 ∧ Cal.low d K = 1 ∨ 1 < d ∧ d ≤ mon (K / 12 + 1) (K % 12 + 1) ∧ Cal.low d K = d ∨ mon (K / 12 + 1) (K % 12 + 1) < d ∧ Cal.low d K = mon (K / 12 + 1) (K % 12 + 1) := by
  have := Cal.ml_bd K
  unfold Cal.low Cal.ml at *
  split <;> omega

set_option maxHeartbeats 800000 in
theorem monthsOn_no (a k d s n : Int) (w : World) (h : Cal.At a k d) (s0 : 1 ≤ s) (s1 : s ≤ 144000) (ho : 119987 < k + n * s) :
    Calls Tryz.prog 132 #[.int .i64 a, .int .i64 s, .int .i64 n] w fun r w' => r = .returned (.tuple #[.int .i64 0, .int .i64 6]) ∧ Below w.heap.size w w' := by
  have k0 := h.k0
  have k1 := h.k1
  have q0 : 0 ≤ (119987 - k) / s := Int.ediv_nonneg (by omega) (by omega)
  have q1 : (119987 - k) / s ≤ 119987 - k := Int.ediv_le_self _ (by omega)
  have t : (119987 - k) / s < n := by
    apply Int.lt_of_not_ge; intro c
    have := (Cal.fit s0).1 c; omega
  have z : (s == 0) = false := beq_eq_false_iff_ne.2 (by omega)
  have z2 : s ≠ 0 := by omega
  have H := Lib.hid h
  clear h ho
  go_enter Tryz.func132, Tryz.ntmps132
  go_wp2_with fail
  refine (monthOf_yes _ _ _ _ H.out).mono ?_
  rintro e w1 ⟨rfl, h1⟩
  go_wp2
  go_ret2
  exact ⟨rfl, h1⟩

set_option maxHeartbeats 1000000 in
theorem monthsOn_yes (a k d s n : Int) (w : World) (h : Cal.At a k d) (s0 : 1 ≤ s) (s1 : s ≤ 144000) (n0 : 0 ≤ n) (ho : k + n * s ≤ 119987) :
    Calls Tryz.prog 132 #[.int .i64 a, .int .i64 s, .int .i64 n] w fun r w' => r = .returned (.tuple #[.int .i64 (Cal.nthM d (k + n * s)), .int .i64 0]) ∧ Below w.heap.size w w' := by
  have k0 := h.k0
  have k1 := h.k1
  have d0 := h.d0
  have q0 : 0 ≤ (119987 - k) / s := Int.ediv_nonneg (by omega) (by omega)
  have q1 : (119987 - k) / s ≤ 119987 - k := Int.ediv_le_self _ (by omega)
  have t : n ≤ (119987 - k) / s := (Cal.fit s0).2 (by omega)
  have t' : decide ((119987 - k) / s < n) = false := by simp; omega
  have ns : 0 ≤ n * s := Int.mul_nonneg n0 (by omega)
  have z : (s == 0) = false := beq_eq_false_iff_ne.2 (by omega)
  have z2 : s ≠ 0 := by omega
  have K := Cal.nthM_at d0 (show 0 ≤ k + n * s by omega) ho
  obtain ⟨lr, ln⟩ := K.right
  have CL := Lib.hid (Cal.clamped (K := k + n * s) d0)
  have LR := Lib.hid lr
  have LN := Lib.hid ln
  obtain ⟨hr, hn⟩ := h.right
  have HR := Lib.hid hr
  have HN := Lib.hid hn
  have H := Lib.hid h
  clear h lr ln K hr hn
  go_enter Tryz.func132, Tryz.ntmps132
  go_wp2_with fail
  refine (monthOf_yes _ _ _ _ H.out).mono ?_
  rintro e w1 ⟨rfl, h1⟩
  go_wp2_with fail
  refine (of_yes _ _ _ _ _ HR.out HN.out).mono ?_
  rintro e w2 ⟨rfl, h2⟩
  have hz2 := h2.size
  go_wp2_with fail
  refine (clamp_any _ _ _ _ _ (by omega) (by omega) CL.out).mono ?_
  rintro e w3 ⟨rfl, h3⟩
  go_wp2_with fail
  refine (number_yes _ _ _ _ LR.out).mono ?_
  rintro e w4 ⟨rfl, h4⟩
  have hh : Below w.heap.size w w4 := ((((h1.trans (h2.mono h1.size)).alloc (by have := h1.size; omega) _).trans (h3.mono (by have := h1.size; simp; omega))).trans (h4.mono (by have := h1.size; have := h3.size; simp at this; omega)))
  rw [LN.out]
  go_wp2
  go_ret2
  exact ⟨rfl, hh⟩

set_option maxHeartbeats 800000 in
theorem begin_yes (a k d u e n : Int) (w : World) (h : Cal.At a k d) (u0 : 0 ≤ u) (u1 : u ≤ 3) (e0 : 1 ≤ e) (e1 : e ≤ 12000) (n0 : 0 ≤ n) (ho : Cal.okN u a k e n = true) :
    Calls Tryz.prog 122 #[.int .i64 a, .int .u8 u, .int .i64 e, .int .i64 n] w fun r w' => r = .returned (.tuple #[.int .i64 (Cal.vN u a k d e n), .int .i64 0]) ∧ Below w.heap.size w w' := by
  obtain ⟨s0, s1⟩ := Cal.stp_bd (u := u) e0 e1
  by_cases c : u < 2
  · obtain ⟨a0, a1⟩ := h.bd
    rw [Cal.okN_days c] at ho
    rw [Cal.vN_days c]
    have ns : 0 ≤ n * Cal.stp u e := Int.mul_nonneg n0 (by omega)
    have q0 : 0 ≤ (3652058 - a) / Cal.stp u e := Int.ediv_nonneg (by omega) (by omega)
    have q1 : (3652058 - a) / Cal.stp u e ≤ 3652058 - a := Int.ediv_le_self _ (by omega)
    have t : n ≤ (3652058 - a) / Cal.stp u e := (Cal.fit s0).2 (by omega)
    have t' : decide ((3652058 - a) / Cal.stp u e < n) = false := by simp; omega
    have z : (Cal.stp u e == 0) = false := beq_eq_false_iff_ne.2 (by omega)
    have z2 : Cal.stp u e ≠ 0 := by omega
    go_enter Tryz.func122, Tryz.ntmps122
    go_wp2_with (go_at_call 131; refine (stepOf_days u e _ u0 c e0 e1).mono ?_; rintro e w' ⟨rfl, rfl⟩)
    go_ret2
    exact ⟨rfl, Below.refl _ _⟩
  · rw [Cal.okN_months c] at ho
    rw [Cal.vN_months c]
    have H := Lib.hid h
    clear h
    go_enter Tryz.func122, Tryz.ntmps122
    go_wp2_with (go_at_call 131; refine (stepOf_months u e _ c u1 e0 e1).mono ?_; rintro e w' ⟨rfl, rfl⟩)
    refine (monthsOn_yes _ _ _ _ _ _ H.out s0 s1 n0 ho).mono ?_
    rintro e w1 ⟨rfl, h1⟩
    go_wp2
    go_ret2
    exact ⟨rfl, h1⟩
set_option maxHeartbeats 800000 in
theorem begin_no (a k d u e n : Int) (w : World) (h : Cal.At a k d) (u0 : 0 ≤ u) (u1 : u ≤ 3) (e0 : 1 ≤ e) (e1 : e ≤ 12000) (ho : Cal.okN u a k e n = false) :
    Calls Tryz.prog 122 #[.int .i64 a, .int .u8 u, .int .i64 e, .int .i64 n] w fun r w' => r = .returned (.tuple #[.int .i64 0, .int .i64 6]) ∧ Below w.heap.size w w' := by
  obtain ⟨s0, s1⟩ := Cal.stp_bd (u := u) e0 e1
  by_cases c : u < 2
  · obtain ⟨a0, a1⟩ := h.bd
    rw [Cal.no_days c] at ho
    have q0 : 0 ≤ (3652058 - a) / Cal.stp u e := Int.ediv_nonneg (by omega) (by omega)
    have q1 : (3652058 - a) / Cal.stp u e ≤ 3652058 - a := Int.ediv_le_self _ (by omega)
    have t : (3652058 - a) / Cal.stp u e < n := by
      apply Int.lt_of_not_ge; intro c
      have := (Cal.fit s0).1 c; omega
    have z : (Cal.stp u e == 0) = false := beq_eq_false_iff_ne.2 (by omega)
    have z2 : Cal.stp u e ≠ 0 := by omega
    go_enter Tryz.func122, Tryz.ntmps122
    go_wp2_with (go_at_call 131; refine (stepOf_days u e _ u0 c e0 e1).mono ?_; rintro e w' ⟨rfl, rfl⟩)
    go_ret2
    exact ⟨rfl, Below.refl _ _⟩
  · rw [Cal.no_months c] at ho
    have H := Lib.hid h
    clear h
    go_enter Tryz.func122, Tryz.ntmps122
    go_wp2_with (go_at_call 131; refine (stepOf_months u e _ c u1 e0 e1).mono ?_; rintro e w' ⟨rfl, rfl⟩)
    refine (monthsOn_no _ _ _ _ _ _ H.out s0 s1 ho).mono ?_
    rintro e w1 ⟨rfl, h1⟩
    go_wp2
    go_ret2
    exact ⟨rfl, h1⟩

set_option maxHeartbeats 800000 in
theorem nth_yes (a k d u e n : Int) (w : World) (h : Cal.At a k d) (u0 : 0 ≤ u) (u1 : u ≤ 3) (e0 : 1 ≤ e) (e1 : e ≤ 1000) (n0 : 0 ≤ n) (n1 : n ≤ 3652058) (ho : Cal.okN u a k e n = true) :
    Calls Tryz.prog 107 #[.int .i64 a, .int .u8 u, .int .i64 e, .int .i64 n] w fun r w' => r = .returned (.tuple #[.int .i64 (Cal.vN u a k d e n), .int .i64 0]) ∧ Below w.heap.size w w' := by
  have H := Lib.hid h
  have HO := Lib.hid ho
  have t : decide (n < 0) = false := by simp; omega
  have t' : decide (3652058 < n) = false := by simp; omega
  clear h ho
  go_enter Tryz.func107, Tryz.ntmps107
  go_wp2_with fail
  refine (isDay_yes _ _ _ _ H.out).mono ?_
  rintro e w1 ⟨rfl, h1⟩
  go_wp2_with (go_at_call 53; refine (sright_yes _ _ _ u1 e0 e1).mono ?_; rintro e w' ⟨rfl, rfl⟩)
  refine (begin_yes _ _ _ _ _ _ _ H.out u0 u1 e0 (by omega) n0 HO.out).mono ?_
  rintro e w2 ⟨rfl, h2⟩
  go_wp2
  go_ret2
  exact ⟨rfl, h1.trans (h2.mono h1.size)⟩
set_option maxHeartbeats 800000 in
theorem nth_long (a k d u e n : Int) (w : World) (h : Cal.At a k d) (u0 : 0 ≤ u) (u1 : u ≤ 3) (e0 : 1 ≤ e) (e1 : e ≤ 1000) (n0 : 0 ≤ n) (n1 : n ≤ 3652058) (ho : Cal.okN u a k e n = false) :
    Calls Tryz.prog 107 #[.int .i64 a, .int .u8 u, .int .i64 e, .int .i64 n] w fun r w' => r = .returned (.tuple #[.int .i64 0, .int .i64 6]) ∧ Below w.heap.size w w' := by
  have H := Lib.hid h
  have HO := Lib.hid ho
  have t : decide (n < 0) = false := by simp; omega
  have t' : decide (3652058 < n) = false := by simp; omega
  clear h ho
  go_enter Tryz.func107, Tryz.ntmps107
  go_wp2_with fail
  refine (isDay_yes _ _ _ _ H.out).mono ?_
  rintro e w1 ⟨rfl, h1⟩
  go_wp2_with (go_at_call 53; refine (sright_yes _ _ _ u1 e0 e1).mono ?_; rintro e w' ⟨rfl, rfl⟩)
  refine (begin_no _ _ _ _ _ _ _ H.out u0 u1 e0 (by omega) HO.out).mono ?_
  rintro e w2 ⟨rfl, h2⟩
  go_wp2
  go_ret2
  exact ⟨rfl, h1.trans (h2.mono h1.size)⟩
end Go.Proofs.YtblikgbcakgdnaaGreat
/-
  Contracts of package season, continued: how many periods have begun up to a day, and the period in which a day lies. No conditions but the numbers' own ranges.
-/
namespace Go.Proofs.YtblikgbcakgdnaaGreat
open Go.ChangeShapes Go.WideShapes Go.ChangeAt Go.RowKit

set_option maxHeartbeats 1600000 in
theorem count_yes (a k d u e day c : Int) (w : World) (h : Cal.At a k d) (u0 : 0 ≤ u) (u1 : u ≤ 3) (e0 : 1 ≤ e) (e1 : e ≤ 1000) (m0 : 0 ≤ day) (m1 : day ≤ 3652058) (hc : Cal.Cnt u a k d e day c) :
    Calls Tryz.prog 127 #[.int .i64 a, .int .u8 u, .int .i64 e, .int .i64 day] w fun r w' => r = .returned (.tuple #[.int .i64 c, .int .i64 0]) ∧ Below w.heap.size w w' := by
  obtain ⟨l, f, hb⟩ := Cal.at_of day m0 m1
  obtain ⟨a0, a1⟩ := h.bd
  obtain ⟨s0, s1⟩ := Cal.stp_bd (u := u) e0 (show e ≤ 12000 by omega)
  have z : (Cal.stp u e == 0) = false := beq_eq_false_iff_ne.2 (by omega)
  have z2 : Cal.stp u e ≠ 0 := by omega
  by_cases hd : day < a
  · obtain rfl := hc.one (Cal.Cnt.before h hd)
    have H := Lib.hid h
    have HB := Lib.hid hb
    clear h hb hc
    go_enter Tryz.func127, Tryz.ntmps127
    go_wp2_with fail
    refine (isDay_yes _ _ _ _ H.out).mono ?_
    rintro e w1 ⟨rfl, h1⟩
    go_wp2_with (go_at_call 53; refine (sright_yes _ _ _ u1 e0 e1).mono ?_; rintro e w' ⟨rfl, rfl⟩)
    refine (isDay_yes _ _ _ _ HB.out).mono ?_
    rintro e w2 ⟨rfl, h2⟩
    go_wp2
    go_ret2
    exact ⟨rfl, h1.trans (h2.mono h1.size)⟩
  · by_cases g : u < 2
    · obtain rfl := hc.one (Cal.Cnt.days e0 (by omega) m1 g)
      have q0 : 0 ≤ (day - a) / Cal.stp u e := Int.ediv_nonneg (by omega) (by omega)
      have q1 : (day - a) / Cal.stp u e ≤ day - a := Int.ediv_le_self _ (by omega)
      have H := Lib.hid h
      have HB := Lib.hid hb
      clear h hb hc
      go_enter Tryz.func127, Tryz.ntmps127
      go_wp2_with fail
      refine (isDay_yes _ _ _ _ H.out).mono ?_
      rintro e w1 ⟨rfl, h1⟩
      go_wp2_with (go_at_call 53; refine (sright_yes _ _ _ u1 e0 e1).mono ?_; rintro e w' ⟨rfl, rfl⟩)
      refine (isDay_yes _ _ _ _ HB.out).mono ?_
      rintro e w2 ⟨rfl, h2⟩
      go_wp2_with (go_at_call 131; refine (stepOf_days _ _ _ u0 g e0 (by omega)).mono ?_; rintro e w' ⟨rfl, rfl⟩)
      go_ret2
      exact ⟨rfl, h1.trans (h2.mono h1.size)⟩
    · obtain ⟨x1, x2, x3, x4⟩ := Cal.Cnt.months (u := u) h e0 hb (by omega) g
      have k0 := h.k0
      have k1 := h.k1
      have l0 := hb.k0
      have l1 := hb.k1
      have lk := h.le hb (by omega)
      have q1 : (l - k) / Cal.stp u e ≤ l - k := Int.ediv_le_self _ (by omega)
      have H := Lib.hid h
      have HB := Lib.hid hb
      have X4 := Lib.hid x4
      by_cases b : Cal.vN u a k d e ((l - k) / Cal.stp u e) ≤ day
      · obtain rfl := hc.one (x1 b)
        clear h hb hc x1 x2 x4
        go_enter Tryz.func127, Tryz.ntmps127
        go_wp2_with fail
        refine (isDay_yes _ _ _ _ H.out).mono ?_
        rintro e w1 ⟨rfl, h1⟩
        go_wp2_with (go_at_call 53; refine (sright_yes _ _ _ u1 e0 e1).mono ?_; rintro e w' ⟨rfl, rfl⟩)
        refine (isDay_yes _ _ _ _ HB.out).mono ?_
        rintro e w2 ⟨rfl, h2⟩
        go_wp2_with (go_at_call 131; refine (stepOf_months _ _ _ (by omega) u1 e0 (by omega)).mono ?_; rintro e w' ⟨rfl, rfl⟩)
        refine (monthOf_yes _ _ _ _ HB.out).mono ?_
        rintro e w3 ⟨rfl, h3⟩
        go_wp2_with fail
        refine (monthOf_yes _ _ _ _ H.out).mono ?_
        rintro e w4 ⟨rfl, h4⟩
        go_wp2_with fail
        refine (begin_yes _ _ _ _ _ _ _ H.out u0 u1 e0 (by omega) x3 X4.out).mono ?_
        rintro e w5 ⟨rfl, h5⟩
        have hh := (((h1.trans (h2.mono h1.size)).trans (h3.mono (by have := h1.size; have := h2.size; omega))).trans (h4.mono (by have := h1.size; have := h2.size; have := h3.size; omega))).trans (h5.mono (by have := h1.size; have := h2.size; have := h3.size; have := h4.size; omega))
        go_wp2
        go_ret2
        exact ⟨rfl, hh⟩
      · obtain rfl := hc.one (x2 (by omega))
        clear h hb hc x1 x2 x4
        go_enter Tryz.func127, Tryz.ntmps127
        go_wp2_with fail
        refine (isDay_yes _ _ _ _ H.out).mono ?_
        rintro e w1 ⟨rfl, h1⟩
        go_wp2_with (go_at_call 53; refine (sright_yes _ _ _ u1 e0 e1).mono ?_; rintro e w' ⟨rfl, rfl⟩)
        refine (isDay_yes _ _ _ _ HB.out).mono ?_
        rintro e w2 ⟨rfl, h2⟩
        go_wp2_with (go_at_call 131; refine (stepOf_months _ _ _ (by omega) u1 e0 (by omega)).mono ?_; rintro e w' ⟨rfl, rfl⟩)
        refine (monthOf_yes _ _ _ _ HB.out).mono ?_
        rintro e w3 ⟨rfl, h3⟩
        go_wp2_with fail
        refine (monthOf_yes _ _ _ _ H.out).mono ?_
        rintro e w4 ⟨rfl, h4⟩
        go_wp2_with fail
        refine (begin_yes _ _ _ _ _ _ _ H.out u0 u1 e0 (by omega) x3 X4.out).mono ?_
        rintro e w5 ⟨rfl, h5⟩
        have hh := (((h1.trans (h2.mono h1.size)).trans (h3.mono (by have := h1.size; have := h2.size; omega))).trans (h4.mono (by have := h1.size; have := h2.size; have := h3.size; omega))).trans (h5.mono (by have := h1.size; have := h2.size; have := h3.size; have := h4.size; omega))
        go_wp2
        go_ret2
        exact ⟨rfl, hh⟩

set_option maxHeartbeats 800000 in
theorem span_before (a k d u e day : Int) (w : World) (h : Cal.At a k d) (u0 : 0 ≤ u) (u1 : u ≤ 3) (e0 : 1 ≤ e) (e1 : e ≤ 1000) (m0 : 0 ≤ day) (m1 : day ≤ 3652058) (hd : day < a) :
    Calls Tryz.prog 118 #[.int .i64 a, .int .u8 u, .int .i64 e, .int .i64 day] w fun r w' => r = .returned (.tuple #[.int .i64 0, .int .i64 0, .int .i64 2]) ∧ Below w.heap.size w w' := by
  have H := Lib.hid h
  have HD := Lib.hid hd
  clear h hd
  go_enter Tryz.func118, Tryz.ntmps118
  go_wp2_with fail
  refine (count_yes _ _ _ _ _ _ _ _ H.out u0 u1 e0 e1 m0 m1 (Cal.Cnt.before H.out HD.out)).mono ?_
  rintro e w1 ⟨rfl, h1⟩
  go_wp2
  go_ret3
  exact ⟨rfl, h1⟩
set_option maxHeartbeats 800000 in
theorem span_long (a k d u e day c : Int) (w : World) (h : Cal.At a k d) (u0 : 0 ≤ u) (u1 : u ≤ 3) (e0 : 1 ≤ e) (e1 : e ≤ 1000) (m0 : 0 ≤ day) (m1 : day ≤ 3652058) (hd : a ≤ day) (hc : Cal.Cnt u a k d e day c) (ho : Cal.okN u a k e c = false) :
    Calls Tryz.prog 118 #[.int .i64 a, .int .u8 u, .int .i64 e, .int .i64 day] w fun r w' => r = .returned (.tuple #[.int .i64 0, .int .i64 0, .int .i64 6]) ∧ Below w.heap.size w w' := by
  have c1 := hc.pos h hd
  obtain ⟨x, y⟩ := hc.all (c - 1) (by omega) (by omega)
  have z : (c == 0) = false := beq_eq_false_iff_ne.2 (by omega)
  have a0 := h.bd
  have c2 := hc.le h e0 c1
  have H := Lib.hid h
  have HC := Lib.hid hc
  have HO := Lib.hid ho
  have X := Lib.hid x
  clear h hc ho x
  go_enter Tryz.func118, Tryz.ntmps118
  go_wp2_with fail
  refine (count_yes _ _ _ _ _ _ _ _ H.out u0 u1 e0 e1 m0 m1 HC.out).mono ?_
  rintro e w1 ⟨rfl, h1⟩
  go_wp2_with fail
  refine (begin_yes _ _ _ _ _ _ _ H.out u0 u1 e0 (by omega) (by omega) X.out).mono ?_
  rintro e w2 ⟨rfl, h2⟩
  go_wp2_with fail
  refine (begin_no _ _ _ _ _ _ _ H.out u0 u1 e0 (by omega) HO.out).mono ?_
  rintro e w3 ⟨rfl, h3⟩
  have hh := (h1.trans (h2.mono h1.size)).trans (h3.mono (by have := h1.size; have := h2.size; omega))
  go_wp2
  go_ret3
  exact ⟨rfl, hh⟩
set_option maxHeartbeats 800000 in
theorem span_yes (a k d u e day c : Int) (w : World) (h : Cal.At a k d) (u0 : 0 ≤ u) (u1 : u ≤ 3) (e0 : 1 ≤ e) (e1 : e ≤ 1000) (m0 : 0 ≤ day) (m1 : day ≤ 3652058) (hd : a ≤ day) (hc : Cal.Cnt u a k d e day c) (ho : Cal.okN u a k e c = true) :
    Calls Tryz.prog 118 #[.int .i64 a, .int .u8 u, .int .i64 e, .int .i64 day] w fun r w' => r = .returned (.tuple #[.int .i64 (Cal.vN u a k d e (c - 1)), .int .i64 (Cal.vN u a k d e c), .int .i64 0]) ∧ Below w.heap.size w w' := by
  have c1 := hc.pos h hd
  obtain ⟨x, y⟩ := hc.all (c - 1) (by omega) (by omega)
  have z : (c == 0) = false := beq_eq_false_iff_ne.2 (by omega)
  have a0 := h.bd
  have c2 := hc.le h e0 c1
  have H := Lib.hid h
  have HC := Lib.hid hc
  have HO := Lib.hid ho
  have X := Lib.hid x
  clear h hc ho x
  go_enter Tryz.func118, Tryz.ntmps118
  go_wp2_with fail
  refine (count_yes _ _ _ _ _ _ _ _ H.out u0 u1 e0 e1 m0 m1 HC.out).mono ?_
  rintro e w1 ⟨rfl, h1⟩
  go_wp2_with fail
  refine (begin_yes _ _ _ _ _ _ _ H.out u0 u1 e0 (by omega) (by omega) X.out).mono ?_
  rintro e w2 ⟨rfl, h2⟩
  go_wp2_with fail
  refine (begin_yes _ _ _ _ _ _ _ H.out u0 u1 e0 (by omega) (by omega) HO.out).mono ?_
  rintro e w3 ⟨rfl, h3⟩
  have hh := (h1.trans (h2.mono h1.size)).trans (h3.mono (by have := h1.size; have := h2.size; omega))
  go_wp2
  go_ret3
  exact ⟨rfl, hh⟩
end Go.Proofs.YtblikgbcakgdnaaGreat
