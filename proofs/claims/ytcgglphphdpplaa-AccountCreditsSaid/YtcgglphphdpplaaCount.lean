/-
  Contracts of package season, continued: how many periods have begun up to a day, and the period in which a day lies. No conditions but the numbers' own ranges.
-/
import Derived.Test.YtcgglphphdpplaaSeason
namespace Go.Proofs.Ytcgglphphdpplaa
open Go.ChangeShapes Go.WideShapes Go.ChangeAt Go.RowKit

set_option maxHeartbeats 800000 in
theorem count_arg (a u e m : Int) (w : World) (h : NoArg a u e m) :
    Calls Try.prog 63 #[.int .i64 a, .int .u8 u, .int .i64 e, .int .i64 m] w fun r w' => r = .returned (.tuple #[.int .i64 0, .int .i64 1]) ∧ Below w.heap.size w w' := by
  rcases h with h | ⟨⟨a0, a1⟩, (h | ⟨⟨u1, e0, e1⟩, h⟩)⟩
  · go_enter Try.func63, Try.ntmps63
    go_wp2_with fail
    refine (isDay_no _ _ h).mono ?_
    rintro e w1 ⟨rfl, h1⟩
    go_wp2
    go_ret2
    exact ⟨rfl, h1⟩
  · obtain ⟨k, d, ha⟩ := Cal.at_of a a0 a1
    have H := Lib.hid ha
    clear ha
    go_enter Try.func63, Try.ntmps63
    go_wp2_with fail
    refine (isDay_yes _ _ _ _ H.out).mono ?_
    rintro e w1 ⟨rfl, h1⟩
    go_wp2_with (go_at_call 79; refine (sright_no _ _ _ h).mono ?_; rintro e w' ⟨rfl, rfl⟩)
    go_ret2
    exact ⟨rfl, h1⟩
  · obtain ⟨k, d, ha⟩ := Cal.at_of a a0 a1
    have H := Lib.hid ha
    clear ha
    have h' := Lib.hid (show m < 0 ∨ 3652058 < m by omega)
    clear h
    go_enter Try.func63, Try.ntmps63
    go_wp2_with fail
    refine (isDay_yes _ _ _ _ H.out).mono ?_
    rintro e w1 ⟨rfl, h1⟩
    go_wp2_with (go_at_call 79; refine (sright_yes _ _ _ u1 e0 e1).mono ?_; rintro e w' ⟨rfl, rfl⟩)
    refine (isDay_no _ _ h'.out).mono ?_
    rintro e w2 ⟨rfl, h2⟩
    go_wp2
    go_ret2
    exact ⟨rfl, h1.trans (h2.mono h1.size)⟩

set_option maxHeartbeats 1600000 in
theorem count_yes (a k d u e day c : Int) (w : World) (h : Cal.At a k d) (u0 : 0 ≤ u) (u1 : u ≤ 3) (e0 : 1 ≤ e) (e1 : e ≤ 1000) (m0 : 0 ≤ day) (m1 : day ≤ 3652058) (hc : Cal.Cnt u a k d e day c) :
    Calls Try.prog 63 #[.int .i64 a, .int .u8 u, .int .i64 e, .int .i64 day] w fun r w' => r = .returned (.tuple #[.int .i64 c, .int .i64 0]) ∧ Below w.heap.size w w' := by
  obtain ⟨l, f, hb⟩ := Cal.at_of day m0 m1
  obtain ⟨a0, a1⟩ := h.bd
  obtain ⟨s0, s1⟩ := Cal.stp_bd (u := u) e0 (show e ≤ 12000 by omega)
  have z : (Cal.stp u e == 0) = false := beq_eq_false_iff_ne.2 (by omega)
  have z2 : Cal.stp u e ≠ 0 := by omega
  by_cases hd : day < a
  · obtain rfl := hc.one (Cal.Cnt.before h hd)
    have H := Lib.hid h
    have HB := Lib.hid hb
    clear h hb hc
    go_enter Try.func63, Try.ntmps63
    go_wp2_with fail
    refine (isDay_yes _ _ _ _ H.out).mono ?_
    rintro e w1 ⟨rfl, h1⟩
    go_wp2_with (go_at_call 79; refine (sright_yes _ _ _ u1 e0 e1).mono ?_; rintro e w' ⟨rfl, rfl⟩)
    refine (isDay_yes _ _ _ _ HB.out).mono ?_
    rintro e w2 ⟨rfl, h2⟩
    go_wp2
    go_ret2
    exact ⟨rfl, h1.trans (h2.mono h1.size)⟩
  · by_cases g : u < 2
    · obtain rfl := hc.one (Cal.Cnt.days e0 (by omega) m1 g)
      have q0 : 0 ≤ (day - a) / Cal.stp u e := Int.ediv_nonneg (by omega) (by omega)
      have q1 : (day - a) / Cal.stp u e ≤ day - a := Int.ediv_le_self _ (by omega)
      have H := Lib.hid h
      have HB := Lib.hid hb
      clear h hb hc
      go_enter Try.func63, Try.ntmps63
      go_wp2_with fail
      refine (isDay_yes _ _ _ _ H.out).mono ?_
      rintro e w1 ⟨rfl, h1⟩
      go_wp2_with (go_at_call 79; refine (sright_yes _ _ _ u1 e0 e1).mono ?_; rintro e w' ⟨rfl, rfl⟩)
      refine (isDay_yes _ _ _ _ HB.out).mono ?_
      rintro e w2 ⟨rfl, h2⟩
      go_wp2_with (go_at_call 83; refine (stepOf_days _ _ _ u0 g e0 (by omega)).mono ?_; rintro e w' ⟨rfl, rfl⟩)
      go_ret2
      exact ⟨rfl, h1.trans (h2.mono h1.size)⟩
    · obtain ⟨x1, x2, x3, x4⟩ := Cal.Cnt.months (u := u) h e0 hb (by omega) g
      have k0 := h.k0
      have k1 := h.k1
      have l0 := hb.k0
      have l1 := hb.k1
      have lk := h.le hb (by omega)
      have q1 : (l - k) / Cal.stp u e ≤ l - k := Int.ediv_le_self _ (by omega)
      have H := Lib.hid h
      have HB := Lib.hid hb
      have X4 := Lib.hid x4
      by_cases b : Cal.vN u a k d e ((l - k) / Cal.stp u e) ≤ day
      · obtain rfl := hc.one (x1 b)
        clear h hb hc x1 x2 x4
        go_enter Try.func63, Try.ntmps63
        go_wp2_with fail
        refine (isDay_yes _ _ _ _ H.out).mono ?_
        rintro e w1 ⟨rfl, h1⟩
        go_wp2_with (go_at_call 79; refine (sright_yes _ _ _ u1 e0 e1).mono ?_; rintro e w' ⟨rfl, rfl⟩)
        refine (isDay_yes _ _ _ _ HB.out).mono ?_
        rintro e w2 ⟨rfl, h2⟩
        go_wp2_with (go_at_call 83; refine (stepOf_months _ _ _ (by omega) u1 e0 (by omega)).mono ?_; rintro e w' ⟨rfl, rfl⟩)
        refine (monthOf_yes _ _ _ _ HB.out).mono ?_
        rintro e w3 ⟨rfl, h3⟩
        go_wp2_with fail
        refine (monthOf_yes _ _ _ _ H.out).mono ?_
        rintro e w4 ⟨rfl, h4⟩
        go_wp2_with fail
        refine (begin_yes _ _ _ _ _ _ _ H.out u0 u1 e0 (by omega) x3 X4.out).mono ?_
        rintro e w5 ⟨rfl, h5⟩
        have hh := (((h1.trans (h2.mono h1.size)).trans (h3.mono (by have := h1.size; have := h2.size; omega))).trans (h4.mono (by have := h1.size; have := h2.size; have := h3.size; omega))).trans (h5.mono (by have := h1.size; have := h2.size; have := h3.size; have := h4.size; omega))
        go_wp2
        go_ret2
        exact ⟨rfl, hh⟩
      · obtain rfl := hc.one (x2 (by omega))
        clear h hb hc x1 x2 x4
        go_enter Try.func63, Try.ntmps63
        go_wp2_with fail
        refine (isDay_yes _ _ _ _ H.out).mono ?_
        rintro e w1 ⟨rfl, h1⟩
        go_wp2_with (go_at_call 79; refine (sright_yes _ _ _ u1 e0 e1).mono ?_; rintro e w' ⟨rfl, rfl⟩)
        refine (isDay_yes _ _ _ _ HB.out).mono ?_
        rintro e w2 ⟨rfl, h2⟩
        go_wp2_with (go_at_call 83; refine (stepOf_months _ _ _ (by omega) u1 e0 (by omega)).mono ?_; rintro e w' ⟨rfl, rfl⟩)
        refine (monthOf_yes _ _ _ _ HB.out).mono ?_
        rintro e w3 ⟨rfl, h3⟩
        go_wp2_with fail
        refine (monthOf_yes _ _ _ _ H.out).mono ?_
        rintro e w4 ⟨rfl, h4⟩
        go_wp2_with fail
        refine (begin_yes _ _ _ _ _ _ _ H.out u0 u1 e0 (by omega) x3 X4.out).mono ?_
        rintro e w5 ⟨rfl, h5⟩
        have hh := (((h1.trans (h2.mono h1.size)).trans (h3.mono (by have := h1.size; have := h2.size; omega))).trans (h4.mono (by have := h1.size; have := h2.size; have := h3.size; omega))).trans (h5.mono (by have := h1.size; have := h2.size; have := h3.size; have := h4.size; omega))
        go_wp2
        go_ret2
        exact ⟨rfl, hh⟩

theorem ret_iii {a b c d e f : Int} (h : a = b) (g : c = d) (k : e = f) : Ending.returned (.tuple #[.int .i64 a, .int .i64 c, .int .i64 e]) = .returned (.tuple #[.int .i64 b, .int .i64 d, .int .i64 f]) := by rw [h, g, k]

set_option maxHeartbeats 800000 in
theorem span_arg (a u e m : Int) (w : World) (h : NoArg a u e m) :
    Calls Try.prog 37 #[.int .i64 a, .int .u8 u, .int .i64 e, .int .i64 m] w fun r w' => r = .returned (.tuple #[.int .i64 0, .int .i64 0, .int .i64 1]) ∧ Below w.heap.size w w' := by
  have H := Lib.hid h
  clear h
  go_enter Try.func37, Try.ntmps37
  go_wp2_with fail
  refine (count_arg _ _ _ _ _ H.out).mono ?_
  rintro e w1 ⟨rfl, h1⟩
  go_wp2
  go_ret3
  exact ⟨rfl, h1⟩
set_option maxHeartbeats 800000 in
theorem span_before (a k d u e day : Int) (w : World) (h : Cal.At a k d) (u0 : 0 ≤ u) (u1 : u ≤ 3) (e0 : 1 ≤ e) (e1 : e ≤ 1000) (m0 : 0 ≤ day) (m1 : day ≤ 3652058) (hd : day < a) :
    Calls Try.prog 37 #[.int .i64 a, .int .u8 u, .int .i64 e, .int .i64 day] w fun r w' => r = .returned (.tuple #[.int .i64 0, .int .i64 0, .int .i64 2]) ∧ Below w.heap.size w w' := by
  have H := Lib.hid h
  have HD := Lib.hid hd
  clear h hd
  go_enter Try.func37, Try.ntmps37
  go_wp2_with fail
  refine (count_yes _ _ _ _ _ _ _ _ H.out u0 u1 e0 e1 m0 m1 (Cal.Cnt.before H.out HD.out)).mono ?_
  rintro e w1 ⟨rfl, h1⟩
  go_wp2
  go_ret3
  exact ⟨rfl, h1⟩
set_option maxHeartbeats 800000 in
theorem span_long (a k d u e day c : Int) (w : World) (h : Cal.At a k d) (u0 : 0 ≤ u) (u1 : u ≤ 3) (e0 : 1 ≤ e) (e1 : e ≤ 1000) (m0 : 0 ≤ day) (m1 : day ≤ 3652058) (hd : a ≤ day) (hc : Cal.Cnt u a k d e day c) (ho : Cal.okN u a k e c = false) :
    Calls Try.prog 37 #[.int .i64 a, .int .u8 u, .int .i64 e, .int .i64 day] w fun r w' => r = .returned (.tuple #[.int .i64 0, .int .i64 0, .int .i64 6]) ∧ Below w.heap.size w w' := by
  have c1 := hc.pos h hd
  obtain ⟨x, y⟩ := hc.all (c - 1) (by omega) (by omega)
  have z : (c == 0) = false := beq_eq_false_iff_ne.2 (by omega)
  have a0 := h.bd
  have c2 := hc.le h e0 c1
  have H := Lib.hid h
  have HC := Lib.hid hc
  have HO := Lib.hid ho
  have X := Lib.hid x
  clear h hc ho x
  go_enter Try.func37, Try.ntmps37
  go_wp2_with fail
  refine (count_yes _ _ _ _ _ _ _ _ H.out u0 u1 e0 e1 m0 m1 HC.out).mono ?_
  rintro e w1 ⟨rfl, h1⟩
  go_wp2_with fail
  refine (begin_yes _ _ _ _ _ _ _ H.out u0 u1 e0 (by omega) (by omega) X.out).mono ?_
  rintro e w2 ⟨rfl, h2⟩
  go_wp2_with fail
  refine (begin_no _ _ _ _ _ _ _ H.out u0 u1 e0 (by omega) HO.out).mono ?_
  rintro e w3 ⟨rfl, h3⟩
  have hh := (h1.trans (h2.mono h1.size)).trans (h3.mono (by have := h1.size; have := h2.size; omega))
  go_wp2
  go_ret3
  exact ⟨rfl, hh⟩
set_option maxHeartbeats 800000 in
theorem span_yes (a k d u e day c : Int) (w : World) (h : Cal.At a k d) (u0 : 0 ≤ u) (u1 : u ≤ 3) (e0 : 1 ≤ e) (e1 : e ≤ 1000) (m0 : 0 ≤ day) (m1 : day ≤ 3652058) (hd : a ≤ day) (hc : Cal.Cnt u a k d e day c) (ho : Cal.okN u a k e c = true) :
    Calls Try.prog 37 #[.int .i64 a, .int .u8 u, .int .i64 e, .int .i64 day] w fun r w' => r = .returned (.tuple #[.int .i64 (Cal.vN u a k d e (c - 1)), .int .i64 (Cal.vN u a k d e c), .int .i64 0]) ∧ Below w.heap.size w w' := by
  have c1 := hc.pos h hd
  obtain ⟨x, y⟩ := hc.all (c - 1) (by omega) (by omega)
  have z : (c == 0) = false := beq_eq_false_iff_ne.2 (by omega)
  have a0 := h.bd
  have c2 := hc.le h e0 c1
  have H := Lib.hid h
  have HC := Lib.hid hc
  have HO := Lib.hid ho
  have X := Lib.hid x
  clear h hc ho x
  go_enter Try.func37, Try.ntmps37
  go_wp2_with fail
  refine (count_yes _ _ _ _ _ _ _ _ H.out u0 u1 e0 e1 m0 m1 HC.out).mono ?_
  rintro e w1 ⟨rfl, h1⟩
  go_wp2_with fail
  refine (begin_yes _ _ _ _ _ _ _ H.out u0 u1 e0 (by omega) (by omega) X.out).mono ?_
  rintro e w2 ⟨rfl, h2⟩
  go_wp2_with fail
  refine (begin_yes _ _ _ _ _ _ _ H.out u0 u1 e0 (by omega) (by omega) HO.out).mono ?_
  rintro e w3 ⟨rfl, h3⟩
  have hh := (h1.trans (h2.mono h1.size)).trans (h3.mono (by have := h1.size; have := h2.size; omega))
  go_wp2
  go_ret3
  exact ⟨rfl, hh⟩
end Go.Proofs.Ytcgglphphdpplaa
