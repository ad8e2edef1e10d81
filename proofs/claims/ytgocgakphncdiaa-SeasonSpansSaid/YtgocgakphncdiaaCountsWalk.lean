/-
  The walks of the laws SeasonCounts and SeasonSpans: each returns true, whatever the input, and makes new blocks alone. No conditions.
-/
import Derived.Test.YtgocgakphncdiaaRefNth
namespace Go.Proofs.Ytgocgakphncdiaa
open Go.ChangeShapes Go.WideShapes Go.ChangeAt Go.RowKit

set_option maxHeartbeats 2000000 in
theorem seasonCounts_walk (a0 : Int) (w0 : (Lit.int .u32 a0).wf = true) (a1 : Int) (w1 : (Lit.int .u8 a1).wf = true) (a2 : Int) (w2 : (Lit.int .u8 a2).wf = true) (a3 : Int) (w3 : (Lit.int .i16 a3).wf = true) (w : World) :
    Calls Try.prog 5 #[.int .u32 a0, .int .u8 a1, .int .u8 a2, .int .i16 a3] w fun e w' => e = .returned (.bool true) ∧ Below w.heap.size w w' := by
  have r0 : 0 ≤ a0 ∧ a0 ≤ 4294967295 := by simpa [Lit.wf, IntKind.min, IntKind.max, IntKind.bits, IntKind.signed] using w0
  have r1 : 0 ≤ a1 ∧ a1 ≤ 255 := by simpa [Lit.wf, IntKind.min, IntKind.max, IntKind.bits, IntKind.signed] using w1
  have r2 : 0 ≤ a2 ∧ a2 ≤ 255 := by simpa [Lit.wf, IntKind.min, IntKind.max, IntKind.bits, IntKind.signed] using w2
  have r3 : -32768 ≤ a3 ∧ a3 ≤ 32767 := by simpa [Lit.wf, IntKind.min, IntKind.max, IntKind.bits, IntKind.signed] using w3
  have g1 := Int.lt_tmod_of_pos a3 (show (0 : Int) < 3000 by omega)
  have g2 := Int.tmod_lt_of_pos a3 (show (0 : Int) < 3000 by omega)
  clear w0 w1 w2 w3
  have A0 : 0 ≤ a0 % 3652059 ∧ a0 % 3652059 ≤ 3652058 := by omega
  by_cases b : 0 ≤ a0 % 3652059 + a3.tmod 3000 ∧ a0 % 3652059 + a3.tmod 3000 ≤ 3652058
  · obtain ⟨m0, m1⟩ := b
    have t0 : decide (a0 % 3652059 + a3.tmod 3000 < 0) = false := by simp; omega
    have t1 : decide (3652058 < a0 % 3652059 + a3.tmod 3000) = false := by simp; omega
    obtain ⟨k, d, h⟩ := Cal.at_of (a0 % 3652059) A0.1 A0.2
    obtain ⟨c, hc⟩ := Cal.cnt_of (u := a1 % 4) (e := 1 + a2 % 50) h (by omega) m0 m1
    have cn := hc.nn
    have cb : c ≤ 3000 := by
      by_cases q : c < 1
      · omega
      · have := hc.le h (by omega) (by omega); omega
    have H := Lib.hid h
    have HC := Lib.hid hc
    clear h hc
    go_enter Try.func5, Try.ntmps5
    go_wp2_with fail
    refine (count_yes _ _ _ _ _ _ _ _ H.out (by omega) (by omega) (by omega) (by omega) (by omega) (by omega) HC.out).mono ?_
    rintro e w1 ⟨rfl, h1⟩
    have H1 := Lib.hid h1
    clear h1 t0 t1
    go_wp2
    go_loopw [15] (fun t wr => ∃ i : Int, 0 ≤ i ∧ i ≤ c ∧ t = .int .i64 i ∧ Hid (Below w.heap.size w wr)) (fun t _ => (c - intOf t).toNat)
    case atStart => exact ⟨0, by omega, cn, rfl, H1⟩
    case round =>
      obtain ⟨i, i0, i1, rfl, HB⟩ := hrel
      by_cases hlt : i < c
      · obtain ⟨x, y⟩ := HC.out.all i i0 hlt
        have X := Lib.hid x
        have y' : decide (a0 % 3652059 + a3.tmod 3000 < Cal.vN (a1 % 4) (a0 % 3652059) k d (1 + a2 % 50) i) = false := by simp; omega
        clear x y
        go_wp2_with fail
        refine (rnth_yes _ _ _ _ _ _ _ H.out (by omega) (by omega) (by omega) (by omega) (by omega) (by omega) X.out).mono ?_
        rintro e w2 ⟨rfl, h2⟩
        have H2 := Lib.hid (HB.out.trans (h2.mono HB.out.size))
        clear h2
        go_wp2
        go_roundw
        case rel => exact ⟨i + 1, by omega, by omega, rfl, H2⟩
        case measure => simp [intOf]; omega
      · obtain rfl : i = c := by omega
        cases ho : Cal.okN (a1 % 4) (a0 % 3652059) k (1 + a2 % 50) i
        · have HO := Lib.hid ho
          clear ho
          go_wp2_with fail
          refine (rnth_no _ _ _ _ _ _ _ H.out (by omega) (by omega) (by omega) (by omega) (by omega) (by omega) HO.out).mono ?_
          rintro e w2 ⟨rfl, h2⟩
          have H2 := Lib.hid (HB.out.trans (h2.mono HB.out.size))
          clear h2
          go_wp2_with fail
          refine (sawake_any _).mono ?_
          rintro e w3 ⟨rfl, h3⟩
          have H3 := Lib.hid (H2.out.trans (h3.mono H2.out.size))
          clear h3
          go_wp2
          go_ret
          exact ⟨rfl, H3.out⟩
        · have y := HC.out.out ho
          have y' : decide (a0 % 3652059 + a3.tmod 3000 < Cal.vN (a1 % 4) (a0 % 3652059) k d (1 + a2 % 50) i) = true := by simp; omega
          have HO := Lib.hid ho
          clear ho y
          go_wp2_with fail
          refine (rnth_yes _ _ _ _ _ _ _ H.out (by omega) (by omega) (by omega) (by omega) (by omega) (by omega) HO.out).mono ?_
          rintro e w2 ⟨rfl, h2⟩
          have H2 := Lib.hid (HB.out.trans (h2.mono HB.out.size))
          clear h2
          go_wp2_with fail
          refine (sawake_any _).mono ?_
          rintro e w3 ⟨rfl, h3⟩
          have H3 := Lib.hid (H2.out.trans (h3.mono H2.out.size))
          clear h3
          go_wp2
          go_ret
          exact ⟨rfl, H3.out⟩
  · have b' : a0 % 3652059 + a3.tmod 3000 < 0 ∨ 0 ≤ a0 % 3652059 + a3.tmod 3000 ∧ 3652058 < a0 % 3652059 + a3.tmod 3000 := by omega
    clear b
    rcases b' with b | ⟨b, b'⟩
    all_goals
      try have t0 : decide (a0 % 3652059 + a3.tmod 3000 < 0) = true := by simp; omega
      try have t0 : decide (a0 % 3652059 + a3.tmod 3000 < 0) = false := by simp; omega
      try have t1 : decide (3652058 < a0 % 3652059 + a3.tmod 3000) = true := by simp; omega
      go_enter Try.func5, Try.ntmps5
      go_wp2_with fail
      refine (sawake_any _).mono ?_
      rintro e w1 ⟨rfl, h1⟩
      go_wp2
      go_ret
      exact ⟨rfl, h1⟩

set_option maxHeartbeats 2000000 in
set_option maxRecDepth 100000 in
theorem seasonSpans_walk (a0 : Int) (w0 : (Lit.int .u32 a0).wf = true) (a1 : Int) (w1 : (Lit.int .u8 a1).wf = true) (a2 : Int) (w2 : (Lit.int .u8 a2).wf = true) (a3 : Int) (w3 : (Lit.int .i16 a3).wf = true) (w : World) :
    Calls Try.prog 6 #[.int .u32 a0, .int .u8 a1, .int .u8 a2, .int .i16 a3] w fun e w' => e = .returned (.bool true) ∧ Below w.heap.size w w' := by
  have r0 : 0 ≤ a0 ∧ a0 ≤ 4294967295 := by simpa [Lit.wf, IntKind.min, IntKind.max, IntKind.bits, IntKind.signed] using w0
  have r1 : 0 ≤ a1 ∧ a1 ≤ 255 := by simpa [Lit.wf, IntKind.min, IntKind.max, IntKind.bits, IntKind.signed] using w1
  have r2 : 0 ≤ a2 ∧ a2 ≤ 255 := by simpa [Lit.wf, IntKind.min, IntKind.max, IntKind.bits, IntKind.signed] using w2
  have r3 : -32768 ≤ a3 ∧ a3 ≤ 32767 := by simpa [Lit.wf, IntKind.min, IntKind.max, IntKind.bits, IntKind.signed] using w3
  have g1 := Int.lt_tmod_of_pos a3 (show (0 : Int) < 3000 by omega)
  have g2 := Int.tmod_lt_of_pos a3 (show (0 : Int) < 3000 by omega)
  clear w0 w1 w2 w3
  have A0 : 0 ≤ a0 % 3652059 ∧ a0 % 3652059 ≤ 3652058 := by omega
  by_cases b : 0 ≤ a0 % 3652059 + a3.tmod 3000 ∧ a0 % 3652059 + a3.tmod 3000 ≤ 3652058
  · obtain ⟨m0, m1⟩ := b
    have t0 : decide (a0 % 3652059 + a3.tmod 3000 < 0) = false := by simp; omega
    have t1 : decide (3652058 < a0 % 3652059 + a3.tmod 3000) = false := by simp; omega
    obtain ⟨k, d, h⟩ := Cal.at_of (a0 % 3652059) A0.1 A0.2
    by_cases hd : a0 % 3652059 + a3.tmod 3000 < a0 % 3652059
    · have H := Lib.hid h
      clear h
      go_enter Try.func6, Try.ntmps6
      go_wp2_with fail
      refine (span_before _ _ _ _ _ _ _ H.out (by omega) (by omega) (by omega) (by omega) (by omega) (by omega) (by omega)).mono ?_
      rintro e w1 ⟨rfl, h1⟩
      go_wp2_with fail
      refine (sawake_any _).mono ?_
      rintro e w2 ⟨rfl, h2⟩
      have hh := h1.trans (h2.mono h1.size)
      go_wp2
      go_ret
      exact ⟨rfl, hh⟩
    · obtain ⟨c, hc⟩ := Cal.cnt_of (u := a1 % 4) (e := 1 + a2 % 50) h (by omega) m0 m1
      have c1 := hc.pos h (by omega)
      have cb : c ≤ 3000 := by have := hc.le h (by omega) (by omega); omega
      obtain ⟨x, y⟩ := hc.all (c - 1) (by omega) (by omega)
      have y2 := hc.out
      have H := Lib.hid h
      have HC := Lib.hid hc
      have X := Lib.hid x
      clear h hc x
      cases ho : Cal.okN (a1 % 4) (a0 % 3652059) k (1 + a2 % 50) c
      · have HO := Lib.hid ho
        clear ho y y2
        go_enter Try.func6, Try.ntmps6
        go_wp2_with fail
        refine (span_long _ _ _ _ _ _ _ _ H.out (by omega) (by omega) (by omega) (by omega) (by omega) (by omega) (by omega) HC.out HO.out).mono ?_
        rintro e w1 ⟨rfl, h1⟩
        go_wp2_with fail
        refine (count_yes _ _ _ _ _ _ _ _ H.out (by omega) (by omega) (by omega) (by omega) (by omega) (by omega) HC.out).mono ?_
        rintro e w2 ⟨rfl, h2⟩
        have H2 := Lib.hid (h1.trans (h2.mono h1.size))
        clear h1 h2
        go_wp2_with fail
        refine (rnth_yes _ _ _ _ _ _ _ H.out (by omega) (by omega) (by omega) (by omega) (by omega) (by omega) X.out).mono ?_
        rintro e w3 ⟨rfl, h3⟩
        have H3 := Lib.hid (H2.out.trans (h3.mono H2.out.size))
        clear h3
        go_wp2_with fail
        refine (rnth_no _ _ _ _ _ _ _ H.out (by omega) (by omega) (by omega) (by omega) (by omega) (by omega) HO.out).mono ?_
        rintro e w4 ⟨rfl, h4⟩
        have H4 := Lib.hid (H3.out.trans (h4.mono H3.out.size))
        clear h4
        go_wp2_with fail
        refine (sawake_any _).mono ?_
        rintro e w5 ⟨rfl, h5⟩
        have H5 := Lib.hid (H4.out.trans (h5.mono H4.out.size))
        clear h5
        go_wp2
        go_ret
        exact ⟨rfl, H5.out⟩
      · have y3 := y2 ho
        have HO := Lib.hid ho
        clear ho y2
        go_enter Try.func6, Try.ntmps6
        go_wp2_with fail
        refine (span_yes _ _ _ _ _ _ _ _ H.out (by omega) (by omega) (by omega) (by omega) (by omega) (by omega) (by omega) HC.out HO.out).mono ?_
        rintro e w1 ⟨rfl, h1⟩
        go_wp2_with fail
        refine (count_yes _ _ _ _ _ _ _ _ H.out (by omega) (by omega) (by omega) (by omega) (by omega) (by omega) HC.out).mono ?_
        rintro e w2 ⟨rfl, h2⟩
        have H2 := Lib.hid (h1.trans (h2.mono h1.size))
        clear h1 h2
        go_wp2_with fail
        refine (rnth_yes _ _ _ _ _ _ _ H.out (by omega) (by omega) (by omega) (by omega) (by omega) (by omega) X.out).mono ?_
        rintro e w3 ⟨rfl, h3⟩
        have H3 := Lib.hid (H2.out.trans (h3.mono H2.out.size))
        clear h3
        go_wp2_with fail
        refine (rnth_yes _ _ _ _ _ _ _ H.out (by omega) (by omega) (by omega) (by omega) (by omega) (by omega) HO.out).mono ?_
        rintro e w4 ⟨rfl, h4⟩
        have H4 := Lib.hid (H3.out.trans (h4.mono H3.out.size))
        clear h4
        go_wp2_with fail
        refine (sawake_any _).mono ?_
        rintro e w5 ⟨rfl, h5⟩
        have H5 := Lib.hid (H4.out.trans (h5.mono H4.out.size))
        clear h5
        go_wp2
        go_ret
        exact ⟨rfl, H5.out⟩
  · have b' : a0 % 3652059 + a3.tmod 3000 < 0 ∨ 0 ≤ a0 % 3652059 + a3.tmod 3000 ∧ 3652058 < a0 % 3652059 + a3.tmod 3000 := by omega
    clear b
    rcases b' with b | ⟨b, b'⟩
    all_goals
      try have t0 : decide (a0 % 3652059 + a3.tmod 3000 < 0) = true := by simp; omega
      try have t0 : decide (a0 % 3652059 + a3.tmod 3000 < 0) = false := by simp; omega
      try have t1 : decide (3652058 < a0 % 3652059 + a3.tmod 3000) = true := by simp; omega
      go_enter Try.func6, Try.ntmps6
      go_wp2_with fail
      refine (sawake_any _).mono ?_
      rintro e w1 ⟨rfl, h1⟩
      go_wp2
      go_ret
      exact ⟨rfl, h1⟩
end Go.Proofs.Ytgocgakphncdiaa
