/-
  The walks of the laws SeasonSums and SeasonYears: each returns true, whatever the input, and makes new blocks alone. No conditions.
-/
import Derived.Test.YtgocgakphncdiaaRefNth
namespace Go.Proofs.Ytgocgakphncdiaa
open Go.ChangeShapes Go.WideShapes Go.ChangeAt Go.RowKit

theorem Cal.vN_sum {u a k d k' d' e n m : Int} (h : u < 2) : Cal.vN u (Cal.vN u a k d e n) k' d' e m = Cal.vN u a k d e (n + m) := by
  rw [Cal.vN_days h, Cal.vN_days h, Cal.vN_days h, Int.add_mul]; omega
theorem Cal.years_ok (a k e n : Int) : Cal.okN 2 a k (12 * e) n = Cal.okN 3 a k e n := by
  simp [Cal.okN, Cal.stp, Int.mul_comm 12 e]
theorem Cal.years_v (a k d e n : Int) : Cal.vN 2 a k d (12 * e) n = Cal.vN 3 a k d e n := by
  simp [Cal.vN, Cal.stp, Int.mul_comm 12 e]
theorem Cal.weeks_ok (a k e n : Int) : Cal.okN 0 a k (7 * e) n = Cal.okN 1 a k e n := by
  simp [Cal.okN, Cal.stp, Int.mul_comm 7 e]
theorem Cal.weeks_v (a k d e n : Int) : Cal.vN 0 a k d (7 * e) n = Cal.vN 1 a k d e n := by
  simp [Cal.vN, Cal.stp, Int.mul_comm 7 e]
theorem Cal.far {n e : Int} (n0 : 0 ≤ n) (n1 : n ≤ 510) (e0 : 1 ≤ e) (e1 : e ≤ 140) : 0 ≤ n * e ∧ n * e ≤ 71400 := by
  have a := Int.mul_le_mul_of_nonneg_right n1 (show 0 ≤ e by omega)
  have b := Int.mul_nonneg n0 (show 0 ≤ e by omega)
  omega

set_option maxHeartbeats 1000000 in
theorem seasonSums_case (a0 u : Int) (b : Bool) (a2 a3 a4 : Int) (hb : b = false ∧ u = 0 ∨ b = true ∧ u = 1) (w : World)
    (r0 : 0 ≤ a0 ∧ a0 ≤ 4294967295) (r2 : 0 ≤ a2 ∧ a2 ≤ 255) (r3 : 0 ≤ a3 ∧ a3 ≤ 255) (r4 : 0 ≤ a4 ∧ a4 ≤ 255) :
    Calls Try.prog 9 #[.int .u32 a0, .bool b, .int .u8 a2, .int .u8 a3, .int .u8 a4] w fun e w' => e = .returned (.bool true) ∧ Below w.heap.size w w' := by
  have A0 : 0 ≤ a0 % 3000000 ∧ a0 % 3000000 ≤ 2999999 := by omega
  have ul : 0 ≤ u ∧ u < 2 := by omega
  obtain ⟨k, d, h⟩ := Cal.at_of (a0 % 3000000) (by omega) (by omega)
  have s := Cal.stp_bd (u := u) (show 1 ≤ 1 + a2 % 20 by omega) (by omega)
  have s' : Cal.stp u (1 + a2 % 20) ≤ 140 := by
    rcases hb with ⟨_, rfl⟩ | ⟨_, rfl⟩ <;> simp [Cal.stp] <;> omega
  obtain ⟨f1, f2⟩ := Cal.far r3.1 (by omega) s.1 s'
  obtain ⟨f3, f4⟩ := Cal.far r4.1 (by omega) s.1 s'
  obtain ⟨f5, f6⟩ := Cal.far (show 0 ≤ a3 + a4 by omega) (by omega) s.1 s'
  have o1 : Cal.okN u (a0 % 3000000) k (1 + a2 % 20) a3 = true := (Cal.okN_days ul.2).2 (by omega)
  have o3 : Cal.okN u (a0 % 3000000) k (1 + a2 % 20) (a3 + a4) = true := (Cal.okN_days ul.2).2 (by omega)
  obtain ⟨x0, x1⟩ := Cal.vN_bd h (show 1 ≤ 1 + a2 % 20 by omega) r3.1 o1
  obtain ⟨k', d', h'⟩ := Cal.at_of _ x0 x1
  have o2 : Cal.okN u (Cal.vN u (a0 % 3000000) k d (1 + a2 % 20) a3) k' (1 + a2 % 20) a4 = true := (Cal.okN_days ul.2).2 (by rw [Cal.vN_days ul.2]; omega)
  have EQ := Lib.hid (@Cal.vN_sum u (a0 % 3000000) k d k' d' (1 + a2 % 20) a3 a4 ul.2)
  have H := Lib.hid h
  have H' := Lib.hid h'
  have O1 := Lib.hid o1
  have O2 := Lib.hid o2
  have O3 := Lib.hid o3
  clear h h' o1 o2 o3 f1 f2 f3 f4 f5 f6 s s'
  rcases hb with ⟨rfl, rfl⟩ | ⟨rfl, rfl⟩
  all_goals
    go_enter Try.func9, Try.ntmps9
    go_wp2_with fail
    refine (nth_yes _ _ _ _ _ _ _ H.out (by omega) (by omega) (by omega) (by omega) (by omega) (by omega) O1.out).mono ?_
    rintro e w1 ⟨rfl, h1⟩
    have H1 := Lib.hid h1
    clear h1
    go_wp2_with fail
    refine (nth_yes _ _ _ _ _ _ _ H'.out (by omega) (by omega) (by omega) (by omega) (by omega) (by omega) O2.out).mono ?_
    rintro e w2 ⟨rfl, h2⟩
    rw [EQ.out]
    have H2 := Lib.hid (H1.out.trans (h2.mono H1.out.size))
    clear h2
    go_wp2_with fail
    refine (nth_yes _ _ _ _ _ _ _ H.out (by omega) (by omega) (by omega) (by omega) (by omega) (by omega) O3.out).mono ?_
    rintro e w3 ⟨rfl, h3⟩
    have H3 := Lib.hid (H2.out.trans (h3.mono H2.out.size))
    clear h3
    go_wp2_with fail
    refine (sawake_any _).mono ?_
    rintro e w4 ⟨rfl, h4⟩
    have H4 := Lib.hid (H3.out.trans (h4.mono H3.out.size))
    clear h4
    go_wp2
    go_ret
    exact ⟨rfl, H4.out⟩

theorem seasonSums_walk (a0 : Int) (w0 : (Lit.int .u32 a0).wf = true) (a1 : Bool) (a2 : Int) (w2 : (Lit.int .u8 a2).wf = true) (a3 : Int) (w3 : (Lit.int .u8 a3).wf = true) (a4 : Int) (w4 : (Lit.int .u8 a4).wf = true) (w : World) :
    Calls Try.prog 9 #[.int .u32 a0, .bool a1, .int .u8 a2, .int .u8 a3, .int .u8 a4] w fun e w' => e = .returned (.bool true) ∧ Below w.heap.size w w' := by
  have r0 : 0 ≤ a0 ∧ a0 ≤ 4294967295 := by simpa [Lit.wf, IntKind.min, IntKind.max, IntKind.bits, IntKind.signed] using w0
  have r2 : 0 ≤ a2 ∧ a2 ≤ 255 := by simpa [Lit.wf, IntKind.min, IntKind.max, IntKind.bits, IntKind.signed] using w2
  have r3 : 0 ≤ a3 ∧ a3 ≤ 255 := by simpa [Lit.wf, IntKind.min, IntKind.max, IntKind.bits, IntKind.signed] using w3
  have r4 : 0 ≤ a4 ∧ a4 ≤ 255 := by simpa [Lit.wf, IntKind.min, IntKind.max, IntKind.bits, IntKind.signed] using w4
  cases a1
  · exact seasonSums_case a0 0 false a2 a3 a4 (Or.inl ⟨rfl, rfl⟩) w r0 r2 r3 r4
  · exact seasonSums_case a0 1 true a2 a3 a4 (Or.inr ⟨rfl, rfl⟩) w r0 r2 r3 r4

set_option maxHeartbeats 1000000 in
theorem seasonYears_walk (a0 : Int) (w0 : (Lit.int .u32 a0).wf = true) (a1 : Int) (w1 : (Lit.int .u8 a1).wf = true) (a2 : Int) (w2 : (Lit.int .u8 a2).wf = true) (w : World) :
    Calls Try.prog 10 #[.int .u32 a0, .int .u8 a1, .int .u8 a2] w fun e w' => e = .returned (.bool true) ∧ Below w.heap.size w w' := by
  have r0 : 0 ≤ a0 ∧ a0 ≤ 4294967295 := by simpa [Lit.wf, IntKind.min, IntKind.max, IntKind.bits, IntKind.signed] using w0
  have r1 : 0 ≤ a1 ∧ a1 ≤ 255 := by simpa [Lit.wf, IntKind.min, IntKind.max, IntKind.bits, IntKind.signed] using w1
  have r2 : 0 ≤ a2 ∧ a2 ≤ 255 := by simpa [Lit.wf, IntKind.min, IntKind.max, IntKind.bits, IntKind.signed] using w2
  clear w0 w1 w2
  have A0 : 0 ≤ a0 % 3652059 ∧ a0 % 3652059 ≤ 3652058 := by omega
  have K0 : 1 ≤ 1 + a1 % 20 ∧ 1 + a1 % 20 ≤ 20 := by omega
  obtain ⟨k, d, h⟩ := Cal.at_of (a0 % 3652059) A0.1 A0.2
  have H := Lib.hid h
  clear h
  have YO := Lib.hid (Cal.years_ok (a0 % 3652059) k (1 + a1 % 20) a2)
  have YV := Lib.hid (Cal.years_v (a0 % 3652059) k d (1 + a1 % 20) a2)
  have WO := Lib.hid (Cal.weeks_ok (a0 % 3652059) k (1 + a1 % 20) a2)
  have WV := Lib.hid (Cal.weeks_v (a0 % 3652059) k d (1 + a1 % 20) a2)
  cases ho : Cal.okN 3 (a0 % 3652059) k (1 + a1 % 20) a2
  all_goals
    have HO := Lib.hid ho
    have HO2 := Lib.hid (YO.out.trans ho)
    clear ho
    cases hp : Cal.okN 1 (a0 % 3652059) k (1 + a1 % 20) a2
    all_goals
      have HP := Lib.hid hp
      have HP2 := Lib.hid (WO.out.trans hp)
      clear hp
      go_enter Try.func10, Try.ntmps10
      go_wp2_with fail
      first | refine (nth_yes _ _ _ 3 _ _ _ H.out (by omega) (by omega) (by omega) (by omega) (by omega) (by omega) HO.out).mono ?_ | refine (nth_long _ _ _ 3 _ _ _ H.out (by omega) (by omega) (by omega) (by omega) (by omega) (by omega) HO.out).mono ?_
      rintro e w1 ⟨rfl, h1⟩
      have H1 := Lib.hid h1
      clear h1
      go_wp2_with fail
      first | refine (nth_yes _ _ _ 2 (12 * (1 + a1 % 20)) _ _ H.out (by omega) (by omega) (by omega) (by omega) (by omega) (by omega) HO2.out).mono ?_ | refine (nth_long _ _ _ 2 (12 * (1 + a1 % 20)) _ _ H.out (by omega) (by omega) (by omega) (by omega) (by omega) (by omega) HO2.out).mono ?_
      rintro e w2 ⟨rfl, h2⟩
      try rw [YV.out]
      have H2 := Lib.hid (H1.out.trans (h2.mono H1.out.size))
      clear h2
      go_wp2_with fail
      first | refine (nth_yes _ _ _ 1 _ _ _ H.out (by omega) (by omega) (by omega) (by omega) (by omega) (by omega) HP.out).mono ?_ | refine (nth_long _ _ _ 1 _ _ _ H.out (by omega) (by omega) (by omega) (by omega) (by omega) (by omega) HP.out).mono ?_
      rintro e w3 ⟨rfl, h3⟩
      have H3 := Lib.hid (H2.out.trans (h3.mono H2.out.size))
      clear h3
      go_wp2_with fail
      first | refine (nth_yes _ _ _ 0 (7 * (1 + a1 % 20)) _ _ H.out (by omega) (by omega) (by omega) (by omega) (by omega) (by omega) HP2.out).mono ?_ | refine (nth_long _ _ _ 0 (7 * (1 + a1 % 20)) _ _ H.out (by omega) (by omega) (by omega) (by omega) (by omega) (by omega) HP2.out).mono ?_
      rintro e w4 ⟨rfl, h4⟩
      try rw [WV.out]
      have H4 := Lib.hid (H3.out.trans (h4.mono H3.out.size))
      clear h4
      go_wp2_with fail
      refine (sawake_any _).mono ?_
      rintro e w5 ⟨rfl, h5⟩
      have H5 := Lib.hid (H4.out.trans (h5.mono H4.out.size))
      clear h5
      go_wp2
      go_ret
      exact ⟨rfl, H5.out⟩
end Go.Proofs.Ytgocgakphncdiaa
