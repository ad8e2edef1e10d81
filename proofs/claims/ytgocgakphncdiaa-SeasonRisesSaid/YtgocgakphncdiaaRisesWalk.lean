/-
  The walk of the law SeasonRises: it returns true, whatever the input, and makes new blocks alone. No conditions.
-/
import Derived.Test.YtgocgakphncdiaaRefNth
namespace Go.Proofs.Ytgocgakphncdiaa
open Go.ChangeShapes Go.WideShapes Go.ChangeAt Go.RowKit
open Cal (leap mon)

set_option maxHeartbeats 1000000 in
theorem seasonRises_long (a0 a1 a2 a3 k d : Int) (w : World) (r0 : 0 ≤ a0 ∧ a0 ≤ 4294967295) (r1 : 0 ≤ a1 ∧ a1 ≤ 255) (r2 : 0 ≤ a2 ∧ a2 ≤ 255) (r3 : 0 ≤ a3 ∧ a3 ≤ 255)
    (h : Cal.At (a0 % 3000000) k d) (ho : Cal.okN (a1 % 4) (a0 % 3000000) k (1 + a2 % 12) (a3 + 1) = false) :
    Calls Try.prog 7 #[.int .u32 a0, .int .u8 a1, .int .u8 a2, .int .u8 a3] w fun e w' => e = .returned (.bool true) ∧ Below w.heap.size w w' := by
  have H := Lib.hid h
  have HO := Lib.hid ho
  clear h ho
  cases hp : Cal.okN (a1 % 4) (a0 % 3000000) k (1 + a2 % 12) a3
  all_goals
    have HP := Lib.hid hp
    clear hp
    go_enter Try.func7, Try.ntmps7
    go_wp2_with fail
    first | refine (nth_yes _ _ _ _ _ _ _ H.out (by omega) (by omega) (by omega) (by omega) (by omega) (by omega) HP.out).mono ?_ | refine (nth_long _ _ _ _ _ _ _ H.out (by omega) (by omega) (by omega) (by omega) (by omega) (by omega) HP.out).mono ?_
    rintro e w1 ⟨rfl, h1⟩
    have H1 := Lib.hid h1
    clear h1
    go_wp2_with fail
    refine (nth_long _ _ _ _ _ (a3 + 1) _ H.out (by omega) (by omega) (by omega) (by omega) (by omega) (by omega) HO.out).mono ?_
    rintro e w2 ⟨rfl, h2⟩
    have H2 := Lib.hid (H1.out.trans (h2.mono H1.out.size))
    clear h2
    go_wp2_with fail
    refine (sawake_any _).mono ?_
    rintro e w3 ⟨rfl, h3⟩
    have H3 := Lib.hid (H2.out.trans (h3.mono H2.out.size))
    clear h3
    go_wp2
    go_ret
    exact ⟨rfl, H3.out⟩

set_option maxHeartbeats 4000000 in
set_option maxRecDepth 100000 in
theorem seasonRises_ok (a0 a1 a2 a3 k d k' d' : Int) (w : World) (r0 : 0 ≤ a0 ∧ a0 ≤ 4294967295) (r1 : 0 ≤ a1 ∧ a1 ≤ 255) (r2 : 0 ≤ a2 ∧ a2 ≤ 255) (r3 : 0 ≤ a3 ∧ a3 ≤ 255)
    (h : Cal.At (a0 % 3000000) k d) (ho : Cal.okN (a1 % 4) (a0 % 3000000) k (1 + a2 % 12) (a3 + 1) = true) (hx : Cal.At (Cal.vN (a1 % 4) (a0 % 3000000) k d (1 + a2 % 12) a3) k' d')
    (c : a1 % 4 < 2 ∨ ¬ a1 % 4 < 2 ∧ (d' = d ∨ d' < d ∧ d' = mon (k' / 12 + 1) (k' % 12 + 1))) :
    Calls Try.prog 7 #[.int .u32 a0, .int .u8 a1, .int .u8 a2, .int .u8 a3] w fun e w' => e = .returned (.bool true) ∧ Below w.heap.size w w' := by
  have hp := Cal.okN_le (show 1 ≤ 1 + a2 % 12 by omega) (show a3 ≤ a3 + 1 by omega) ho
  have lt := Cal.vN_lt (u := a1 % 4) h (show 1 ≤ 1 + a2 % 12 by omega) (show a3 < a3 + 1 by omega)
  have lt' : decide (Cal.vN (a1 % 4) (a0 % 3000000) k d (1 + a2 % 12) a3 < Cal.vN (a1 % 4) (a0 % 3000000) k d (1 + a2 % 12) (a3 + 1)) = true := by simp; omega
  have fz : (0 < a3) ∨ ¬ 0 < a3 ∧ decide (0 < a3) = false ∧ (Cal.vN (a1 % 4) (a0 % 3000000) k d (1 + a2 % 12) a3 == a0 % 3000000) = true := by
    by_cases z : 0 < a3
    · exact Or.inl z
    · refine Or.inr ⟨z, by simp; omega, ?_⟩
      rw [show a3 = 0 by omega, Cal.vN_zero h]; simp
  obtain ⟨hr, hn⟩ := h.right
  obtain ⟨xr, xn⟩ := hx.right
  have HR := Lib.hid hr
  have HN := Lib.hid hn
  have XR := Lib.hid xr
  have XN := Lib.hid xn
  have H := Lib.hid h
  have HO := Lib.hid ho
  have HP := Lib.hid hp
  clear hr hn xr xn h hx ho hp lt
  have kb : True := trivial
  rcases c with c | ⟨c, (rfl | ⟨c', c''⟩)⟩
  · have t : decide (a1 % 4 < 2) = true := by simp; omega
    rcases fz with z | ⟨z, z', z''⟩
    all_goals
      go_enter Try.func7, Try.ntmps7
      go_wp2_with fail
      refine (nth_yes _ _ _ _ _ _ _ H.out (by omega) (by omega) (by omega) (by omega) (by omega) (by omega) HP.out).mono ?_
      rintro e w1 ⟨rfl, h1⟩
      have H1 := Lib.hid h1
      clear h1
      go_wp2_with fail
      refine (nth_yes _ _ _ _ _ (a3 + 1) _ H.out (by omega) (by omega) (by omega) (by omega) (by omega) (by omega) HO.out).mono ?_
      rintro e w2 ⟨rfl, h2⟩
      have H2 := Lib.hid (H1.out.trans (h2.mono H1.out.size))
      clear h2
      go_wp2_with fail
      refine (rof_yes _ _ _ _ _ HR.out HN.out).mono ?_
      rintro e w3 ⟨rfl, h3⟩
      have H3 := Lib.hid (H2.out.trans (h3.mono H2.out.size))
      clear h3
      go_wp2_with fail
      refine (rof_yes _ _ _ _ _ XR.out XN.out).mono ?_
      rintro e w4 ⟨rfl, hb⟩
      obtain ⟨h4, z4, e4⟩ := keep_alloc H3.out H3.out.size hb
      rw [e4]
      have H4 := Lib.hid h4
      clear hb h4 e4
      have n1 : w3.heap.size ≠ w4.heap.size := by omega
      have n2 : w4.heap.size ≠ w3.heap.size := by omega
      go_wp2_with fail
      refine region_over (by kernel_rfl) (by kernel_rfl) ?_
      repeat (go_big_quiet_step ((go_at_call 22; exact over_call (rmonth_any _ _ _))))
      refine wpQuiet_nil ?_
      rintro w5 ⟨⟨_, hb⟩, rfl⟩
      obtain ⟨h5, z5, y5, e5⟩ := keep1_alloc H4.out H3.out.size z4 hb
      have H5 := Lib.hid h5
      clear hb h5 e5
      go_wp2_with fail
      refine (sawake_any _).mono ?_
      rintro e w6 ⟨rfl, h6⟩
      have H6 := Lib.hid (H5.out.trans (h6.mono H5.out.size))
      clear h6
      go_wp2
      go_ret
      exact ⟨rfl, H6.out⟩
  · have t : decide (a1 % 4 < 2) = false := by simp; omega
    rcases fz with z | ⟨z, z', z''⟩
    all_goals
      go_enter Try.func7, Try.ntmps7
      go_wp2_with fail
      refine (nth_yes _ _ _ _ _ _ _ H.out (by omega) (by omega) (by omega) (by omega) (by omega) (by omega) HP.out).mono ?_
      rintro e w1 ⟨rfl, h1⟩
      have H1 := Lib.hid h1
      clear h1
      go_wp2_with fail
      refine (nth_yes _ _ _ _ _ (a3 + 1) _ H.out (by omega) (by omega) (by omega) (by omega) (by omega) (by omega) HO.out).mono ?_
      rintro e w2 ⟨rfl, h2⟩
      have H2 := Lib.hid (H1.out.trans (h2.mono H1.out.size))
      clear h2
      go_wp2_with fail
      refine (rof_yes _ _ _ _ _ HR.out HN.out).mono ?_
      rintro e w3 ⟨rfl, h3⟩
      have H3 := Lib.hid (H2.out.trans (h3.mono H2.out.size))
      clear h3
      go_wp2_with fail
      refine (rof_yes _ _ _ _ _ XR.out XN.out).mono ?_
      rintro e w4 ⟨rfl, hb⟩
      obtain ⟨h4, z4, e4⟩ := keep_alloc H3.out H3.out.size hb
      rw [e4]
      have H4 := Lib.hid h4
      clear hb h4 e4
      have n1 : w3.heap.size ≠ w4.heap.size := by omega
      have n2 : w4.heap.size ≠ w3.heap.size := by omega
      go_wp2_with fail
      refine region_over (by kernel_rfl) (by kernel_rfl) ?_
      repeat (go_big_quiet_step ((go_at_call 22; exact over_call (rmonth_any _ _ _))))
      refine wpQuiet_nil ?_
      rintro w5 ⟨⟨_, hb⟩, rfl⟩
      obtain ⟨h5, z5, y5, e5⟩ := keep1_alloc H4.out H3.out.size z4 hb
      have H5 := Lib.hid h5
      clear hb h5 e5
      go_wp2_with fail
      refine (sawake_any _).mono ?_
      rintro e w6 ⟨rfl, h6⟩
      have H6 := Lib.hid (H5.out.trans (h6.mono H5.out.size))
      clear h6
      go_wp2
      go_ret
      exact ⟨rfl, H6.out⟩
  · have t : decide (a1 % 4 < 2) = false := by simp; omega
    have t1 : (d' == d) = false := beq_eq_false_iff_ne.2 (by omega)
    have t2 : (d' == mon (k' / 12 + 1) (k' % 12 + 1)) = true := beq_iff_eq.2 c''
    have t3 : decide (d' < d) = true := by simp; omega
    clear c''
    rcases fz with z | ⟨z, z', z''⟩
    all_goals
      go_enter Try.func7, Try.ntmps7
      go_wp2_with fail
      refine (nth_yes _ _ _ _ _ _ _ H.out (by omega) (by omega) (by omega) (by omega) (by omega) (by omega) HP.out).mono ?_
      rintro e w1 ⟨rfl, h1⟩
      have H1 := Lib.hid h1
      clear h1
      go_wp2_with fail
      refine (nth_yes _ _ _ _ _ (a3 + 1) _ H.out (by omega) (by omega) (by omega) (by omega) (by omega) (by omega) HO.out).mono ?_
      rintro e w2 ⟨rfl, h2⟩
      have H2 := Lib.hid (H1.out.trans (h2.mono H1.out.size))
      clear h2
      go_wp2_with fail
      refine (rof_yes _ _ _ _ _ HR.out HN.out).mono ?_
      rintro e w3 ⟨rfl, h3⟩
      have H3 := Lib.hid (H2.out.trans (h3.mono H2.out.size))
      clear h3
      go_wp2_with fail
      refine (rof_yes _ _ _ _ _ XR.out XN.out).mono ?_
      rintro e w4 ⟨rfl, hb⟩
      obtain ⟨h4, z4, e4⟩ := keep_alloc H3.out H3.out.size hb
      rw [e4]
      have H4 := Lib.hid h4
      clear hb h4 e4
      have n1 : w3.heap.size ≠ w4.heap.size := by omega
      have n2 : w4.heap.size ≠ w3.heap.size := by omega
      go_wp2_with fail
      refine region_over (by kernel_rfl) (by kernel_rfl) ?_
      repeat (go_big_quiet_step ((go_at_call 22; exact over_call (rmonth_any _ _ _))))
      refine wpQuiet_nil ?_
      rintro w5 ⟨⟨_, hb⟩, rfl⟩
      obtain ⟨h5, z5, y5, e5⟩ := keep1_alloc H4.out H3.out.size z4 hb
      have H5 := Lib.hid h5
      clear hb h5 e5
      go_wp2_with fail
      refine (sawake_any _).mono ?_
      rintro e w6 ⟨rfl, h6⟩
      have H6 := Lib.hid (H5.out.trans (h6.mono H5.out.size))
      clear h6
      go_wp2
      go_ret
      exact ⟨rfl, H6.out⟩

theorem seasonRises_walk (a0 : Int) (w0 : (Lit.int .u32 a0).wf = true) (a1 : Int) (w1 : (Lit.int .u8 a1).wf = true) (a2 : Int) (w2 : (Lit.int .u8 a2).wf = true) (a3 : Int) (w3 : (Lit.int .u8 a3).wf = true) (w : World) :
    Calls Try.prog 7 #[.int .u32 a0, .int .u8 a1, .int .u8 a2, .int .u8 a3] w fun e w' => e = .returned (.bool true) ∧ Below w.heap.size w w' := by
  have r0 : 0 ≤ a0 ∧ a0 ≤ 4294967295 := by simpa [Lit.wf, IntKind.min, IntKind.max, IntKind.bits, IntKind.signed] using w0
  have r1 : 0 ≤ a1 ∧ a1 ≤ 255 := by simpa [Lit.wf, IntKind.min, IntKind.max, IntKind.bits, IntKind.signed] using w1
  have r2 : 0 ≤ a2 ∧ a2 ≤ 255 := by simpa [Lit.wf, IntKind.min, IntKind.max, IntKind.bits, IntKind.signed] using w2
  have r3 : 0 ≤ a3 ∧ a3 ≤ 255 := by simpa [Lit.wf, IntKind.min, IntKind.max, IntKind.bits, IntKind.signed] using w3
  obtain ⟨k, d, h⟩ := Cal.at_of (a0 % 3000000) (by omega) (by omega)
  cases ho : Cal.okN (a1 % 4) (a0 % 3000000) k (1 + a2 % 12) (a3 + 1)
  · exact seasonRises_long a0 a1 a2 a3 k d w r0 r1 r2 r3 h ho
  · have hp := Cal.okN_le (show 1 ≤ 1 + a2 % 12 by omega) (show a3 ≤ a3 + 1 by omega) ho
    by_cases c : a1 % 4 < 2
    · obtain ⟨x0, x1⟩ := Cal.vN_bd h (show 1 ≤ 1 + a2 % 12 by omega) r3.1 hp
      obtain ⟨k', d', hx⟩ := Cal.at_of _ x0 x1
      exact seasonRises_ok a0 a1 a2 a3 k d k' d' w r0 r1 r2 r3 h ho hx (Or.inl c)
    · have nn := Cal.step_nn (u := a1 % 4) (show 1 ≤ 1 + a2 % 12 by omega) r3.1
      have hx := Cal.nthM_at h.d0 (show 0 ≤ k + a3 * Cal.stp (a1 % 4) (1 + a2 % 12) by have := h.k0; omega) ((Cal.okN_months c).1 hp)
      rw [← Cal.vN_months (a := a0 % 3000000) c] at hx
      refine seasonRises_ok a0 a1 a2 a3 k d _ _ w r0 r1 r2 r3 h ho hx (Or.inr ⟨c, ?_⟩)
      show Cal.low d _ = d ∨ Cal.low d _ < d ∧ Cal.low d _ = Cal.ml _
      unfold Cal.low
      split <;> omega
end Go.Proofs.Ytgocgakphncdiaa
