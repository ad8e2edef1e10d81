/-
  Contract of the document's own answer for the day of a number: of a day's number, that day. No conditions but that the number is a day's.
-/
import Derived.Test.YtcgglphphdpplaaCalC
import Derived.Test.YtcgglphphdpplaaNumber
import Derived.Test.YtcgglphphdpplaaBoxed
namespace Go.Proofs.Ytcgglphphdpplaa
open Go.ChangeShapes Go.WideShapes Go.ChangeAt Go.RowKit
open Cal (leap mon)

set_option maxHeartbeats 2000000 in
theorem rof_yes (n y m d : Int) (w : World) (h : Cal.right y m d = true) (hn : Cal.num y m d = n) :
    Calls Try.prog 44 #[.int .i64 n] w fun e w' => e = .returned (.agg #[.int .i64 y, .int .i64 m, .int .i64 d]) ∧ Below w.heap.size w w' := by
  obtain ⟨m1, m2⟩ := Cal.right_month h
  obtain ⟨y1, y2, d1, d2⟩ := Cal.right_true.1 h
  obtain ⟨n1, n2, n3, n4⟩ := Cal.num_lo h
  have hlast : n = Cal.dby y + Cal.cum y m + d - 1 := by rw [← hn]; rfl
  rw [hn] at n1 n2 n3 n4
  have NL := Lib.hid hlast
  clear hn hlast h
  go_enter Try.func44, Try.ntmps44
  go_wp2
  have g0 : Cal.dby (1 + 400 * (n / 146097)) = 146097 * (n / 146097) := Cal.dby_400 _
  have g1 : 1 + 400 * (n / 146097) ≤ y := by
    by_cases c : y + 1 ≤ 1 + 400 * (n / 146097)
    · have := Cal.dby_mono _ _ c; omega
    · omega
  have G0 := Lib.hid g0
  clear g0
  go_loopw [0] (fun s wr => ∃ i : Int, 1 ≤ i ∧ i ≤ y ∧ s = .int .i64 (n - Cal.dby i) ∧ wr = (w.alloc (.cells #[.int .i64 0, .int .i64 0, .int .i64 0] 93)).alloc (.cells #[.int .i64 i, .int .i64 1, .int .i64 1] 93))
    (fun s _ => (intOf s).toNat)
  case atStart => exact ⟨_, by omega, g1, by rw [G0.out], rfl⟩
  case round =>
    obtain ⟨i, i1, i2, rfl, rfl⟩ := hrel
    have db := Cal.dby_bd i i1 (by omega)
    have l01 := Cal.lp_01 i
    have ds := Cal.dby_succ i
    by_cases hlt : i < y
    · have hd := Cal.dby_mono (i + 1) y (by omega)
      cases hl : leap i
      · have hp : Cal.lp i = 0 := by unfold Cal.lp; rw [hl]; rfl
        have DS := Lib.hid (show Cal.dby (i + 1) = Cal.dby i + 365 by omega)
        have hge : 365 ≤ n - Cal.dby i := by omega
        clear ds hp
        by_cases h6 : 366 ≤ n - Cal.dby i
        all_goals
          go_wp2_with (go_at_call 67; refine (rleap_any _ _).mono ?_; rintro e w' ⟨rfl, rfl⟩)
          go_roundw
          case rel => exact ⟨i + 1, by omega, by omega, by rw [DS.out, Int.sub_sub], rfl⟩
          case measure => simp [intOf]; omega
      · have hp : Cal.lp i = 1 := by unfold Cal.lp; rw [hl]; rfl
        have DS := Lib.hid (show Cal.dby (i + 1) = Cal.dby i + 365 + 1 by omega)
        have hge : 365 ≤ n - Cal.dby i := by omega
        have hge6 : 366 ≤ n - Cal.dby i := by omega
        clear ds hp
        go_wp2_with (go_at_call 67; refine (rleap_any _ _).mono ?_; rintro e w' ⟨rfl, rfl⟩)
        go_roundw
        case rel => exact ⟨i + 1, by omega, by omega, by rw [DS.out, ← Int.sub_sub, ← Int.sub_sub], rfl⟩
        case measure => simp [intOf]; omega
    · obtain rfl : i = y := by omega
      have hend : n - Cal.dby i < 365 ∨ (365 ≤ n - Cal.dby i ∧ n - Cal.dby i < 366 ∧ leap i = true) := by
        cases hl : leap i
        · have hp : Cal.lp i = 0 := by unfold Cal.lp; rw [hl]; rfl
          omega
        · have hp : Cal.lp i = 1 := by unfold Cal.lp; rw [hl]; rfl
          by_cases c : n - Cal.dby i < 365
          · exact Or.inl c
          · exact Or.inr ⟨by omega, by omega, rfl⟩
      clear ds
      rcases hend with hend | ⟨he1, he2, hl⟩
      all_goals
        go_wp2_with (first | (go_at_call 67; refine (rleap_any _ _).mono ?_; rintro e w' ⟨rfl, rfl⟩) | fail)
        go_loopw [0] (fun s wr => ∃ (j : Int) (wx : World), 1 ≤ j ∧ j ≤ m ∧ s = .int .i64 (n - Cal.dby i - Cal.cum i j) ∧ wr = boxed (boxed wx w.heap.size #[.int .i64 0, .int .i64 0, .int .i64 0] 93) (w.heap.size + 1) #[.int .i64 i, .int .i64 j, .int .i64 1] 93 ∧ Below w.heap.size w wx ∧ w.heap.size + 1 < wx.heap.size)
          (fun s _ => (intOf s).toNat)
        case atStart =>
          obtain ⟨q1, q2, q3, q4⟩ := two_of (Below.refl _ ((w.alloc (.cells #[.int .i64 0, .int .i64 0, .int .i64 0] 93)).alloc (.cells #[.int .i64 i, .int .i64 1, .int .i64 1] 93)))
          exact ⟨1, _, by omega, by omega, by rw [Cal.cum_one, Int.sub_zero], q4, q1, q3⟩
        case round =>
          obtain ⟨j, wx, j1, j2, rfl, rfl, h0, hz⟩ := hrel
          have cb := Cal.cum_bd i j
          have mb := Cal.mon_28 i j j1 (by omega)
          have H0 := Lib.hid h0
          have hz0 : w.heap.size < wx.heap.size := by omega
          clear h0
          by_cases hj : j < m
          · have cs := Cal.cum_succ i j j1 (by omega)
            have cm := Cal.cum_mono i j m j1 hj m2
            have hge : mon i j ≤ n - Cal.dby i - Cal.cum i j := by have := NL.out; omega
            have CS := Lib.hid cs
            clear cs
            go_wp2_with (fail)
            refine (rmonth_any _ _ _).mono ?_
            rintro e w2 ⟨rfl, hb2⟩
            obtain ⟨h2, z2, e2⟩ := two_again H0.out hz hb2
            rw [e2]
            have z20 : w.heap.size < w2.heap.size := by omega
            have H2 := Lib.hid h2
            clear e2 hb2 h2
            go_wp2_with (fail)
            refine (rmonth_any _ _ _).mono ?_
            rintro e w3 ⟨rfl, hb3⟩
            obtain ⟨h3, z3, e3⟩ := two_again H2.out z2 hb3
            rw [e3]
            have z30 : w.heap.size < w3.heap.size := by omega
            have H3 := Lib.hid h3
            clear e3 hb3 h3
            go_wp2
            go_roundw
            case rel => exact ⟨j + 1, w3, by omega, by omega, by rw [CS.out, Int.sub_sub _ (Cal.cum i j)], rfl, H3.out, z3⟩
            case measure => simp [intOf]; omega
          · obtain rfl : j = m := by omega
            have hge : ¬ mon i j ≤ n - Cal.dby i - Cal.cum i j := by have := NL.out; omega
            have hq : 1 + (n - Cal.dby i - Cal.cum i j) = d := by have := NL.out; omega
            have HQ := Lib.hid hq
            clear hq
            go_wp2_with (fail)
            refine (rmonth_any _ _ _).mono ?_
            rintro e w2 ⟨rfl, hb2⟩
            obtain ⟨h2, z2, e2⟩ := two_again H0.out hz hb2
            rw [e2]
            have z20 : w.heap.size < w2.heap.size := by omega
            have H2 := Lib.hid h2
            clear e2 hb2 h2
            go_wp2
            exact bodyPost_ret (v := .agg #[.int .i64 i, .int .i64 j, .int .i64 (1 + (n - Cal.dby i - Cal.cum i j))]) (by simp [results, Try.results44, go_sem, z20]) rfl ⟨by rw [HQ.out], boxed_below (boxed_below H2.out (Nat.le_refl _)) (by omega)⟩
end Go.Proofs.Ytcgglphphdpplaa
