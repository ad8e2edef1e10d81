/-
  Contracts of the document's own answers for a day's number, and for the day behind a day. No conditions but that the day is one.
-/
import Derived.Test.YtlfmclcbdjobnaaCalC
import Derived.Test.YtlfmclcbdjobnaaNumber
import Derived.Test.YtlfmclcbdjobnaaBoxed
namespace Go.Proofs.Ytlfmclcbdjobnaa
open Go.ChangeShapes Go.WideShapes Go.ChangeAt Go.RowKit
open Cal (leap mon)

set_option maxHeartbeats 1000000 in
theorem rnumber_yes (y m d : Int) (w : World) (h : Cal.right y m d = true) :
    Calls Try.prog 18 #[.agg #[.int .i64 y, .int .i64 m, .int .i64 d]] w fun e w' => e = .returned (.int .i64 (Cal.num y m d)) ∧ Below w.heap.size w w' := by
  obtain ⟨m1, m2⟩ := Cal.right_month h
  obtain ⟨y1, y2, d1, d2⟩ := Cal.right_true.1 h
  have d3 := (Cal.mon_lo y m).2
  have hd := Cal.dby_bd y y1 (by omega)
  have HF := Lib.hid (Cal.dby_fours y)
  clear h
  go_enter Try.func18, Try.ntmps18
  go_wp2
  generalize (y - 1) % 400 % 100 = r1
  generalize (y - 1) % 100 % 4 = r2
  go_loopw [4, 5] (fun n k wr => ∃ i : Int, 1 ≤ i ∧ i ≤ m ∧ k = .int .i64 i ∧ n = .int .i64 (Cal.dby y + Cal.cum y i) ∧ Below (w.heap.size + 1) (w.alloc (.cells #[.int .i64 y, .int .i64 m, .int .i64 d] 27)) wr) (fun _ k _ => (m - intOf k).toNat)
  case atStart => exact ⟨1, by omega, by omega, rfl, by rw [Cal.cum_one, Int.add_zero, ← HF.out], Below.refl _ _⟩
  case round =>
    obtain ⟨i, i1, i2, rfl, rfl, hb⟩ := hrel
    have cb := Cal.cum_bd y i
    have ml := Cal.mon_lo y i
    have hz := hb.size
    have c0 : wr.cell? ⟨w.heap.size, 0, none⟩ = some (.int .i64 y) := by rw [hb.cell (by simp)]; simp
    have c1 : wr.cell? ⟨w.heap.size, 1, none⟩ = some (.int .i64 m) := by rw [hb.cell (by simp)]; simp
    have c2 : wr.cell? ⟨w.heap.size, 2, none⟩ = some (.int .i64 d) := by rw [hb.cell (by simp)]; simp
    by_cases hlt : i < m
    · have CS := Lib.hid (Cal.cum_succ y i i1 (by omega))
      go_wp2_with (fail)
      refine (rmonth_any _ _ _).mono ?_
      rintro e w2 ⟨rfl, hb2⟩
      go_wp2
      go_roundw
      case rel => exact ⟨i + 1, by omega, by omega, rfl, by rw [CS.out, Int.add_assoc], hb.trans (hb2.mono (by simp at hz; omega))⟩
      case measure => simp [intOf]; omega
    · obtain rfl : i = m := by omega
      go_wp2
      go_ret
      exact ⟨rfl, ((Below.refl _ _).alloc (Nat.le_refl _) _).trans (hb.mono (by simp))⟩

set_option maxHeartbeats 800000 in
theorem next_end (y m d : Int) (w : World) (h : Cal.right y m d = true) (a : mon y m < d + 1) (b : 12 < m + 1) :
    Calls Try.prog 20 #[.agg #[.int .i64 y, .int .i64 m, .int .i64 d]] w fun e w' => e = .returned (.agg #[.int .i64 (y + 1), .int .i64 1, .int .i64 1]) ∧ Below w.heap.size w w' := by
  obtain ⟨m1, m2⟩ := Cal.right_month h
  obtain ⟨y1, y2, d1, d2⟩ := Cal.right_true.1 h
  have d3 := (Cal.mon_lo y m).2
  clear h
  go_enter Try.func20, Try.ntmps20
  go_wp2
  refine region_over (by kernel_rfl) (by kernel_rfl) ?_
  repeat (go_big_quiet_step (((go_at_call 13; exact over_call (rmonth_any _ _ _)))))
  refine wpQuiet_nil ?_
  rintro w1 ⟨⟨_, hb⟩, rfl⟩
  obtain ⟨h0, z0, z1, hw⟩ := two_of hb
  rw [hw]
  clear hb hw
  have H0 := Lib.hid h0
  clear h0
  go_wp2
  exact bodyPost_ret (v := .agg #[.int .i64 (y + 1), .int .i64 1, .int .i64 1]) (by simp [results, Try.results20, go_sem, z1]) rfl ⟨rfl, boxed_below (boxed_below H0.out (Nat.le_refl _)) (by omega)⟩

set_option maxHeartbeats 800000 in
theorem next_month (y m d : Int) (w : World) (h : Cal.right y m d = true) (a : mon y m < d + 1) (b : ¬ 12 < m + 1) :
    Calls Try.prog 20 #[.agg #[.int .i64 y, .int .i64 m, .int .i64 d]] w fun e w' => e = .returned (.agg #[.int .i64 y, .int .i64 (m + 1), .int .i64 1]) ∧ Below w.heap.size w w' := by
  obtain ⟨m1, m2⟩ := Cal.right_month h
  obtain ⟨y1, y2, d1, d2⟩ := Cal.right_true.1 h
  have d3 := (Cal.mon_lo y m).2
  clear h
  go_enter Try.func20, Try.ntmps20
  go_wp2
  refine region_over (by kernel_rfl) (by kernel_rfl) ?_
  repeat (go_big_quiet_step (((go_at_call 13; exact over_call (rmonth_any _ _ _)))))
  refine wpQuiet_nil ?_
  rintro w1 ⟨⟨_, hb⟩, rfl⟩
  obtain ⟨h0, z0, z1, hw⟩ := two_of hb
  rw [hw]
  clear hb hw
  have H0 := Lib.hid h0
  clear h0
  go_wp2
  exact bodyPost_ret (v := .agg #[.int .i64 y, .int .i64 (m + 1), .int .i64 1]) (by simp [results, Try.results20, go_sem, z1]) rfl ⟨rfl, boxed_below (boxed_below H0.out (Nat.le_refl _)) (by omega)⟩

set_option maxHeartbeats 800000 in
theorem next_day (y m d : Int) (w : World) (h : Cal.right y m d = true) (a : ¬ mon y m < d + 1) :
    Calls Try.prog 20 #[.agg #[.int .i64 y, .int .i64 m, .int .i64 d]] w fun e w' => e = .returned (.agg #[.int .i64 y, .int .i64 m, .int .i64 (d + 1)]) ∧ Below w.heap.size w w' := by
  obtain ⟨m1, m2⟩ := Cal.right_month h
  obtain ⟨y1, y2, d1, d2⟩ := Cal.right_true.1 h
  have d3 := (Cal.mon_lo y m).2
  clear h
  go_enter Try.func20, Try.ntmps20
  go_wp2
  refine region_over (by kernel_rfl) (by kernel_rfl) ?_
  repeat (go_big_quiet_step (((go_at_call 13; exact over_call (rmonth_any _ _ _)))))
  refine wpQuiet_nil ?_
  rintro w1 ⟨⟨_, hb⟩, rfl⟩
  obtain ⟨h0, z0, z1, hw⟩ := two_of hb
  rw [hw]
  clear hb hw
  have H0 := Lib.hid h0
  clear h0
  go_wp2
  exact bodyPost_ret (v := .agg #[.int .i64 y, .int .i64 m, .int .i64 (d + 1)]) (by simp [results, Try.results20, go_sem, z1]) rfl ⟨rfl, boxed_below (boxed_below H0.out (Nat.le_refl _)) (by omega)⟩

theorem next_yes (y m d : Int) (w : World) (h : Cal.right y m d = true) :
    Calls Try.prog 20 #[.agg #[.int .i64 y, .int .i64 m, .int .i64 d]] w fun e w' => e = .returned (.agg #[.int .i64 (Cal.nextY y m d), .int .i64 (Cal.nextM y m d), .int .i64 (Cal.nextD y m d)]) ∧ Below w.heap.size w w' := by
  by_cases a : mon y m < d + 1
  · by_cases b : 12 < m + 1
    · rw [show Cal.nextY y m d = y + 1 by unfold Cal.nextY; rw [if_pos ⟨a, b⟩], show Cal.nextM y m d = 1 by unfold Cal.nextM; rw [if_pos a, if_pos b], show Cal.nextD y m d = 1 by unfold Cal.nextD; rw [if_pos a]]
      exact next_end y m d w h a b
    · rw [show Cal.nextY y m d = y by unfold Cal.nextY; rw [if_neg (fun c => b c.2)], show Cal.nextM y m d = m + 1 by unfold Cal.nextM; rw [if_pos a, if_neg b], show Cal.nextD y m d = 1 by unfold Cal.nextD; rw [if_pos a]]
      exact next_month y m d w h a b
  · rw [show Cal.nextY y m d = y by unfold Cal.nextY; rw [if_neg (fun c => a c.1)], show Cal.nextM y m d = m by unfold Cal.nextM; rw [if_neg a], show Cal.nextD y m d = d + 1 by unfold Cal.nextD; rw [if_neg a]]
    exact next_day y m d w h a
end Go.Proofs.Ytlfmclcbdjobnaa
