/-
  Contracts of the document's own answer for the first day of a period, and of the statements' own example. No conditions but the numbers' own ranges.
-/
import Derived.Test.YtcgglphphdpplaaCount
import Derived.Test.YtcgglphphdpplaaRefNum
import Derived.Test.YtcgglphphdpplaaRefOf
namespace Go.Proofs.Ytcgglphphdpplaa
open Go.ChangeShapes Go.WideShapes Go.ChangeAt Go.RowKit
open Cal (leap mon)

theorem Cal.prod_bd {n e : Int} (n0 : 0 ≤ n) (n1 : n ≤ 20000) (e0 : 1 ≤ e) (e1 : e ≤ 1000) : 0 ≤ n * e ∧ n * e ≤ 20000000 := by
  have a := Int.mul_le_mul_of_nonneg_right n1 (show 0 ≤ e by omega)
  have b := Int.mul_nonneg n0 (show 0 ≤ e by omega)
  omega

set_option maxHeartbeats 800000 in
theorem rnth_days (a u e n : Int) (b : Bool) (w : World) (a0 : 0 ≤ a) (a1 : a ≤ 3652058) (u0 : 0 ≤ u) (c : u < 2) (e0 : 1 ≤ e) (e1 : e ≤ 1000) (n0 : 0 ≤ n) (n1 : n ≤ 20000) (hb : decide (a + n * Cal.stp u e ≤ 3652058) = b) :
    Calls Try.prog 26 #[.int .i64 a, .int .u8 u, .int .i64 e, .int .i64 n] w fun r w' => r = .returned (.tuple #[.int .i64 (a + n * Cal.stp u e), .bool b]) ∧ w = w' := by
  subst hb
  obtain ⟨p0, p1⟩ := Cal.prod_bd n0 n1 e0 e1
  rcases (show u = 0 ∨ u = 1 by omega) with rfl | rfl
  · rw [show Cal.stp 0 e = e from rfl]
    go_enter Try.func26, Try.ntmps26
    go_wp2
    go_ret2
    exact ⟨rfl, rfl⟩
  · have q : 7 * n * e = n * Cal.stp 1 e := by
      rw [show Cal.stp 1 e = e * 7 from rfl, ← Int.mul_assoc, Int.mul_comm (n * e) 7, Int.mul_assoc]
    have q' : n * Cal.stp 1 e = 7 * (n * e) := by
      rw [← q, Int.mul_assoc]
    have Q := Lib.hid q
    have p2 : 0 ≤ 7 * n * e := by omega
    have p3 : 7 * n * e ≤ 140000000 := by omega
    rw [← q]
    clear q q'
    go_enter Try.func26, Try.ntmps26
    go_wp2
    go_ret2
    exact ⟨rfl, rfl⟩

theorem rmonth_eq {y m Y M : Int} (w : World) (hy : y = Y) (hm : m = M) :
    Calls Try.prog 45 #[.int .i64 y, .int .i64 m] w fun e w' => e = .returned (.int .i64 (mon Y M)) ∧ Below w.heap.size w w' := by
  subst hy hm; exact rmonth_any _ _ _
theorem rnumber_eq {y m d Y M D : Int} (w : World) (h : Cal.right Y M D = true) (hy : y = Y) (hm : m = M) (hd : d = D) :
    Calls Try.prog 46 #[.agg #[.int .i64 y, .int .i64 m, .int .i64 d]] w fun e w' => e = .returned (.int .i64 (Cal.num Y M D)) ∧ Below w.heap.size w w' := by
  subst hy hm hd; exact rnumber_yes _ _ _ _ h

set_option maxHeartbeats 1600000 in
theorem rnth_months (a k d u e n : Int) (w : World) (h : Cal.At a k d) (c : ¬ u < 2) (u1 : u ≤ 3) (e0 : 1 ≤ e) (e1 : e ≤ 1000) (n0 : 0 ≤ n) (n1 : n ≤ 20000) (ho : Cal.okN u a k e n = true) :
    Calls Try.prog 26 #[.int .i64 a, .int .u8 u, .int .i64 e, .int .i64 n] w fun r w' => r = .returned (.tuple #[.int .i64 (Cal.vN u a k d e n), .bool true]) ∧ Below w.heap.size w w' := by
  obtain ⟨p0, p1⟩ := Cal.prod_bd n0 n1 e0 e1
  rw [Cal.okN_months c] at ho
  rw [Cal.vN_months c]
  obtain ⟨M, hM, hM'⟩ : ∃ M, M = n * Cal.stp u e ∧ (u = 2 ∧ M = n * e ∨ u = 3 ∧ M = 12 * (n * e)) := by
    rcases (show u = 2 ∨ u = 3 by omega) with rfl | rfl
    · exact ⟨_, rfl, Or.inl ⟨rfl, rfl⟩⟩
    · refine ⟨_, rfl, Or.inr ⟨rfl, ?_⟩⟩
      rw [show Cal.stp 3 e = e * 12 from rfl, ← Int.mul_assoc, Int.mul_comm]
  rw [← hM] at ho ⊢
  clear hM
  have d0 := h.d0
  have k0 := h.k0
  have M0 : 0 ≤ M := by omega
  have K := Cal.nthM_at d0 (show 0 ≤ k + M by omega) ho
  obtain ⟨lr, ln⟩ := K.right
  obtain ⟨hr, hn⟩ := h.right
  have lo : d ≤ mon ((k + M) / 12 + 1) ((k + M) % 12 + 1) ∧ Cal.low d (k + M) = d ∨ mon ((k + M) / 12 + 1) ((k + M) % 12 + 1) < d ∧ Cal.low d (k + M) = mon ((k + M) / 12 + 1) ((k + M) % 12 + 1) := by
    unfold Cal.low Cal.ml
    split <;> omega
  have HR := Lib.hid hr
  have HN := Lib.hid hn
  have ym : (12 < k % 12 + 1 + M % 12 ∧ k / 12 + 1 + M / 12 + 1 = (k + M) / 12 + 1 ∧ k % 12 + 1 + M % 12 - 12 = (k + M) % 12 + 1) ∨ (¬ 12 < k % 12 + 1 + M % 12 ∧ k / 12 + 1 + M / 12 = (k + M) / 12 + 1 ∧ k % 12 + 1 + M % 12 = (k + M) % 12 + 1) := by omega
  have yb : 0 ≤ (k + M) / 12 ∧ (k + M) / 12 ≤ 9998 := by omega
  have qb : 0 ≤ k / 12 ∧ k / 12 ≤ 9998 ∧ 0 ≤ k % 12 ∧ k % 12 ≤ 11 ∧ 0 ≤ M / 12 ∧ M / 12 ≤ 119987 ∧ 0 ≤ M % 12 ∧ M % 12 ≤ 11 := by have := h.k1; omega
  clear hr hn h K
  generalize (k + M) / 12 = Y at *
  generalize (k + M) % 12 = X at *
  generalize Cal.nthM d (k + M) = V at *
  generalize Cal.low d (k + M) = D at *
  generalize hq : k / 12 = q at *
  generalize hr : k % 12 = r at *
  clear hq hr ho
  rcases hM' with ⟨rfl, hM⟩ | ⟨rfl, hM⟩
  all_goals
    rcases ym with ⟨y0, y1, y2⟩ | ⟨y0, y1, y2⟩
    all_goals
      rcases lo with ⟨o1, o2⟩ | ⟨o1, o2⟩
      all_goals
        have LR := Lib.hid lr
        have LN := Lib.hid ln
        have O2 := Lib.hid o2
        have l1 := Int.le_of_eq hM
        have l2 := Int.le_of_eq hM.symm
        have l3 := Int.le_of_eq y1
        have l4 := Int.le_of_eq y1.symm
        have l5 := Int.le_of_eq y2
        have l6 := Int.le_of_eq y2.symm
        clear lr ln y1 y2 o2 hM
  all_goals try (exfalso; omega)
  all_goals
        go_enter Try.func26, Try.ntmps26
        go_wp2_with fail
        refine (rof_yes _ _ _ _ _ HR.out HN.out).mono ?_
        rintro e w1 ⟨rfl, h1⟩
        go_wp2_with fail
        refine (rmonth_eq (Y := Y + 1) (M := X + 1) _ (by omega) (by omega)).mono ?_
        rintro e w2 ⟨rfl, h2⟩
        go_wp2_with fail
        try (refine (rmonth_eq (Y := Y + 1) (M := X + 1) _ (by omega) (by omega)).mono ?_
             rintro e w3 ⟨rfl, h3⟩
             go_wp2_with fail)
        refine (rnumber_eq (Y := Y + 1) (M := X + 1) (D := D) _ LR.out (by omega) (by omega) O2.out.symm).mono ?_
        rintro e w4 ⟨rfl, h4⟩
        go_wp2
        go_ret2
        first
          | exact ⟨ret_ib LN.out, (((h1.alloc h1.size _).trans (h2.mono (by have := h1.size; simp; omega))).trans (h3.mono (by have := h1.size; have := h2.size; simp at this; omega))).trans (h4.mono (by have := h1.size; have := h3.size; have := h2.size; simp at this; omega))⟩
          | exact ⟨ret_ib LN.out, ((h1.alloc h1.size _).trans (h2.mono (by have := h1.size; simp; omega))).trans (h4.mono (by have := h1.size; have := h2.size; simp at this; omega))⟩

set_option maxHeartbeats 1600000 in
theorem rnth_months_no (a k d u e n : Int) (w : World) (h : Cal.At a k d) (c : ¬ u < 2) (u1 : u ≤ 3) (e0 : 1 ≤ e) (e1 : e ≤ 1000) (n0 : 0 ≤ n) (n1 : n ≤ 20000) (ho : Cal.okN u a k e n = false) :
    Calls Try.prog 26 #[.int .i64 a, .int .u8 u, .int .i64 e, .int .i64 n] w fun r w' => r = .returned (.tuple #[.int .i64 0, .bool false]) ∧ Below w.heap.size w w' := by
  obtain ⟨p0, p1⟩ := Cal.prod_bd n0 n1 e0 e1
  rw [Cal.no_months c] at ho
  obtain ⟨M, hM, hM'⟩ : ∃ M, M = n * Cal.stp u e ∧ (u = 2 ∧ M = n * e ∨ u = 3 ∧ M = 12 * (n * e)) := by
    rcases (show u = 2 ∨ u = 3 by omega) with rfl | rfl
    · exact ⟨_, rfl, Or.inl ⟨rfl, rfl⟩⟩
    · refine ⟨_, rfl, Or.inr ⟨rfl, ?_⟩⟩
      rw [show Cal.stp 3 e = e * 12 from rfl, ← Int.mul_assoc, Int.mul_comm]
  rw [← hM] at ho
  clear hM
  have k0 := h.k0
  have k1 := h.k1
  obtain ⟨hr, hn⟩ := h.right
  have HR := Lib.hid hr
  have HN := Lib.hid hn
  clear hr hn h
  have qk : 12 * (k / 12) + k % 12 = k := by omega
  have qb : 0 ≤ k / 12 ∧ 0 ≤ k % 12 ∧ k % 12 ≤ 11 := by omega
  generalize k / 12 = q at *
  generalize k % 12 = r at *
  have l7 := Int.le_of_eq qk
  have l8 := Int.le_of_eq qk.symm
  clear qk
  rcases hM' with ⟨rfl, hM⟩ | ⟨rfl, hM⟩
  all_goals
    have l1 := Int.le_of_eq hM
    have l2 := Int.le_of_eq hM.symm
    clear hM
    rcases (show 12 < r + 1 + M % 12 ∨ ¬ 12 < r + 1 + M % 12 by omega) with y0 | y0
  all_goals try (exfalso; omega)
  all_goals
    go_enter Try.func26, Try.ntmps26
    go_wp2_with fail
    refine (rof_yes _ _ _ _ _ HR.out HN.out).mono ?_
    rintro e w1 ⟨rfl, h1⟩
    go_wp2
    go_ret2
    exact ⟨rfl, h1.alloc h1.size _⟩

/-- What stands beside the 'false'. -/
def Cal.rno (u a e n : Int) : Int := if u < 2 then a + n * Cal.stp u e else 0

theorem rnth_yes (a k d u e n : Int) (w : World) (h : Cal.At a k d) (u0 : 0 ≤ u) (u1 : u ≤ 3) (e0 : 1 ≤ e) (e1 : e ≤ 1000) (n0 : 0 ≤ n) (n1 : n ≤ 20000) (ho : Cal.okN u a k e n = true) :
    Calls Try.prog 26 #[.int .i64 a, .int .u8 u, .int .i64 e, .int .i64 n] w fun r w' => r = .returned (.tuple #[.int .i64 (Cal.vN u a k d e n), .bool true]) ∧ Below w.heap.size w w' := by
  by_cases c : u < 2
  · rw [Cal.okN_days c] at ho
    rw [Cal.vN_days c]
    refine (rnth_days a u e n true w h.bd.1 h.bd.2 u0 c e0 e1 n0 n1 (decide_eq_true ho)).mono ?_
    rintro r w' ⟨rfl, rfl⟩
    exact ⟨rfl, Below.refl _ _⟩
  · exact rnth_months a k d u e n w h c u1 e0 e1 n0 n1 ho
theorem rnth_no (a k d u e n : Int) (w : World) (h : Cal.At a k d) (u0 : 0 ≤ u) (u1 : u ≤ 3) (e0 : 1 ≤ e) (e1 : e ≤ 1000) (n0 : 0 ≤ n) (n1 : n ≤ 20000) (ho : Cal.okN u a k e n = false) :
    Calls Try.prog 26 #[.int .i64 a, .int .u8 u, .int .i64 e, .int .i64 n] w fun r w' => r = .returned (.tuple #[.int .i64 (Cal.rno u a e n), .bool false]) ∧ Below w.heap.size w w' := by
  unfold Cal.rno
  by_cases c : u < 2
  · rw [Cal.no_days c] at ho
    rw [if_pos c]
    refine (rnth_days a u e n false w h.bd.1 h.bd.2 u0 c e0 e1 n0 n1 (decide_eq_false (by omega))).mono ?_
    rintro r w' ⟨rfl, rfl⟩
    exact ⟨rfl, Below.refl _ _⟩
  · rw [if_neg c]
    exact rnth_months_no a k d u e n w h c u1 e0 e1 n0 n1 ho

end Go.Proofs.Ytcgglphphdpplaa
