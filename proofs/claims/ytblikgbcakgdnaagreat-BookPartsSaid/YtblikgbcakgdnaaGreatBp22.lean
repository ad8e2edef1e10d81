/-
  Package account's small calls: Open, Name, goesOn, turned, Pause, Resume, Skip, Cancel, Card. No conditions but the sizes.
-/
import Derived.Test.YtblikgbcakgdnaaGreatBp02
import Derived.Test.YtblikgbcakgdnaaGreatBp04
import Derived.Test.YtblikgbcakgdnaaGreatBp05
import Derived.Test.YtblikgbcakgdnaaGreatBp09
import Derived.Test.YtblikgbcakgdnaaGreatBp10
import Derived.Test.YtblikgbcakgdnaaGreatBp11
import Derived.Test.YtblikgbcakgdnaaGreatBp12
import Derived.Test.YtblikgbcakgdnaaGreatBp21
set_option linter.unusedSimpArgs false
set_option linter.unusedVariables false
namespace Go.Proofs.YtblikgbcakgdnaaGreat
set_option maxRecDepth 20000
open Go.ChangeShapes Go.WideShapes Go.ChangeAt Go.RowKit

def Av.opened (n an : Int) : Av := ⟨1, n, an, 0, 0, 0, false, [], 0, 0, 0, 0, 0⟩
/-- What is answered by an error: no subscription. -/
def Refused (w : World) (x : Int) (e : Ending) (w' : World) : Prop := e = .returned (.tuple #[.agg (Av.zero.arr (.slice none 0 0)), .int .i64 x]) ∧ Below w.heap.size w w'
set_option maxHeartbeats 1000000 in
theorem open_any {w : World} {p : Pv} (n y : Int) (h : -1000000000000 ≤ y + p.t ∧ y + p.t ≤ 1000000000000) : Calls Tryz.prog 59 #[.int .i64 n, .agg p.arr, .int .i64 y] w fun e w' => e = .returned (.agg ((Av.opened n (y + p.t)).arr (.slice none 0 0))) ∧ Below w.heap.size w w' := by
  have ew : wrap64 (y + p.t) = y + p.t := by unfold wrap64; omega
  go_enter Tryz.func59, Tryz.ntmps59
  go_wp2
  refine bodyPost_ret (v := .agg ((Av.opened n (y + p.t)).arr (.slice none 0 0))) ?_ rfl ⟨rfl, by go_grown⟩
  simp [results, Tryz.results59, go_sem, Av.opened, Av.arr]
def Av.name (s : Int) : ByteArray := if s = 0 then ⟨#[110, 111, 116, 104, 105, 110, 103]⟩ else if s = 1 then ⟨#[97, 99, 116, 105, 118, 101]⟩ else if s = 2 then ⟨#[112, 97, 117, 115, 101, 100]⟩ else if s = 3 then ⟨#[101, 110, 100, 101, 100]⟩ else ⟨#[]⟩
def Av.live (a : Av) : Bool := a.st == 1 || a.st == 2
end Go.Proofs.YtblikgbcakgdnaaGreat
/-
  Contracts of the document's own answers for a day's number, and for the day behind a day. No conditions but that the day is one.
-/
namespace Go.Proofs.YtblikgbcakgdnaaGreat
open Go.ChangeShapes Go.WideShapes Go.ChangeAt Go.RowKit
open Cal (leap mon)

set_option maxHeartbeats 1000000 in
theorem rnumber_yes (y m d : Int) (w : World) (h : Cal.right y m d = true) :
    Calls Tryz.prog 101 #[.agg #[.int .i64 y, .int .i64 m, .int .i64 d]] w fun e w' => e = .returned (.int .i64 (Cal.num y m d)) ∧ Below w.heap.size w w' := by
  obtain ⟨m1, m2⟩ := Cal.right_month h
  obtain ⟨y1, y2, d1, d2⟩ := Cal.right_true.1 h
  have d3 := (Cal.mon_lo y m).2
  have hd := Cal.dby_bd y y1 (by omega)
  have HF := Lib.hid (Cal.dby_fours y)
  clear h
  go_enter Tryz.func101, Tryz.ntmps101
  go_wp2
  generalize (y - 1) % 400 % 100 = r1
  generalize (y - 1) % 100 % 4 = r2
  go_loopw [4, 5] (fun n k wr => ∃ i : Int, 1 ≤ i ∧ i ≤ m ∧ k = .int .i64 i ∧ n = .int .i64 (Cal.dby y + Cal.cum y i) ∧ Below (w.heap.size + 1) (w.alloc (.cells #[.int .i64 y, .int .i64 m, .int .i64 d] 157)) wr) (fun _ k _ => (m - intOf k).toNat)
  case atStart => exact ⟨1, by omega, by omega, rfl, by rw [Cal.cum_one, Int.add_zero, ← HF.out], Below.refl _ _⟩
  case round =>
    obtain ⟨i, i1, i2, rfl, rfl, hb⟩ := hrel
    have cb := Cal.cum_bd y i
    have ml := Cal.mon_lo y i
    have hz := hb.size
    have c0 : wr.cell? ⟨w.heap.size, 0, none⟩ = some (.int .i64 y) := by rw [hb.cell (by simp)]; simp
    have c1 : wr.cell? ⟨w.heap.size, 1, none⟩ = some (.int .i64 m) := by rw [hb.cell (by simp)]; simp
    have c2 : wr.cell? ⟨w.heap.size, 2, none⟩ = some (.int .i64 d) := by rw [hb.cell (by simp)]; simp
    by_cases hlt : i < m
    · have CS := Lib.hid (Cal.cum_succ y i i1 (by omega))
      go_wp2_with (fail)
      refine (rmonth_any _ _ _).mono ?_
      rintro e w2 ⟨rfl, hb2⟩
      go_wp2
      go_roundw
      case rel => exact ⟨i + 1, by omega, by omega, rfl, by rw [CS.out, Int.add_assoc], hb.trans (hb2.mono (by simp at hz; omega))⟩
      case measure => simp [intOf]; omega
    · obtain rfl : i = m := by omega
      go_wp2
      go_ret
      exact ⟨rfl, ((Below.refl _ _).alloc (Nat.le_refl _) _).trans (hb.mono (by simp))⟩




end Go.Proofs.YtblikgbcakgdnaaGreat
/-
  Contract of the document's own answer for the day of a number: of a day's number, that day. No conditions but that the number is a day's.
-/
namespace Go.Proofs.YtblikgbcakgdnaaGreat
open Go.ChangeShapes Go.WideShapes Go.ChangeAt Go.RowKit
open Cal (leap mon)

set_option maxHeartbeats 2000000 in
theorem rof_yes (n y m d : Int) (w : World) (h : Cal.right y m d = true) (hn : Cal.num y m d = n) :
    Calls Tryz.prog 99 #[.int .i64 n] w fun e w' => e = .returned (.agg #[.int .i64 y, .int .i64 m, .int .i64 d]) ∧ Below w.heap.size w w' := by
  obtain ⟨m1, m2⟩ := Cal.right_month h
  obtain ⟨y1, y2, d1, d2⟩ := Cal.right_true.1 h
  obtain ⟨n1, n2, n3, n4⟩ := Cal.num_lo h
  have hlast : n = Cal.dby y + Cal.cum y m + d - 1 := by rw [← hn]; rfl
  rw [hn] at n1 n2 n3 n4
  have NL := Lib.hid hlast
  clear hn hlast h
  go_enter Tryz.func99, Tryz.ntmps99
  go_wp2
  have g0 : Cal.dby (1 + 400 * (n / 146097)) = 146097 * (n / 146097) := Cal.dby_400 _
  have g1 : 1 + 400 * (n / 146097) ≤ y := by
    by_cases c : y + 1 ≤ 1 + 400 * (n / 146097)
    · have := Cal.dby_mono _ _ c; omega
    · omega
  have G0 := Lib.hid g0
  clear g0
  go_loopw [0] (fun s wr => ∃ i : Int, 1 ≤ i ∧ i ≤ y ∧ s = .int .i64 (n - Cal.dby i) ∧ wr = (w.alloc (.cells #[.int .i64 0, .int .i64 0, .int .i64 0] 157)).alloc (.cells #[.int .i64 i, .int .i64 1, .int .i64 1] 157))
    (fun s _ => (intOf s).toNat)
  case atStart => exact ⟨_, by omega, g1, by rw [G0.out], rfl⟩
  case round =>
    obtain ⟨i, i1, i2, rfl, rfl⟩ := hrel
    have db := Cal.dby_bd i i1 (by omega)
    have l01 := Cal.lp_01 i
    have ds := Cal.dby_succ i
    by_cases hlt : i < y
    · have hd := Cal.dby_mono (i + 1) y (by omega)
      cases hl : leap i
      · have hp : Cal.lp i = 0 := by unfold Cal.lp; rw [hl]; rfl
        have DS := Lib.hid (show Cal.dby (i + 1) = Cal.dby i + 365 by omega)
        have hge : 365 ≤ n - Cal.dby i := by omega
        clear ds hp
        by_cases h6 : 366 ≤ n - Cal.dby i
        all_goals
          go_wp2_with (go_at_call 120; refine (rleap_any _ _).mono ?_; rintro e w' ⟨rfl, rfl⟩)
          go_roundw
          case rel => exact ⟨i + 1, by omega, by omega, by rw [DS.out, Int.sub_sub], rfl⟩
          case measure => simp [intOf]; omega
      · have hp : Cal.lp i = 1 := by unfold Cal.lp; rw [hl]; rfl
        have DS := Lib.hid (show Cal.dby (i + 1) = Cal.dby i + 365 + 1 by omega)
        have hge : 365 ≤ n - Cal.dby i := by omega
        have hge6 : 366 ≤ n - Cal.dby i := by omega
        clear ds hp
        go_wp2_with (go_at_call 120; refine (rleap_any _ _).mono ?_; rintro e w' ⟨rfl, rfl⟩)
        go_roundw
        case rel => exact ⟨i + 1, by omega, by omega, by rw [DS.out, ← Int.sub_sub, ← Int.sub_sub], rfl⟩
        case measure => simp [intOf]; omega
    · obtain rfl : i = y := by omega
      have hend : n - Cal.dby i < 365 ∨ (365 ≤ n - Cal.dby i ∧ n - Cal.dby i < 366 ∧ leap i = true) := by
        cases hl : leap i
        · have hp : Cal.lp i = 0 := by unfold Cal.lp; rw [hl]; rfl
          omega
        · have hp : Cal.lp i = 1 := by unfold Cal.lp; rw [hl]; rfl
          by_cases c : n - Cal.dby i < 365
          · exact Or.inl c
          · exact Or.inr ⟨by omega, by omega, rfl⟩
      clear ds
      rcases hend with hend | ⟨he1, he2, hl⟩
      all_goals
        go_wp2_with (first | (go_at_call 120; refine (rleap_any _ _).mono ?_; rintro e w' ⟨rfl, rfl⟩) | fail)
        go_loopw [0] (fun s wr => ∃ (j : Int) (wx : World), 1 ≤ j ∧ j ≤ m ∧ s = .int .i64 (n - Cal.dby i - Cal.cum i j) ∧ wr = boxed (boxed wx w.heap.size #[.int .i64 0, .int .i64 0, .int .i64 0] 157) (w.heap.size + 1) #[.int .i64 i, .int .i64 j, .int .i64 1] 157 ∧ Below w.heap.size w wx ∧ w.heap.size + 1 < wx.heap.size)
          (fun s _ => (intOf s).toNat)
        case atStart =>
          obtain ⟨q1, q2, q3, q4⟩ := two_of (Below.refl _ ((w.alloc (.cells #[.int .i64 0, .int .i64 0, .int .i64 0] 157)).alloc (.cells #[.int .i64 i, .int .i64 1, .int .i64 1] 157)))
          exact ⟨1, _, by omega, by omega, by rw [Cal.cum_one, Int.sub_zero], q4, q1, q3⟩
        case round =>
          obtain ⟨j, wx, j1, j2, rfl, rfl, h0, hz⟩ := hrel
          have cb := Cal.cum_bd i j
          have mb := Cal.mon_28 i j j1 (by omega)
          have H0 := Lib.hid h0
          have hz0 : w.heap.size < wx.heap.size := by omega
          clear h0
          by_cases hj : j < m
          · have cs := Cal.cum_succ i j j1 (by omega)
            have cm := Cal.cum_mono i j m j1 hj m2
            have hge : mon i j ≤ n - Cal.dby i - Cal.cum i j := by have := NL.out; omega
            have CS := Lib.hid cs
            clear cs
            go_wp2_with (fail)
            refine (rmonth_any _ _ _).mono ?_
            rintro e w2 ⟨rfl, hb2⟩
            obtain ⟨h2, z2, e2⟩ := two_again H0.out hz hb2
            rw [e2]
            have z20 : w.heap.size < w2.heap.size := by omega
            have H2 := Lib.hid h2
            clear e2 hb2 h2
            go_wp2_with (fail)
            refine (rmonth_any _ _ _).mono ?_
            rintro e w3 ⟨rfl, hb3⟩
            obtain ⟨h3, z3, e3⟩ := two_again H2.out z2 hb3
            rw [e3]
            have z30 : w.heap.size < w3.heap.size := by omega
            have H3 := Lib.hid h3
            clear e3 hb3 h3
            go_wp2
            go_roundw
            case rel => exact ⟨j + 1, w3, by omega, by omega, by rw [CS.out, Int.sub_sub _ (Cal.cum i j)], rfl, H3.out, z3⟩
            case measure => simp [intOf]; omega
          · obtain rfl : j = m := by omega
            have hge : ¬ mon i j ≤ n - Cal.dby i - Cal.cum i j := by have := NL.out; omega
            have hq : 1 + (n - Cal.dby i - Cal.cum i j) = d := by have := NL.out; omega
            have HQ := Lib.hid hq
            clear hq
            go_wp2_with (fail)
            refine (rmonth_any _ _ _).mono ?_
            rintro e w2 ⟨rfl, hb2⟩
            obtain ⟨h2, z2, e2⟩ := two_again H0.out hz hb2
            rw [e2]
            have z20 : w.heap.size < w2.heap.size := by omega
            have H2 := Lib.hid h2
            clear e2 hb2 h2
            go_wp2
            exact bodyPost_ret (v := .agg #[.int .i64 i, .int .i64 j, .int .i64 (1 + (n - Cal.dby i - Cal.cum i j))]) (by simp [results, Tryz.results99, go_sem, z20]) rfl ⟨by rw [HQ.out], boxed_below (boxed_below H2.out (Nat.le_refl _)) (by omega)⟩
end Go.Proofs.YtblikgbcakgdnaaGreat
/-
  Contracts of the document's own answer for the first day of a period, and of the statements' own example. No conditions but the numbers' own ranges.
-/
namespace Go.Proofs.YtblikgbcakgdnaaGreat
open Go.ChangeShapes Go.WideShapes Go.ChangeAt Go.RowKit
open Cal (leap mon)

theorem Cal.prod_bd {n e : Int} (n0 : 0 ≤ n) (n1 : n ≤ 20000) (e0 : 1 ≤ e) (e1 : e ≤ 1000) : 0 ≤ n * e ∧ n * e ≤ 20000000 := by
  have a := Int.mul_le_mul_of_nonneg_right n1 (show 0 ≤ e by omega)
  have b := Int.mul_nonneg n0 (show 0 ≤ e by omega)
  omega

set_option maxHeartbeats 800000 in
theorem rnth_days (a u e n : Int) (b : Bool) (w : World) (a0 : 0 ≤ a) (a1 : a ≤ 3652058) (u0 : 0 ≤ u) (c : u < 2) (e0 : 1 ≤ e) (e1 : e ≤ 1000) (n0 : 0 ≤ n) (n1 : n ≤ 20000) (hb : decide (a + n * Cal.stp u e ≤ 3652058) = b) :
    Calls Tryz.prog 67 #[.int .i64 a, .int .u8 u, .int .i64 e, .int .i64 n] w fun r w' => r = .returned (.tuple #[.int .i64 (a + n * Cal.stp u e), .bool b]) ∧ w = w' := by
  subst hb
  obtain ⟨p0, p1⟩ := Cal.prod_bd n0 n1 e0 e1
  rcases (show u = 0 ∨ u = 1 by omega) with rfl | rfl
  · rw [show Cal.stp 0 e = e from rfl]
    go_enter Tryz.func67, Tryz.ntmps67
    go_wp2
    go_ret2
    exact ⟨rfl, rfl⟩
  · have q : 7 * n * e = n * Cal.stp 1 e := by
      rw [show Cal.stp 1 e = e * 7 from rfl, ← Int.mul_assoc, Int.mul_comm (n * e) 7, Int.mul_assoc]
    have q' : n * Cal.stp 1 e = 7 * (n * e) := by
      rw [← q, Int.mul_assoc]
    have Q := Lib.hid q
    have p2 : 0 ≤ 7 * n * e := by omega
    have p3 : 7 * n * e ≤ 140000000 := by omega
    rw [← q]
    clear q q'
    go_enter Tryz.func67, Tryz.ntmps67
    go_wp2
    go_ret2
    exact ⟨rfl, rfl⟩

theorem rmonth_eq {y m Y M : Int} (w : World) (hy : y = Y) (hm : m = M) :
    Calls Tryz.prog 100 #[.int .i64 y, .int .i64 m] w fun e w' => e = .returned (.int .i64 (mon Y M)) ∧ Below w.heap.size w w' := by
  subst hy hm; exact rmonth_any _ _ _
theorem rnumber_eq {y m d Y M D : Int} (w : World) (h : Cal.right Y M D = true) (hy : y = Y) (hm : m = M) (hd : d = D) :
    Calls Tryz.prog 101 #[.agg #[.int .i64 y, .int .i64 m, .int .i64 d]] w fun e w' => e = .returned (.int .i64 (Cal.num Y M D)) ∧ Below w.heap.size w w' := by
  subst hy hm hd; exact rnumber_yes _ _ _ _ h

set_option maxHeartbeats 1600000 in
theorem rnth_months (a k d u e n : Int) (w : World) (h : Cal.At a k d) (c : ¬ u < 2) (u1 : u ≤ 3) (e0 : 1 ≤ e) (e1 : e ≤ 1000) (n0 : 0 ≤ n) (n1 : n ≤ 20000) (ho : Cal.okN u a k e n = true) :
    Calls Tryz.prog 67 #[.int .i64 a, .int .u8 u, .int .i64 e, .int .i64 n] w fun r w' => r = .returned (.tuple #[.int .i64 (Cal.vN u a k d e n), .bool true]) ∧ Below w.heap.size w w' := by
  obtain ⟨p0, p1⟩ := Cal.prod_bd n0 n1 e0 e1
  rw [Cal.okN_months c] at ho
  rw [Cal.vN_months c]
  obtain ⟨M, hM, hM'⟩ : ∃ M, M = n * Cal.stp u e ∧ (u = 2 ∧ M = n * e ∨ u = 3 ∧ M = 12 * (n * e)) := by
    rcases (show u = 2 ∨ u = 3 by omega) with rfl | rfl
    · exact ⟨_, rfl, Or.inl ⟨rfl, rfl⟩⟩
    · refine ⟨_, rfl, Or.inr ⟨rfl, ?_⟩⟩
      rw [show Cal.stp 3 e = e * 12 from rfl, ← Int.mul_assoc, Int.mul_comm]
  rw [← hM] at ho ⊢
  clear hM
  have d0 := h.d0
  have k0 := h.k0
  have M0 : 0 ≤ M := by omega
  have K := Cal.nthM_at d0 (show 0 ≤ k + M by omega) ho
  obtain ⟨lr, ln⟩ := K.right
  obtain ⟨hr, hn⟩ := h.right
  have lo : d ≤ mon ((k + M) / 12 + 1) ((k + M) % 12 + 1) ∧ Cal.low d (k + M) = d ∨ mon ((k + M) / 12 + 1) ((k + M) % 12 + 1) < d ∧ Cal.low d (k + M) = mon ((k + M) / 12 + 1) ((k + M) % 12 + 1) := by
    unfold Cal.low Cal.ml
    split <;> omega
  have HR := Lib.hid hr
  have HN := Lib.hid hn
  have ym : (12 < k % 12 + 1 + M % 12 ∧ k / 12 + 1 + M / 12 + 1 = (k + M) / 12 + 1 ∧ k % 12 + 1 + M % 12 - 12 = (k + M) % 12 + 1) ∨ (¬ 12 < k % 12 + 1 + M % 12 ∧ k / 12 + 1 + M / 12 = (k + M) / 12 + 1 ∧ k % 12 + 1 + M % 12 = (k + M) % 12 + 1) := by omega
  have yb : 0 ≤ (k + M) / 12 ∧ (k + M) / 12 ≤ 9998 := by omega
  have qb : 0 ≤ k / 12 ∧ k / 12 ≤ 9998 ∧ 0 ≤ k % 12 ∧ k % 12 ≤ 11 ∧ 0 ≤ M / 12 ∧ M / 12 ≤ 119987 ∧ 0 ≤ M % 12 ∧ M % 12 ≤ 11 := by have := h.k1; omega
  clear hr hn h K
  generalize (k + M) / 12 = Y at *
  generalize (k + M) % 12 = X at *
  generalize Cal.nthM d (k + M) = V at *
  generalize Cal.low d (k + M) = D at *
  generalize hq : k / 12 = q at *
  generalize hr : k % 12 = r at *
  clear hq hr ho
  rcases hM' with ⟨rfl, hM⟩ | ⟨rfl, hM⟩
  all_goals
    rcases ym with ⟨y0, y1, y2⟩ | ⟨y0, y1, y2⟩
    all_goals
      rcases lo with ⟨o1, o2⟩ | ⟨o1, o2⟩
      all_goals
        have LR := Lib.hid lr
        have LN := Lib.hid ln
        have O2 := Lib.hid o2
        have l1 := Int.le_of_eq hM
        have l2 := Int.le_of_eq hM.symm
        have l3 := Int.le_of_eq y1
        have l4 := Int.le_of_eq y1.symm
        have l5 := Int.le_of_eq y2
        have l6 := Int.le_of_eq y2.symm
        clear lr ln y1 y2 o2 hM
  all_goals try (exfalso; omega)
  all_goals
        go_enter Tryz.func67, Tryz.ntmps67
        go_wp2_with fail
        refine (rof_yes _ _ _ _ _ HR.out HN.out).mono ?_
        rintro e w1 ⟨rfl, h1⟩
        go_wp2_with fail
        refine (rmonth_eq (Y := Y + 1) (M := X + 1) _ (by omega) (by omega)).mono ?_
        rintro e w2 ⟨rfl, h2⟩
        go_wp2_with fail
        try (refine (rmonth_eq (Y := Y + 1) (M := X + 1) _ (by omega) (by omega)).mono ?_
             rintro e w3 ⟨rfl, h3⟩
             go_wp2_with fail)
        refine (rnumber_eq (Y := Y + 1) (M := X + 1) (D := D) _ LR.out (by omega) (by omega) O2.out.symm).mono ?_
        rintro e w4 ⟨rfl, h4⟩
        go_wp2
        go_ret2
        first
          | exact ⟨ret_ib LN.out, (((h1.alloc h1.size _).trans (h2.mono (by have := h1.size; simp; omega))).trans (h3.mono (by have := h1.size; have := h2.size; simp at this; omega))).trans (h4.mono (by have := h1.size; have := h3.size; have := h2.size; simp at this; omega))⟩
          | exact ⟨ret_ib LN.out, ((h1.alloc h1.size _).trans (h2.mono (by have := h1.size; simp; omega))).trans (h4.mono (by have := h1.size; have := h2.size; simp at this; omega))⟩

set_option maxHeartbeats 1600000 in
theorem rnth_months_no (a k d u e n : Int) (w : World) (h : Cal.At a k d) (c : ¬ u < 2) (u1 : u ≤ 3) (e0 : 1 ≤ e) (e1 : e ≤ 1000) (n0 : 0 ≤ n) (n1 : n ≤ 20000) (ho : Cal.okN u a k e n = false) :
    Calls Tryz.prog 67 #[.int .i64 a, .int .u8 u, .int .i64 e, .int .i64 n] w fun r w' => r = .returned (.tuple #[.int .i64 0, .bool false]) ∧ Below w.heap.size w w' := by
  obtain ⟨p0, p1⟩ := Cal.prod_bd n0 n1 e0 e1
  rw [Cal.no_months c] at ho
  obtain ⟨M, hM, hM'⟩ : ∃ M, M = n * Cal.stp u e ∧ (u = 2 ∧ M = n * e ∨ u = 3 ∧ M = 12 * (n * e)) := by
    rcases (show u = 2 ∨ u = 3 by omega) with rfl | rfl
    · exact ⟨_, rfl, Or.inl ⟨rfl, rfl⟩⟩
    · refine ⟨_, rfl, Or.inr ⟨rfl, ?_⟩⟩
      rw [show Cal.stp 3 e = e * 12 from rfl, ← Int.mul_assoc, Int.mul_comm]
  rw [← hM] at ho
  clear hM
  have k0 := h.k0
  have k1 := h.k1
  obtain ⟨hr, hn⟩ := h.right
  have HR := Lib.hid hr
  have HN := Lib.hid hn
  clear hr hn h
  have qk : 12 * (k / 12) + k % 12 = k := by omega
  have qb : 0 ≤ k / 12 ∧ 0 ≤ k % 12 ∧ k % 12 ≤ 11 := by omega
  generalize k / 12 = q at *
  generalize k % 12 = r at *
  have l7 := Int.le_of_eq qk
  have l8 := Int.le_of_eq qk.symm
  clear qk
  rcases hM' with ⟨rfl, hM⟩ | ⟨rfl, hM⟩
  all_goals
    have l1 := Int.le_of_eq hM
    have l2 := Int.le_of_eq hM.symm
    clear hM
    rcases (show 12 < r + 1 + M % 12 ∨ ¬ 12 < r + 1 + M % 12 by omega) with y0 | y0
  all_goals try (exfalso; omega)
  all_goals
    go_enter Tryz.func67, Tryz.ntmps67
    go_wp2_with fail
    refine (rof_yes _ _ _ _ _ HR.out HN.out).mono ?_
    rintro e w1 ⟨rfl, h1⟩
    go_wp2
    go_ret2
    exact ⟨rfl, h1.alloc h1.size _⟩

/-- What stands beside the 'false'. -/
def Cal.rno (u a e n : Int) : Int := if u < 2 then a + n * Cal.stp u e else 0

theorem rnth_yes (a k d u e n : Int) (w : World) (h : Cal.At a k d) (u0 : 0 ≤ u) (u1 : u ≤ 3) (e0 : 1 ≤ e) (e1 : e ≤ 1000) (n0 : 0 ≤ n) (n1 : n ≤ 20000) (ho : Cal.okN u a k e n = true) :
    Calls Tryz.prog 67 #[.int .i64 a, .int .u8 u, .int .i64 e, .int .i64 n] w fun r w' => r = .returned (.tuple #[.int .i64 (Cal.vN u a k d e n), .bool true]) ∧ Below w.heap.size w w' := by
  by_cases c : u < 2
  · rw [Cal.okN_days c] at ho
    rw [Cal.vN_days c]
    refine (rnth_days a u e n true w h.bd.1 h.bd.2 u0 c e0 e1 n0 n1 (decide_eq_true ho)).mono ?_
    rintro r w' ⟨rfl, rfl⟩
    exact ⟨rfl, Below.refl _ _⟩
  · exact rnth_months a k d u e n w h c u1 e0 e1 n0 n1 ho
theorem rnth_no (a k d u e n : Int) (w : World) (h : Cal.At a k d) (u0 : 0 ≤ u) (u1 : u ≤ 3) (e0 : 1 ≤ e) (e1 : e ≤ 1000) (n0 : 0 ≤ n) (n1 : n ≤ 20000) (ho : Cal.okN u a k e n = false) :
    Calls Tryz.prog 67 #[.int .i64 a, .int .u8 u, .int .i64 e, .int .i64 n] w fun r w' => r = .returned (.tuple #[.int .i64 (Cal.rno u a e n), .bool false]) ∧ Below w.heap.size w w' := by
  unfold Cal.rno
  by_cases c : u < 2
  · rw [Cal.no_days c] at ho
    rw [if_pos c]
    refine (rnth_days a u e n false w h.bd.1 h.bd.2 u0 c e0 e1 n0 n1 (decide_eq_false (by omega))).mono ?_
    rintro r w' ⟨rfl, rfl⟩
    exact ⟨rfl, Below.refl _ _⟩
  · rw [if_neg c]
    exact rnth_months_no a k d u e n w h c u1 e0 e1 n0 n1 ho

end Go.Proofs.YtblikgbcakgdnaaGreat
/-
  A subscription by its fields; a day that comes: what becomes of it, as the document's own Day tells it. No conditions but those that each law names.
-/
namespace Go.Proofs.YtblikgbcakgdnaaGreat
set_option maxRecDepth 20000
open Go.ChangeShapes Go.WideShapes Go.ChangeAt Go.RowKit

/-- A subscription, by its fields: its state, its plan, the day from which periods count, the next one's number, its credit; is the next one passed over? all its cycles. -/
structure Sv where
  st : Int
  pl : Int
  an : Int
  ix : Int
  cr : Int
  sk : Bool
  l : List Cv
/-- A period that begins: the cycle that comes of it. -/
def Sv.born (s : Sv) (p : Pv) (d : Int) (missed : Bool) : Sv :=
  if s.st = 2 ∨ missed = true then { s with ix := s.ix + 1, l := s.l ++ [⟨s.l.length, d, 10, 0, 0, 0, 0, false⟩] }
  else if s.sk = true then { s with ix := s.ix + 1, sk := false, l := s.l ++ [⟨s.l.length, d, 10, 0, 0, 0, 0, false⟩] }
  else if p.a - s.cr < 0 then { s with ix := s.ix + 1, cr := s.cr - p.a, l := s.l ++ [Cy.begin_ s.l.length d 0 p.a p.g] }
  else { s with ix := s.ix + 1, cr := 0, l := s.l ++ [Cy.begin_ s.l.length d (p.a - s.cr) s.cr p.g] }
/-- Is it missed? -/
def Sv.missed (p : Pv) (today : Int) (next : Option Int) : Bool := p.l && match next with
  | some d => decide (d ≤ today)
  | none => false
/-- So many periods at most, by the days N on which they begin. -/
def Sv.days (N : Int → Option Int) (p : Pv) (today : Int) : Nat → Sv → Sv
  | 0, s => s
  | f + 1, s => match N s.ix with
    | none => s
    | some d => if today < d then s else Sv.days N p today f (s.born p d (Sv.missed p today (N (s.ix + 1))))
/-- A day has come. -/
def Sv.day (N : Int → Option Int) (p : Pv) (today : Int) (s : Sv) : Sv :=
  let s' := { s with l := s.l.map (fun c => c.wake today) }
  if s.st = 3 then s' else Sv.days N p today 4000 s'
/-- The first day of a period. -/
def Cal.nth (a k d u e : Int) (n : Int) : Option Int := if Cal.okN u a k e n = true then some (Cal.vN u a k d e n) else none
end Go.Proofs.YtblikgbcakgdnaaGreat
