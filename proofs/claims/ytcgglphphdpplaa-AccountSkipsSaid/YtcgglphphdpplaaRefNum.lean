/-
  Contracts of the document's own answers for a day's number, and for the day behind a day. No conditions but that the day is one.
-/
import Derived.Test.YtcgglphphdpplaaCalC
import Derived.Test.YtcgglphphdpplaaNumber
import Derived.Test.YtcgglphphdpplaaBoxed
namespace Go.Proofs.Ytcgglphphdpplaa
open Go.ChangeShapes Go.WideShapes Go.ChangeAt Go.RowKit
open Cal (leap mon)

set_option maxHeartbeats 1000000 in
theorem rnumber_yes (y m d : Int) (w : World) (h : Cal.right y m d = true) :
    Calls Try.prog 46 #[.agg #[.int .i64 y, .int .i64 m, .int .i64 d]] w fun e w' => e = .returned (.int .i64 (Cal.num y m d)) ∧ Below w.heap.size w w' := by
  obtain ⟨m1, m2⟩ := Cal.right_month h
  obtain ⟨y1, y2, d1, d2⟩ := Cal.right_true.1 h
  have d3 := (Cal.mon_lo y m).2
  have hd := Cal.dby_bd y y1 (by omega)
  have HF := Lib.hid (Cal.dby_fours y)
  clear h
  go_enter Try.func46, Try.ntmps46
  go_wp2
  generalize (y - 1) % 400 % 100 = r1
  generalize (y - 1) % 100 % 4 = r2
  go_loopw [4, 5] (fun n k wr => ∃ i : Int, 1 ≤ i ∧ i ≤ m ∧ k = .int .i64 i ∧ n = .int .i64 (Cal.dby y + Cal.cum y i) ∧ Below (w.heap.size + 1) (w.alloc (.cells #[.int .i64 y, .int .i64 m, .int .i64 d] 93)) wr) (fun _ k _ => (m - intOf k).toNat)
  case atStart => exact ⟨1, by omega, by omega, rfl, by rw [Cal.cum_one, Int.add_zero, ← HF.out], Below.refl _ _⟩
  case round =>
    obtain ⟨i, i1, i2, rfl, rfl, hb⟩ := hrel
    have cb := Cal.cum_bd y i
    have ml := Cal.mon_lo y i
    have hz := hb.size
    have c0 : wr.cell? ⟨w.heap.size, 0, none⟩ = some (.int .i64 y) := by rw [hb.cell (by simp)]; simp
    have c1 : wr.cell? ⟨w.heap.size, 1, none⟩ = some (.int .i64 m) := by rw [hb.cell (by simp)]; simp
    have c2 : wr.cell? ⟨w.heap.size, 2, none⟩ = some (.int .i64 d) := by rw [hb.cell (by simp)]; simp
    by_cases hlt : i < m
    · have CS := Lib.hid (Cal.cum_succ y i i1 (by omega))
      go_wp2_with (fail)
      refine (rmonth_any _ _ _).mono ?_
      rintro e w2 ⟨rfl, hb2⟩
      go_wp2
      go_roundw
      case rel => exact ⟨i + 1, by omega, by omega, rfl, by rw [CS.out, Int.add_assoc], hb.trans (hb2.mono (by simp at hz; omega))⟩
      case measure => simp [intOf]; omega
    · obtain rfl : i = m := by omega
      go_wp2
      go_ret
      exact ⟨rfl, ((Below.refl _ _).alloc (Nat.le_refl _) _).trans (hb.mono (by simp))⟩




end Go.Proofs.Ytcgglphphdpplaa
