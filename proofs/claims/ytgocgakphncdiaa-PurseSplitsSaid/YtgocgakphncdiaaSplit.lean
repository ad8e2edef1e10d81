/-
  Contracts of the function that parts an amount into a list: the fault, or a new row of the parts. No conditions but the numbers' own ranges.
-/
import Derived.Test.YtgocgakphncdiaaShare
import Derived.Deep.OwnRows
import Derived.Deep.QuietTactic
import Derived.BigQuiet
namespace Go.Proofs.Ytgocgakphncdiaa
open Go.ChangeShapes Go.WideShapes Go.ChangeAt Go.RowKit

theorem i64info : (Try.prog.info? 2).map (fun i => (i.zero, i.size, i.bytes)) = some (some (.int .i64 0), 1, 8) := by kernel_rfl

/-- The part of an index. -/
def pv (a n : Int) (j : Nat) : Int := a / n + (if (j : Int) < a % n then 1 else 0)
theorem pv_less {a n : Int} {j : Nat} (h : (j : Int) < a % n) : pv a n j = a / n + 1 := by unfold pv; rw [if_pos h]
theorem pv_more {a n : Int} {j : Nat} (h : ¬ (j : Int) < a % n) : pv a n j = a / n := by unfold pv; rw [if_neg h]; omega
def parts (a n : Int) (k : Nat) (j : Nat) : Value := .int .i64 (if j < k then pv a n j else 0)
theorem parts_at (a n : Int) (k : Nat) : parts a n k k = .int .i64 0 := by unfold parts; rw [if_neg (by omega)]
theorem parts_set {w : World} {b t N : Nat} {a n : Int} {k : Nat} {v : Int} (h : w.rowIs b t N (parts a n k)) (e : v = pv a n k) :
    (w.setCell ⟨b, k, none⟩ (.int .i64 v)).rowIs b t N (parts a n (k + 1)) := (h.set k _).congr fun j _ => by
  unfold parts
  by_cases hj : j = k
  · subst hj; rw [if_pos rfl, if_pos (by omega), e]
  · rw [if_neg hj]
    by_cases g : j < k
    · rw [if_pos g, if_pos (by omega)]
    · rw [if_neg g, if_neg (by omega)]
theorem parts_set2 {w : World} {b t N : Nat} {a n : Int} {k : Nat} {u v : Int} (h : w.rowIs b t N (parts a n k)) (e : v = pv a n k) :
    ((w.setCell ⟨b, k, none⟩ (.int .i64 u)).setCell ⟨b, k, none⟩ (.int .i64 v)).rowIs b t N (parts a n (k + 1)) := ((h.set k _).set k _).congr fun j _ => by
  unfold parts
  by_cases hj : j = k
  · subst hj; rw [if_pos rfl, if_pos (by omega), e]
  · rw [if_neg hj, if_neg hj]
    by_cases g : j < k
    · rw [if_pos g, if_pos (by omega)]
    · rw [if_neg g, if_neg (by omega)]

theorem ret_nil {a b : Int} (h : a = b) : Ending.returned (.tuple #[.slice none 0 0, .int .i64 a]) = .returned (.tuple #[.slice none 0 0, .int .i64 b]) := by rw [h]

set_option maxHeartbeats 400000 in
theorem split_no (a n r : Int) (w : World) (h : (a < 0 ∨ 1125899906842624 < a) ∧ r = 9 ∨ (0 ≤ a ∧ a ≤ 1125899906842624) ∧ (n < 1 ∧ r = 1 ∨ 1000 < n ∧ r = 6)) :
    Calls Try.prog 30 #[.int .i64 a, .int .i64 n] w fun e w' => e = .returned (.tuple #[.slice none 0 0, .int .i64 r]) ∧ Below w.heap.size w w' := by
  rcases h with ⟨h, rfl⟩ | ⟨⟨h0, h1⟩, (⟨h, rfl⟩ | ⟨h, rfl⟩)⟩
  all_goals
    go_enter Try.func30, Try.ntmps30
    go_wp2_with (go_at_call 37; (first | refine (partable_no _ _ h).mono ?_ | refine (partable_yes _ _ h0 h1).mono ?_); rintro e w' ⟨rfl, rfl⟩)
    go_ret2
    exact ⟨rfl, Below.refl _ _⟩

set_option maxHeartbeats 1000000 in
theorem split_yes (a : Int) (n : Nat) (w : World) (h0 : 0 ≤ a) (h1 : a ≤ 1125899906842624) (g0 : 1 ≤ n) (g1 : n ≤ 1000) :
    Calls Try.prog 30 #[.int .i64 a, .int .i64 (n : Int)] w fun e w' => e = .returned (.tuple #[.slice (some ⟨w.heap.size, 0, none⟩) n n, .int .i64 0]) ∧ Below w.heap.size w w' ∧ w'.rowIs w.heap.size 2 n (parts a n n) := by
  have hmk := run_make_row' (P := Try.prog) 53 2 (.int .i64 0) 8 Try.underlying53 i64info rfl .i64 .i64 n (by omega) (by omega)
  have t : decide ((n : Int) < 1) = false := by simp; omega
  have t' : decide ((1000 : Int) < n) = false := by simp; omega
  have z : ((n : Int) == 0) = false := beq_eq_false_iff_ne.2 (by omega)
  have q0 : 0 ≤ a / n := Int.ediv_nonneg h0 (by omega)
  have q1 : a / n ≤ a := Int.ediv_le_self _ h0
  go_enter Try.func30, Try.ntmps30
  go_wp2_with (go_at_call 37; refine (partable_yes _ _ h0 h1).mono ?_; rintro e w' ⟨rfl, rfl⟩)
  go_quiet (fail)
  go_wp2
  clear hmk t t' z
  go_loopw [30] (fun t wr => ∃ k : Nat, k ≤ n ∧ t = .int .i64 k ∧ Below w.heap.size w wr ∧ wr.rowIs w.heap.size 2 n (parts a n k)) (fun t _ => n - (intOf t).toNat)
  case atStart =>
    refine ⟨0, by omega, rfl, Below.drewN' (Below.refl _ _) nq |>.alloc (by simp) _, ?_⟩
    have := World.rowIs_made (w.drewN nq) (.int .i64 0) n 2
    exact this.congr fun j _ => by simp [parts]
  case round =>
    obtain ⟨k, hk, rfl, hb, hr⟩ := hrel
    by_cases hlt : k < n
    · have c1 := hr.cell hlt
      rw [parts_at] at c1
      have f1 := hr.frozen k
      have HR := Lib.hid hr
      have HB := Lib.hid hb
      clear hr hb
      by_cases hm : (k : Int) < a % n
      · have HV := Lib.hid (pv_less hm)
        go_wp2
        go_roundw
        case rel => exact ⟨k + 1, by omega, by go_num, (HB.out.setCell (Nat.le_refl _) _).setCell (Nat.le_refl _) _, parts_set2 HR.out HV.out.symm⟩
        case measure => simp [intOf]; omega
      · have HV := Lib.hid (pv_more hm)
        go_wp2
        go_roundw
        case rel => exact ⟨k + 1, by omega, by go_num, HB.out.setCell (Nat.le_refl _) _, parts_set HR.out HV.out.symm⟩
        case measure => simp [intOf]; omega
    · obtain rfl : k = n := by omega
      have HR := Lib.hid hr
      have HB := Lib.hid hb
      clear hr hb
      go_wp2
      go_ret2
      exact ⟨rfl, HB.out, HR.out⟩
end Go.Proofs.Ytgocgakphncdiaa
