/-
  The walk of the law CycleLadder: it returns true, whatever the input. No conditions.
-/
import Derived.Test.YthilcefikhnilaaCyWalksC
namespace Go.Proofs.Ythilcefikhnilaa
set_option maxRecDepth 20000
open Go.ChangeShapes Go.WideShapes Go.ChangeAt Go.RowKit

/-- The days by which it has waited behind so many tries. -/
def Cy.waited (k : Nat) : Int := if k = 0 then 0 else if k = 1 then 1 else if k = 2 then 4 else 11
set_option maxHeartbeats 8000000 in
theorem cycleLadder_walk (y : Int) (w0 : (Lit.int .u16 y).wf = true) (a : Int) (w1 : (Lit.int .u16 a).wf = true) (g : Bool) (w : World) :
    Calls Try.prog 8 #[.int .u16 y, .int .u16 a, .bool g] w fun e w' => e = .returned (.bool true) ∧ Below w.heap.size w w' := by
  obtain ⟨hy0, hy1⟩ := wf_u16 w0
  obtain ⟨ha0, ha1⟩ := wf_u16 w1
  clear w0 w1
  by_cases h0 : a = 0
  · subst h0
    go_enter Try.func8, Try.ntmps8
    go_wp2_with (fail)
    refine (cyawake_any _).mono ?_
    rintro e w1 ⟨rfl, hb⟩
    have HB := Lib.hid hb
    clear hb
    go_wp2
    go_ret
    exact ⟨rfl, HB.out⟩
  have d0 : (a == 0) = false := by simpa using h0
  have h0' : a ≠ 0 := h0
  have HA0 := Lib.hid h0'
  clear h0 h0'
  go_enter Try.func8, Try.ntmps8
  go_wp2_with (fail)
  refine (cybegin_any _ _ _ _ _ _).mono ?_
  rw [begin_no HA0.out]
  dsimp only [Cv.val, Cv.arr]
  rintro e w1 ⟨rfl, hb⟩
  have HB := Lib.hid hb
  clear hb
  go_wp2
  go_loopw [8, 9] (fun dd i wq => ∃ k : Nat, k ≤ 3 ∧ i = .int .i64 k ∧ dd = .int .i64 (y + Cy.waited k) ∧ Hid (Below w.heap.size w wq) ∧ Hid (wq.heap[w1.heap.size]? = some (.cells #[.int .i64 3, .int .i64 y, .int .u8 1, .int .i64 a, .int .i64 0, .int .i64 (1 + (k : Int)), .int .i64 0, .bool g] 25 (0, 0)))) (fun _ i _ => 4 - (intOf i).toNat)
  case atStart => exact ⟨0, by omega, rfl, by simp [Cy.waited], HB.out.alloc (by exact HB.out.size) _, alloc_at rfl⟩
  case round =>
    obtain ⟨k, hk, rfl, rfl, HW, HP⟩ := hrel
    have hB : w.heap.size ≤ w1.heap.size := HB.out.size
    have hz : w1.heap.size < wr.heap.size := (Array.getElem?_eq_some_iff.1 HP.out).1
    have hks : k = 0 ∨ k = 1 ∨ k = 2 ∨ k = 3 := by omega
    clear hk
    have e := boxed_self HP.out
    rw [e]
    clear e HP
    rcases hks with rfl | rfl | rfl | rfl
    · have e1 : (1 + ((0 : Nat) : Int)) = 1 := rfl
      rw [e1]
      obtain ⟨Y, hY⟩ : ∃ Y, y + Cy.waited 0 = Y := ⟨_, rfl⟩
      rw [hY]
      have hY2 : Y = y + 0 := hY.symm
      have HY := Lib.hid hY2
      have hY0 : 0 ≤ Y := by omega
      have hY1 : Y ≤ 65547 := by omega
      clear e1 hY hY2
      go_wp2_with (fail)
      refine (cyasks_any _ _ _ _ _ _ _ _ _ _).mono ?_
      rw [show Cv.ask 0 ⟨3, y, 1, a, 0, 1, 0, g⟩ = ⟨1, 0, 3, 1, a, 0⟩ from rfl, show Cv.asks ⟨3, y, 1, a, 0, 1, 0, g⟩ = true from rfl]
      dsimp only [Nv.arr]
      rintro e w2 ⟨rfl, hb⟩
      obtain ⟨hw, z1, e1⟩ := keep1 HW.out hB hz hb
      rw [e1]
      have HW2 := Lib.hid hw
      clear e1 hb hw HW hz
      go_wp2_with (fail)
      refine (cyhear_any _ _ _ _ _ _ _ _ _ _ _ _ _ _ _ _ _ _ (by omega) (by omega)).mono ?_
      rw [show Cv.hear 0 ⟨3, y, 1, a, 0, 1, 0, g⟩ ⟨1, 0, 3, 1, a, 2⟩ Y false = ⟨3, y, 2, a, 0, 1, Y + 1, g⟩ by rw [hear_yes (c := ⟨3, y, 1, a, 0, 1, 0, g⟩) (m := ⟨1, 0, 3, 1, a, 2⟩) ⟨(by decide : (1 : Int) ≠ 0), (by decide : (2 : Int) ≠ 0), rfl⟩]; rfl, show Cv.herr 0 ⟨3, y, 1, a, 0, 1, 0, g⟩ ⟨1, 0, 3, 1, a, 2⟩ = 0 from if_pos ⟨(by decide : (1 : Int) ≠ 0), (by decide : (2 : Int) ≠ 0), rfl⟩]
      dsimp only [Cv.val, Cv.arr]
      rintro e w3 ⟨rfl, hb⟩
      obtain ⟨hw, z2, z3, e1⟩ := keep1_alloc HW2.out hB z1 hb
      rw [e1]
      have HW3 := Lib.hid hw
      clear e1 hb hw HW2
      go_wp2_with (fail)
      refine (steps_any _).mono ?_
      rintro e w4 ⟨rfl, rfl⟩
      go_wp2
      have HV : Hid (∀ w, Calls Try.prog 25 #[.agg #[.int .i64 3, .int .i64 y, .int .u8 2, .int .i64 a, .int .i64 0, .int .i64 1, .int .i64 (Y + 1), .bool g], .int .i64 Y] w fun e w' => e = .returned (.agg #[.int .i64 3, .int .i64 y, .int .u8 2, .int .i64 a, .int .i64 0, .int .i64 1, .int .i64 (Y + 1), .bool g]) ∧ Below w.heap.size w w') := fun w => by
        have := cywake_any 3 y 2 a 0 1 (Y + 1) g Y w (by omega) (by omega)
        rw [show Cv.wake ⟨3, y, 2, a, 0, 1, Y + 1, g⟩ Y = ⟨3, y, 2, a, 0, 1, Y + 1, g⟩ from if_pos (by dsimp only; omega)] at this
        exact this
      refine region_over (by kernel_rfl) (by kernel_rfl) ?_
      repeat (go_big_quiet_step (first | (go_at_call 25; exact over_call (HV.out _))))
      refine wpQuiet_nil ?_
      rintro wz ⟨W, hW⟩
      have hp : wz.heap[w1.heap.size]? = some (.cells #[.int .i64 3, .int .i64 y, .int .u8 2, .int .i64 a, .int .i64 0, .int .i64 1, .int .i64 (Y + 1), .bool g] 25 (0, 0)) := by
        rw [hW]
        exact ((over_below _ W).block _ (by simp; omega)).trans (by (repeat (first | assumption | (with_reducible refine alloc_at ?_; (focus (first | omega | (simp; done) | (simp; omega)))) | (with_reducible refine boxed_at ?_; (focus (first | omega | (simp; done) | (simp; omega)))) | (with_reducible refine alloc_old ?_ ?_; (focus (first | omega | (simp; done) | (simp; omega)))) | (with_reducible refine boxed_old ?_ ?_; (focus (first | omega | (simp; done) | (simp; omega)))) | (with_reducible refine drew_old ?_))))
      have hb : Below w.heap.size w wz := by
        rw [hW]
        have hB3 := HW3.out
        refine Below.trans ?_ ((over_below _ W).mono (by simp; omega))
        (repeat (first | assumption | (with_reducible exact Below.refl _ _) | (with_reducible refine boxed_below ?_ ?_; rotate_left; (focus (first | omega | (simp; done) | (simp; omega)))) | (with_reducible refine Below.alloc ?_ ?_ _; rotate_left; (focus (first | omega | (simp; done) | (simp; omega)))) | (with_reducible refine Below.drew ?_)))
      clear hW W HV HW3
      have hz5 : w1.heap.size < wz.heap.size := (Array.getElem?_eq_some_iff.1 hp).1
      have HB5 := Lib.hid hb
      have e := boxed_self hp
      rw [e]
      clear e hp hb
      go_wp2_with (fail)
      refine (cywake_any _ _ _ _ _ _ _ _ _ _ (by omega) (by omega)).mono ?_
      rw [show Cv.wake ⟨3, y, 2, a, 0, 1, Y + 1, g⟩ (Y + 1) = ⟨3, y, 1, a, 0, 2, 0, g⟩ from if_neg (by dsimp only; omega)]
      dsimp only [Cv.val, Cv.arr]
      rintro e w6 ⟨rfl, hb⟩
      obtain ⟨hw, z6, e1⟩ := keep1 HB5.out hB hz5 hb
      rw [e1]
      have HW6 := Lib.hid hw
      clear e1 hb hw HB5
      go_wp2
      go_roundw
      case rel => exact ⟨1, by omega, by go_num, by have := HY.out; simp [Cy.waited]; omega, boxed_below HW6.out hB, boxed_at (by omega)⟩
      case measure => simp [intOf]
    · have e1 : (1 + ((1 : Nat) : Int)) = 2 := rfl
      rw [e1]
      obtain ⟨Y, hY⟩ : ∃ Y, y + Cy.waited 1 = Y := ⟨_, rfl⟩
      rw [hY]
      have hY2 : Y = y + 1 := hY.symm
      have HY := Lib.hid hY2
      have hY0 : 0 ≤ Y := by omega
      have hY1 : Y ≤ 65547 := by omega
      clear e1 hY hY2
      go_wp2_with (fail)
      refine (cyasks_any _ _ _ _ _ _ _ _ _ _).mono ?_
      rw [show Cv.ask 0 ⟨3, y, 1, a, 0, 2, 0, g⟩ = ⟨1, 0, 3, 2, a, 0⟩ from rfl, show Cv.asks ⟨3, y, 1, a, 0, 2, 0, g⟩ = true from rfl]
      dsimp only [Nv.arr]
      rintro e w2 ⟨rfl, hb⟩
      obtain ⟨hw, z1, e1⟩ := keep1 HW.out hB hz hb
      rw [e1]
      have HW2 := Lib.hid hw
      clear e1 hb hw HW hz
      go_wp2_with (fail)
      refine (cyhear_any _ _ _ _ _ _ _ _ _ _ _ _ _ _ _ _ _ _ (by omega) (by omega)).mono ?_
      rw [show Cv.hear 0 ⟨3, y, 1, a, 0, 2, 0, g⟩ ⟨1, 0, 3, 2, a, 2⟩ Y false = ⟨3, y, 2, a, 0, 2, Y + 3, g⟩ by rw [hear_yes (c := ⟨3, y, 1, a, 0, 2, 0, g⟩) (m := ⟨1, 0, 3, 2, a, 2⟩) ⟨(by decide : (1 : Int) ≠ 0), (by decide : (2 : Int) ≠ 0), rfl⟩]; rfl, show Cv.herr 0 ⟨3, y, 1, a, 0, 2, 0, g⟩ ⟨1, 0, 3, 2, a, 2⟩ = 0 from if_pos ⟨(by decide : (1 : Int) ≠ 0), (by decide : (2 : Int) ≠ 0), rfl⟩]
      dsimp only [Cv.val, Cv.arr]
      rintro e w3 ⟨rfl, hb⟩
      obtain ⟨hw, z2, z3, e1⟩ := keep1_alloc HW2.out hB z1 hb
      rw [e1]
      have HW3 := Lib.hid hw
      clear e1 hb hw HW2
      go_wp2_with (fail)
      refine (steps_any _).mono ?_
      rintro e w4 ⟨rfl, rfl⟩
      go_wp2
      have HV : Hid (∀ w, Calls Try.prog 25 #[.agg #[.int .i64 3, .int .i64 y, .int .u8 2, .int .i64 a, .int .i64 0, .int .i64 2, .int .i64 (Y + 3), .bool g], .int .i64 (Y + 3 - 1)] w fun e w' => e = .returned (.agg #[.int .i64 3, .int .i64 y, .int .u8 2, .int .i64 a, .int .i64 0, .int .i64 2, .int .i64 (Y + 3), .bool g]) ∧ Below w.heap.size w w') := fun w => by
        have := cywake_any 3 y 2 a 0 2 (Y + 3) g (Y + 3 - 1) w (by omega) (by omega)
        rw [show Cv.wake ⟨3, y, 2, a, 0, 2, Y + 3, g⟩ (Y + 3 - 1) = ⟨3, y, 2, a, 0, 2, Y + 3, g⟩ from if_pos (by dsimp only; omega)] at this
        exact this
      refine region_over (by kernel_rfl) (by kernel_rfl) ?_
      repeat (go_big_quiet_step (first | (go_at_call 25; exact over_call (HV.out _))))
      refine wpQuiet_nil ?_
      rintro wz ⟨W, hW⟩
      have hp : wz.heap[w1.heap.size]? = some (.cells #[.int .i64 3, .int .i64 y, .int .u8 2, .int .i64 a, .int .i64 0, .int .i64 2, .int .i64 (Y + 3), .bool g] 25 (0, 0)) := by
        rw [hW]
        exact ((over_below _ W).block _ (by simp; omega)).trans (by (repeat (first | assumption | (with_reducible refine alloc_at ?_; (focus (first | omega | (simp; done) | (simp; omega)))) | (with_reducible refine boxed_at ?_; (focus (first | omega | (simp; done) | (simp; omega)))) | (with_reducible refine alloc_old ?_ ?_; (focus (first | omega | (simp; done) | (simp; omega)))) | (with_reducible refine boxed_old ?_ ?_; (focus (first | omega | (simp; done) | (simp; omega)))) | (with_reducible refine drew_old ?_))))
      have hb : Below w.heap.size w wz := by
        rw [hW]
        have hB3 := HW3.out
        refine Below.trans ?_ ((over_below _ W).mono (by simp; omega))
        (repeat (first | assumption | (with_reducible exact Below.refl _ _) | (with_reducible refine boxed_below ?_ ?_; rotate_left; (focus (first | omega | (simp; done) | (simp; omega)))) | (with_reducible refine Below.alloc ?_ ?_ _; rotate_left; (focus (first | omega | (simp; done) | (simp; omega)))) | (with_reducible refine Below.drew ?_)))
      clear hW W HV HW3
      have hz5 : w1.heap.size < wz.heap.size := (Array.getElem?_eq_some_iff.1 hp).1
      have HB5 := Lib.hid hb
      have e := boxed_self hp
      rw [e]
      clear e hp hb
      go_wp2_with (fail)
      refine (cywake_any _ _ _ _ _ _ _ _ _ _ (by omega) (by omega)).mono ?_
      rw [show Cv.wake ⟨3, y, 2, a, 0, 2, Y + 3, g⟩ (Y + 3) = ⟨3, y, 1, a, 0, 3, 0, g⟩ from if_neg (by dsimp only; omega)]
      dsimp only [Cv.val, Cv.arr]
      rintro e w6 ⟨rfl, hb⟩
      obtain ⟨hw, z6, e1⟩ := keep1 HB5.out hB hz5 hb
      rw [e1]
      have HW6 := Lib.hid hw
      clear e1 hb hw HB5
      go_wp2
      go_roundw
      case rel => exact ⟨2, by omega, by go_num, by have := HY.out; simp [Cy.waited]; omega, boxed_below HW6.out hB, boxed_at (by omega)⟩
      case measure => simp [intOf]
    · have e1 : (1 + ((2 : Nat) : Int)) = 3 := rfl
      rw [e1]
      obtain ⟨Y, hY⟩ : ∃ Y, y + Cy.waited 2 = Y := ⟨_, rfl⟩
      rw [hY]
      have hY2 : Y = y + 4 := hY.symm
      have HY := Lib.hid hY2
      have hY0 : 0 ≤ Y := by omega
      have hY1 : Y ≤ 65547 := by omega
      clear e1 hY hY2
      go_wp2_with (fail)
      refine (cyasks_any _ _ _ _ _ _ _ _ _ _).mono ?_
      rw [show Cv.ask 0 ⟨3, y, 1, a, 0, 3, 0, g⟩ = ⟨1, 0, 3, 3, a, 0⟩ from rfl, show Cv.asks ⟨3, y, 1, a, 0, 3, 0, g⟩ = true from rfl]
      dsimp only [Nv.arr]
      rintro e w2 ⟨rfl, hb⟩
      obtain ⟨hw, z1, e1⟩ := keep1 HW.out hB hz hb
      rw [e1]
      have HW2 := Lib.hid hw
      clear e1 hb hw HW hz
      go_wp2_with (fail)
      refine (cyhear_any _ _ _ _ _ _ _ _ _ _ _ _ _ _ _ _ _ _ (by omega) (by omega)).mono ?_
      rw [show Cv.hear 0 ⟨3, y, 1, a, 0, 3, 0, g⟩ ⟨1, 0, 3, 3, a, 2⟩ Y false = ⟨3, y, 2, a, 0, 3, Y + 7, g⟩ by rw [hear_yes (c := ⟨3, y, 1, a, 0, 3, 0, g⟩) (m := ⟨1, 0, 3, 3, a, 2⟩) ⟨(by decide : (1 : Int) ≠ 0), (by decide : (2 : Int) ≠ 0), rfl⟩]; rfl, show Cv.herr 0 ⟨3, y, 1, a, 0, 3, 0, g⟩ ⟨1, 0, 3, 3, a, 2⟩ = 0 from if_pos ⟨(by decide : (1 : Int) ≠ 0), (by decide : (2 : Int) ≠ 0), rfl⟩]
      dsimp only [Cv.val, Cv.arr]
      rintro e w3 ⟨rfl, hb⟩
      obtain ⟨hw, z2, z3, e1⟩ := keep1_alloc HW2.out hB z1 hb
      rw [e1]
      have HW3 := Lib.hid hw
      clear e1 hb hw HW2
      go_wp2_with (fail)
      refine (steps_any _).mono ?_
      rintro e w4 ⟨rfl, rfl⟩
      go_wp2
      have HV : Hid (∀ w, Calls Try.prog 25 #[.agg #[.int .i64 3, .int .i64 y, .int .u8 2, .int .i64 a, .int .i64 0, .int .i64 3, .int .i64 (Y + 7), .bool g], .int .i64 (Y + 7 - 1)] w fun e w' => e = .returned (.agg #[.int .i64 3, .int .i64 y, .int .u8 2, .int .i64 a, .int .i64 0, .int .i64 3, .int .i64 (Y + 7), .bool g]) ∧ Below w.heap.size w w') := fun w => by
        have := cywake_any 3 y 2 a 0 3 (Y + 7) g (Y + 7 - 1) w (by omega) (by omega)
        rw [show Cv.wake ⟨3, y, 2, a, 0, 3, Y + 7, g⟩ (Y + 7 - 1) = ⟨3, y, 2, a, 0, 3, Y + 7, g⟩ from if_pos (by dsimp only; omega)] at this
        exact this
      refine region_over (by kernel_rfl) (by kernel_rfl) ?_
      repeat (go_big_quiet_step (first | (go_at_call 25; exact over_call (HV.out _))))
      refine wpQuiet_nil ?_
      rintro wz ⟨W, hW⟩
      have hp : wz.heap[w1.heap.size]? = some (.cells #[.int .i64 3, .int .i64 y, .int .u8 2, .int .i64 a, .int .i64 0, .int .i64 3, .int .i64 (Y + 7), .bool g] 25 (0, 0)) := by
        rw [hW]
        exact ((over_below _ W).block _ (by simp; omega)).trans (by (repeat (first | assumption | (with_reducible refine alloc_at ?_; (focus (first | omega | (simp; done) | (simp; omega)))) | (with_reducible refine boxed_at ?_; (focus (first | omega | (simp; done) | (simp; omega)))) | (with_reducible refine alloc_old ?_ ?_; (focus (first | omega | (simp; done) | (simp; omega)))) | (with_reducible refine boxed_old ?_ ?_; (focus (first | omega | (simp; done) | (simp; omega)))) | (with_reducible refine drew_old ?_))))
      have hb : Below w.heap.size w wz := by
        rw [hW]
        have hB3 := HW3.out
        refine Below.trans ?_ ((over_below _ W).mono (by simp; omega))
        (repeat (first | assumption | (with_reducible exact Below.refl _ _) | (with_reducible refine boxed_below ?_ ?_; rotate_left; (focus (first | omega | (simp; done) | (simp; omega)))) | (with_reducible refine Below.alloc ?_ ?_ _; rotate_left; (focus (first | omega | (simp; done) | (simp; omega)))) | (with_reducible refine Below.drew ?_)))
      clear hW W HV HW3
      have hz5 : w1.heap.size < wz.heap.size := (Array.getElem?_eq_some_iff.1 hp).1
      have HB5 := Lib.hid hb
      have e := boxed_self hp
      rw [e]
      clear e hp hb
      go_wp2_with (fail)
      refine (cywake_any _ _ _ _ _ _ _ _ _ _ (by omega) (by omega)).mono ?_
      rw [show Cv.wake ⟨3, y, 2, a, 0, 3, Y + 7, g⟩ (Y + 7) = ⟨3, y, 1, a, 0, 4, 0, g⟩ from if_neg (by dsimp only; omega)]
      dsimp only [Cv.val, Cv.arr]
      rintro e w6 ⟨rfl, hb⟩
      obtain ⟨hw, z6, e1⟩ := keep1 HB5.out hB hz5 hb
      rw [e1]
      have HW6 := Lib.hid hw
      clear e1 hb hw HB5
      go_wp2
      go_roundw
      case rel => exact ⟨3, by omega, by go_num, by have := HY.out; simp [Cy.waited]; omega, boxed_below HW6.out hB, boxed_at (by omega)⟩
      case measure => simp [intOf]
    · have e1 : (1 + ((3 : Nat) : Int)) = 4 := rfl
      rw [e1]
      obtain ⟨Y, hY⟩ : ∃ Y, y + Cy.waited 3 = Y := ⟨_, rfl⟩
      rw [hY]
      have hY2 : Y = y + 11 := hY.symm
      have HY := Lib.hid hY2
      have hY0 : 0 ≤ Y := by omega
      have hY1 : Y ≤ 65547 := by omega
      clear e1 hY hY2
      go_wp2_with (fail)
      refine (cyasks_any _ _ _ _ _ _ _ _ _ _).mono ?_
      rw [show Cv.ask 0 ⟨3, y, 1, a, 0, 4, 0, g⟩ = ⟨1, 0, 3, 4, a, 0⟩ from rfl, show Cv.asks ⟨3, y, 1, a, 0, 4, 0, g⟩ = true from rfl]
      dsimp only [Nv.arr]
      rintro e w2 ⟨rfl, hb⟩
      obtain ⟨hw, z1, e1⟩ := keep1 HW.out hB hz hb
      rw [e1]
      have HW2 := Lib.hid hw
      clear e1 hb hw HW hz
      go_wp2_with (fail)
      refine (cyhear_any _ _ _ _ _ _ _ _ _ _ _ _ _ _ _ _ _ _ (by omega) (by omega)).mono ?_
      rw [show Cv.hear 0 ⟨3, y, 1, a, 0, 4, 0, g⟩ ⟨1, 0, 3, 4, a, 2⟩ Y false = ⟨3, y, 8, a, 0, 4, 0, g⟩ by rw [hear_yes (c := ⟨3, y, 1, a, 0, 4, 0, g⟩) (m := ⟨1, 0, 3, 4, a, 2⟩) ⟨(by decide : (1 : Int) ≠ 0), (by decide : (2 : Int) ≠ 0), rfl⟩]; rfl, show Cv.herr 0 ⟨3, y, 1, a, 0, 4, 0, g⟩ ⟨1, 0, 3, 4, a, 2⟩ = 0 from if_pos ⟨(by decide : (1 : Int) ≠ 0), (by decide : (2 : Int) ≠ 0), rfl⟩]
      dsimp only [Cv.val, Cv.arr]
      rintro e w3 ⟨rfl, hb⟩
      obtain ⟨hw, z2, z3, e1⟩ := keep1_alloc HW2.out hB z1 hb
      rw [e1]
      have HW3 := Lib.hid hw
      clear e1 hb hw HW2
      have dY : (Y == y + 11) = true := by simp; exact HY.out
      go_wp2_with (fail)
      refine (cyawake_any _).mono ?_
      rintro e w4 ⟨rfl, hb⟩
      have hx : w4.heap[w1.heap.size]? = some (.cells #[.int .i64 3, .int .i64 y, .int .u8 8, .int .i64 a, .int .i64 0, .int .i64 4, .int .i64 0, .bool g] 25 (0, 0)) := below_block hb (by (repeat (first | assumption | (with_reducible refine alloc_at ?_; (focus (first | omega | (simp; done) | (simp; omega)))) | (with_reducible refine boxed_at ?_; (focus (first | omega | (simp; done) | (simp; omega)))) | (with_reducible refine alloc_old ?_ ?_; (focus (first | omega | (simp; done) | (simp; omega)))) | (with_reducible refine boxed_old ?_ ?_; (focus (first | omega | (simp; done) | (simp; omega)))) | (with_reducible refine drew_old ?_))))
      obtain ⟨c0, c1, c2, c3, c4, c5, c6, c7⟩ := cells8 hx
      have hb4 : Below w.heap.size w w4 := by
        refine Below.trans ?_ (hb.mono (by simp; omega))
        have hB3 := HW3.out
        (repeat (first | assumption | (with_reducible exact Below.refl _ _) | (with_reducible refine boxed_below ?_ ?_; rotate_left; (focus (first | omega | (simp; done) | (simp; omega)))) | (with_reducible refine Below.alloc ?_ ?_ _; rotate_left; (focus (first | omega | (simp; done) | (simp; omega)))) | (with_reducible refine Below.drew ?_)))
      have HB4 := Lib.hid hb4
      clear hb hb4 hx HW3
      go_wp2
      go_ret
      exact ⟨rfl, HB4.out⟩
end Go.Proofs.Ythilcefikhnilaa
