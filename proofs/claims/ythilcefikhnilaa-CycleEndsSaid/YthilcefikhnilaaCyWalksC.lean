/-
  The walks of the laws CycleWakes and CycleNames: each returns true, whatever the input. No conditions.
-/
import Derived.Test.YthilcefikhnilaaCyWalksA
import Derived.Test.YthilcefikhnilaaKeep2
namespace Go.Proofs.Ythilcefikhnilaa
set_option maxRecDepth 20000
open Go.ChangeShapes Go.WideShapes Go.ChangeAt Go.RowKit

theorem wake_no {n d p a u t x y : Int} {g : Bool} (h : p ≠ 2) : Cv.wake ⟨n, d, p, a, u, t, x, g⟩ y = ⟨n, d, p, a, u, t, x, g⟩ := by
  unfold Cv.wake
  split
  · rfl
  · exact card_no h
set_option maxHeartbeats 4000000 in
theorem cycleWakes_walk (q : Int) (w0 : (Lit.int .u8 q).wf = true) (a : Int) (w1 : (Lit.int .u32 a).wf = true) (t : Int) (w2 : (Lit.int .u8 t).wf = true) (x : Int) (w3 : (Lit.int .u16 x).wf = true) (y : Int) (w4 : (Lit.int .u16 y).wf = true) (w : World) :
    Calls Try.prog 7 #[.int .u8 q, .int .u32 a, .int .u8 t, .int .u16 x, .int .u16 y] w fun e w' => e = .returned (.bool true) ∧ Below w.heap.size w w' := by
  have hq := wf_u8 w0
  have ha := wf_u32 w1
  have ht := wf_u8 w2
  have hx := wf_u16 w3
  obtain ⟨hy0, hy1⟩ := wf_u16 w4
  clear w0 w1 w2 w3 w4
  have hC : ∀ w, Calls Try.prog 17 #[.int .u8 q, .int .u16 7, .int .u16 9, .int .u32 a, .int .i32 5, .int .u8 t, .int .u16 x, .bool true] w fun e w' => e = .returned (Cy.at_ q 7 9 a 5 t x true).val ∧ Below w.heap.size w w' := fun w => cyat_any q 7 9 a 5 t x true w hq ht (by omega) (by omega) ha (by omega) hx
  by_cases h1 : q % 10 = 1
  · obtain ⟨r, hr⟩ : ∃ r, 1 + t % 3 = r := ⟨_, rfl⟩
    have hr0 : 1 ≤ r := by omega
    have hr1 : r ≤ 3 := by omega
    rw [show Cy.at_ q 7 9 a 5 t x true = ⟨7, 9, 2, a, 5, r, x, true⟩ by unfold Cy.at_; rw [h1, hr]; rfl] at hC
    have HC := Lib.hid hC
    have HCA : Hid (∀ w, Calls Try.prog 23 #[.agg #[.int .i64 7, .int .i64 9, .int .u8 2, .int .i64 a, .int .i64 5, .int .i64 r, .int .i64 x, .bool true]] w fun e w' => e = .returned (.agg #[.int .i64 7, .int .i64 9, .int .u8 1, .int .i64 a, .int .i64 5, .int .i64 (r + 1), .int .i64 0, .bool true]) ∧ Below w.heap.size w w') := fun w => cycard_any 7 9 2 a 5 r x true w (by omega) (by omega)
    have HOV : Hid (∀ w, Calls Try.prog 24 #[.agg #[.int .i64 7, .int .i64 9, .int .u8 2, .int .i64 a, .int .i64 5, .int .i64 r, .int .i64 x, .bool true]] w fun e w' => e = .returned (.agg #[.int .i64 7, .int .i64 9, .int .u8 8, .int .i64 a, .int .i64 5, .int .i64 r, .int .i64 0, .bool true]) ∧ Below w.heap.size w w') := fun w => cyover_any 7 9 2 a 5 r x true w
    obtain ⟨hx0, hx1⟩ := hx
    clear hC hr hq ha ht h1
    by_cases h2 : y < x
    case' pos =>
      have HWA : Hid (∀ w, Calls Try.prog 25 #[.agg #[.int .i64 7, .int .i64 9, .int .u8 2, .int .i64 a, .int .i64 5, .int .i64 r, .int .i64 x, .bool true], .int .i64 y] w fun e w' => e = .returned (.agg #[.int .i64 7, .int .i64 9, .int .u8 2, .int .i64 a, .int .i64 5, .int .i64 r, .int .i64 x, .bool true]) ∧ Below w.heap.size w w') := fun w => by
        have := cywake_any 7 9 2 a 5 r x true y w (by omega) (by omega)
        rw [show Cv.wake ⟨7, 9, 2, a, 5, r, x, true⟩ y = ⟨7, 9, 2, a, 5, r, x, true⟩ from if_pos h2] at this
        exact this
    case' neg =>
      have d2 : decide (y < x) = false := by simpa using h2
      have HWA : Hid (∀ w, Calls Try.prog 25 #[.agg #[.int .i64 7, .int .i64 9, .int .u8 2, .int .i64 a, .int .i64 5, .int .i64 r, .int .i64 x, .bool true], .int .i64 y] w fun e w' => e = .returned (.agg #[.int .i64 7, .int .i64 9, .int .u8 1, .int .i64 a, .int .i64 5, .int .i64 (r + 1), .int .i64 0, .bool true]) ∧ Below w.heap.size w w') := fun w => by
        have := cywake_any 7 9 2 a 5 r x true y w (by omega) (by omega)
        rw [show Cv.wake ⟨7, 9, 2, a, 5, r, x, true⟩ y = Cv.card ⟨7, 9, 2, a, 5, r, x, true⟩ from if_neg h2] at this
        exact this
      clear h2
    all_goals
      go_enter Try.func7, Try.ntmps7
      go_wp2_with (fail)
      refine (HC.out _).mono ?_
      dsimp only [Cv.val, Cv.arr]
      rintro e w1 ⟨rfl, hb⟩
      have HB1 := Lib.hid hb
      clear hb
      go_wp2
      refine region_over (by kernel_rfl) (by kernel_rfl) ?_
      repeat (go_big_quiet_step (first | (go_at_call 14; exact over_call (cyawake_any _)) | (go_at_call 23; exact over_call (HCA.out _)) | (go_at_call 24; exact over_call (HOV.out _)) | (go_at_call 25; exact over_call (HWA.out _))))
      refine wpQuiet_nil ?_
      rintro _ ⟨W, rfl⟩
      go_wp2
      go_ret
      refine ⟨by simp, ?_⟩
      have hB := HB1.out
      have hz := HB1.out.size
      refine Below.trans ?_ ((over_below _ W).mono (by simp; omega))
      (repeat (first | assumption | (with_reducible exact Below.refl _ _) | (with_reducible refine boxed_below ?_ ?_; rotate_left; (focus (first | omega | (simp; done) | (simp; omega)))) | (with_reducible refine Below.alloc ?_ ?_ _; rotate_left; (focus (first | omega | (simp; done) | (simp; omega)))) | (with_reducible refine Below.drew ?_)))
  · have hp : (Cy.at_ q 7 9 a 5 t x true).p ≠ 2 := by unfold Cy.at_; dsimp only; omega
    have hx0 : (Cy.at_ q 7 9 a 5 t x true).x = 0 := if_neg h1
    have htt := (at_try (q := q) (n := 7) (d := 9) (a := a) (u := 5) (x := x) (g := true) ht.1).2
    obtain ⟨D, hD⟩ : ∃ D, Cy.at_ q 7 9 a 5 t x true = D := ⟨_, rfl⟩
    rw [hD] at hC hp hx0 htt
    have HC := Lib.hid hC
    clear hC hD hq ha ht hx h1
    obtain ⟨n', d', p', a', u', t', x', g'⟩ := D
    dsimp only at hp hx0 htt
    subst hx0
    obtain ⟨ht0, ht1⟩ := htt
    have HCA : Hid (∀ w, Calls Try.prog 23 #[.agg #[.int .i64 n', .int .i64 d', .int .u8 p', .int .i64 a', .int .i64 u', .int .i64 t', .int .i64 0, .bool g']] w fun e w' => e = .returned (.agg #[.int .i64 n', .int .i64 d', .int .u8 p', .int .i64 a', .int .i64 u', .int .i64 t', .int .i64 0, .bool g']) ∧ Below w.heap.size w w') := fun w => by
      have := cycard_any n' d' p' a' u' t' 0 g' w (by omega) (by omega)
      rw [card_no hp] at this
      exact this
    have HOV : Hid (∀ w, Calls Try.prog 24 #[.agg #[.int .i64 n', .int .i64 d', .int .u8 p', .int .i64 a', .int .i64 u', .int .i64 t', .int .i64 0, .bool g']] w fun e w' => e = .returned (.agg #[.int .i64 n', .int .i64 d', .int .u8 p', .int .i64 a', .int .i64 u', .int .i64 t', .int .i64 0, .bool g']) ∧ Below w.heap.size w w') := fun w => by
      have := cyover_any n' d' p' a' u' t' 0 g' w
      rw [over_no hp] at this
      exact this
    have HWA : Hid (∀ w, Calls Try.prog 25 #[.agg #[.int .i64 n', .int .i64 d', .int .u8 p', .int .i64 a', .int .i64 u', .int .i64 t', .int .i64 0, .bool g'], .int .i64 y] w fun e w' => e = .returned (.agg #[.int .i64 n', .int .i64 d', .int .u8 p', .int .i64 a', .int .i64 u', .int .i64 t', .int .i64 0, .bool g']) ∧ Below w.heap.size w w') := fun w => by
      have := cywake_any n' d' p' a' u' t' 0 g' y w (by omega) (by omega)
      rw [wake_no hp] at this
      exact this
    have d1 : (p' == 2) = false := by simpa using hp
    have d2 : decide (y < 0) = false := by simp; omega
    clear hp
    go_enter Try.func7, Try.ntmps7
    go_wp2_with (fail)
    refine (HC.out _).mono ?_
    dsimp only [Cv.val, Cv.arr]
    rintro e w1 ⟨rfl, hb⟩
    have HB1 := Lib.hid hb
    clear hb
    go_wp2
    refine region_over (by kernel_rfl) (by kernel_rfl) ?_
    repeat (go_big_quiet_step (first | (go_at_call 14; exact over_call (cyawake_any _)) | (go_at_call 23; exact over_call (HCA.out _)) | (go_at_call 24; exact over_call (HOV.out _)) | (go_at_call 25; exact over_call (HWA.out _))))
    refine wpQuiet_nil ?_
    rintro _ ⟨W, rfl⟩
    go_wp2
    go_ret
    refine ⟨by simp, ?_⟩
    have hB := HB1.out
    have hz := HB1.out.size
    refine Below.trans ?_ ((over_below _ W).mono (by simp; omega))
    (repeat (first | assumption | (with_reducible exact Below.refl _ _) | (with_reducible refine boxed_below ?_ ?_; rotate_left; (focus (first | omega | (simp; done) | (simp; omega)))) | (with_reducible refine Below.alloc ?_ ?_ _; rotate_left; (focus (first | omega | (simp; done) | (simp; omega)))) | (with_reducible refine Below.drew ?_)))
set_option maxHeartbeats 400000 in
theorem cyname_0 (w : World) : Calls Try.prog 27 #[.int .u8 0] w fun e w' => e = .returned (.string ⟨#[]⟩) ∧ w = w' := by
  go_enter Try.func27, Try.ntmps27
  go_wp2
  go_ret
  exact ⟨rfl, rfl⟩
set_option maxHeartbeats 400000 in
theorem cyname_1 (w : World) : Calls Try.prog 27 #[.int .u8 1] w fun e w' => e = .returned (.string ⟨#[99, 104, 97, 114, 103, 105, 110, 103]⟩) ∧ w = w' := by
  go_enter Try.func27, Try.ntmps27
  go_wp2
  go_ret
  exact ⟨rfl, rfl⟩
set_option maxHeartbeats 400000 in
theorem cyname_2 (w : World) : Calls Try.prog 27 #[.int .u8 2] w fun e w' => e = .returned (.string ⟨#[119, 97, 105, 116, 105, 110, 103]⟩) ∧ w = w' := by
  go_enter Try.func27, Try.ntmps27
  go_wp2
  go_ret
  exact ⟨rfl, rfl⟩
set_option maxHeartbeats 400000 in
theorem cyname_3 (w : World) : Calls Try.prog 27 #[.int .u8 3] w fun e w' => e = .returned (.string ⟨#[97, 108, 108, 111, 99, 97, 116, 105, 110, 103]⟩) ∧ w = w' := by
  go_enter Try.func27, Try.ntmps27
  go_wp2
  go_ret
  exact ⟨rfl, rfl⟩
set_option maxHeartbeats 400000 in
theorem cyname_4 (w : World) : Calls Try.prog 27 #[.int .u8 4] w fun e w' => e = .returned (.string ⟨#[115, 104, 105, 112, 112, 105, 110, 103]⟩) ∧ w = w' := by
  go_enter Try.func27, Try.ntmps27
  go_wp2
  go_ret
  exact ⟨rfl, rfl⟩
set_option maxHeartbeats 400000 in
theorem cyname_5 (w : World) : Calls Try.prog 27 #[.int .u8 5] w fun e w' => e = .returned (.string ⟨#[114, 101, 108, 101, 97, 115, 105, 110, 103]⟩) ∧ w = w' := by
  go_enter Try.func27, Try.ntmps27
  go_wp2
  go_ret
  exact ⟨rfl, rfl⟩
set_option maxHeartbeats 400000 in
theorem cyname_6 (w : World) : Calls Try.prog 27 #[.int .u8 6] w fun e w' => e = .returned (.string ⟨#[114, 101, 102, 117, 110, 100, 105, 110, 103]⟩) ∧ w = w' := by
  go_enter Try.func27, Try.ntmps27
  go_wp2
  go_ret
  exact ⟨rfl, rfl⟩
set_option maxHeartbeats 400000 in
theorem cyname_7 (w : World) : Calls Try.prog 27 #[.int .u8 7] w fun e w' => e = .returned (.string ⟨#[100, 111, 110, 101]⟩) ∧ w = w' := by
  go_enter Try.func27, Try.ntmps27
  go_wp2
  go_ret
  exact ⟨rfl, rfl⟩
set_option maxHeartbeats 400000 in
theorem cyname_8 (w : World) : Calls Try.prog 27 #[.int .u8 8] w fun e w' => e = .returned (.string ⟨#[117, 110, 112, 97, 105, 100]⟩) ∧ w = w' := by
  go_enter Try.func27, Try.ntmps27
  go_wp2
  go_ret
  exact ⟨rfl, rfl⟩
set_option maxHeartbeats 400000 in
theorem cyname_9 (w : World) : Calls Try.prog 27 #[.int .u8 9] w fun e w' => e = .returned (.string ⟨#[114, 101, 102, 117, 110, 100, 101, 100]⟩) ∧ w = w' := by
  go_enter Try.func27, Try.ntmps27
  go_wp2
  go_ret
  exact ⟨rfl, rfl⟩
set_option maxHeartbeats 400000 in
theorem cyname_10 (w : World) : Calls Try.prog 27 #[.int .u8 10] w fun e w' => e = .returned (.string ⟨#[115, 107, 105, 112, 112, 101, 100]⟩) ∧ w = w' := by
  go_enter Try.func27, Try.ntmps27
  go_wp2
  go_ret
  exact ⟨rfl, rfl⟩
set_option maxHeartbeats 400000 in
theorem cyname_no (p : Int) (h : 10 < p) (w : World) : Calls Try.prog 27 #[.int .u8 p] w fun e w' => e = .returned (.string ⟨#[]⟩) ∧ w = w' := by
  have d1 : (p == 1) = false := by rw [beq_eq_false_iff_ne]; omega
  have d2 : (p == 2) = false := by rw [beq_eq_false_iff_ne]; omega
  have d3 : (p == 3) = false := by rw [beq_eq_false_iff_ne]; omega
  have d4 : (p == 4) = false := by rw [beq_eq_false_iff_ne]; omega
  have d5 : (p == 5) = false := by rw [beq_eq_false_iff_ne]; omega
  have d6 : (p == 6) = false := by rw [beq_eq_false_iff_ne]; omega
  have d7 : (p == 7) = false := by rw [beq_eq_false_iff_ne]; omega
  have d8 : (p == 8) = false := by rw [beq_eq_false_iff_ne]; omega
  have d9 : (p == 9) = false := by rw [beq_eq_false_iff_ne]; omega
  have d10 : (p == 10) = false := by rw [beq_eq_false_iff_ne]; omega
  go_enter Try.func27, Try.ntmps27
  go_wp2
  go_ret
  exact ⟨rfl, rfl⟩
set_option maxHeartbeats 4000000 in
theorem cycleNames_walk (p : Int) (w0 : (Lit.int .u8 p).wf = true) (w : World) :
    Calls Try.prog 10 #[.int .u8 p] w fun e w' => e = .returned (.bool true) ∧ Below w.heap.size w w' := by
  obtain ⟨h0, h1⟩ := wf_u8 w0
  clear w0
  by_cases h : p ≤ 10
  · have hs : p = 0 ∨ p = 1 ∨ p = 2 ∨ p = 3 ∨ p = 4 ∨ p = 5 ∨ p = 6 ∨ p = 7 ∨ p = 8 ∨ p = 9 ∨ p = 10 := by omega
    clear h h0 h1
    rcases hs with rfl | rfl | rfl | rfl | rfl | rfl | rfl | rfl | rfl | rfl | rfl
    · go_enter Try.func10, Try.ntmps10
      go_wp2_with (fail)
      refine (cyawake_any _).mono ?_
      rintro e w1 ⟨rfl, hb⟩
      have HB := Lib.hid hb
      clear hb
      go_wp2_with (go_at_call 27; refine (cyname_0 _).mono ?_; rintro e w' ⟨rfl, rfl⟩)
      go_ret
      exact ⟨rfl, Below.trans (by go_grown) (HB.out.mono (by simp))⟩
    · go_enter Try.func10, Try.ntmps10
      go_wp2_with (fail)
      refine (cyawake_any _).mono ?_
      rintro e w1 ⟨rfl, hb⟩
      have HB := Lib.hid hb
      clear hb
      go_wp2_with (go_at_call 27; refine (cyname_1 _).mono ?_; rintro e w' ⟨rfl, rfl⟩)
      go_ret
      exact ⟨rfl, Below.trans (by go_grown) (HB.out.mono (by simp))⟩
    · go_enter Try.func10, Try.ntmps10
      go_wp2_with (fail)
      refine (cyawake_any _).mono ?_
      rintro e w1 ⟨rfl, hb⟩
      have HB := Lib.hid hb
      clear hb
      go_wp2_with (go_at_call 27; refine (cyname_2 _).mono ?_; rintro e w' ⟨rfl, rfl⟩)
      go_ret
      exact ⟨rfl, Below.trans (by go_grown) (HB.out.mono (by simp))⟩
    · go_enter Try.func10, Try.ntmps10
      go_wp2_with (fail)
      refine (cyawake_any _).mono ?_
      rintro e w1 ⟨rfl, hb⟩
      have HB := Lib.hid hb
      clear hb
      go_wp2_with (go_at_call 27; refine (cyname_3 _).mono ?_; rintro e w' ⟨rfl, rfl⟩)
      go_ret
      exact ⟨rfl, Below.trans (by go_grown) (HB.out.mono (by simp))⟩
    · go_enter Try.func10, Try.ntmps10
      go_wp2_with (fail)
      refine (cyawake_any _).mono ?_
      rintro e w1 ⟨rfl, hb⟩
      have HB := Lib.hid hb
      clear hb
      go_wp2_with (go_at_call 27; refine (cyname_4 _).mono ?_; rintro e w' ⟨rfl, rfl⟩)
      go_ret
      exact ⟨rfl, Below.trans (by go_grown) (HB.out.mono (by simp))⟩
    · go_enter Try.func10, Try.ntmps10
      go_wp2_with (fail)
      refine (cyawake_any _).mono ?_
      rintro e w1 ⟨rfl, hb⟩
      have HB := Lib.hid hb
      clear hb
      go_wp2_with (go_at_call 27; refine (cyname_5 _).mono ?_; rintro e w' ⟨rfl, rfl⟩)
      go_ret
      exact ⟨rfl, Below.trans (by go_grown) (HB.out.mono (by simp))⟩
    · go_enter Try.func10, Try.ntmps10
      go_wp2_with (fail)
      refine (cyawake_any _).mono ?_
      rintro e w1 ⟨rfl, hb⟩
      have HB := Lib.hid hb
      clear hb
      go_wp2_with (go_at_call 27; refine (cyname_6 _).mono ?_; rintro e w' ⟨rfl, rfl⟩)
      go_ret
      exact ⟨rfl, Below.trans (by go_grown) (HB.out.mono (by simp))⟩
    · go_enter Try.func10, Try.ntmps10
      go_wp2_with (fail)
      refine (cyawake_any _).mono ?_
      rintro e w1 ⟨rfl, hb⟩
      have HB := Lib.hid hb
      clear hb
      go_wp2_with (go_at_call 27; refine (cyname_7 _).mono ?_; rintro e w' ⟨rfl, rfl⟩)
      go_ret
      exact ⟨rfl, Below.trans (by go_grown) (HB.out.mono (by simp))⟩
    · go_enter Try.func10, Try.ntmps10
      go_wp2_with (fail)
      refine (cyawake_any _).mono ?_
      rintro e w1 ⟨rfl, hb⟩
      have HB := Lib.hid hb
      clear hb
      go_wp2_with (go_at_call 27; refine (cyname_8 _).mono ?_; rintro e w' ⟨rfl, rfl⟩)
      go_ret
      exact ⟨rfl, Below.trans (by go_grown) (HB.out.mono (by simp))⟩
    · go_enter Try.func10, Try.ntmps10
      go_wp2_with (fail)
      refine (cyawake_any _).mono ?_
      rintro e w1 ⟨rfl, hb⟩
      have HB := Lib.hid hb
      clear hb
      go_wp2_with (go_at_call 27; refine (cyname_9 _).mono ?_; rintro e w' ⟨rfl, rfl⟩)
      go_ret
      exact ⟨rfl, Below.trans (by go_grown) (HB.out.mono (by simp))⟩
    · go_enter Try.func10, Try.ntmps10
      go_wp2_with (fail)
      refine (cyawake_any _).mono ?_
      rintro e w1 ⟨rfl, hb⟩
      have HB := Lib.hid hb
      clear hb
      go_wp2_with (go_at_call 27; refine (cyname_10 _).mono ?_; rintro e w' ⟨rfl, rfl⟩)
      go_ret
      exact ⟨rfl, Below.trans (by go_grown) (HB.out.mono (by simp))⟩
  · have d : decide (p ≤ 10) = false := by simpa using h
    have h2 : 10 < p := by omega
    have H2 := Lib.hid h2
    clear h h0 h1 h2
    go_enter Try.func10, Try.ntmps10
    go_wp2_with (fail)
    refine (cyawake_any _).mono ?_
    rintro e w1 ⟨rfl, hb⟩
    have HB := Lib.hid hb
    clear hb
    go_wp2_with (go_at_call 27; refine (cyname_no _ H2.out _).mono ?_; rintro e w' ⟨rfl, rfl⟩)
    go_ret
    exact ⟨rfl, HB.out⟩
end Go.Proofs.Ythilcefikhnilaa
