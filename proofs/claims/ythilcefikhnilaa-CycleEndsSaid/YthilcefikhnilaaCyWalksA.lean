/-
  The walks of the laws CycleBegins, CycleAsks, CycleHears, CycleWakes, CycleNames: each returns true, whatever the input. No conditions.
-/
import Derived.Test.YthilcefikhnilaaCyAt
import Derived.Test.YthilcefikhnilaaCyRefH
import Derived.Test.YthilcefikhnilaaRow
namespace Go.Proofs.Ythilcefikhnilaa
set_option maxRecDepth 20000
open Go.ChangeShapes Go.WideShapes Go.ChangeAt Go.RowKit

theorem wf_i32 {x : Int} (h : (Lit.int .i32 x).wf = true) : -2147483648 ≤ x ∧ x ≤ 2147483647 := by
  have h1 : IntKind.i32.min = -2147483648 := rfl
  have h2 : IntKind.i32.max = 2147483647 := rfl
  simp only [Lit.wf, Bool.and_eq_true, decide_eq_true_eq] at h
  omega
set_option maxHeartbeats 4000000 in
theorem cycleBegins_walk (n : Int) (w0 : (Lit.int .u16 n).wf = true) (d : Int) (w1 : (Lit.int .u16 d).wf = true) (a : Int) (w2 : (Lit.int .u32 a).wf = true) (u : Int) (w3 : (Lit.int .i32 u).wf = true) (g : Bool) (w : World) :
    Calls Try.prog 3 #[.int .u16 n, .int .u16 d, .int .u32 a, .int .i32 u, .bool g] w fun e w' => e = .returned (.bool true) ∧ Below w.heap.size w w' := by
  obtain ⟨hn0, hn1⟩ := wf_u16 w0
  obtain ⟨hd0, hd1⟩ := wf_u16 w1
  obtain ⟨ha0, ha1⟩ := wf_u32 w2
  obtain ⟨hu0, hu1⟩ := wf_i32 w3
  clear w0 w1 w2 w3
  obtain ⟨D, hD⟩ : ∃ D, Cy.begin_ n d a u g = D := ⟨_, rfl⟩
  have HD := Lib.hid hD
  have HA := Lib.hid ha0
  clear hD
  obtain ⟨n', d', p', a', u', t', x', g'⟩ := D
  have HR : Hid (∀ w, Calls Try.prog 15 #[.int .i64 n, .int .i64 d, .int .i64 a, .int .i64 u, .bool g] w fun e w' => e = .returned (.agg #[.int .i64 n', .int .i64 d', .int .u8 p', .int .i64 a', .int .i64 u', .int .i64 t', .int .i64 x', .bool g']) ∧ Below w.heap.size w w') := fun w => by
    have := refbegin_any n d a u g w HA.out
    rw [HD.out] at this
    exact this
  go_enter Try.func3, Try.ntmps3
  go_wp2_with (fail)
  refine (cybegin_any _ _ _ _ _ _).mono ?_
  rw [HD.out]
  dsimp only [Cv.val, Cv.arr]
  rintro e w1 ⟨rfl, hb1⟩
  have HB1 := Lib.hid hb1
  clear hb1
  go_wp2_with (fail)
  refine (cypass_any _ _ _).mono ?_
  rintro e w2 ⟨rfl, hb⟩
  obtain ⟨hw, z2, e1⟩ := keep_alloc HB1.out HB1.out.size hb
  rw [e1]
  have HW2 := Lib.hid hw
  have hz : w.heap.size ≤ w1.heap.size := HB1.out.size
  clear e1 hb hw HB1
  go_wp2
  refine region_over (by kernel_rfl) (by kernel_rfl) ?_
  repeat (go_big_quiet_step (first | (go_at_call 14; exact over_call (cyawake_any _)) | (go_at_call 15; exact over_call (HR.out _)) | (go_at_call 16; exact over_call (cyended_any _ _ _ _ _ _ _ _ _))))
  refine wpQuiet_nil ?_
  rintro _ ⟨W, rfl⟩
  go_wp2
  go_ret
  refine ⟨by simp, ?_⟩
  have hB := HW2.out
  refine Below.trans ?_ ((over_below _ W).mono (by simp; omega))
  (repeat (first | assumption | (with_reducible exact Below.refl _ _) | (with_reducible refine boxed_below ?_ ?_; rotate_left; (focus (first | omega | (simp; done) | (simp; omega)))) | (with_reducible refine Below.alloc ?_ ?_ _; rotate_left; (focus (first | omega | (simp; done) | (simp; omega)))) | (with_reducible refine Below.drew ?_)))
theorem at_try {q n d a u t x : Int} {g : Bool} (_ : 0 ≤ t) : ((Cy.at_ q n d a u t x g).p = 1 → 1 ≤ (Cy.at_ q n d a u t x g).t) ∧ 0 ≤ (Cy.at_ q n d a u t x g).t ∧ (Cy.at_ q n d a u t x g).t ≤ 4 := by
  unfold Cy.at_
  dsimp only
  refine ⟨fun h => ?_, ?_, ?_⟩
  · rw [if_pos (by omega)]; omega
  · split <;> (try split) <;> omega
  · split <;> (try split) <;> omega
theorem asks_early {c : Cv} (h : c.asks = true) : decide (7 ≤ c.p) = false := by
  unfold Cv.asks Cy.kind at h
  by_cases h7 : 7 ≤ c.p
  · rw [if_neg (by omega), if_neg (by omega), if_neg (by omega), if_neg (by omega), if_neg (by omega)] at h
    simp at h
  · simpa using h7
set_option maxHeartbeats 4000000 in
theorem cycleAsks_walk (q : Int) (w0 : (Lit.int .u8 q).wf = true) (n : Int) (w1 : (Lit.int .u16 n).wf = true) (a : Int) (w2 : (Lit.int .u32 a).wf = true) (t : Int) (w3 : (Lit.int .u8 t).wf = true) (s : Int) (w4 : (Lit.int .u8 s).wf = true) (g : Bool) (w : World) :
    Calls Try.prog 4 #[.int .u8 q, .int .u16 n, .int .u32 a, .int .u8 t, .int .u8 s, .bool g] w fun e w' => e = .returned (.bool true) ∧ Below w.heap.size w w' := by
  have hq := wf_u8 w0
  have hn := wf_u16 w1
  have ha := wf_u32 w2
  have ht := wf_u8 w3
  obtain ⟨hs0, hs1⟩ := wf_u8 w4
  clear w0 w1 w2 w3 w4
  obtain ⟨D, hD⟩ : ∃ D, Cy.at_ q n 9 a 0 t 3 g = D := ⟨_, rfl⟩
  have HC : Hid (∀ w, Calls Try.prog 17 #[.int .u8 q, .int .u16 n, .int .u16 9, .int .u32 a, .int .i32 0, .int .u8 t, .int .u16 3, .bool g] w fun e w' => e = .returned D.val ∧ Below w.heap.size w w') := fun w => by
    rw [← hD]; exact cyat_any q n 9 a 0 t 3 g w hq ht hn (by omega) ha (by omega) (by omega)
  clear hD hq hn ha ht
  obtain ⟨n', d', p', a', u', t', x', g'⟩ := D
  obtain ⟨A, hA⟩ : ∃ A, Cv.ask s ⟨n', d', p', a', u', t', x', g'⟩ = A := ⟨_, rfl⟩
  obtain ⟨b, hb⟩ : ∃ b, Cv.asks ⟨n', d', p', a', u', t', x', g'⟩ = b := ⟨_, rfl⟩
  have he : b = true → decide (7 ≤ p') = false := fun h => asks_early (hb.trans h)
  have HA := Lib.hid hA
  have HB := Lib.hid hb
  clear hA hb
  obtain ⟨K, S, C, T, M, V⟩ := A
  cases b
  case' true => have he7 := he rfl
  all_goals
    clear he
    go_enter Try.func4, Try.ntmps4
    go_wp2_with (fail)
    refine (HC.out _).mono ?_
    dsimp only [Cv.val, Cv.arr]
    rintro e w1 ⟨rfl, hb⟩
    have HB1 := Lib.hid hb
    clear hb
    have hz : w.heap.size ≤ w1.heap.size := HB1.out.size
    go_wp2_with (fail)
    refine (cyasks_any _ _ _ _ _ _ _ _ _ _).mono ?_
    rw [HA.out, HB.out]
    dsimp only [Nv.arr]
    rintro e w2 ⟨rfl, hb⟩
    obtain ⟨hw, z1, e1⟩ := keep_alloc HB1.out HB1.out.size hb
    rw [e1]
    have HW2 := Lib.hid hw
    clear e1 hb hw HB1
    go_wp2_with (fail)
    refine (refasks_any _ _ _ _ _ _ _ _ _ _).mono ?_
    rw [HA.out, HB.out]
    dsimp only [Nv.arr]
    rintro e w3 ⟨rfl, hb⟩
    obtain ⟨hw, z2, z3, e1⟩ := keep1_alloc HW2.out hz z1 hb
    rw [e1]
    have HW3 := Lib.hid hw
    clear e1 hb hw HW2
    go_wp2
    refine region_over (by kernel_rfl) (by kernel_rfl) ?_
    repeat (go_big_quiet_step (first | (go_at_call 14; exact over_call (cyawake_any _)) | (go_at_call 20; exact over_same (refended_any _ _)) | (go_at_call 16; exact over_call (cyended_any _ _ _ _ _ _ _ _ _))))
    refine wpQuiet_nil ?_
    rintro _ ⟨W, rfl⟩
    go_wp2
    go_ret
    refine ⟨by simp, ?_⟩
    have hB := HW3.out
    refine Below.trans ?_ ((over_below _ W).mono (by simp; omega))
    (repeat (first | assumption | (with_reducible exact Below.refl _ _) | (with_reducible refine boxed_below ?_ ?_; rotate_left; (focus (first | omega | (simp; done) | (simp; omega)))) | (with_reducible refine Below.alloc ?_ ?_ _; rotate_left; (focus (first | omega | (simp; done) | (simp; omega)))) | (with_reducible refine Below.drew ?_)))
end Go.Proofs.Ythilcefikhnilaa
