/-
  The walk of the law CycleOld: it returns true, whatever the input. No conditions.
-/
import Derived.Test.YthilcefikhnilaaCyKeeps
namespace Go.Proofs.Ythilcefikhnilaa
set_option maxRecDepth 20000
open Go.ChangeShapes Go.WideShapes Go.ChangeAt Go.RowKit

/-- An answer turns the phase. -/
theorem next_p (c : Cv) (v y : Int) (o : Bool) (h : Cy.kind c.p ≠ 0) : (c.next v y o).p ≠ c.p := by
  obtain ⟨n, d, p, a, u, t, x, g⟩ := c
  dsimp only at h ⊢
  have hb : ∀ q, (Cv.back ⟨n, d, q, a, u, t, x, g⟩).p = 6 ∨ (Cv.back ⟨n, d, q, a, u, t, x, g⟩).p = 9 := fun q => by
    unfold Cv.back Cv.to; dsimp only; split
    · exact .inr rfl
    · exact .inl rfl
  refine kind_ways p ?_ ?_ ?_ ?_ ?_ (fun c1 c3 c4 c5 c6 => absurd (kind_none c1 c3 c4 c5 c6) h)
  · rintro rfl
    show (Cv.charged _ _ _ _).p ≠ 1
    unfold Cv.charged
    split
    · split
      · rcases hb 1 with e | e <;> rw [e] <;> decide
      · show Cy.paid g ≠ 1
        unfold Cy.paid; split <;> decide
    split
    · show (2 : Int) ≠ 1
      decide
    · show (8 : Int) ≠ 1
      decide
  · rintro rfl
    show (Cv.allocated _ _ _).p ≠ 3
    unfold Cv.allocated
    split
    · split
      · show (5 : Int) ≠ 3
        decide
      · show (4 : Int) ≠ 3
        decide
    · rcases hb 3 with e | e <;> rw [e] <;> decide
  · rintro rfl
    show (Cv.shipped _ _).p ≠ 4
    unfold Cv.shipped
    split
    · show (7 : Int) ≠ 4
      decide
    · show (5 : Int) ≠ 4
      decide
  · rintro rfl
    show (Cv.back _).p ≠ 5
    rcases hb 5 with e | e <;> rw [e] <;> decide
  · rintro rfl
    show (9 : Int) ≠ 6
    decide
/-- Where it isn't heard although it asks: which field parts. -/
theorem unheard2 {s : Int} {c : Cv} {m : Nv} (h : ¬c.Heard s m) (hk : c.asks = true) : (m.k ≠ (c.ask s).k) ∨ (m.k = (c.ask s).k ∧ m.s ≠ (c.ask s).s) ∨ (m.k = (c.ask s).k ∧ m.s = (c.ask s).s ∧ m.c ≠ (c.ask s).c) ∨ (m.k = (c.ask s).k ∧ m.s = (c.ask s).s ∧ m.c = (c.ask s).c ∧ m.t ≠ (c.ask s).t)
    ∨ (m.k = (c.ask s).k ∧ m.s = (c.ask s).s ∧ m.c = (c.ask s).c ∧ m.t = (c.ask s).t ∧ m.a ≠ (c.ask s).a) ∨ (m.k = (c.ask s).k ∧ m.s = (c.ask s).s ∧ m.c = (c.ask s).c ∧ m.t = (c.ask s).t ∧ m.a = (c.ask s).a ∧ m.v = 0) := by
  have hv := ask_v s c
  unfold Cv.asks at hk
  by_cases h1 : m.k = (c.ask s).k
  case neg => exact .inl h1
  by_cases h2 : m.s = (c.ask s).s
  case neg => exact .inr (.inl ⟨h1, h2⟩)
  by_cases h3 : m.c = (c.ask s).c
  case neg => exact .inr (.inr (.inl ⟨h1, h2, h3⟩))
  by_cases h4 : m.t = (c.ask s).t
  case neg => exact .inr (.inr (.inr (.inl ⟨h1, h2, h3, h4⟩)))
  by_cases h5 : m.a = (c.ask s).a
  case neg => exact .inr (.inr (.inr (.inr (.inl ⟨h1, h2, h3, h4, h5⟩))))
  refine .inr (.inr (.inr (.inr (.inr ⟨h1, h2, h3, h4, h5, ?_⟩))))
  by_cases h0 : m.v = 0
  · exact h0
  refine absurd ⟨by simpa using hk, h0, ?_⟩ h
  rw [h1, h2, h3, h4, h5, ← hv]
set_option maxHeartbeats 8000000 in
theorem old_none (q a t h y : Int) (o : Bool) (n' d' p' a' u' t' x' : Int) (g' : Bool) (k0 s0 c0 t0 m0 : Int) (K S C T M V : Int) (w : World)
    (HC : Hid (∀ w, Calls Try.prog 17 #[.int .u8 q, .int .u16 7, .int .u16 9, .int .u32 a, .int .i32 5, .int .u8 t, .int .u16 3, .bool true] w fun e w' => e = .returned (.agg #[.int .i64 n', .int .i64 d', .int .u8 p', .int .i64 a', .int .i64 u', .int .i64 t', .int .i64 x', .bool g']) ∧ Below w.heap.size w w'))
    (HA : Hid (∀ w, Calls Try.prog 18 #[.int .i64 2, .agg #[.int .i64 n', .int .i64 d', .int .u8 p', .int .i64 a', .int .i64 u', .int .i64 t', .int .i64 x', .bool g']] w fun e w' => e = .returned (.tuple #[.agg #[.int .u8 k0, .int .i64 s0, .int .i64 c0, .int .i64 t0, .int .i64 m0, .int .u8 0], .bool false]) ∧ Below w.heap.size w w'))
    (HH : Hid (∀ w, Calls Try.prog 21 #[.int .i64 2, .agg #[.int .i64 n', .int .i64 d', .int .u8 p', .int .i64 a', .int .i64 u', .int .i64 t', .int .i64 x', .bool g'], .agg #[.int .u8 K, .int .i64 S, .int .i64 C, .int .i64 T, .int .i64 M, .int .u8 V], .int .i64 y, .bool o] w fun e w' => e = .returned (.tuple #[.agg #[.int .i64 n', .int .i64 d', .int .u8 p', .int .i64 a', .int .i64 u', .int .i64 t', .int .i64 x', .bool g'], .int .i64 10]) ∧ Below w.heap.size w w'))
    (hy0 : 0 ≤ y) (hy1 : y < 65536) (hh : 0 ≤ h ∧ h < 256) :
    Calls Try.prog 6 #[.int .u8 q, .int .u32 a, .int .u8 t, .agg #[.int .u8 K, .int .i64 S, .int .i64 C, .int .i64 T, .int .i64 M, .int .u8 V], .int .u8 h, .int .u16 y, .bool o] w fun e w' => e = .returned (.bool true) ∧ Below w.heap.size w w' := by
  obtain ⟨hh0, hh1⟩ := hh
  have dh : decide (128 ≤ h) = true ∨ decide (128 ≤ h) = false := by cases decide (128 ≤ h) <;> simp
  rcases dh with dh | dh
  all_goals
    go_enter Try.func6, Try.ntmps6
    go_wp2_with (fail)
    refine (HC.out _).mono ?_
    rintro e w1 ⟨rfl, hb⟩
    obtain ⟨hw, z0, e1⟩ := keep0 hb
    rw [e1]
    have HW1 := Lib.hid hw
    clear e1 hb hw
    go_wp2_with (fail)
    refine (HA.out _).mono ?_
    rintro e w2 ⟨rfl, hb⟩
    obtain ⟨hw, z1, z2, e1⟩ := keep1_alloc HW1.out (Nat.le_refl _) z0 hb
    rw [e1]
    have HW2 := Lib.hid hw
    clear e1 hb hw HW1
    go_wp2_with (fail)
    refine (HH.out _).mono ?_
    rintro e w3 ⟨rfl, hb⟩
    have ha3 : w3.heap[w.heap.size]? = some (.cells #[.int .u8 K, .int .i64 S, .int .i64 C, .int .i64 T, .int .i64 M, .int .u8 V] 35 (0, 0)) := below_block hb (by (repeat (first | assumption | (with_reducible refine alloc_at ?_; (focus (first | omega | (simp; done) | (simp; omega)))) | (with_reducible refine boxed_at ?_; (focus (first | omega | (simp; done) | (simp; omega)))) | (with_reducible refine alloc_old ?_ ?_; (focus (first | omega | (simp; done) | (simp; omega)))) | (with_reducible refine boxed_old ?_ ?_; (focus (first | omega | (simp; done) | (simp; omega)))) | (with_reducible refine drew_old ?_))))
    have hc3 : w3.heap[w1.heap.size]? = some (.cells #[.int .i64 n', .int .i64 d', .int .u8 p', .int .i64 a', .int .i64 u', .int .i64 t', .int .i64 x', .bool g'] 25 (0, 0)) := below_block hb (by (repeat (first | assumption | (with_reducible refine alloc_at ?_; (focus (first | omega | (simp; done) | (simp; omega)))) | (with_reducible refine boxed_at ?_; (focus (first | omega | (simp; done) | (simp; omega)))) | (with_reducible refine alloc_old ?_ ?_; (focus (first | omega | (simp; done) | (simp; omega)))) | (with_reducible refine boxed_old ?_ ?_; (focus (first | omega | (simp; done) | (simp; omega)))) | (with_reducible refine drew_old ?_))))
    have hn3 : w3.heap[w2.heap.size]? = some (.cells #[.int .u8 k0, .int .i64 s0, .int .i64 c0, .int .i64 t0, .int .i64 m0, .int .u8 0] 35 (0, 0)) := below_block hb (by (repeat (first | assumption | (with_reducible refine alloc_at ?_; (focus (first | omega | (simp; done) | (simp; omega)))) | (with_reducible refine boxed_at ?_; (focus (first | omega | (simp; done) | (simp; omega)))) | (with_reducible refine alloc_old ?_ ?_; (focus (first | omega | (simp; done) | (simp; omega)))) | (with_reducible refine boxed_old ?_ ?_; (focus (first | omega | (simp; done) | (simp; omega)))) | (with_reducible refine drew_old ?_))))
    have hm3 : w3.heap[w2.heap.size + 1]? = some (.cells #[.int .u8 K, .int .i64 S, .int .i64 C, .int .i64 T, .int .i64 M, .int .u8 0] 35 (0, 0)) := below_block hb (by (repeat (first | assumption | (with_reducible refine alloc_at ?_; (focus (first | omega | (simp; done) | (simp; omega)))) | (with_reducible refine boxed_at ?_; (focus (first | omega | (simp; done) | (simp; omega)))) | (with_reducible refine alloc_old ?_ ?_; (focus (first | omega | (simp; done) | (simp; omega)))) | (with_reducible refine boxed_old ?_ ?_; (focus (first | omega | (simp; done) | (simp; omega)))) | (with_reducible refine drew_old ?_))))
    have hb3 : Below w.heap.size w w3 := by
      refine Below.trans ?_ (hb.mono (by simp; omega))
      have hB2 := HW2.out
      (repeat (first | assumption | (with_reducible exact Below.refl _ _) | (with_reducible refine boxed_below ?_ ?_; rotate_left; (focus (first | omega | (simp; done) | (simp; omega)))) | (with_reducible refine Below.alloc ?_ ?_ _; rotate_left; (focus (first | omega | (simp; done) | (simp; omega)))) | (with_reducible refine Below.drew ?_)))
    have l1 : w.heap.size < w3.heap.size := (Array.getElem?_eq_some_iff.1 ha3).1
    have l2 : w1.heap.size < w3.heap.size := (Array.getElem?_eq_some_iff.1 hc3).1
    have l3 : w2.heap.size < w3.heap.size := (Array.getElem?_eq_some_iff.1 hn3).1
    have l4 : w2.heap.size + 1 < w3.heap.size := (Array.getElem?_eq_some_iff.1 hm3).1
    obtain ⟨i0, i1, i2, i3, i4, i5⟩ := cells6 ha3
    obtain ⟨j0, j1, j2, j3, j4, j5⟩ := cells6 hn3
    obtain ⟨f0, f1, f2, f3, f4, f5⟩ := cells6 hm3
    have HC3 := Lib.hid hc3
    have HB3 := Lib.hid hb3
    clear ha3 hc3 hn3 hm3 hb3 hb HW2
    go_wp2_with (fail)
    refine (cyawake_any _).mono ?_
    rintro e w4 ⟨rfl, hb⟩
    have hc4 : w4.heap[w1.heap.size]? = some (.cells #[.int .i64 n', .int .i64 d', .int .u8 p', .int .i64 a', .int .i64 u', .int .i64 t', .int .i64 x', .bool g'] 25 (0, 0)) := below_block hb (alloc_old l2 HC3.out)
    have hx4 : w4.heap[w3.heap.size]? = some (.cells #[.int .i64 n', .int .i64 d', .int .u8 p', .int .i64 a', .int .i64 u', .int .i64 t', .int .i64 x', .bool g'] 25 (0, 0)) := below_block hb (alloc_at rfl)
    obtain ⟨r0, r1, r2, r3, r4, r5, r6, r7⟩ := cells8 hc4
    obtain ⟨b0, b1, b2, b3, b4, b5, b6, b7⟩ := cells8 hx4
    have HB4 := Lib.hid ((HB3.out.alloc (by exact HB3.out.size) _).trans (hb.mono (by simp; omega)))
    clear hb hc4 hx4 i0 i1 i2 i3 i4 i5 j0 j1 j2 j3 j4 j5 f0 f1 f2 f3 f4 f5
    go_wp2
    go_ret
    exact ⟨by simp, HB4.out⟩
set_option maxHeartbeats 8000000 in
theorem old_no (q a t h y : Int) (o : Bool) (n' d' p' a' u' t' x' : Int) (g' : Bool) (k0 s0 c0 t0 m0 : Int) (K S C T M V : Int) (w : World)
    (HC : Hid (∀ w, Calls Try.prog 17 #[.int .u8 q, .int .u16 7, .int .u16 9, .int .u32 a, .int .i32 5, .int .u8 t, .int .u16 3, .bool true] w fun e w' => e = .returned (.agg #[.int .i64 n', .int .i64 d', .int .u8 p', .int .i64 a', .int .i64 u', .int .i64 t', .int .i64 x', .bool g']) ∧ Below w.heap.size w w'))
    (HA : Hid (∀ w, Calls Try.prog 18 #[.int .i64 2, .agg #[.int .i64 n', .int .i64 d', .int .u8 p', .int .i64 a', .int .i64 u', .int .i64 t', .int .i64 x', .bool g']] w fun e w' => e = .returned (.tuple #[.agg #[.int .u8 k0, .int .i64 s0, .int .i64 c0, .int .i64 t0, .int .i64 m0, .int .u8 0], .bool true]) ∧ Below w.heap.size w w'))
    (HH : Hid (∀ w, Calls Try.prog 21 #[.int .i64 2, .agg #[.int .i64 n', .int .i64 d', .int .u8 p', .int .i64 a', .int .i64 u', .int .i64 t', .int .i64 x', .bool g'], .agg #[.int .u8 K, .int .i64 S, .int .i64 C, .int .i64 T, .int .i64 M, .int .u8 V], .int .i64 y, .bool o] w fun e w' => e = .returned (.tuple #[.agg #[.int .i64 n', .int .i64 d', .int .u8 p', .int .i64 a', .int .i64 u', .int .i64 t', .int .i64 x', .bool g'], .int .i64 10]) ∧ Below w.heap.size w w'))
    (hy0 : 0 ≤ y) (hy1 : y < 65536) (hh : 0 ≤ h ∧ h < 256) (hlt : h < 128) (H : K ≠ k0 ∨ (K = k0 ∧ S ≠ s0) ∨ (K = k0 ∧ S = s0 ∧ C ≠ c0) ∨ (K = k0 ∧ S = s0 ∧ C = c0 ∧ T ≠ t0) ∨ (K = k0 ∧ S = s0 ∧ C = c0 ∧ T = t0 ∧ M ≠ m0) ∨ (K = k0 ∧ S = s0 ∧ C = c0 ∧ T = t0 ∧ M = m0 ∧ V = 0)) :
    Calls Try.prog 6 #[.int .u8 q, .int .u32 a, .int .u8 t, .agg #[.int .u8 K, .int .i64 S, .int .i64 C, .int .i64 T, .int .i64 M, .int .u8 V], .int .u8 h, .int .u16 y, .bool o] w fun e w' => e = .returned (.bool true) ∧ Below w.heap.size w w' := by
  obtain ⟨hh0, hh1⟩ := hh
  have dh : decide (128 ≤ h) = false := by simp; omega
  clear hlt
  rcases H with h1 | ⟨g1, h1⟩ | ⟨g1, g2, h1⟩ | ⟨g1, g2, g3, h1⟩ | ⟨g1, g2, g3, g4, h1⟩ | ⟨g1, g2, g3, g4, g5, g6⟩
  all_goals
    try have d1 : (K == k0) = false := by simpa using h1
    try have d2 : (S == s0) = false := by simpa using h1
    try have d3 : (C == c0) = false := by simpa using h1
    try have d4 : (T == t0) = false := by simpa using h1
    try have d5 : (M == m0) = false := by simpa using h1
    try have e1 : (K == k0) = true := by simpa using g1
    try have e2 : (S == s0) = true := by simpa using g2
    try have e3 : (C == c0) = true := by simpa using g3
    try have e4 : (T == t0) = true := by simpa using g4
    try have e5 : (M == m0) = true := by simpa using g5
    try have e6 : (V == 0) = true := by simpa using g6
    try have e7 : (V != 0) = false := by simpa using g6
    try clear h1
    try clear g1
    try clear g2
    try clear g3
    try clear g4
    try clear g5
    try clear g6
    go_enter Try.func6, Try.ntmps6
    go_wp2_with (fail)
    refine (HC.out _).mono ?_
    rintro e w1 ⟨rfl, hb⟩
    obtain ⟨hw, z0, e1⟩ := keep0 hb
    rw [e1]
    have HW1 := Lib.hid hw
    clear e1 hb hw
    go_wp2_with (fail)
    refine (HA.out _).mono ?_
    rintro e w2 ⟨rfl, hb⟩
    obtain ⟨hw, z1, z2, e1⟩ := keep1_alloc HW1.out (Nat.le_refl _) z0 hb
    rw [e1]
    have HW2 := Lib.hid hw
    clear e1 hb hw HW1
    go_wp2_with (fail)
    refine (HH.out _).mono ?_
    rintro e w3 ⟨rfl, hb⟩
    have ha3 : w3.heap[w.heap.size]? = some (.cells #[.int .u8 K, .int .i64 S, .int .i64 C, .int .i64 T, .int .i64 M, .int .u8 V] 35 (0, 0)) := below_block hb (by (repeat (first | assumption | (with_reducible refine alloc_at ?_; (focus (first | omega | (simp; done) | (simp; omega)))) | (with_reducible refine boxed_at ?_; (focus (first | omega | (simp; done) | (simp; omega)))) | (with_reducible refine alloc_old ?_ ?_; (focus (first | omega | (simp; done) | (simp; omega)))) | (with_reducible refine boxed_old ?_ ?_; (focus (first | omega | (simp; done) | (simp; omega)))) | (with_reducible refine drew_old ?_))))
    have hc3 : w3.heap[w1.heap.size]? = some (.cells #[.int .i64 n', .int .i64 d', .int .u8 p', .int .i64 a', .int .i64 u', .int .i64 t', .int .i64 x', .bool g'] 25 (0, 0)) := below_block hb (by (repeat (first | assumption | (with_reducible refine alloc_at ?_; (focus (first | omega | (simp; done) | (simp; omega)))) | (with_reducible refine boxed_at ?_; (focus (first | omega | (simp; done) | (simp; omega)))) | (with_reducible refine alloc_old ?_ ?_; (focus (first | omega | (simp; done) | (simp; omega)))) | (with_reducible refine boxed_old ?_ ?_; (focus (first | omega | (simp; done) | (simp; omega)))) | (with_reducible refine drew_old ?_))))
    have hn3 : w3.heap[w2.heap.size]? = some (.cells #[.int .u8 k0, .int .i64 s0, .int .i64 c0, .int .i64 t0, .int .i64 m0, .int .u8 0] 35 (0, 0)) := below_block hb (by (repeat (first | assumption | (with_reducible refine alloc_at ?_; (focus (first | omega | (simp; done) | (simp; omega)))) | (with_reducible refine boxed_at ?_; (focus (first | omega | (simp; done) | (simp; omega)))) | (with_reducible refine alloc_old ?_ ?_; (focus (first | omega | (simp; done) | (simp; omega)))) | (with_reducible refine boxed_old ?_ ?_; (focus (first | omega | (simp; done) | (simp; omega)))) | (with_reducible refine drew_old ?_))))
    have hm3 : w3.heap[w2.heap.size + 1]? = some (.cells #[.int .u8 K, .int .i64 S, .int .i64 C, .int .i64 T, .int .i64 M, .int .u8 0] 35 (0, 0)) := below_block hb (by (repeat (first | assumption | (with_reducible refine alloc_at ?_; (focus (first | omega | (simp; done) | (simp; omega)))) | (with_reducible refine boxed_at ?_; (focus (first | omega | (simp; done) | (simp; omega)))) | (with_reducible refine alloc_old ?_ ?_; (focus (first | omega | (simp; done) | (simp; omega)))) | (with_reducible refine boxed_old ?_ ?_; (focus (first | omega | (simp; done) | (simp; omega)))) | (with_reducible refine drew_old ?_))))
    have hb3 : Below w.heap.size w w3 := by
      refine Below.trans ?_ (hb.mono (by simp; omega))
      have hB2 := HW2.out
      (repeat (first | assumption | (with_reducible exact Below.refl _ _) | (with_reducible refine boxed_below ?_ ?_; rotate_left; (focus (first | omega | (simp; done) | (simp; omega)))) | (with_reducible refine Below.alloc ?_ ?_ _; rotate_left; (focus (first | omega | (simp; done) | (simp; omega)))) | (with_reducible refine Below.drew ?_)))
    have l1 : w.heap.size < w3.heap.size := (Array.getElem?_eq_some_iff.1 ha3).1
    have l2 : w1.heap.size < w3.heap.size := (Array.getElem?_eq_some_iff.1 hc3).1
    have l3 : w2.heap.size < w3.heap.size := (Array.getElem?_eq_some_iff.1 hn3).1
    have l4 : w2.heap.size + 1 < w3.heap.size := (Array.getElem?_eq_some_iff.1 hm3).1
    obtain ⟨i0, i1, i2, i3, i4, i5⟩ := cells6 ha3
    obtain ⟨j0, j1, j2, j3, j4, j5⟩ := cells6 hn3
    obtain ⟨f0, f1, f2, f3, f4, f5⟩ := cells6 hm3
    have HC3 := Lib.hid hc3
    have HB3 := Lib.hid hb3
    clear ha3 hc3 hn3 hm3 hb3 hb HW2
    go_wp2_with (fail)
    refine (cyawake_any _).mono ?_
    rintro e w4 ⟨rfl, hb⟩
    have hc4 : w4.heap[w1.heap.size]? = some (.cells #[.int .i64 n', .int .i64 d', .int .u8 p', .int .i64 a', .int .i64 u', .int .i64 t', .int .i64 x', .bool g'] 25 (0, 0)) := below_block hb (alloc_old l2 HC3.out)
    have hx4 : w4.heap[w3.heap.size]? = some (.cells #[.int .i64 n', .int .i64 d', .int .u8 p', .int .i64 a', .int .i64 u', .int .i64 t', .int .i64 x', .bool g'] 25 (0, 0)) := below_block hb (alloc_at rfl)
    obtain ⟨r0, r1, r2, r3, r4, r5, r6, r7⟩ := cells8 hc4
    obtain ⟨b0, b1, b2, b3, b4, b5, b6, b7⟩ := cells8 hx4
    have HB4 := Lib.hid ((HB3.out.alloc (by exact HB3.out.size) _).trans (hb.mono (by simp; omega)))
    clear hb hc4 hx4 i0 i1 i2 i3 i4 i5 j0 j1 j2 j3 j4 j5 f0 f1 f2 f3 f4 f5
    go_wp2
    go_ret
    exact ⟨by simp, HB4.out⟩
set_option maxHeartbeats 8000000 in
theorem old_yes (q a t h y : Int) (o : Bool) (n' d' p' a' u' t' x' : Int) (g' : Bool) (k0 s0 c0 t0 m0 : Int) (V p1 t1 x1 : Int) (w : World)
    (HC : Hid (∀ w, Calls Try.prog 17 #[.int .u8 q, .int .u16 7, .int .u16 9, .int .u32 a, .int .i32 5, .int .u8 t, .int .u16 3, .bool true] w fun e w' => e = .returned (.agg #[.int .i64 n', .int .i64 d', .int .u8 p', .int .i64 a', .int .i64 u', .int .i64 t', .int .i64 x', .bool g']) ∧ Below w.heap.size w w'))
    (HA : Hid (∀ w, Calls Try.prog 18 #[.int .i64 2, .agg #[.int .i64 n', .int .i64 d', .int .u8 p', .int .i64 a', .int .i64 u', .int .i64 t', .int .i64 x', .bool g']] w fun e w' => e = .returned (.tuple #[.agg #[.int .u8 k0, .int .i64 s0, .int .i64 c0, .int .i64 t0, .int .i64 m0, .int .u8 0], .bool true]) ∧ Below w.heap.size w w'))
    (HH : Hid (∀ w, Calls Try.prog 21 #[.int .i64 2, .agg #[.int .i64 n', .int .i64 d', .int .u8 p', .int .i64 a', .int .i64 u', .int .i64 t', .int .i64 x', .bool g'], .agg #[.int .u8 k0, .int .i64 s0, .int .i64 c0, .int .i64 t0, .int .i64 m0, .int .u8 V], .int .i64 y, .bool o] w fun e w' => e = .returned (.tuple #[.agg #[.int .i64 n', .int .i64 d', .int .u8 p1, .int .i64 a', .int .i64 u', .int .i64 t1, .int .i64 x1, .bool g'], .int .i64 0]) ∧ Below w.heap.size w w'))
    (hy0 : 0 ≤ y) (hy1 : y < 65536) (hh : 0 ≤ h ∧ h < 256) (hlt : h < 128) (hv : V ≠ 0) (hp : p1 ≠ p') :
    Calls Try.prog 6 #[.int .u8 q, .int .u32 a, .int .u8 t, .agg #[.int .u8 k0, .int .i64 s0, .int .i64 c0, .int .i64 t0, .int .i64 m0, .int .u8 V], .int .u8 h, .int .u16 y, .bool o] w fun e w' => e = .returned (.bool true) ∧ Below w.heap.size w w' := by
  obtain ⟨hh0, hh1⟩ := hh
  have dh : decide (128 ≤ h) = false := by simp; omega
  have dv : (V == 0) = false := by simpa using hv
  have dw : (V != 0) = true := by simpa using hv
  have dp : (p1 == p') = false := by simpa using hp
  clear hlt hv hp
  go_enter Try.func6, Try.ntmps6
  go_wp2_with (fail)
  refine (HC.out _).mono ?_
  rintro e w1 ⟨rfl, hb⟩
  obtain ⟨hw, z0, e1⟩ := keep0 hb
  rw [e1]
  have HW1 := Lib.hid hw
  clear e1 hb hw
  go_wp2_with (fail)
  refine (HA.out _).mono ?_
  rintro e w2 ⟨rfl, hb⟩
  obtain ⟨hw, z1, z2, e1⟩ := keep1_alloc HW1.out (Nat.le_refl _) z0 hb
  rw [e1]
  have HW2 := Lib.hid hw
  clear e1 hb hw HW1
  go_wp2_with (fail)
  refine (HH.out _).mono ?_
  rintro e w3 ⟨rfl, hb⟩
  have ha3 : w3.heap[w.heap.size]? = some (.cells #[.int .u8 k0, .int .i64 s0, .int .i64 c0, .int .i64 t0, .int .i64 m0, .int .u8 V] 35 (0, 0)) := below_block hb (by (repeat (first | assumption | (with_reducible refine alloc_at ?_; (focus (first | omega | (simp; done) | (simp; omega)))) | (with_reducible refine boxed_at ?_; (focus (first | omega | (simp; done) | (simp; omega)))) | (with_reducible refine alloc_old ?_ ?_; (focus (first | omega | (simp; done) | (simp; omega)))) | (with_reducible refine boxed_old ?_ ?_; (focus (first | omega | (simp; done) | (simp; omega)))) | (with_reducible refine drew_old ?_))))
  have hc3 : w3.heap[w1.heap.size]? = some (.cells #[.int .i64 n', .int .i64 d', .int .u8 p', .int .i64 a', .int .i64 u', .int .i64 t', .int .i64 x', .bool g'] 25 (0, 0)) := below_block hb (by (repeat (first | assumption | (with_reducible refine alloc_at ?_; (focus (first | omega | (simp; done) | (simp; omega)))) | (with_reducible refine boxed_at ?_; (focus (first | omega | (simp; done) | (simp; omega)))) | (with_reducible refine alloc_old ?_ ?_; (focus (first | omega | (simp; done) | (simp; omega)))) | (with_reducible refine boxed_old ?_ ?_; (focus (first | omega | (simp; done) | (simp; omega)))) | (with_reducible refine drew_old ?_))))
  have hn3 : w3.heap[w2.heap.size]? = some (.cells #[.int .u8 k0, .int .i64 s0, .int .i64 c0, .int .i64 t0, .int .i64 m0, .int .u8 0] 35 (0, 0)) := below_block hb (by (repeat (first | assumption | (with_reducible refine alloc_at ?_; (focus (first | omega | (simp; done) | (simp; omega)))) | (with_reducible refine boxed_at ?_; (focus (first | omega | (simp; done) | (simp; omega)))) | (with_reducible refine alloc_old ?_ ?_; (focus (first | omega | (simp; done) | (simp; omega)))) | (with_reducible refine boxed_old ?_ ?_; (focus (first | omega | (simp; done) | (simp; omega)))) | (with_reducible refine drew_old ?_))))
  have hm3 : w3.heap[w2.heap.size + 1]? = some (.cells #[.int .u8 k0, .int .i64 s0, .int .i64 c0, .int .i64 t0, .int .i64 m0, .int .u8 0] 35 (0, 0)) := below_block hb (by (repeat (first | assumption | (with_reducible refine alloc_at ?_; (focus (first | omega | (simp; done) | (simp; omega)))) | (with_reducible refine boxed_at ?_; (focus (first | omega | (simp; done) | (simp; omega)))) | (with_reducible refine alloc_old ?_ ?_; (focus (first | omega | (simp; done) | (simp; omega)))) | (with_reducible refine boxed_old ?_ ?_; (focus (first | omega | (simp; done) | (simp; omega)))) | (with_reducible refine drew_old ?_))))
  have hb3 : Below w.heap.size w w3 := by
    refine Below.trans ?_ (hb.mono (by simp; omega))
    have hB2 := HW2.out
    (repeat (first | assumption | (with_reducible exact Below.refl _ _) | (with_reducible refine boxed_below ?_ ?_; rotate_left; (focus (first | omega | (simp; done) | (simp; omega)))) | (with_reducible refine Below.alloc ?_ ?_ _; rotate_left; (focus (first | omega | (simp; done) | (simp; omega)))) | (with_reducible refine Below.drew ?_)))
  have l1 : w.heap.size < w3.heap.size := (Array.getElem?_eq_some_iff.1 ha3).1
  have l2 : w1.heap.size < w3.heap.size := (Array.getElem?_eq_some_iff.1 hc3).1
  have l3 : w2.heap.size < w3.heap.size := (Array.getElem?_eq_some_iff.1 hn3).1
  have l4 : w2.heap.size + 1 < w3.heap.size := (Array.getElem?_eq_some_iff.1 hm3).1
  obtain ⟨i0, i1, i2, i3, i4, i5⟩ := cells6 ha3
  obtain ⟨j0, j1, j2, j3, j4, j5⟩ := cells6 hn3
  obtain ⟨f0, f1, f2, f3, f4, f5⟩ := cells6 hm3
  have HC3 := Lib.hid hc3
  have HB3 := Lib.hid hb3
  clear ha3 hc3 hn3 hm3 hb3 hb HW2
  go_wp2_with (fail)
  refine (cyawake_any _).mono ?_
  rintro e w4 ⟨rfl, hb⟩
  have hc4 : w4.heap[w1.heap.size]? = some (.cells #[.int .i64 n', .int .i64 d', .int .u8 p', .int .i64 a', .int .i64 u', .int .i64 t', .int .i64 x', .bool g'] 25 (0, 0)) := below_block hb (alloc_old l2 HC3.out)
  have hx4 : w4.heap[w3.heap.size]? = some (.cells #[.int .i64 n', .int .i64 d', .int .u8 p1, .int .i64 a', .int .i64 u', .int .i64 t1, .int .i64 x1, .bool g'] 25 (0, 0)) := below_block hb (alloc_at rfl)
  obtain ⟨r0, r1, r2, r3, r4, r5, r6, r7⟩ := cells8 hc4
  obtain ⟨b0, b1, b2, b3, b4, b5, b6, b7⟩ := cells8 hx4
  have HB4 := Lib.hid ((HB3.out.alloc (by exact HB3.out.size) _).trans (hb.mono (by simp; omega)))
  clear hb hc4 hx4 i0 i1 i2 i3 i4 i5 j0 j1 j2 j3 j4 j5 f0 f1 f2 f3 f4 f5
  go_wp2
  go_ret
  exact ⟨by simp, HB4.out⟩
end Go.Proofs.Ythilcefikhnilaa
