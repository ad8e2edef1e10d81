/-
  What becomes of a cycle behind an answer: the document's own Hear. Conditions: the day is far from int's ends; a try is above 0 where it is charging.
-/
import Derived.Test.YthilcefikhnilaaCyAsk
import Derived.Test.YthilcefikhnilaaBox3
namespace Go.Proofs.Ythilcefikhnilaa
set_option maxRecDepth 20000
open Go.ChangeShapes Go.WideShapes Go.ChangeAt Go.RowKit

theorem refback_is {n d p a u t x : Int} {g : Bool} : Cv.back ⟨n, d, p, a, u, t, x, g⟩ = ⟨n, d, if a = 0 then 9 else 6, a, u, t, x, g⟩ := by
  unfold Cv.back Cv.to
  by_cases h : a = 0
  · rw [if_pos h, if_pos h]
  · rw [if_neg h, if_neg h]
set_option maxHeartbeats 400000 in
theorem steps_any (w : World) : Calls Try.prog 26 #[] w fun e w' => e = .returned (.slice (some ⟨w.heap.size, 0, none⟩) 3 3) ∧ w' = w.alloc (.cells #[.int .i64 1, .int .i64 3, .int .i64 7] 3) := by
  go_enter Try.func26, Try.ntmps26
  go_wp2
  go_ret
  exact ⟨rfl, rfl⟩
theorem ask_v (s : Int) (c : Cv) : (c.ask s).v = 0 := by
  unfold Cv.ask; split <;> rfl
/-- Three blocks that are known, and one that is made; behind a call that makes new blocks alone. -/
theorem box3_alloc {w wx w2 : World} {B : Nat} {o : Obj} {cs0 cs1 cs2 : Array Value} {t0 t1 t2 : TypeId} (h0 : Below B w wx) (hz : B + 1 + 1 < wx.heap.size)
    (hb : Below ((boxed (boxed (boxed wx B cs0 t0) (B + 1) cs1 t1) (B + 1 + 1) cs2 t2).alloc o).heap.size ((boxed (boxed (boxed wx B cs0 t0) (B + 1) cs1 t1) (B + 1 + 1) cs2 t2).alloc o) w2) :
    Below B w w2 ∧ B + 1 + 1 < w2.heap.size ∧ w2 = boxed (boxed (boxed w2 B cs0 t0) (B + 1) cs1 t1) (B + 1 + 1) cs2 t2 :=
  box3_again h0 hz (((Below.refl _ _).alloc (Nat.le_refl _) _).trans (hb.mono (by simp)))
/-- Where it isn't heard: why. -/
theorem unheard {s : Int} {c : Cv} {m : Nv} (h : ¬c.Heard s m) : c.asks = false ∨ (c.asks = true ∧ m.v = 0) ∨ (c.asks = true ∧ m.v ≠ 0 ∧ (c.ask s).k ≠ m.k) ∨ (c.asks = true ∧ m.v ≠ 0 ∧ (c.ask s).k = m.k ∧ (c.ask s).s ≠ m.s) ∨ (c.asks = true ∧ m.v ≠ 0 ∧ (c.ask s).k = m.k ∧ (c.ask s).s = m.s ∧ (c.ask s).c ≠ m.c)
    ∨ (c.asks = true ∧ m.v ≠ 0 ∧ (c.ask s).k = m.k ∧ (c.ask s).s = m.s ∧ (c.ask s).c = m.c ∧ (c.ask s).t ≠ m.t) ∨ (c.asks = true ∧ m.v ≠ 0 ∧ (c.ask s).k = m.k ∧ (c.ask s).s = m.s ∧ (c.ask s).c = m.c ∧ (c.ask s).t = m.t ∧ (c.ask s).a ≠ m.a) := by
  have hv := ask_v s c
  unfold Cv.Heard at h
  unfold Cv.asks
  by_cases hk : Cy.kind c.p = 0
  · exact .inl (by simpa using hk)
  have e : decide (Cy.kind c.p ≠ 0) = true := by simpa using hk
  by_cases h0 : m.v = 0
  · exact .inr (.inl ⟨e, h0⟩)
  by_cases h1 : (c.ask s).k = m.k
  case neg => exact .inr (.inr (.inl ⟨e, h0, h1⟩))
  by_cases h2 : (c.ask s).s = m.s
  case neg => exact .inr (.inr (.inr (.inl ⟨e, h0, h1, h2⟩)))
  by_cases h3 : (c.ask s).c = m.c
  case neg => exact .inr (.inr (.inr (.inr (.inl ⟨e, h0, h1, h2, h3⟩))))
  by_cases h4 : (c.ask s).t = m.t
  case neg => exact .inr (.inr (.inr (.inr (.inr (.inl ⟨e, h0, h1, h2, h3, h4⟩)))))
  by_cases h5 : (c.ask s).a = m.a
  case neg => exact .inr (.inr (.inr (.inr (.inr (.inr ⟨e, h0, h1, h2, h3, h4, h5⟩)))))
  refine absurd ⟨hk, h0, ?_⟩ h
  rw [← h1, ← h2, ← h3, ← h4, ← h5, ← hv]
set_option maxHeartbeats 2000000 in
theorem refunheard_any (s : Int) (n d p a u t x : Int) (g : Bool) (K S C T M V : Int) (y : Int) (o : Bool) (w : World) (h : ¬Cv.Heard s ⟨n, d, p, a, u, t, x, g⟩ ⟨K, S, C, T, M, V⟩) : Calls Try.prog 22 #[.int .i64 s, .agg #[.int .i64 n, .int .i64 d, .int .u8 p, .int .i64 a, .int .i64 u, .int .i64 t, .int .i64 x, .bool g], .agg #[.int .u8 K, .int .i64 S, .int .i64 C, .int .i64 T, .int .i64 M, .int .u8 V], .int .i64 y, .bool o] w fun e w' => e = .returned (.tuple #[.agg #[.int .i64 n, .int .i64 d, .int .u8 p, .int .i64 a, .int .i64 u, .int .i64 t, .int .i64 x, .bool g], .bool false]) ∧ Below w.heap.size w w' := by
  have H := unheard h
  clear h
  obtain ⟨A, hA⟩ : ∃ A, Cv.ask s ⟨n, d, p, a, u, t, x, g⟩ = A := ⟨_, rfl⟩
  obtain ⟨b, hb⟩ : ∃ b, Cv.asks ⟨n, d, p, a, u, t, x, g⟩ = b := ⟨_, rfl⟩
  rw [hA, hb] at H
  have HA := Lib.hid hA
  have HB := Lib.hid hb
  clear hA hb
  obtain ⟨K', S', C', T', M', V'⟩ := A
  dsimp only at H
  rcases H with rfl | ⟨rfl, rfl⟩ | ⟨rfl, hv, h1⟩ | ⟨rfl, hv, rfl, h1⟩ | ⟨rfl, hv, rfl, rfl, h1⟩ | ⟨rfl, hv, rfl, rfl, rfl, h1⟩ | ⟨rfl, hv, rfl, rfl, rfl, rfl, h1⟩
  all_goals
    try have d0 : (V == 0) = false := by simpa using hv
    try have d1 : (K' == K) = false := by simpa using h1
    try have d2 : (S' == S) = false := by simpa using h1
    try have d3 : (C' == C) = false := by simpa using h1
    try have d4 : (T' == T) = false := by simpa using h1
    try have d5 : (M' == M) = false := by simpa using h1
    try clear hv
    try clear h1
    go_enter Try.func22, Try.ntmps22
    go_wp2_with (fail)
    refine (refasks_any _ _ _ _ _ _ _ _ _ _).mono ?_
    rw [HA.out, HB.out]
    dsimp only [Nv.arr]
    rintro e w1 ⟨rfl, hb⟩
    obtain ⟨hw, y0, y1, z0, e1⟩ := box3 hb
    rw [e1]
    have HW := Lib.hid hw
    clear e1 hb hw
    go_wp2
    refine bodyPost_ret (v := .tuple #[.agg #[.int .i64 n, .int .i64 d, .int .u8 p, .int .i64 a, .int .i64 u, .int .i64 t, .int .i64 x, .bool g], .bool false]) ?_ rfl ⟨rfl, (boxed_below (boxed_below (boxed_below HW.out (Nat.le_refl _)) (by omega)) (by omega)).alloc (by simp; omega) _⟩
    simp [results, Try.results22, go_sem, z0]
/-- A notice's block, cell by cell. -/
theorem cells6 {w : World} {b : Nat} {ty : TypeId} {fr : Nat × Nat} {K S C T M V : Int} (h : w.heap[b]? = some (.cells #[.int .u8 K, .int .i64 S, .int .i64 C, .int .i64 T, .int .i64 M, .int .u8 V] ty fr)) :
    w.cell? ⟨b, 0, none⟩ = some (.int .u8 K) ∧ w.cell? ⟨b, 1, none⟩ = some (.int .i64 S) ∧ w.cell? ⟨b, 2, none⟩ = some (.int .i64 C) ∧ w.cell? ⟨b, 3, none⟩ = some (.int .i64 T) ∧ w.cell? ⟨b, 4, none⟩ = some (.int .i64 M) ∧ w.cell? ⟨b, 5, none⟩ = some (.int .u8 V) := by
  refine ⟨?_, ?_, ?_, ?_, ?_, ?_⟩
  all_goals
    rw [cell_of_row _ _ _ _ _ _ h]
    rfl
end Go.Proofs.Ythilcefikhnilaa
