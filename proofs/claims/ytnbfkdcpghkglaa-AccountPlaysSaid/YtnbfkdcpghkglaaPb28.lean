/-
  What becomes of a cycle behind an answer: the document's own Hear. Conditions: the day is far from int's ends; a try is above 0 where it is charging.
-/
import Derived.Test.YtnbfkdcpghkglaaPb03
import Derived.Test.YtnbfkdcpghkglaaPb04
set_option linter.unusedSimpArgs false
set_option linter.unusedVariables false
namespace Go.Proofs.Ytnbfkdcpghkglaa
set_option maxRecDepth 20000
open Go.ChangeShapes Go.WideShapes Go.ChangeAt Go.RowKit

theorem refback_is {n d p a u t x : Int} {g : Bool} : Cv.back ⟨n, d, p, a, u, t, x, g⟩ = ⟨n, d, if a = 0 then 9 else 6, a, u, t, x, g⟩ := by
  unfold Cv.back Cv.to
  by_cases h : a = 0
  · rw [if_pos h, if_pos h]
  · rw [if_neg h, if_neg h]
set_option maxHeartbeats 400000 in
theorem steps_any (w : World) : Calls Try.prog 92 #[] w fun e w' => e = .returned (.slice (some ⟨w.heap.size, 0, none⟩) 3 3) ∧ w' = w.alloc (.cells #[.int .i64 1, .int .i64 3, .int .i64 7] 3) := by
  go_enter Try.func92, Try.ntmps92
  go_wp2
  go_ret
  exact ⟨rfl, rfl⟩
theorem ask_v (s : Int) (c : Cv) : (c.ask s).v = 0 := by
  unfold Cv.ask; split <;> rfl
/-- Three blocks that are known, and one that is made; behind a call that makes new blocks alone. -/
theorem box3_alloc {w wx w2 : World} {B : Nat} {o : Obj} {cs0 cs1 cs2 : Array Value} {t0 t1 t2 : TypeId} (h0 : Below B w wx) (hz : B + 1 + 1 < wx.heap.size)
    (hb : Below ((boxed (boxed (boxed wx B cs0 t0) (B + 1) cs1 t1) (B + 1 + 1) cs2 t2).alloc o).heap.size ((boxed (boxed (boxed wx B cs0 t0) (B + 1) cs1 t1) (B + 1 + 1) cs2 t2).alloc o) w2) :
    Below B w w2 ∧ B + 1 + 1 < w2.heap.size ∧ w2 = boxed (boxed (boxed w2 B cs0 t0) (B + 1) cs1 t1) (B + 1 + 1) cs2 t2 :=
  box3_again h0 hz (((Below.refl _ _).alloc (Nat.le_refl _) _).trans (hb.mono (by simp)))
/-- Where it isn't heard: why. -/
theorem unheard {s : Int} {c : Cv} {m : Nv} (h : ¬c.Heard s m) : c.asks = false ∨ (c.asks = true ∧ m.v = 0) ∨ (c.asks = true ∧ m.v ≠ 0 ∧ (c.ask s).k ≠ m.k) ∨ (c.asks = true ∧ m.v ≠ 0 ∧ (c.ask s).k = m.k ∧ (c.ask s).s ≠ m.s) ∨ (c.asks = true ∧ m.v ≠ 0 ∧ (c.ask s).k = m.k ∧ (c.ask s).s = m.s ∧ (c.ask s).c ≠ m.c)
    ∨ (c.asks = true ∧ m.v ≠ 0 ∧ (c.ask s).k = m.k ∧ (c.ask s).s = m.s ∧ (c.ask s).c = m.c ∧ (c.ask s).t ≠ m.t) ∨ (c.asks = true ∧ m.v ≠ 0 ∧ (c.ask s).k = m.k ∧ (c.ask s).s = m.s ∧ (c.ask s).c = m.c ∧ (c.ask s).t = m.t ∧ (c.ask s).a ≠ m.a) := by
  have hv := ask_v s c
  unfold Cv.Heard at h
  unfold Cv.asks
  by_cases hk : Cy.kind c.p = 0
  · exact .inl (by simpa using hk)
  have e : decide (Cy.kind c.p ≠ 0) = true := by simpa using hk
  by_cases h0 : m.v = 0
  · exact .inr (.inl ⟨e, h0⟩)
  by_cases h1 : (c.ask s).k = m.k
  case neg => exact .inr (.inr (.inl ⟨e, h0, h1⟩))
  by_cases h2 : (c.ask s).s = m.s
  case neg => exact .inr (.inr (.inr (.inl ⟨e, h0, h1, h2⟩)))
  by_cases h3 : (c.ask s).c = m.c
  case neg => exact .inr (.inr (.inr (.inr (.inl ⟨e, h0, h1, h2, h3⟩))))
  by_cases h4 : (c.ask s).t = m.t
  case neg => exact .inr (.inr (.inr (.inr (.inr (.inl ⟨e, h0, h1, h2, h3, h4⟩)))))
  by_cases h5 : (c.ask s).a = m.a
  case neg => exact .inr (.inr (.inr (.inr (.inr (.inr ⟨e, h0, h1, h2, h3, h4, h5⟩)))))
  refine absurd ⟨hk, h0, ?_⟩ h
  rw [← h1, ← h2, ← h3, ← h4, ← h5, ← hv]
set_option maxHeartbeats 2000000 in
theorem refunheard_any (s : Int) (n d p a u t x : Int) (g : Bool) (K S C T M V : Int) (y : Int) (o : Bool) (w : World) (h : ¬Cv.Heard s ⟨n, d, p, a, u, t, x, g⟩ ⟨K, S, C, T, M, V⟩) : Calls Try.prog 63 #[.int .i64 s, .agg #[.int .i64 n, .int .i64 d, .int .u8 p, .int .i64 a, .int .i64 u, .int .i64 t, .int .i64 x, .bool g], .agg #[.int .u8 K, .int .i64 S, .int .i64 C, .int .i64 T, .int .i64 M, .int .u8 V], .int .i64 y, .bool o] w fun e w' => e = .returned (.tuple #[.agg #[.int .i64 n, .int .i64 d, .int .u8 p, .int .i64 a, .int .i64 u, .int .i64 t, .int .i64 x, .bool g], .bool false]) ∧ Below w.heap.size w w' := by
  have H := unheard h
  clear h
  obtain ⟨A, hA⟩ : ∃ A, Cv.ask s ⟨n, d, p, a, u, t, x, g⟩ = A := ⟨_, rfl⟩
  obtain ⟨b, hb⟩ : ∃ b, Cv.asks ⟨n, d, p, a, u, t, x, g⟩ = b := ⟨_, rfl⟩
  rw [hA, hb] at H
  have HA := Lib.hid hA
  have HB := Lib.hid hb
  clear hA hb
  obtain ⟨K', S', C', T', M', V'⟩ := A
  dsimp only at H
  rcases H with rfl | ⟨rfl, rfl⟩ | ⟨rfl, hv, h1⟩ | ⟨rfl, hv, rfl, h1⟩ | ⟨rfl, hv, rfl, rfl, h1⟩ | ⟨rfl, hv, rfl, rfl, rfl, h1⟩ | ⟨rfl, hv, rfl, rfl, rfl, rfl, h1⟩
  all_goals
    try have d0 : (V == 0) = false := by simpa using hv
    try have d1 : (K' == K) = false := by simpa using h1
    try have d2 : (S' == S) = false := by simpa using h1
    try have d3 : (C' == C) = false := by simpa using h1
    try have d4 : (T' == T) = false := by simpa using h1
    try have d5 : (M' == M) = false := by simpa using h1
    try clear hv
    try clear h1
    go_enter Try.func63, Try.ntmps63
    go_wp2_with (fail)
    refine (refasks_any _ _ _ _ _ _ _ _ _ _).mono ?_
    rw [HA.out, HB.out]
    dsimp only [Nv.arr]
    rintro e w1 ⟨rfl, hb⟩
    obtain ⟨hw, y0, y1, z0, e1⟩ := box3 hb
    rw [e1]
    have HW := Lib.hid hw
    clear e1 hb hw
    go_wp2
    refine bodyPost_ret (v := .tuple #[.agg #[.int .i64 n, .int .i64 d, .int .u8 p, .int .i64 a, .int .i64 u, .int .i64 t, .int .i64 x, .bool g], .bool false]) ?_ rfl ⟨rfl, (boxed_below (boxed_below (boxed_below HW.out (Nat.le_refl _)) (by omega)) (by omega)).alloc (by simp; omega) _⟩
    simp [results, Try.results63, go_sem, z0]
/-- A notice's block, cell by cell. -/
theorem cells6 {w : World} {b : Nat} {ty : TypeId} {fr : Nat × Nat} {K S C T M V : Int} (h : w.heap[b]? = some (.cells #[.int .u8 K, .int .i64 S, .int .i64 C, .int .i64 T, .int .i64 M, .int .u8 V] ty fr)) :
    w.cell? ⟨b, 0, none⟩ = some (.int .u8 K) ∧ w.cell? ⟨b, 1, none⟩ = some (.int .i64 S) ∧ w.cell? ⟨b, 2, none⟩ = some (.int .i64 C) ∧ w.cell? ⟨b, 3, none⟩ = some (.int .i64 T) ∧ w.cell? ⟨b, 4, none⟩ = some (.int .i64 M) ∧ w.cell? ⟨b, 5, none⟩ = some (.int .u8 V) := by
  refine ⟨?_, ?_, ?_, ?_, ?_, ?_⟩
  all_goals
    rw [cell_of_row _ _ _ _ _ _ h]
    rfl
end Go.Proofs.Ytnbfkdcpghkglaa
/-
  The document's own Hear, of a charge that is put off. No conditions but those that each law names.
-/
namespace Go.Proofs.Ytnbfkdcpghkglaa
set_option maxRecDepth 20000
open Go.ChangeShapes Go.WideShapes Go.ChangeAt Go.RowKit

set_option maxHeartbeats 2000000 in
theorem refhear_2 (s n d a u t x : Int) (g : Bool) (K S C T M : Int) (y : Int) (o : Bool) (w : World) (HA : Hid (Cv.ask s ⟨n, d, 1, a, u, t, x, g⟩ = ⟨K, S, C, T, M, 0⟩)) (HB : Hid (Cv.asks ⟨n, d, 1, a, u, t, x, g⟩ = true)) (ht : 1 ≤ t) (hy0 : -4611686018427387904 ≤ y) (hy1 : y ≤ 4611686018427387904) :
    Calls Try.prog 63 #[.int .i64 s, .agg #[.int .i64 n, .int .i64 d, .int .u8 1, .int .i64 a, .int .i64 u, .int .i64 t, .int .i64 x, .bool g], .agg #[.int .u8 K, .int .i64 S, .int .i64 C, .int .i64 T, .int .i64 M, .int .u8 2], .int .i64 y, .bool o] w fun e w' => e = .returned (.tuple #[(Cv.charged ⟨n, d, 1, a, u, t, x, g⟩ 2 y o).val, .bool true]) ∧ Below w.heap.size w w' := by
  cases o
  case true =>
    rw [show Cv.charged ⟨n, d, 1, a, u, t, x, g⟩ 2 y true = ⟨n, d, 8, a, u, t, x, g⟩ by unfold Cv.charged; rw [if_neg (by omega), if_neg (fun g => by simp at g)]; rfl]
    clear hy0 hy1 ht
    go_enter Try.func63, Try.ntmps63
    go_wp2_with (fail)
    refine (refasks_any _ _ _ _ _ _ _ _ _ _).mono ?_
    rw [HA.out, HB.out]
    dsimp only [Nv.arr]
    rintro e w1 ⟨rfl, hb⟩
    obtain ⟨hw, y0, y1, z0, e1⟩ := box3 hb
    rw [e1]
    have HW := Lib.hid hw
    clear e1 hb hw
    go_wp2
    refine lane_start (ord := [0, 1, 2, 3, 4, 5, 6, 7, 8, 9, 10, 11, 12, 13]) (S := fun w' => w'.heap[w.heap.size]? = some (.cells #[.int .i64 n, .int .i64 d, .int .u8 8, .int .i64 a, .int .i64 u, .int .i64 t, .int .i64 x, .bool g] 69 (0, 0)) ∧ w'.heap[w.heap.size + 1]? = some (.cells #[.int .u8 K, .int .i64 S, .int .i64 C, .int .i64 T, .int .i64 M, .int .u8 2] 59 (0, 0))) rfl (by kernel_rfl) ⟨look0_1 z0, look1_1 z0⟩ (fun hHeld => ?_)
    repeat (first
      | (refine lane_take (v := ?_) rfl (by kernel_rfl) (by kernel_rfl) (by rfl) ?_ (by assumption) ?_; rotate_left; (focus (intro W hSw; obtain ⟨hSw, hSn⟩ := hSw; obtain ⟨s0, s1, s2, s3, s4, s5, s6, s7⟩ := cells8 hSw; obtain ⟨n0, n1, n2, n3, n4, n5⟩ := cells6 hSn; go_simp; try (with_reducible rfl))); simp only [Act.put, List.setIfInBounds_toArray, List.set_cons_zero, List.set_cons_succ])
      | (refine lane_skip rfl (by kernel_rfl) (by kernel_rfl) (by rfl) (by assumption) ?_; simp only [Act.put, List.setIfInBounds_toArray, List.set_cons_zero, List.set_cons_succ]))
    refine lane_end (by kernel_rfl) ?_
    go_wp2
    refine bodyPost_ret (v := .tuple #[.agg #[.int .i64 n, .int .i64 d, .int .u8 8, .int .i64 a, .int .i64 u, .int .i64 t, .int .i64 x, .bool g], .bool true]) ?_ rfl ⟨rfl, by have hB := HW.out; (repeat (first | assumption | (with_reducible exact Below.refl _ _) | (with_reducible refine boxed_below ?_ ?_; rotate_left; (focus (first | omega | (simp; done) | (simp; omega)))) | (with_reducible refine Below.alloc ?_ ?_ _; rotate_left; (focus (first | omega | (simp; done) | (simp; omega)))) | (with_reducible refine Below.drew ?_)))⟩
    simp [results, Try.results63, go_sem, z0]
  by_cases h4 : t < 4
  case neg =>
    have h5 : decide (t ≤ 3) = false := by simp; omega
    rw [show Cv.charged ⟨n, d, 1, a, u, t, x, g⟩ 2 y false = ⟨n, d, 8, a, u, t, x, g⟩ by unfold Cv.charged; rw [if_neg (by omega), if_neg (fun g => h4 g.2.2)]; rfl]
    clear h4 hy0 hy1 ht
    go_enter Try.func63, Try.ntmps63
    go_wp2_with (fail)
    refine (refasks_any _ _ _ _ _ _ _ _ _ _).mono ?_
    rw [HA.out, HB.out]
    dsimp only [Nv.arr]
    rintro e w1 ⟨rfl, hb⟩
    obtain ⟨hw, y0, y1, z0, e1⟩ := box3 hb
    rw [e1]
    have HW := Lib.hid hw
    clear e1 hb hw
    go_wp2
    refine lane_start (ord := [0, 1, 2, 3, 4, 5, 6, 7, 8, 9, 10, 11, 12, 13]) (S := fun w' => w'.heap[w.heap.size]? = some (.cells #[.int .i64 n, .int .i64 d, .int .u8 8, .int .i64 a, .int .i64 u, .int .i64 t, .int .i64 x, .bool g] 69 (0, 0)) ∧ w'.heap[w.heap.size + 1]? = some (.cells #[.int .u8 K, .int .i64 S, .int .i64 C, .int .i64 T, .int .i64 M, .int .u8 2] 59 (0, 0))) rfl (by kernel_rfl) ⟨look0_1 z0, look1_1 z0⟩ (fun hHeld => ?_)
    iterate 10 (refine lane_take (v := ?_) rfl (by kernel_rfl) (by kernel_rfl) (by rfl) ?_ (by assumption) ?_; rotate_left; (focus (intro W hSw; obtain ⟨hSw, hSn⟩ := hSw; obtain ⟨s0, s1, s2, s3, s4, s5, s6, s7⟩ := cells8 hSw; obtain ⟨n0, n1, n2, n3, n4, n5⟩ := cells6 hSn; go_simp; try (with_reducible rfl))); simp only [Act.put, List.setIfInBounds_toArray, List.set_cons_zero, List.set_cons_succ])
    refine lane_alone rfl (by kernel_rfl) (by rfl) (fun K hK => ?_)
    go_simp
    refine (steps_any _).mono ?_
    rintro e w2 ⟨rfl, rfl⟩
    refine hK _ _ ⟨alloc_old (by simp; omega) hHeld.1, alloc_old (by simp; omega) hHeld.2⟩ (fun hHeld => ?_)
    clear hK K
    iterate 3 (refine lane_take (v := ?_) rfl (by kernel_rfl) (by kernel_rfl) (by rfl) ?_ (by assumption) ?_; rotate_left; (focus (intro W hSw; obtain ⟨hSw, hSn⟩ := hSw; obtain ⟨s0, s1, s2, s3, s4, s5, s6, s7⟩ := cells8 hSw; obtain ⟨n0, n1, n2, n3, n4, n5⟩ := cells6 hSn; go_simp; try (with_reducible rfl))); simp only [Act.put, List.setIfInBounds_toArray, List.set_cons_zero, List.set_cons_succ])
    refine lane_end (by kernel_rfl) ?_
    go_wp2
    have z9 : w.heap.size + 1 + 1 < w1.heap.size + 1 := by omega
    refine bodyPost_ret (v := .tuple #[.agg #[.int .i64 n, .int .i64 d, .int .u8 8, .int .i64 a, .int .i64 u, .int .i64 t, .int .i64 x, .bool g], .bool true]) ?_ rfl ⟨rfl, by have hB := HW.out; (repeat (first | assumption | (with_reducible exact Below.refl _ _) | (with_reducible refine boxed_below ?_ ?_; rotate_left; (focus (first | omega | (simp; done) | (simp; omega)))) | (with_reducible refine Below.alloc ?_ ?_ _; rotate_left; (focus (first | omega | (simp; done) | (simp; omega)))) | (with_reducible refine Below.drew ?_)))⟩
    simp [results, Try.results63, go_sem, z0, z9]
  have h5 : decide (t ≤ 3) = true := by simp; omega
  have h6 : t = 1 ∨ t = 2 ∨ t = 3 := by omega
  clear h4 h5 ht
  rcases h6 with rfl | rfl | rfl
  · rw [show Cv.charged ⟨n, d, 1, a, u, 1, x, g⟩ 2 y false = ⟨n, d, 2, a, u, 1, y + 1, g⟩ from rfl]
    go_enter Try.func63, Try.ntmps63
    go_wp2_with (fail)
    refine (refasks_any _ _ _ _ _ _ _ _ _ _).mono ?_
    rw [HA.out, HB.out]
    dsimp only [Nv.arr]
    rintro e w1 ⟨rfl, hb⟩
    obtain ⟨hw, y0, y1, z0, e1⟩ := box3 hb
    rw [e1]
    have HW := Lib.hid hw
    clear e1 hb hw
    go_wp2
    refine lane_start (ord := [0, 1, 2, 3, 4, 5, 6, 7, 8, 9, 10, 11, 12, 13]) (S := fun w' => w'.heap[w.heap.size]? = some (.cells #[.int .i64 n, .int .i64 d, .int .u8 8, .int .i64 a, .int .i64 u, .int .i64 1, .int .i64 x, .bool g] 69 (0, 0)) ∧ w'.heap[w.heap.size + 1]? = some (.cells #[.int .u8 K, .int .i64 S, .int .i64 C, .int .i64 T, .int .i64 M, .int .u8 2] 59 (0, 0))) rfl (by kernel_rfl) ⟨look0_1 z0, look1_1 z0⟩ (fun hHeld => ?_)
    iterate 10 (refine lane_take (v := ?_) rfl (by kernel_rfl) (by kernel_rfl) (by rfl) ?_ (by assumption) ?_; rotate_left; (focus (intro W hSw; obtain ⟨hSw, hSn⟩ := hSw; obtain ⟨s0, s1, s2, s3, s4, s5, s6, s7⟩ := cells8 hSw; obtain ⟨n0, n1, n2, n3, n4, n5⟩ := cells6 hSn; go_simp; try (with_reducible rfl))); simp only [Act.put, List.setIfInBounds_toArray, List.set_cons_zero, List.set_cons_succ])
    refine lane_alone rfl (by kernel_rfl) (by rfl) (fun K hK => ?_)
    go_simp
    refine (steps_any _).mono ?_
    rintro e w2 ⟨rfl, rfl⟩
    refine hK _ _ ⟨alloc_old (by simp; omega) hHeld.1, alloc_old (by simp; omega) hHeld.2⟩ (fun hHeld => ?_)
    clear hK K
    iterate 3 (refine lane_take (v := ?_) rfl (by kernel_rfl) (by kernel_rfl) (by rfl) ?_ (by assumption) ?_; rotate_left; (focus (intro W hSw; obtain ⟨hSw, hSn⟩ := hSw; obtain ⟨s0, s1, s2, s3, s4, s5, s6, s7⟩ := cells8 hSw; obtain ⟨n0, n1, n2, n3, n4, n5⟩ := cells6 hSn; go_simp; try (with_reducible rfl))); simp only [Act.put, List.setIfInBounds_toArray, List.set_cons_zero, List.set_cons_succ])
    refine lane_end (by kernel_rfl) ?_
    go_wp2
    refine laneT_start (ord := [0, 2, 3, 4, 1, 5, 6, 7, 8, 9]) (t := 9) (S := fun w' => w'.heap[w.heap.size]? = some (.cells #[.int .i64 n, .int .i64 d, .int .u8 2, .int .i64 a, .int .i64 u, .int .i64 1, .int .i64 x, .bool g] 69 (0, 0)) ∧ w'.heap[w.heap.size + 1]? = some (.cells #[.int .u8 K, .int .i64 S, .int .i64 C, .int .i64 T, .int .i64 M, .int .u8 2] 59 (0, 0))) rfl (by kernel_rfl) ?_
    iterate 4 (refine laneT_take (v := ?_) rfl (by kernel_rfl) (by kernel_rfl) (by rfl) ?_ ⟨look0_2 z0, look1_2 z0⟩ ?_; rotate_left; (focus (intro W hSw; obtain ⟨hSw, hSn⟩ := hSw; obtain ⟨s0, s1, s2, s3, s4, s5, s6, s7⟩ := cells8 hSw; obtain ⟨n0, n1, n2, n3, n4, n5⟩ := cells6 hSn; go_simp; try (with_reducible rfl))); simp only [Act.put, List.setIfInBounds_toArray, List.set_cons_zero, List.set_cons_succ])
    refine laneT_alone rfl (by kernel_rfl) (by rfl) (fun K hK => ?_)
    go_simp
    refine (steps_any _).mono ?_
    rintro e w2 ⟨rfl, rfl⟩
    refine hK _ _ (fun _ => ⟨alloc_old (by simp; omega) (look0_2 z0), alloc_old (by simp; omega) (look1_2 z0)⟩) ?_
    clear hK K
    iterate 4
      refine laneT_alone rfl (by kernel_rfl) (by rfl) (fun K hK => ?_)
      go_simp
      refine hK _ _ (fun _ => ⟨alloc_old (by simp; omega) (look0_2 z0), alloc_old (by simp; omega) (look1_2 z0)⟩) ?_
      clear hK K
    have q1 : w.heap.size < w1.heap.size + 1 := by omega
    have q2 : w.heap.size < w1.heap.size + 1 + 1 := by omega
    refine laneT_alone rfl (by kernel_rfl) (by rfl) (fun K hK => ?_)
    go_simp
    refine hK _ _ (fun h => absurd rfl h) ?_
    clear hK K
    refine laneT_end (by kernel_rfl) ?_
    go_wp2
    have z9 : w.heap.size + 1 + 1 < w1.heap.size + 1 := by omega
    have z8 : w.heap.size + 1 + 1 < w1.heap.size + 1 + 1 := by omega
    refine bodyPost_ret (v := .tuple #[.agg #[.int .i64 n, .int .i64 d, .int .u8 2, .int .i64 a, .int .i64 u, .int .i64 1, .int .i64 (y + 1), .bool g], .bool true]) ?_ rfl ⟨rfl, by have hB := HW.out; (repeat (first | assumption | (with_reducible exact Below.refl _ _) | (with_reducible refine boxed_below ?_ ?_; rotate_left; (focus (first | omega | (simp; done) | (simp; omega)))) | (with_reducible refine Below.alloc ?_ ?_ _; rotate_left; (focus (first | omega | (simp; done) | (simp; omega)))) | (with_reducible refine Below.drew ?_)))⟩
    simp [results, Try.results63, go_sem, z0, z9, z8]
  · rw [show Cv.charged ⟨n, d, 1, a, u, 2, x, g⟩ 2 y false = ⟨n, d, 2, a, u, 2, y + 3, g⟩ from rfl]
    go_enter Try.func63, Try.ntmps63
    go_wp2_with (fail)
    refine (refasks_any _ _ _ _ _ _ _ _ _ _).mono ?_
    rw [HA.out, HB.out]
    dsimp only [Nv.arr]
    rintro e w1 ⟨rfl, hb⟩
    obtain ⟨hw, y0, y1, z0, e1⟩ := box3 hb
    rw [e1]
    have HW := Lib.hid hw
    clear e1 hb hw
    go_wp2
    refine lane_start (ord := [0, 1, 2, 3, 4, 5, 6, 7, 8, 9, 10, 11, 12, 13]) (S := fun w' => w'.heap[w.heap.size]? = some (.cells #[.int .i64 n, .int .i64 d, .int .u8 8, .int .i64 a, .int .i64 u, .int .i64 2, .int .i64 x, .bool g] 69 (0, 0)) ∧ w'.heap[w.heap.size + 1]? = some (.cells #[.int .u8 K, .int .i64 S, .int .i64 C, .int .i64 T, .int .i64 M, .int .u8 2] 59 (0, 0))) rfl (by kernel_rfl) ⟨look0_1 z0, look1_1 z0⟩ (fun hHeld => ?_)
    iterate 10 (refine lane_take (v := ?_) rfl (by kernel_rfl) (by kernel_rfl) (by rfl) ?_ (by assumption) ?_; rotate_left; (focus (intro W hSw; obtain ⟨hSw, hSn⟩ := hSw; obtain ⟨s0, s1, s2, s3, s4, s5, s6, s7⟩ := cells8 hSw; obtain ⟨n0, n1, n2, n3, n4, n5⟩ := cells6 hSn; go_simp; try (with_reducible rfl))); simp only [Act.put, List.setIfInBounds_toArray, List.set_cons_zero, List.set_cons_succ])
    refine lane_alone rfl (by kernel_rfl) (by rfl) (fun K hK => ?_)
    go_simp
    refine (steps_any _).mono ?_
    rintro e w2 ⟨rfl, rfl⟩
    refine hK _ _ ⟨alloc_old (by simp; omega) hHeld.1, alloc_old (by simp; omega) hHeld.2⟩ (fun hHeld => ?_)
    clear hK K
    iterate 3 (refine lane_take (v := ?_) rfl (by kernel_rfl) (by kernel_rfl) (by rfl) ?_ (by assumption) ?_; rotate_left; (focus (intro W hSw; obtain ⟨hSw, hSn⟩ := hSw; obtain ⟨s0, s1, s2, s3, s4, s5, s6, s7⟩ := cells8 hSw; obtain ⟨n0, n1, n2, n3, n4, n5⟩ := cells6 hSn; go_simp; try (with_reducible rfl))); simp only [Act.put, List.setIfInBounds_toArray, List.set_cons_zero, List.set_cons_succ])
    refine lane_end (by kernel_rfl) ?_
    go_wp2
    refine laneT_start (ord := [0, 2, 3, 4, 1, 5, 6, 7, 8, 9]) (t := 9) (S := fun w' => w'.heap[w.heap.size]? = some (.cells #[.int .i64 n, .int .i64 d, .int .u8 2, .int .i64 a, .int .i64 u, .int .i64 2, .int .i64 x, .bool g] 69 (0, 0)) ∧ w'.heap[w.heap.size + 1]? = some (.cells #[.int .u8 K, .int .i64 S, .int .i64 C, .int .i64 T, .int .i64 M, .int .u8 2] 59 (0, 0))) rfl (by kernel_rfl) ?_
    iterate 4 (refine laneT_take (v := ?_) rfl (by kernel_rfl) (by kernel_rfl) (by rfl) ?_ ⟨look0_2 z0, look1_2 z0⟩ ?_; rotate_left; (focus (intro W hSw; obtain ⟨hSw, hSn⟩ := hSw; obtain ⟨s0, s1, s2, s3, s4, s5, s6, s7⟩ := cells8 hSw; obtain ⟨n0, n1, n2, n3, n4, n5⟩ := cells6 hSn; go_simp; try (with_reducible rfl))); simp only [Act.put, List.setIfInBounds_toArray, List.set_cons_zero, List.set_cons_succ])
    refine laneT_alone rfl (by kernel_rfl) (by rfl) (fun K hK => ?_)
    go_simp
    refine (steps_any _).mono ?_
    rintro e w2 ⟨rfl, rfl⟩
    refine hK _ _ (fun _ => ⟨alloc_old (by simp; omega) (look0_2 z0), alloc_old (by simp; omega) (look1_2 z0)⟩) ?_
    clear hK K
    iterate 4
      refine laneT_alone rfl (by kernel_rfl) (by rfl) (fun K hK => ?_)
      go_simp
      refine hK _ _ (fun _ => ⟨alloc_old (by simp; omega) (look0_2 z0), alloc_old (by simp; omega) (look1_2 z0)⟩) ?_
      clear hK K
    have q1 : w.heap.size < w1.heap.size + 1 := by omega
    have q2 : w.heap.size < w1.heap.size + 1 + 1 := by omega
    refine laneT_alone rfl (by kernel_rfl) (by rfl) (fun K hK => ?_)
    go_simp
    refine hK _ _ (fun h => absurd rfl h) ?_
    clear hK K
    refine laneT_end (by kernel_rfl) ?_
    go_wp2
    have z9 : w.heap.size + 1 + 1 < w1.heap.size + 1 := by omega
    have z8 : w.heap.size + 1 + 1 < w1.heap.size + 1 + 1 := by omega
    refine bodyPost_ret (v := .tuple #[.agg #[.int .i64 n, .int .i64 d, .int .u8 2, .int .i64 a, .int .i64 u, .int .i64 2, .int .i64 (y + 3), .bool g], .bool true]) ?_ rfl ⟨rfl, by have hB := HW.out; (repeat (first | assumption | (with_reducible exact Below.refl _ _) | (with_reducible refine boxed_below ?_ ?_; rotate_left; (focus (first | omega | (simp; done) | (simp; omega)))) | (with_reducible refine Below.alloc ?_ ?_ _; rotate_left; (focus (first | omega | (simp; done) | (simp; omega)))) | (with_reducible refine Below.drew ?_)))⟩
    simp [results, Try.results63, go_sem, z0, z9, z8]
  · rw [show Cv.charged ⟨n, d, 1, a, u, 3, x, g⟩ 2 y false = ⟨n, d, 2, a, u, 3, y + 7, g⟩ from rfl]
    go_enter Try.func63, Try.ntmps63
    go_wp2_with (fail)
    refine (refasks_any _ _ _ _ _ _ _ _ _ _).mono ?_
    rw [HA.out, HB.out]
    dsimp only [Nv.arr]
    rintro e w1 ⟨rfl, hb⟩
    obtain ⟨hw, y0, y1, z0, e1⟩ := box3 hb
    rw [e1]
    have HW := Lib.hid hw
    clear e1 hb hw
    go_wp2
    refine lane_start (ord := [0, 1, 2, 3, 4, 5, 6, 7, 8, 9, 10, 11, 12, 13]) (S := fun w' => w'.heap[w.heap.size]? = some (.cells #[.int .i64 n, .int .i64 d, .int .u8 8, .int .i64 a, .int .i64 u, .int .i64 3, .int .i64 x, .bool g] 69 (0, 0)) ∧ w'.heap[w.heap.size + 1]? = some (.cells #[.int .u8 K, .int .i64 S, .int .i64 C, .int .i64 T, .int .i64 M, .int .u8 2] 59 (0, 0))) rfl (by kernel_rfl) ⟨look0_1 z0, look1_1 z0⟩ (fun hHeld => ?_)
    iterate 10 (refine lane_take (v := ?_) rfl (by kernel_rfl) (by kernel_rfl) (by rfl) ?_ (by assumption) ?_; rotate_left; (focus (intro W hSw; obtain ⟨hSw, hSn⟩ := hSw; obtain ⟨s0, s1, s2, s3, s4, s5, s6, s7⟩ := cells8 hSw; obtain ⟨n0, n1, n2, n3, n4, n5⟩ := cells6 hSn; go_simp; try (with_reducible rfl))); simp only [Act.put, List.setIfInBounds_toArray, List.set_cons_zero, List.set_cons_succ])
    refine lane_alone rfl (by kernel_rfl) (by rfl) (fun K hK => ?_)
    go_simp
    refine (steps_any _).mono ?_
    rintro e w2 ⟨rfl, rfl⟩
    refine hK _ _ ⟨alloc_old (by simp; omega) hHeld.1, alloc_old (by simp; omega) hHeld.2⟩ (fun hHeld => ?_)
    clear hK K
    iterate 3 (refine lane_take (v := ?_) rfl (by kernel_rfl) (by kernel_rfl) (by rfl) ?_ (by assumption) ?_; rotate_left; (focus (intro W hSw; obtain ⟨hSw, hSn⟩ := hSw; obtain ⟨s0, s1, s2, s3, s4, s5, s6, s7⟩ := cells8 hSw; obtain ⟨n0, n1, n2, n3, n4, n5⟩ := cells6 hSn; go_simp; try (with_reducible rfl))); simp only [Act.put, List.setIfInBounds_toArray, List.set_cons_zero, List.set_cons_succ])
    refine lane_end (by kernel_rfl) ?_
    go_wp2
    refine laneT_start (ord := [0, 2, 3, 4, 1, 5, 6, 7, 8, 9]) (t := 9) (S := fun w' => w'.heap[w.heap.size]? = some (.cells #[.int .i64 n, .int .i64 d, .int .u8 2, .int .i64 a, .int .i64 u, .int .i64 3, .int .i64 x, .bool g] 69 (0, 0)) ∧ w'.heap[w.heap.size + 1]? = some (.cells #[.int .u8 K, .int .i64 S, .int .i64 C, .int .i64 T, .int .i64 M, .int .u8 2] 59 (0, 0))) rfl (by kernel_rfl) ?_
    iterate 4 (refine laneT_take (v := ?_) rfl (by kernel_rfl) (by kernel_rfl) (by rfl) ?_ ⟨look0_2 z0, look1_2 z0⟩ ?_; rotate_left; (focus (intro W hSw; obtain ⟨hSw, hSn⟩ := hSw; obtain ⟨s0, s1, s2, s3, s4, s5, s6, s7⟩ := cells8 hSw; obtain ⟨n0, n1, n2, n3, n4, n5⟩ := cells6 hSn; go_simp; try (with_reducible rfl))); simp only [Act.put, List.setIfInBounds_toArray, List.set_cons_zero, List.set_cons_succ])
    refine laneT_alone rfl (by kernel_rfl) (by rfl) (fun K hK => ?_)
    go_simp
    refine (steps_any _).mono ?_
    rintro e w2 ⟨rfl, rfl⟩
    refine hK _ _ (fun _ => ⟨alloc_old (by simp; omega) (look0_2 z0), alloc_old (by simp; omega) (look1_2 z0)⟩) ?_
    clear hK K
    iterate 4
      refine laneT_alone rfl (by kernel_rfl) (by rfl) (fun K hK => ?_)
      go_simp
      refine hK _ _ (fun _ => ⟨alloc_old (by simp; omega) (look0_2 z0), alloc_old (by simp; omega) (look1_2 z0)⟩) ?_
      clear hK K
    have q1 : w.heap.size < w1.heap.size + 1 := by omega
    have q2 : w.heap.size < w1.heap.size + 1 + 1 := by omega
    refine laneT_alone rfl (by kernel_rfl) (by rfl) (fun K hK => ?_)
    go_simp
    refine hK _ _ (fun h => absurd rfl h) ?_
    clear hK K
    refine laneT_end (by kernel_rfl) ?_
    go_wp2
    have z9 : w.heap.size + 1 + 1 < w1.heap.size + 1 := by omega
    have z8 : w.heap.size + 1 + 1 < w1.heap.size + 1 + 1 := by omega
    refine bodyPost_ret (v := .tuple #[.agg #[.int .i64 n, .int .i64 d, .int .u8 2, .int .i64 a, .int .i64 u, .int .i64 3, .int .i64 (y + 7), .bool g], .bool true]) ?_ rfl ⟨rfl, by have hB := HW.out; (repeat (first | assumption | (with_reducible exact Below.refl _ _) | (with_reducible refine boxed_below ?_ ?_; rotate_left; (focus (first | omega | (simp; done) | (simp; omega)))) | (with_reducible refine Below.alloc ?_ ?_ _; rotate_left; (focus (first | omega | (simp; done) | (simp; omega)))) | (with_reducible refine Below.drew ?_)))⟩
    simp [results, Try.results63, go_sem, z0, z9, z8]
end Go.Proofs.Ytnbfkdcpghkglaa
/-
  The document's own Hear, of a charge. No conditions but those that each law names.
-/
namespace Go.Proofs.Ytnbfkdcpghkglaa
set_option maxRecDepth 20000
open Go.ChangeShapes Go.WideShapes Go.ChangeAt Go.RowKit

set_option maxHeartbeats 2000000 in
theorem refhear_1 (s n d a u t x : Int) (g : Bool) (K S C T M V : Int) (y : Int) (o : Bool) (w : World) (HA : Hid (Cv.ask s ⟨n, d, 1, a, u, t, x, g⟩ = ⟨K, S, C, T, M, 0⟩)) (HB : Hid (Cv.asks ⟨n, d, 1, a, u, t, x, g⟩ = true)) (hv : V ≠ 0) (ht : 1 ≤ t) (hy0 : -4611686018427387904 ≤ y) (hy1 : y ≤ 4611686018427387904) :
    Calls Try.prog 63 #[.int .i64 s, .agg #[.int .i64 n, .int .i64 d, .int .u8 1, .int .i64 a, .int .i64 u, .int .i64 t, .int .i64 x, .bool g], .agg #[.int .u8 K, .int .i64 S, .int .i64 C, .int .i64 T, .int .i64 M, .int .u8 V], .int .i64 y, .bool o] w fun e w' => e = .returned (.tuple #[(Cv.charged ⟨n, d, 1, a, u, t, x, g⟩ V y o).val, .bool true]) ∧ Below w.heap.size w w' := by
  have d0 : (V == 0) = false := by simpa using hv
  by_cases h : V = 1
  · subst h
    clear hv hy0 hy1 ht
    cases o
    · cases g
      · rw [show Cv.charged ⟨n, d, 1, a, u, t, x, false⟩ 1 y false = ⟨n, d, 7, a, u, t, x, false⟩ from rfl]
        go_enter Try.func63, Try.ntmps63
        go_wp2_with (fail)
        refine (refasks_any _ _ _ _ _ _ _ _ _ _).mono ?_
        rw [HA.out, HB.out]
        dsimp only [Nv.arr]
        rintro e w1 ⟨rfl, hb⟩
        obtain ⟨hw, y0, y1, z0, e1⟩ := box3 hb
        rw [e1]
        have HW := Lib.hid hw
        clear e1 hb hw
        go_wp2
        refine bodyPost_ret (v := .tuple #[.agg #[.int .i64 n, .int .i64 d, .int .u8 7, .int .i64 a, .int .i64 u, .int .i64 t, .int .i64 x, .bool false], .bool true]) ?_ rfl ⟨rfl, (boxed_below (boxed_below (boxed_below HW.out (Nat.le_refl _)) (by omega)) (by omega)).alloc (by simp; omega) _⟩
        simp [results, Try.results63, go_sem, z0]
      · rw [show Cv.charged ⟨n, d, 1, a, u, t, x, true⟩ 1 y false = ⟨n, d, 3, a, u, t, x, true⟩ from rfl]
        go_enter Try.func63, Try.ntmps63
        go_wp2_with (fail)
        refine (refasks_any _ _ _ _ _ _ _ _ _ _).mono ?_
        rw [HA.out, HB.out]
        dsimp only [Nv.arr]
        rintro e w1 ⟨rfl, hb⟩
        obtain ⟨hw, y0, y1, z0, e1⟩ := box3 hb
        rw [e1]
        have HW := Lib.hid hw
        clear e1 hb hw
        go_wp2
        refine bodyPost_ret (v := .tuple #[.agg #[.int .i64 n, .int .i64 d, .int .u8 3, .int .i64 a, .int .i64 u, .int .i64 t, .int .i64 x, .bool true], .bool true]) ?_ rfl ⟨rfl, (boxed_below (boxed_below (boxed_below HW.out (Nat.le_refl _)) (by omega)) (by omega)).alloc (by simp; omega) _⟩
        simp [results, Try.results63, go_sem, z0]
    · rw [show Cv.charged ⟨n, d, 1, a, u, t, x, g⟩ 1 y true = Cv.back ⟨n, d, 1, a, u, t, x, g⟩ from rfl, refback_is]
      obtain ⟨q, hq⟩ : ∃ q, (if a = 0 then (9 : Int) else 6) = q := ⟨_, rfl⟩
      have HQ := Lib.hid hq
      rw [hq]
      clear hq
      go_enter Try.func63, Try.ntmps63
      go_wp2_with (fail)
      refine (refasks_any _ _ _ _ _ _ _ _ _ _).mono ?_
      rw [HA.out, HB.out]
      dsimp only [Nv.arr]
      rintro e w1 ⟨rfl, hb⟩
      obtain ⟨hw, y0, y1, z0, e1⟩ := box3 hb
      rw [e1]
      have HW := Lib.hid hw
      clear e1 hb hw
      go_wp2_with (fail)
      refine (refback_any _ _ _ _ _ _ _ _ _).mono ?_
      rw [HQ.out]
      rintro e w2 ⟨rfl, hb⟩
      obtain ⟨hw, z1, e1⟩ := box3_alloc HW.out z0 hb
      have x1 : w.heap.size + 1 < w2.heap.size := by omega
      have x0 : w.heap.size < w2.heap.size := by omega
      rw [e1]
      have HW2 := Lib.hid hw
      clear e1 hb hw HW
      go_wp2
      refine bodyPost_ret (v := .tuple #[.agg #[.int .i64 n, .int .i64 d, .int .u8 q, .int .i64 a, .int .i64 u, .int .i64 t, .int .i64 x, .bool g], .bool true]) ?_ rfl ⟨rfl, boxed_below (boxed_below (boxed_below HW2.out (Nat.le_refl _)) (by omega)) (by omega)⟩
      simp [results, Try.results63, go_sem, z1]
  have h1 : (V == 1) = false := by simpa using h
  by_cases h2 : V = 2
  case neg =>
    have h3 : (V == 2) = false := by simpa using h2
    rw [show Cv.charged ⟨n, d, 1, a, u, t, x, g⟩ V y o = ⟨n, d, 8, a, u, t, x, g⟩ by unfold Cv.charged; rw [if_neg h, if_neg (fun g => h2 g.1)]; rfl]
    clear h h2 hv hy0 hy1 ht
    go_enter Try.func63, Try.ntmps63
    go_wp2_with (fail)
    refine (refasks_any _ _ _ _ _ _ _ _ _ _).mono ?_
    rw [HA.out, HB.out]
    dsimp only [Nv.arr]
    rintro e w1 ⟨rfl, hb⟩
    obtain ⟨hw, y0, y1, z0, e1⟩ := box3 hb
    rw [e1]
    have HW := Lib.hid hw
    clear e1 hb hw
    go_wp2
    refine lane_start (ord := [0, 1, 2, 3, 4, 5, 6, 7, 8, 9, 10, 11, 12, 13]) (S := fun w' => w'.heap[w.heap.size]? = some (.cells #[.int .i64 n, .int .i64 d, .int .u8 8, .int .i64 a, .int .i64 u, .int .i64 t, .int .i64 x, .bool g] 69 (0, 0)) ∧ w'.heap[w.heap.size + 1]? = some (.cells #[.int .u8 K, .int .i64 S, .int .i64 C, .int .i64 T, .int .i64 M, .int .u8 V] 59 (0, 0))) rfl (by kernel_rfl) ⟨look0_1 z0, look1_1 z0⟩ (fun hHeld => ?_)
    repeat (first
      | (refine lane_take (v := ?_) rfl (by kernel_rfl) (by kernel_rfl) (by rfl) ?_ (by assumption) ?_; rotate_left; (focus (intro W hSw; obtain ⟨hSw, hSn⟩ := hSw; obtain ⟨s0, s1, s2, s3, s4, s5, s6, s7⟩ := cells8 hSw; obtain ⟨n0, n1, n2, n3, n4, n5⟩ := cells6 hSn; go_simp; try (with_reducible rfl))); simp only [Act.put, List.setIfInBounds_toArray, List.set_cons_zero, List.set_cons_succ])
      | (refine lane_skip rfl (by kernel_rfl) (by kernel_rfl) (by rfl) (by assumption) ?_; simp only [Act.put, List.setIfInBounds_toArray, List.set_cons_zero, List.set_cons_succ]))
    refine lane_end (by kernel_rfl) ?_
    go_wp2
    refine bodyPost_ret (v := .tuple #[.agg #[.int .i64 n, .int .i64 d, .int .u8 8, .int .i64 a, .int .i64 u, .int .i64 t, .int .i64 x, .bool g], .bool true]) ?_ rfl ⟨rfl, by have hB := HW.out; (repeat (first | assumption | (with_reducible exact Below.refl _ _) | (with_reducible refine boxed_below ?_ ?_; rotate_left; (focus (first | omega | (simp; done) | (simp; omega)))) | (with_reducible refine Below.alloc ?_ ?_ _; rotate_left; (focus (first | omega | (simp; done) | (simp; omega)))) | (with_reducible refine Below.drew ?_)))⟩
    simp [results, Try.results63, go_sem, z0]
  subst h2
  exact refhear_2 s n d a u t x g K S C T M y o w HA HB ht hy0 hy1
end Go.Proofs.Ytnbfkdcpghkglaa
/-
  The document's own Hear, of other phases. No conditions but those that each law names.
-/
namespace Go.Proofs.Ytnbfkdcpghkglaa
set_option maxRecDepth 20000
open Go.ChangeShapes Go.WideShapes Go.ChangeAt Go.RowKit

set_option maxHeartbeats 2000000 in
theorem refhear_3 (s n d a u t x : Int) (g : Bool) (K S C T M V : Int) (y : Int) (o : Bool) (w : World) (HA : Hid (Cv.ask s ⟨n, d, 3, a, u, t, x, g⟩ = ⟨K, S, C, T, M, 0⟩)) (HB : Hid (Cv.asks ⟨n, d, 3, a, u, t, x, g⟩ = true)) (hv : V ≠ 0) :
    Calls Try.prog 63 #[.int .i64 s, .agg #[.int .i64 n, .int .i64 d, .int .u8 3, .int .i64 a, .int .i64 u, .int .i64 t, .int .i64 x, .bool g], .agg #[.int .u8 K, .int .i64 S, .int .i64 C, .int .i64 T, .int .i64 M, .int .u8 V], .int .i64 y, .bool o] w fun e w' => e = .returned (.tuple #[(Cv.allocated ⟨n, d, 3, a, u, t, x, g⟩ V o).val, .bool true]) ∧ Below w.heap.size w w' := by
  have d0 : (V == 0) = false := by simpa using hv
  by_cases h : V = 1
  · subst h
    clear hv
    cases o
    · rw [show Cv.allocated ⟨n, d, 3, a, u, t, x, g⟩ 1 false = ⟨n, d, 4, a, u, t, x, g⟩ from rfl]
      go_enter Try.func63, Try.ntmps63
      go_wp2_with (fail)
      refine (refasks_any _ _ _ _ _ _ _ _ _ _).mono ?_
      rw [HA.out, HB.out]
      dsimp only [Nv.arr]
      rintro e w1 ⟨rfl, hb⟩
      obtain ⟨hw, y0, y1, z0, e1⟩ := box3 hb
      rw [e1]
      have HW := Lib.hid hw
      clear e1 hb hw
      go_wp2
      refine bodyPost_ret (v := .tuple #[.agg #[.int .i64 n, .int .i64 d, .int .u8 4, .int .i64 a, .int .i64 u, .int .i64 t, .int .i64 x, .bool g], .bool true]) ?_ rfl ⟨rfl, (boxed_below (boxed_below (boxed_below HW.out (Nat.le_refl _)) (by omega)) (by omega)).alloc (by simp; omega) _⟩
      simp [results, Try.results63, go_sem, z0]
    · rw [show Cv.allocated ⟨n, d, 3, a, u, t, x, g⟩ 1 true = ⟨n, d, 5, a, u, t, x, g⟩ from rfl]
      go_enter Try.func63, Try.ntmps63
      go_wp2_with (fail)
      refine (refasks_any _ _ _ _ _ _ _ _ _ _).mono ?_
      rw [HA.out, HB.out]
      dsimp only [Nv.arr]
      rintro e w1 ⟨rfl, hb⟩
      obtain ⟨hw, y0, y1, z0, e1⟩ := box3 hb
      rw [e1]
      have HW := Lib.hid hw
      clear e1 hb hw
      go_wp2
      refine bodyPost_ret (v := .tuple #[.agg #[.int .i64 n, .int .i64 d, .int .u8 5, .int .i64 a, .int .i64 u, .int .i64 t, .int .i64 x, .bool g], .bool true]) ?_ rfl ⟨rfl, (boxed_below (boxed_below (boxed_below HW.out (Nat.le_refl _)) (by omega)) (by omega)).alloc (by simp; omega) _⟩
      simp [results, Try.results63, go_sem, z0]
  · have h1 : (V == 1) = false := by simpa using h
    rw [show Cv.allocated ⟨n, d, 3, a, u, t, x, g⟩ V o = Cv.back ⟨n, d, 3, a, u, t, x, g⟩ from if_neg h, refback_is]
    clear hv h
    obtain ⟨q, hq⟩ : ∃ q, (if a = 0 then (9 : Int) else 6) = q := ⟨_, rfl⟩
    have HQ := Lib.hid hq
    rw [hq]
    clear hq
    go_enter Try.func63, Try.ntmps63
    go_wp2_with (fail)
    refine (refasks_any _ _ _ _ _ _ _ _ _ _).mono ?_
    rw [HA.out, HB.out]
    dsimp only [Nv.arr]
    rintro e w1 ⟨rfl, hb⟩
    obtain ⟨hw, y0, y1, z0, e1⟩ := box3 hb
    rw [e1]
    have HW := Lib.hid hw
    clear e1 hb hw
    go_wp2_with (fail)
    refine (refback_any _ _ _ _ _ _ _ _ _).mono ?_
    rw [HQ.out]
    rintro e w2 ⟨rfl, hb⟩
    obtain ⟨hw, z1, e1⟩ := box3_alloc HW.out z0 hb
    have x1 : w.heap.size + 1 < w2.heap.size := by omega
    have x0 : w.heap.size < w2.heap.size := by omega
    rw [e1]
    have HW2 := Lib.hid hw
    clear e1 hb hw HW
    go_wp2
    refine bodyPost_ret (v := .tuple #[.agg #[.int .i64 n, .int .i64 d, .int .u8 q, .int .i64 a, .int .i64 u, .int .i64 t, .int .i64 x, .bool g], .bool true]) ?_ rfl ⟨rfl, boxed_below (boxed_below (boxed_below HW2.out (Nat.le_refl _)) (by omega)) (by omega)⟩
    simp [results, Try.results63, go_sem, z1]
set_option maxHeartbeats 2000000 in
theorem refhear_4 (s n d a u t x : Int) (g : Bool) (K S C T M V : Int) (y : Int) (o : Bool) (w : World) (HA : Hid (Cv.ask s ⟨n, d, 4, a, u, t, x, g⟩ = ⟨K, S, C, T, M, 0⟩)) (HB : Hid (Cv.asks ⟨n, d, 4, a, u, t, x, g⟩ = true)) (hv : V ≠ 0) :
    Calls Try.prog 63 #[.int .i64 s, .agg #[.int .i64 n, .int .i64 d, .int .u8 4, .int .i64 a, .int .i64 u, .int .i64 t, .int .i64 x, .bool g], .agg #[.int .u8 K, .int .i64 S, .int .i64 C, .int .i64 T, .int .i64 M, .int .u8 V], .int .i64 y, .bool o] w fun e w' => e = .returned (.tuple #[(Cv.shipped ⟨n, d, 4, a, u, t, x, g⟩ V).val, .bool true]) ∧ Below w.heap.size w w' := by
  have d0 : (V == 0) = false := by simpa using hv
  by_cases h : V = 1
  · subst h
    clear hv
    rw [show Cv.shipped ⟨n, d, 4, a, u, t, x, g⟩ 1 = ⟨n, d, 7, a, u, t, x, g⟩ from rfl]
    go_enter Try.func63, Try.ntmps63
    go_wp2_with (fail)
    refine (refasks_any _ _ _ _ _ _ _ _ _ _).mono ?_
    rw [HA.out, HB.out]
    dsimp only [Nv.arr]
    rintro e w1 ⟨rfl, hb⟩
    obtain ⟨hw, y0, y1, z0, e1⟩ := box3 hb
    rw [e1]
    have HW := Lib.hid hw
    clear e1 hb hw
    go_wp2
    refine bodyPost_ret (v := .tuple #[.agg #[.int .i64 n, .int .i64 d, .int .u8 7, .int .i64 a, .int .i64 u, .int .i64 t, .int .i64 x, .bool g], .bool true]) ?_ rfl ⟨rfl, (boxed_below (boxed_below (boxed_below HW.out (Nat.le_refl _)) (by omega)) (by omega)).alloc (by simp; omega) _⟩
    simp [results, Try.results63, go_sem, z0]
  · have h1 : (V == 1) = false := by simpa using h
    rw [show Cv.shipped ⟨n, d, 4, a, u, t, x, g⟩ V = ⟨n, d, 5, a, u, t, x, g⟩ from if_neg h]
    clear hv h
    go_enter Try.func63, Try.ntmps63
    go_wp2_with (fail)
    refine (refasks_any _ _ _ _ _ _ _ _ _ _).mono ?_
    rw [HA.out, HB.out]
    dsimp only [Nv.arr]
    rintro e w1 ⟨rfl, hb⟩
    obtain ⟨hw, y0, y1, z0, e1⟩ := box3 hb
    rw [e1]
    have HW := Lib.hid hw
    clear e1 hb hw
    go_wp2
    refine bodyPost_ret (v := .tuple #[.agg #[.int .i64 n, .int .i64 d, .int .u8 5, .int .i64 a, .int .i64 u, .int .i64 t, .int .i64 x, .bool g], .bool true]) ?_ rfl ⟨rfl, (boxed_below (boxed_below (boxed_below HW.out (Nat.le_refl _)) (by omega)) (by omega)).alloc (by simp; omega) _⟩
    simp [results, Try.results63, go_sem, z0]
set_option maxHeartbeats 2000000 in
theorem refhear_5 (s n d a u t x : Int) (g : Bool) (K S C T M V : Int) (y : Int) (o : Bool) (w : World) (HA : Hid (Cv.ask s ⟨n, d, 5, a, u, t, x, g⟩ = ⟨K, S, C, T, M, 0⟩)) (HB : Hid (Cv.asks ⟨n, d, 5, a, u, t, x, g⟩ = true)) (hv : V ≠ 0) :
    Calls Try.prog 63 #[.int .i64 s, .agg #[.int .i64 n, .int .i64 d, .int .u8 5, .int .i64 a, .int .i64 u, .int .i64 t, .int .i64 x, .bool g], .agg #[.int .u8 K, .int .i64 S, .int .i64 C, .int .i64 T, .int .i64 M, .int .u8 V], .int .i64 y, .bool o] w fun e w' => e = .returned (.tuple #[(Cv.back ⟨n, d, 5, a, u, t, x, g⟩).val, .bool true]) ∧ Below w.heap.size w w' := by
  have d0 : (V == 0) = false := by simpa using hv
  rw [refback_is]
  clear hv
  obtain ⟨q, hq⟩ : ∃ q, (if a = 0 then (9 : Int) else 6) = q := ⟨_, rfl⟩
  have HQ := Lib.hid hq
  rw [hq]
  clear hq
  go_enter Try.func63, Try.ntmps63
  go_wp2_with (fail)
  refine (refasks_any _ _ _ _ _ _ _ _ _ _).mono ?_
  rw [HA.out, HB.out]
  dsimp only [Nv.arr]
  rintro e w1 ⟨rfl, hb⟩
  obtain ⟨hw, y0, y1, z0, e1⟩ := box3 hb
  rw [e1]
  have HW := Lib.hid hw
  clear e1 hb hw
  go_wp2_with (fail)
  refine (refback_any _ _ _ _ _ _ _ _ _).mono ?_
  rw [HQ.out]
  rintro e w2 ⟨rfl, hb⟩
  obtain ⟨hw, z1, e1⟩ := box3_alloc HW.out z0 hb
  have x1 : w.heap.size + 1 < w2.heap.size := by omega
  have x0 : w.heap.size < w2.heap.size := by omega
  rw [e1]
  have HW2 := Lib.hid hw
  clear e1 hb hw HW
  go_wp2
  refine bodyPost_ret (v := .tuple #[.agg #[.int .i64 n, .int .i64 d, .int .u8 q, .int .i64 a, .int .i64 u, .int .i64 t, .int .i64 x, .bool g], .bool true]) ?_ rfl ⟨rfl, boxed_below (boxed_below (boxed_below HW2.out (Nat.le_refl _)) (by omega)) (by omega)⟩
  simp [results, Try.results63, go_sem, z1]
set_option maxHeartbeats 2000000 in
theorem refhear_6 (s n d a u t x : Int) (g : Bool) (K S C T M V : Int) (y : Int) (o : Bool) (w : World) (HA : Hid (Cv.ask s ⟨n, d, 6, a, u, t, x, g⟩ = ⟨K, S, C, T, M, 0⟩)) (HB : Hid (Cv.asks ⟨n, d, 6, a, u, t, x, g⟩ = true)) (hv : V ≠ 0) :
    Calls Try.prog 63 #[.int .i64 s, .agg #[.int .i64 n, .int .i64 d, .int .u8 6, .int .i64 a, .int .i64 u, .int .i64 t, .int .i64 x, .bool g], .agg #[.int .u8 K, .int .i64 S, .int .i64 C, .int .i64 T, .int .i64 M, .int .u8 V], .int .i64 y, .bool o] w fun e w' => e = .returned (.tuple #[(Cv.to ⟨n, d, 6, a, u, t, x, g⟩ 9).val, .bool true]) ∧ Below w.heap.size w w' := by
  have d0 : (V == 0) = false := by simpa using hv
  clear hv
  go_enter Try.func63, Try.ntmps63
  go_wp2_with (fail)
  refine (refasks_any _ _ _ _ _ _ _ _ _ _).mono ?_
  rw [HA.out, HB.out]
  dsimp only [Nv.arr]
  rintro e w1 ⟨rfl, hb⟩
  obtain ⟨hw, y0, y1, z0, e1⟩ := box3 hb
  rw [e1]
  have HW := Lib.hid hw
  clear e1 hb hw
  go_wp2
  refine bodyPost_ret (v := .tuple #[.agg #[.int .i64 n, .int .i64 d, .int .u8 9, .int .i64 a, .int .i64 u, .int .i64 t, .int .i64 x, .bool g], .bool true]) ?_ rfl ⟨rfl, (boxed_below (boxed_below (boxed_below HW.out (Nat.le_refl _)) (by omega)) (by omega)).alloc (by simp; omega) _⟩
  simp [results, Try.results63, go_sem, z0]
end Go.Proofs.Ytnbfkdcpghkglaa
/-
  What becomes of a cycle behind an answer: the document's own Hear, whole. Conditions: the day is far from int's ends; a try is above 0 where it is charging.
-/
namespace Go.Proofs.Ytnbfkdcpghkglaa
set_option maxRecDepth 20000
open Go.ChangeShapes Go.WideShapes Go.ChangeAt Go.RowKit

theorem refhear_any (s : Int) (n d p a u t x : Int) (g : Bool) (K S C T M V : Int) (y : Int) (o : Bool) (w : World) (ht : p = 1 → 1 ≤ t) (hy0 : -4611686018427387904 ≤ y) (hy1 : y ≤ 4611686018427387904) :
    Calls Try.prog 63 #[.int .i64 s, .agg #[.int .i64 n, .int .i64 d, .int .u8 p, .int .i64 a, .int .i64 u, .int .i64 t, .int .i64 x, .bool g], .agg #[.int .u8 K, .int .i64 S, .int .i64 C, .int .i64 T, .int .i64 M, .int .u8 V], .int .i64 y, .bool o] w fun e w' => e = .returned (.tuple #[(Cv.hear s ⟨n, d, p, a, u, t, x, g⟩ ⟨K, S, C, T, M, V⟩ y o).val, .bool (decide (Cv.Heard s ⟨n, d, p, a, u, t, x, g⟩ ⟨K, S, C, T, M, V⟩))]) ∧ Below w.heap.size w w' := by
  by_cases h : Cv.Heard s ⟨n, d, p, a, u, t, x, g⟩ ⟨K, S, C, T, M, V⟩
  case neg =>
    rw [show Cv.hear s ⟨n, d, p, a, u, t, x, g⟩ ⟨K, S, C, T, M, V⟩ y o = ⟨n, d, p, a, u, t, x, g⟩ from if_neg h, decide_eq_false h]
    exact refunheard_any s n d p a u t x g K S C T M V y o w h
  rw [show Cv.hear s ⟨n, d, p, a, u, t, x, g⟩ ⟨K, S, C, T, M, V⟩ y o = Cv.next ⟨n, d, p, a, u, t, x, g⟩ V y o from if_pos h, decide_eq_true h]
  obtain ⟨hk, hv, ha⟩ := h
  dsimp only at hk hv ha
  have HA := Lib.hid ha.symm
  have HB : Hid (Cv.asks ⟨n, d, p, a, u, t, x, g⟩ = true) := by
    show Cv.asks _ = true
    unfold Cv.asks
    simpa using hk
  clear ha
  revert HA HB
  refine kind_ways p ?_ ?_ ?_ ?_ ?_ (fun c1 c3 c4 c5 c6 => absurd (kind_none c1 c3 c4 c5 c6) hk)
  · rintro rfl HA HB; exact refhear_1 s n d a u t x g K S C T M V y o w HA HB hv (ht rfl) hy0 hy1
  · rintro rfl HA HB; exact refhear_3 s n d a u t x g K S C T M V y o w HA HB hv
  · rintro rfl HA HB; exact refhear_4 s n d a u t x g K S C T M V y o w HA HB hv
  · rintro rfl HA HB; exact refhear_5 s n d a u t x g K S C T M V y o w HA HB hv
  · rintro rfl HA HB; exact refhear_6 s n d a u t x g K S C T M V y o w HA HB hv
end Go.Proofs.Ytnbfkdcpghkglaa
