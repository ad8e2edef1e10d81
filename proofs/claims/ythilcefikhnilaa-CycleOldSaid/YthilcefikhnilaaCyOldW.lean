/-
  The walk of the law CycleOld, whole: it returns true, whatever the input. No conditions.
-/
import Derived.Test.YthilcefikhnilaaCyOld
import Derived.Test.YthilcefikhnilaaCyOldB
import Derived.Test.YthilcefikhnilaaNvRow
namespace Go.Proofs.Ythilcefikhnilaa
set_option maxRecDepth 20000
open Go.ChangeShapes Go.WideShapes Go.ChangeAt Go.RowKit

theorem herr_yes {s : Int} {c : Cv} {m : Nv} (h : c.Heard s m) : Cv.herr s c m = 0 := if_pos h
theorem herr_no {s : Int} {c : Cv} {m : Nv} (h : ¬c.Heard s m) : Cv.herr s c m = 10 := if_neg h
/-- What it asks lies in small bounds. -/
theorem ask_range {q a t : Int} (ht : 0 ≤ t ∧ t < 256) (ha : 0 ≤ a ∧ a < 4294967296) (hk : (Cy.at_ q 7 9 a 5 t 3 true).asks = true) :
    let m := (Cy.at_ q 7 9 a 5 t 3 true).ask 2
    (1 ≤ m.k ∧ m.k ≤ 5) ∧ (0 ≤ m.s ∧ m.s ≤ 100) ∧ (0 ≤ m.c ∧ m.c ≤ 100) ∧ (0 ≤ m.t ∧ m.t ≤ 100) ∧ 0 ≤ m.a ∧ m.a ≤ 8589934592 := by
  intro m
  have htt := (at_try (q := q) (n := 7) (d := 9) (a := a) (u := 5) (x := 3) (g := true) ht.1).2
  have hk0 : Cy.kind (Cy.at_ q 7 9 a 5 t 3 true).p ≠ 0 := by unfold Cv.asks at hk; simpa using hk
  have hm : m = ⟨Cy.kind (Cy.at_ q 7 9 a 5 t 3 true).p, 2, 7, if (Cy.at_ q 7 9 a 5 t 3 true).p = 1 then (Cy.at_ q 7 9 a 5 t 3 true).t else 0, if (Cy.at_ q 7 9 a 5 t 3 true).p = 1 ∨ (Cy.at_ q 7 9 a 5 t 3 true).p = 6 then a else 0, 0⟩ := if_neg hk0
  have hkr : 1 ≤ Cy.kind (Cy.at_ q 7 9 a 5 t 3 true).p ∧ Cy.kind (Cy.at_ q 7 9 a 5 t 3 true).p ≤ 5 := by
    revert hk0
    refine kind_ways (Cy.at_ q 7 9 a 5 t 3 true).p ?_ ?_ ?_ ?_ ?_ ?_
    iterate 5 (focus (intro e _; rw [e]; decide))
    intro c1 c3 c4 c5 c6 h
    exact absurd (kind_none c1 c3 c4 c5 c6) h
  rw [hm]
  refine ⟨hkr, by dsimp only; omega, by dsimp only; omega, ?_, ?_⟩
  · dsimp only
    split <;> omega
  · dsimp only
    split <;> omega
theorem cycleOld_walk (q : Int) (w0 : (Lit.int .u8 q).wf = true) (a : Int) (w1 : (Lit.int .u32 a).wf = true) (t : Int) (w2 : (Lit.int .u8 t).wf = true) (K S C T M V : Int) (_w3 : (⟨K, S, C, T, M, V⟩ : Nv).Wf) (h : Int) (w4 : (Lit.int .u8 h).wf = true) (y : Int) (w5 : (Lit.int .u16 y).wf = true) (o : Bool) {w : World} :
    Calls Try.prog 6 #[.int .u8 q, .int .u32 a, .int .u8 t, .agg #[.int .u8 K, .int .i64 S, .int .i64 C, .int .i64 T, .int .i64 M, .int .u8 V], .int .u8 h, .int .u16 y, .bool o] w fun e w' => e = .returned (.bool true) ∧ Below w.heap.size w w' := by
  have hq := wf_u8 w0
  have ha := wf_u32 w1
  have ht := wf_u8 w2
  have hh := wf_u8 w4
  obtain ⟨hy0, hy1⟩ := wf_u16 w5
  have hr := ask_range (q := q) ht ha
  obtain ⟨D, hD⟩ : ∃ D, Cy.at_ q 7 9 a 5 t 3 true = D := ⟨_, rfl⟩
  have HC : Hid (∀ w, Calls Try.prog 17 #[.int .u8 q, .int .u16 7, .int .u16 9, .int .u32 a, .int .i32 5, .int .u8 t, .int .u16 3, .bool true] w fun e w' => e = .returned D.val ∧ Below w.heap.size w w') := fun w => by
    rw [← hD]; exact cyat_any q 7 9 a 5 t 3 true w hq ht (by omega) (by omega) ha (by omega) (by omega)
  rw [hD] at hr
  clear hD
  obtain ⟨n', d', p', a', u', t', x', g'⟩ := D
  obtain ⟨A, hA⟩ : ∃ A, Cv.ask 2 ⟨n', d', p', a', u', t', x', g'⟩ = A := ⟨_, rfl⟩
  obtain ⟨b, hb⟩ : ∃ b, Cv.asks ⟨n', d', p', a', u', t', x', g'⟩ = b := ⟨_, rfl⟩
  have hAv : A.v = 0 := by rw [← hA]; exact ask_v _ _
  have HA : Hid (∀ w, Calls Try.prog 18 #[.int .i64 2, .agg #[.int .i64 n', .int .i64 d', .int .u8 p', .int .i64 a', .int .i64 u', .int .i64 t', .int .i64 x', .bool g']] w fun e w' => e = .returned (.tuple #[.agg A.arr, .bool b]) ∧ Below w.heap.size w w') := fun w => by
    rw [← hA, ← hb]; exact cyasks_any 2 n' d' p' a' u' t' x' g' w
  obtain ⟨k0, s0, c0, t0, m0, v0⟩ := A
  dsimp only at hAv
  subst hAv
  have hno : ∀ K S C T M V, ¬Cv.Heard 2 ⟨n', d', p', a', u', t', x', g'⟩ ⟨K, S, C, T, M, V⟩ → Hid (∀ w, Calls Try.prog 21 #[.int .i64 2, .agg #[.int .i64 n', .int .i64 d', .int .u8 p', .int .i64 a', .int .i64 u', .int .i64 t', .int .i64 x', .bool g'], .agg #[.int .u8 K, .int .i64 S, .int .i64 C, .int .i64 T, .int .i64 M, .int .u8 V], .int .i64 y, .bool o] w fun e w' => e = .returned (.tuple #[.agg #[.int .i64 n', .int .i64 d', .int .u8 p', .int .i64 a', .int .i64 u', .int .i64 t', .int .i64 x', .bool g'], .int .i64 10]) ∧ Below w.heap.size w w') := fun K S C T M V hn w => by
    have := cyhear_any 2 n' d' p' a' u' t' x' g' K S C T M V y o w (by omega) (by omega)
    rw [hear_no hn, herr_no hn] at this
    exact this
  have hyes : ∀ V, b = true → V ≠ 0 → ∃ p1 t1 x1, p1 ≠ p' ∧ Hid (∀ w, Calls Try.prog 21 #[.int .i64 2, .agg #[.int .i64 n', .int .i64 d', .int .u8 p', .int .i64 a', .int .i64 u', .int .i64 t', .int .i64 x', .bool g'], .agg #[.int .u8 k0, .int .i64 s0, .int .i64 c0, .int .i64 t0, .int .i64 m0, .int .u8 V], .int .i64 y, .bool o] w fun e w' => e = .returned (.tuple #[.agg #[.int .i64 n', .int .i64 d', .int .u8 p1, .int .i64 a', .int .i64 u', .int .i64 t1, .int .i64 x1, .bool g'], .int .i64 0]) ∧ Below w.heap.size w w') := fun V hb1 hv => by
    have hk : Cy.kind p' ≠ 0 := by rw [hb1] at hb; unfold Cv.asks at hb; simpa using hb
    have hh : Cv.Heard 2 ⟨n', d', p', a', u', t', x', g'⟩ ⟨k0, s0, c0, t0, m0, V⟩ := ⟨hk, hv, hA.symm⟩
    have kn := kept_next ⟨n', d', p', a', u', t', x', g'⟩ V y o (kind_early hk)
    have np := next_p ⟨n', d', p', a', u', t', x', g'⟩ V y o hk
    obtain ⟨z, hz⟩ : ∃ z, Cv.next ⟨n', d', p', a', u', t', x', g'⟩ V y o = z := ⟨_, rfl⟩
    rw [hz] at kn np
    obtain ⟨n1, d1, p1, a1, u1, t1, x1, g1⟩ := z
    obtain ⟨h1, h2, h3, h4, h5, _⟩ := kn
    dsimp only at h1 h2 h3 h4 h5 np
    subst h1 h2 h3 h4 h5
    refine ⟨p1, t1, x1, np, fun w => ?_⟩
    have := cyhear_any 2 n1 d1 p' a1 u1 t' x' g1 k0 s0 c0 t0 m0 V y o w (by omega) (by omega)
    rw [hear_yes hh, herr_yes hh] at this
    dsimp only at this
    rw [hz] at this
    exact this
  cases b
  · refine old_none q a t h y o n' d' p' a' u' t' x' g' k0 s0 c0 t0 m0 K S C T M V w HC HA (hno K S C T M V fun hn => ?_) hy0 hy1 hh
    have := hn.1
    unfold Cv.asks at hb
    simp at hb
    exact this hb
  have hr := hr hb
  rw [hA] at hr
  dsimp only at hr
  by_cases h128 : h < 128
  · by_cases hn : Cv.Heard 2 ⟨n', d', p', a', u', t', x', g'⟩ ⟨K, S, C, T, M, V⟩
    · have h3 := hn.2.2
      rw [hA] at h3
      injection h3 with e1 e2 e3 e4 e5
      obtain ⟨p1, t1, x1, hp, HH⟩ := hyes V rfl hn.2.1
      subst e1 e2 e3 e4 e5
      exact old_yes q a t h y o n' d' p' a' u' t' x' g' _ _ _ _ _ V p1 t1 x1 w HC HA HH hy0 hy1 hh h128 hn.2.1 hp
    · have H := unheard2 hn hb
      rw [hA] at H
      exact old_no q a t h y o n' d' p' a' u' t' x' g' k0 s0 c0 t0 m0 K S C T M V w HC HA (hno K S C T M V hn) hy0 hy1 hh h128 H
  have h128' : 128 ≤ h := by omega
  have hrs : h % 6 = 0 ∨ h % 6 = 1 ∨ h % 6 = 2 ∨ h % 6 = 3 ∨ h % 6 = 4 ∨ h % 6 = 5 := by omega
  have hne : ∀ m : Nv, m ≠ ⟨k0, s0, c0, t0, m0, 1⟩ → m.v = 1 → ¬Cv.Heard 2 ⟨n', d', p', a', u', t', x', g'⟩ m := fun m hm hv hn => by
    have h3 := hn.2.2
    rw [hA] at h3
    obtain ⟨k, s, c, t, a, v⟩ := m
    dsimp only at hv h3
    injection h3 with e1 e2 e3 e4 e5
    subst e1 e2 e3 e4 e5 hv
    exact hm rfl
  rcases hrs with h0 | h0 | h0 | h0 | h0 | h0
  · exact old_b0 q a t h y o n' d' p' a' u' t' x' g' k0 s0 c0 t0 m0 K S C T M V w HC HA (hno _ _ _ _ _ _ (hne _ (fun e => by injection e; omega) rfl)) hy0 hy1 hh h128' h0 hr
  · exact old_b1 q a t h y o n' d' p' a' u' t' x' g' k0 s0 c0 t0 m0 K S C T M V w HC HA (hno _ _ _ _ _ _ (hne _ (fun e => by injection e; omega) rfl)) hy0 hy1 hh h128' h0 hr
  · exact old_b2 q a t h y o n' d' p' a' u' t' x' g' k0 s0 c0 t0 m0 K S C T M V w HC HA (hno _ _ _ _ _ _ (hne _ (fun e => by injection e; omega) rfl)) hy0 hy1 hh h128' h0 hr
  · exact old_b3 q a t h y o n' d' p' a' u' t' x' g' k0 s0 c0 t0 m0 K S C T M V w HC HA (hno _ _ _ _ _ _ (hne _ (fun e => by injection e; omega) rfl)) hy0 hy1 hh h128' h0 hr
  · exact old_b4 q a t h y o n' d' p' a' u' t' x' g' k0 s0 c0 t0 m0 K S C T M V w HC HA (hno _ _ _ _ _ _ (hne _ (fun e => by injection e; omega) rfl)) hy0 hy1 hh h128' h0 hr
  · obtain ⟨p1, t1, x1, hp, HH⟩ := hyes 1 rfl (by decide)
    exact old_b5 q a t h y o n' d' p' a' u' t' x' g' k0 s0 c0 t0 m0 K S C T M V p1 t1 x1 w HC HA HH hy0 hy1 hh h128' h0 hr hp
end Go.Proofs.Ythilcefikhnilaa
