/-
  One cycle of a subscription is another one: the document's own change. No conditions but the sizes.
-/
import Derived.Test.YtcgglphphdpplaaCySub
namespace Go.Proofs.Ytcgglphphdpplaa
set_option maxRecDepth 20000
open Go.ChangeShapes Go.WideShapes Go.ChangeAt Go.RowKit

/-- The credit, behind a cycle that has turned. -/
def Cy.gain (cr : Int) (c z : Cv) : Int := if (z.p = 8 ∨ z.p = 9) ∧ c.p < 7 then cr + z.u else cr
theorem Cys.below3 {w : World} {v : Value} {l : List Cv} (h : Cys w 0 w.heap.size v l) (a b c : Obj) : Cys (((w.alloc a).alloc b).alloc c) 0 (((w.alloc a).alloc b).alloc c).heap.size v l :=
  (h.below ((((Below.refl _ w).alloc (Nat.le_refl _) a).alloc (by simp) b).alloc (by simp; omega) c)).more (Nat.le_refl _) (by simp; omega)
set_option maxHeartbeats 2000000 in
theorem refchange_any {w : World} {v : Value} {l : List Cv} {k : Nat} (st pl an ix cr : Int) (sk : Bool) (n d p a u t x : Int) (g : Bool) {c0 : Cv} (h : Cys w 0 w.heap.size v l) (hc0 : l[k]? = some c0) (hs : l.length ≤ 1000000) (hcr : -1000000000000000000 ≤ cr ∧ cr ≤ 1000000000000000000) (hu : -1000000000000000000 ≤ u ∧ u ≤ 1000000000000000000) :
    Calls Try.prog 47 #[.agg #[.int .u8 st, .int .i64 pl, .int .i64 an, .int .i64 ix, .int .i64 cr, .bool sk, v], .int .i64 k, .agg #[.int .i64 n, .int .i64 d, .int .u8 p, .int .i64 a, .int .i64 u, .int .i64 t, .int .i64 x, .bool g]] w fun e w' => ∃ v', e = .returned (.agg #[.int .u8 st, .int .i64 pl, .int .i64 an, .int .i64 ix, .int .i64 (Cy.gain cr c0 ⟨n, d, p, a, u, t, x, g⟩), .bool sk, v']) ∧ Cys w' w.heap.size w'.heap.size v' (l.set k ⟨n, d, p, a, u, t, x, g⟩) ∧ Below w.heap.size w w' := by
  obtain ⟨hcr0, hcr1⟩ := hcr
  obtain ⟨hu0, hu1⟩ := hu
  obtain ⟨gg, oo, cap, rfl, hk, hcap, hcm, _, hgg, hr⟩ := h.at_ hc0
  have H := Lib.hid h
  obtain ⟨n0, d0, p0, a0, u0, t0, x0, g0⟩ := c0
  have hp0 : w.cell? ⟨gg, oo + k * 8 + 2, none⟩ = some (.int .u8 p0) := hr 2 _ rfl
  have k0 : (0 : Int) ≤ (k : Int) := by omega
  have k1 : (k : Int) < (l.length : Int) := by omega
  have hg1 : gg < w.heap.size + 1 := by omega
  have hg2 : gg < w.heap.size + 1 + 1 := by omega
  obtain ⟨q, hq⟩ : ∃ q, Cy.gain cr ⟨n0, d0, p0, a0, u0, t0, x0, g0⟩ ⟨n, d, p, a, u, t, x, g⟩ = q := ⟨_, rfl⟩
  have HG := Lib.hid hq
  clear hr h hc0
  by_cases h89 : p = 8 ∨ p = 9
  case neg =>
    have e8 : (p == 8) = false := by rw [beq_eq_false_iff_ne]; omega
    have e9 : (p == 9) = false := by rw [beq_eq_false_iff_ne]; omega
    obtain rfl : cr = q := by rw [← hq]; unfold Cy.gain; rw [if_neg (fun g => h89 g.1)]
    clear hq h89
    go_enter Try.func47, Try.ntmps47
    go_wp2_with (fail)
    refine (refwith_any (l := l) _ _ _ _ _ _ _ _ (H.out.below3 _ _ _) hk hs).mono ?_
    rintro e w1 ⟨v9, rfl, hc, hb⟩
    obtain ⟨hw, y0, y1, z0, e1⟩ := box3 hb
    obtain ⟨A9, c9, hv9, _⟩ := id hc
    rw [List.length_set] at hv9
    subst hv9
    have HC := Lib.hid hc
    have HW := Lib.hid hw
    rw [e1]
    clear e1 hb hw hc
    go_wp2
    refine bodyPost_ret (v := .agg #[.int .u8 st, .int .i64 pl, .int .i64 an, .int .i64 ix, .int .i64 cr, .bool sk, .slice A9 l.length c9]) ?_ rfl ⟨.slice A9 l.length c9, by rw [HG.out], ?_, boxed_below (boxed_below (boxed_below HW.out (Nat.le_refl _)) (by omega)) (by omega)⟩
    · simp [results, Try.results47, go_sem, z0]
    · refine (HC.out.kept fun i hi _ => ?_).more (by simp; omega) (by simp)
      have h9 : w.heap.size + 1 + 1 + 1 ≤ i := by simpa using hi
      rw [boxed_block_other (by omega), boxed_block_other (by omega), boxed_block_other (by omega)]
  have hpp : (p == 8) = true ∨ ((p == 8) = false ∧ (p == 9) = true) := by
    rcases h89 with rfl | rfl
    · exact .inl rfl
    · exact .inr ⟨rfl, rfl⟩
  by_cases h7 : 7 ≤ p0
  · have d7 : decide (7 ≤ p0) = true := by simpa using h7
    obtain rfl : cr = q := by rw [← hq]; unfold Cy.gain; rw [if_neg (fun g => by have := g.2; dsimp only at this; omega)]
    clear hq h7 h89
    rcases hpp with e8 | ⟨e8, e9⟩
    all_goals
      go_enter Try.func47, Try.ntmps47
      go_wp2_with (go_at_call 55; refine (refended_any _ _).mono ?_; rintro e w' ⟨rfl, rfl⟩)
      refine (refwith_any (l := l) _ _ _ _ _ _ _ _ (H.out.below3 _ _ _) hk hs).mono ?_
      rintro e w1 ⟨v9, rfl, hc, hb⟩
      obtain ⟨hw, y0, y1, z0, e1⟩ := box3 hb
      obtain ⟨A9, c9, hv9, _⟩ := id hc
      rw [List.length_set] at hv9
      subst hv9
      have HC := Lib.hid hc
      have HW := Lib.hid hw
      rw [e1]
      clear e1 hb hw hc
      go_wp2
      refine bodyPost_ret (v := .agg #[.int .u8 st, .int .i64 pl, .int .i64 an, .int .i64 ix, .int .i64 cr, .bool sk, .slice A9 l.length c9]) ?_ rfl ⟨.slice A9 l.length c9, by rw [HG.out], ?_, boxed_below (boxed_below (boxed_below HW.out (Nat.le_refl _)) (by omega)) (by omega)⟩
      · simp [results, Try.results47, go_sem, z0]
      · refine (HC.out.kept fun i hi _ => ?_).more (by simp; omega) (by simp)
        have h9 : w.heap.size + 1 + 1 + 1 ≤ i := by simpa using hi
        rw [boxed_block_other (by omega), boxed_block_other (by omega), boxed_block_other (by omega)]
  · have d7 : decide (7 ≤ p0) = false := by simpa using h7
    have eq : cr + u = q := by rw [← hq]; unfold Cy.gain; rw [if_pos ⟨h89, by dsimp only; omega⟩]
    subst eq
    clear hq h7 h89
    rcases hpp with e8 | ⟨e8, e9⟩
    all_goals
      go_enter Try.func47, Try.ntmps47
      go_wp2_with (go_at_call 55; refine (refended_any _ _).mono ?_; rintro e w' ⟨rfl, rfl⟩)
      refine (refwith_any (l := l) _ _ _ _ _ _ _ _ (H.out.below3 _ _ _) hk hs).mono ?_
      rintro e w1 ⟨v9, rfl, hc, hb⟩
      obtain ⟨hw, y0, y1, z0, e1⟩ := box3 hb
      obtain ⟨A9, c9, hv9, _⟩ := id hc
      rw [List.length_set] at hv9
      subst hv9
      have HC := Lib.hid hc
      have HW := Lib.hid hw
      rw [e1]
      clear e1 hb hw hc
      go_wp2
      refine bodyPost_ret (v := .agg #[.int .u8 st, .int .i64 pl, .int .i64 an, .int .i64 ix, .int .i64 (cr + u), .bool sk, .slice A9 l.length c9]) ?_ rfl ⟨.slice A9 l.length c9, by rw [HG.out], ?_, boxed_below (boxed_below (boxed_below HW.out (Nat.le_refl _)) (by omega)) (by omega)⟩
      · simp [results, Try.results47, go_sem, z0]
      · refine (HC.out.kept fun i hi _ => ?_).more (by simp; omega) (by simp)
        have h9 : w.heap.size + 1 + 1 + 1 ≤ i := by simpa using hi
        rw [boxed_block_other (by omega), boxed_block_other (by omega), boxed_block_other (by omega)]
end Go.Proofs.Ytcgglphphdpplaa
