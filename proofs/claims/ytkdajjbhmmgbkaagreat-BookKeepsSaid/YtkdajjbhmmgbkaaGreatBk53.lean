/-
  A book's numbers are small enough for its bytes; any step, whatever it answers. No conditions but the sizes.
-/
import Derived.Test.YtkdajjbhmmgbkaaGreatBk48
import Derived.Test.YtkdajjbhmmgbkaaGreatBk52
set_option linter.unusedSimpArgs false
set_option linter.unusedVariables false
namespace Go.Proofs.YtkdajjbhmmgbkaaGreat
set_option linter.unusedVariables false
set_option linter.unusedSimpArgs false
set_option maxRecDepth 100000
open Go.ChangeShapes Go.WideShapes Go.ChangeAt Go.RowKit

theorem Kbe.cyc_ok {M : Int} {c : Cv} {n : Nat} (h : COk M c) (hM : 0 ≤ M ∧ M ≤ 100000000000) (hn : c.n = (n : Int)) (hn2 : n ≤ 100000) : Kbe.CSm c := by
  have := h.p0; have := h.p1; have := h.t0; have := h.t1; have := h.a0; have := h.a1; have := h.u0; have := h.u1; have := h.d0; have := h.d1; have := h.x0; have := h.x1
  constructor <;> (try unfold Kbe.Sm) <;> omega
theorem Kbe.zero_sm : Kbe.ASm Av.zero := by
  constructor <;> first | (intro c hc; cases hc; done) | (unfold Kbe.Sm; decide) | decide
theorem Kbe.sta_sm {M L : Int} {p : Pv} {y : Int} {s : Sv} {kp : Nat} (h : Sta M L p y s) (hM : 0 ≤ M ∧ M ≤ 100000000000) (hL : L ≤ 9000) (hk : s.pl = (kp : Int)) (hk2 : kp ≤ 1000) : Kbe.ASm s.tell := by
  obtain ⟨f, _, _, _, f5⟩ := h.fits hM.2 hL
  obtain ⟨k, d, c, hAt, _, _, hic, hcL⟩ := h.ex
  have hbd := hAt.bd
  have hst := h.ok.st
  have hix := h.ok.ix0
  have hlen := (h.lens hL).1
  have e0 := f.d0; have e1 := f.d1; have e2 := f.n0; have e3 := f.n1; have e4 := f.r0; have e5 := f.r1; have e6 := f.s0; have e7 := f.s1; have e8 := f.p0; have e9 := f.p1
  refine ⟨by show 0 ≤ s.st ∧ s.st < 256; omega, by show Kbe.Sm s.pl; unfold Kbe.Sm; omega, by show Kbe.Sm s.an; unfold Kbe.Sm; omega, by show Kbe.Sm s.ix; unfold Kbe.Sm; omega, by show Kbe.Sm (s.l.length : Int); unfold Kbe.Sm; omega, by show Kbe.Sm s.cr; unfold Kbe.Sm; omega, by unfold Kbe.Sm; omega, by unfold Kbe.Sm; omega, by unfold Kbe.Sm; omega, by unfold Kbe.Sm; omega, by unfold Kbe.Sm; omega, fun c hc => ?_⟩
  have hm := (opn_mem hc).1
  obtain ⟨n, hn⟩ := List.getElem?_of_mem hm
  exact Kbe.cyc_ok (n := n) (h.ok.cs c hm) hM (h.ok.num n c hn) (by have := (List.getElem?_eq_some_iff.1 hn).1; omega)
theorem Kbe.acc_len (a : Av) : (Kbe.acc a).length ≤ 13 + a.l.length * 8 := by
  unfold Kbe.acc
  split
  · show 1 ≤ _; omega
  · rw [List.length_append, flat_len]; simp
theorem Kbe.subs_len {a : Nat → Av} {m : Nat} (h1 : ∀ k, k < 3 → (a k).l.length ≤ m) (h2 : ∀ k, 3 ≤ k → k < 32 → a k = Av.zero) : ∀ n, n ≤ 32 → (Kbe.subs a n).length ≤ 3 * (13 + m * 8) + n
  | 0, _ => Nat.zero_le _
  | n + 1, hn => by
    rw [Kbe.subs, List.length_append]
    by_cases h3 : n < 3
    · have e : ∀ k, k ≤ 3 → (Kbe.subs a k).length ≤ k * (13 + m * 8) := fun k => by
        induction k with
        | zero => intro _; exact Nat.zero_le _
        | succ k ih =>
          intro hk
          rw [Kbe.subs, List.length_append]
          have g1 := ih (by omega)
          have g2 := Kbe.acc_len (a k)
          have g3 := h1 k (by omega)
          rw [Nat.add_mul]
          omega
      have g := e (n + 1) (by omega)
      rw [Kbe.subs, List.length_append] at g
      have : (n + 1) * (13 + m * 8) ≤ 3 * (13 + m * 8) := Nat.mul_le_mul_right _ (by omega)
      omega
    · have g := Kbe.subs_len h1 h2 n (by omega)
      have e : (Kbe.acc (a n)).length = 1 := by rw [h2 n (by omega) (by omega)]; rfl
      omega
theorem PBok.bsm {M L td : Int} {a : Nat → Av} {ps : List Pv} (h : PBok M L td a ps) (hM : 0 ≤ M ∧ M ≤ 100000000000) (hL : L ≤ 2000) : Kbe.BSm td ps a := by
  have hd := h.day
  have hln := h.len
  have hll : ∀ k, k < 32 → (a k).l.length ≤ 2000 := fun k hk => by
    rcases h.sub k hk with g | ⟨s, kp, P, _, _, g3, g⟩
    · rw [g]; exact Nat.zero_le _
    · rw [g]
      have h1 := g3.len
      have h2 := opn_len s.l
      show (opn s.l).length ≤ 2000
      omega
  refine ⟨by unfold Kbe.Sm; omega, fun p hp => ?_, by omega, fun k hk => ⟨?_, by have := hll k hk; omega⟩, ?_⟩
  · obtain ⟨g1, g2, g3, g4⟩ := h.pok p hp
    have ha := g1.a
    have hu := g1.u
    have he := g1.e
    exact ⟨by unfold Kbe.Sm; omega, by omega, by unfold Kbe.Sm; omega, by unfold Kbe.Sm; omega⟩
  · rcases h.sub k hk with g | ⟨s, kp, P, g1, g2, g3, g⟩
    · rw [g]; exact Kbe.zero_sm
    · rw [g]
      exact Kbe.sta_sm g3 hM (by omega) g1 (by have := (List.getElem?_eq_some_iff.1 g2).1; omega)
  · unfold Kbe.book
    rw [List.length_append, List.length_append, pln_len]
    have g := Kbe.subs_len (m := 2000) (fun k hk => hll k (by omega)) h.low 32 (Nat.le_refl _)
    simp only [List.length_cons, List.length_nil]
    omega
/-- A step, whatever it answers: a book of small numbers. -/
def Stepz (M L : Int) (W : World) (b : Kb) (o : Ov) (e : Ending) (w' : World) : Prop := ∃ (c : Kb) (x : Int), e = .returned (.tuple #[.agg c.arr, .int .i64 x]) ∧ c.One ∧ (∃ ps', KbM w' W.heap.size w'.heap.size c ps' ∧ PBok (M + 1100000000) (L + 40) c.td c.a ps' ∧ c.td ≤ b.td + 40) ∧ Below W.heap.size W w'
def Camz (M L : Int) (b : Kb) (_ : Ov) (D n : Nat) (c : Kb) (_ : Int) (w' : World) : Prop := ∃ ps' b0 c0, D + 1 ≤ b0 ∧ c0 ≤ w'.heap.size ∧ (n < b0 ∨ c0 ≤ n) ∧ KbM w' b0 c0 c ps' ∧ PBok (M + 1100000000) (L + 40) c.td c.a ps' ∧ c.td ≤ b.td + 40
theorem Camz.below {M L : Int} {b : Kb} {o : Ov} {D n : Nat} {c : Kb} {x : Int} {w w' : World} (h : Camz M L b o D n c x w) (hb : Below w.heap.size w w') : Camz M L b o D n c x w' := by
  obtain ⟨ps', b0, c0, h1, h2, h3, h4, h5⟩ := h
  exact ⟨ps', b0, c0, h1, Nat.le_trans h2 hb.size, h3, h4.below (hb.mono h2), h5⟩
theorem Camz.boxed {M L : Int} {b : Kb} {o : Ov} {D n : Nat} {c : Kb} {x : Int} {w : World} {cs : Array Value} {t : TypeId} (h : Camz M L b o D n c x w) : ∃ ps', KbM (Go.Proofs.YtkdajjbhmmgbkaaGreat.boxed w n cs t) (D + 1) (Go.Proofs.YtkdajjbhmmgbkaaGreat.boxed w n cs t).heap.size c ps' ∧ PBok (M + 1100000000) (L + 40) c.td c.a ps' ∧ c.td ≤ b.td + 40 := by
  obtain ⟨ps', b0, c0, h1, h2, h3, h4, h5, h6⟩ := h
  exact ⟨ps', (h4.boxed h3).more h1 (by rw [boxed_size]; exact h2), h5, h6⟩
theorem Stepz.camz {M L : Int} {W w' : World} {b c : Kb} {o : Ov} {D n : Nat} {x : Int} (h : ∃ ps', KbM w' W.heap.size w'.heap.size c ps' ∧ PBok (M + 1100000000) (L + 40) c.td c.a ps' ∧ c.td ≤ b.td + 40) (hD : D + 1 ≤ W.heap.size) (hn : n < W.heap.size ∨ w'.heap.size ≤ n) : Camz M L b o D n c x w' := by
  obtain ⟨ps', h1, h2, h3⟩ := h
  exact ⟨ps', _, _, hD, Nat.le_refl _, hn, h1, h2, h3⟩
section
variable {M L : Int} {w : World} {b : Kb} {ps : List Pv} {o : Ov}
theorem zero_stepz (hM : 0 ≤ M) (hL : 1 ≤ L) (htd : 0 ≤ b.td) {w' : World} : ∃ ps', KbM w' w.heap.size w'.heap.size Kb.zero ps' ∧ PBok (M + 1100000000) (L + 40) Kb.zero.td Kb.zero.a ps' ∧ Kb.zero.td ≤ b.td + 40 :=
  ⟨[], ⟨Kb.zero_one, Pys.nil, fun _ _ => Cys.nil⟩, ⟨⟨by decide, by decide⟩, by simp, fun P hP => (nomatch hP), fun _ _ => .inl rfl, fun _ _ _ => rfl⟩, by show (0 : Int) ≤ _; omega⟩
theorem step_allz (h : PBok M L b.td b.a ps) (hkm : KbM w 0 w.heap.size b ps) (hM : 0 ≤ M ∧ M ≤ 100000000000) (hL : 1 ≤ L ∧ L + 40 ≤ 9000) (htd : b.td + 40 ≤ 2000000) (hf : OForm o) : Calls Tryz.prog 14 #[.agg b.arr, .agg o.kb] w (Stepz M L w b o) := by
  have hd := h.day.1
  by_cases hr : o.right = 0
  · refine (bok_any h hkm hM hL htd hf hr).mono ?_
    rintro e w' (⟨x, hx, rfl, hb⟩ | ⟨td', a', ps', ⟨c, rfl, hca, rfl, hk, hb⟩, hp, hap⟩)
    · exact ⟨Kb.zero, x, rfl, Kb.zero_one, zero_stepz hM.1 hL.1 hd, hb⟩
    · exact ⟨c, 0, rfl, hk.one, ⟨ps', hk, hp.congr hca, hap.1⟩, hb⟩
  · exact (bkstep_wrong rfl hr).mono fun e w' ⟨he, hb⟩ => ⟨Kb.zero, o.right, he, Kb.zero_one, zero_stepz hM.1 hL.1 hd, hb⟩
end
theorem region_frame4z {P : Program} {cd : Code} {Q : Exit → Act → World → Prop} {a : Act} {w : World} (Facts : World → Prop) (fr : Value → Ov → Kb → Int → Act)
    (h : cd.wp P (fun e a' w' => e = .normal ∧ ∃ v o c x, a' = fr v o c x ∧ Facts w') a w) (hk : ∀ v o c x w', Facts w' → Q .normal (fr v o c x) w') : cd.wp P Q a w :=
  wp_mono h (by rintro e a' w' ⟨rfl, v, o, c, x, rfl, hf⟩; exact hk _ _ _ _ _ hf)
end Go.Proofs.YtkdajjbhmmgbkaaGreat
