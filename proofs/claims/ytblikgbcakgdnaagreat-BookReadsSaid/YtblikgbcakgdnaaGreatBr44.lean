/-
  What the laws of a book share: their loop over acts. No conditions but the sizes.
-/
import Derived.Test.YtblikgbcakgdnaaGreatBr04
import Derived.Test.YtblikgbcakgdnaaGreatBr27
import Derived.Test.YtblikgbcakgdnaaGreatBr35
import Derived.Test.YtblikgbcakgdnaaGreatBr40
import Derived.Test.YtblikgbcakgdnaaGreatBr41
import Derived.Test.YtblikgbcakgdnaaGreatBr43
set_option linter.unusedSimpArgs false
set_option linter.unusedVariables false
namespace Go.Proofs.YtblikgbcakgdnaaGreat
set_option linter.unusedVariables false
set_option linter.unusedSimpArgs false
set_option maxRecDepth 100000
open Go.ChangeShapes Go.WideShapes Go.ChangeAt Go.RowKit

theorem region_frame5 {P : Program} {cd : Code} {Q : Exit → Act → World → Prop} {a : Act} {w : World} (Facts : Nat → Kb → Int → Value → Ov → World → Prop) (fr : Nat → Kb → Int → Value → Ov → Act)
    (h : cd.wp P (fun e a' w' => e = .normal ∧ ∃ Z c x v o, a' = fr Z c x v o ∧ Facts Z c x v o w') a w) (hk : ∀ Z c x v o w', Facts Z c x v o w' → Q .normal (fr Z c x v o) w') : cd.wp P Q a w :=
  wp_mono h (by rintro e a' w' ⟨rfl, Z, c, x, v, o, rfl, hf⟩; exact hk _ _ _ _ _ _ hf)
theorem info4a : (Tryz.prog.info? 51).map (·.size) = some 4 := by kernel_rfl
theorem Kb.range_all {w : World} {B : Nat} {b : Kb} {t : TypeId} {fr : Nat × Nat} (h : w.heap[B]? = some (.cells b.arr t fr)) : w.rangeAt B 0 b.arr.toList := by
  intro j u hu
  rw [cell_of_row _ _ _ _ _ _ h, Nat.zero_add, ← Array.getElem?_toList]
  exact hu
theorem Kb.info_all {b : Kb} : (Tryz.prog.info? 35).map (·.size) = some b.arr.toList.length := by rw [Array.length_toList, Kb.arr_size]; exact Kb.info
theorem PBok.more {M M' L L' td : Int} {a : Nat → Av} {ps : List Pv} (h : PBok M L td a ps) (hm : M ≤ M') (hl : L ≤ L') : PBok M' L' td a ps := ⟨h.day, h.len, h.pok, fun k hk => (h.sub k hk).imp id fun ⟨s, kp, P, g1, g2, g3, g4⟩ => ⟨s, kp, P, g1, g2, g3.more hm hl, g4⟩, h.low⟩
/-- A book that was stepped to, which stands in no block n. -/
def Came (M L : Int) (b : Kb) (o : Ov) (D n : Nat) (c : Kb) (x : Int) (w' : World) : Prop := x = 0 → ∃ ps' b0 c0, D + 1 ≤ b0 ∧ c0 ≤ w'.heap.size ∧ (n < b0 ∨ c0 ≤ n) ∧ KbM w' b0 c0 c ps' ∧ PBok (M + 1100000000) (L + 40) c.td c.a ps' ∧ Apart o b.td b.a c.td c.a
theorem Came.below {M L : Int} {b : Kb} {o : Ov} {D n : Nat} {c : Kb} {x : Int} {w w' : World} (h : Came M L b o D n c x w) (hb : Below w.heap.size w w') : Came M L b o D n c x w' := fun hx => by
  obtain ⟨ps', b0, c0, h1, h2, h3, h4, h5⟩ := h hx
  exact ⟨ps', b0, c0, h1, Nat.le_trans h2 hb.size, h3, h4.below (hb.mono h2), h5⟩
theorem Came.boxed {M L : Int} {b : Kb} {o : Ov} {D n : Nat} {c : Kb} {x : Int} {w : World} {cs : Array Value} {t : TypeId} (h : Came M L b o D n c x w) : x = 0 → ∃ ps', KbM (Go.Proofs.YtblikgbcakgdnaaGreat.boxed w n cs t) (D + 1) (Go.Proofs.YtblikgbcakgdnaaGreat.boxed w n cs t).heap.size c ps' ∧ PBok (M + 1100000000) (L + 40) c.td c.a ps' ∧ Apart o b.td b.a c.td c.a := fun hx => by
  obtain ⟨ps', b0, c0, h1, h2, h3, h4, h5, h6⟩ := h hx
  exact ⟨ps', (h4.boxed h3).more h1 (by rw [boxed_size]; exact h2), h5, h6⟩
theorem Stepd.came {M L : Int} {W w' : World} {b c : Kb} {o : Ov} {D n : Nat} {x : Int} (h : x = 0 → ∃ ps', KbM w' W.heap.size w'.heap.size c ps' ∧ PBok (M + 1100000000) (L + 40) c.td c.a ps' ∧ Apart o b.td b.a c.td c.a) (hD : D + 1 ≤ W.heap.size) (hn : n < W.heap.size ∨ w'.heap.size ≤ n) : Came M L b o D n c x w' := fun hx => by
  obtain ⟨ps', h1, h2, h3⟩ := h hx
  exact ⟨ps', _, _, hD, Nat.le_refl _, hn, h1, h2, h3⟩
end Go.Proofs.YtblikgbcakgdnaaGreat
/-
  A book's numbers are small enough for its bytes; any step, whatever it answers. No conditions but the sizes.
-/
namespace Go.Proofs.YtblikgbcakgdnaaGreat
set_option linter.unusedVariables false
set_option linter.unusedSimpArgs false
set_option maxRecDepth 100000
open Go.ChangeShapes Go.WideShapes Go.ChangeAt Go.RowKit

theorem Kbe.cyc_ok {M : Int} {c : Cv} {n : Nat} (h : COk M c) (hM : 0 ≤ M ∧ M ≤ 100000000000) (hn : c.n = (n : Int)) (hn2 : n ≤ 100000) : Kbe.CSm c := by
  have := h.p0; have := h.p1; have := h.t0; have := h.t1; have := h.a0; have := h.a1; have := h.u0; have := h.u1; have := h.d0; have := h.d1; have := h.x0; have := h.x1
  constructor <;> (try unfold Kbe.Sm) <;> omega
theorem Kbe.zero_sm : Kbe.ASm Av.zero := by
  constructor <;> first | (intro c hc; cases hc; done) | (unfold Kbe.Sm; decide) | decide
theorem Kbe.sta_sm {M L : Int} {p : Pv} {y : Int} {s : Sv} {kp : Nat} (h : Sta M L p y s) (hM : 0 ≤ M ∧ M ≤ 100000000000) (hL : L ≤ 9000) (hk : s.pl = (kp : Int)) (hk2 : kp ≤ 1000) : Kbe.ASm s.tell := by
  obtain ⟨f, _, _, _, f5⟩ := h.fits hM.2 hL
  obtain ⟨k, d, c, hAt, _, _, hic, hcL⟩ := h.ex
  have hbd := hAt.bd
  have hst := h.ok.st
  have hix := h.ok.ix0
  have hlen := (h.lens hL).1
  have e0 := f.d0; have e1 := f.d1; have e2 := f.n0; have e3 := f.n1; have e4 := f.r0; have e5 := f.r1; have e6 := f.s0; have e7 := f.s1; have e8 := f.p0; have e9 := f.p1
  refine ⟨by show 0 ≤ s.st ∧ s.st < 256; omega, by show Kbe.Sm s.pl; unfold Kbe.Sm; omega, by show Kbe.Sm s.an; unfold Kbe.Sm; omega, by show Kbe.Sm s.ix; unfold Kbe.Sm; omega, by show Kbe.Sm (s.l.length : Int); unfold Kbe.Sm; omega, by show Kbe.Sm s.cr; unfold Kbe.Sm; omega, by unfold Kbe.Sm; omega, by unfold Kbe.Sm; omega, by unfold Kbe.Sm; omega, by unfold Kbe.Sm; omega, by unfold Kbe.Sm; omega, fun c hc => ?_⟩
  have hm := (opn_mem hc).1
  obtain ⟨n, hn⟩ := List.getElem?_of_mem hm
  exact Kbe.cyc_ok (n := n) (h.ok.cs c hm) hM (h.ok.num n c hn) (by have := (List.getElem?_eq_some_iff.1 hn).1; omega)
theorem Kbe.acc_len (a : Av) : (Kbe.acc a).length ≤ 13 + a.l.length * 8 := by
  unfold Kbe.acc
  split
  · show 1 ≤ _; omega
  · rw [List.length_append, flat_len]; simp
theorem Kbe.subs_len {a : Nat → Av} {m : Nat} (h1 : ∀ k, k < 3 → (a k).l.length ≤ m) (h2 : ∀ k, 3 ≤ k → k < 32 → a k = Av.zero) : ∀ n, n ≤ 32 → (Kbe.subs a n).length ≤ 3 * (13 + m * 8) + n
  | 0, _ => Nat.zero_le _
  | n + 1, hn => by
    rw [Kbe.subs, List.length_append]
    by_cases h3 : n < 3
    · have e : ∀ k, k ≤ 3 → (Kbe.subs a k).length ≤ k * (13 + m * 8) := fun k => by
        induction k with
        | zero => intro _; exact Nat.zero_le _
        | succ k ih =>
          intro hk
          rw [Kbe.subs, List.length_append]
          have g1 := ih (by omega)
          have g2 := Kbe.acc_len (a k)
          have g3 := h1 k (by omega)
          rw [Nat.add_mul]
          omega
      have g := e (n + 1) (by omega)
      rw [Kbe.subs, List.length_append] at g
      have : (n + 1) * (13 + m * 8) ≤ 3 * (13 + m * 8) := Nat.mul_le_mul_right _ (by omega)
      omega
    · have g := Kbe.subs_len h1 h2 n (by omega)
      have e : (Kbe.acc (a n)).length = 1 := by rw [h2 n (by omega) (by omega)]; rfl
      omega
theorem PBok.bsm {M L td : Int} {a : Nat → Av} {ps : List Pv} (h : PBok M L td a ps) (hM : 0 ≤ M ∧ M ≤ 100000000000) (hL : L ≤ 2000) : Kbe.BSm td ps a := by
  have hd := h.day
  have hln := h.len
  have hll : ∀ k, k < 32 → (a k).l.length ≤ 2000 := fun k hk => by
    rcases h.sub k hk with g | ⟨s, kp, P, _, _, g3, g⟩
    · rw [g]; exact Nat.zero_le _
    · rw [g]
      have h1 := g3.len
      have h2 := opn_len s.l
      show (opn s.l).length ≤ 2000
      omega
  refine ⟨by unfold Kbe.Sm; omega, fun p hp => ?_, by omega, fun k hk => ⟨?_, by have := hll k hk; omega⟩, ?_⟩
  · obtain ⟨g1, g2, g3, g4⟩ := h.pok p hp
    have ha := g1.a
    have hu := g1.u
    have he := g1.e
    exact ⟨by unfold Kbe.Sm; omega, by omega, by unfold Kbe.Sm; omega, by unfold Kbe.Sm; omega⟩
  · rcases h.sub k hk with g | ⟨s, kp, P, g1, g2, g3, g⟩
    · rw [g]; exact Kbe.zero_sm
    · rw [g]
      exact Kbe.sta_sm g3 hM (by omega) g1 (by have := (List.getElem?_eq_some_iff.1 g2).1; omega)
  · unfold Kbe.book
    rw [List.length_append, List.length_append, pln_len]
    have g := Kbe.subs_len (m := 2000) (fun k hk => hll k (by omega)) h.low 32 (Nat.le_refl _)
    simp only [List.length_cons, List.length_nil]
    omega
def Camz (M L : Int) (b : Kb) (_ : Ov) (D n : Nat) (c : Kb) (_ : Int) (w' : World) : Prop := ∃ ps' b0 c0, D + 1 ≤ b0 ∧ c0 ≤ w'.heap.size ∧ (n < b0 ∨ c0 ≤ n) ∧ KbM w' b0 c0 c ps' ∧ PBok (M + 1100000000) (L + 40) c.td c.a ps' ∧ c.td ≤ b.td + 40
theorem Camz.below {M L : Int} {b : Kb} {o : Ov} {D n : Nat} {c : Kb} {x : Int} {w w' : World} (h : Camz M L b o D n c x w) (hb : Below w.heap.size w w') : Camz M L b o D n c x w' := by
  obtain ⟨ps', b0, c0, h1, h2, h3, h4, h5⟩ := h
  exact ⟨ps', b0, c0, h1, Nat.le_trans h2 hb.size, h3, h4.below (hb.mono h2), h5⟩
theorem Camz.boxed {M L : Int} {b : Kb} {o : Ov} {D n : Nat} {c : Kb} {x : Int} {w : World} {cs : Array Value} {t : TypeId} (h : Camz M L b o D n c x w) : ∃ ps', KbM (Go.Proofs.YtblikgbcakgdnaaGreat.boxed w n cs t) (D + 1) (Go.Proofs.YtblikgbcakgdnaaGreat.boxed w n cs t).heap.size c ps' ∧ PBok (M + 1100000000) (L + 40) c.td c.a ps' ∧ c.td ≤ b.td + 40 := by
  obtain ⟨ps', b0, c0, h1, h2, h3, h4, h5, h6⟩ := h
  exact ⟨ps', (h4.boxed h3).more h1 (by rw [boxed_size]; exact h2), h5, h6⟩
section
variable {M L : Int} {w : World} {b : Kb} {ps : List Pv} {o : Ov}
end
end Go.Proofs.YtblikgbcakgdnaaGreat
/-
  A book by values: its days, its plans, which subscriptions there are; what is put of it may be taken out again. No conditions but the sizes.
-/
namespace Go.Proofs.YtblikgbcakgdnaaGreat
set_option linter.unusedVariables false
set_option linter.unusedSimpArgs false
set_option maxRecDepth 100000
open Go.ChangeShapes Go.WideShapes Go.ChangeAt Go.RowKit

/-- A cycle's days are days. -/
structure CDay (c : Cv) : Prop where
  d : 0 ≤ c.d ∧ c.d ≤ 3652058
  x : 0 ≤ c.x ∧ c.x ≤ 3652065
theorem CDay.to {c : Cv} (h : CDay c) (p : Int) : CDay (c.to p) := ⟨h.d, h.x⟩
theorem CDay.back {c : Cv} (h : CDay c) : CDay c.back := by unfold Cv.back; split <;> exact h.to _
theorem CDay.card {c : Cv} (h : CDay c) : CDay c.card := by
  unfold Cv.card
  split
  · exact ⟨h.d, by dsimp only; omega⟩
  · exact h
theorem CDay.over {c : Cv} (h : CDay c) : CDay c.over := by
  unfold Cv.over
  split
  · exact ⟨h.d, by dsimp only; omega⟩
  · exact h
theorem CDay.wake {c : Cv} (h : CDay c) (y : Int) : CDay (c.wake y) := by
  unfold Cv.wake
  split
  · exact h
  · exact h.card
theorem CDay.next {c : Cv} (h : CDay c) (v y : Int) (o : Bool) (hy : 0 ≤ y ∧ y ≤ 3652058) : CDay (c.next v y o) := by
  unfold Cv.next Cv.charged Cv.allocated Cv.shipped
  repeat' split
  all_goals first
    | exact h.back
    | exact h.to _
    | exact ⟨h.d, by dsimp only; unfold Cy.delay; split <;> (try split) <;> omega⟩
theorem CDay.born {c : Cv} {n d a u : Int} {g : Bool} (hd : 0 ≤ d ∧ d ≤ 3652058) : CDay (Cy.begin_ n d a u g) := by
  unfold Cy.begin_
  split <;> exact ⟨hd, by dsimp only; omega⟩
theorem Sv.born_day {s : Sv} {p : Pv} {d : Int} {mi : Bool} (h : ∀ c ∈ s.l, CDay c) (hd : 0 ≤ d ∧ d ≤ 3652058) : (∀ c ∈ (s.born p d mi).l, CDay c) ∧ (s.born p d mi).ix = s.ix + 1 := by
  have snoc : ∀ q : Cv, CDay q → ∀ c ∈ s.l ++ [q], CDay c := fun q hq c hc => by
    rcases List.mem_append.1 hc with hc | hc
    · exact h c hc
    · rw [List.mem_singleton.1 hc]; exact hq
  have pass : CDay (⟨s.l.length, d, 10, 0, 0, 0, 0, false⟩ : Cv) := ⟨hd, by dsimp only; omega⟩
  unfold Sv.born
  split
  · exact ⟨snoc _ pass, rfl⟩
  split
  · exact ⟨snoc _ pass, rfl⟩
  split
  · exact ⟨snoc _ (CDay.born (c := ⟨0, 0, 0, 0, 0, 0, 0, false⟩) hd), rfl⟩
  · exact ⟨snoc _ (CDay.born (c := ⟨0, 0, 0, 0, 0, 0, 0, false⟩) hd), rfl⟩
theorem Sv.days_day {N : Int → Option Int} {p : Pv} {y : Int} (hN : ∀ i v, 0 ≤ i → N i = some v → 0 ≤ v ∧ v ≤ 3652058) : ∀ (f : Nat) (s : Sv), 0 ≤ s.ix → (∀ c ∈ s.l, CDay c) → ∀ c ∈ (Sv.days N p y f s).l, CDay c
  | 0, _, _, h => h
  | f + 1, s, h0, h => by
    unfold Sv.days
    split
    · exact h
    · rename_i d hd
      split
      · exact h
      · obtain ⟨g1, g2⟩ := Sv.born_day (p := p) (mi := Sv.missed p y (N (s.ix + 1))) h (hN _ _ h0 hd)
        exact Sv.days_day hN f _ (by rw [g2]; omega) g1
theorem Sv.day_day {N : Int → Option Int} {p : Pv} {y : Int} {s : Sv} (hN : ∀ i v, 0 ≤ i → N i = some v → 0 ≤ v ∧ v ≤ 3652058) (h0 : 0 ≤ s.ix) (h : ∀ c ∈ s.l, CDay c) : ∀ c ∈ (Sv.day N p y s).l, CDay c := by
  have h1 : ∀ c ∈ s.l.map (fun c => c.wake y), CDay c := fun c hc => by
    obtain ⟨q, hq, rfl⟩ := List.mem_map.1 hc
    exact (h q hq).wake y
  unfold Sv.day
  dsimp only
  split
  · exact h1
  · exact Sv.days_day hN 4000 _ h0 h1
theorem Comes.day {ps : List Pv} {y : Int} {s s' : Sv} (hc : Comes ps y s s') (h : ∀ c ∈ s.l, CDay c) : ∀ c ∈ s'.l, CDay c := by
  obtain ⟨p, pk, k, d, h1, h2, hAt, hu, he, ha, rfl⟩ := hc.ex
  refine Sv.day_day (fun i v hi hv => ?_) hc.ix.1 h
  unfold Cal.nth at hv
  split at hv
  · rename_i ho
    injection hv with hv
    rw [← hv]
    exact Cal.vN_bd hAt he.1 hi ho
  · cases hv
/-- All of a book's days are days, its plans may be. -/
structure BsD (B : Bs) : Prop where
  pls : ∀ P ∈ B.ps, P.Bok
  days : ∀ k, k < 32 → ∀ c ∈ (B.s k).l, CDay c
theorem Bs.new_d (td : Int) : BsD (Bs.new td) := ⟨fun P hP => (by cases hP), fun k hk c hc => (by cases hc)⟩
theorem right_bok {P : Pv} (h : Pn.right P.a P.u P.e P.t = 0) (hu : 0 ≤ P.u) : P.Bok := by
  have g := h
  unfold Pn.right at g
  refine ⟨?_, ?_, ?_, ?_⟩ <;> (repeat' split at g) <;> omega
theorem BsD.put {B : Bs} {i : Nat} {s : Sv} (h : BsD B) (hs : ∀ c ∈ s.l, CDay c) : BsD (B.put i s) := ⟨h.pls, fun k hk => by
  by_cases e : k = i
  · subst e; rw [Bs.put_same]; exact hs
  · rw [Bs.put_other _ _ e]; exact h.days k hk⟩
theorem Sub1.day {ps : List Pv} {P : Pv} {y : Int} {s s' : Sv} {K n : Nat} {x : Int} (h : Sub1 ps P y s K n x s') (hs : ∀ c ∈ s.l, CDay c) : ∀ c ∈ s'.l, CDay c := by
  cases h with
  | cancel_yes _ => exact fun c hc => by obtain ⟨q, hq, rfl⟩ := List.mem_map.1 hc; exact (hs q hq).over
  | card_yes _ => exact fun c hc => by obtain ⟨q, hq, rfl⟩ := List.mem_map.1 hc; exact (hs q hq).card
  | _ => exact hs
theorem Heard1.day {i : Nat} {y : Int} {s s' : Sv} {n : Nv} {x : Int} (h : Heard1 i y s n x s') (hs : ∀ c ∈ s.l, CDay c) (hy : 0 ≤ y ∧ y ≤ 3652058) : ∀ c ∈ s'.l, CDay c := by
  cases h with
  | none _ => exact hs
  | no _ _ _ _ _ _ => exact hs
  | yes m c h1 h2 h3 h4 =>
    intro q hq
    rcases List.mem_or_eq_of_mem_set hq with g | g
    · exact hs q g
    · rw [g]; exact (hs c (List.mem_of_getElem? h1)).next _ _ _ hy
theorem Outs.day {M L : Int} {B B' : Bs} {o : Ov} {x : Int} (ho : Outs M L B o x B') (hu : 0 ≤ o.P.u) (hx : x = 0) (h : BsOk M L B) (hd : BsD B) : BsD B' := by
  have hday := h.day
  cases ho with
  | def_yes P h1 h2 => exact ⟨fun Q hQ => by
      rcases List.mem_append.1 hQ with g | g
      · exact hd.pls Q g
      · rw [List.mem_singleton.1 g]; exact right_bok h1 hu, hd.days⟩
  | opn_yes i n P s' hi h1 h2 h3 D => exact hd.put ((D.comes B.ps n rfl h1).day fun c hc => by cases hc)
  | one_yes K i n s' kp P hi hK h1 h2 h3 hs => exact hd.put (hs.day (hd.days i hi))
  | hear_yes i NK C T A V s' kp P hi h1 h2 h3 hs => exact hd.put (hs.day (hd.days i hi) hday)
  | pass_yes n D hn h1 hD =>
    refine ⟨hd.pls, fun k hk => ?_⟩
    rcases hD k hk with ⟨_, g⟩ | ⟨kp, P, g1, g2, _, g4⟩
    · show ∀ c ∈ (D k).l, CDay c
      rw [g]; exact fun c hc => by cases hc
    · exact (g4.comes B.ps kp g1 g2).day (hd.days k hk)
  | one_no K i n x s' kp P hi hK h1 h2 h3 hs hx2 => exact hd
  | _ => exact hd
/-- Subscriptions from 3 on are nothing. -/
def BsLow (B : Bs) : Prop := ∀ k, 3 ≤ k → k < 32 → B.s k = Sv.zero
theorem BsLow.put {B : Bs} {i : Nat} {s : Sv} (h : BsLow B) (hi : i < 3) : BsLow (B.put i s) := fun k h3 hk => by rw [Bs.put_other _ _ (by omega)]; exact h k h3 hk
theorem BsLow.lt {M L : Int} {B : Bs} {i kp : Nat} {P : Pv} (h : BsLow B) (hi : i < 32) (h1 : (B.s i).pl = (kp : Int)) (h2 : B.ps[kp]? = some P) (h3 : Sta M L P B.td (B.s i)) : i < 3 := Nat.lt_of_not_le fun h4 => SubIs.st (M := M) (L := L) (ps := B.ps) (y := B.td) ⟨kp, P, h1, h2, h3⟩ (by rw [h i h4 hi]; rfl)
theorem Outs.low {M L : Int} {B B' : Bs} {o : Ov} {x : Int} (ho : Outs M L B o x B') (hk2 : o.k = 2 → o.s < 3) (hl : BsLow B) : BsLow B' := by
  cases ho with
  | def_yes P h1 h2 => exact hl
  | opn_yes i n P s' hi h1 h2' h3 D => exact hl.put (by have := hk2 rfl; have e : ((i : Nat) : Int) < 3 := this; omega)
  | one_yes K i n s' kp P hi hK h1 h2 h3 hs => exact hl.put (hl.lt hi h1 h2 h3)
  | hear_yes i NK C T A V s' kp P hi h1 h2 h3 hs => exact hl.put (hl.lt hi h1 h2 h3)
  | pass_yes n D hn h1 hD =>
    intro k h3 hk
    rcases hD k hk with ⟨_, g⟩ | ⟨kp, P, g1, g2, g3, _⟩
    · exact g
    · have := hl.lt hk g1 g2 g3
      omega
  | _ => exact hl
/-- What an order makes of it, right or not. -/
def Did (M L G : Int) (B : Bs) (o : Ov) (x : Int) (B' : Bs) : Prop := (o.right = 0 ∧ Outs M L B o x B' ∧ (x ≠ 0 → B' = B) ∧ (x = 0 → BsOk (M + 1100000000) (L + G) B')) ∨ (o.right ≠ 0 ∧ x = o.right ∧ B' = B)
theorem Did.total {M L G : Int} {B : Bs} {o : Ov} (h : BsOk M L B) (hM : 0 ≤ M ∧ M ≤ 100000000000) (hG : 1 ≤ G) (hL : 1 ≤ L ∧ L + 60 ≤ 9000) (hu : 0 ≤ o.P.u) (hn : o.n ≤ G) : ∃ x B', Did M L G B o x B' := by
  by_cases hr : o.right = 0
  · obtain ⟨x, B', g1, g2, g3⟩ := Outs.total h hM hG hL hr hu hn
    exact ⟨x, B', .inl ⟨hr, g1, g2, g3⟩⟩
  · exact ⟨_, _, .inr ⟨hr, rfl, rfl⟩⟩
theorem Did.ok {M L G : Int} {B B' : Bs} {o : Ov} {x : Int} (h : Did M L G B o x B') (hb : BsOk M L B) (hG : 0 ≤ G) : BsOk (M + 1100000000) (L + G) B' := by
  rcases h with ⟨_, h1, h2, h3⟩ | ⟨_, _, rfl⟩
  · by_cases hx : x = 0
    · exact h3 hx
    · rw [h2 hx]; exact hb.more (by omega) (by omega)
  · exact hb.more (by omega) (by omega)
theorem Did.day {M L G : Int} {B B' : Bs} {o : Ov} {x : Int} (h : Did M L G B o x B') (hb : BsOk M L B) (hu : 0 ≤ o.P.u) (hd : BsD B) : BsD B' := by
  rcases h with ⟨_, h1, h2, h3⟩ | ⟨_, _, rfl⟩
  · by_cases hx : x = 0
    · exact h1.day hu hx hb hd
    · rw [h2 hx]; exact hd
  · exact hd
theorem Did.low {M L G : Int} {B B' : Bs} {o : Ov} {x : Int} (h : Did M L G B o x B') (h2 : o.k = 2 → o.s < 3) (hl : BsLow B) : BsLow B' := by
  rcases h with ⟨_, h1, _, _⟩ | ⟨_, _, rfl⟩
  · exact h1.low h2 hl
  · exact hl
/-- What the program's Step answers, right or not. -/
def DidAns (x : Int) (B' : Bs) (W : World) (e : Ending) (w' : World) : Prop := ∃ c : Kb, e = .returned (.tuple #[.agg c.arr, .int .i64 x]) ∧ c.One ∧ (x = 0 → KbR w' W.heap.size w'.heap.size c B') ∧ (x ≠ 0 → c = Kb.zero) ∧ Below W.heap.size W w'
theorem did_prog {M L G : Int} {w : World} {b : Kb} {B B' : Bs} {o : Ov} {x : Int} (h : BsOk M L B) (hM : 0 ≤ M ∧ M ≤ 100000000000) (hL : 1 ≤ L ∧ L + 60 ≤ 9000) (hd : Did M L G B o x B') (hk : KbR w 0 w.heap.size b B) : Calls Tryz.prog 14 #[.agg b.arr, .agg o.kb] w (DidAns x B' w) := by
  rcases hd with ⟨hr, h1, h2, h3⟩ | ⟨hr, rfl, rfl⟩
  · refine (outs_prog h hM hL h1 hr hk).mono ?_
    rintro e w' ⟨g1, g2⟩
    by_cases hx : x = 0
    · obtain ⟨c, rfl, hc, hb⟩ := g2 hx
      subst hx
      exact ⟨c, rfl, hc.km.one, fun _ => hc, fun e => absurd rfl e, hb⟩
    · obtain ⟨rfl, hb⟩ := g1 hx
      exact ⟨Kb.zero, rfl, Kb.zero_one, fun e => absurd e hx, fun _ => rfl, hb⟩
  · exact (bkstep_wrong rfl hr).mono fun e w' ⟨he, hb⟩ => ⟨Kb.zero, he, Kb.zero_one, fun g => absurd g hr, fun _ => rfl, hb⟩
/-- What is asked. -/
theorem BsOk.asked {M L : Int} {B : Bs} {a : Nat → Av} (h : BsOk M L B) (ha : ∀ k, k < 32 → a k = (B.s k).tell) (hM : M ≤ 100000000000) : ∀ m ∈ asksK a 32, (∃ j : Nat, j < 32 ∧ m.s = (j : Int)) ∧ 0 ≤ m.t ∧ m.t ≤ 1000000 := fun m hm => by
  obtain ⟨k, hk, hm2⟩ := asksK_mem 32 hm
  obtain ⟨c, hc, hka, rfl⟩ := asksOf_mem hm2
  have hk0 : Cy.kind c.p ≠ 0 := by unfold Cv.asks at hka; simpa using hka
  rw [ha k hk] at hc
  rcases h.sub k hk with g | ⟨kp, P, _, _, hs⟩
  · rw [g] at hc; cases hc
  · have := (hs.ok.us hM c (opn_mem hc).1).2
    unfold Cv.ask
    rw [if_neg hk0]
    refine ⟨⟨k, hk, rfl⟩, ?_⟩
    dsimp only
    split <;> omega
/-- An order of the laws' forms: its numbers. -/
theorem OForm.num {o : Ov} (h : OForm o) : 0 ≤ o.P.u ∧ o.n ≤ 40 ∧ (o.k = 2 → o.s < 3) := by
  cases h with
  | def_ P hP hpr => exact ⟨hP.1.u.1, (by show (0 : Int) ≤ 40; decide), fun e => absurd e (by show (1 : Int) ≠ 2; decide)⟩
  | opn_ i n hi => exact ⟨Int.le_refl 0, (by show (0 : Int) ≤ 40; decide), fun _ => by show (i : Int) < 3; omega⟩
  | chg i n hi => exact ⟨Int.le_refl 0, (by show (0 : Int) ≤ 40; decide), fun e => absurd e (by show (3 : Int) ≠ 2; decide)⟩
  | one k hk i hi => exact ⟨Int.le_refl 0, (by show (0 : Int) ≤ 40; decide), fun e => by have : k = 2 := e; omega⟩
  | pass n hn => exact ⟨Int.le_refl 0, hn.2, fun e => absurd e (by show (9 : Int) ≠ 2; decide)⟩
  | hear NK i m T M V hi => exact ⟨Int.le_refl 0, (by show (0 : Int) ≤ 40; decide), fun e => absurd e (by show (10 : Int) ≠ 2; decide)⟩
/-- Its bytes are small enough. -/
theorem BsOk.bsm {M L : Int} {B : Bs} (h : BsOk M L B) (hl : BsLow B) (hM : 0 ≤ M ∧ M ≤ 100000000000) (hL : L ≤ 2100) : Kbe.BSm B.td B.ps (fun k => (B.s k).tell) := by
  have hd := h.day
  have hln := h.len
  have hll : ∀ k, k < 32 → (B.s k).tell.l.length ≤ 2100 := fun k hk => by
    rcases h.sub k hk with g | ⟨kp, P, _, _, g3⟩
    · rw [g]; exact Nat.zero_le _
    · have h1 := g3.len
      have h2 := opn_len (B.s k).l
      show (opn (B.s k).l).length ≤ 2100
      omega
  refine ⟨by unfold Kbe.Sm; omega, fun p hp => ?_, by omega, fun k hk => ⟨?_, by have := hll k hk; show (B.s k).tell.l.length ≤ _; omega⟩, ?_⟩
  · obtain ⟨g1, g3, g4⟩ := h.pok p hp
    have ha := g1.a
    have hu := g1.u
    have he := g1.e
    exact ⟨by unfold Kbe.Sm; omega, by omega, by unfold Kbe.Sm; omega, by unfold Kbe.Sm; omega⟩
  · rcases h.sub k hk with g | ⟨kp, P, g1, g2, g3⟩
    · show Kbe.ASm (B.s k).tell
      rw [g]; exact Kbe.zero_sm
    · exact Kbe.sta_sm g3 hM (by omega) g1 (by have := (List.getElem?_eq_some_iff.1 g2).1; omega)
  · unfold Kbe.book
    rw [List.length_append, List.length_append, pln_len]
    have g := Kbe.subs_len (a := fun k => (B.s k).tell) (m := 2100) (fun k hk => hll k (by omega)) (fun k h3 hk => by show (B.s k).tell = _; rw [hl k h3 hk]; rfl) 32 (Nat.le_refl _)
    simp only [List.length_cons, List.length_nil]
    omega
theorem BsOk.cnt {M L : Int} {B : Bs} (h : BsOk M L B) (hl : BsLow B) (hL : L ≤ 2100) : (Kbe.book B.td B.ps (fun k => (B.s k).tell)).length ≤ 60000 := by
  have hln := h.len
  have hll : ∀ k, k < 32 → (B.s k).tell.l.length ≤ 2100 := fun k hk => by
    rcases h.sub k hk with g | ⟨kp, P, _, _, g3⟩
    · rw [g]; exact Nat.zero_le _
    · have h1 := g3.len
      have h2 := opn_len (B.s k).l
      show (opn (B.s k).l).length ≤ 2100
      omega
  unfold Kbe.book
  rw [List.length_append, List.length_append, pln_len]
  have g := Kbe.subs_len (a := fun k => (B.s k).tell) (m := 2100) (fun k hk => hll k (by omega)) (fun k h3 hk => by show (B.s k).tell = _; rw [hl k h3 hk]; rfl) 32 (Nat.le_refl _)
  simp only [List.length_cons, List.length_nil]
  omega
end Go.Proofs.YtblikgbcakgdnaaGreat
/-
  A later day at once, or by a day between: where nothing waits, and no period is missed, it is the same. No conditions but the sizes.
-/
namespace Go.Proofs.YtblikgbcakgdnaaGreat
set_option linter.unusedVariables false
set_option linter.unusedSimpArgs false
set_option maxRecDepth 100000
open Go.ChangeShapes Go.WideShapes Go.ChangeAt Go.RowKit

theorem Cal.At.one {a k d k' d' : Int} (h : Cal.At a k d) (h' : Cal.At a k' d') : k = k' ∧ d = d' := by
  have h1 := h.le h' (Int.le_refl _)
  have h2 := h'.le h (Int.le_refl _)
  have e : k = k' := by omega
  subst e
  have := h.eq
  have := h'.eq
  exact ⟨rfl, by omega⟩
/-- A book of so many plans, of which the first ones have been opened. -/
structure Pq (m i : Nat) (td : Int) (a : Nat → Av) (ps : List Pv) : Prop where
  day : 700000 ≤ td ∧ td ≤ 800000
  len : ps.length = m
  pok : ∀ P ∈ ps, (P.Ok ∧ P.e ≤ 12 ∧ 0 ≤ P.t ∧ P.t ≤ 1000) ∧ P.l = false
  no : ∀ k, i ≤ k → k < 32 → a k = Av.zero
  yes : ∀ k, k < i → ∃ (s : Sv) (P : Pv), ps[k]? = some P ∧ s.pl = (k : Int) ∧ Sta 1100000000 1 P td s ∧ s.st = 1 ∧ s.tell.Calm ∧ a k = s.tell
theorem Pq.lens {m i : Nat} {td : Int} {a : Nat → Av} {ps : List Pv} (h : Pq m i td a ps) : ∀ k, k < 32 → (a k).l.length ≤ 9000 := fun k hk => by
  by_cases hi : k < i
  · obtain ⟨s, P, _, _, hs, _, _, g⟩ := h.yes k hi
    rw [g]; exact (hs.lens (by omega)).2
  · rw [h.no k (by omega) hk]; exact Nat.zero_le _
theorem Pq.congr {m i : Nat} {td td' : Int} {a a' : Nat → Av} {ps : List Pv} (h : Pq m i td a ps) (hi : i ≤ 32) (ht : td' = td) (he : ∀ k, k < 32 → a' k = a k) : Pq m i td' a' ps := by
  subst ht
  exact ⟨h.day, h.len, h.pok, fun k h1 h2 => (he k h2).trans (h.no k h1 h2), fun k hk => by
    obtain ⟨s, P, g1, g2, g3, g4, g5, g6⟩ := h.yes k hk
    exact ⟨s, P, g1, g2, g3, g4, g5, (he k (by omega)).trans g6⟩⟩
theorem Pq.def_ {m : Nat} {td : Int} {a : Nat → Av} {ps : List Pv} {P : Pv} (h : Pq m m td a ps) (hP : (P.Ok ∧ P.e ≤ 12 ∧ 0 ≤ P.t ∧ P.t ≤ 1000) ∧ P.l = false) : Pq (m + 1) m td a (ps ++ [P]) :=
  ⟨h.day, by rw [List.length_append, h.len]; rfl, fun Q hQ => by
    rcases List.mem_append.1 hQ with g | g
    · exact h.pok Q g
    · rw [List.mem_singleton.1 g]; exact hP, h.no, fun k hk => by
    obtain ⟨s, Q, g1, g2⟩ := h.yes k hk
    exact ⟨s, Q, by rw [List.getElem?_append_left (List.getElem?_eq_some_iff.1 g1).1]; exact g1, g2⟩⟩
section
variable {m i : Nat} {w : World} {b : Kb} {ps : List Pv}
end
/-- A book's bytes, as a string at any later world. -/
theorem encode_str {w : World} {b : Kb} {ps : List Pv} {EB : ByteArray} (h : KbM w 0 w.heap.size b ps) (hs : Kbe.BSm b.td ps b.a) (hE : bst (Pk.encs (Kbe.book b.td ps b.a)) = EB) : Calls Tryz.prog 17 #[.agg b.arr] w fun e w' => ∃ v, e = .returned v ∧ Hid (∀ V, Below w'.heap.size w' V → (convert 63 9 v).run Tryz.prog V = .ok (.string EB) V) ∧ Below w.heap.size w w' := by
  refine (encode_any h hs).mono ?_
  intro e w' hO
  obtain ⟨A, n, c, rfl, HN, _, HB, HR, _, _⟩ := hO.open_
  exact ⟨_, rfl, Lib.hid fun V hV => by rw [← hE]; exact conv_len V A _ c n _ (HR.out.below hV) HN.out, HB.out⟩
end Go.Proofs.YtblikgbcakgdnaaGreat
