/-
  A subscription of the document's as it may stand, whatever has been done to it: no memory. No conditions but those that each law names.
-/
import Derived.Test.YtblikgbcakgdnaaGreatBr07
import Derived.Test.YtblikgbcakgdnaaGreatBr15
import Derived.Test.YtblikgbcakgdnaaGreatBr20
import Derived.Test.YtblikgbcakgdnaaGreatBr30
set_option linter.unusedSimpArgs false
set_option linter.unusedVariables false
namespace Go.Proofs.YtblikgbcakgdnaaGreat
set_option linter.unusedVariables false
set_option linter.unusedSimpArgs false
set_option maxRecDepth 100000
open Go.ChangeShapes Go.WideShapes Go.ChangeAt Go.RowKit

/-- How much of the credit lies in open cycles, whatever its sign. -/
def absI (x : Int) : Int := if 0 ≤ x then x else -x
theorem absI_bd (x : Int) : 0 ≤ absI x ∧ x ≤ absI x ∧ -x ≤ absI x := by unfold absI; split <;> omega
theorem absI_add (x y : Int) : absI (x + y) ≤ absI x + absI y := by unfold absI; split <;> split <;> split <;> omega
def sumA : List Cv → Int
  | [] => 0
  | c :: r => (if c.p < 7 then absI c.u else 0) + sumA r
theorem sumA_cons (c : Cv) (r : List Cv) : sumA (c :: r) = (if c.p < 7 then absI c.u else 0) + sumA r := rfl
theorem sumA_append (a b : List Cv) : sumA (a ++ b) = sumA a + sumA b := by
  induction a with
  | nil => simp [sumA]
  | cons c r ih => rw [List.cons_append, sumA_cons, sumA_cons, ih]; omega
theorem sumA_nn (l : List Cv) : 0 ≤ sumA l := by
  induction l with
  | nil => exact Int.le_refl _
  | cons c r ih =>
    rw [sumA_cons]
    have := absI_bd c.u
    split <;> omega
/-- What a cycle may become: one at its end stays; its credit stays. -/
structure Turns (f : Cv → Cv) (l : List Cv) : Prop where
  ends : ∀ c ∈ l, ¬ c.p < 7 → f c = c
  us : ∀ c ∈ l, (f c).u = c.u
theorem Turns.tail {f : Cv → Cv} {c : Cv} {r : List Cv} (h : Turns f (c :: r)) : Turns f r := ⟨fun q hq => h.ends q (List.mem_cons_of_mem _ hq), fun q hq => h.us q (List.mem_cons_of_mem _ hq)⟩
theorem po_map {f : Cv → Cv} : ∀ (l : List Cv) (cr : Int), Turns f l → absI (cr + gainOf f l) + sumA (l.map f) ≤ absI cr + sumA l
  | [], cr, _ => by show absI (cr + 0) + 0 ≤ absI cr + 0; rw [Int.add_zero cr]; exact Int.le_refl _
  | c :: r, cr, h => by
    rw [gain_cons, List.map_cons, sumA_cons, sumA_cons]
    have hu := h.us c List.mem_cons_self
    have hb := absI_bd c.u
    by_cases hc : c.p < 7
    ·
      by_cases h8 : (f c).p = 8 ∨ (f c).p = 9
      · have hp : ¬ (f c).p < 7 := by omega
        rw [if_pos ⟨h8, hc⟩, if_neg hp, if_pos hc, hu, ← Int.add_assoc cr c.u]
        have h1 := po_map r (cr + c.u) h.tail
        have h2 := absI_add cr c.u
        omega
      · rw [if_neg (fun g => h8 g.1), Int.zero_add, hu, if_pos hc]
        have h1 := po_map r cr h.tail
        split <;> omega
    · rw [if_neg (fun g => hc g.2), if_neg hc, h.ends c List.mem_cons_self hc, if_neg hc, Int.zero_add]
      have h1 := po_map r cr h.tail
      omega
/-- A cycle as it may stand. -/
structure COk (M : Int) (c : Cv) : Prop where
  p0 : 1 ≤ c.p
  p1 : c.p ≤ 10
  t0 : 0 ≤ c.t
  t1 : c.t ≤ 4
  c1 : c.p = 1 → 1 ≤ c.t
  c2 : c.p = 2 → 1 ≤ c.t ∧ c.t ≤ 3
  a0 : 0 ≤ c.a
  a1 : c.a ≤ M + 1100000000
  u0 : -M ≤ c.u
  u1 : c.u ≤ M
  d0 : -10000000 ≤ c.d
  d1 : c.d ≤ 10000000
  x0 : -10000000 ≤ c.x
  x1 : c.x ≤ 10000000
theorem COk.more {M M' : Int} {c : Cv} (h : COk M c) (hm : M ≤ M') : COk M' c :=
  ⟨h.p0, h.p1, h.t0, h.t1, h.c1, h.c2, h.a0, by have := h.a1; omega, by have := h.u0; omega, by have := h.u1; omega, h.d0, h.d1, h.x0, h.x1⟩
theorem COk.card {M : Int} {c : Cv} (h : COk M c) : COk M c.card := by
  unfold Cv.card
  split
  · rename_i e
    have := h.c2 e
    exact ⟨by dsimp only; omega, by dsimp only; omega, by dsimp only; omega, by dsimp only; omega, fun _ => by dsimp only; omega, fun g => by dsimp only at g; omega, h.a0, h.a1, h.u0, h.u1, h.d0, h.d1, by dsimp only; omega, by dsimp only; omega⟩
  · exact h
theorem COk.wake {M : Int} {c : Cv} (h : COk M c) (y : Int) : COk M (c.wake y) := by
  unfold Cv.wake
  split
  · exact h
  · exact h.card
theorem COk.over {M : Int} {c : Cv} (h : COk M c) : COk M c.over := by
  unfold Cv.over
  split
  · exact ⟨by dsimp only; omega, by dsimp only; omega, h.t0, h.t1, fun g => by dsimp only at g; omega, fun g => by dsimp only at g; omega, h.a0, h.a1, h.u0, h.u1, h.d0, h.d1, by dsimp only; omega, by dsimp only; omega⟩
  · exact h
theorem COk.to {M : Int} {c : Cv} (h : COk M c) {q : Int} (q0 : 3 ≤ q) (q1 : q ≤ 10) : COk M (c.to q) :=
  ⟨by show 1 ≤ q; omega, q1, h.t0, h.t1, fun g => by have : q = 1 := g; omega, fun g => by have : q = 2 := g; omega, h.a0, h.a1, h.u0, h.u1, h.d0, h.d1, h.x0, h.x1⟩
theorem COk.back {M : Int} {c : Cv} (h : COk M c) : COk M c.back := by
  unfold Cv.back
  split
  · exact h.to (by omega) (by omega)
  · exact h.to (by omega) (by omega)
theorem COk.next {M : Int} {c : Cv} (h : COk M c) (v y : Int) (o : Bool) (hy : -1000000 ≤ y ∧ y ≤ 9000000) : COk M (c.next v y o) := by
  unfold Cv.next
  split
  · rename_i e
    have h1 := h.c1 e
    unfold Cv.charged
    split
    · cases o
      · refine h.to ?_ ?_ <;> (unfold Cy.paid; split <;> omega)
      · exact h.back
    split
    · rename_i e2
      exact ⟨by dsimp only; omega, by dsimp only; omega, h.t0, h.t1, fun g => by dsimp only at g; omega, fun _ => by dsimp only; omega, h.a0, h.a1, h.u0, h.u1, h.d0, h.d1, by dsimp only; unfold Cy.delay; split <;> (try split) <;> omega, by dsimp only; unfold Cy.delay; split <;> (try split) <;> omega⟩
    · exact h.to (by omega) (by omega)
  split
  · unfold Cv.allocated
    split
    · cases o
      · exact h.to (by omega) (by omega)
      · exact h.to (by omega) (by omega)
    · exact h.back
  split
  · unfold Cv.shipped
    split
    · exact h.to (by omega) (by omega)
    · exact h.to (by omega) (by omega)
  split
  · exact h.back
  · exact h.to (by omega) (by omega)
theorem next_same (c : Cv) (v y : Int) (o : Bool) : (c.next v y o).u = c.u ∧ (c.next v y o).n = c.n := by
  unfold Cv.next Cv.charged Cv.allocated Cv.shipped Cv.back Cv.to
  repeat' split
  all_goals exact ⟨rfl, rfl⟩
theorem card_same (c : Cv) : c.card.u = c.u ∧ c.card.n = c.n := by unfold Cv.card; split <;> exact ⟨rfl, rfl⟩
theorem wake_same (c : Cv) (y : Int) : (c.wake y).u = c.u ∧ (c.wake y).n = c.n := by unfold Cv.wake; split; exact ⟨rfl, rfl⟩; exact card_same c
theorem over_same' (c : Cv) : c.over.u = c.u ∧ c.over.n = c.n := by unfold Cv.over; split <;> exact ⟨rfl, rfl⟩
theorem begin_ok {M n d a u : Int} {g : Bool} (a0 : 0 ≤ a) (a1 : a ≤ M + 1100000000) (u0 : -M ≤ u) (u1 : u ≤ M) (hd : -10000000 ≤ d ∧ d ≤ 10000000) : COk M (Cy.begin_ n d a u g) ∧ (Cy.begin_ n d a u g).n = n ∧ (Cy.begin_ n d a u g).u = u := by
  unfold Cy.begin_ Cy.paid
  by_cases h : a = 0
  · rw [if_pos h]
    cases g
    · exact ⟨⟨by simp, by simp, by simp, by simp, by simp, by simp, a0, a1, u0, u1, hd.1, hd.2, by simp, by simp⟩, rfl, rfl⟩
    · exact ⟨⟨by simp, by simp, by simp, by simp, by simp, by simp, a0, a1, u0, u1, hd.1, hd.2, by simp, by simp⟩, rfl, rfl⟩
  · rw [if_neg h]
    exact ⟨⟨by simp, by simp, by simp, by simp, by simp, by simp, a0, a1, u0, u1, hd.1, hd.2, by simp, by simp⟩, rfl, rfl⟩
/-- A subscription as it may stand, but for its days. -/
structure SOk (M : Int) (s : Sv) : Prop where
  st : s.st = 1 ∨ s.st = 2 ∨ s.st = 3
  num : ∀ (k : Nat) (c : Cv), s.l[k]? = some c → c.n = (k : Int)
  cs : ∀ c ∈ s.l, COk M c
  po : absI s.cr + sumA s.l ≤ M
  ix0 : 0 ≤ s.ix
  ix1 : s.ix ≤ s.l.length
theorem SOk.cr {M : Int} {s : Sv} (h : SOk M s) : -M ≤ s.cr ∧ s.cr ≤ M := by
  have h1 := absI_bd s.cr
  have h2 := sumA_nn s.l
  have := h.po
  omega
/-- All cycles turn. -/
theorem SOk.map {M : Int} {s : Sv} (h : SOk M s) {f : Cv → Cv} (hf : Turns f s.l) (hn : ∀ c ∈ s.l, (f c).n = c.n) (hc : ∀ c ∈ s.l, COk M (f c)) (st' : Int) (hst : st' = 1 ∨ st' = 2 ∨ st' = 3) : SOk M { s with st := st', cr := s.cr + gainOf f s.l, l := s.l.map f } := by
  refine ⟨hst, fun k c hk => ?_, fun c hcm => ?_, Int.le_trans (po_map s.l s.cr hf) h.po, h.ix0, by show s.ix ≤ ((s.l.map f).length : Int); rw [List.length_map]; exact h.ix1⟩
  · rw [List.getElem?_map] at hk
    cases hq : s.l[k]? with
    | none => rw [hq] at hk; cases hk
    | some q =>
      rw [hq] at hk
      injection hk with hk
      rw [← hk, hn q (List.mem_of_getElem? hq)]
      exact h.num k q hq
  · obtain ⟨q, hq, rfl⟩ := List.mem_map.1 hcm
    exact hc q hq
theorem gain_open {f : Cv → Cv} {l : List Cv} (h : ∀ c ∈ l, c.p < 7 → (f c).p < 7) : gainOf f l = 0 := by
  induction l with
  | nil => rfl
  | cons c r ih =>
    rw [gain_cons, ih (fun q hq => h q (List.mem_cons_of_mem _ hq)), if_neg, Int.zero_add]
    rintro ⟨g1, g2⟩
    have := h c List.mem_cons_self g2
    omega
/-- A period begins. -/
theorem SOk.born {M : Int} {s : Sv} (h : SOk M s) {p : Pv} (hp : 0 ≤ p.a ∧ p.a ≤ 1100000000) (d : Int) (mi : Bool) (hd : -10000000 ≤ d ∧ d ≤ 10000000) : SOk M (s.born p d mi) := by
  have hcr := h.cr
  have hM : 0 ≤ M := by omega
  have snoc : ∀ (s' : Sv) (c : Cv), s'.l = s.l → (s'.st = 1 ∨ s'.st = 2 ∨ s'.st = 3) → COk M c → c.n = (s.l.length : Int) → absI s'.cr + (if c.p < 7 then absI c.u else 0) ≤ absI s.cr → s'.ix = s.ix → SOk M { s' with ix := s'.ix + 1, l := s'.l ++ [c] } := by
    intro s' c hl hst hc hn hpo hix
    refine ⟨hst, fun k q hk => ?_, fun q hq => ?_, ?_, by show 0 ≤ s'.ix + 1; rw [hix]; have := h.ix0; omega, ?_⟩
    · dsimp only at hk
      rw [hl] at hk
      by_cases hlt : k < s.l.length
      · rw [List.getElem?_append_left hlt] at hk; exact h.num k q hk
      · rw [List.getElem?_append_right (by omega)] at hk
        have hk0 : k - s.l.length = 0 := by
          have := (List.getElem?_eq_some_iff.1 hk).1
          simp at this
          omega
        rw [hk0] at hk
        injection hk with hk
        rw [← hk, hn]
        omega
    · dsimp only at hq
      rw [hl] at hq
      rcases List.mem_append.1 hq with hq | hq
      · exact h.cs q hq
      · rw [List.mem_singleton.1 hq]; exact hc
    · show absI s'.cr + sumA (s'.l ++ [c]) ≤ M
      rw [hl, sumA_append, sumA_cons]
      show absI s'.cr + (sumA s.l + ((if c.p < 7 then absI c.u else 0) + 0)) ≤ M
      have := h.po
      omega
    · show s'.ix + 1 ≤ ((s'.l ++ [c]).length : Int)
      rw [hl, hix, List.length_append]
      have := h.ix1
      simp
      omega
  have pass : COk M (⟨s.l.length, d, 10, 0, 0, 0, 0, false⟩ : Cv) := ⟨by simp, by simp, by simp, by simp, by simp, by simp, by simp, by dsimp only; omega, by dsimp only; omega, by dsimp only; omega, hd.1, hd.2, by simp, by simp⟩
  unfold Sv.born
  split
  · exact snoc s _ rfl h.st pass rfl (by rw [if_neg (by simp)]; omega) rfl
  split
  · exact snoc { s with sk := false } _ rfl h.st pass rfl (by rw [if_neg (by simp)]; show absI s.cr + 0 ≤ absI s.cr; omega) rfl
  have hab := absI_bd s.cr
  split
  · obtain ⟨b1, b2, b3⟩ := begin_ok (M := M) (n := s.l.length) (d := d) (a := 0) (u := p.a) (g := p.g) (by omega) (by omega) (by omega) (by omega) hd
    refine snoc { s with cr := s.cr - p.a } _ rfl h.st b1 b2 ?_ rfl
    rw [b3]
    show absI (s.cr - p.a) + _ ≤ _
    have e1 : absI (s.cr - p.a) = s.cr - p.a := if_pos (by omega)
    have e2 : absI p.a = p.a := if_pos hp.1
    rw [e1, e2]
    split <;> omega
  · obtain ⟨b1, b2, b3⟩ := begin_ok (M := M) (n := s.l.length) (d := d) (a := p.a - s.cr) (u := s.cr) (g := p.g) (by omega) (by omega) (by omega) (by omega) hd
    refine snoc { s with cr := 0 } _ rfl h.st b1 b2 ?_ rfl
    rw [b3]
    show absI 0 + _ ≤ _
    have e1 : absI 0 = 0 := rfl
    rw [e1]
    split <;> omega
theorem SOk.days {M : Int} {N : Int → Option Int} {p : Pv} {y : Int} (hp : 0 ≤ p.a ∧ p.a ≤ 1100000000) (hN : ∀ i d, 0 ≤ i → N i = some d → -10000000 ≤ d ∧ d ≤ 10000000) : ∀ (f : Nat) (s : Sv), SOk M s → SOk M (Sv.days N p y f s)
  | 0, _, h => h
  | f + 1, s, h => by
    unfold Sv.days
    split
    · exact h
    · rename_i d hd
      split
      · exact h
      · exact SOk.days hp hN f _ (h.born hp _ _ (hN _ _ h.ix0 hd))
end Go.Proofs.YtblikgbcakgdnaaGreat
/-
  The document's Day and the program's, and what both keep: no memory. No conditions but those that each law names.
-/
namespace Go.Proofs.YtblikgbcakgdnaaGreat
set_option linter.unusedVariables false
set_option linter.unusedSimpArgs false
set_option maxRecDepth 100000
open Go.ChangeShapes Go.WideShapes Go.ChangeAt Go.RowKit

/-- Up to a day so many periods have begun: as the document counts them. -/
theorem Cal.Cnt.count {u a k d e y c : Int} (h : Cal.Cnt u a k d e y c) (he : 1 ≤ e) : Count (Cal.nth a k d u e) (Cal.vN u a k d e) y c := by
  refine ⟨h.nn, fun n h0 h1 => ?_, fun n hn => ?_⟩
  · obtain ⟨g1, g2⟩ := h.all n h0 h1
    refine ⟨?_, g2⟩
    unfold Cal.nth
    rw [if_pos g1]
  · subst hn
    unfold Cal.nth
    cases ho : Cal.okN u a k e n with
    | false => left; rfl
    | true => right; exact ⟨_, rfl, h.out ho⟩
/-- Periods that begin behind a day are no more than the days. -/
theorem Cal.Cnt.far {u a k d e y y' c c' : Int} (h : Cal.Cnt u a k d e y c) (h' : Cal.Cnt u a k d e y' c') (ha : Cal.At a k d) (he : 1 ≤ e) (hy : y ≤ y') : c ≤ c' ∧ c' - c ≤ y' - y := by
  have far : ∀ (j : Nat), c + (j : Int) < c' → y + (j : Int) + 1 ≤ Cal.vN u a k d e (c + (j : Int)) := by
    intro j
    induction j with
    | zero =>
      intro hj
      have h1 := h'.all c h.nn (by omega)
      have := h.out h1.1
      rw [show c + ((0 : Nat) : Int) = c by omega]
      omega
    | succ j ih =>
      intro hj
      have h1 := ih (by omega)
      have := Cal.vN_lt (u := u) ha he (show c + (j : Int) < c + ((j + 1 : Nat) : Int) by omega)
      omega
  refine ⟨?_, ?_⟩
  · apply Int.le_of_not_gt
    intro g
    obtain ⟨g1, g2⟩ := h.all c' h'.nn (by omega)
    have := h'.out g1
    omega
  · apply Int.le_of_not_gt
    intro g
    have hcc : 0 ≤ c' - c - 1 ∨ c' - c - 1 < 0 := by omega
    rcases hcc with hcc | hcc
    · obtain ⟨j, hj⟩ := Int.eq_ofNat_of_zero_le hcc
      have h1 := far j (by omega)
      have h2 := (h'.all (c + (j : Int)) (by have := h.nn; omega) (by omega)).2
      omega
    · omega
theorem born_ix (s : Sv) (p : Pv) (d : Int) (mi : Bool) : (s.born p d mi).ix = s.ix + 1 ∧ (s.born p d mi).l.length = s.l.length + 1 ∧ (s.born p d mi).st = s.st ∧ (s.born p d mi).an = s.an ∧ (s.born p d mi).pl = s.pl := by
  unfold Sv.born
  repeat' split
  all_goals exact ⟨rfl, by simp, rfl, rfl, rfl⟩
/-- What so many periods leave. -/
theorem days_ix {N : Int → Option Int} {V : Int → Int} {y c : Int} {p : Pv} (h : Count N V y c) : ∀ (r f : Nat) (s : Sv), 0 ≤ s.ix → (c - s.ix).toNat = r → s.ix ≤ c → r ≤ f → (Sv.days N p y f s).ix = c ∧ (Sv.days N p y f s).l.length = s.l.length + r ∧ (Sv.days N p y f s).st = s.st ∧ (Sv.days N p y f s).an = s.an ∧ (Sv.days N p y f s).pl = s.pl
  | 0, 0, s, _, h1, h2, _ => ⟨by show s.ix = c; omega, rfl, rfl, rfl, rfl⟩
  | 0, f + 1, s, h0, h1, h2, _ => by
    unfold Sv.days
    rcases h.out s.ix (by omega) with h3 | ⟨d, h3, h4⟩
    · rw [h3]; exact ⟨by show s.ix = c; omega, rfl, rfl, rfl, rfl⟩
    · rw [h3]; dsimp only; rw [if_pos h4]; exact ⟨by omega, rfl, rfl, rfl, rfl⟩
  | r + 1, 0, s, _, _, _, h3 => by omega
  | r + 1, f + 1, s, h0, h1, h2, h3 => by
    obtain ⟨g1, g2⟩ := h.all s.ix h0 (by omega)
    have e : Sv.days N p y (f + 1) s = Sv.days N p y f (s.born p (V s.ix) (Sv.missed p y (N (s.ix + 1)))) := by
      show (match N s.ix with
        | none => s
        | some d => if y < d then s else Sv.days N p y f (s.born p d (Sv.missed p y (N (s.ix + 1))))) = _
      rw [g1]
      dsimp only
      rw [if_neg (by omega)]
    obtain ⟨b1, b2, b3, b4, b5⟩ := born_ix s p (V s.ix) (Sv.missed p y (N (s.ix + 1)))
    obtain ⟨i1, i2, i3, i4, i5⟩ := days_ix h r f (s.born p (V s.ix) (Sv.missed p y (N (s.ix + 1)))) (by omega) (by omega) (by omega) (by omega)
    rw [e]
    exact ⟨i1, by omega, i3.trans b3, i4.trans b4, i5.trans b5⟩
theorem wake_ends (y : Int) (c : Cv) (h : ¬ c.p < 7) : c.wake y = c := by
  unfold Cv.wake Cv.card
  split
  · rfl
  · rw [if_neg (by omega)]
theorem wake_open (y : Int) (c : Cv) (h : c.p < 7) : (c.wake y).p < 7 := by
  unfold Cv.wake Cv.card
  split
  · exact h
  · split
    · show (1 : Int) < 7; omega
    · exact h
/-- All cycles are looked at, whether they try again. -/
def Sv.woken (s : Sv) (y : Int) : Sv := { s with l := s.l.map (fun c => c.wake y) }
theorem SOk.woken {M : Int} {s : Sv} (h : SOk M s) (y : Int) : SOk M (s.woken y) := by
  have hg : gainOf (fun c => c.wake y) s.l = 0 := gain_open (fun c _ hc => wake_open y c hc)
  have := h.map (f := fun c => c.wake y) ⟨fun c _ hc => wake_ends y c hc, fun c _ => (wake_same c y).1⟩ (fun c _ => (wake_same c y).2) (fun c hc => (h.cs c hc).wake y) s.st h.st
  rw [hg, Int.add_zero] at this
  exact this
/-- The document's Day, as the program has it. -/
theorem tell_day {u k d e y c : Int} {p : Pv} {s : Sv} (hpu : p.u = u) (hpe : p.e = e) (hc : Cal.Cnt u s.an k d e y c) (he : 1 ≤ e) (hix : 0 ≤ s.ix) (h1 : s.st ≠ 3 → s.ix ≤ c ∧ c - s.ix ≤ 4000) : Sv.tell (Sv.day (Cal.nth s.an k d u e) p y s) = Av.day (Cal.vN u s.an k d e) p c y (Sv.tell s) := by
  have hw : Sv.tell (s.woken y) = (Sv.tell s).each (fun c => c.wake y) := tell_each_open s _ (fun c _ hc => wake_ends y c hc) (fun c _ hc => wake_open y c hc)
  unfold Sv.day Av.day
  show Sv.tell (if s.st = 3 then s.woken y else Sv.days (Cal.nth s.an k d u e) p y 4000 (s.woken y)) = if s.st = 3 then _ else Av.runs _ p c (c - s.ix).toNat _
  by_cases h3 : s.st = 3
  · rw [if_pos h3, if_pos h3]; exact hw
  · obtain ⟨g1, g2⟩ := h1 h3
    rw [if_neg h3, if_neg h3, tell_days (hc.count he) (c - s.ix).toNat 4000 (s.woken y) hix rfl g1 (by omega), hw]
theorem day_ix {u k d e y c : Int} {p : Pv} {s : Sv} (hc : Cal.Cnt u s.an k d e y c) (he : 1 ≤ e) (hix : 0 ≤ s.ix) (h1 : s.st ≠ 3 → s.ix ≤ c ∧ c - s.ix ≤ 4000) : (s.st ≠ 3 → (Sv.day (Cal.nth s.an k d u e) p y s).ix = c) ∧ (s.l.length : Int) ≤ (Sv.day (Cal.nth s.an k d u e) p y s).l.length ∧ ((Sv.day (Cal.nth s.an k d u e) p y s).l.length : Int) ≤ s.l.length + (if s.st = 3 then 0 else c - s.ix) ∧ (Sv.day (Cal.nth s.an k d u e) p y s).st = s.st ∧ (Sv.day (Cal.nth s.an k d u e) p y s).an = s.an ∧ (Sv.day (Cal.nth s.an k d u e) p y s).pl = s.pl := by
  have hl : (s.woken y).l.length = s.l.length := List.length_map _
  have e : Sv.day (Cal.nth s.an k d u e) p y s = if s.st = 3 then s.woken y else Sv.days (Cal.nth s.an k d u e) p y 4000 (s.woken y) := rfl
  rw [e]
  by_cases h3 : s.st = 3
  · rw [if_pos h3, if_pos h3, hl]
    exact ⟨fun g => absurd h3 g, Int.le_refl _, by omega, rfl, rfl, rfl⟩
  · obtain ⟨g1, g2⟩ := h1 h3
    rw [if_neg h3, if_neg h3]
    obtain ⟨i1, i2, i3, i4, i5⟩ := days_ix (p := p) (hc.count he) (c - s.ix).toNat 4000 (s.woken y) hix rfl g1 (by omega)
    rw [i2, hl]
    refine ⟨fun _ => i1, by omega, by omega, i3, i4, i5⟩
theorem SOk.day {M : Int} {N : Int → Option Int} {p : Pv} {s : Sv} (h : SOk M s) (hp : 0 ≤ p.a ∧ p.a ≤ 1100000000) (hN : ∀ i d, 0 ≤ i → N i = some d → -10000000 ≤ d ∧ d ≤ 10000000) (y : Int) : SOk M (Sv.day N p y s) := by
  have e : Sv.day N p y s = if s.st = 3 then s.woken y else Sv.days N p y 4000 (s.woken y) := rfl
  rw [e]
  split
  · exact h.woken y
  · exact SOk.days hp hN 4000 _ (h.woken y)
/-- What the program's account of it keeps to. -/
theorem SOk.fits {M : Int} {s : Sv} (h : SOk M s) (hM : M ≤ 100000000000) : ∀ c ∈ (Sv.tell s).l, c.Fit ∧ c.t ≤ 999 := by
  intro c hc
  have g := h.cs c (opn_mem hc).1
  have := g.t0; have := g.t1; have := g.a0; have := g.a1; have := g.u0; have := g.u1
  exact ⟨⟨by omega, by omega, by omega, by omega, by omega, by omega⟩, by omega⟩
theorem paidOf_bd {M : Int} (hM : 0 ≤ M ∧ M ≤ 100000000000) : ∀ (l : List Cv), (∀ c ∈ l, COk M c) → 0 ≤ paidOf l ∧ paidOf l ≤ l.length * 1000000000000
  | [], _ => ⟨Int.le_refl _, by simp [paidOf]⟩
  | c :: r, h => by
    obtain ⟨h1, h2⟩ := paidOf_bd hM r (fun q hq => h q (List.mem_cons_of_mem _ hq))
    have g := h c List.mem_cons_self
    have := g.a0; have := g.a1
    rw [paid_cons, List.length_cons]
    split <;> omega
theorem SOk.fit {M : Int} {s : Sv} (h : SOk M s) (hM : M ≤ 100000000000) : (Sv.tell s).Fit (s.l.length + 1) := by
  have h0 := h.cr
  have hp := paidOf_bd (M := M) (by omega) s.l h.cs
  have c7 := cnt_bd 7 s.l
  have c8 := cnt_bd 8 s.l
  have c9 := cnt_bd 9 s.l
  have c10 := cnt_bd 10 s.l
  have d1 : (Sv.tell s).dn = cntOf 7 s.l := rfl
  have d2 : (Sv.tell s).un = cntOf 8 s.l := rfl
  have d3 : (Sv.tell s).rf = cntOf 9 s.l := rfl
  have d4 : (Sv.tell s).sp = cntOf 10 s.l := rfl
  have d5 : (Sv.tell s).cr = s.cr := rfl
  have d6 : (Sv.tell s).pd = paidOf s.l := rfl
  constructor <;> omega
end Go.Proofs.YtblikgbcakgdnaaGreat
/-
  What each act makes of a subscription, on both sides: no memory. No conditions but those that each law names.
-/
namespace Go.Proofs.YtblikgbcakgdnaaGreat
set_option linter.unusedVariables false
set_option linter.unusedSimpArgs false
set_option maxRecDepth 100000
open Go.ChangeShapes Go.WideShapes Go.ChangeAt Go.RowKit

/-- Cycles are numbered as they began. -/
def Num (l : List Cv) : Prop := ∀ (k : Nat) (c : Cv), l[k]? = some c → c.n = (k : Int)
theorem Num.pair {l : List Cv} (h : Num l) : l.Pairwise (fun a b => a.n < b.n) := by
  rw [List.pairwise_iff_getElem]
  intro i j hi hj hij
  have h1 := h i _ (List.getElem?_eq_getElem hi)
  have h2 := h j _ (List.getElem?_eq_getElem hj)
  omega
theorem Num.opn_pair {l : List Cv} (h : Num l) : (opn l).Pairwise (fun a b => a.n < b.n) := h.pair.filter _
/-- One of them is another one: by its number. -/
def onlyAt (m : Nat) (z c : Cv) : Cv := if c.n = (m : Int) then z else c
theorem Num.set_map {l : List Cv} (h : Num l) (m : Nat) (z : Cv) : l.set m z = l.map (onlyAt m z) := by
  apply List.ext_getElem?
  intro k
  rw [List.getElem?_set, List.getElem?_map]
  cases hk : l[k]? with
  | none =>
    have hlen := List.getElem?_eq_none_iff.1 hk
    by_cases e : m = k
    · rw [if_pos e, if_neg (by omega)]; rfl
    · rw [if_neg e]; rfl
  | some c =>
    have hlt := (List.getElem?_eq_some_iff.1 hk).1
    have hn := h k c hk
    show _ = some (onlyAt m z c)
    unfold onlyAt
    by_cases e : m = k
    · subst e; rw [if_pos rfl, if_pos hlt, if_pos hn]
    · rw [if_neg e, if_neg (by omega)]
/-- Where it lies among the open ones. -/
theorem Num.found {l : List Cv} (h : Num l) {m : Nat} {c : Cv} (hm : l[m]? = some c) (hc : c.p < 7) : ∃ j : Nat, (opn l)[j]? = some c ∧ Found (opn l) m j ∧ ∀ z : Cv, (opn l).set j z = (opn l).map (onlyAt m z) := by
  have hlt := (List.getElem?_eq_some_iff.1 hm).1
  have hget := (List.getElem?_eq_some_iff.1 hm).2
  have hl : l = l.take m ++ c :: l.drop (m + 1) := by rw [← hget, List.getElem_cons_drop, List.take_append_drop]
  have hcn := h m c hm
  have ho : opn l = opn (l.take m) ++ c :: opn (l.drop (m + 1)) := by
    have h9 : opn l = opn (l.take m ++ c :: l.drop (m + 1)) := congrArg opn hl
    rw [h9, opn_append, opn_cons_yes hc]
  have hj : (opn l)[(opn (l.take m)).length]? = some c := by rw [ho, List.getElem?_append_right (Nat.le_refl _), Nat.sub_self]; rfl
  have hp := h.opn_pair
  have one : ∀ (i : Nat) (q : Cv), (opn l)[i]? = some q → q.n = (m : Int) → i = (opn (l.take m)).length := by
    intro i q hi hq
    obtain ⟨hi1, hi2⟩ := List.getElem?_eq_some_iff.1 hi
    obtain ⟨hj1, hj2⟩ := List.getElem?_eq_some_iff.1 hj
    rw [List.pairwise_iff_getElem] at hp
    rcases Nat.lt_trichotomy i (opn (l.take m)).length with g | g | g
    · have := hp i _ hi1 hj1 g
      rw [hi2, hj2] at this
      omega
    · exact g
    · have := hp _ i hj1 hi1 g
      rw [hi2, hj2] at this
      omega
  refine ⟨_, hj, .inl ⟨_, c, rfl, hj, hcn, fun i' c' hi hc' hn => ?_⟩, fun z => ?_⟩
  · have := one i' c' hc' hn
    omega
  · apply List.ext_getElem?
    intro k
    rw [List.getElem?_set, List.getElem?_map]
    cases hk : (opn l)[k]? with
    | none =>
      have hlen := List.getElem?_eq_none_iff.1 hk
      by_cases e : (opn (l.take m)).length = k
      · rw [if_pos e, if_neg (by omega)]; rfl
      · rw [if_neg e]; rfl
    | some q =>
      have hlt := (List.getElem?_eq_some_iff.1 hk).1
      show _ = some (onlyAt m z q)
      unfold onlyAt
      by_cases e : (opn (l.take m)).length = k
      · rw [if_pos e, if_pos (by omega)]
        subst e
        rw [hj] at hk
        injection hk with hk
        subst hk
        rw [if_pos hcn]
      · rw [if_neg e]
        by_cases hq : q.n = (m : Int)
        · exact absurd (one k q hk hq).symm e
        · rw [if_neg hq]
theorem only_turns {l : List Cv} (h : Num l) {m : Nat} {c z : Cv} (hm : l[m]? = some c) (hc : c.p < 7) (hz : z.u = c.u) : Turns (onlyAt m z) l ∧ (z.n = c.n → ∀ q ∈ l, (onlyAt m z q).n = q.n) := by
  have at_ : ∀ q ∈ l, q.n = (m : Int) → q = c := by
    intro q hq hn
    obtain ⟨k, hk⟩ := List.getElem?_of_mem hq
    have := h k q hk
    have e : k = m := by omega
    subst e
    rw [hm] at hk
    injection hk with hk
    exact hk.symm
  refine ⟨⟨fun q hq hp => ?_, fun q hq => ?_⟩, fun hzn q hq => ?_⟩
  · unfold onlyAt
    by_cases e : q.n = (m : Int)
    · have := at_ q hq e
      subst this
      exact absurd hc hp
    · rw [if_neg e]
  · unfold onlyAt
    by_cases e : q.n = (m : Int)
    · have := at_ q hq e
      subst this
      rw [if_pos e, hz]
    · rw [if_neg e]
  · unfold onlyAt
    by_cases e : q.n = (m : Int)
    · have := at_ q hq e
      subst this
      rw [if_pos e, hzn]
    · rw [if_neg e]
theorem only_gain {l : List Cv} (h : Num l) {m : Nat} {c z : Cv} (hm : l[m]? = some c) (hc : c.p < 7) (cr : Int) : cr + gainOf (onlyAt m z) l = Cy.gain cr c z := by
  have hlt := (List.getElem?_eq_some_iff.1 hm).1
  have hcn := h m c hm
  have off : ∀ (r : List Cv), (∀ q ∈ r, q.n ≠ (m : Int)) → gainOf (onlyAt m z) r = 0 := by
    intro r hr
    refine gain_open fun q hq hp => ?_
    unfold onlyAt
    rw [if_neg (hr q hq)]
    exact hp
  have hget := (List.getElem?_eq_some_iff.1 hm).2
  have hl : l = l.take m ++ c :: l.drop (m + 1) := by rw [← hget, List.getElem_cons_drop, List.take_append_drop]
  have hzc : onlyAt m z c = z := if_pos hcn
  have e1 : gainOf (onlyAt m z) (l.take m) = 0 := off _ fun q hq hn => by
    obtain ⟨k, hk⟩ := List.getElem?_of_mem hq
    have hk1 : k < m := by have := (List.getElem?_eq_some_iff.1 hk).1; rw [List.length_take] at this; omega
    rw [List.getElem?_take_of_lt hk1] at hk
    have := h k q hk
    omega
  have e2 : gainOf (onlyAt m z) (l.drop (m + 1)) = 0 := off _ fun q hq hn => by
    obtain ⟨k, hk⟩ := List.getElem?_of_mem hq
    rw [List.getElem?_drop] at hk
    have := h (m + 1 + k) q hk
    omega
  have h9 : gainOf (onlyAt m z) l = gainOf (onlyAt m z) (l.take m ++ c :: l.drop (m + 1)) := congrArg (gainOf (onlyAt m z)) hl
  rw [h9, gain_append, gain_cons, e1, e2, hzc]
  unfold Cy.gain
  split <;> omega
/-- An answer is heard: what both sides make of it. -/
theorem SOk.heard {M : Int} {s : Sv} (h : SOk M s) {m : Nat} {c z : Cv} (hm : s.l[m]? = some c) (hc : c.p < 7) (hz : COk M z) (hu : z.u = c.u) (hn : z.n = c.n) : SOk M { s with cr := Cy.gain s.cr c z, l := s.l.set m z } ∧ ∃ j : Nat, (opn s.l)[j]? = some c ∧ Found (opn s.l) m j ∧ Sv.tell { s with cr := Cy.gain s.cr c z, l := s.l.set m z } = Av.settled { Sv.tell s with l := (opn s.l).set j z } := by
  have hN : Num s.l := h.num
  obtain ⟨ht, htn⟩ := only_turns hN hm hc hu
  obtain ⟨j, h1, h2, h3⟩ := hN.found hm hc
  rw [hN.set_map m z, ← only_gain hN hm hc]
  refine ⟨h.map ht (htn hn) (fun q hq => ?_) s.st h.st, j, h1, h2, ?_⟩
  · unfold onlyAt
    split
    · exact hz
    · exact h.cs q hq
  · rw [h3 z, gain_back]
    exact tell_each s (onlyAt m z) ht.ends
/-- It is cancelled. -/
theorem SOk.cancelled {M : Int} {s : Sv} (h : SOk M s) : SOk M { s with st := 3, cr := s.cr + gainOf (fun c => c.over) s.l, l := s.l.map (fun c => c.over) } ∧ Sv.tell { s with st := 3, cr := s.cr + gainOf (fun c => c.over) s.l, l := s.l.map (fun c => c.over) } = Av.each { Sv.tell s with st := 3 } (fun c => Cv.over c) := by
  have ends : ∀ c ∈ s.l, ¬ c.p < 7 → c.over = c := fun c _ hp => by
    unfold Cv.over
    rw [if_neg (by omega)]
  refine ⟨h.map ⟨ends, fun c _ => (over_same' c).1⟩ (fun c _ => (over_same' c).2) (fun c hc => (h.cs c hc).over) 3 (.inr (.inr rfl)), ?_⟩
  rw [gain_back]
  exact tell_each { s with st := 3 } (fun c => c.over) ends
/-- Another card. -/
theorem SOk.carded {M : Int} {s : Sv} (h : SOk M s) : SOk M { s with l := s.l.map (fun c => c.card) } ∧ Sv.tell { s with l := s.l.map (fun c => c.card) } = (Sv.tell s).each (fun c => Cv.card c) := by
  have ends : ∀ c ∈ s.l, ¬ c.p < 7 → c.card = c := fun c _ hp => by
    unfold Cv.card
    rw [if_neg (by omega)]
  have opens : ∀ c ∈ s.l, c.p < 7 → c.card.p < 7 := fun c _ hp => by
    unfold Cv.card
    split
    · show (1 : Int) < 7; omega
    · exact hp
  refine ⟨?_, tell_each_open s _ ends opens⟩
  have hg : gainOf (fun c => c.card) s.l = 0 := gain_open opens
  have := h.map (f := fun c => c.card) ⟨ends, fun c _ => (card_same c).1⟩ (fun c _ => (card_same c).2) (fun c hc => (h.cs c hc).card) s.st h.st
  rw [hg, Int.add_zero] at this
  exact this
theorem SOk.state {M : Int} {s : Sv} (h : SOk M s) (x : Int) (hx : x = 1 ∨ x = 2 ∨ x = 3) : SOk M { s with st := x } := ⟨hx, h.num, h.cs, h.po, h.ix0, h.ix1⟩
theorem SOk.skips {M : Int} {s : Sv} (h : SOk M s) (x : Bool) : SOk M { s with sk := x } := ⟨h.st, h.num, h.cs, h.po, h.ix0, h.ix1⟩
/-- Another plan: credit comes, and goes. -/
theorem SOk.changed {M : Int} {s : Sv} (h : SOk M s) (n an : Int) {x : Int} (hx : -1100000000 ≤ x ∧ x ≤ 1100000000) : SOk (M + 1100000000) { s with pl := n, an := an, ix := 0, cr := s.cr + x } := by
  refine ⟨h.st, h.num, fun c hc => (h.cs c hc).more (by omega), ?_, Int.le_refl _, by show (0 : Int) ≤ s.l.length; omega⟩
  have h1 := absI_add s.cr x
  have h2 := h.po
  have h3 : absI x ≤ 1100000000 := by unfold absI; split <;> omega
  show absI (s.cr + x) + sumA s.l ≤ M + 1100000000
  omega
theorem SOk.more {M M' : Int} {s : Sv} (h : SOk M s) (hm : M ≤ M') : SOk M' s := ⟨h.st, h.num, fun c hc => (h.cs c hc).more hm, Int.le_trans h.po hm, h.ix0, h.ix1⟩
end Go.Proofs.YtblikgbcakgdnaaGreat
