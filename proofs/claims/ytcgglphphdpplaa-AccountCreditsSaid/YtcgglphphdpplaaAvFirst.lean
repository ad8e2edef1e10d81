/-
  A subscription's first days, and days that come later where nothing waits; the document's example. No conditions but the sizes.
-/
import Derived.Test.YtcgglphphdpplaaAvSmall
namespace Go.Proofs.Ytcgglphphdpplaa
set_option maxRecDepth 20000
open Go.ChangeShapes Go.WideShapes Go.ChangeAt Go.RowKit

theorem boxed_fresh {w : World} {cs cs' : Array Value} {t : TypeId} : boxed (w.alloc (.cells cs t)) w.heap.size cs' t = w.alloc (.cells cs' t) := by
  unfold boxed World.alloc
  congr 1
  apply Array.ext_getElem?
  intro i
  rw [Array.getElem?_setIfInBounds]
  by_cases e : w.heap.size = i
  · subst e; simp
  · rw [if_neg e, Array.getElem?_push, Array.getElem?_push]
    simp [Ne.symm e]
attribute [simp, go_sem] boxed_fresh
/-- Nothing that is open becomes another one, or is at its end: so the subscription stays. -/
theorem Av.fold_open : ∀ (l : List Cv) (a : Av), (∀ z ∈ l, z.p < 7) → l.foldl Av.with_ a = { a with l := a.l ++ l }
  | [], a, _ => by rw [List.foldl_nil, List.append_nil]
  | c :: r, a, h => by
    rw [List.foldl_cons, Av.fold_open r _ (fun z hz => h z (List.mem_cons_of_mem _ hz))]
    have : a.with_ c = { a with l := a.l ++ [c] } := if_pos (h c List.mem_cons_self)
    rw [this, List.append_assoc]; rfl
theorem Av.each_open {a : Av} {f : Cv → Cv} (h : ∀ z ∈ a.l, (f z).p < 7) : a.each f = { a with l := a.l.map f } := by
  unfold Av.each Av.settled
  rw [Av.fold_open _ _ (fun z hz => by obtain ⟨q, hq, rfl⟩ := List.mem_map.1 hz; exact h q hq)]
  rfl
theorem Av.each_id {a : Av} {f : Cv → Cv} (h : ∀ z ∈ a.l, f z = z ∧ z.p < 7) : a.each f = a := by
  have hm : a.l.map f = a.l := by
    have : a.l.map f = a.l.map id := List.map_congr_left (fun z hz => (h z hz).1)
    rw [this, List.map_id]
  rw [Av.each_open (fun z hz => by rw [(h z hz).1]; exact (h z hz).2), hm]
/-- Open cycles that wait for nobody's day. -/
structure Cv.Calm (z : Cv) : Prop where
  p : z.p = 1 ∨ z.p = 3
  fit : z.Fit
  t : z.t ≤ 999
theorem Cv.Calm.wake {z : Cv} (h : z.Calm) (y : Int) : z.wake y = z := by
  obtain ⟨n, d, p, a, u, t, x, g⟩ := z
  have hp : p ≠ 2 := by have := h.p; dsimp only at this; omega
  unfold Cv.wake
  split
  · rfl
  · exact card_no hp
theorem Cv.Calm.open_ {z : Cv} (h : z.Calm) : z.p < 7 := by have := h.p; omega
theorem Cy.begin_calm {n d a u : Int} {g : Bool} (h0 : -1000000000000 ≤ a) (h1 : a ≤ 1000000000000) (h2 : -1000000000000 ≤ u) (h3 : u ≤ 1000000000000) : (Cy.begin_ n d a u g).Calm ∨ (Cy.begin_ n d a u g).p = 7 := by
  have hf := Cy.begin_fit (n := n) (d := d) (g := g) h0 h1 h2 h3
  by_cases ha : a = 0
  · rw [cbegin_yes ha] at hf ⊢
    cases g
    · exact .inr rfl
    · exact .inl ⟨.inr rfl, hf, by dsimp only; omega⟩
  · rw [cbegin_no ha] at hf ⊢
    exact .inl ⟨.inl rfl, hf, by dsimp only; omega⟩
/-- All that is open is calm. -/
def Av.Calm (a : Av) : Prop := ∀ z ∈ a.l, z.Calm
theorem Av.Calm.with_ {a : Av} {c : Cv} (h : a.Calm) (hc : c.Calm ∨ 7 ≤ c.p) : (a.with_ c).Calm := by
  unfold Av.with_
  split
  · intro z hz
    rcases List.mem_append.1 hz with hz | hz
    · exact h z hz
    · obtain rfl := List.mem_singleton.1 hz
      rcases hc with hc | hc
      · exact hc
      · omega
  repeat' split
  all_goals exact h
theorem Av.Calm.born {a : Av} {p : Pv} {d : Int} {mi : Bool} (h : a.Calm) (hp : 0 ≤ p.a ∧ p.a ≤ 100000000000) (h0 : -100000000000 ≤ a.cr) (h1 : a.cr ≤ 100000000000) : (a.born p d mi).Calm := by
  unfold Av.born
  split
  · exact Av.Calm.with_ h (.inr (by dsimp only; omega))
  split
  · exact Av.Calm.with_ h (.inr (by dsimp only; omega))
  split
  · exact Av.Calm.with_ h ((Cy.begin_calm (by omega) (by omega) (by omega) (by omega)).imp id (fun e => by omega))
  · exact Av.Calm.with_ h ((Cy.begin_calm (by omega) (by omega) (by omega) (by omega)).imp id (fun e => by omega))
/-- What a run of periods keeps. -/
structure Av.Fine (a : Av) (m : Nat) : Prop where
  calm : a.Calm
  fit : a.Fit m
  len : a.l.length ≤ m
  ct : 0 ≤ a.ct ∧ a.ct ≤ m
  c0 : -100000000000 ≤ a.cr
  c1 : a.cr ≤ 100000000000
theorem Av.Fine.ix {a : Av} {m : Nat} (h : a.Fine m) (i : Int) : ({ a with ix := i } : Av).Fine m :=
  ⟨h.calm, ⟨h.fit.d0, h.fit.d1, h.fit.n0, h.fit.n1, h.fit.r0, h.fit.r1, h.fit.s0, h.fit.s1, h.fit.c0, h.fit.c1, h.fit.p0, h.fit.p1⟩, h.len, h.ct, h.c0, h.c1⟩
theorem Av.Fine.born {a : Av} {m : Nat} {p : Pv} {d : Int} {mi : Bool} (h : a.Fine m) (hp : 0 ≤ p.a ∧ p.a ≤ 100000000000) : (a.born p d mi).Fine (m + 1) := by
  obtain ⟨g0, g1⟩ := Av.born_cr (d := d) (mi := mi) hp.1 h.c0 h.c1
  have hl := Av.born_len (a := a) (p := p) (d := d) (mi := mi)
  have := h.len
  have := h.ct
  exact ⟨h.calm.born hp h.c0 h.c1, Av.born_fit h.fit hp h.c0 h.c1, by omega, by rw [Av.born_same.2.2.2.2]; omega, g0, g1⟩
theorem Av.Fine.runs {p : Pv} {N : Int → Int} {c : Int} (hp : 0 ≤ p.a ∧ p.a ≤ 100000000000) : ∀ (f m : Nat) (a : Av), a.Fine m → (Av.runs N p c f a).Fine (m + f)
  | 0, _, _, h => h
  | f + 1, m, a, h => by
    have := Av.Fine.runs (N := N) (c := c) hp f (m + 1) _ ((h.ix (a.ix + 1)).born (d := N a.ix) (mi := p.l && decide (a.ix + 1 < c)) hp)
    rw [show m + (f + 1) = m + 1 + f by omega]
    exact this
theorem Av.runs_same {p : Pv} {N : Int → Int} {c : Int} : ∀ (f : Nat) (a : Av), (Av.runs N p c f a).st = a.st ∧ (Av.runs N p c f a).pl = a.pl ∧ (Av.runs N p c f a).an = a.an ∧ (Av.runs N p c f a).ix = a.ix + f ∧ (Av.runs N p c f a).ct = a.ct + f
  | 0, a => ⟨rfl, rfl, rfl, by show a.ix = a.ix + ((0 : Nat) : Int); omega, by show a.ct = a.ct + ((0 : Nat) : Int); omega⟩
  | f + 1, a => by
    obtain ⟨h1, h2, h3, h4, h5⟩ := Av.runs_same f (Av.born { a with ix := a.ix + 1 } p (N a.ix) (p.l && decide (a.ix + 1 < c)))
    obtain ⟨g1, g2, g3, g4, g5⟩ := Av.born_same (a := { a with ix := a.ix + 1 }) (p := p) (d := N a.ix) (mi := p.l && decide (a.ix + 1 < c))
    exact ⟨h1.trans g1, h2.trans g2, h3.trans g3, (h4.trans (by rw [g4])).trans (by dsimp only; omega), (h5.trans (by rw [g5])).trans (by dsimp only; omega)⟩
theorem Av.runs_add {p : Pv} {N : Int → Int} {c : Int} : ∀ (f g : Nat) (a : Av), Av.runs N p c (f + g) a = Av.runs N p c g (Av.runs N p c f a)
  | 0, g, a => by rw [Nat.zero_add]; rfl
  | f + 1, g, a => by
    rw [show f + 1 + g = f + g + 1 by omega]
    exact Av.runs_add f g _
theorem Av.runs_any {p : Pv} {N : Int → Int} (c c' : Int) (hl : p.l = false) : ∀ (f : Nat) (a : Av), Av.runs N p c f a = Av.runs N p c' f a
  | 0, _ => rfl
  | f + 1, a => by
    show Av.runs N p c f (Av.born _ p _ (p.l && _)) = Av.runs N p c' f (Av.born _ p _ (p.l && _))
    rw [hl]
    exact Av.runs_any c c' hl f _
theorem Av.opened_fine (n an : Int) : (Av.opened n an).Fine 0 := by
  refine ⟨?_, ?_, Nat.le_refl _, ⟨Int.le_refl _, Int.le_refl _⟩, by show (-100000000000 : Int) ≤ 0; omega, by show (0 : Int) ≤ 100000000000; omega⟩
  · intro z hz; cases hz
  · constructor <;> (show _ ≤ _) <;> (simp [Av.opened])
/-- A day of a subscription of which nothing waits, that isn't at its end. -/
theorem daycalm_any {w : World} {v : Value} {a : Av} {p : Pv} {m : Nat} {y c k d : Int} (h : Cys w 0 w.heap.size v a.l) (ha : a.Fine m) (hm : m ≤ 10000) (hst : a.st ≠ 3)
    (hAt : Cal.At a.an k d) (hU : 0 ≤ p.u ∧ p.u ≤ 3) (hE : 1 ≤ p.e ∧ p.e ≤ 1000) (hix : 0 ≤ a.ix ∧ a.ix ≤ 100000) (hcc : c ≤ a.ix + 10000) (hcn : Cal.Cnt p.u a.an k d p.e y c) (hp : 0 ≤ p.a ∧ p.a ≤ 100000000000) :
    Calls Try.prog 17 #[.agg (a.arr v), .agg p.arr, .int .i64 y] w (News w (Av.runs (Cal.vN p.u a.an k d p.e) p c (c - a.ix).toNat a)) := by
  have he : a.each (fun z => (fun z => Cv.wake z y) z) = a := Av.each_id (fun z hz => ⟨(ha.calm z hz).wake y, (ha.calm z hz).open_⟩)
  have hl := ha.len
  have hct := ha.ct
  have := day_any (p := p) (y := y) (c := c) (k := k) (d := d) h (by omega) ha.fit hm (fun z hz => ⟨(ha.calm z hz).fit, (ha.calm z hz).t⟩) (by omega) hAt hU hE hix hcc hcn hp (by rw [he]; exact ⟨ha.c0, ha.c1⟩)
  unfold Av.day at this
  rw [if_neg hst, he] at this
  exact this
theorem Av.born_pay {a : Av} {p : Pv} {d : Int} (h1 : a.st ≠ 2) (h2 : a.sk = false) (h3 : ¬ p.a - a.cr < 0) : a.born p d false = Av.with_ { a with ct := a.ct + 1, cr := 0 } (Cy.begin_ a.ct d (p.a - a.cr) a.cr p.g) := by
  unfold Av.born
  rw [if_neg (by rintro (h | h); exact h1 h; cases h), if_neg (by rw [h2]; simp), if_neg h3]
theorem Av.born_over {a : Av} {p : Pv} {d : Int} (h1 : a.st ≠ 2) (h2 : a.sk = false) (h3 : p.a - a.cr < 0) : a.born p d false = Av.with_ { a with ct := a.ct + 1, cr := -(p.a - a.cr) } (Cy.begin_ a.ct d 0 p.a p.g) := by
  unfold Av.born
  rw [if_neg (by rintro (h | h); exact h1 h; cases h), if_neg (by rw [h2]; simp), if_pos h3]
theorem Av.born_pass {a : Av} {p : Pv} {d : Int} {mi : Bool} (h : a.st = 2 ∨ mi = true) : a.born p d mi = { a with ct := a.ct + 1, sp := a.sp + 1 } := by
  unfold Av.born
  rw [if_pos h]
  rfl
theorem Av.born_skip {a : Av} {p : Pv} {d : Int} (h1 : a.st ≠ 2) (h2 : a.sk = true) : a.born p d false = { a with ct := a.ct + 1, sk := false, sp := a.sp + 1 } := by
  unfold Av.born
  rw [if_neg (by rintro (h | h); exact h1 h; cases h), if_pos h2]
  rfl
theorem Av.runs_next {N : Int → Int} {p : Pv} {c : Int} {f : Nat} {a : Av} : Av.runs N p c (f + 1) a = Av.runs N p c f (Av.born { a with ix := a.ix + 1 } p (N a.ix) (p.l && decide (a.ix + 1 < c))) := rfl
/-- The last of some periods. -/
theorem Av.runs_last {N : Int → Int} {p : Pv} {c : Int} {f : Nat} {a : Av} : Av.runs N p c (f + 1) a = Av.born { Av.runs N p c f a with ix := a.ix + f + 1 } p (N (a.ix + f)) (p.l && decide (a.ix + f + 1 < c)) := by
  rw [Av.runs_add f 1 a, Av.runs_next, (Av.runs_same f a).2.2.2.1]
  rfl
set_option maxHeartbeats 4000000 in
theorem acawake_any (w : World) : Calls Try.prog 11 #[] w fun e w' => e = .returned (.bool true) ∧ Below w.heap.size w w' := by
  obtain ⟨k, d, hAt⟩ := Cal.at_of 130 (by omega) (by omega)
  have HAT := Lib.hid hAt
  have HC0 : Hid (Cal.Cnt 0 130 k d 5 129 0) := Cal.Cnt.before hAt (by omega)
  have HC1 : Hid (Cal.Cnt 0 130 k d 5 130 1) := Cal.Cnt.days (u := 0) (by omega) (by omega) (by omega) (by omega)
  have hN : Cal.vN 0 130 k d 5 0 = 130 := Cal.vN_zero hAt
  have hx2 : Av.runs (Cal.vN 0 130 k d 5) ⟨10, 0, 5, 30, false, false⟩ 1 1 (Av.opened 0 130) = ⟨1, 0, 130, 1, 1, 0, false, [⟨0, 130, 1, 10, 0, 1, 0, false⟩], 0, 0, 0, 0, 0⟩ := by
    rw [Av.runs_next]
    show Av.runs _ _ _ 0 (Av.born _ _ _ false) = _
    rw [Av.born_pay (by decide) rfl (by decide)]
    show Av.with_ _ (Cy.begin_ 0 (Cal.vN 0 130 k d 5 0) 10 0 false) = _
    rw [hN]; rfl
  have HX2 := Lib.hid hx2
  clear hAt hN hx2
  go_enter Try.func11, Try.ntmps11
  go_wp2_with (fail)
  refine (open_any (p := ⟨10, 0, 5, 30, false, false⟩) 0 100 (by dsimp only; omega)).mono ?_
  rintro e w1 ⟨rfl, hb1⟩
  have hP1 : w1.heap[w.heap.size]? = some (.cells #[.int .i64 10, .int .u8 0, .int .i64 5, .int .i64 30, .bool false, .bool false] 26 (0, 0)) := below_block hb1 (alloc_at rfl)
  have hW1 : Below w.heap.size w w1 := ((Below.refl _ w).alloc (Nat.le_refl _) _).trans (hb1.mono (by simp))
  have hz1 : w.heap.size < w1.heap.size := (Array.getElem?_eq_some_iff.1 hP1).1
  rw [show (100 : Int) + (⟨10, 0, 5, 30, false, false⟩ : Pv).t = 130 from rfl]
  obtain ⟨x0, hx0⟩ : ∃ x0, Av.opened 0 130 = x0 := ⟨_, rfl⟩
  rw [hx0]
  have HX0 := Lib.hid hx0
  have HW1 := Lib.hid hW1
  clear hb1 hW1 hx0
  go_wp2_with (first | ((with_reducible_and_instances (show wpList _ _ _ (Oper.mk _ (Op.load 33 _) _ _ _ _ :: _) _ _)); refine wl_load Try.underlying33 rfl info13 rfl rfl rfl (by (repeat (first | assumption | (with_reducible refine alloc_at ?_; (focus (first | omega | (simp; done) | (simp; omega)))) | (with_reducible refine boxed_at ?_; (focus (first | omega | (simp; done) | (simp; omega)))) | (with_reducible refine alloc_old ?_ ?_; (focus (first | omega | (simp; done) | (simp; omega)))) | (with_reducible refine boxed_old ?_ ?_; (focus (first | omega | (simp; done) | (simp; omega)))) | (with_reducible refine drew_old ?_)))) (by rfl) ?_) | ((with_reducible_and_instances (show wpList _ _ _ (Oper.mk _ (Op.load 26 _) _ _ _ _ :: _) _ _)); refine wl_load Try.underlying26 rfl info6p rfl rfl rfl (by (repeat (first | assumption | (with_reducible refine alloc_at ?_; (focus (first | omega | (simp; done) | (simp; omega)))) | (with_reducible refine boxed_at ?_; (focus (first | omega | (simp; done) | (simp; omega)))) | (with_reducible refine alloc_old ?_ ?_; (focus (first | omega | (simp; done) | (simp; omega)))) | (with_reducible refine boxed_old ?_ ?_; (focus (first | omega | (simp; done) | (simp; omega)))) | (with_reducible refine drew_old ?_)))) (by rfl) ?_) | ((with_reducible_and_instances (show wpList _ _ _ (Oper.mk _ (Op.store 33 _ _) _ _ _ _ :: _) _ _)); refine wl_store info13 rfl rfl rfl rfl (by (repeat (first | assumption | (with_reducible refine alloc_at ?_; (focus (first | omega | (simp; done) | (simp; omega)))) | (with_reducible refine boxed_at ?_; (focus (first | omega | (simp; done) | (simp; omega)))) | (with_reducible refine alloc_old ?_ ?_; (focus (first | omega | (simp; done) | (simp; omega)))) | (with_reducible refine boxed_old ?_ ?_; (focus (first | omega | (simp; done) | (simp; omega)))) | (with_reducible refine drew_old ?_)))) (by rfl) (by rfl) (by first | exact Cv.arr_one _ | exact Nv.arr_one _ | exact Av.arr_one rfl | simp [Value.oneCell']) ?_))
  refine (daycalm_any (a := x0) (p := ⟨10, 0, 5, 30, false, false⟩) (m := 0) (y := 129) (c := 0) (k := k) (d := d) (by rw [← HX0.out]; exact Cys.nil) (by rw [← HX0.out]; exact Av.opened_fine _ _) (by omega) (by rw [← HX0.out]; decide) (by rw [← HX0.out]; exact HAT.out) ⟨by decide, by decide⟩ ⟨by decide, by decide⟩ (by rw [← HX0.out]; exact ⟨by decide, by decide⟩) (by rw [← HX0.out]; decide) (by rw [← HX0.out]; exact HC0.out) ⟨by decide, by decide⟩).mono ?_
  rw [show Av.runs (Cal.vN (⟨10, 0, 5, 30, false, false⟩ : Pv).u x0.an k d (⟨10, 0, 5, 30, false, false⟩ : Pv).e) ⟨10, 0, 5, 30, false, false⟩ 0 (0 - x0.ix).toNat x0 = x0 by rw [← HX0.out]; rfl]
  rintro e w2 ⟨v2, rfl, ho2, hb2⟩
  have hP2 : w2.heap[w.heap.size]? = some (.cells #[.int .i64 10, .int .u8 0, .int .i64 5, .int .i64 30, .bool false, .bool false] 26 (0, 0)) := below_block hb2 (alloc_old hz1 hP1)
  have hW2 : Below w.heap.size w w2 := (HW1.out.alloc (by omega) _).trans (hb2.mono (by simp; omega))
  have hz2 : w.heap.size < w2.heap.size := (Array.getElem?_eq_some_iff.1 hP2).1
  rw [World.size_alloc] at ho2
  obtain ⟨A2, c2, rfl, hc21, _⟩ := ho2.form
  have HO2 := Lib.hid ho2
  have HW2 := Lib.hid hW2
  clear hb2 hW2 ho2 hP1
  go_wp2_with (first | ((with_reducible_and_instances (show wpList _ _ _ (Oper.mk _ (Op.load 33 _) _ _ _ _ :: _) _ _)); refine wl_load Try.underlying33 rfl info13 rfl rfl rfl (by (repeat (first | assumption | (with_reducible refine alloc_at ?_; (focus (first | omega | (simp; done) | (simp; omega)))) | (with_reducible refine boxed_at ?_; (focus (first | omega | (simp; done) | (simp; omega)))) | (with_reducible refine alloc_old ?_ ?_; (focus (first | omega | (simp; done) | (simp; omega)))) | (with_reducible refine boxed_old ?_ ?_; (focus (first | omega | (simp; done) | (simp; omega)))) | (with_reducible refine drew_old ?_)))) (by rfl) ?_) | ((with_reducible_and_instances (show wpList _ _ _ (Oper.mk _ (Op.load 26 _) _ _ _ _ :: _) _ _)); refine wl_load Try.underlying26 rfl info6p rfl rfl rfl (by (repeat (first | assumption | (with_reducible refine alloc_at ?_; (focus (first | omega | (simp; done) | (simp; omega)))) | (with_reducible refine boxed_at ?_; (focus (first | omega | (simp; done) | (simp; omega)))) | (with_reducible refine alloc_old ?_ ?_; (focus (first | omega | (simp; done) | (simp; omega)))) | (with_reducible refine boxed_old ?_ ?_; (focus (first | omega | (simp; done) | (simp; omega)))) | (with_reducible refine drew_old ?_)))) (by rfl) ?_) | ((with_reducible_and_instances (show wpList _ _ _ (Oper.mk _ (Op.store 33 _ _) _ _ _ _ :: _) _ _)); refine wl_store info13 rfl rfl rfl rfl (by (repeat (first | assumption | (with_reducible refine alloc_at ?_; (focus (first | omega | (simp; done) | (simp; omega)))) | (with_reducible refine boxed_at ?_; (focus (first | omega | (simp; done) | (simp; omega)))) | (with_reducible refine alloc_old ?_ ?_; (focus (first | omega | (simp; done) | (simp; omega)))) | (with_reducible refine boxed_old ?_ ?_; (focus (first | omega | (simp; done) | (simp; omega)))) | (with_reducible refine drew_old ?_)))) (by rfl) (by rfl) (by first | exact Cv.arr_one _ | exact Nv.arr_one _ | exact Av.arr_one rfl | simp [Value.oneCell']) ?_))
  refine (daycalm_any (a := x0) (p := ⟨10, 0, 5, 30, false, false⟩) (m := 0) (y := 130) (c := 1) (k := k) (d := d) ((HO2.out.cys.more (Nat.zero_le _) (Nat.le_refl _)).below ((Below.refl _ w2).alloc (Nat.le_refl _) _) |>.more (Nat.le_refl _) (by simp)) (by rw [← HX0.out]; exact Av.opened_fine _ _) (by omega) (by rw [← HX0.out]; decide) (by rw [← HX0.out]; exact HAT.out) ⟨by decide, by decide⟩ ⟨by decide, by decide⟩ (by rw [← HX0.out]; exact ⟨by decide, by decide⟩) (by rw [← HX0.out]; decide) (by rw [← HX0.out]; exact HC1.out) ⟨by decide, by decide⟩).mono ?_
  rw [show Av.runs (Cal.vN (⟨10, 0, 5, 30, false, false⟩ : Pv).u x0.an k d (⟨10, 0, 5, 30, false, false⟩ : Pv).e) ⟨10, 0, 5, 30, false, false⟩ 1 (1 - x0.ix).toNat x0 = ⟨1, 0, 130, 1, 1, 0, false, [⟨0, 130, 1, 10, 0, 1, 0, false⟩], 0, 0, 0, 0, 0⟩ by rw [← HX0.out]; exact HX2.out]
  rintro e w3 ⟨v3, rfl, ho3, hb3⟩
  have hP3 : w3.heap[w2.heap.size]? = some (.cells (x0.arr (.slice A2 x0.l.length c2)) 33 (0, 0)) := below_block hb3 (alloc_at rfl)
  have hW3 : Below w.heap.size w w3 := (HW2.out.alloc (by omega) _).trans (hb3.mono (by simp; omega))
  have hz3 : w2.heap.size < w3.heap.size := (Array.getElem?_eq_some_iff.1 hP3).1
  obtain ⟨g, o, cap, rfl, _, hc31, hc32, hgb, hgl, hr⟩ := (ho3.cys).at_ (k := 0) (c := ⟨0, 130, 1, 10, 0, 1, 0, false⟩) rfl
  have hd : w3.cell? ⟨g, o + 0 * 8 + 1, none⟩ = some (.int .i64 130) := hr 1 _ rfl
  rw [Nat.zero_mul, Nat.add_zero] at hd
  have hlen : x0.l.length = 0 := by rw [← HX0.out]; rfl
  rw [hlen] at hP3 ⊢
  have HW3 := Lib.hid hW3
  have hb7 := cell_of_row w3 w2.heap.size 7 _ _ _ hP3
  have hgn : g < w3.heap.size + 1 := by omega
  clear hb3 hW3 hr ho3 hP2 hlen
  go_wp2_with (first | ((with_reducible_and_instances (show wpList _ _ _ (Oper.mk _ (Op.load 33 _) _ _ _ _ :: _) _ _)); refine wl_load Try.underlying33 rfl info13 rfl rfl rfl (by (repeat (first | assumption | (with_reducible refine alloc_at ?_; (focus (first | omega | (simp; done) | (simp; omega)))) | (with_reducible refine boxed_at ?_; (focus (first | omega | (simp; done) | (simp; omega)))) | (with_reducible refine alloc_old ?_ ?_; (focus (first | omega | (simp; done) | (simp; omega)))) | (with_reducible refine boxed_old ?_ ?_; (focus (first | omega | (simp; done) | (simp; omega)))) | (with_reducible refine drew_old ?_)))) (by rfl) ?_) | ((with_reducible_and_instances (show wpList _ _ _ (Oper.mk _ (Op.load 26 _) _ _ _ _ :: _) _ _)); refine wl_load Try.underlying26 rfl info6p rfl rfl rfl (by (repeat (first | assumption | (with_reducible refine alloc_at ?_; (focus (first | omega | (simp; done) | (simp; omega)))) | (with_reducible refine boxed_at ?_; (focus (first | omega | (simp; done) | (simp; omega)))) | (with_reducible refine alloc_old ?_ ?_; (focus (first | omega | (simp; done) | (simp; omega)))) | (with_reducible refine boxed_old ?_ ?_; (focus (first | omega | (simp; done) | (simp; omega)))) | (with_reducible refine drew_old ?_)))) (by rfl) ?_) | ((with_reducible_and_instances (show wpList _ _ _ (Oper.mk _ (Op.store 33 _ _) _ _ _ _ :: _) _ _)); refine wl_store info13 rfl rfl rfl rfl (by (repeat (first | assumption | (with_reducible refine alloc_at ?_; (focus (first | omega | (simp; done) | (simp; omega)))) | (with_reducible refine boxed_at ?_; (focus (first | omega | (simp; done) | (simp; omega)))) | (with_reducible refine alloc_old ?_ ?_; (focus (first | omega | (simp; done) | (simp; omega)))) | (with_reducible refine boxed_old ?_ ?_; (focus (first | omega | (simp; done) | (simp; omega)))) | (with_reducible refine drew_old ?_)))) (by rfl) (by rfl) (by first | exact Cv.arr_one _ | exact Nv.arr_one _ | exact Av.arr_one rfl | simp [Value.oneCell']) ?_))
  refine (acname_any 1 _).mono ?_
  rw [show Av.name 1 = ⟨#[97, 99, 116, 105, 118, 101]⟩ from rfl]
  rintro e w4 ⟨rfl, rfl⟩
  go_wp2
  go_ret
  exact ⟨rfl, HW3.out.alloc (by omega) _⟩
end Go.Proofs.Ytcgglphphdpplaa
