/-
  A subscription's first days, and days that come later where nothing waits; the document's example. No conditions but the sizes.
-/
import Derived.Test.YtblikgbcakgdnaaGreatBp22
set_option linter.unusedSimpArgs false
set_option linter.unusedVariables false
namespace Go.Proofs.YtblikgbcakgdnaaGreat
set_option maxRecDepth 20000
open Go.ChangeShapes Go.WideShapes Go.ChangeAt Go.RowKit

theorem boxed_fresh {w : World} {cs cs' : Array Value} {t : TypeId} : boxed (w.alloc (.cells cs t)) w.heap.size cs' t = w.alloc (.cells cs' t) := by
  unfold boxed World.alloc
  congr 1
  apply Array.ext_getElem?
  intro i
  rw [Array.getElem?_setIfInBounds]
  by_cases e : w.heap.size = i
  · subst e; simp
  · rw [if_neg e, Array.getElem?_push, Array.getElem?_push]
    simp [Ne.symm e]
attribute [simp, go_sem] boxed_fresh
/-- Nothing that is open becomes another one, or is at its end: so the subscription stays. -/
theorem Av.fold_open : ∀ (l : List Cv) (a : Av), (∀ z ∈ l, z.p < 7) → l.foldl Av.with_ a = { a with l := a.l ++ l }
  | [], a, _ => by rw [List.foldl_nil, List.append_nil]
  | c :: r, a, h => by
    rw [List.foldl_cons, Av.fold_open r _ (fun z hz => h z (List.mem_cons_of_mem _ hz))]
    have : a.with_ c = { a with l := a.l ++ [c] } := if_pos (h c List.mem_cons_self)
    rw [this, List.append_assoc]; rfl
theorem Av.each_open {a : Av} {f : Cv → Cv} (h : ∀ z ∈ a.l, (f z).p < 7) : a.each f = { a with l := a.l.map f } := by
  unfold Av.each Av.settled
  rw [Av.fold_open _ _ (fun z hz => by obtain ⟨q, hq, rfl⟩ := List.mem_map.1 hz; exact h q hq)]
  rfl
theorem Av.each_id {a : Av} {f : Cv → Cv} (h : ∀ z ∈ a.l, f z = z ∧ z.p < 7) : a.each f = a := by
  have hm : a.l.map f = a.l := by
    have : a.l.map f = a.l.map id := List.map_congr_left (fun z hz => (h z hz).1)
    rw [this, List.map_id]
  rw [Av.each_open (fun z hz => by rw [(h z hz).1]; exact (h z hz).2), hm]
/-- Open cycles that wait for nobody's day. -/
structure Cv.Calm (z : Cv) : Prop where
  p : z.p = 1 ∨ z.p = 3
  fit : z.Fit
  t : z.t ≤ 999
theorem Cv.Calm.wake {z : Cv} (h : z.Calm) (y : Int) : z.wake y = z := by
  obtain ⟨n, d, p, a, u, t, x, g⟩ := z
  have hp : p ≠ 2 := by have := h.p; dsimp only at this; omega
  unfold Cv.wake
  split
  · rfl
  · exact card_no hp
theorem Cv.Calm.open_ {z : Cv} (h : z.Calm) : z.p < 7 := by have := h.p; omega
theorem Cy.begin_calm {n d a u : Int} {g : Bool} (h0 : -1000000000000 ≤ a) (h1 : a ≤ 1000000000000) (h2 : -1000000000000 ≤ u) (h3 : u ≤ 1000000000000) : (Cy.begin_ n d a u g).Calm ∨ (Cy.begin_ n d a u g).p = 7 := by
  have hf := Cy.begin_fit (n := n) (d := d) (g := g) h0 h1 h2 h3
  by_cases ha : a = 0
  · rw [cbegin_yes ha] at hf ⊢
    cases g
    · exact .inr rfl
    · exact .inl ⟨.inr rfl, hf, by dsimp only; omega⟩
  · rw [cbegin_no ha] at hf ⊢
    exact .inl ⟨.inl rfl, hf, by dsimp only; omega⟩
/-- All that is open is calm. -/
def Av.Calm (a : Av) : Prop := ∀ z ∈ a.l, z.Calm
theorem Av.Calm.with_ {a : Av} {c : Cv} (h : a.Calm) (hc : c.Calm ∨ 7 ≤ c.p) : (a.with_ c).Calm := by
  unfold Av.with_
  split
  · intro z hz
    rcases List.mem_append.1 hz with hz | hz
    · exact h z hz
    · obtain rfl := List.mem_singleton.1 hz
      rcases hc with hc | hc
      · exact hc
      · omega
  repeat' split
  all_goals exact h
theorem Av.Calm.born {a : Av} {p : Pv} {d : Int} {mi : Bool} (h : a.Calm) (hp : 0 ≤ p.a ∧ p.a ≤ 100000000000) (h0 : -100000000000 ≤ a.cr) (h1 : a.cr ≤ 100000000000) : (a.born p d mi).Calm := by
  unfold Av.born
  split
  · exact Av.Calm.with_ h (.inr (by dsimp only; omega))
  split
  · exact Av.Calm.with_ h (.inr (by dsimp only; omega))
  split
  · exact Av.Calm.with_ h ((Cy.begin_calm (by omega) (by omega) (by omega) (by omega)).imp id (fun e => by omega))
  · exact Av.Calm.with_ h ((Cy.begin_calm (by omega) (by omega) (by omega) (by omega)).imp id (fun e => by omega))
/-- What a run of periods keeps. -/
structure Av.Fine (a : Av) (m : Nat) : Prop where
  calm : a.Calm
  fit : a.Fit m
  len : a.l.length ≤ m
  ct : 0 ≤ a.ct ∧ a.ct ≤ m
  c0 : -100000000000 ≤ a.cr
  c1 : a.cr ≤ 100000000000
theorem Av.Fine.ix {a : Av} {m : Nat} (h : a.Fine m) (i : Int) : ({ a with ix := i } : Av).Fine m :=
  ⟨h.calm, ⟨h.fit.d0, h.fit.d1, h.fit.n0, h.fit.n1, h.fit.r0, h.fit.r1, h.fit.s0, h.fit.s1, h.fit.c0, h.fit.c1, h.fit.p0, h.fit.p1⟩, h.len, h.ct, h.c0, h.c1⟩
theorem Av.Fine.born {a : Av} {m : Nat} {p : Pv} {d : Int} {mi : Bool} (h : a.Fine m) (hp : 0 ≤ p.a ∧ p.a ≤ 100000000000) : (a.born p d mi).Fine (m + 1) := by
  obtain ⟨g0, g1⟩ := Av.born_cr (d := d) (mi := mi) hp.1 h.c0 h.c1
  have hl := Av.born_len (a := a) (p := p) (d := d) (mi := mi)
  have := h.len
  have := h.ct
  exact ⟨h.calm.born hp h.c0 h.c1, Av.born_fit h.fit hp h.c0 h.c1, by omega, by rw [Av.born_same.2.2.2.2]; omega, g0, g1⟩
theorem Av.Fine.runs {p : Pv} {N : Int → Int} {c : Int} (hp : 0 ≤ p.a ∧ p.a ≤ 100000000000) : ∀ (f m : Nat) (a : Av), a.Fine m → (Av.runs N p c f a).Fine (m + f)
  | 0, _, _, h => h
  | f + 1, m, a, h => by
    have := Av.Fine.runs (N := N) (c := c) hp f (m + 1) _ ((h.ix (a.ix + 1)).born (d := N a.ix) (mi := p.l && decide (a.ix + 1 < c)) hp)
    rw [show m + (f + 1) = m + 1 + f by omega]
    exact this
theorem Av.runs_add {p : Pv} {N : Int → Int} {c : Int} : ∀ (f g : Nat) (a : Av), Av.runs N p c (f + g) a = Av.runs N p c g (Av.runs N p c f a)
  | 0, g, a => by rw [Nat.zero_add]; rfl
  | f + 1, g, a => by
    rw [show f + 1 + g = f + g + 1 by omega]
    exact Av.runs_add f g _
theorem Av.runs_any {p : Pv} {N : Int → Int} (c c' : Int) (hl : p.l = false) : ∀ (f : Nat) (a : Av), Av.runs N p c f a = Av.runs N p c' f a
  | 0, _ => rfl
  | f + 1, a => by
    show Av.runs N p c f (Av.born _ p _ (p.l && _)) = Av.runs N p c' f (Av.born _ p _ (p.l && _))
    rw [hl]
    exact Av.runs_any c c' hl f _
theorem Av.opened_fine (n an : Int) : (Av.opened n an).Fine 0 := by
  refine ⟨?_, ?_, Nat.le_refl _, ⟨Int.le_refl _, Int.le_refl _⟩, by show (-100000000000 : Int) ≤ 0; omega, by show (0 : Int) ≤ 100000000000; omega⟩
  · intro z hz; cases hz
  · constructor <;> (show _ ≤ _) <;> (simp [Av.opened])
/-- A day of a subscription of which nothing waits, that isn't at its end. -/
theorem daycalm_any {w : World} {v : Value} {a : Av} {p : Pv} {m : Nat} {y c k d : Int} (h : Cys w 0 w.heap.size v a.l) (ha : a.Fine m) (hm : m ≤ 10000) (hst : a.st ≠ 3)
    (hAt : Cal.At a.an k d) (hU : 0 ≤ p.u ∧ p.u ≤ 3) (hE : 1 ≤ p.e ∧ p.e ≤ 1000) (hix : 0 ≤ a.ix ∧ a.ix ≤ 100000) (hcc : c ≤ a.ix + 10000) (hcn : Cal.Cnt p.u a.an k d p.e y c) (hp : 0 ≤ p.a ∧ p.a ≤ 100000000000) :
    Calls Tryz.prog 58 #[.agg (a.arr v), .agg p.arr, .int .i64 y] w (News w (Av.runs (Cal.vN p.u a.an k d p.e) p c (c - a.ix).toNat a)) := by
  have he : a.each (fun z => (fun z => Cv.wake z y) z) = a := Av.each_id (fun z hz => ⟨(ha.calm z hz).wake y, (ha.calm z hz).open_⟩)
  have hl := ha.len
  have hct := ha.ct
  have := day_any (p := p) (y := y) (c := c) (k := k) (d := d) h (by omega) ha.fit hm (fun z hz => ⟨(ha.calm z hz).fit, (ha.calm z hz).t⟩) (by omega) hAt hU hE hix hcc hcn hp (by rw [he]; exact ⟨ha.c0, ha.c1⟩)
  unfold Av.day at this
  rw [if_neg hst, he] at this
  exact this
theorem Av.born_pay {a : Av} {p : Pv} {d : Int} (h1 : a.st ≠ 2) (h2 : a.sk = false) (h3 : ¬ p.a - a.cr < 0) : a.born p d false = Av.with_ { a with ct := a.ct + 1, cr := 0 } (Cy.begin_ a.ct d (p.a - a.cr) a.cr p.g) := by
  unfold Av.born
  rw [if_neg (by rintro (h | h); exact h1 h; cases h), if_neg (by rw [h2]; simp), if_neg h3]
theorem Av.runs_next {N : Int → Int} {p : Pv} {c : Int} {f : Nat} {a : Av} : Av.runs N p c (f + 1) a = Av.runs N p c f (Av.born { a with ix := a.ix + 1 } p (N a.ix) (p.l && decide (a.ix + 1 < c))) := rfl
end Go.Proofs.YtblikgbcakgdnaaGreat
/-
  A subscription of the document's, by its cells; small contracts of the document's own functions on it. No conditions but the sizes.
-/
namespace Go.Proofs.YtblikgbcakgdnaaGreat
set_option maxRecDepth 100000
open Go.ChangeShapes Go.WideShapes Go.ChangeAt Go.RowKit

def Sv.arr (s : Sv) (v : Value) : Array Value := #[.int .u8 s.st, .int .i64 s.pl, .int .i64 s.an, .int .i64 s.ix, .int .i64 s.cr, .bool s.sk, v]
theorem Sv.arr_size (s : Sv) (v : Value) : (s.arr v).size = 7 := rfl
theorem Sv.arr_one {s : Sv} {v : Value} (h : v.oneCell' = true) : (s.arr v).all (·.oneCell') = true := by simp [Sv.arr, Value.oneCell']; simpa [Value.oneCell'] using h
theorem Sv.at0 (s : Sv) (v : Value) : (s.arr v)[0]? = some (.int .u8 s.st) := rfl
theorem Sv.at1 (s : Sv) (v : Value) : (s.arr v)[1]? = some (.int .i64 s.pl) := rfl
theorem Sv.at2 (s : Sv) (v : Value) : (s.arr v)[2]? = some (.int .i64 s.an) := rfl
theorem Sv.at3 (s : Sv) (v : Value) : (s.arr v)[3]? = some (.int .i64 s.ix) := rfl
theorem Sv.at4 (s : Sv) (v : Value) : (s.arr v)[4]? = some (.int .i64 s.cr) := rfl
theorem Sv.at5 (s : Sv) (v : Value) : (s.arr v)[5]? = some (.bool s.sk) := rfl
theorem Sv.at6 (s : Sv) (v : Value) : (s.arr v)[6]? = some v := rfl
theorem Sv.set0 (s : Sv) (v : Value) (x : Int) : (s.arr v).setIfInBounds 0 (.int .u8 x) = ({ s with st := x } : Sv).arr v := rfl
theorem Sv.set1 (s : Sv) (v : Value) (x : Int) : (s.arr v).setIfInBounds 1 (.int .i64 x) = ({ s with pl := x } : Sv).arr v := rfl
theorem Sv.set2 (s : Sv) (v : Value) (x : Int) : (s.arr v).setIfInBounds 2 (.int .i64 x) = ({ s with an := x } : Sv).arr v := rfl
theorem Sv.set3 (s : Sv) (v : Value) (x : Int) : (s.arr v).setIfInBounds 3 (.int .i64 x) = ({ s with ix := x } : Sv).arr v := rfl
theorem Sv.set4 (s : Sv) (v : Value) (x : Int) : (s.arr v).setIfInBounds 4 (.int .i64 x) = ({ s with cr := x } : Sv).arr v := rfl
theorem Sv.set5 (s : Sv) (v : Value) (x : Bool) : (s.arr v).setIfInBounds 5 (.bool x) = ({ s with sk := x } : Sv).arr v := rfl
theorem Sv.set6 (s : Sv) (v v' : Value) : (s.arr v).setIfInBounds 6 v' = s.arr v' := rfl
attribute [simp, go_sem] Sv.arr_size Sv.at0 Sv.at1 Sv.at2 Sv.at3 Sv.at4 Sv.at5 Sv.at6 Sv.set0 Sv.set1 Sv.set2 Sv.set3 Sv.set4 Sv.set5 Sv.set6
theorem Sv.arr_l (s : Sv) (l : List Cv) (v : Value) : ({ s with l := l } : Sv).arr v = s.arr v := rfl
def Sv.zero : Sv := ⟨0, 0, 0, 0, 0, false, []⟩
theorem info7s : (Tryz.prog.info? 39).map (·.size) = some 7 := by kernel_rfl
theorem scells {w : World} {b : Nat} {ty : TypeId} {fr : Nat × Nat} {s : Sv} {v : Value} (h : w.heap[b]? = some (.cells (s.arr v) ty fr)) :
    w.cell? ⟨b, 0, none⟩ = some (.int .u8 s.st) ∧ w.cell? ⟨b, 1, none⟩ = some (.int .i64 s.pl) ∧ w.cell? ⟨b, 2, none⟩ = some (.int .i64 s.an) ∧ w.cell? ⟨b, 3, none⟩ = some (.int .i64 s.ix) ∧ w.cell? ⟨b, 4, none⟩ = some (.int .i64 s.cr) ∧ w.cell? ⟨b, 5, none⟩ = some (.bool s.sk) ∧ w.cell? ⟨b, 6, none⟩ = some v := by
  refine ⟨?_, ?_, ?_, ?_, ?_, ?_, ?_⟩
  all_goals
    rw [cell_of_row _ _ _ _ _ _ h]
    rfl
theorem refchange_s {w : World} {v : Value} {s : Sv} {k : Nat} {c c0 : Cv} (h : Cys w 0 w.heap.size v s.l) (hc0 : s.l[k]? = some c0) (hs : s.l.length ≤ 1000000) (hcr : -1000000000000000000 ≤ s.cr ∧ s.cr ≤ 1000000000000000000) (hu : -1000000000000000000 ≤ c.u ∧ c.u ≤ 1000000000000000000) :
    Calls Tryz.prog 35 #[.agg (s.arr v), .int .i64 k, .agg c.arr] w fun e w' => ∃ v', e = .returned (.agg (({ s with cr := Cy.gain s.cr c0 c, l := s.l.set k c } : Sv).arr v')) ∧ Cys w' w.heap.size w'.heap.size v' (s.l.set k c) ∧ Below w.heap.size w w' :=
  refchange_any s.st s.pl s.an s.ix s.cr s.sk c.n c.d c.p c.a c.u c.t c.x c.g h hc0 hs hcr hu
set_option maxHeartbeats 400000 in
theorem refagain_any (n d p a u t x : Int) (g : Bool) (w : World) (h0 : -9223372036854775808 ≤ t) (h1 : t < 9223372036854775807) : Calls Tryz.prog 36 #[.agg #[.int .i64 n, .int .i64 d, .int .u8 p, .int .i64 a, .int .i64 u, .int .i64 t, .int .i64 x, .bool g]] w fun e w' => e = .returned (.agg #[.int .i64 n, .int .i64 d, .int .u8 1, .int .i64 a, .int .i64 u, .int .i64 (t + 1), .int .i64 0, .bool g]) ∧ Below w.heap.size w w' := by
  have e1 : wrap64 (t + 1) = t + 1 := by unfold wrap64; omega
  go_enter Tryz.func36, Tryz.ntmps36
  go_wp2
  refine bodyPost_ret (v := .agg #[.int .i64 n, .int .i64 d, .int .u8 1, .int .i64 a, .int .i64 u, .int .i64 (t + 1), .int .i64 0, .bool g]) ?_ rfl ⟨rfl, by go_grown⟩
  simp [results, Tryz.results36, go_sem]
theorem refnth_all (a k d u e n : Int) (h : Cal.At a k d) (u0 : 0 ≤ u) (u1 : u ≤ 3) (e0 : 1 ≤ e) (e1 : e ≤ 1000) (n0 : 0 ≤ n) (n1 : n ≤ 20000) : ∃ v ok, Hid (∀ w, Calls Tryz.prog 67 #[.int .i64 a, .int .u8 u, .int .i64 e, .int .i64 n] w fun r w' => r = .returned (.tuple #[.int .i64 v, .bool ok]) ∧ Below w.heap.size w w') ∧ Cal.nth a k d u e n = (if ok = true then some v else none) ∧ (ok = true → a + n ≤ v) := by
  unfold Cal.nth
  cases ho : Cal.okN u a k e n
  · exact ⟨_, false, fun w => rnth_no a k d u e n w h u0 u1 e0 e1 n0 n1 ho, rfl, fun h => by cases h⟩
  · exact ⟨_, true, fun w => rnth_yes a k d u e n w h u0 u1 e0 e1 n0 n1 ho, rfl, fun _ => Cal.vN_grow h e0 n0⟩
/-- So many have become another one. -/
def woken (l : List Cv) (f : Cv → Cv) (j : Nat) : List Cv := (l.take j).map f ++ l.drop j
theorem woken_len (l : List Cv) (f : Cv → Cv) (j : Nat) : (woken l f j).length = l.length := by unfold woken; simp; omega
theorem woken_zero (l : List Cv) (f : Cv → Cv) : woken l f 0 = l := rfl
theorem woken_all (l : List Cv) (f : Cv → Cv) : woken l f l.length = l.map f := by unfold woken; simp
theorem woken_at {l : List Cv} {f : Cv → Cv} {j : Nat} {c : Cv} (h : l[j]? = some c) : (woken l f j)[j]? = some c := by
  have hj := (List.getElem?_eq_some_iff.1 h).1
  unfold woken
  rw [List.getElem?_append_right (by simp; omega), List.getElem?_drop]
  simp
  rw [show min j l.length = j by omega, show j + (j - j) = j by omega]
  exact h
theorem woken_next {l : List Cv} {f : Cv → Cv} {j : Nat} {c : Cv} (h : l[j]? = some c) : (woken l f j).set j (f c) = woken l f (j + 1) := by
  have hj := (List.getElem?_eq_some_iff.1 h).1
  have hc : l[j] = c := (List.getElem?_eq_some_iff.1 h).2
  unfold woken
  rw [List.take_succ_eq_append_getElem hj, List.map_append, hc, List.drop_eq_getElem_cons hj]
  rw [List.set_append_right _ _ (by simp; omega), List.length_map, List.length_take, show j - min j l.length = 0 by omega, List.set_cons_zero, List.append_assoc]
  rfl
theorem woken_same {l : List Cv} {f : Cv → Cv} {j : Nat} {c : Cv} (h : l[j]? = some c) (hw : f c = c) : woken l f (j + 1) = woken l f j := by
  rw [← woken_next h, hw]
  have hw2 := woken_at (f := f) h
  apply List.ext_getElem?
  intro i
  rw [List.getElem?_set]
  split
  · subst_vars; rw [if_pos (List.getElem?_eq_some_iff.1 hw2).1, hw2]
  · rfl
/-- A list that lies apart from what a call has boxed: in old blocks, or in new ones. -/
def Cya (B : Nat) (w : World) (v : Value) (l : List Cv) : Prop := ∃ b c, (c ≤ B ∨ B + 1 + 1 + 1 ≤ b) ∧ c ≤ w.heap.size ∧ Cys w b c v l
theorem Cya.kept {B : Nat} {w w' : World} {v : Value} {l : List Cv} (h : Cya B w v l) (hz : w.heap.size ≤ w'.heap.size) (hk : ∀ i, i < w.heap.size → (i < B ∨ B + 1 + 1 + 1 ≤ i) → w'.heap[i]? = w.heap[i]?) : Cya B w' v l := by
  obtain ⟨b, c, hap, hc, hcys⟩ := h
  exact ⟨b, c, hap, by omega, hcys.kept fun i h1 h2 => hk i (by omega) (by omega)⟩
theorem Cya.whole {B : Nat} {w : World} {v : Value} {l : List Cv} (h : Cya B w v l) : Cys w 0 w.heap.size v l := by
  obtain ⟨b, c, _, hc, hcys⟩ := h
  exact hcys.more (Nat.zero_le _) hc
/-- A list of new blocks. -/
theorem Cya.new {B : Nat} {w : World} {v : Value} {l : List Cv} {b : Nat} (h : Cys w b w.heap.size v l) (hb : B + 1 + 1 + 1 ≤ b) : Cya B w v l := ⟨b, w.heap.size, .inr hb, Nat.le_refl _, h⟩
end Go.Proofs.YtblikgbcakgdnaaGreat
