/-
  Contracts of the document's own answers for a day's number, and for the day behind a day. No conditions but that the day is one.
-/
import Derived.Test.YtblikgbcakgdnaaGreatBr02
import Derived.Test.YtblikgbcakgdnaaGreatBr03
import Derived.Test.YtblikgbcakgdnaaGreatBr04
import Derived.Test.YtblikgbcakgdnaaGreatBr06
import Derived.Test.YtblikgbcakgdnaaGreatBr07
import Derived.Test.YtblikgbcakgdnaaGreatBr08
import Derived.Test.YtblikgbcakgdnaaGreatBr16
set_option linter.unusedSimpArgs false
set_option linter.unusedVariables false
namespace Go.Proofs.YtblikgbcakgdnaaGreat
open Go.ChangeShapes Go.WideShapes Go.ChangeAt Go.RowKit
open Cal (leap mon)

end Go.Proofs.YtblikgbcakgdnaaGreat
/-
  Contract of the document's own answer for the day of a number: of a day's number, that day. No conditions but that the number is a day's.
-/
namespace Go.Proofs.YtblikgbcakgdnaaGreat
open Go.ChangeShapes Go.WideShapes Go.ChangeAt Go.RowKit
open Cal (leap mon)

end Go.Proofs.YtblikgbcakgdnaaGreat
/-
  Contracts of the document's own answer for the first day of a period, and of the statements' own example. No conditions but the numbers' own ranges.
-/
namespace Go.Proofs.YtblikgbcakgdnaaGreat
open Go.ChangeShapes Go.WideShapes Go.ChangeAt Go.RowKit
open Cal (leap mon)

end Go.Proofs.YtblikgbcakgdnaaGreat
/-
  A subscription by its fields; a day that comes: what becomes of it, as the document's own Day tells it. No conditions but those that each law names.
-/
namespace Go.Proofs.YtblikgbcakgdnaaGreat
set_option maxRecDepth 20000
open Go.ChangeShapes Go.WideShapes Go.ChangeAt Go.RowKit

/-- A subscription, by its fields: its state, its plan, the day from which periods count, the next one's number, its credit; is the next one passed over? all its cycles. -/
structure Sv where
  st : Int
  pl : Int
  an : Int
  ix : Int
  cr : Int
  sk : Bool
  l : List Cv
/-- A period that begins: the cycle that comes of it. -/
def Sv.born (s : Sv) (p : Pv) (d : Int) (missed : Bool) : Sv :=
  if s.st = 2 ∨ missed = true then { s with ix := s.ix + 1, l := s.l ++ [⟨s.l.length, d, 10, 0, 0, 0, 0, false⟩] }
  else if s.sk = true then { s with ix := s.ix + 1, sk := false, l := s.l ++ [⟨s.l.length, d, 10, 0, 0, 0, 0, false⟩] }
  else if p.a - s.cr < 0 then { s with ix := s.ix + 1, cr := s.cr - p.a, l := s.l ++ [Cy.begin_ s.l.length d 0 p.a p.g] }
  else { s with ix := s.ix + 1, cr := 0, l := s.l ++ [Cy.begin_ s.l.length d (p.a - s.cr) s.cr p.g] }
/-- Is it missed? -/
def Sv.missed (p : Pv) (today : Int) (next : Option Int) : Bool := p.l && match next with
  | some d => decide (d ≤ today)
  | none => false
/-- So many periods at most, by the days N on which they begin. -/
def Sv.days (N : Int → Option Int) (p : Pv) (today : Int) : Nat → Sv → Sv
  | 0, s => s
  | f + 1, s => match N s.ix with
    | none => s
    | some d => if today < d then s else Sv.days N p today f (s.born p d (Sv.missed p today (N (s.ix + 1))))
/-- A day has come. -/
def Sv.day (N : Int → Option Int) (p : Pv) (today : Int) (s : Sv) : Sv :=
  let s' := { s with l := s.l.map (fun c => c.wake today) }
  if s.st = 3 then s' else Sv.days N p today 4000 s'
/-- The first day of a period. -/
def Cal.nth (a k d u e : Int) (n : Int) : Option Int := if Cal.okN u a k e n = true then some (Cal.vN u a k d e n) else none
end Go.Proofs.YtblikgbcakgdnaaGreat
/-
  A subscription's first days, and days that come later where nothing waits; the document's example. No conditions but the sizes.
-/
namespace Go.Proofs.YtblikgbcakgdnaaGreat
set_option maxRecDepth 20000
open Go.ChangeShapes Go.WideShapes Go.ChangeAt Go.RowKit

theorem boxed_fresh {w : World} {cs cs' : Array Value} {t : TypeId} : boxed (w.alloc (.cells cs t)) w.heap.size cs' t = w.alloc (.cells cs' t) := by
  unfold boxed World.alloc
  congr 1
  apply Array.ext_getElem?
  intro i
  rw [Array.getElem?_setIfInBounds]
  by_cases e : w.heap.size = i
  · subst e; simp
  · rw [if_neg e, Array.getElem?_push, Array.getElem?_push]
    simp [Ne.symm e]
attribute [simp, go_sem] boxed_fresh
/-- Nothing that is open becomes another one, or is at its end: so the subscription stays. -/
theorem Av.fold_open : ∀ (l : List Cv) (a : Av), (∀ z ∈ l, z.p < 7) → l.foldl Av.with_ a = { a with l := a.l ++ l }
  | [], a, _ => by rw [List.foldl_nil, List.append_nil]
  | c :: r, a, h => by
    rw [List.foldl_cons, Av.fold_open r _ (fun z hz => h z (List.mem_cons_of_mem _ hz))]
    have : a.with_ c = { a with l := a.l ++ [c] } := if_pos (h c List.mem_cons_self)
    rw [this, List.append_assoc]; rfl
theorem Av.each_open {a : Av} {f : Cv → Cv} (h : ∀ z ∈ a.l, (f z).p < 7) : a.each f = { a with l := a.l.map f } := by
  unfold Av.each Av.settled
  rw [Av.fold_open _ _ (fun z hz => by obtain ⟨q, hq, rfl⟩ := List.mem_map.1 hz; exact h q hq)]
  rfl
theorem Av.each_id {a : Av} {f : Cv → Cv} (h : ∀ z ∈ a.l, f z = z ∧ z.p < 7) : a.each f = a := by
  have hm : a.l.map f = a.l := by
    have : a.l.map f = a.l.map id := List.map_congr_left (fun z hz => (h z hz).1)
    rw [this, List.map_id]
  rw [Av.each_open (fun z hz => by rw [(h z hz).1]; exact (h z hz).2), hm]
/-- Open cycles that wait for nobody's day. -/
structure Cv.Calm (z : Cv) : Prop where
  p : z.p = 1 ∨ z.p = 3
  fit : z.Fit
  t : z.t ≤ 999
theorem Cv.Calm.wake {z : Cv} (h : z.Calm) (y : Int) : z.wake y = z := by
  obtain ⟨n, d, p, a, u, t, x, g⟩ := z
  have hp : p ≠ 2 := by have := h.p; dsimp only at this; omega
  unfold Cv.wake
  split
  · rfl
  · exact card_no hp
theorem Cv.Calm.open_ {z : Cv} (h : z.Calm) : z.p < 7 := by have := h.p; omega
theorem Cy.begin_calm {n d a u : Int} {g : Bool} (h0 : -1000000000000 ≤ a) (h1 : a ≤ 1000000000000) (h2 : -1000000000000 ≤ u) (h3 : u ≤ 1000000000000) : (Cy.begin_ n d a u g).Calm ∨ (Cy.begin_ n d a u g).p = 7 := by
  have hf := Cy.begin_fit (n := n) (d := d) (g := g) h0 h1 h2 h3
  by_cases ha : a = 0
  · rw [cbegin_yes ha] at hf ⊢
    cases g
    · exact .inr rfl
    · exact .inl ⟨.inr rfl, hf, by dsimp only; omega⟩
  · rw [cbegin_no ha] at hf ⊢
    exact .inl ⟨.inl rfl, hf, by dsimp only; omega⟩
/-- All that is open is calm. -/
def Av.Calm (a : Av) : Prop := ∀ z ∈ a.l, z.Calm
theorem Av.Calm.with_ {a : Av} {c : Cv} (h : a.Calm) (hc : c.Calm ∨ 7 ≤ c.p) : (a.with_ c).Calm := by
  unfold Av.with_
  split
  · intro z hz
    rcases List.mem_append.1 hz with hz | hz
    · exact h z hz
    · obtain rfl := List.mem_singleton.1 hz
      rcases hc with hc | hc
      · exact hc
      · omega
  repeat' split
  all_goals exact h
theorem Av.Calm.born {a : Av} {p : Pv} {d : Int} {mi : Bool} (h : a.Calm) (hp : 0 ≤ p.a ∧ p.a ≤ 100000000000) (h0 : -100000000000 ≤ a.cr) (h1 : a.cr ≤ 100000000000) : (a.born p d mi).Calm := by
  unfold Av.born
  split
  · exact Av.Calm.with_ h (.inr (by dsimp only; omega))
  split
  · exact Av.Calm.with_ h (.inr (by dsimp only; omega))
  split
  · exact Av.Calm.with_ h ((Cy.begin_calm (by omega) (by omega) (by omega) (by omega)).imp id (fun e => by omega))
  · exact Av.Calm.with_ h ((Cy.begin_calm (by omega) (by omega) (by omega) (by omega)).imp id (fun e => by omega))
/-- What a run of periods keeps. -/
structure Av.Fine (a : Av) (m : Nat) : Prop where
  calm : a.Calm
  fit : a.Fit m
  len : a.l.length ≤ m
  ct : 0 ≤ a.ct ∧ a.ct ≤ m
  c0 : -100000000000 ≤ a.cr
  c1 : a.cr ≤ 100000000000
theorem Av.Fine.ix {a : Av} {m : Nat} (h : a.Fine m) (i : Int) : ({ a with ix := i } : Av).Fine m :=
  ⟨h.calm, ⟨h.fit.d0, h.fit.d1, h.fit.n0, h.fit.n1, h.fit.r0, h.fit.r1, h.fit.s0, h.fit.s1, h.fit.c0, h.fit.c1, h.fit.p0, h.fit.p1⟩, h.len, h.ct, h.c0, h.c1⟩
theorem Av.Fine.born {a : Av} {m : Nat} {p : Pv} {d : Int} {mi : Bool} (h : a.Fine m) (hp : 0 ≤ p.a ∧ p.a ≤ 100000000000) : (a.born p d mi).Fine (m + 1) := by
  obtain ⟨g0, g1⟩ := Av.born_cr (d := d) (mi := mi) hp.1 h.c0 h.c1
  have hl := Av.born_len (a := a) (p := p) (d := d) (mi := mi)
  have := h.len
  have := h.ct
  exact ⟨h.calm.born hp h.c0 h.c1, Av.born_fit h.fit hp h.c0 h.c1, by omega, by rw [Av.born_same.2.2.2.2]; omega, g0, g1⟩
theorem Av.Fine.runs {p : Pv} {N : Int → Int} {c : Int} (hp : 0 ≤ p.a ∧ p.a ≤ 100000000000) : ∀ (f m : Nat) (a : Av), a.Fine m → (Av.runs N p c f a).Fine (m + f)
  | 0, _, _, h => h
  | f + 1, m, a, h => by
    have := Av.Fine.runs (N := N) (c := c) hp f (m + 1) _ ((h.ix (a.ix + 1)).born (d := N a.ix) (mi := p.l && decide (a.ix + 1 < c)) hp)
    rw [show m + (f + 1) = m + 1 + f by omega]
    exact this
theorem Av.opened_fine (n an : Int) : (Av.opened n an).Fine 0 := by
  refine ⟨?_, ?_, Nat.le_refl _, ⟨Int.le_refl _, Int.le_refl _⟩, by show (-100000000000 : Int) ≤ 0; omega, by show (0 : Int) ≤ 100000000000; omega⟩
  · intro z hz; cases hz
  · constructor <;> (show _ ≤ _) <;> (simp [Av.opened])
/-- A day of a subscription of which nothing waits, that isn't at its end. -/
theorem daycalm_any {w : World} {v : Value} {a : Av} {p : Pv} {m : Nat} {y c k d : Int} (h : Cys w 0 w.heap.size v a.l) (ha : a.Fine m) (hm : m ≤ 10000) (hst : a.st ≠ 3)
    (hAt : Cal.At a.an k d) (hU : 0 ≤ p.u ∧ p.u ≤ 3) (hE : 1 ≤ p.e ∧ p.e ≤ 1000) (hix : 0 ≤ a.ix ∧ a.ix ≤ 100000) (hcc : c ≤ a.ix + 10000) (hcn : Cal.Cnt p.u a.an k d p.e y c) (hp : 0 ≤ p.a ∧ p.a ≤ 100000000000) :
    Calls Tryz.prog 58 #[.agg (a.arr v), .agg p.arr, .int .i64 y] w (News w (Av.runs (Cal.vN p.u a.an k d p.e) p c (c - a.ix).toNat a)) := by
  have he : a.each (fun z => (fun z => Cv.wake z y) z) = a := Av.each_id (fun z hz => ⟨(ha.calm z hz).wake y, (ha.calm z hz).open_⟩)
  have hl := ha.len
  have hct := ha.ct
  have := day_any (p := p) (y := y) (c := c) (k := k) (d := d) h (by omega) ha.fit hm (fun z hz => ⟨(ha.calm z hz).fit, (ha.calm z hz).t⟩) (by omega) hAt hU hE hix hcc hcn hp (by rw [he]; exact ⟨ha.c0, ha.c1⟩)
  unfold Av.day at this
  rw [if_neg hst, he] at this
  exact this
theorem Av.born_pay {a : Av} {p : Pv} {d : Int} (h1 : a.st ≠ 2) (h2 : a.sk = false) (h3 : ¬ p.a - a.cr < 0) : a.born p d false = Av.with_ { a with ct := a.ct + 1, cr := 0 } (Cy.begin_ a.ct d (p.a - a.cr) a.cr p.g) := by
  unfold Av.born
  rw [if_neg (by rintro (h | h); exact h1 h; cases h), if_neg (by rw [h2]; simp), if_neg h3]
theorem Av.runs_next {N : Int → Int} {p : Pv} {c : Int} {f : Nat} {a : Av} : Av.runs N p c (f + 1) a = Av.runs N p c f (Av.born { a with ix := a.ix + 1 } p (N a.ix) (p.l && decide (a.ix + 1 < c))) := rfl
end Go.Proofs.YtblikgbcakgdnaaGreat
/-
  A subscription of the document's, by its cells; small contracts of the document's own functions on it. No conditions but the sizes.
-/
namespace Go.Proofs.YtblikgbcakgdnaaGreat
set_option maxRecDepth 100000
open Go.ChangeShapes Go.WideShapes Go.ChangeAt Go.RowKit

def Sv.arr (s : Sv) (v : Value) : Array Value := #[.int .u8 s.st, .int .i64 s.pl, .int .i64 s.an, .int .i64 s.ix, .int .i64 s.cr, .bool s.sk, v]
theorem Sv.arr_size (s : Sv) (v : Value) : (s.arr v).size = 7 := rfl
theorem Sv.arr_one {s : Sv} {v : Value} (h : v.oneCell' = true) : (s.arr v).all (·.oneCell') = true := by simp [Sv.arr, Value.oneCell']; simpa [Value.oneCell'] using h
theorem Sv.at0 (s : Sv) (v : Value) : (s.arr v)[0]? = some (.int .u8 s.st) := rfl
theorem Sv.at1 (s : Sv) (v : Value) : (s.arr v)[1]? = some (.int .i64 s.pl) := rfl
theorem Sv.at2 (s : Sv) (v : Value) : (s.arr v)[2]? = some (.int .i64 s.an) := rfl
theorem Sv.at3 (s : Sv) (v : Value) : (s.arr v)[3]? = some (.int .i64 s.ix) := rfl
theorem Sv.at4 (s : Sv) (v : Value) : (s.arr v)[4]? = some (.int .i64 s.cr) := rfl
theorem Sv.at5 (s : Sv) (v : Value) : (s.arr v)[5]? = some (.bool s.sk) := rfl
theorem Sv.at6 (s : Sv) (v : Value) : (s.arr v)[6]? = some v := rfl
theorem Sv.set0 (s : Sv) (v : Value) (x : Int) : (s.arr v).setIfInBounds 0 (.int .u8 x) = ({ s with st := x } : Sv).arr v := rfl
theorem Sv.set1 (s : Sv) (v : Value) (x : Int) : (s.arr v).setIfInBounds 1 (.int .i64 x) = ({ s with pl := x } : Sv).arr v := rfl
theorem Sv.set2 (s : Sv) (v : Value) (x : Int) : (s.arr v).setIfInBounds 2 (.int .i64 x) = ({ s with an := x } : Sv).arr v := rfl
theorem Sv.set3 (s : Sv) (v : Value) (x : Int) : (s.arr v).setIfInBounds 3 (.int .i64 x) = ({ s with ix := x } : Sv).arr v := rfl
theorem Sv.set4 (s : Sv) (v : Value) (x : Int) : (s.arr v).setIfInBounds 4 (.int .i64 x) = ({ s with cr := x } : Sv).arr v := rfl
theorem Sv.set5 (s : Sv) (v : Value) (x : Bool) : (s.arr v).setIfInBounds 5 (.bool x) = ({ s with sk := x } : Sv).arr v := rfl
theorem Sv.set6 (s : Sv) (v v' : Value) : (s.arr v).setIfInBounds 6 v' = s.arr v' := rfl
attribute [simp, go_sem] Sv.arr_size Sv.at0 Sv.at1 Sv.at2 Sv.at3 Sv.at4 Sv.at5 Sv.at6 Sv.set0 Sv.set1 Sv.set2 Sv.set3 Sv.set4 Sv.set5 Sv.set6
def Sv.zero : Sv := ⟨0, 0, 0, 0, 0, false, []⟩
/-- So many have become another one. -/
def woken (l : List Cv) (f : Cv → Cv) (j : Nat) : List Cv := (l.take j).map f ++ l.drop j
/-- A list that lies apart from what a call has boxed: in old blocks, or in new ones. -/
def Cya (B : Nat) (w : World) (v : Value) (l : List Cv) : Prop := ∃ b c, (c ≤ B ∨ B + 1 + 1 + 1 ≤ b) ∧ c ≤ w.heap.size ∧ Cys w b c v l
theorem Cya.kept {B : Nat} {w w' : World} {v : Value} {l : List Cv} (h : Cya B w v l) (hz : w.heap.size ≤ w'.heap.size) (hk : ∀ i, i < w.heap.size → (i < B ∨ B + 1 + 1 + 1 ≤ i) → w'.heap[i]? = w.heap[i]?) : Cya B w' v l := by
  obtain ⟨b, c, hap, hc, hcys⟩ := h
  exact ⟨b, c, hap, by omega, hcys.kept fun i h1 h2 => hk i (by omega) (by omega)⟩
/-- A list of new blocks. -/
theorem Cya.new {B : Nat} {w : World} {v : Value} {l : List Cv} {b : Nat} (h : Cys w b w.heap.size v l) (hb : B + 1 + 1 + 1 ≤ b) : Cya B w v l := ⟨b, w.heap.size, .inr hb, Nat.le_refl _, h⟩
end Go.Proofs.YtblikgbcakgdnaaGreat
