/-
  A subscription of the document's, as the program tells it: no memory. No conditions but those that each law names.
-/
import Derived.Deep.CutRange
import Derived.Test.YtblikgbcakgdnaaGreatBr03
import Derived.Test.YtblikgbcakgdnaaGreatBr17
import Derived.Test.YtblikgbcakgdnaaGreatBr18
import Derived.Test.YtblikgbcakgdnaaGreatBr20
set_option linter.unusedSimpArgs false
set_option linter.unusedVariables false
namespace Go.Proofs.YtblikgbcakgdnaaGreat
set_option maxRecDepth 100000
open Go.ChangeShapes Go.WideShapes Go.ChangeAt Go.RowKit

/-- Those that are open. -/
def opn (l : List Cv) : List Cv := l.filter (fun c => decide (c.p < 7))
/-- How many there are of a phase. -/
def cntOf (q : Int) (l : List Cv) : Int := (l.countP (fun c => decide (c.p = q)) : Nat)
/-- What was paid. -/
def paidOf : List Cv → Int
  | [] => 0
  | c :: l => (if c.p = 7 then c.a else 0) + paidOf l
/-- What is there again of those that came to nothing. -/
def backOf : List Cv → Int
  | [] => 0
  | c :: l => (if c.p = 8 ∨ c.p = 9 then c.u else 0) + backOf l
theorem opn_nil : opn [] = [] := rfl
theorem opn_cons_yes {c : Cv} {l : List Cv} (h : c.p < 7) : opn (c :: l) = c :: opn l := by unfold opn; rw [List.filter_cons_of_pos (by simpa using h)]
theorem opn_cons_no {c : Cv} {l : List Cv} (h : ¬ c.p < 7) : opn (c :: l) = opn l := by unfold opn; rw [List.filter_cons_of_neg (by simpa using h)]
theorem opn_append (a b : List Cv) : opn (a ++ b) = opn a ++ opn b := List.filter_append ..
theorem opn_mem {c : Cv} {l : List Cv} (h : c ∈ opn l) : c ∈ l ∧ c.p < 7 := by
  have := List.mem_filter.1 h
  exact ⟨this.1, by simpa using this.2⟩
theorem opn_len (l : List Cv) : (opn l).length ≤ l.length := List.length_filter_le ..
theorem cnt_nil (q : Int) : cntOf q [] = 0 := rfl
theorem cnt_cons (q : Int) (c : Cv) (l : List Cv) : cntOf q (c :: l) = cntOf q l + (if c.p = q then 1 else 0) := by
  unfold cntOf
  rw [List.countP_cons]
  by_cases h : c.p = q <;> simp [h]
theorem cnt_append (q : Int) (a b : List Cv) : cntOf q (a ++ b) = cntOf q a + cntOf q b := by unfold cntOf; rw [List.countP_append]; omega
theorem cnt_bd (q : Int) (l : List Cv) : 0 ≤ cntOf q l ∧ cntOf q l ≤ l.length := by
  have := List.countP_le_length (p := fun c : Cv => decide (c.p = q)) (l := l)
  unfold cntOf; omega
theorem paid_cons (c : Cv) (l : List Cv) : paidOf (c :: l) = (if c.p = 7 then c.a else 0) + paidOf l := rfl
theorem back_cons (c : Cv) (l : List Cv) : backOf (c :: l) = (if c.p = 8 ∨ c.p = 9 then c.u else 0) + backOf l := rfl
theorem paid_append (a b : List Cv) : paidOf (a ++ b) = paidOf a + paidOf b := by
  induction a with
  | nil => simp [paidOf]
  | cons c r ih => rw [List.cons_append, paid_cons, paid_cons, ih]; omega
theorem Av.fold_form : ∀ (l : List Cv) (a : Av), l.foldl Av.with_ a = ⟨a.st, a.pl, a.an, a.ix, a.ct, a.cr + backOf l, a.sk, a.l ++ opn l, a.dn + cntOf 7 l, a.un + cntOf 8 l, a.rf + cntOf 9 l, a.sp + cntOf 10 l, a.pd + paidOf l⟩
  | [], a => by simp [opn_nil, cnt_nil, paidOf, backOf]
  | c :: r, a => by
    rw [List.foldl_cons, Av.fold_form r]
    simp only [cnt_cons, paid_cons, back_cons]
    unfold Av.with_
    by_cases h : c.p < 7
    · rw [if_pos h, opn_cons_yes h, if_neg (by omega), if_neg (by omega), if_neg (by omega), if_neg (by omega), if_neg (by omega), if_neg (by omega)]
      simp
    rw [if_neg h, opn_cons_no h]
    by_cases h7 : c.p = 7
    · rw [if_pos h7, if_neg (by omega), if_pos h7, if_neg (by omega), if_neg (by omega), if_neg (by omega), if_pos h7]
      simp only [Av.mk.injEq, true_and]
      refine ⟨?_, ?_, ?_, ?_, ?_, ?_⟩ <;> omega
    by_cases h8 : c.p = 8
    · rw [if_neg h7, if_pos h8, if_pos (.inl h8), if_neg h7, if_pos h8, if_neg (by omega), if_neg (by omega), if_neg h7]
      simp only [Av.mk.injEq, true_and]
      refine ⟨?_, ?_, ?_, ?_, ?_, ?_⟩ <;> omega
    by_cases h9 : c.p = 9
    · rw [if_neg h7, if_neg h8, if_pos h9, if_pos (.inr h9), if_neg h7, if_neg h8, if_pos h9, if_neg (by omega), if_neg h7]
      simp only [Av.mk.injEq, true_and]
      refine ⟨?_, ?_, ?_, ?_, ?_, ?_⟩ <;> omega
    by_cases h10 : c.p = 10
    · rw [if_neg h7, if_neg h8, if_neg h9, if_pos h10, if_neg (by omega), if_neg h7, if_neg h8, if_neg h9, if_pos h10, if_neg h7]
      simp only [Av.mk.injEq, true_and]
      refine ⟨?_, ?_, ?_, ?_, ?_, ?_⟩ <;> omega
    · rw [if_neg h7, if_neg h8, if_neg h9, if_neg h10, if_neg (by omega), if_neg h7, if_neg h8, if_neg h9, if_neg h10, if_neg h7]
      simp only [Av.mk.injEq, true_and]
      refine ⟨?_, ?_, ?_, ?_, ?_, ?_⟩ <;> omega
/-- A subscription of the document's, as the program has it. -/
def Sv.tell (s : Sv) : Av := ⟨s.st, s.pl, s.an, s.ix, s.l.length, s.cr, s.sk, opn s.l, cntOf 7 s.l, cntOf 8 s.l, cntOf 9 s.l, cntOf 10 s.l, paidOf s.l⟩
/-- Every cycle becomes another one, those at their end stay. -/
theorem tell_map {f : Cv → Cv} : ∀ (l : List Cv), (∀ c ∈ l, ¬ c.p < 7 → f c = c) → opn (l.map f) = opn ((opn l).map f) ∧ (∀ q, 7 ≤ q → cntOf q (l.map f) = cntOf q l + cntOf q ((opn l).map f)) ∧ paidOf (l.map f) = paidOf l + paidOf ((opn l).map f)
  | [], _ => ⟨rfl, fun q _ => rfl, rfl⟩
  | c :: r, h => by
    obtain ⟨h1, h2, h3⟩ := tell_map r (fun c hc => h c (List.mem_cons_of_mem _ hc))
    by_cases hc : c.p < 7
    · rw [List.map_cons, opn_cons_yes hc, List.map_cons]
      refine ⟨?_, fun q hq => ?_, ?_⟩
      · by_cases hf : (f c).p < 7
        · rw [opn_cons_yes hf, opn_cons_yes hf, h1]
        · rw [opn_cons_no hf, opn_cons_no hf, h1]
      · rw [cnt_cons, cnt_cons, cnt_cons, h2 q hq, if_neg (show ¬ c.p = q by omega)]
        omega
      · rw [paid_cons, paid_cons, paid_cons, h3, if_neg (show ¬ c.p = 7 by omega)]
        omega
    · have e := h c List.mem_cons_self hc
      rw [List.map_cons, opn_cons_no hc, e]
      refine ⟨?_, fun q hq => ?_, ?_⟩
      · rw [opn_cons_no hc, h1]
      · rw [cnt_cons, cnt_cons, h2 q hq]
        omega
      · rw [paid_cons, paid_cons, h3]
        omega
theorem tell_each (s : Sv) (f : Cv → Cv) (h : ∀ c ∈ s.l, ¬ c.p < 7 → f c = c) : Sv.tell { s with l := s.l.map f, cr := s.cr + backOf ((opn s.l).map f) } = (Sv.tell s).each f := by
  obtain ⟨h1, h2, h3⟩ := tell_map s.l h
  unfold Av.each Av.settled
  rw [Av.fold_form]
  unfold Sv.tell
  dsimp only
  rw [h1, h2 7 (by omega), h2 8 (by omega), h2 9 (by omega), h2 10 (by omega), h3, List.length_map]
  simp
theorem back_open {l : List Cv} (h : ∀ c ∈ l, c.p < 7) : backOf l = 0 := by
  induction l with
  | nil => rfl
  | cons c r ih =>
    have := h c List.mem_cons_self
    rw [back_cons, ih (fun c hc => h c (List.mem_cons_of_mem _ hc)), if_neg (by omega)]
    rfl
/-- Where nothing comes to an end the credit stays. -/
theorem tell_each_open (s : Sv) (f : Cv → Cv) (h : ∀ c ∈ s.l, ¬ c.p < 7 → f c = c) (h2 : ∀ c ∈ s.l, c.p < 7 → (f c).p < 7) : Sv.tell { s with l := s.l.map f } = (Sv.tell s).each f := by
  rw [← tell_each s f h, back_open (l := (opn s.l).map f) ?_, Int.add_zero]
  intro c hc
  obtain ⟨q, hq, rfl⟩ := List.mem_map.1 hc
  exact h2 q (opn_mem hq).1 (opn_mem hq).2
theorem tell_snoc (s : Sv) (c : Cv) (h : c.p < 8 ∨ c.p = 10) : Sv.tell { s with l := s.l ++ [c] } = Av.with_ { Sv.tell s with ct := (Sv.tell s).ct + 1 } c := by
  have : Av.with_ { Sv.tell s with ct := (Sv.tell s).ct + 1 } c = [c].foldl Av.with_ { Sv.tell s with ct := (Sv.tell s).ct + 1 } := rfl
  rw [this, Av.fold_form]
  unfold Sv.tell
  dsimp only
  rw [opn_append, cnt_append, cnt_append, cnt_append, cnt_append, paid_append, List.length_append, back_cons, if_neg (by omega)]
  simp [backOf]
theorem begin_ph {n d a u : Int} {g : Bool} : (Cy.begin_ n d a u g).p = 1 ∨ (Cy.begin_ n d a u g).p = 3 ∨ (Cy.begin_ n d a u g).p = 7 := by
  unfold Cy.begin_ Cy.paid
  split
  · cases g
    · exact .inr (.inr rfl)
    · exact .inr (.inl rfl)
  · exact .inl rfl
theorem tell_born (s : Sv) (p : Pv) (d : Int) (mi : Bool) : Sv.tell (s.born p d mi) = Av.born { Sv.tell s with ix := s.ix + 1 } p d mi := by
  have hb := fun a u => begin_ph (n := s.l.length) (d := d) (a := a) (u := u) (g := p.g)
  have h0 : ({ Sv.tell s with ix := s.ix + 1 } : Av) = Sv.tell { s with ix := s.ix + 1 } := rfl
  rw [h0]
  obtain ⟨z, hz⟩ : ∃ z, ({ s with ix := s.ix + 1 } : Sv) = z := ⟨_, rfl⟩
  have hs : s.born p d mi = if z.st = 2 ∨ mi = true then { z with l := z.l ++ [⟨z.l.length, d, 10, 0, 0, 0, 0, false⟩] }
    else if z.sk = true then { z with sk := false, l := z.l ++ [⟨z.l.length, d, 10, 0, 0, 0, 0, false⟩] }
    else if p.a - z.cr < 0 then { z with cr := z.cr - p.a, l := z.l ++ [Cy.begin_ z.l.length d 0 p.a p.g] }
    else { z with cr := 0, l := z.l ++ [Cy.begin_ z.l.length d (p.a - z.cr) z.cr p.g] } := by rw [← hz]; rfl
  have hl : z.l = s.l := by rw [← hz]
  rw [hz, hs]
  rw [← hl] at hb
  clear hz hs h0 hl
  unfold Av.born
  have e1 : (Sv.tell z).st = z.st := rfl
  have e2 : (Sv.tell z).sk = z.sk := rfl
  have e3 : (Sv.tell z).cr = z.cr := rfl
  have e4 : (Sv.tell z).ct = z.l.length := rfl
  rw [e1, e2, e3]
  by_cases h1 : z.st = 2 ∨ mi = true
  · rw [if_pos h1, if_pos h1]
    exact tell_snoc z _ (.inr rfl)
  rw [if_neg h1, if_neg h1]
  by_cases h2 : z.sk = true
  · rw [if_pos h2, if_pos h2]
    exact tell_snoc { z with sk := false } _ (.inr rfl)
  rw [if_neg h2, if_neg h2]
  by_cases h3 : p.a - z.cr < 0
  · rw [if_pos h3, if_pos h3, show -(p.a - z.cr) = z.cr - p.a by omega]
    exact tell_snoc { z with cr := z.cr - p.a } _ (by have := hb 0 p.a; omega)
  · rw [if_neg h3, if_neg h3]
    exact tell_snoc { z with cr := 0 } _ (by have := hb (p.a - z.cr) z.cr; omega)
/-- The first day of a period, told with whether there is one. -/
structure Count (N : Int → Option Int) (V : Int → Int) (y c : Int) : Prop where
  nn : 0 ≤ c
  all : ∀ n, 0 ≤ n → n < c → N n = some (V n) ∧ V n ≤ y
  out : ∀ n, n = c → (N n = none ∨ ∃ d, N n = some d ∧ y < d)
theorem tell_missed {N : Int → Option Int} {V : Int → Int} {y c n : Int} {p : Pv} (h : Count N V y c) (h0 : 0 ≤ n) (h1 : n < c) : Sv.missed p y (N (n + 1)) = (p.l && decide (n + 1 < c)) := by
  unfold Sv.missed
  by_cases h2 : n + 1 < c
  · obtain ⟨h3, h4⟩ := h.all (n + 1) (by omega) h2
    rw [h3]
    dsimp only
    rw [decide_eq_true h4, decide_eq_true h2]
  · rw [decide_eq_false h2]
    rcases h.out (n + 1) (by omega) with h3 | ⟨d, h3, h4⟩
    · rw [h3]
    · rw [h3]
      dsimp only
      rw [decide_eq_false (by omega)]
theorem tell_days {N : Int → Option Int} {V : Int → Int} {y c : Int} {p : Pv} (h : Count N V y c) : ∀ (r f : Nat) (s : Sv), 0 ≤ s.ix → (c - s.ix).toNat = r → s.ix ≤ c → r ≤ f → Sv.tell (Sv.days N p y f s) = Av.runs V p c r (Sv.tell s)
  | 0, 0, s, _, _, _, _ => rfl
  | 0, f + 1, s, h0, h1, h2, _ => by
    unfold Sv.days
    rcases h.out s.ix (by omega) with h3 | ⟨d, h3, h4⟩
    · rw [h3]; rfl
    · rw [h3]; dsimp only; rw [if_pos h4]; rfl
  | r + 1, 0, s, _, _, _, h3 => by omega
  | r + 1, f + 1, s, h0, h1, h2, h3 => by
    obtain ⟨g1, g2⟩ := h.all s.ix h0 (by omega)
    have hix : ∀ d mi, (s.born p d mi).ix = s.ix + 1 := by
      intro d mi
      unfold Sv.born
      repeat' split
      all_goals rfl
    show Sv.tell (match N s.ix with
      | none => s
      | some d => if y < d then s else Sv.days N p y f (s.born p d (Sv.missed p y (N (s.ix + 1))))) = _
    rw [g1]
    dsimp only
    rw [if_neg (by omega), tell_days h r f _ (by rw [hix]; omega) (by rw [hix]; omega) (by rw [hix]; omega) (by omega), tell_born, tell_missed h h0 (by omega)]
    rfl
end Go.Proofs.YtblikgbcakgdnaaGreat
/-
  The document's book in memory: its day, its plans, 32 subscriptions: cell by cell. No conditions but the sizes.
-/
namespace Go.Proofs.YtblikgbcakgdnaaGreat
set_option maxRecDepth 100000
open Go.ChangeShapes Go.WideShapes Go.ChangeAt Go.RowKit

/-- A book: its day, the slice of its plans, its subscriptions with the slices of their cycles. -/
structure Bk where
  td : Int
  vp : Value
  s : Nat → Sv
  v : Nat → Value
def Bk.at_ (b : Bk) (k : Nat) : Value := if k = 0 then .int .i64 b.td else if k = 1 then b.vp else (((b.s ((k - 2) / 7)).arr (b.v ((k - 2) / 7)))[(k - 2) % 7]?).getD undef
def Bk.row (b : Bk) : Array Value := Array.ofFn (n := 226) (fun k => b.at_ k.val)
theorem Bk.row_ex (b : Bk) : ∃ a, a = b.row := ⟨_, rfl⟩
/-- Its cells, as one array that isn't looked into. -/
noncomputable def Bk.arr (b : Bk) : Array Value := Classical.choose b.row_ex
theorem Bk.arr_row (b : Bk) : b.arr = b.row := Classical.choose_spec b.row_ex
theorem Bk.arr_size (b : Bk) : b.arr.size = 226 := by rw [b.arr_row]; exact Array.size_ofFn
theorem Bk.get (b : Bk) {k : Nat} (h : k < 226) : b.arr[k]? = some (b.at_ k) := by rw [b.arr_row]; unfold Bk.row; rw [Array.getElem?_ofFn, dif_pos h]
theorem Bk.none_ (b : Bk) {k : Nat} (h : ¬ k < 226) : b.arr[k]? = none := by rw [b.arr_row]; unfold Bk.row; rw [Array.getElem?_ofFn, dif_neg h]
theorem Bk.at0 (b : Bk) : b.arr[0]? = some (.int .i64 b.td) := b.get (by omega)
theorem Bk.at1 (b : Bk) : b.arr[1]? = some b.vp := b.get (by omega)
theorem Bk.at_sub (b : Bk) {i j : Nat} (hj : j < 7) : b.at_ (2 + i * 7 + j) = (((b.s i).arr (b.v i))[j]?).getD undef := by
  unfold Bk.at_
  rw [if_neg (by omega), if_neg (by omega), show (2 + i * 7 + j - 2) / 7 = i by omega, show (2 + i * 7 + j - 2) % 7 = j by omega]
theorem Bk.sub (b : Bk) {i j : Nat} (hi : i < 32) (hj : j < 7) {v : Value} (h : ((b.s i).arr (b.v i))[j]? = some v) : b.arr[2 + i * 7 + j]? = some v := by
  rw [b.get (by omega), b.at_sub hj, h]; rfl
/-- One subscription is another one. -/
def Bk.put (b : Bk) (i : Nat) (s : Sv) (v : Value) : Bk := { b with s := fun j => if j = i then s else b.s j, v := fun j => if j = i then v else b.v j }
theorem Bk.put_same (b : Bk) (i : Nat) (s : Sv) (v : Value) : (b.put i s v).s i = s ∧ (b.put i s v).v i = v := ⟨if_pos rfl, if_pos rfl⟩
theorem Bk.put_other (b : Bk) {i j : Nat} (s : Sv) (v : Value) (h : j ≠ i) : (b.put i s v).s j = b.s j ∧ (b.put i s v).v j = b.v j := ⟨if_neg h, if_neg h⟩
theorem Bk.at_put (b : Bk) {i k : Nat} (s : Sv) (v : Value) (h : k < 2 ∨ (k - 2) / 7 ≠ i) : (b.put i s v).at_ k = b.at_ k := by
  unfold Bk.at_
  by_cases h0 : k = 0
  · rw [if_pos h0, if_pos h0]; rfl
  by_cases h1 : k = 1
  · rw [if_neg h0, if_neg h0, if_pos h1, if_pos h1]; rfl
  · rw [if_neg h0, if_neg h0, if_neg h1, if_neg h1, (b.put_other s v (show (k - 2) / 7 ≠ i by omega)).1, (b.put_other s v (show (k - 2) / 7 ≠ i by omega)).2]
theorem Bk.td_arr (b : Bk) (x : Int) : b.arr.setIfInBounds 0 (.int .i64 x) = ({ b with td := x } : Bk).arr := by
  apply Array.ext_getElem?
  intro k
  rw [Array.getElem?_setIfInBounds, Bk.arr_size]
  by_cases hk : k < 226
  · by_cases h0 : 0 = k
    · subst h0; rw [if_pos rfl, if_pos (by omega), Bk.at0]
    · rw [if_neg h0, b.get hk, Bk.get _ hk]
      have h1 : ¬ k = 0 := fun e => h0 e.symm
      unfold Bk.at_
      simp only [if_neg h1]
  · rw [if_neg (by omega), b.none_ hk, Bk.none_ _ hk]
theorem Bk.elem0 (b : Bk) (h : 0 < b.arr.size) : b.arr[0] = .int .i64 b.td := by have := b.at0; rw [Array.getElem?_eq_getElem h] at this; injection this
theorem Bk.elem1 (b : Bk) (h : 1 < b.arr.size) : b.arr[1] = b.vp := by have := b.at1; rw [Array.getElem?_eq_getElem h] at this; injection this
attribute [simp, go_sem] Bk.arr_size Bk.at0 Bk.at1 Bk.td_arr Bk.elem0 Bk.elem1
theorem Bk.info : (Tryz.prog.info? 42).map (·.size) = some 226 := by kernel_rfl
theorem Bk.zero_size : Tryz.zeroCells42.size = 226 := by kernel_rfl
theorem Bk.arr_one {b : Bk} (hp : b.vp.oneCell' = true) (hv : ∀ i, i < 32 → (b.v i).oneCell' = true) : b.arr.all (·.oneCell') = true := by
  rw [Array.all_eq_true_iff_forall_mem]
  intro x hx
  obtain ⟨k, hk⟩ := Array.getElem?_of_mem hx
  by_cases h : k < 226
  · rw [b.get h] at hk
    injection hk with hk
    subst hk
    unfold Bk.at_
    split
    · rfl
    split
    · exact hp
    · have hj : (k - 2) % 7 < 7 := Nat.mod_lt _ (by omega)
      have h1 := hv ((k - 2) / 7) (by omega)
      generalize (k - 2) % 7 = j at hj ⊢
      have : j = 0 ∨ j = 1 ∨ j = 2 ∨ j = 3 ∨ j = 4 ∨ j = 5 ∨ j = 6 := by omega
      rcases this with rfl | rfl | rfl | rfl | rfl | rfl | rfl <;> first | rfl | exact h1
  · rw [b.none_ h] at hk; cases hk
section
variable {w : World} {B i : Nat} {b : Bk} {t : TypeId}
/-- A subscription's cells in the book's block. -/
theorem Bk.range {fr : Nat × Nat} (h : w.heap[B]? = some (.cells b.arr t fr)) (hi : i < 32) : w.rangeAt B (2 + i * 7) ((b.s i).arr (b.v i)).toList := by
  intro j u hu
  have hj : j < 7 := (List.getElem?_eq_some_iff.1 hu).1
  rw [cell_of_row _ _ _ _ _ _ h]
  exact b.sub hi hj (by rw [← Array.getElem?_toList]; exact hu)
theorem Bk.cell {fr : Nat × Nat} (h : w.heap[B]? = some (.cells b.arr t fr)) (hi : i < 32) {j : Nat} {u : Value} (hj : j < 7) (hu : ((b.s i).arr (b.v i))[j]? = some u) : w.cell? ⟨B, 2 + i * 7 + j, none⟩ = some u := by
  rw [cell_of_row _ _ _ _ _ _ h]
  exact b.sub hi hj hu
theorem Bk.there (h : B < w.heap.size) (hi : i < 32) : (boxed w B b.arr t).there B (2 + i * 7) 7 := by
  intro j hj
  rw [boxed_cell h, boxed_frozen, b.get (by omega)]
  exact ⟨rfl, rfl⟩
/-- One cell is another one. -/
def upd (f : Nat → Value) (o : Nat) (c : Value) (q : Nat) : Value := if q = o then c else f q
theorem ofFn_set (f : Nat → Value) (o : Nat) (c : Value) : (Array.ofFn (n := 226) fun k => f k.val).setIfInBounds o c = Array.ofFn (n := 226) fun k => upd f o c k.val := by
  apply Array.ext_getElem?
  intro k
  rw [Array.getElem?_setIfInBounds, Array.size_ofFn, Array.getElem?_ofFn, Array.getElem?_ofFn]
  by_cases h : o = k
  · subst h
    rw [if_pos rfl]
    by_cases hk : o < 226
    · rw [if_pos hk, dif_pos hk]
      exact congrArg some (if_pos rfl).symm
    · rw [if_neg hk, dif_neg hk]
  · rw [if_neg h]
    by_cases hk : k < 226
    · rw [dif_pos hk, dif_pos hk]
      exact congrArg some (if_neg (fun e => h (Eq.symm e))).symm
    · rw [dif_neg hk, dif_neg hk]
theorem Bk.nest (b : Bk) (i : Nat) (s : Sv) (v : Value) : upd (upd (upd (upd (upd (upd (upd b.at_ (2 + i * 7) (.int .u8 s.st)) (2 + i * 7 + 1) (.int .i64 s.pl)) (2 + i * 7 + 2) (.int .i64 s.an)) (2 + i * 7 + 3) (.int .i64 s.ix)) (2 + i * 7 + 4) (.int .i64 s.cr)) (2 + i * 7 + 5) (.bool s.sk)) (2 + i * 7 + 6) v = (b.put i s v).at_ := by
  funext k
  unfold upd
  by_cases hr : 2 + i * 7 ≤ k ∧ k < 2 + i * 7 + 7
  · obtain ⟨j, rfl⟩ : ∃ j, k = 2 + i * 7 + j := ⟨k - (2 + i * 7), by omega⟩
    have hj : j < 7 := by omega
    rw [Bk.at_sub (b.put i s v) hj, (b.put_same i s v).1, (b.put_same i s v).2]
    have hw : j = 0 ∨ j = 1 ∨ j = 2 ∨ j = 3 ∨ j = 4 ∨ j = 5 ∨ j = 6 := by omega
    rcases hw with rfl | rfl | rfl | rfl | rfl | rfl | rfl
    · rw [if_neg (show ¬ 2 + i * 7 + 0 = 2 + i * 7 + 6 by omega), if_neg (show ¬ 2 + i * 7 + 0 = 2 + i * 7 + 5 by omega), if_neg (show ¬ 2 + i * 7 + 0 = 2 + i * 7 + 4 by omega), if_neg (show ¬ 2 + i * 7 + 0 = 2 + i * 7 + 3 by omega), if_neg (show ¬ 2 + i * 7 + 0 = 2 + i * 7 + 2 by omega), if_neg (show ¬ 2 + i * 7 + 0 = 2 + i * 7 + 1 by omega), if_pos (show 2 + i * 7 + 0 = 2 + i * 7 by omega)]; rfl
    · rw [if_neg (show ¬ 2 + i * 7 + 1 = 2 + i * 7 + 6 by omega), if_neg (show ¬ 2 + i * 7 + 1 = 2 + i * 7 + 5 by omega), if_neg (show ¬ 2 + i * 7 + 1 = 2 + i * 7 + 4 by omega), if_neg (show ¬ 2 + i * 7 + 1 = 2 + i * 7 + 3 by omega), if_neg (show ¬ 2 + i * 7 + 1 = 2 + i * 7 + 2 by omega), if_pos (show 2 + i * 7 + 1 = 2 + i * 7 + 1 by omega)]; rfl
    · rw [if_neg (show ¬ 2 + i * 7 + 2 = 2 + i * 7 + 6 by omega), if_neg (show ¬ 2 + i * 7 + 2 = 2 + i * 7 + 5 by omega), if_neg (show ¬ 2 + i * 7 + 2 = 2 + i * 7 + 4 by omega), if_neg (show ¬ 2 + i * 7 + 2 = 2 + i * 7 + 3 by omega), if_pos (show 2 + i * 7 + 2 = 2 + i * 7 + 2 by omega)]; rfl
    · rw [if_neg (show ¬ 2 + i * 7 + 3 = 2 + i * 7 + 6 by omega), if_neg (show ¬ 2 + i * 7 + 3 = 2 + i * 7 + 5 by omega), if_neg (show ¬ 2 + i * 7 + 3 = 2 + i * 7 + 4 by omega), if_pos (show 2 + i * 7 + 3 = 2 + i * 7 + 3 by omega)]; rfl
    · rw [if_neg (show ¬ 2 + i * 7 + 4 = 2 + i * 7 + 6 by omega), if_neg (show ¬ 2 + i * 7 + 4 = 2 + i * 7 + 5 by omega), if_pos (show 2 + i * 7 + 4 = 2 + i * 7 + 4 by omega)]; rfl
    · rw [if_neg (show ¬ 2 + i * 7 + 5 = 2 + i * 7 + 6 by omega), if_pos (show 2 + i * 7 + 5 = 2 + i * 7 + 5 by omega)]; rfl
    · rw [if_pos (show 2 + i * 7 + 6 = 2 + i * 7 + 6 by omega)]; rfl
  · rw [Bk.at_put b s v (by omega), if_neg (show ¬ k = 2 + i * 7 + 6 by omega), if_neg (show ¬ k = 2 + i * 7 + 5 by omega), if_neg (show ¬ k = 2 + i * 7 + 4 by omega), if_neg (show ¬ k = 2 + i * 7 + 3 by omega), if_neg (show ¬ k = 2 + i * 7 + 2 by omega), if_neg (show ¬ k = 2 + i * 7 + 1 by omega), if_neg (show ¬ k = 2 + i * 7 by omega)]
theorem Bk.store (s : Sv) (v : Value) : (boxed w B b.arr t).setCells B (2 + i * 7) (s.arr v).toList = boxed w B (b.put i s v).arr t := by
  have e : (s.arr v).toList = [.int .u8 s.st, .int .i64 s.pl, .int .i64 s.an, .int .i64 s.ix, .int .i64 s.cr, .bool s.sk, v] := rfl
  rw [e]
  simp only [World.setCells, boxed_set]
  rw [Bk.arr_row, Bk.arr_row]
  unfold Bk.row
  rw [ofFn_set, ofFn_set, ofFn_set, ofFn_set, ofFn_set, ofFn_set, ofFn_set]
  rw [← Bk.nest b i s v]
end
end Go.Proofs.YtblikgbcakgdnaaGreat
/-
  Is an account what a subscription is? The document's own Told. No conditions but the sizes.
-/
namespace Go.Proofs.YtblikgbcakgdnaaGreat
set_option maxRecDepth 100000
open Go.ChangeShapes Go.WideShapes Go.ChangeAt Go.RowKit

end Go.Proofs.YtblikgbcakgdnaaGreat
/-
  The document's own Step: Pause, Resume, Skip, and where nothing can be done. No conditions but the sizes.
-/
namespace Go.Proofs.YtblikgbcakgdnaaGreat
set_option maxRecDepth 100000
open Go.ChangeShapes Go.WideShapes Go.ChangeAt Go.RowKit

/-- Its slices are cells. -/
def Bk.One (b : Bk) : Prop := b.vp.oneCell' = true ∧ ∀ i, i < 32 → (b.v i).oneCell' = true
theorem Bk.One.arr {b : Bk} (h : b.One) : b.arr.all (·.oneCell') = true := Bk.arr_one h.1 h.2
theorem Bk.One.put {b : Bk} (h : b.One) (i : Nat) (s : Sv) {v : Value} (hv : v.oneCell' = true) : (b.put i s v).One := by
  refine ⟨h.1, fun j hj => ?_⟩
  by_cases e : j = i
  · subst e; rw [(b.put_same j s v).2]; exact hv
  · rw [(b.put_other s v e).2]; exact h.2 j hj
end Go.Proofs.YtblikgbcakgdnaaGreat
/-
  The period in which a day lies: the document's own span. No conditions but the sizes.
-/
namespace Go.Proofs.YtblikgbcakgdnaaGreat
set_option maxRecDepth 100000
open Go.ChangeShapes Go.WideShapes Go.ChangeAt Go.RowKit

end Go.Proofs.YtblikgbcakgdnaaGreat
/-
  The document's own Step: Change. No conditions but the sizes.
-/
namespace Go.Proofs.YtblikgbcakgdnaaGreat
set_option maxRecDepth 100000
open Go.ChangeShapes Go.WideShapes Go.ChangeAt Go.RowKit

/-- A slice reads as these plans, below block B. -/
def Pls (w : World) (B : Nat) (v : Value) (ps : List Pv) : Prop := ∃ A c, v = .slice A ps.length c ∧ ps.length ≤ c ∧ c ≤ maxLen ∧ ∀ k p, ps[k]? = some p → ∃ g o, A = some ⟨g, o, none⟩ ∧ g < B ∧ w.rangeAt g (o + k * 6) p.arr.toList
theorem Pls.kept {w w' : World} {B : Nat} {v : Value} {ps : List Pv} (h : Pls w B v ps) (hk : ∀ i, i < B → w'.heap[i]? = w.heap[i]?) : Pls w' B v ps := by
  obtain ⟨A, c, h1, h2, h3, h4⟩ := h
  refine ⟨A, c, h1, h2, h3, fun k p hp => ?_⟩
  obtain ⟨g, o, h5, h6, h7⟩ := h4 k p hp
  exact ⟨g, o, h5, h6, fun j u hu => (World.cell?_of_block (a := ⟨g, o + k * 6 + j, none⟩) (hk g h6)).trans (h7 j u hu)⟩
theorem Pls.more {w : World} {B B' : Nat} {v : Value} {ps : List Pv} (h : Pls w B v ps) (hb : B ≤ B') : Pls w B' v ps := by
  obtain ⟨A, c, h1, h2, h3, h4⟩ := h
  refine ⟨A, c, h1, h2, h3, fun k p hp => ?_⟩
  obtain ⟨g, o, h5, h6, h7⟩ := h4 k p hp
  exact ⟨g, o, h5, by omega, h7⟩
theorem Pls.below {w w' : World} {B : Nat} {v : Value} {ps : List Pv} (h : Pls w B v ps) (hb : Below B w w') : Pls w' B v ps := h.kept fun i hi => hb.block i hi
theorem Pv.one (p : Pv) : ∀ u ∈ p.arr.toList, u.oneCell' = true := by
  intro u hu
  simp [Pv.arr] at hu
  rcases hu with rfl | rfl | rfl | rfl | rfl | rfl <;> rfl
end Go.Proofs.YtblikgbcakgdnaaGreat
/-
  A day that comes: the document's own Day. No conditions but the sizes.
-/
namespace Go.Proofs.YtblikgbcakgdnaaGreat
set_option maxRecDepth 100000
open Go.ChangeShapes Go.WideShapes Go.ChangeAt Go.RowKit

/-- A list that lies apart from what a call has boxed: in old blocks below c0, or in new ones. -/
def Cyq (b0 c0 B : Nat) (w : World) (v : Value) (l : List Cv) : Prop := ∃ b c, (b0 ≤ b ∧ c ≤ c0 ∧ c0 ≤ B ∨ B + 1 + 1 + 1 ≤ b) ∧ c ≤ w.heap.size ∧ Cys w b c v l
theorem Cyq.kept {b0 c0 B : Nat} {w w' : World} {v : Value} {l : List Cv} (h : Cyq b0 c0 B w v l) (hz : w.heap.size ≤ w'.heap.size) (hk : ∀ i, i < w.heap.size → (i < B ∨ B + 1 + 1 + 1 ≤ i) → w'.heap[i]? = w.heap[i]?) : Cyq b0 c0 B w' v l := by
  obtain ⟨b, c, hap, hc, hcys⟩ := h
  exact ⟨b, c, hap, by omega, hcys.kept fun i h1 h2 => hk i (by omega) (by omega)⟩
theorem Cyq.ways {b0 c0 B : Nat} {w : World} {v : Value} {l : List Cv} (h : Cyq b0 c0 B w v l) : Cys w b0 c0 v l ∨ Cys w B w.heap.size v l := by
  obtain ⟨b, c, hap | hap, hc, hcys⟩ := h
  · exact .inl (hcys.more hap.1 hap.2.1)
  · exact .inr (hcys.more (by omega) hc)
end Go.Proofs.YtblikgbcakgdnaaGreat
/-
  The document's own Step: days that pass. No conditions but the sizes.
-/
namespace Go.Proofs.YtblikgbcakgdnaaGreat
set_option maxRecDepth 100000
open Go.ChangeShapes Go.WideShapes Go.ChangeAt Go.RowKit

/-- The book behind so many subscriptions' days. -/
def Bk.mid (b : Bk) (y : Int) (D : Nat → Sv) (vv : Nat → Value) (j : Nat) : Bk := { td := y, vp := b.vp, s := fun k => if k < j then D k else b.s k, v := fun k => if k < j then vv k else b.v k }
theorem Bk.mid_zero (b : Bk) (y : Int) (D : Nat → Sv) (vv : Nat → Value) : b.mid y D vv 0 = { b with td := y } := by
  unfold Bk.mid
  congr 1
theorem Bk.mid_next (b : Bk) (y : Int) (D : Nat → Sv) (vv : Nat → Value) (j : Nat) (v' : Value) : (b.mid y D vv j).put j (D j) v' = b.mid y D (fun k => if k = j then v' else vv k) (j + 1) := by
  unfold Bk.mid Bk.put
  simp only [Bk.mk.injEq, true_and]
  constructor
  · funext k
    by_cases h : k = j
    · subst h; simp
    · by_cases h2 : k < j
      · rw [if_neg h, if_pos h2, if_pos (by omega)]
      · rw [if_neg h, if_neg h2, if_neg (by omega)]
  · funext k
    by_cases h : k = j
    · subst h; simp
    · by_cases h2 : k < j
      · rw [if_neg h, if_pos h2, if_pos (by omega), if_neg h]
      · rw [if_neg h, if_neg h2, if_neg (by omega)]
/-- A subscription of which a day may come. -/
structure Comes (ps : List Pv) (y : Int) (s d' : Sv) : Prop where
  ex : ∃ (p : Pv) (pk : Nat) (k d : Int), s.pl = (pk : Int) ∧ ps[pk]? = some p ∧ Cal.At s.an k d ∧ (0 ≤ p.u ∧ p.u ≤ 3) ∧ (1 ≤ p.e ∧ p.e ≤ 1000) ∧ (0 ≤ p.a ∧ p.a ≤ 100000000000) ∧ d' = Sv.day (Cal.nth s.an k d p.u p.e) p y s
  ix : 0 ≤ s.ix ∧ s.ix ≤ 15000
  len : s.l.length ≤ 500000
  cr : -100000000000 ≤ s.cr ∧ s.cr ≤ 100000000000
  us : ∀ c ∈ s.l, (-1000000000000 ≤ c.u ∧ c.u ≤ 1000000000000) ∧ 0 ≤ c.t ∧ c.t ≤ 1000
end Go.Proofs.YtblikgbcakgdnaaGreat
