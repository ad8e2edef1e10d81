/-
  A subscription's lists: the document's own 'with' and 'change'. No conditions but the sizes.
-/
import Derived.IntWalk
import Derived.Test.YtblikgbcakgdnaaGreatBp05
import Derived.Test.YtblikgbcakgdnaaGreatBp08
set_option linter.unusedSimpArgs false
set_option linter.unusedVariables false
namespace Go.Proofs.YtblikgbcakgdnaaGreat
set_option maxRecDepth 20000
open Go.ChangeShapes Go.WideShapes Go.ChangeAt Go.RowKit

/-- All of a list behind a row of the call's own: at the operation, for the walk. -/
theorem wpList_append_cys {T E : TypeId} (ty : CyTy T E) {w : World} {ops : Array Oper} {rest : List Oper} {o : Oper} {a : Act} {Q : Exit → Act → World → Prop} (hgd : o.guard = none) (s x : Operand)
    (ho : o.op = .call { callee := .builtin .append, args := #[s, x], argTypes := #[T, T] }) {base b B : Nat} {v0 v : Value} {l0 l : List Cv} (hsv : a.eval s = v0) (hx : a.eval x = v)
    (how : w.ownsRow base E 8 v0 l0.length (ccs l0)) (h : Cys w b B v l) (hs : l0.length + l.length ≤ 100000000) (hb : base ≤ w.heap.size)
    (hk : ∀ v' w', w'.ownsRow base E 8 v' (l0 ++ l).length (ccs (l0 ++ l)) → w.grownBy w' v0.ownBlock → (v'.ownBlock = v0.ownBlock ∨ v'.ownBlock = some w.heap.size) → wpList Tryz.prog ops Q rest (a.put o.dst v') w') : wpList Tryz.prog ops Q (o :: rest) a w := by
  refine wpList_plain hgd fun K hK => ?_
  obtain ⟨v', w', hrun, h1, h2, h3⟩ := run_append_cys ty (q := o.type) how h hs hb
  unfold Oper.wp execOp
  simp only [ho, resolve, invoke, builtin, Sem.run_bind, Sem.run_pure, Result.andThen_ok, List.map_toArray, List.map_cons, List.map_nil, hsv, hx, hrun]
  exact hK _ _ (hk v' w' h1 h2 h3)
theorem grown_none {w w' : World} (h : w.grownBy w' none) : Below w.heap.size w w' := ⟨h.os, h.tape, h.output, h.size, fun i hi => h.block i hi (by simp)⟩
theorem setCells_below {w w1 : World} {g o : Nat} {vs : List Value} {b : Nat} (h : Below b w w1) (hg : b ≤ g) : Below b w (w1.setCells g o vs) := by
  induction vs generalizing w1 o with
  | nil => exact h
  | cons v r ih => exact ih (Below.setCell (p := ⟨g, o, none⟩) h hg v)
/-- A row of the call's own in which one cycle is stored anew: what it reads as. -/
theorem set_reads {w : World} {g : Nat} {l : List Cv} {k : Nat} {c : Cv} {cs : List Value} (hcs : c.cs = cs) (hr : w.rangeAt g 0 (ccs l)) (ht : w.there g (k * 8) 8) (hk : k < l.length) : (w.setCells g (k * 8) cs).rangeAt g 0 (ccs (l.set k c)) := by
  have hl : cs.length = 8 := by rw [← hcs]; exact c.cs_len
  have h1 := World.rangeAt_setCells_same w g (k * 8) cs (by rw [hl]; exact ht)
  intro j u hu
  obtain ⟨q, hq, hqu⟩ := ccs_of hu
  have hj : j = j / 8 * 8 + j % 8 := by omega
  have hm : j % 8 < 8 := by omega
  rw [Nat.zero_add]
  generalize j / 8 = J at *
  generalize j % 8 = I at *
  subst hj
  by_cases he : J = k
  · rw [he, List.getElem?_set_self (by omega)] at hq
    injection hq with hq
    rw [← hq, hcs] at hqu
    rw [he]
    exact h1 I u hqu
  · rw [List.getElem?_set_ne (by omega)] at hq
    have h5 : w.rangeAt g (J * 8) q.cs := fun i v hv => by
      have := hr _ v (ccs_at hq hv)
      rw [Nat.zero_add] at this
      exact this
    have h6 := World.rangeAt_setCells_apart h5 g (k * 8) cs (by rw [Cv.cs_len, hl]; omega)
    exact h6 I u hqu
theorem Cys.set {w : World} {base : Nat} {E : TypeId} {g cap : Nat} {l : List Cv} {k : Nat} {c : Cv} {cs : List Value} (hcs : c.cs = cs) (h : w.ownsRow base E 8 (.slice (some ⟨g, 0, none⟩) l.length cap) l.length (ccs l)) (hk : k < l.length) :
    w.there g (k * 8) 8 ∧ Cys (w.setCells g (k * 8) cs) base (w.setCells g (k * 8) cs).heap.size (.slice (some ⟨g, 0, none⟩) l.length cap) (l.set k c) := by
  have hz : w.heap.size ≤ (w.setCells g (k * 8) cs).heap.size := (setCells_below (Below.refl 0 w) (Nat.zero_le g)).size
  rcases h.2 with ⟨hv, _⟩ | ⟨g', cap', cur, hv, hb, hg, h1, h2, h3, h4⟩
  · injection hv with e; cases e
  injection hv with e1 e2 e3
  injection e1 with e1
  injection e1 with e1
  subst e1 e3
  have hr : w.rangeAt g 0 (ccs l) := fun j u hu => by
    rw [cell_of_row _ _ _ _ _ _ hg, Nat.zero_add, ← Array.getElem?_toList]
    rw [← h4, List.getElem?_take] at hu
    split at hu
    · exact hu
    · cases hu
  have ht : w.there g (k * 8) 8 := fun j hj => ⟨by rw [cell_of_row _ _ _ _ _ _ hg, Array.getElem?_eq_getElem (by rw [h3]; have : (k + 1) * 8 ≤ cap * 8 := Nat.mul_le_mul_right 8 (by omega); omega)]; rfl, by unfold World.frozen?; rw [hg]; simp⟩
  exact ⟨ht, some ⟨g, 0, none⟩, cap, by rw [List.length_set], by rw [List.length_set]; exact h1, h2, fun _ => ⟨g, 0, rfl, ⟨hb, Nat.lt_of_lt_of_le (Array.getElem?_eq_some_iff.1 hg).1 hz⟩, set_reads hcs hr ht hk⟩, fun e => by cases e⟩
/-- What the copy of a list leaves, behind one box. -/
theorem with_row {w w1 : World} {cs : Array Value} {t : TypeId} {E : TypeId} {v1 : Value} {l : List Cv} {k : Nat} (hk : k < l.length) (ho : w1.ownsRow (w.heap.size + 1) E 8 v1 l.length (ccs l)) (hg : (w.alloc (.cells cs t)).grownBy w1 none) :
    ∃ g cap, v1 = .slice (some ⟨g, 0, none⟩) l.length cap ∧ w.heap.size < g ∧ l.length ≤ cap ∧ cap ≤ maxLen ∧ w1.heap[w.heap.size]? = some (.cells cs t (0, 0)) ∧ Below w.heap.size w w1 := by
  have hb := grown_none hg
  rcases ho.2 with ⟨_, hn⟩ | ⟨g, cap, cur, hv, hbg, _, h1, h2, _⟩
  · omega
  · exact ⟨g, cap, hv, by omega, h1, h2, below_block hb (alloc_at rfl), ((Below.refl _ w).alloc (Nat.le_refl _) _).trans (hb.mono (by simp))⟩
set_option maxHeartbeats 1000000 in
theorem refwith_any {w : World} {v : Value} {l : List Cv} {k : Nat} (n d p a u t x : Int) (g : Bool) (h : Cys w 0 w.heap.size v l) (hk : k < l.length) (hs : l.length ≤ 1000000) :
    Calls Tryz.prog 72 #[v, .int .i64 k, .agg #[.int .i64 n, .int .i64 d, .int .u8 p, .int .i64 a, .int .i64 u, .int .i64 t, .int .i64 x, .bool g]] w fun e w' => ∃ v', e = .returned v' ∧ Cys w' w.heap.size w'.heap.size v' (l.set k ⟨n, d, p, a, u, t, x, g⟩) ∧ Below w.heap.size w w' := by
  have H := Lib.hid h
  clear h
  have k0 : (0 : Int) ≤ (k : Int) := by omega
  have k1 : (k : Int) < (l.length : Int) := by omega
  go_enter Tryz.func72, Tryz.ntmps72
  go_wp2_with (first | (at_builtin; refine wpList_append_cys cytyr rfl _ _ rfl (l0 := []) (base := w.heap.size + 1) rfl rfl (World.ownsRow_nil _ _ _ _) ((H.out.below ((Below.refl _ w).alloc (Nat.le_refl _) _))) (by simp; omega) (by simp) ?_; intro v1 w1 ho1 hg1 _; rw [List.nil_append] at ho1; obtain ⟨gg, cap, rfl, hgg, hcap, hcm, hbox, hbl⟩ := with_row (k := k) (l := l) hk ho1 hg1; obtain ⟨c0, c1, c2, c3, c4, c5, c6, c7⟩ := cells8 hbox; have HO := Lib.hid ho1; have HBL := Lib.hid hbl; clear ho1 hg1 hbox hbl) | ((with_reducible_and_instances (show wpList _ _ _ (Oper.mk _ (Op.store 90 _ _) _ _ _ _ :: _) _ _)); refine wpList_store_mid rfl _ _ _ rfl gg (k * 8) (#[.int .i64 n, .int .i64 d, .int .u8 p, .int .i64 a, .int .i64 u, .int .i64 t, .int .i64 x, .bool g]) rfl rfl (Cys.set (c := ⟨n, d, p, a, u, t, x, g⟩) rfl HO.out hk).1 info8r (by simp [Value.oneCell']) ?_))
  go_ret
  exact ⟨_, rfl, (Cys.set (c := ⟨n, d, p, a, u, t, x, g⟩) rfl HO.out hk).2.more (by omega) (Nat.le_refl _), setCells_below HBL.out (by omega)⟩
end Go.Proofs.YtblikgbcakgdnaaGreat
/-
  One cycle of a subscription is another one: the document's own change. No conditions but the sizes.
-/
namespace Go.Proofs.YtblikgbcakgdnaaGreat
set_option maxRecDepth 20000
open Go.ChangeShapes Go.WideShapes Go.ChangeAt Go.RowKit

/-- The credit, behind a cycle that has turned. -/
def Cy.gain (cr : Int) (c z : Cv) : Int := if (z.p = 8 ∨ z.p = 9) ∧ c.p < 7 then cr + z.u else cr
theorem Cys.below3 {w : World} {v : Value} {l : List Cv} (h : Cys w 0 w.heap.size v l) (a b c : Obj) : Cys (((w.alloc a).alloc b).alloc c) 0 (((w.alloc a).alloc b).alloc c).heap.size v l :=
  (h.below ((((Below.refl _ w).alloc (Nat.le_refl _) a).alloc (by simp) b).alloc (by simp; omega) c)).more (Nat.le_refl _) (by simp; omega)
set_option maxHeartbeats 2000000 in
theorem refchange_any {w : World} {v : Value} {l : List Cv} {k : Nat} (st pl an ix cr : Int) (sk : Bool) (n d p a u t x : Int) (g : Bool) {c0 : Cv} (h : Cys w 0 w.heap.size v l) (hc0 : l[k]? = some c0) (hs : l.length ≤ 1000000) (hcr : -1000000000000000000 ≤ cr ∧ cr ≤ 1000000000000000000) (hu : -1000000000000000000 ≤ u ∧ u ≤ 1000000000000000000) :
    Calls Tryz.prog 35 #[.agg #[.int .u8 st, .int .i64 pl, .int .i64 an, .int .i64 ix, .int .i64 cr, .bool sk, v], .int .i64 k, .agg #[.int .i64 n, .int .i64 d, .int .u8 p, .int .i64 a, .int .i64 u, .int .i64 t, .int .i64 x, .bool g]] w fun e w' => ∃ v', e = .returned (.agg #[.int .u8 st, .int .i64 pl, .int .i64 an, .int .i64 ix, .int .i64 (Cy.gain cr c0 ⟨n, d, p, a, u, t, x, g⟩), .bool sk, v']) ∧ Cys w' w.heap.size w'.heap.size v' (l.set k ⟨n, d, p, a, u, t, x, g⟩) ∧ Below w.heap.size w w' := by
  obtain ⟨hcr0, hcr1⟩ := hcr
  obtain ⟨hu0, hu1⟩ := hu
  obtain ⟨gg, oo, cap, rfl, hk, hcap, hcm, _, hgg, hr⟩ := h.at_ hc0
  have H := Lib.hid h
  obtain ⟨n0, d0, p0, a0, u0, t0, x0, g0⟩ := c0
  have hp0 : w.cell? ⟨gg, oo + k * 8 + 2, none⟩ = some (.int .u8 p0) := hr 2 _ rfl
  have k0 : (0 : Int) ≤ (k : Int) := by omega
  have k1 : (k : Int) < (l.length : Int) := by omega
  have hg1 : gg < w.heap.size + 1 := by omega
  have hg2 : gg < w.heap.size + 1 + 1 := by omega
  obtain ⟨q, hq⟩ : ∃ q, Cy.gain cr ⟨n0, d0, p0, a0, u0, t0, x0, g0⟩ ⟨n, d, p, a, u, t, x, g⟩ = q := ⟨_, rfl⟩
  have HG := Lib.hid hq
  clear hr h hc0
  by_cases h89 : p = 8 ∨ p = 9
  case neg =>
    have e8 : (p == 8) = false := by rw [beq_eq_false_iff_ne]; omega
    have e9 : (p == 9) = false := by rw [beq_eq_false_iff_ne]; omega
    obtain rfl : cr = q := by rw [← hq]; unfold Cy.gain; rw [if_neg (fun g => h89 g.1)]
    clear hq h89
    go_enter Tryz.func35, Tryz.ntmps35
    go_wp2_with (fail)
    refine (refwith_any (l := l) _ _ _ _ _ _ _ _ (H.out.below3 _ _ _) hk hs).mono ?_
    rintro e w1 ⟨v9, rfl, hc, hb⟩
    obtain ⟨hw, y0, y1, z0, e1⟩ := box3 hb
    obtain ⟨A9, c9, hv9, _⟩ := id hc
    rw [List.length_set] at hv9
    subst hv9
    have HC := Lib.hid hc
    have HW := Lib.hid hw
    rw [e1]
    clear e1 hb hw hc
    go_wp2
    refine bodyPost_ret (v := .agg #[.int .u8 st, .int .i64 pl, .int .i64 an, .int .i64 ix, .int .i64 cr, .bool sk, .slice A9 l.length c9]) ?_ rfl ⟨.slice A9 l.length c9, by rw [HG.out], ?_, boxed_below (boxed_below (boxed_below HW.out (Nat.le_refl _)) (by omega)) (by omega)⟩
    · simp [results, Tryz.results35, go_sem, z0]
    · refine (HC.out.kept fun i hi _ => ?_).more (by simp; omega) (by simp)
      have h9 : w.heap.size + 1 + 1 + 1 ≤ i := by simpa using hi
      rw [boxed_block_other (by omega), boxed_block_other (by omega), boxed_block_other (by omega)]
  have hpp : (p == 8) = true ∨ ((p == 8) = false ∧ (p == 9) = true) := by
    rcases h89 with rfl | rfl
    · exact .inl rfl
    · exact .inr ⟨rfl, rfl⟩
  by_cases h7 : 7 ≤ p0
  · have d7 : decide (7 ≤ p0) = true := by simpa using h7
    obtain rfl : cr = q := by rw [← hq]; unfold Cy.gain; rw [if_neg (fun g => by have := g.2; dsimp only at this; omega)]
    clear hq h7 h89
    rcases hpp with e8 | ⟨e8, e9⟩
    all_goals
      go_enter Tryz.func35, Tryz.ntmps35
      go_wp2_with (go_at_call 33; refine (refended_any _ _).mono ?_; rintro e w' ⟨rfl, rfl⟩)
      refine (refwith_any (l := l) _ _ _ _ _ _ _ _ (H.out.below3 _ _ _) hk hs).mono ?_
      rintro e w1 ⟨v9, rfl, hc, hb⟩
      obtain ⟨hw, y0, y1, z0, e1⟩ := box3 hb
      obtain ⟨A9, c9, hv9, _⟩ := id hc
      rw [List.length_set] at hv9
      subst hv9
      have HC := Lib.hid hc
      have HW := Lib.hid hw
      rw [e1]
      clear e1 hb hw hc
      go_wp2
      refine bodyPost_ret (v := .agg #[.int .u8 st, .int .i64 pl, .int .i64 an, .int .i64 ix, .int .i64 cr, .bool sk, .slice A9 l.length c9]) ?_ rfl ⟨.slice A9 l.length c9, by rw [HG.out], ?_, boxed_below (boxed_below (boxed_below HW.out (Nat.le_refl _)) (by omega)) (by omega)⟩
      · simp [results, Tryz.results35, go_sem, z0]
      · refine (HC.out.kept fun i hi _ => ?_).more (by simp; omega) (by simp)
        have h9 : w.heap.size + 1 + 1 + 1 ≤ i := by simpa using hi
        rw [boxed_block_other (by omega), boxed_block_other (by omega), boxed_block_other (by omega)]
  · have d7 : decide (7 ≤ p0) = false := by simpa using h7
    have eq : cr + u = q := by rw [← hq]; unfold Cy.gain; rw [if_pos ⟨h89, by dsimp only; omega⟩]
    subst eq
    clear hq h7 h89
    rcases hpp with e8 | ⟨e8, e9⟩
    all_goals
      go_enter Tryz.func35, Tryz.ntmps35
      go_wp2_with (go_at_call 33; refine (refended_any _ _).mono ?_; rintro e w' ⟨rfl, rfl⟩)
      refine (refwith_any (l := l) _ _ _ _ _ _ _ _ (H.out.below3 _ _ _) hk hs).mono ?_
      rintro e w1 ⟨v9, rfl, hc, hb⟩
      obtain ⟨hw, y0, y1, z0, e1⟩ := box3 hb
      obtain ⟨A9, c9, hv9, _⟩ := id hc
      rw [List.length_set] at hv9
      subst hv9
      have HC := Lib.hid hc
      have HW := Lib.hid hw
      rw [e1]
      clear e1 hb hw hc
      go_wp2
      refine bodyPost_ret (v := .agg #[.int .u8 st, .int .i64 pl, .int .i64 an, .int .i64 ix, .int .i64 (cr + u), .bool sk, .slice A9 l.length c9]) ?_ rfl ⟨.slice A9 l.length c9, by rw [HG.out], ?_, boxed_below (boxed_below (boxed_below HW.out (Nat.le_refl _)) (by omega)) (by omega)⟩
      · simp [results, Tryz.results35, go_sem, z0]
      · refine (HC.out.kept fun i hi _ => ?_).more (by simp; omega) (by simp)
        have h9 : w.heap.size + 1 + 1 + 1 ≤ i := by simpa using hi
        rw [boxed_block_other (by omega), boxed_block_other (by omega), boxed_block_other (by omega)]
end Go.Proofs.YtblikgbcakgdnaaGreat
/-
  Plain mathematics of the proleptic Gregorian calendar, with no program in it: leap years, the months' days, a year's first day, a day's number. No conditions.
-/
namespace Go.Proofs.YtblikgbcakgdnaaGreat.Cal

def leap (y : Int) : Bool := decide (y % 4 = 0 ∧ (y % 100 ≠ 0 ∨ y % 400 = 0))

theorem leap_true {y : Int} : leap y = true ↔ (y % 4 = 0 ∧ (y % 100 ≠ 0 ∨ y % 400 = 0)) := by simp [leap]
theorem leap_false {y : Int} : leap y = false ↔ ¬ (y % 4 = 0 ∧ (y % 100 ≠ 0 ∨ y % 400 = 0)) := by
  rw [leap]; exact decide_eq_false_iff_not

def mon (y m : Int) : Int :=
  if m = 1 ∨ m = 3 ∨ m = 5 ∨ m = 7 ∨ m = 8 ∨ m = 10 ∨ m = 12 then 31
  else if m = 4 ∨ m = 6 ∨ m = 9 ∨ m = 11 then 30
  else if m = 2 then (if leap y = true then 29 else 28) else 0

theorem mon_lo (y m : Int) : 0 ≤ mon y m ∧ mon y m ≤ 31 := by
  unfold mon; split <;> (try split) <;> (try split) <;> (try split) <;> omega

theorem tmod_zero (y k : Int) : y.tmod k = 0 ↔ y % k = 0 := by
  constructor
  · intro h; exact Int.emod_eq_zero_of_dvd (Int.dvd_of_tmod_eq_zero h)
  · intro h; exact Int.tmod_eq_zero_of_dvd (Int.dvd_of_emod_eq_zero h)

theorem tmod_eq {y k : Int} (h : y % k = 0) : (y.tmod k == 0) = true := by simp [(tmod_zero y k).2 h]
theorem tmod_ne {y k : Int} (h : ¬ y % k = 0) : (y.tmod k == 0) = false := by
  have : ¬ y.tmod k = 0 := fun e => h ((tmod_zero y k).1 e)
  simp [this]
theorem tmod_neq {y k : Int} (h : ¬ y % k = 0) : (y.tmod k != 0) = true := by
  have : ¬ y.tmod k = 0 := fun e => h ((tmod_zero y k).1 e)
  simp [this]
theorem tmod_nne {y k : Int} (h : y % k = 0) : (y.tmod k != 0) = false := by simp [(tmod_zero y k).2 h]

/-- A year's first day, counted from 0001-01-01. -/
def dby (y : Int) : Int := (y - 1) * 365 + (y - 1) / 4 - (y - 1) / 100 + (y - 1) / 400

/-- Is there such a day? -/
def right (y m d : Int) : Bool := decide (1 ≤ y ∧ y ≤ 9999 ∧ 1 ≤ d ∧ d ≤ mon y m)
theorem right_true {y m d : Int} : right y m d = true ↔ (1 ≤ y ∧ y ≤ 9999 ∧ 1 ≤ d ∧ d ≤ mon y m) := by simp [right]
theorem right_false {y m d : Int} : right y m d = false ↔ ¬ (1 ≤ y ∧ y ≤ 9999 ∧ 1 ≤ d ∧ d ≤ mon y m) := by
  rw [right]; exact decide_eq_false_iff_not
theorem mon_zero {y m : Int} (h : m < 1 ∨ 12 < m) : mon y m = 0 := by
  unfold mon; rw [if_neg (by omega), if_neg (by omega), if_neg (by omega)]
theorem right_month {y m d : Int} (h : right y m d = true) : 1 ≤ m ∧ m ≤ 12 := by
  have h := right_true.1 h
  by_cases c : m < 1 ∨ 12 < m
  · rw [mon_zero c] at h; omega
  · omega
end Go.Proofs.YtblikgbcakgdnaaGreat.Cal
/-
  Plain mathematics of the calendar, continued: how many days of a year lie ahead of a month, a day's number. No conditions.
-/
namespace Go.Proofs.YtblikgbcakgdnaaGreat.Cal

def lp (y : Int) : Int := if leap y = true then 1 else 0
theorem lp_01 (y : Int) : 0 ≤ lp y ∧ lp y ≤ 1 := by unfold lp; split <;> omega

/-- The days ahead of a month in its year. -/
def cum (y m : Int) : Int :=
  if m ≤ 1 then 0 else if m = 2 then 31 else if m = 3 then 59 + lp y else if m = 4 then 90 + lp y else if m = 5 then 120 + lp y
  else if m = 6 then 151 + lp y else if m = 7 then 181 + lp y else if m = 8 then 212 + lp y else if m = 9 then 243 + lp y
  else if m = 10 then 273 + lp y else if m = 11 then 304 + lp y else if m = 12 then 334 + lp y else 365 + lp y

theorem cum_one (y : Int) : cum y 1 = 0 := rfl
theorem cum_bd (y m : Int) : 0 ≤ cum y m ∧ cum y m ≤ 366 := by
  have := lp_01 y
  have h : m ≤ 1 ∨ m = 2 ∨ m = 3 ∨ m = 4 ∨ m = 5 ∨ m = 6 ∨ m = 7 ∨ m = 8 ∨ m = 9 ∨ m = 10 ∨ m = 11 ∨ m = 12 ∨ 12 < m := by omega
  rcases h with h | rfl | rfl | rfl | rfl | rfl | rfl | rfl | rfl | rfl | rfl | rfl | h
  · unfold cum; rw [if_pos h]; omega
  · simp [cum]
  all_goals first
    | (unfold cum; rw [if_neg (by omega), if_neg (by omega), if_neg (by omega), if_neg (by omega), if_neg (by omega), if_neg (by omega), if_neg (by omega), if_neg (by omega), if_neg (by omega), if_neg (by omega), if_neg (by omega), if_neg (by omega)]; omega)
    | (simp only [cum]; simp; omega)

theorem mon_two (y : Int) : mon y 2 = 28 + lp y := by
  unfold mon lp; rw [if_neg (by omega), if_neg (by omega), if_pos rfl]; split <;> rfl

theorem cum_succ (y m : Int) (h1 : 1 ≤ m) (h2 : m ≤ 12) : cum y (m + 1) = cum y m + mon y m := by
  have h : m = 1 ∨ m = 2 ∨ m = 3 ∨ m = 4 ∨ m = 5 ∨ m = 6 ∨ m = 7 ∨ m = 8 ∨ m = 9 ∨ m = 10 ∨ m = 11 ∨ m = 12 := by omega
  rcases h with rfl | rfl | rfl | rfl | rfl | rfl | rfl | rfl | rfl | rfl | rfl | rfl
  · simp [cum, mon]
  · rw [mon_two]; simp [cum]; omega
  all_goals (simp [cum, mon]; try omega)

theorem mon_28 (y m : Int) (h1 : 1 ≤ m) (h2 : m ≤ 12) : 28 ≤ mon y m ∧ mon y m ≤ 31 := by
  have h : m = 1 ∨ m = 2 ∨ m = 3 ∨ m = 4 ∨ m = 5 ∨ m = 6 ∨ m = 7 ∨ m = 8 ∨ m = 9 ∨ m = 10 ∨ m = 11 ∨ m = 12 := by omega
  have := lp_01 y
  rcases h with rfl | rfl | rfl | rfl | rfl | rfl | rfl | rfl | rfl | rfl | rfl | rfl
  · simp [mon]
  · rw [mon_two]; omega
  all_goals simp [mon]

/-- A day's number. -/
def num (y m d : Int) : Int := dby y + cum y m + d - 1

theorem dby_bd (y : Int) (h1 : 1 ≤ y) (h2 : y ≤ 10000) : 0 ≤ dby y ∧ dby y ≤ 3652059 := by unfold dby; omega
theorem dby_max : dby 10000 = 3652059 := by decide
theorem dby_succ (y : Int) : dby (y + 1) = dby y + 365 + lp y := by
  unfold dby lp
  by_cases h : leap y = true
  · rw [if_pos h]; have := leap_true.1 h; omega
  · have h' : leap y = false := by simpa using h
    rw [if_neg h]; have := leap_false.1 h'; omega
theorem dby_mono (a b : Int) (h : a ≤ b) : dby a ≤ dby b := by unfold dby; omega
end Go.Proofs.YtblikgbcakgdnaaGreat.Cal
