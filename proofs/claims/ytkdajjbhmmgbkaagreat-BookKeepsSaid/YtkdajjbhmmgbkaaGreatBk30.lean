/-
  The document's own Step: days that pass. No conditions but the sizes.
-/
import Derived.Test.YtkdajjbhmmgbkaaGreatBk04
import Derived.Test.YtkdajjbhmmgbkaaGreatBk28
import Derived.Test.YtkdajjbhmmgbkaaGreatBk29
set_option linter.unusedSimpArgs false
set_option linter.unusedVariables false
namespace Go.Proofs.YtkdajjbhmmgbkaaGreat
set_option maxRecDepth 100000
open Go.ChangeShapes Go.WideShapes Go.ChangeAt Go.RowKit

/-- The book behind so many subscriptions' days. -/
def Bk.mid (b : Bk) (y : Int) (D : Nat → Sv) (vv : Nat → Value) (j : Nat) : Bk := { td := y, vp := b.vp, s := fun k => if k < j then D k else b.s k, v := fun k => if k < j then vv k else b.v k }
theorem Bk.mid_zero (b : Bk) (y : Int) (D : Nat → Sv) (vv : Nat → Value) : b.mid y D vv 0 = { b with td := y } := by
  unfold Bk.mid
  congr 1
theorem Bk.mid_at (b : Bk) (y : Int) (D : Nat → Sv) (vv : Nat → Value) (j : Nat) : (b.mid y D vv j).s j = b.s j ∧ (b.mid y D vv j).v j = b.v j := ⟨if_neg (Nat.lt_irrefl _), if_neg (Nat.lt_irrefl _)⟩
theorem Bk.mid_next (b : Bk) (y : Int) (D : Nat → Sv) (vv : Nat → Value) (j : Nat) (v' : Value) : (b.mid y D vv j).put j (D j) v' = b.mid y D (fun k => if k = j then v' else vv k) (j + 1) := by
  unfold Bk.mid Bk.put
  simp only [Bk.mk.injEq, true_and]
  constructor
  · funext k
    by_cases h : k = j
    · subst h; simp
    · by_cases h2 : k < j
      · rw [if_neg h, if_pos h2, if_pos (by omega)]
      · rw [if_neg h, if_neg h2, if_neg (by omega)]
  · funext k
    by_cases h : k = j
    · subst h; simp
    · by_cases h2 : k < j
      · rw [if_neg h, if_pos h2, if_pos (by omega), if_neg h]
      · rw [if_neg h, if_neg h2, if_neg (by omega)]
/-- A subscription of which a day may come. -/
structure Comes (ps : List Pv) (y : Int) (s d' : Sv) : Prop where
  ex : ∃ (p : Pv) (pk : Nat) (k d : Int), s.pl = (pk : Int) ∧ ps[pk]? = some p ∧ Cal.At s.an k d ∧ (0 ≤ p.u ∧ p.u ≤ 3) ∧ (1 ≤ p.e ∧ p.e ≤ 1000) ∧ (0 ≤ p.a ∧ p.a ≤ 100000000000) ∧ d' = Sv.day (Cal.nth s.an k d p.u p.e) p y s
  ix : 0 ≤ s.ix ∧ s.ix ≤ 15000
  len : s.l.length ≤ 500000
  cr : -100000000000 ≤ s.cr ∧ s.cr ≤ 100000000000
  us : ∀ c ∈ s.l, (-1000000000000 ≤ c.u ∧ c.u ≤ 1000000000000) ∧ 0 ≤ c.t ∧ c.t ≤ 1000
end Go.Proofs.YtkdajjbhmmgbkaaGreat
