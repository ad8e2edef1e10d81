/-
  What stands under a seal that was made: it is opened, whatever stands behind it. No conditions but the numbers' own ranges.
-/
import Derived.Test.YtambppcnmggocaaDoorSlOpen
namespace Go.Proofs.YtambppcnmggocaaDoor
set_option maxRecDepth 20000
namespace Sl
theorem drop_four (n : Nat) (r : List Int) : (four n ++ r).drop 4 = r := rfl
theorem take_four (n : Nat) (r : List Int) : (four n ++ r).take 4 = four n := rfl
theorem closed_eq (a b S n : Nat) (p r : List Int) : head a b n ++ four S ++ p ++ r = four n ++ (four a ++ (four b ++ (four S ++ (p ++ r)))) := by unfold head; simp only [List.append_assoc]
theorem wordAt_made (a b S n : Nat) (t : List Int) : wordAt (four n ++ (four a ++ (four b ++ (four S ++ t)))) 0 = numb (four n) ∧ wordAt (four n ++ (four a ++ (four b ++ (four S ++ t)))) 1 = numb (four a) ∧
    wordAt (four n ++ (four a ++ (four b ++ (four S ++ t)))) 2 = numb (four b) ∧ wordAt (four n ++ (four a ++ (four b ++ (four S ++ t)))) 3 = numb (four S) :=
  ⟨rfl, rfl, rfl, rfl⟩
theorem take12_made (a b S n : Nat) (t : List Int) : (four n ++ (four a ++ (four b ++ (four S ++ t)))).take 12 = head a b n := rfl
theorem drop16_made (a b S n : Nat) (t : List Int) : (four n ++ (four a ++ (four b ++ (four S ++ t)))).drop 16 = t := rfl
theorem len_made (a b S n : Nat) (t : List Int) : (four n ++ (four a ++ (four b ++ (four S ++ t)))).length = 16 + t.length := by simp only [List.length_append, four_len]; omega

/-- A seal that tells n bytes, with a sum. -/
theorem opened_made {a b S n : Nat} {t : List Int} (ha : a < 4294967296) (hb : b < 4294967296) (hS : S < 4294967296) (hn : n ≤ 1048576) (hl : n ≤ t.length) :
    opened (four n ++ (four a ++ (four b ++ (four S ++ t)))) = if sum (head a b n ++ t.take n) = S then (n, a, b, 0) else (0, 0, 0, 4) := by
  obtain ⟨e0, e1, e2, e3⟩ := wordAt_made a b S n t
  rw [numb_four (by omega)] at e0
  rw [numb_four ha] at e1
  rw [numb_four hb] at e2
  rw [numb_four hS] at e3
  have h1 : ¬ (four n ++ (four a ++ (four b ++ (four S ++ t)))).length < 16 := by rw [len_made]; omega
  have h2 : ¬ 1048576 < wordAt (four n ++ (four a ++ (four b ++ (four S ++ t)))) 0 := by rw [e0]; omega
  have h3 : ¬ (four n ++ (four a ++ (four b ++ (four S ++ t)))).length < 16 + wordAt (four n ++ (four a ++ (four b ++ (four S ++ t)))) 0 := by rw [e0, len_made]; omega
  split
  · rename_i h4
    rw [opened_yes h1 h2 h3 (by rw [e0, e3, take12_made, drop16_made]; exact h4), e0, e1, e2]
  · rename_i h4
    exact opened_form h1 h2 h3 (by rw [e0, e3, take12_made, drop16_made]; exact h4)
theorem opened_closed {a b : Nat} {p : List Int} (r : List Int) (ha : a < 4294967296) (hb : b < 4294967296) (hn : p.length ≤ 1048576) : opened (closed a b p ++ r) = (p.length, a, b, 0) := by
  unfold closed
  rw [closed_eq, opened_made ha hb (sum_lt _) hn (by rw [List.length_append]; omega), List.take_left, if_pos rfl]
theorem looked_closed {a b : Nat} {p : List Int} (r : List Int) (ha : a < 4294967296) (hb : b < 4294967296) (hn : p.length ≤ 1048576) : looked b (closed a b p ++ r) = (a, 16 + p.length, 0) := looked_yes (opened_closed r ha hb hn) rfl
theorem drop16_closed (a b : Nat) (p r : List Int) : (closed a b p ++ r).drop 16 = p ++ r := by unfold closed; rw [closed_eq, drop16_made]
theorem open1_closed {a b : Nat} {p : List Int} (r : List Int) (ha : a < 4294967296) (hb : b < 4294967296) (hn : p.length ≤ 1048576) : open1 a b (closed a b p ++ r) = (p, 16 + p.length, 0) := by
  have h := looked_closed r ha hb hn
  rw [open1_yes (m := p.length) (by rw [h]) (by rw [h]) (by rw [h]), drop16_closed, List.take_left]
end Sl
end Go.Proofs.YtambppcnmggocaaDoor
