/-
  Plain mathematics of a day's text, concluded: a text of a day's form is the text of the day that its digits make. No conditions.
-/
import Derived.Test.YtlfmclcbdjobnaaCalT
namespace Go.Proofs.Ytlfmclcbdjobnaa.Cal

theorem dg_of (e : UInt8) (x : Int) (h : 48 + x % 10 = (e.toNat : Int)) : dg x = e := by
  have h1 := dg_toNat x
  exact UInt8.toNat_inj.1 (by omega)
theorem list_ten {α : Type} : ∀ (l : List α), l.length = 10 → ∃ a b c d e f g h i j, l = [a, b, c, d, e, f, g, h, i, j]
  | [a, b, c, d, e, f, g, h, i, j], _ => ⟨a, b, c, d, e, f, g, h, i, j, rfl⟩
theorem ext_data {a b : ByteArray} (h : a.data.toList = b.data.toList) : a = b := by
  cases a; cases b
  simp only [ByteArray.mk.injEq]
  exact Array.ext' h
theorem txt_of_shape {s : ByteArray} (h : shape s = true) : txt (year s) (month s) (day s) = s := by
  obtain ⟨hs, hk⟩ := shape_true h
  have hl : s.data.toList.length = 10 := by simpa using hs
  have D : ∀ k, k < 10 → ¬ (k = 4 ∨ k = 7) → 48 ≤ bt s k ∧ bt s k ≤ 57 := fun k h1 h2 => digit_at hk h1 h2
  have E : ∀ k, k < 10 → (k = 4 ∨ k = 7) → bt s k = 45 := fun k h1 h2 => by
    have ho := okAt_of hk h1
    unfold okAt at ho; rw [if_pos h2] at ho; exact of_decide_eq_true ho
  have B : ∀ k, bt s k = ((s.data.toList.getD k 0).toNat : Int) := fun _ => rfl
  have d0 := D 0 (by omega) (by omega); have d1 := D 1 (by omega) (by omega); have d2 := D 2 (by omega) (by omega); have d3 := D 3 (by omega) (by omega)
  have d5 := D 5 (by omega) (by omega); have d6 := D 6 (by omega) (by omega); have d8 := D 8 (by omega) (by omega); have d9 := D 9 (by omega) (by omega)
  have e4 := E 4 (by omega) (by omega); have e7 := E 7 (by omega) (by omega)
  have hy : year s = (((bt s 0 - 48) * 10 + (bt s 1 - 48)) * 10 + (bt s 2 - 48)) * 10 + (bt s 3 - 48) := by unfold year; simp only [val, Nat.zero_add]; omega
  have hm : month s = (bt s 5 - 48) * 10 + (bt s 6 - 48) := by unfold month; simp only [val, Nat.add_zero, Nat.reduceAdd]; omega
  have hd : day s = (bt s 8 - 48) * 10 + (bt s 9 - 48) := by unfold day; simp only [val, Nat.add_zero, Nat.reduceAdd]; omega
  refine ext_data ?_
  rw [txt_list]
  rw [B] at d0 d1 d2 d3 d5 d6 d8 d9 e4 e7
  simp only [B] at hy hm hd
  obtain ⟨c0, c1, c2, c3, c4, c5, c6, c7, c8, c9, hc⟩ := list_ten _ hl
  rw [hc] at d0 d1 d2 d3 d5 d6 d8 d9 e4 e7 hy hm hd ⊢
  simp only [List.getD_cons_zero, List.getD_cons_succ] at d0 d1 d2 d3 d5 d6 d8 d9 e4 e7 hy hm hd
  have f4 : c4 = 45 := UInt8.toNat_inj.1 (by show c4.toNat = 45; omega)
  have f7 : c7 = 45 := UInt8.toNat_inj.1 (by show c7.toNat = 45; omega)
  rw [dg_of c0 _ (by omega), dg_of c1 _ (by omega), dg_of c2 _ (by omega), dg_of c3 _ (by omega), dg_of c5 _ (by omega), dg_of c6 _ (by omega), dg_of c8 _ (by omega), dg_of c9 _ (by omega), f4, f7]
end Go.Proofs.Ytlfmclcbdjobnaa.Cal
