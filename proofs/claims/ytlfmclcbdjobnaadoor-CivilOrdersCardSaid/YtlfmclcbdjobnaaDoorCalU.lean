/-
  Plain mathematics of days in their order: which day is ahead, by year, month, day; so stand their numbers, and their texts. No conditions but that there are such days.
-/
import Derived.Test.YtlfmclcbdjobnaaDoorCalT
import Derived.WalkKit
namespace Go.Proofs.YtlfmclcbdjobnaaDoor.Cal
open Go

theorem bl_cons (a b : UInt8) (l r : List UInt8) : Op.bytesLess (a :: l) (b :: r) = (decide (a < b) || (a == b && Op.bytesLess l r)) := rfl
theorem dg_lt (x z : Int) (h : x % 10 < z % 10) (l r : List UInt8) : Op.bytesLess (dg x :: l) (dg z :: r) = true := by
  have a := dg_toNat x
  have b := dg_toNat z
  have : dg x < dg z := by rw [UInt8.lt_iff_toNat_lt]; omega
  rw [bl_cons, decide_eq_true this]; rfl
theorem dg_gt (x z : Int) (h : z % 10 < x % 10) (l r : List UInt8) : Op.bytesLess (dg x :: l) (dg z :: r) = false := by
  have a := dg_toNat x
  have b := dg_toNat z
  have h1 : ¬ dg x < dg z := by rw [UInt8.lt_iff_toNat_lt]; omega
  have h2 : (dg x == dg z) = false := by
    rw [beq_eq_false_iff_ne]; intro e; rw [e] at a; omega
  rw [bl_cons, decide_eq_false h1, h2]; rfl
theorem same_cons (a : UInt8) (l r : List UInt8) : Op.bytesLess (a :: l) (a :: r) = Op.bytesLess l r := by
  have h1 : ¬ a < a := by rw [UInt8.lt_iff_toNat_lt]; omega
  rw [bl_cons, decide_eq_false h1, beq_self_eq_true]; rfl
theorem dg_eq (x z : Int) (h : x % 10 = z % 10) (l r : List UInt8) : Op.bytesLess (dg x :: l) (dg z :: r) = Op.bytesLess l r := by
  have : dg x = dg z := by unfold dg; rw [h]
  rw [this, same_cons]

theorem two_lt (x z : Int) (h0 : 0 ≤ x) (h1 : z ≤ 99) (h : x < z) (l r : List UInt8) : Op.bytesLess (dg (x / 10) :: dg x :: l) (dg (z / 10) :: dg z :: r) = true := by
  by_cases c : x / 10 % 10 < z / 10 % 10
  · exact dg_lt _ _ c _ _
  · rw [dg_eq _ _ (by omega)]; exact dg_lt _ _ (by omega) _ _
theorem two_gt (x z : Int) (h0 : 0 ≤ z) (h1 : x ≤ 99) (h : z < x) (l r : List UInt8) : Op.bytesLess (dg (x / 10) :: dg x :: l) (dg (z / 10) :: dg z :: r) = false := by
  by_cases c : z / 10 % 10 < x / 10 % 10
  · exact dg_gt _ _ c _ _
  · rw [dg_eq _ _ (by omega)]; exact dg_gt _ _ (by omega) _ _
theorem four_lt (x z : Int) (h0 : 0 ≤ x) (h1 : z ≤ 9999) (h : x < z) (l r : List UInt8) : Op.bytesLess (dg (x / 100 / 10) :: dg (x / 100) :: dg (x / 10) :: dg x :: l) (dg (z / 100 / 10) :: dg (z / 100) :: dg (z / 10) :: dg z :: r) = true := by
  by_cases c : x / 100 < z / 100
  · exact two_lt (x / 100) (z / 100) (by omega) (by omega) c _ _
  · have e : x / 100 = z / 100 := by omega
    rw [e, same_cons, same_cons]
    by_cases c : x / 10 % 10 < z / 10 % 10
    · exact dg_lt _ _ c _ _
    · rw [dg_eq _ _ (by omega)]; exact dg_lt _ _ (by omega) _ _
theorem four_gt (x z : Int) (h0 : 0 ≤ z) (h1 : x ≤ 9999) (h : z < x) (l r : List UInt8) : Op.bytesLess (dg (x / 100 / 10) :: dg (x / 100) :: dg (x / 10) :: dg x :: l) (dg (z / 100 / 10) :: dg (z / 100) :: dg (z / 10) :: dg z :: r) = false := by
  by_cases c : z / 100 < x / 100
  · exact two_gt (x / 100) (z / 100) (by omega) (by omega) c _ _
  · have e : x / 100 = z / 100 := by omega
    rw [e, same_cons, same_cons]
    by_cases c : z / 10 % 10 < x / 10 % 10
    · exact dg_gt _ _ c _ _
    · rw [dg_eq _ _ (by omega)]; exact dg_gt _ _ (by omega) _ _

theorem txt_toList (y m d : Int) : (txt y m d).toList = [dg (y / 100 / 10), dg (y / 100), dg (y / 10), dg y, 45, dg (m / 10), dg m, 45, dg (d / 10), dg d] := by
  rw [ByteArray.toList_eq]
  exact txt_list y m d

/-- Is the first day ahead of the second one? -/
def ahead (y m d y' m' d' : Int) : Prop := y < y' ∨ y = y' ∧ (m < m' ∨ m = m' ∧ d < d')
theorem txt_ahead {y m d y' m' d' : Int} (h : right y m d = true) (h' : right y' m' d' = true) (c : ahead y m d y' m' d') :
    Op.bytesLess (txt y m d).toList (txt y' m' d').toList = true ∧ Op.bytesLess (txt y' m' d').toList (txt y m d).toList = false := by
  obtain ⟨a1, a2, a3, a4⟩ := right_true.1 h
  obtain ⟨b1, b2, b3, b4⟩ := right_true.1 h'
  obtain ⟨a5, a6⟩ := right_month h
  obtain ⟨b5, b6⟩ := right_month h'
  have a7 := (mon_lo y m).2
  have b7 := (mon_lo y' m').2
  rw [txt_toList, txt_toList]
  rcases c with c | ⟨rfl, c | ⟨rfl, c⟩⟩
  · exact ⟨four_lt _ _ (by omega) (by omega) c _ _, four_gt _ _ (by omega) (by omega) c _ _⟩
  · simp only [same_cons]
    exact ⟨two_lt _ _ (by omega) (by omega) c _ _, two_gt _ _ (by omega) (by omega) c _ _⟩
  · simp only [same_cons]
    exact ⟨two_lt _ _ (by omega) (by omega) c _ _, two_gt _ _ (by omega) (by omega) c _ _⟩
theorem txt_same (y m d : Int) : Op.bytesLess (txt y m d).toList (txt y m d).toList = false := by
  rw [txt_toList]; simp only [same_cons]; rfl
theorem num_ahead {y m d y' m' d' : Int} (h : right y m d = true) (h' : right y' m' d' = true) (c : ahead y m d y' m' d') : num y m d < num y' m' d' := by
  obtain ⟨a1, a2, a3, a4⟩ := right_true.1 h
  obtain ⟨b1, b2, b3, b4⟩ := right_true.1 h'
  obtain ⟨a5, a6⟩ := right_month h
  obtain ⟨b5, b6⟩ := right_month h'
  rcases c with c | ⟨rfl, c | ⟨rfl, c⟩⟩
  · have x := num_lo h
    have z := num_lo h'
    have := dby_mono (y + 1) y' (by omega)
    omega
  · have := cum_mono y m m' a5 c b6
    unfold num; omega
  · unfold num; omega
end Go.Proofs.YtlfmclcbdjobnaaDoor.Cal
