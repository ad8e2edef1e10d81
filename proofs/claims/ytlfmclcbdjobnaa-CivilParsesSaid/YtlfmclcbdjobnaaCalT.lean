/-
  Plain mathematics of a day's text, continued: the text of a day has a day's form, and its numbers are the day's. No conditions but that there is such a day.
-/
import Derived.Test.YtlfmclcbdjobnaaCalS
namespace Go.Proofs.Ytlfmclcbdjobnaa.Cal

/-- A digit's byte. -/
def dg (x : Int) : UInt8 := UInt8.ofNat (48 + x % 10).toNat
theorem dg_toNat (x : Int) : ((dg x).toNat : Int) = 48 + x % 10 := by
  unfold dg
  rw [UInt8.toNat_ofNat']
  omega
theorem txt_list (y m d : Int) : (txt y m d).data.toList = [dg (y / 100 / 10), dg (y / 100), dg (y / 10), dg y, 45, dg (m / 10), dg m, 45, dg (d / 10), dg d] := rfl
theorem txt_size (y m d : Int) : (txt y m d).size = 10 := rfl
theorem txt_bt (y m d : Int) (k : Nat) : bt (txt y m d) k = ((([dg (y / 100 / 10), dg (y / 100), dg (y / 10), dg y, 45, dg (m / 10), dg m, 45, dg (d / 10), dg d] : List UInt8).getD k 0).toNat : Int) := by
  unfold bt; rw [txt_list]
theorem txt_b0 (y m d : Int) : bt (txt y m d) 0 = 48 + y / 100 / 10 % 10 := by rw [txt_bt]; exact dg_toNat _
theorem txt_b1 (y m d : Int) : bt (txt y m d) 1 = 48 + y / 100 % 10 := by rw [txt_bt]; exact dg_toNat _
theorem txt_b2 (y m d : Int) : bt (txt y m d) 2 = 48 + y / 10 % 10 := by rw [txt_bt]; exact dg_toNat _
theorem txt_b3 (y m d : Int) : bt (txt y m d) 3 = 48 + y % 10 := by rw [txt_bt]; exact dg_toNat _
theorem txt_b4 (y m d : Int) : bt (txt y m d) 4 = 45 := by rw [txt_bt]; rfl
theorem txt_b5 (y m d : Int) : bt (txt y m d) 5 = 48 + m / 10 % 10 := by rw [txt_bt]; exact dg_toNat _
theorem txt_b6 (y m d : Int) : bt (txt y m d) 6 = 48 + m % 10 := by rw [txt_bt]; exact dg_toNat _
theorem txt_b7 (y m d : Int) : bt (txt y m d) 7 = 45 := by rw [txt_bt]; rfl
theorem txt_b8 (y m d : Int) : bt (txt y m d) 8 = 48 + d / 10 % 10 := by rw [txt_bt]; exact dg_toNat _
theorem txt_b9 (y m d : Int) : bt (txt y m d) 9 = 48 + d % 10 := by rw [txt_bt]; exact dg_toNat _

theorem ok_digit {s : ByteArray} {k : Nat} (hk : ¬ (k = 4 ∨ k = 7)) (h : 48 ≤ bt s k ∧ bt s k ≤ 57) : okAt s k = true := by
  unfold okAt; rw [if_neg hk]; exact decide_eq_true h
theorem ok_dash {s : ByteArray} {k : Nat} (hk : k = 4 ∨ k = 7) (h : bt s k = 45) : okAt s k = true := by
  unfold okAt; rw [if_pos hk]; exact decide_eq_true h
theorem txt_shape (y m d : Int) : shape (txt y m d) = true := by
  refine shape_of (txt_size y m d) ?_
  have a0 : okAt (txt y m d) 0 = true := ok_digit (by omega) (by rw [txt_b0]; omega)
  have a1 : okAt (txt y m d) 1 = true := ok_digit (by omega) (by rw [txt_b1]; omega)
  have a2 : okAt (txt y m d) 2 = true := ok_digit (by omega) (by rw [txt_b2]; omega)
  have a3 : okAt (txt y m d) 3 = true := ok_digit (by omega) (by rw [txt_b3]; omega)
  have a4 : okAt (txt y m d) 4 = true := ok_dash (by omega) (txt_b4 y m d)
  have a5 : okAt (txt y m d) 5 = true := ok_digit (by omega) (by rw [txt_b5]; omega)
  have a6 : okAt (txt y m d) 6 = true := ok_digit (by omega) (by rw [txt_b6]; omega)
  have a7 : okAt (txt y m d) 7 = true := ok_dash (by omega) (txt_b7 y m d)
  have a8 : okAt (txt y m d) 8 = true := ok_digit (by omega) (by rw [txt_b8]; omega)
  have a9 : okAt (txt y m d) 9 = true := ok_digit (by omega) (by rw [txt_b9]; omega)
  simp only [okTo, a0, a1, a2, a3, a4, a5, a6, a7, a8, a9, Bool.and_self]
theorem txt_year (y m d : Int) (h0 : 0 ≤ y) (h1 : y ≤ 9999) : year (txt y m d) = y := by
  unfold year; simp only [val, Nat.zero_add]; rw [txt_b0, txt_b1, txt_b2, txt_b3]; omega
theorem txt_month (y m d : Int) (h0 : 0 ≤ m) (h1 : m ≤ 99) : month (txt y m d) = m := by
  unfold month; simp only [val, Nat.add_zero, Nat.reduceAdd]; rw [txt_b5, txt_b6]; omega
theorem txt_day (y m d : Int) (h0 : 0 ≤ d) (h1 : d ≤ 99) : day (txt y m d) = d := by
  unfold day; simp only [val, Nat.add_zero, Nat.reduceAdd]; rw [txt_b8, txt_b9]; omega
end Go.Proofs.Ytlfmclcbdjobnaa.Cal
