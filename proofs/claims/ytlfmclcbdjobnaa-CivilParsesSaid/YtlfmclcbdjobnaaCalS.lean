/-
  Plain mathematics of a day's text: ten bytes, digits but for two dashes; the numbers that its digits make; which text a day has. No conditions.
-/
import Derived.Test.YtlfmclcbdjobnaaCalC
import Derived.Laws.RangeAny
namespace Go.Proofs.Ytlfmclcbdjobnaa.Cal
open Go

/-- The byte at a place; 0: there is none. -/
def bt (s : ByteArray) (k : Nat) : Int := ((s.data.toList.getD k 0).toNat : Int)
theorem bt_at (s : ByteArray) (k : Nat) (h : k < s.size) : bt s k = ((s[k]'h).toNat : Int) := by
  unfold bt
  rw [List.getD_eq_getElem?_getD, List.getElem?_eq_getElem (by simpa using h)]
  rfl
theorem bt_bd (s : ByteArray) (k : Nat) : 0 ≤ bt s k ∧ bt s k ≤ 255 := by
  unfold bt
  have := (s.data.toList.getD k 0).toNat_lt
  omega

/-- A dash at the fourth and the seventh place, a digit elsewhere. -/
def okAt (s : ByteArray) (k : Nat) : Bool := if k = 4 ∨ k = 7 then decide (bt s k = 45) else decide (48 ≤ bt s k ∧ bt s k ≤ 57)
def okTo (s : ByteArray) : Nat → Bool
  | 0 => true
  | k + 1 => okTo s k && okAt s k
def shape (s : ByteArray) : Bool := decide (s.size = 10) && okTo s 10

theorem okTo_le {s : ByteArray} : ∀ {k n : Nat}, okTo s n = true → k ≤ n → okTo s k = true
  | k, 0, h, hk => by obtain rfl : k = 0 := by omega
                      exact h
  | k, n + 1, h, hk => by
    by_cases e : k = n + 1
    · rw [e]; exact h
    · exact okTo_le (n := n) (by simp [okTo] at h; exact h.1) (by omega)
theorem okAt_of {s : ByteArray} {k n : Nat} (h : okTo s n = true) (hk : k < n) : okAt s k = true := by
  have := okTo_le h (show k + 1 ≤ n from hk)
  simp [okTo] at this
  exact this.2

/-- The rune at a place: of a byte that fits, that byte, one byte wide; of any other one, none that fits. -/
def rn (s : ByteArray) (k : Nat) : Int := ((Utf8.decode s k).1 : Int)
theorem rn_bd (s : ByteArray) (k : Nat) : 0 ≤ rn s k ∧ rn s k ≤ 2147483647 := by
  have := decode_le s k
  unfold rn; omega
theorem rn_low (s : ByteArray) (k : Nat) (h : k < s.size) (hb : bt s k < 128) : rn s k = bt s k ∧ (Utf8.decode s k).2 = 1 := by
  rw [bt_at s k h] at hb
  have := decode_ascii s k h (by omega)
  unfold rn
  rw [this, bt_at s k h]
  exact ⟨rfl, rfl⟩
theorem rn_high (s : ByteArray) (k : Nat) (h : k < s.size) (hb : ¬ bt s k < 128) : 128 ≤ rn s k := by
  rw [bt_at s k h] at hb
  have := (decode_high s k h (by omega)).1
  unfold rn; omega
theorem dash_yes {s : ByteArray} {k : Nat} (h : k < s.size) (hk : k = 4 ∨ k = 7) (ho : okAt s k = true) : rn s k = 45 ∧ (Utf8.decode s k).2 = 1 := by
  unfold okAt at ho
  rw [if_pos hk] at ho
  have ho := of_decide_eq_true ho
  obtain ⟨a, b⟩ := rn_low s k h (by omega)
  exact ⟨by omega, b⟩
theorem dash_no {s : ByteArray} {k : Nat} (h : k < s.size) (hk : k = 4 ∨ k = 7) (ho : okAt s k = false) : ¬ rn s k = 45 := by
  unfold okAt at ho
  rw [if_pos hk] at ho
  have ho := of_decide_eq_false ho
  by_cases hb : bt s k < 128
  · rw [(rn_low s k h hb).1]; exact ho
  · have := rn_high s k h hb; omega
theorem digit_yes {s : ByteArray} {k : Nat} (h : k < s.size) (hk : ¬ (k = 4 ∨ k = 7)) (ho : okAt s k = true) : rn s k = bt s k ∧ 48 ≤ bt s k ∧ bt s k ≤ 57 ∧ (Utf8.decode s k).2 = 1 := by
  unfold okAt at ho
  rw [if_neg hk] at ho
  have ho := of_decide_eq_true ho
  obtain ⟨a, b⟩ := rn_low s k h (by omega)
  exact ⟨a, ho.1, ho.2, b⟩
theorem digit_no {s : ByteArray} {k : Nat} (h : k < s.size) (hk : ¬ (k = 4 ∨ k = 7)) (ho : okAt s k = false) : rn s k < 48 ∨ 57 < rn s k := by
  unfold okAt at ho
  rw [if_neg hk] at ho
  have ho := of_decide_eq_false ho
  by_cases hb : bt s k < 128
  · rw [(rn_low s k h hb).1]; omega
  · have := rn_high s k h hb; omega

/-- The number that n digits make, from a place on. -/
def val (s : ByteArray) (a : Nat) : Nat → Int
  | 0 => 0
  | n + 1 => val s a n * 10 + (bt s (a + n) - 48)
def year (s : ByteArray) : Int := val s 0 4
def month (s : ByteArray) : Int := val s 5 2
def day (s : ByteArray) : Int := val s 8 2

/-- How far the reading has come: which number is at hand, and the three numbers so far. -/
def atOf (k : Nat) : Int := if k ≤ 4 then 0 else if k ≤ 7 then 1 else 2
def n0 (s : ByteArray) (k : Nat) : Int := val s 0 (min k 4)
def n1 (s : ByteArray) (k : Nat) : Int := val s 5 (min (k - 5) 2)
def n2 (s : ByteArray) (k : Nat) : Int := val s 8 (min (k - 8) 2)

theorem val_bd (s : ByteArray) (a : Nat) : ∀ (n : Nat), (∀ j, j < n → 48 ≤ bt s (a + j) ∧ bt s (a + j) ≤ 57) → 0 ≤ val s a n ∧ val s a n < 10 ^ n
  | 0, _ => by simp [val]
  | n + 1, h => by
    have ih := val_bd s a n (fun j hj => h j (by omega))
    have hb := h n (by omega)
    simp only [val, Int.pow_succ]
    omega
theorem digit_at {s : ByteArray} {k n : Nat} (h : okTo s n = true) (hk : k < n) (hd : ¬ (k = 4 ∨ k = 7)) : 48 ≤ bt s k ∧ bt s k ≤ 57 := by
  have ho := okAt_of h hk
  unfold okAt at ho
  rw [if_neg hd] at ho
  exact of_decide_eq_true ho
theorem n_bd {s : ByteArray} {k : Nat} (h : okTo s k = true) : (0 ≤ n0 s k ∧ n0 s k ≤ 9999) ∧ (0 ≤ n1 s k ∧ n1 s k ≤ 99) ∧ (0 ≤ n2 s k ∧ n2 s k ≤ 99) := by
  have a := val_bd s 0 (min k 4) (fun j hj => digit_at h (by omega) (by omega))
  have b := val_bd s 5 (min (k - 5) 2) (fun j hj => digit_at h (by omega) (by omega))
  have c := val_bd s 8 (min (k - 8) 2) (fun j hj => if hk : 8 + j < k then digit_at h hk (by omega) else by omega)
  have e : ∀ m : Nat, m ≤ 4 → (10 : Int) ^ m ≤ 10000 := fun m hm => by
    have : m = 0 ∨ m = 1 ∨ m = 2 ∨ m = 3 ∨ m = 4 := by omega
    rcases this with rfl | rfl | rfl | rfl | rfl <;> decide
  have f : ∀ m : Nat, m ≤ 2 → (10 : Int) ^ m ≤ 100 := fun m hm => by
    have : m = 0 ∨ m = 1 ∨ m = 2 := by omega
    rcases this with rfl | rfl | rfl <;> decide
  have g0 := e (min k 4) (by omega)
  have g1 := f (min (k - 5) 2) (by omega)
  have g2 := f (min (k - 8) 2) (by omega)
  unfold n0 n1 n2
  omega
theorem n0_succ (s : ByteArray) (k : Nat) (h : k < 4) : n0 s (k + 1) = n0 s k * 10 + (bt s k - 48) := by
  unfold n0; rw [show min (k + 1) 4 = min k 4 + 1 by omega, val, show min k 4 = k by omega, Nat.zero_add]
theorem n0_same (s : ByteArray) (k : Nat) (h : 4 ≤ k) : n0 s (k + 1) = n0 s k := by
  unfold n0; rw [show min (k + 1) 4 = min k 4 by omega]
theorem n1_succ (s : ByteArray) (k : Nat) (h : 5 ≤ k) (h' : k < 7) : n1 s (k + 1) = n1 s k * 10 + (bt s k - 48) := by
  unfold n1; rw [show min (k + 1 - 5) 2 = min (k - 5) 2 + 1 by omega, val, show 5 + min (k - 5) 2 = k by omega]
theorem n1_same (s : ByteArray) (k : Nat) (h : k < 5 ∨ 7 ≤ k) : n1 s (k + 1) = n1 s k := by
  unfold n1; rw [show min (k + 1 - 5) 2 = min (k - 5) 2 by omega]
theorem n2_succ (s : ByteArray) (k : Nat) (h : 8 ≤ k) (h' : k < 10) : n2 s (k + 1) = n2 s k * 10 + (bt s k - 48) := by
  unfold n2; rw [show min (k + 1 - 8) 2 = min (k - 8) 2 + 1 by omega, val, show 8 + min (k - 8) 2 = k by omega]
theorem n2_same (s : ByteArray) (k : Nat) (h : k < 8) : n2 s (k + 1) = n2 s k := by
  unfold n2; rw [show min (k + 1 - 8) 2 = min (k - 8) 2 by omega]
theorem shape_true {s : ByteArray} (h : shape s = true) : s.size = 10 ∧ okTo s 10 = true := by
  simp only [shape, Bool.and_eq_true, decide_eq_true_eq] at h; exact h
theorem shape_of {s : ByteArray} (h : s.size = 10) (h' : okTo s 10 = true) : shape s = true := by
  simp [shape, h, h']
theorem shape_not {s : ByteArray} {k : Nat} (hk : k < 10) (ha : okAt s k = false) : shape s = false := by
  cases hs : shape s
  · rfl
  · have := okAt_of (shape_true hs).2 hk
    rw [ha] at this; cases this

/-- Two digits of a number. -/
def two (n : Int) : ByteArray := ⟨#[UInt8.ofNat (48 + n / 10 % 10).toNat, UInt8.ofNat (48 + n % 10).toNat]⟩
def dash : ByteArray := ⟨#[45]⟩
/-- A day's text. -/
def txt (y m d : Int) : ByteArray := two (y / 100) ++ two y ++ dash ++ two m ++ dash ++ two d
end Go.Proofs.Ytlfmclcbdjobnaa.Cal
