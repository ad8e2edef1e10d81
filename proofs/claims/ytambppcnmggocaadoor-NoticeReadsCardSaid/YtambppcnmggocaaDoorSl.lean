/-
  The mathematics of seals: the sum of bytes, bit by bit, by the table, and that one byte that is another one gives another sum; words as bytes; what stands under a seal. No conditions but those that each law names. Imports nothing of the program.
-/
namespace Go.Proofs.YtambppcnmggocaaDoor.Sl
set_option maxRecDepth 20000

/-- One bit of the rest goes. -/
def one (r : Nat) : Nat := if r % 2 = 1 then r / 2 ^^^ 3988292384 else r / 2
theorem one_odd {r : Nat} (h : r % 2 = 1) : one r = r / 2 ^^^ 3988292384 := by unfold one; rw [if_pos h]
theorem one_even {r : Nat} (h : r % 2 = 0) : one r = r / 2 := by unfold one; rw [if_neg (by omega)]
theorem xor_odd (a b : Nat) : (a ^^^ b) % 2 = (a + b) % 2 := by
  have := @Nat.xor_mod_two_eq_one a b
  omega
theorem xor_half (a b : Nat) : (a ^^^ b) / 2 = a / 2 ^^^ b / 2 := Nat.xor_div_two
theorem one_xor (a b : Nat) : one (a ^^^ b) = one a ^^^ one b := by
  have hx := xor_odd a b
  have hh := xor_half a b
  rcases Nat.mod_two_eq_zero_or_one a with ha | ha <;> rcases Nat.mod_two_eq_zero_or_one b with hb | hb
  · rw [one_even (by omega), one_even ha, one_even hb, hh]
  · rw [one_odd (by omega), one_even ha, one_odd hb, hh, Nat.xor_assoc]
  · rw [one_odd (by omega), one_odd ha, one_even hb, hh, Nat.xor_assoc, Nat.xor_assoc, Nat.xor_comm 3988292384]
  · rw [one_even (by omega), one_odd ha, one_odd hb, hh, Nat.xor_assoc]
    congr 1
    rw [Nat.xor_comm (b / 2), ← Nat.xor_assoc, Nat.xor_self, Nat.zero_xor]
theorem one_lt {r : Nat} (h : r < 4294967296) : one r < 4294967296 := by
  unfold one
  split
  · exact Nat.xor_lt_two_pow (n := 32) (by omega) (by omega)
  · omega
theorem xor_lt {a b : Nat} (ha : a < 4294967296) (hb : b < 4294967296) : a ^^^ b < 4294967296 := Nat.xor_lt_two_pow (n := 32) ha hb
theorem xor_zero_eq {a b : Nat} (h : a ^^^ b = 0) : a = b := by
  have : (a ^^^ b) ^^^ b = b := by rw [h, Nat.zero_xor]
  rwa [Nat.xor_assoc, Nat.xor_self, Nat.xor_zero] at this
theorem one_zero {x : Nat} (h : x < 4294967296) (h0 : one x = 0) : x = 0 := by
  rcases Nat.mod_two_eq_zero_or_one x with hx | hx
  · rw [one_even hx] at h0; omega
  · rw [one_odd hx] at h0
    have := xor_zero_eq h0
    omega
theorem one_inj {a b : Nat} (ha : a < 4294967296) (hb : b < 4294967296) (h : one a = one b) : a = b := by
  refine xor_zero_eq (one_zero (xor_lt ha hb) ?_)
  rw [one_xor, h, Nat.xor_self]

/-- So many bits go. -/
def ones : Nat → Nat → Nat
  | 0, r => r
  | k + 1, r => one (ones k r)
theorem ones_xor (k a b : Nat) : ones k (a ^^^ b) = ones k a ^^^ ones k b := by
  induction k with
  | zero => rfl
  | succ k ih => rw [ones, ih, one_xor]; rfl
theorem ones_lt {k r : Nat} (h : r < 4294967296) : ones k r < 4294967296 := by
  induction k with
  | zero => exact h
  | succ k ih => exact one_lt ih
theorem ones_inj {k a b : Nat} (ha : a < 4294967296) (hb : b < 4294967296) (h : ones k a = ones k b) : a = b := by
  induction k with
  | zero => exact h
  | succ k ih => exact ih (one_inj (ones_lt ha) (ones_lt hb) h)
theorem ones_add (j k r : Nat) : ones (j + k) r = ones j (ones k r) := by
  induction j with
  | zero => rw [Nat.zero_add]; rfl
  | succ j ih => rw [Nat.succ_add, ones, ih]; rfl

/-- The table. -/
def tab : List Int := [0, 498536548, 997073096, 651767980, 1994146192, 1802195444, 1303535960, 1342533948, 3988292384, 4027552580, 3604390888, 3412177804, 2607071920, 2262029012, 2685067896, 3183342108]
theorem tab_at : ∀ k, k < 16 → ones 4 k = (tab.getD k 0).toNat := by decide +kernel
theorem tab_range : ∀ k, k < 16 → 0 ≤ tab.getD k 0 ∧ tab.getD k 0 < 4294967296 := by decide +kernel
theorem ones_four {y : Nat} (h : y % 16 = 0) : ones 4 y = y / 16 := by
  show one (one (one (one y))) = _
  rw [one_even (r := y) (by omega), one_even (r := y / 2) (by omega), one_even (r := y / 2 / 2) (by omega), one_even (r := y / 2 / 2 / 2) (by omega)]
  omega
theorem four_step (x : Nat) : ones 4 x = x / 16 ^^^ (tab.getD (x % 16) 0).toNat := by
  have h16 : (x ^^^ x % 16) % 16 = 0 := by
    have := @Nat.xor_mod_two_pow x (x % 16) 4
    rw [show (2 : Nat) ^ 4 = 16 from rfl] at this
    rw [this, Nat.mod_mod, Nat.xor_self]
  have hd : (x ^^^ x % 16) / 16 = x / 16 := by
    have := @Nat.xor_div_two_pow x (x % 16) 4
    rw [show (2 : Nat) ^ 4 = 16 from rfl] at this
    rw [this, Nat.div_eq_of_lt (Nat.mod_lt x (by omega)), Nat.xor_zero]
  have hx : x = (x ^^^ x % 16) ^^^ x % 16 := by rw [Nat.xor_assoc, Nat.xor_self, Nat.xor_zero]
  rw [show ones 4 x = ones 4 ((x ^^^ x % 16) ^^^ x % 16) by rw [← hx], ones_xor, ones_four h16, hd, tab_at _ (Nat.mod_lt x (by omega))]

/-- A byte goes in. -/
def step (r : Nat) (c : Int) : Nat := ones 8 (r ^^^ c.toNat)
theorem step_table (r : Nat) (c : Int) : step r c = ones 4 (ones 4 (r ^^^ c.toNat)) := ones_add 4 4 _
def crc (r : Nat) (l : List Int) : Nat := l.foldl step r
theorem crc_nil (r : Nat) : crc r [] = r := rfl
theorem crc_cons (r : Nat) (c : Int) (l : List Int) : crc r (c :: l) = crc (step r c) l := by unfold crc; rw [List.foldl_cons]
theorem crc_append (r : Nat) (a b : List Int) : crc r (a ++ b) = crc (crc r a) b := by unfold crc; rw [List.foldl_append]
theorem step_lt {r : Nat} {c : Int} (h : r < 4294967296) (hc : c < 256) : step r c < 4294967296 := ones_lt (xor_lt h (by omega))
theorem crc_lt {l : List Int} : ∀ {r : Nat}, r < 4294967296 → (∀ x ∈ l, x < 256) → crc r l < 4294967296 := by
  induction l with
  | nil => intro r h _; exact h
  | cons c l ih => intro r h hl; rw [crc_cons]; exact ih (step_lt h (hl c (by simp))) fun x hx => hl x (by simp [hx])
theorem step_inj {a b : Nat} {c : Int} (ha : a < 4294967296) (hb : b < 4294967296) (hc : c < 256) (h : step a c = step b c) : a = b := by
  have := ones_inj (xor_lt ha (by omega)) (xor_lt hb (by omega)) h
  have h2 : (a ^^^ c.toNat) ^^^ c.toNat = (b ^^^ c.toNat) ^^^ c.toNat := by rw [this]
  rwa [Nat.xor_assoc, Nat.xor_assoc, Nat.xor_self, Nat.xor_zero, Nat.xor_zero] at h2
theorem crc_inj {l : List Int} : ∀ {a b : Nat}, a < 4294967296 → b < 4294967296 → (∀ x ∈ l, x < 256) → crc a l = crc b l → a = b := by
  induction l with
  | nil => intro a b _ _ _ h; exact h
  | cons c l ih =>
    intro a b ha hb hl h
    have hc := hl c (by simp)
    exact step_inj ha hb hc (ih (step_lt ha hc) (step_lt hb hc) (fun x hx => hl x (by simp [hx])) h)
theorem step_turn {r : Nat} {c d : Int} (hr : r < 4294967296) (c0 : 0 ≤ c) (c1 : c < 256) (d0 : 0 ≤ d) (d1 : d < 256) (h : step r c = step r d) : c = d := by
  have := ones_inj (xor_lt hr (by omega)) (xor_lt hr (by omega)) h
  have h2 : r ^^^ (r ^^^ c.toNat) = r ^^^ (r ^^^ d.toNat) := by rw [this]
  rw [← Nat.xor_assoc, ← Nat.xor_assoc, Nat.xor_self, Nat.zero_xor, Nat.zero_xor] at h2
  omega

/-- The rest goes on by single bits: what the document's program does. -/
def bitOf (c : Int) (k : Nat) : Nat := c.toNat / 2 ^ k % 2
def bits1 (c : Int) : Nat → Nat → Nat
  | 0, r => r
  | k + 1, r => one (bits1 c k r ^^^ bitOf c k)
theorem one_low (d : Nat) : one d = one (d % 2) ^^^ d / 2 := by
  rcases Nat.mod_two_eq_zero_or_one d with h | h
  · rw [one_even h, h]
    show d / 2 = 0 ^^^ d / 2
    rw [Nat.zero_xor]
  · rw [one_odd h, h]
    show d / 2 ^^^ 3988292384 = (0 ^^^ 3988292384) ^^^ d / 2
    rw [Nat.zero_xor, Nat.xor_comm]
theorem bits1_ones (c : Int) (r : Nat) : ∀ k, ones k (r ^^^ c.toNat) = bits1 c k r ^^^ c.toNat / 2 ^ k := by
  intro k
  induction k with
  | zero => show r ^^^ c.toNat = r ^^^ c.toNat / 1; rw [Nat.div_one]
  | succ k ih =>
    show one (ones k (r ^^^ c.toNat)) = one (bits1 c k r ^^^ c.toNat / 2 ^ k % 2) ^^^ _
    rw [ih, one_xor, one_xor, one_low (c.toNat / 2 ^ k), ← Nat.xor_assoc, Nat.div_div_eq_div_mul, ← Nat.pow_succ]
theorem bits1_step {c : Int} {r : Nat} (h : c < 256) : bits1 c 8 r = step r c := by
  have := bits1_ones c r 8
  rw [Nat.div_eq_of_lt (by omega), Nat.xor_zero] at this
  exact this.symm
/-- Behind the first j bytes and k bits. -/
def st (l : List Int) (i : Nat) : Nat := bits1 (l.getD (i / 8) 0) (i % 8) (crc 4294967295 (l.take (i / 8)))
theorem st_zero (l : List Int) : st l 0 = 4294967295 := rfl
theorem st_next {l : List Int} {i : Nat} (hi : i < 8 * l.length) (hl : ∀ x ∈ l, x < 256) : st l (i + 1) = one (st l i ^^^ bitOf (l.getD (i / 8) 0) (i % 8)) := by
  have hj : i / 8 < l.length := by omega
  by_cases h : i % 8 = 7
  · have e1 : (i + 1) / 8 = i / 8 + 1 := by omega
    have e2 : (i + 1) % 8 = 0 := by omega
    unfold st
    rw [e1, e2, h]
    show crc 4294967295 (l.take (i / 8 + 1)) = bits1 (l.getD (i / 8) 0) 8 _
    have hg : l.getD (i / 8) 0 = l[i / 8] := by simp [List.getD, hj]
    rw [List.take_succ_eq_append_getElem hj, crc_append, hg, bits1_step (hl _ (List.getElem_mem hj))]
    rfl
  · have e1 : (i + 1) / 8 = i / 8 := by omega
    have e2 : (i + 1) % 8 = i % 8 + 1 := by omega
    unfold st
    rw [e1, e2]
    rfl
theorem st_end (l : List Int) : st l (8 * l.length) = crc 4294967295 l := by
  unfold st
  rw [show 8 * l.length / 8 = l.length by omega, show 8 * l.length % 8 = 0 by omega, List.take_length]
  rfl
theorem bits1_lt {c : Int} {r : Nat} (h : r < 4294967296) : ∀ k, bits1 c k r < 4294967296 := by
  intro k
  induction k with
  | zero => exact h
  | succ k ih => exact one_lt (xor_lt ih (by unfold bitOf; omega))
theorem st_lt {l : List Int} (hl : ∀ x ∈ l, x < 256) (i : Nat) : st l i < 4294967296 := bits1_lt (crc_lt (by omega) fun x hx => hl x (List.mem_of_mem_take hx)) _
/-- The document's program's two ways. -/
theorem one_bit {r b : Nat} (hb : b < 2) : one (r ^^^ b) = if r % 2 = b then r / 2 else r / 2 ^^^ 3988292384 := by
  have hx := xor_odd r b
  have hh := xor_half r b
  rw [show b / 2 = 0 by omega, Nat.xor_zero] at hh
  split
  · rw [one_even (by omega), hh]
  · rw [one_odd (by omega), hh]

/-- The sum. -/
def sum (l : List Int) : Nat := 4294967295 - crc 4294967295 l
theorem sum_lt (l : List Int) : sum l < 4294967296 := by unfold sum; omega
theorem sum_first : sum [49, 50, 51, 52, 53, 54, 55, 56, 57] = 3421780262 := by decide +kernel
/-- One byte is another one: so is the sum. -/
theorem sum_turn {a b : List Int} {c d : Int} (ha : ∀ x ∈ a, x < 256) (hb : ∀ x ∈ b, x < 256) (c0 : 0 ≤ c) (c1 : c < 256) (d0 : 0 ≤ d) (d1 : d < 256) (hne : c ≠ d) : sum (a ++ c :: b) ≠ sum (a ++ d :: b) := by
  intro h
  have hr := crc_lt (r := 4294967295) (by omega) ha
  unfold sum at h
  rw [crc_append, crc_append, crc_cons, crc_cons] at h
  have l1 := crc_lt (step_lt hr c1) hb
  have l2 := crc_lt (step_lt hr d1) hb
  exact hne (step_turn hr c0 c1 d0 d1 (crc_inj (step_lt hr c1) (step_lt hr d1) hb (by omega)))

/-- A word's bytes, and back. -/
def four (n : Nat) : List Int := [((n / 16777216 % 256 : Nat) : Int), ((n / 65536 % 256 : Nat) : Int), ((n / 256 % 256 : Nat) : Int), ((n % 256 : Nat) : Int)]
def numb (l : List Int) : Nat := l.foldl (fun n c => n * 256 + c.toNat) 0
theorem four_len (n : Nat) : (four n).length = 4 := rfl
theorem four_range (n : Nat) : ∀ x ∈ four n, 0 ≤ x ∧ x < 256 := by
  intro x hx
  unfold four at hx
  simp only [List.mem_cons, List.not_mem_nil, or_false] at hx
  rcases hx with rfl | rfl | rfl | rfl <;> omega
theorem numb_four {n : Nat} (h : n < 4294967296) : numb (four n) = n := by
  show (((0 * 256 + ((n / 16777216 % 256 : Nat) : Int).toNat) * 256 + ((n / 65536 % 256 : Nat) : Int).toNat) * 256 + ((n / 256 % 256 : Nat) : Int).toNat) * 256 + ((n % 256 : Nat) : Int).toNat = n
  omega
theorem four_inj {a b : Nat} (ha : a < 4294967296) (hb : b < 4294967296) (h : four a = four b) : a = b := by
  rw [← numb_four ha, ← numb_four hb, h]
end Go.Proofs.YtambppcnmggocaaDoor.Sl
