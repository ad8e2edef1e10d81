/-
  Numbers of a float64's words, as whole multiples of the least one: what the words read, what is exact.
-/
import Derived.Laws.FloatArith
namespace Go.Proofs.Ytjleacbmdpcahaa
namespace Fl
open Ieee

def M (r : Nat) : Nat := if r < 4503599627370496 then r else 4503599627370496 + r % 4503599627370496
def E (r : Nat) : Nat := r / 4503599627370496 - 1
/-- The number of a rung, in units of the least one. -/
def N (r : Nat) : Nat := M r * 2 ^ E r

theorem binade_eq : double.binade = 4503599627370496 := by decide
theorem infRung_eq : double.infRung = 9218868437227405312 := by decide
theorem signWeight_eq : double.signWeight = 9223372036854775808 := by decide
theorem leastPlace_eq : double.leastPlace = -1074 := by decide
theorem fractionBits_eq : double.fractionBits = 52 := rfl

theorem word_pos (r : Nat) : double.word false r = r := rfl
theorem word_neg (r : Nat) : double.word true r = 9223372036854775808 + r := by
  simp [Format.word, signWeight_eq]

theorem read_num (neg : Bool) {r : Nat} (h : r < 9218868437227405312) :
    double.read (double.word neg r) = .number neg (M r) (-1074 + (E r : Int)) := by
  have hs : double.word neg r / double.signWeight % 2 = neg.toNat ∧ double.word neg r % double.signWeight = r := by
    cases neg
    · rw [word_pos, signWeight_eq]; constructor
      · simp; omega
      · omega
    · rw [word_neg, signWeight_eq]; constructor
      · simp; omega
      · omega
  unfold Format.read
  rw [hs.1, hs.2, binade_eq, infRung_eq, leastPlace_eq]
  have hn : (neg.toNat == 1) = neg := by cases neg <;> rfl
  simp only [hn, M, E]
  split
  · rename_i g
    have : r / 4503599627370496 = 0 := by omega
    simp [this]
  · simp

theorem read_pos {r : Nat} (h : r < 9218868437227405312) : double.read r = .number false (M r) (-1074 + (E r : Int)) := read_num false h
theorem read_inf : double.read 9218868437227405312 = .infinity false := by decide
theorem read_ninf : double.read 18442240474082181120 = .infinity true := by decide
theorem read_nan {b : Nat} (h : 9218868437227405312 < b % 9223372036854775808) : ∃ s t, double.read b = .nan s t := by
  unfold Format.read
  rw [binade_eq, infRung_eq, leastPlace_eq, signWeight_eq]
  exact ⟨_, _, by
    rw [if_neg (by omega), if_neg (by omega), if_neg (by omega)]⟩

theorem log2_mul_pow {s : Nat} (q : Nat) (h : s ≠ 0) : (s * 2 ^ q).log2 = s.log2 + q := by
  have hp : 0 < 2 ^ q := Nat.two_pow_pos q
  have h0 : s * 2 ^ q ≠ 0 := Nat.mul_ne_zero h (by omega)
  rw [Nat.log2_eq_iff h0]
  have a := Nat.log2_self_le h
  have b := @Nat.lt_log2_self s
  constructor
  · rw [Nat.pow_add]; exact Nat.mul_le_mul_right _ a
  · rw [show s.log2 + q + 1 = s.log2 + 1 + q by omega, Nat.pow_add]
    exact Nat.mul_lt_mul_of_pos_right b hp

theorem cut_exact (way : Toward) (neg : Bool) (s q : Nat) : way.cut neg (s * 2 ^ q) q = s := by
  by_cases h0 : s = 0
  · subst h0
    cases way <;> simp [Toward.cut, Nat.shiftLeft_eq]
  have hl : min q ((s * 2 ^ q).log2 + 2) = q := by
    rw [log2_mul_pow q h0]; omega
  have hp : 0 < 2 ^ q := Nat.two_pow_pos q
  unfold Toward.cut
  simp only [hl, Nat.shiftLeft_eq, Nat.one_mul, Nat.mul_div_cancel _ hp, Nat.mul_mod_left]
  cases way <;> simp

theorem M_pos {r : Nat} (h : r ≠ 0) : M r ≠ 0 := by unfold M; split <;> omega
theorem M_log2 (r : Nat) : (M r).log2 ≤ 52 := by
  by_cases h : M r = 0
  · rw [h]; decide
  have : M r < 2 ^ 53 := by unfold M; split <;> omega
  have := (Nat.log2_lt h).2 this
  omega
theorem M_log2_big {r : Nat} (h : 4503599627370496 ≤ r) : (M r).log2 = 52 := by
  have h1 : M r = 4503599627370496 + r % 4503599627370496 := by unfold M; rw [if_neg (by omega)]
  rw [Nat.log2_eq_iff (by omega)]
  omega
theorem M_E (r : Nat) : E r * 4503599627370496 + M r = r := by unfold M E; split <;> omega

/-- What is a word's number is rounded to that word. -/
theorem nearest_exact (neg : Bool) (mag : Nat) (place : Int) (r : Nat) (hr : r < 9218868437227405312)
    (h : mag * 2 ^ (place + 1074).toNat = N r * 2 ^ (-(place + 1074)).toNat) : double.nearest neg mag place = double.word neg r := by
  unfold Format.nearest
  by_cases h0 : mag = 0
  · rw [if_pos h0]
    have : N r = 0 := by
      rw [h0, Nat.zero_mul] at h
      have := Nat.two_pow_pos (-(place + 1074)).toNat
      rcases Nat.mul_eq_zero.1 h.symm with g | g
      · exact g
      · omega
    have : M r = 0 := by
      unfold N at this
      rcases Nat.mul_eq_zero.1 this with g | g
      · exact g
      · have := Nat.two_pow_pos (E r); omega
    have : r = 0 := by
      by_cases g : r = 0
      · exact g
      · exact absurd this (M_pos g)
    rw [this]
  rw [if_neg h0]
  have hM : M r ≠ 0 := by
    intro g
    unfold N at h
    rw [g, Nat.zero_mul, Nat.zero_mul] at h
    rcases Nat.mul_eq_zero.1 h with g | g
    · exact h0 g
    · have := Nat.two_pow_pos (place + 1074).toNat; omega
  have hlog : (mag.log2 : Int) + (place + 1074) = (M r).log2 + E r := by
    have := congrArg Nat.log2 h
    unfold N at this
    rw [log2_mul_pow _ h0, Nat.mul_assoc, ← Nat.pow_add, log2_mul_pow _ hM] at this
    omega
  have hlast : max (place + mag.log2 - double.fractionBits) double.leastPlace = -1074 + (E r : Int) := by
    rw [leastPlace_eq, fractionBits_eq]
    by_cases g : r < 4503599627370496
    · have h1 : E r = 0 := by unfold E; omega
      have h2 : (M r).log2 ≤ 51 := by
        have : M r < 2 ^ 52 := by unfold M; rw [if_pos g]; omega
        have := (Nat.log2_lt hM).2 this
        omega
      omega
    · have h2 := M_log2_big (r := r) (by omega)
      omega
  simp only [hlast]
  have hk : Toward.even.cut neg (mag <<< (place - (-1074 + (E r : Int))).toNat) (-1074 + (E r : Int) - place).toNat = M r := by
    have hx : mag <<< (place - (-1074 + (E r : Int))).toNat = M r * 2 ^ (-1074 + (E r : Int) - place).toNat := by
      rw [Nat.shiftLeft_eq]
      unfold N at h
      have e1 : mag * 2 ^ (place + 1074).toNat * 2 ^ (E r + (place + 1074).toNat + (-(place+1074)).toNat) = M r * 2 ^ E r * 2 ^ (-(place + 1074)).toNat * 2 ^ (E r + (place + 1074).toNat + (-(place+1074)).toNat) := by rw [h]
      have hp := Nat.two_pow_pos ((place + 1074).toNat + (-(place+1074)).toNat + E r + (E r + (-(place+1074)).toNat + (place + 1074).toNat - (place - (-1074 + (E r : Int))).toNat))
      by_cases c : (E r : Int) ≤ place + 1074
      · rw [show (-1074 + (E r : Int) - place).toNat = 0 by omega, Nat.pow_zero, Nat.mul_one]
        rw [show (-(place + 1074)).toNat = 0 by omega, Nat.pow_zero, Nat.mul_one] at h
        rw [show (place + 1074).toNat = (place - (-1074 + (E r : Int))).toNat + E r by omega, Nat.pow_add, ← Nat.mul_assoc] at h
        exact Nat.eq_of_mul_eq_mul_right (Nat.two_pow_pos (E r)) h
      · rw [show (place - (-1074 + (E r : Int))).toNat = 0 by omega, Nat.pow_zero, Nat.mul_one]
        rw [Nat.mul_assoc, ← Nat.pow_add, show E r + (-(place + 1074)).toNat = (-1074 + (E r : Int) - place).toNat + (place + 1074).toNat by omega, Nat.pow_add, ← Nat.mul_assoc] at h
        exact Nat.eq_of_mul_eq_mul_right (Nat.two_pow_pos (place + 1074).toNat) h
    rw [hx]
    exact cut_exact _ _ _ _
  rw [hk, leastPlace_eq, binade_eq, infRung_eq]
  have := M_E r
  rw [show (-1074 + (E r : Int) - -1074).toNat = E r by omega, this, Nat.min_eq_left (by omega)]

theorem mul_exact {r s t : Nat} (hr : r < 9218868437227405312) (hs : s < 9218868437227405312) (ht : t < 9218868437227405312)
    (h : N r * N s = N t * 2 ^ 1074) : double.mul r s = some t := by
  unfold Format.mul
  rw [read_pos hr, read_pos hs]
  simp only [Datum.product, Option.map_some, Format.write, Bool.xor_self]
  congr 1
  refine nearest_exact false _ _ t ht ?_
  unfold N at h
  rw [show -1074 + (E r : Int) + (-1074 + (E s : Int)) + 1074 = (E r : Int) + E s - 1074 by omega]
  have h' : M r * M s * 2 ^ (E r + E s) = N t * 2 ^ 1074 := by
    unfold N; rw [← h, Nat.pow_add]
    simp only [Nat.mul_assoc, Nat.mul_left_comm, Nat.mul_comm]
  by_cases c : 1074 ≤ E r + E s
  · rw [show (-((E r : Int) + E s - 1074)).toNat = 0 by omega, Nat.pow_zero, Nat.mul_one]
    rw [show E r + E s = ((E r : Int) + E s - 1074).toNat + 1074 by omega, Nat.pow_add, ← Nat.mul_assoc] at h'
    exact Nat.eq_of_mul_eq_mul_right (Nat.two_pow_pos 1074) h'
  · rw [show ((E r : Int) + E s - 1074).toNat = 0 by omega, Nat.pow_zero, Nat.mul_one]
    rw [show (2:Nat) ^ 1074 = 2 ^ (-((E r : Int) + E s - 1074)).toNat * 2 ^ (E r + E s) by rw [← Nat.pow_add]; congr 1; omega, ← Nat.mul_assoc] at h'
    exact Nat.eq_of_mul_eq_mul_right (Nat.two_pow_pos (E r + E s)) h'

theorem toInt_exact {r n : Nat} (hr : r < 9218868437227405312) (h : N r = n * 2 ^ 1074) : (double.read r).toInt .zero = some (n : Int) := by
  rw [read_pos hr]
  unfold Datum.toInt Datum.integral
  have : Toward.zero.cut false (M r <<< (-1074 + (E r : Int)).toNat) (-(-1074 + (E r : Int))).toNat = n := by
    unfold N at h
    rw [Nat.shiftLeft_eq]
    by_cases c : 1074 ≤ E r
    · rw [show (-(-1074 + (E r : Int))).toNat = 0 by omega]
      rw [show E r = (-1074 + (E r : Int)).toNat + 1074 by omega, Nat.pow_add, ← Nat.mul_assoc] at h
      rw [Nat.eq_of_mul_eq_mul_right (Nat.two_pow_pos 1074) h]
      have := cut_exact .zero false n 0
      simpa using this
    · rw [show (-1074 + (E r : Int)).toNat = 0 by omega, Nat.pow_zero, Nat.mul_one]
      rw [show (2:Nat) ^ 1074 = 2 ^ (-(-1074 + (E r : Int))).toNat * 2 ^ E r by rw [← Nat.pow_add]; congr 1; omega, ← Nat.mul_assoc] at h
      rw [Nat.eq_of_mul_eq_mul_right (Nat.two_pow_pos (E r)) h]
      exact cut_exact .zero false n _
  simp only [this]
  simp [signed]

theorem half_exact {r t : Nat} (hr : r < 9218868437227405312) (ht : t < 9218868437227405312) (h : N r = N t * 2) :
    double.div r 4611686018427387904 = some t := by
  unfold Format.div
  rw [read_pos hr, read_pos (show 4611686018427387904 < 9218868437227405312 by decide)]
  have e1 : M 4611686018427387904 = 2 ^ 52 := by decide
  have e2 : E 4611686018427387904 = 1023 := by decide
  have e3 : Nat.log2 (2 ^ 52) = 52 := by decide
  have hl := M_log2 r
  rw [e1, e2]
  simp only [Datum.quotient, fractionBits_eq, e3]
  rw [if_neg (show ¬ 2 ^ 52 = 0 by decide)]
  simp only [Option.map_some, Format.write, Bool.xor_self]
  congr 1
  generalize hm : 52 + 2 + 52 - (M r).log2 = m
  have hm' : 54 ≤ m := by omega
  have hd : M r <<< m = M r * 2 ^ (m - 52) * 2 ^ 52 := by
    rw [Nat.shiftLeft_eq, Nat.mul_assoc, ← Nat.pow_add, show m - 52 + 52 = m by omega]
  have hq : M r <<< m / 2 ^ 52 = M r * 2 ^ (m - 52) := by rw [hd, Nat.mul_div_cancel _ (Nat.two_pow_pos 52)]
  have hr0 : M r <<< m % 2 ^ 52 = 0 := by rw [hd]; exact Nat.mul_mod_left _ _
  rw [hq, hr0]
  refine nearest_exact false _ _ t ht ?_
  simp only [bne_self_eq_false, Bool.toNat_false, Nat.add_zero]
  unfold N at h
  have e4 : 2 * (M r * 2 ^ (m - 52)) = M r * 2 ^ (m - 51) := by
    rw [Nat.mul_left_comm, show m - 51 = m - 52 + 1 by omega, Nat.pow_succ, Nat.mul_comm 2]
  rw [e4]
  have hN : N t = M t * 2 ^ E t := rfl
  rw [← hN] at h
  generalize N t = nt at *
  generalize M r = mr at *
  generalize E r = er at *
  rw [Nat.mul_assoc, ← Nat.pow_add]
  rw [show -1074 + (er : Int) - (-1074 + ((1023 : Nat) : Int)) - (m : Nat) - 1 + 1074 = (er : Int) + 50 - m by omega]
  have h2 : mr * 2 ^ (er + (m + (-((er : Int) + 50 - m)).toNat)) = nt * 2 ^ (-((er : Int) + 50 - m)).toNat * 2 ^ (m + 1) := by
    rw [Nat.pow_add, ← Nat.mul_assoc, h, Nat.mul_assoc nt, ← Nat.pow_succ', Nat.mul_assoc, ← Nat.pow_add]
    congr 2; omega
  rw [show er + (m + (-((er : Int) + 50 - m)).toNat) = (m - 51 + ((er : Int) + 50 - m).toNat) + (m + 1) by omega, Nat.pow_add _ _ (m + 1), ← Nat.mul_assoc] at h2
  exact Nat.eq_of_mul_eq_mul_right (Nat.two_pow_pos (m + 1)) h2

/-- The rung of 'n * 2 ^ k'. -/
def rg (n k : Nat) : Nat := if n = 0 then 0 else (k + n.log2 - 52) * 4503599627370496 + n * 2 ^ (52 - n.log2)

theorem N_at {e m : Nat} (h0 : 4503599627370496 ≤ m) (h1 : m < 9007199254740992) : N (e * 4503599627370496 + m) = m * 2 ^ e := by
  unfold N
  have a : M (e * 4503599627370496 + m) = m := by unfold M; split <;> omega
  have b : E (e * 4503599627370496 + m) = e := by unfold E; omega
  rw [a, b]

theorem norm_range {n : Nat} (h0 : n ≠ 0) (h : n < 9007199254740992) : n.log2 ≤ 52 ∧ 4503599627370496 ≤ n * 2 ^ (52 - n.log2) ∧ n * 2 ^ (52 - n.log2) < 9007199254740992 := by
  have hl : n.log2 < 53 := (Nat.log2_lt h0).2 (by omega)
  have a := Nat.log2_self_le h0
  have b := @Nat.lt_log2_self n
  have hp : 0 < 2 ^ (52 - n.log2) := Nat.two_pow_pos _
  refine ⟨by omega, ?_, ?_⟩
  · have := Nat.mul_le_mul_right (2 ^ (52 - n.log2)) a
    rw [← Nat.pow_add, show n.log2 + (52 - n.log2) = 52 by omega] at this
    omega
  · have := Nat.mul_lt_mul_of_pos_right b hp
    rw [← Nat.pow_add, show n.log2 + 1 + (52 - n.log2) = 53 by omega] at this
    omega

theorem N_rg {n k : Nat} (h : n < 9007199254740992) (hk : 52 ≤ k) : N (rg n k) = n * 2 ^ k := by
  unfold rg
  split
  · rename_i h0; subst h0; simp [N, M]
  · rename_i h0
    obtain ⟨h1, h2, h3⟩ := norm_range h0 h
    rw [N_at h2 h3, Nat.mul_assoc, ← Nat.pow_add]
    congr 2; omega

theorem rg_lt {n k : Nat} (h : n < 9007199254740992) (hk : k ≤ 1993) : rg n k < 9218868437227405312 := by
  unfold rg
  split
  · decide
  · rename_i h0
    obtain ⟨h1, h2, h3⟩ := norm_range h0 h
    have : (k + n.log2 - 52) * 4503599627370496 ≤ 1993 * 4503599627370496 := Nat.mul_le_mul_right _ (by omega)
    omega

theorem floatOfInt_rg {n : Nat} (h : n < 9007199254740992) : floatOfInt .f64 (n : Int) = rg n 1074 := by
  unfold floatOfInt FloatKind.nearest FloatKind.encode
  show double.write _ = _
  have : decide ((n : Int) < 0) = false := by simp
  rw [this]
  simp only [Format.write, Int.natAbs_natCast]
  rw [nearest_exact false n 0 (rg n 1074) (rg_lt h (by omega)) ?_]
  · rfl
  · rw [N_rg h (by omega), show ((0 : Int) + 1074).toNat = 1074 by rfl, show (-((0 : Int) + 1074)).toNat = 0 by rfl]
    generalize (2 : Nat) ^ 1074 = U
    omega

/-- More is more. -/
theorem N_succ (r : Nat) : N r < N (r + 1) := by
  have hp := Nat.two_pow_pos (E r)
  by_cases h : r + 1 < 4503599627370496
  · unfold N
    rw [show E (r+1) = 0 by unfold E; omega, show E r = 0 by unfold E; omega, show M (r+1) = r + 1 by unfold M; rw [if_pos h], show M r = r by unfold M; rw [if_pos (by omega)]]
    omega
  by_cases h1 : (r + 1) % 4503599627370496 = 0
  · have e1 : M (r + 1) = 4503599627370496 := by unfold M; rw [if_neg h, h1]
    by_cases h2 : r < 4503599627370496
    · unfold N
      rw [e1, show E (r+1) = 0 by unfold E; omega, show E r = 0 by unfold E; omega, show M r = r by unfold M; rw [if_pos h2]]
      omega
    · unfold N
      rw [e1, show E (r+1) = E r + 1 by unfold E; omega, Nat.pow_succ, show M r = 9007199254740991 by unfold M; rw [if_neg h2]; omega]
      omega
  · unfold N
    rw [show E (r+1) = E r by unfold E; omega]
    apply Nat.mul_lt_mul_of_pos_right ?_ hp
    unfold M
    rw [if_neg h]
    split <;> omega
theorem N_lt {r s : Nat} (h : r < s) : N r < N s := by
  induction s with
  | zero => omega
  | succ s ih =>
    have := N_succ s
    by_cases c : r = s
    · rw [c]; exact this
    · exact Nat.lt_trans (ih (by omega)) this
theorem N_le {r s : Nat} (h : r ≤ s) : N r ≤ N s := by
  rcases Nat.lt_or_eq_of_le h with g | g
  · exact Nat.le_of_lt (N_lt g)
  · rw [g]; exact Nat.le_refl _
theorem N_zero : N 0 = 0 := rfl

def sg (s : Bool) (n : Nat) : Int := if s then -(n : Int) else n

theorem compare_scale (x y : Int) (k : Nat) : compare (x * 2 ^ k) (y * 2 ^ k) = compare x y := by
  have hp : (0 : Int) < 2 ^ k := Int.pow_pos (by decide)
  simp only [compare, compareOfLessAndEq]
  have h1 : x * 2 ^ k < y * 2 ^ k ↔ x < y := ⟨fun h => Int.lt_of_mul_lt_mul_right h (Int.le_of_lt hp), fun h => Int.mul_lt_mul_of_pos_right h hp⟩
  have h2 : x * 2 ^ k = y * 2 ^ k ↔ x = y := ⟨fun h => Int.eq_of_mul_eq_mul_right (Int.ne_of_gt hp) h, fun h => by rw [h]⟩
  simp only [h1, h2]

theorem signed_scale (s : Bool) (m a b : Nat) : signed s m a * 2 ^ b = sg s (m * 2 ^ (a + b)) := by
  unfold signed sg
  cases s <;> simp [Nat.shiftLeft_eq, Nat.pow_add, Int.mul_assoc, Int.neg_mul]

theorem order_num (s t : Bool) {a b : Nat} (ha : a < 9218868437227405312) (hb : b < 9218868437227405312) :
    double.order (double.word s a) (double.word t b) = some (compare (sg s (N a)) (sg t (N b))) := by
  unfold Format.order
  rw [read_num s ha, read_num t hb]
  simp only [Datum.order]
  congr 1
  have k : (min (-1074 + (E a : Int)) (-1074 + (E b : Int)) + 1074).toNat = min (E a) (E b) := by omega
  rw [← compare_scale _ _ (min (E a) (E b)), signed_scale, signed_scale]
  unfold N
  congr 4 <;> omega

theorem cmp_lt {x y : Int} (h : x < y) : compare x y = .lt := Int.compare_eq_lt.2 h
theorem cmp_gt {x y : Int} (h : y < x) : compare x y = .gt := Int.compare_eq_gt.2 h
theorem cmp_eq {x y : Int} (h : x = y) : compare x y = .eq := Int.compare_eq_eq.2 h

/-- Words without a sign stand in their own order. -/
theorem order_lt {a b : Nat} (h : a < b) (hb : b < 9218868437227405312) : double.order a b = some .lt := by
  have := order_num false false (show a < 9218868437227405312 by omega) hb
  rw [word_pos, word_pos] at this
  rw [this]
  exact congrArg some (cmp_lt (Int.ofNat_lt.2 (N_lt h)))
theorem order_gt {a b : Nat} (h : b < a) (ha : a < 9218868437227405312) : double.order a b = some .gt := by
  have := order_num false false ha (show b < 9218868437227405312 by omega)
  rw [word_pos, word_pos] at this
  rw [this]
  exact congrArg some (cmp_gt (Int.ofNat_lt.2 (N_lt h)))
theorem order_self {a : Nat} (ha : a < 9218868437227405312) : double.order a a = some .eq := by
  have := order_num false false ha ha
  rw [word_pos] at this
  rw [this]
  exact congrArg some (cmp_eq rfl)
theorem order_neg_self {a : Nat} (ha : a < 9218868437227405312) : double.order (9223372036854775808 + a) (9223372036854775808 + a) = some .eq := by
  have := order_num true true ha ha
  rw [word_neg] at this
  rw [this]
  exact congrArg some (cmp_eq rfl)
theorem order_neg {a b : Nat} (h : 0 < a) (ha : a < 9218868437227405312) (hb : b < 9218868437227405312) : double.order (9223372036854775808 + a) b = some .lt := by
  have := order_num true false ha hb
  rw [word_neg, word_pos] at this
  rw [this]
  have h1 := N_lt h
  rw [N_zero] at h1
  refine congrArg some (cmp_lt ?_)
  simp only [sg]
  simp
  omega
theorem order_noughts {b : Nat} (hb : b < 9218868437227405312) : double.order 9223372036854775808 b = some (compare 0 (N b : Int)) := by
  have := order_num true false (show 0 < 9218868437227405312 by decide) hb
  rw [word_neg, word_pos] at this
  exact this
theorem order_inf {b : Nat} (hb : b < 9218868437227405312) : double.order 9218868437227405312 b = some .gt := by
  unfold Format.order
  rw [read_inf, read_pos hb]; rfl
theorem order_ninf {b : Nat} (hb : b < 9218868437227405312) : double.order 18442240474082181120 b = some .lt := by
  unfold Format.order
  rw [read_ninf, read_pos hb]; rfl
theorem order_nan {a : Nat} (b : Nat) (h : 9218868437227405312 < a % 9223372036854775808) : double.order a b = none := by
  unfold Format.order
  obtain ⟨s, t, e⟩ := read_nan h
  rw [e]; rfl

/-- Which words are numbers from nought on; of the others, what the comparisons give. -/
inductive Kind (b : Nat) : Prop where
  | nought (h : b = 0)
  | minus (h : b = 9223372036854775808)
  | some (h : 0 < b) (h1 : b < 9218868437227405312)
  | below (a : Nat) (h : b = 9223372036854775808 + a) (h0 : 0 < a) (h1 : a < 9218868437227405312)
  | inf (h : b = 9218868437227405312)
  | ninf (h : b = 18442240474082181120)
  | nan (h : 9218868437227405312 < b % 9223372036854775808)
theorem kind_of {b : Nat} (h : b < 18446744073709551616) : Kind b := by
  by_cases h0 : b = 0
  · exact .nought h0
  by_cases h1 : b < 9218868437227405312
  · exact .some (by omega) h1
  by_cases h2 : b = 9218868437227405312
  · exact .inf h2
  by_cases h3 : b = 9223372036854775808
  · exact .minus h3
  by_cases h4 : b = 18442240474082181120
  · exact .ninf h4
  by_cases h5 : 9218868437227405312 < b % 9223372036854775808
  · exact .nan h5
  · exact .below (b - 9223372036854775808) (by omega) (by omega) (by omega)

end Fl
end Go.Proofs.Ytjleacbmdpcahaa
