/-
  Plain mathematics of a division of a number of two words by one word, half a word at a time: each trial digit is too great by two at most, and the loop that lowers it stops at the right one. No conditions but those that each law names.
-/
import Derived.IntWalk
import Derived.Lib.Mul64
namespace Go.Proofs.Ytcgglphphdpplaa.Dv

theorem spread (q v v1 v0 : Int) (hv : v = v1 * 4294967296 + v0) : q * v = q * v1 * 4294967296 + q * v0 := by
  rw [hv, Int.mul_add, Int.mul_assoc]

/-- The first guess of a digit. -/
theorem first {u v v1 v0 w : Int} (hv : v = v1 * 4294967296 + v0) (h1 : 2147483648 ≤ v1) (h2 : v1 ≤ 4294967295) (h3 : 0 ≤ v0) (h4 : v0 ≤ 4294967295) (hu : 0 ≤ u) (huv : u < v) (hw : 0 ≤ w) (hw' : w ≤ 4294967295) :
    0 ≤ u / v1 ∧ u / v1 ≤ 4294967297 ∧ 0 ≤ u - u / v1 * v1 ∧ u - u / v1 * v1 ≤ 4294967295 ∧ (u * 4294967296 + w) / v ≤ u / v1 := by
  have e := Int.mul_ediv_add_emod u v1
  have m1 := Int.emod_nonneg u (show v1 ≠ 0 by omega)
  have m2 := Int.emod_lt_of_pos u (show 0 < v1 by omega)
  have e' : v1 * (u / v1) = u / v1 * v1 := Int.mul_comm _ _
  have q0 : 0 ≤ u / v1 := Int.ediv_nonneg hu (by omega)
  have q1 : u / v1 ≤ 4294967297 := by
    have : u / v1 < 4294967298 := Int.ediv_lt_of_lt_mul (by omega) (by omega)
    omega
  refine ⟨q0, q1, by omega, by omega, ?_⟩
  have hlt : (u * 4294967296 + w) / v < u / v1 + 1 := by
    apply Int.ediv_lt_of_lt_mul (by omega)
    have s := spread (u / v1 + 1) v v1 v0 hv
    have s1 : (u / v1 + 1) * v1 = u / v1 * v1 + v1 := by rw [Int.add_mul, Int.one_mul]
    have s2 : 0 ≤ (u / v1 + 1) * v0 := Int.mul_nonneg (by omega) h3
    omega
  omega

/-- A digit that is too great, as the loop asks it. -/
theorem great {u v v1 v0 w q rh : Int} (hv : v = v1 * 4294967296 + v0) (hpos : 0 < v) (huv : u < v) (hw' : w ≤ 4294967295) (inv : q * v1 + rh = u) (h : 4294967296 ≤ q ∨ 4294967296 * rh + w < q * v0) :
    (u * 4294967296 + w) / v ≤ q - 1 := by
  have hlt : (u * 4294967296 + w) / v < q := by
    apply Int.ediv_lt_of_lt_mul hpos
    have s := spread q v v1 v0 hv
    rcases h with h | h
    · have := Int.mul_le_mul_of_nonneg_right h (show 0 ≤ v by omega)
      omega
    · omega
  omega
theorem lower {v1 q rh u : Int} (inv : q * v1 + rh = u) : (q - 1) * v1 + (rh + v1) = u := by
  rw [Int.sub_mul, Int.one_mul]; omega
/-- A digit that isn't. -/
theorem right {u v v1 v0 w q rh : Int} (hv : v = v1 * 4294967296 + v0) (hpos : 0 < v) (inv : q * v1 + rh = u) (h : q * v0 ≤ 4294967296 * rh + w) (hle : (u * 4294967296 + w) / v ≤ q) :
    q = (u * 4294967296 + w) / v := by
  have s := spread q v v1 v0 hv
  have : q ≤ (u * 4294967296 + w) / v := (Int.le_ediv_iff_mul_le hpos).2 (by omega)
  omega
/-- The loop broke off. -/
theorem broke {u v v1 v0 w q rh : Int} (hv : v = v1 * 4294967296 + v0) (h3 : 0 ≤ v0) (h4 : v0 ≤ 4294967295) (hpos : 0 < v) (hw : 0 ≤ w) (inv : q * v1 + rh = u) (hq : q ≤ 4294967296) (hr : 4294967296 ≤ rh) (hle : (u * 4294967296 + w) / v ≤ q) :
    q = (u * 4294967296 + w) / v := by
  refine right hv hpos inv ?_ hle
  have := Int.mul_le_mul_of_nonneg_right hq h3
  omega
/-- No product of the test is too great. -/
theorem small {q v0 : Int} (h0 : 0 ≤ q) (hq : q ≤ 4294967297) (h3 : 0 ≤ v0) (h4 : v0 ≤ 4294967295) : 0 ≤ q * v0 ∧ q * v0 ≤ 18446744073709551615 := by
  have a := Int.mul_le_mul_of_nonneg_right hq h3
  have b := Int.mul_nonneg h0 h3
  omega
/-- The digit's rest, and its bound. -/
theorem rest {u v w : Int} (hpos : 0 < v) (hu : 0 ≤ u) (huv : u < v) (hw : 0 ≤ w) (hw' : w ≤ 4294967295) :
    0 ≤ (u * 4294967296 + w) / v ∧ (u * 4294967296 + w) / v ≤ 4294967295 ∧ u * 4294967296 + w - (u * 4294967296 + w) / v * v = (u * 4294967296 + w) % v ∧ 0 ≤ (u * 4294967296 + w) % v ∧ (u * 4294967296 + w) % v < v := by
  have e := Int.mul_ediv_add_emod (u * 4294967296 + w) v
  have e' : v * ((u * 4294967296 + w) / v) = (u * 4294967296 + w) / v * v := Int.mul_comm _ _
  have h1 : (u * 4294967296 + w) / v < 4294967296 := Int.ediv_lt_of_lt_mul hpos (by omega)
  refine ⟨Int.ediv_nonneg (by omega) (by omega), by omega, by omega, Int.emod_nonneg _ (by omega), Int.emod_lt_of_pos _ hpos⟩
/-- Both digits together. -/
theorem both {u v w x : Int} (hpos : 0 < v) :
    (u * 4294967296 + w) / v * 4294967296 + ((u * 4294967296 + w) % v * 4294967296 + x) / v = ((u * 4294967296 + w) * 4294967296 + x) / v ∧
    ((u * 4294967296 + w) % v * 4294967296 + x) % v = ((u * 4294967296 + w) * 4294967296 + x) % v := by
  have e := Int.mul_ediv_add_emod (u * 4294967296 + w) v
  generalize (u * 4294967296 + w) / v = q at *
  generalize (u * 4294967296 + w) % v = r at *
  have h : (u * 4294967296 + w) * 4294967296 + x = (r * 4294967296 + x) + v * (q * 4294967296) := by
    rw [← e, Int.add_mul, Int.mul_assoc]; omega
  rw [h]
  constructor
  · rw [Int.add_mul_ediv_left _ _ (by omega)]; omega
  · rw [Int.add_mul_emod_self_left]

/-- The number, and what it is divided by, moved up by the same power of two. -/
theorem moved {n y p : Int} (hp : 0 < p) : n * p / (y * p) = n / y ∧ n * p % (y * p) / p = n % y := by
  constructor
  · exact Int.mul_ediv_mul_of_pos_left _ _ hp
  · rw [Int.emod_def, Int.mul_ediv_mul_of_pos_left _ _ hp, show n * p - y * p * (n / y) = (n - y * (n / y)) * p by rw [Int.sub_mul, Int.mul_right_comm], Int.mul_ediv_cancel _ (by omega), Int.emod_def]
end Go.Proofs.Ytcgglphphdpplaa.Dv
