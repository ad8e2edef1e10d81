/-
  Plans in memory; the first day of the next period: package account's 'begun'. No conditions but those that each law names.
-/
import Derived.Laws.ResultCell
import Derived.IntWalk
import Derived.Lib.Mul64
import Derived.Test.YtnbfkdcpghkglaaRows
import Derived.Lib.BitFns
import Derived.Lib.Walk
import Derived.Laws.MathBits
import Derived.Laws.BitsAllLaws
import Derived.Outline
import Derived.Lib.Hide
import Derived.Test.YtnbfkdcpghkglaaPb01
import Derived.Test.YtnbfkdcpghkglaaPb02
import Derived.Test.YtnbfkdcpghkglaaPb09
set_option linter.unusedSimpArgs false
set_option linter.unusedVariables false
namespace Go.Proofs.Ytnbfkdcpghkglaa
set_option maxRecDepth 20000
open Go.ChangeShapes Go.WideShapes Go.ChangeAt Go.RowKit

def Pv.arr (p : Pv) : Array Value := #[.int .i64 p.a, .int .u8 p.u, .int .i64 p.e, .int .i64 p.t, .bool p.g, .bool p.l]
theorem Pv.arr_size (p : Pv) : p.arr.size = 6 := rfl
theorem Pv.arr_one (p : Pv) : p.arr.all (·.oneCell') = true := by simp [Pv.arr, Value.oneCell']
theorem info6p : (Try.prog.info? 26).map (·.size) = some 6 := by kernel_rfl
theorem Pv.at0 (p : Pv) : p.arr[0]? = some (.int .i64 p.a) := rfl
theorem Pv.at1 (p : Pv) : p.arr[1]? = some (.int .u8 p.u) := rfl
theorem Pv.at2 (p : Pv) : p.arr[2]? = some (.int .i64 p.e) := rfl
theorem Pv.at3 (p : Pv) : p.arr[3]? = some (.int .i64 p.t) := rfl
theorem Pv.at4 (p : Pv) : p.arr[4]? = some (.bool p.g) := rfl
theorem Pv.at5 (p : Pv) : p.arr[5]? = some (.bool p.l) := rfl
theorem Pv.set0 (p : Pv) (x : Int) : p.arr.setIfInBounds 0 (.int .i64 x) = ({ p with a := x } : Pv).arr := rfl
theorem Pv.set1 (p : Pv) (x : Int) : p.arr.setIfInBounds 1 (.int .u8 x) = ({ p with u := x } : Pv).arr := rfl
theorem Pv.set2 (p : Pv) (x : Int) : p.arr.setIfInBounds 2 (.int .i64 x) = ({ p with e := x } : Pv).arr := rfl
theorem Pv.set3 (p : Pv) (x : Int) : p.arr.setIfInBounds 3 (.int .i64 x) = ({ p with t := x } : Pv).arr := rfl
theorem Pv.set4 (p : Pv) (x : Bool) : p.arr.setIfInBounds 4 (.bool x) = ({ p with g := x } : Pv).arr := rfl
theorem Pv.set5 (p : Pv) (x : Bool) : p.arr.setIfInBounds 5 (.bool x) = ({ p with l := x } : Pv).arr := rfl
attribute [simp, go_sem] Pv.arr_size Pv.at0 Pv.set0 Pv.at1 Pv.set1 Pv.at2 Pv.set2 Pv.at3 Pv.set3 Pv.at4 Pv.set4 Pv.at5 Pv.set5
theorem run_loadAt_row {P : Program} (w : World) (g : Nat) (t ty : TypeId) (cs : Array Value) (fr : Nat × Nat) (d : TypeDesc) (hg : w.heap[g]? = some (.cells cs t fr))
    (hu : P.underlying ty = some d) (hd : (match d with | .struct _ | .array _ _ => true | _ => false) = true) (hi : (P.info? ty).map (·.size) = some cs.size) : (Instr.loadAt ty (.pointer (some ⟨g, 0, none⟩))).run P w = .ok (.agg cs) w := by
  simp only [Instr.loadAt, Instr.sureAddr, Sem.run_bind, Sem.run_pure, Result.andThen_ok, run_loadVar_row w g t ty cs fr d hg hu hd hi]
/-- A result in a block, and one in a slot. -/
theorem results_row_tmp {P : Program} {fn : Func} {p u : Tmp} {ty : TypeId} (h : fn.results = #[.cell p ty, .tmp u]) (tmps : Array Value) (w : World) (g : Nat) (t : TypeId) (cs : Array Value) (fr : Nat × Nat) (d : TypeDesc)
    (hp : tmps.getD p undef = .pointer (some ⟨g, 0, none⟩)) (hg : w.heap[g]? = some (.cells cs t fr)) (hu : P.underlying ty = some d) (hd : (match d with | .struct _ | .array _ _ => true | _ => false) = true) (hi : (P.info? ty).map (·.size) = some cs.size) :
    (results fn tmps).run P w = .ok (.tuple #[.agg cs, tmps.getD u undef]) w := by
  rw [results_cell_tmp h, hp]
  simp [asAddr, run_loadVar_row w g t ty cs fr d hg hu hd hi]
/-- When the next period begins, if it has. -/
def Begun (a : Av) (N : Int → Int) (c : Int) (w : World) (e : Ending) (w' : World) : Prop := (∃ x, e = .returned (.tuple #[.int .i64 x, .bool (decide (a.ix < c))]) ∧ (a.ix < c → x = N a.ix)) ∧ Below w.heap.size w w'
set_option maxHeartbeats 1000000 in
theorem begun_any {w : World} {v : Value} {a : Av} {p : Pv} {y c k d : Int} (hAt : Cal.At a.an k d) (hU : 0 ≤ p.u ∧ p.u ≤ 3) (hE : 1 ≤ p.e ∧ p.e ≤ 1000) (hix : 0 ≤ a.ix ∧ a.ix ≤ 3652058) (hc : Cal.Cnt p.u a.an k d p.e y c) :
    Calls Try.prog 45 #[.agg (a.arr v), .agg p.arr, .int .i64 y] w (Begun a (Cal.vN p.u a.an k d p.e) c w) := by
  have HAT := Lib.hid hAt
  have HC := Lib.hid hc
  obtain ⟨hu0, hu1⟩ := hU
  obtain ⟨he0, he1⟩ := hE
  obtain ⟨hi0, hi1⟩ := hix
  clear hAt hc
  cases ho : Cal.okN p.u a.an k p.e a.ix
  · have hd : decide (a.ix < c) = false := by
      have : ¬ a.ix < c := fun h => by have := (HC.out.all a.ix hi0 h).1; rw [ho] at this; cases this
      simpa using this
    have HD := Lib.hid hd
    have HO := Lib.hid ho
    clear hd ho
    go_enter Try.func45, Try.ntmps45
    go_wp2_with (fail)
    refine (nth_long _ _ _ _ _ _ _ HAT.out hu0 hu1 he0 he1 hi0 hi1 HO.out).mono ?_
    rintro e w1 ⟨rfl, hb⟩
    have HB := Lib.hid (((Below.refl _ w).alloc (Nat.le_refl _) (.cells (a.arr v) 33)).alloc (by simp) (.cells p.arr 26) |>.trans (hb.mono (by simp; omega)))
    clear hb
    go_wp2
    go_ret2
    exact ⟨⟨0, by rw [HD.out]; rfl, fun h => by have := HD.out; simp at this; omega⟩, HB.out⟩
  · obtain ⟨x, hx⟩ : ∃ x, Cal.vN p.u a.an k d p.e a.ix = x := ⟨_, rfl⟩
    have hd : decide (x ≤ y) = decide (a.ix < c) := by
      rw [decide_eq_decide]
      constructor
      · intro h
        by_cases h2 : a.ix < c
        · exact h2
        · exfalso
          have h3 : a.ix = c ∨ c < a.ix := by omega
          rcases h3 with h3 | h3
          · have := HC.out.out (by rw [← h3]; exact ho); rw [← h3, hx] at this; omega
          · have h5 := Cal.okN_le (u := p.u) he0 (show c ≤ a.ix by omega) ho
            have := HC.out.out h5
            have h6 := Cal.vN_lt (u := p.u) HAT.out he0 h3
            rw [hx] at h6; omega
      · intro h
        have := (HC.out.all a.ix hi0 h).2
        rw [hx] at this; exact this
    have HD := Lib.hid hd
    have HO := Lib.hid ho
    have HX := Lib.hid hx
    clear hd ho hx
    go_enter Try.func45, Try.ntmps45
    go_wp2_with (fail)
    refine (nth_yes _ _ _ _ _ _ _ HAT.out hu0 hu1 he0 he1 hi0 hi1 HO.out).mono ?_
    rw [HX.out]
    rintro e w1 ⟨rfl, hb⟩
    have HB := Lib.hid (((Below.refl _ w).alloc (Nat.le_refl _) (.cells (a.arr v) 33)).alloc (by simp) (.cells p.arr 26) |>.trans (hb.mono (by simp; omega)))
    clear hb
    go_wp2
    go_ret2
    exact ⟨⟨x, by rw [← HD.out]; rfl, fun _ => HX.out.symm⟩, HB.out⟩
end Go.Proofs.Ytnbfkdcpghkglaa
/-
  Plain mathematics of a division of a number of two words by one word, half a word at a time: each trial digit is too great by two at most, and the loop that lowers it stops at the right one. No conditions but those that each law names.
-/
namespace Go.Proofs.Ytnbfkdcpghkglaa.Dv

theorem spread (q v v1 v0 : Int) (hv : v = v1 * 4294967296 + v0) : q * v = q * v1 * 4294967296 + q * v0 := by
  rw [hv, Int.mul_add, Int.mul_assoc]

/-- The first guess of a digit. -/
theorem first {u v v1 v0 w : Int} (hv : v = v1 * 4294967296 + v0) (h1 : 2147483648 ≤ v1) (h2 : v1 ≤ 4294967295) (h3 : 0 ≤ v0) (h4 : v0 ≤ 4294967295) (hu : 0 ≤ u) (huv : u < v) (hw : 0 ≤ w) (hw' : w ≤ 4294967295) :
    0 ≤ u / v1 ∧ u / v1 ≤ 4294967297 ∧ 0 ≤ u - u / v1 * v1 ∧ u - u / v1 * v1 ≤ 4294967295 ∧ (u * 4294967296 + w) / v ≤ u / v1 := by
  have e := Int.mul_ediv_add_emod u v1
  have m1 := Int.emod_nonneg u (show v1 ≠ 0 by omega)
  have m2 := Int.emod_lt_of_pos u (show 0 < v1 by omega)
  have e' : v1 * (u / v1) = u / v1 * v1 := Int.mul_comm _ _
  have q0 : 0 ≤ u / v1 := Int.ediv_nonneg hu (by omega)
  have q1 : u / v1 ≤ 4294967297 := by
    have : u / v1 < 4294967298 := Int.ediv_lt_of_lt_mul (by omega) (by omega)
    omega
  refine ⟨q0, q1, by omega, by omega, ?_⟩
  have hlt : (u * 4294967296 + w) / v < u / v1 + 1 := by
    apply Int.ediv_lt_of_lt_mul (by omega)
    have s := spread (u / v1 + 1) v v1 v0 hv
    have s1 : (u / v1 + 1) * v1 = u / v1 * v1 + v1 := by rw [Int.add_mul, Int.one_mul]
    have s2 : 0 ≤ (u / v1 + 1) * v0 := Int.mul_nonneg (by omega) h3
    omega
  omega

/-- A digit that is too great, as the loop asks it. -/
theorem great {u v v1 v0 w q rh : Int} (hv : v = v1 * 4294967296 + v0) (hpos : 0 < v) (huv : u < v) (hw' : w ≤ 4294967295) (inv : q * v1 + rh = u) (h : 4294967296 ≤ q ∨ 4294967296 * rh + w < q * v0) :
    (u * 4294967296 + w) / v ≤ q - 1 := by
  have hlt : (u * 4294967296 + w) / v < q := by
    apply Int.ediv_lt_of_lt_mul hpos
    have s := spread q v v1 v0 hv
    rcases h with h | h
    · have := Int.mul_le_mul_of_nonneg_right h (show 0 ≤ v by omega)
      omega
    · omega
  omega
theorem lower {v1 q rh u : Int} (inv : q * v1 + rh = u) : (q - 1) * v1 + (rh + v1) = u := by
  rw [Int.sub_mul, Int.one_mul]; omega
/-- A digit that isn't. -/
theorem right {u v v1 v0 w q rh : Int} (hv : v = v1 * 4294967296 + v0) (hpos : 0 < v) (inv : q * v1 + rh = u) (h : q * v0 ≤ 4294967296 * rh + w) (hle : (u * 4294967296 + w) / v ≤ q) :
    q = (u * 4294967296 + w) / v := by
  have s := spread q v v1 v0 hv
  have : q ≤ (u * 4294967296 + w) / v := (Int.le_ediv_iff_mul_le hpos).2 (by omega)
  omega
/-- The loop broke off. -/
theorem broke {u v v1 v0 w q rh : Int} (hv : v = v1 * 4294967296 + v0) (h3 : 0 ≤ v0) (h4 : v0 ≤ 4294967295) (hpos : 0 < v) (hw : 0 ≤ w) (inv : q * v1 + rh = u) (hq : q ≤ 4294967296) (hr : 4294967296 ≤ rh) (hle : (u * 4294967296 + w) / v ≤ q) :
    q = (u * 4294967296 + w) / v := by
  refine right hv hpos inv ?_ hle
  have := Int.mul_le_mul_of_nonneg_right hq h3
  omega
/-- No product of the test is too great. -/
theorem small {q v0 : Int} (h0 : 0 ≤ q) (hq : q ≤ 4294967297) (h3 : 0 ≤ v0) (h4 : v0 ≤ 4294967295) : 0 ≤ q * v0 ∧ q * v0 ≤ 18446744073709551615 := by
  have a := Int.mul_le_mul_of_nonneg_right hq h3
  have b := Int.mul_nonneg h0 h3
  omega
/-- The digit's rest, and its bound. -/
theorem rest {u v w : Int} (hpos : 0 < v) (hu : 0 ≤ u) (huv : u < v) (hw : 0 ≤ w) (hw' : w ≤ 4294967295) :
    0 ≤ (u * 4294967296 + w) / v ∧ (u * 4294967296 + w) / v ≤ 4294967295 ∧ u * 4294967296 + w - (u * 4294967296 + w) / v * v = (u * 4294967296 + w) % v ∧ 0 ≤ (u * 4294967296 + w) % v ∧ (u * 4294967296 + w) % v < v := by
  have e := Int.mul_ediv_add_emod (u * 4294967296 + w) v
  have e' : v * ((u * 4294967296 + w) / v) = (u * 4294967296 + w) / v * v := Int.mul_comm _ _
  have h1 : (u * 4294967296 + w) / v < 4294967296 := Int.ediv_lt_of_lt_mul hpos (by omega)
  refine ⟨Int.ediv_nonneg (by omega) (by omega), by omega, by omega, Int.emod_nonneg _ (by omega), Int.emod_lt_of_pos _ hpos⟩
/-- Both digits together. -/
theorem both {u v w x : Int} (hpos : 0 < v) :
    (u * 4294967296 + w) / v * 4294967296 + ((u * 4294967296 + w) % v * 4294967296 + x) / v = ((u * 4294967296 + w) * 4294967296 + x) / v ∧
    ((u * 4294967296 + w) % v * 4294967296 + x) % v = ((u * 4294967296 + w) * 4294967296 + x) % v := by
  have e := Int.mul_ediv_add_emod (u * 4294967296 + w) v
  generalize (u * 4294967296 + w) / v = q at *
  generalize (u * 4294967296 + w) % v = r at *
  have h : (u * 4294967296 + w) * 4294967296 + x = (r * 4294967296 + x) + v * (q * 4294967296) := by
    rw [← e, Int.add_mul, Int.mul_assoc]; omega
  rw [h]
  constructor
  · rw [Int.add_mul_ediv_left _ _ (by omega)]; omega
  · rw [Int.add_mul_emod_self_left]

/-- The number, and what it is divided by, moved up by the same power of two. -/
theorem moved {n y p : Int} (hp : 0 < p) : n * p / (y * p) = n / y ∧ n * p % (y * p) / p = n % y := by
  constructor
  · exact Int.mul_ediv_mul_of_pos_left _ _ hp
  · rw [Int.emod_def, Int.mul_ediv_mul_of_pos_left _ _ hp, show n * p - y * p * (n / y) = (n - y * (n / y)) * p by rw [Int.sub_mul, Int.mul_right_comm], Int.mul_ediv_cancel _ (by omega), Int.emod_def]
end Go.Proofs.Ytnbfkdcpghkglaa.Dv
/-
  Contracts of the library's words: how many bits a number wants, how many noughts are ahead of them in 64, and the product of two words in two words. No conditions but the words' own ranges.
-/
namespace Go.Proofs.Ytnbfkdcpghkglaa
open Go.ChangeShapes Go.WideShapes Go.ChangeAt Go.RowKit

namespace Dv
theorem len_bound : ∀ (f x : Nat), x < 2 ^ f → f ≤ 64 → x < 2 ^ Lib.bitLen x ∧ (x ≠ 0 → 1 ≤ Lib.bitLen x ∧ 2 ^ (Lib.bitLen x - 1) ≤ x)
  | 0, x, h, _ => by
    have : x = 0 := by simpa using h
    subst this
    exact ⟨by decide, fun h => absurd rfl h⟩
  | f + 1, x, h, hf => by
    have h64 : x < 2 ^ 64 := Nat.lt_of_lt_of_le h (Nat.pow_le_pow_right (by decide) hf)
    by_cases h0 : x = 0
    · subst h0; exact ⟨by decide, fun h => absurd rfl h⟩
    · obtain ⟨a, b⟩ := len_bound f (x / 2) (by rw [Nat.pow_succ] at h; omega) (by omega)
      rw [Lib.bitLen_half x h0 h64]
      refine ⟨by rw [Nat.add_comm, Nat.pow_succ]; omega, fun _ => ⟨by omega, ?_⟩⟩
      by_cases h1 : x / 2 = 0
      · rw [h1]; simp [Lib.bitLen, Lib.bitLenAux]; omega
      · obtain ⟨c, d⟩ := b h1
        obtain ⟨k, hk⟩ : ∃ k, Lib.bitLen (x / 2) = k + 1 := ⟨Lib.bitLen (x / 2) - 1, by omega⟩
        rw [hk] at d ⊢
        simp only [Nat.add_sub_cancel, Nat.add_sub_cancel_left] at d ⊢
        rw [Nat.pow_succ]
        omega
/-- How far a word is moved up till its first bit is one. -/
def up (y : Int) : Nat := 64 - Lib.bitLen y.toNat
theorem up_le (y : Int) (h0 : 1 ≤ y) (h1 : y ≤ 18446744073709551615) : up y ≤ 63 ∧ 9223372036854775808 ≤ y * 2 ^ up y ∧ y * 2 ^ up y ≤ 18446744073709551615 ∧ (64 - (Lib.bitLen y.toNat : Int)) = up y := by
  have l := Lib.bitLen_le y.toNat 64 (by omega) (by omega)
  obtain ⟨a, b⟩ := len_bound 64 y.toNat (by omega) (by omega)
  obtain ⟨c, d⟩ := b (by omega)
  unfold up
  generalize Lib.bitLen y.toNat = n at *
  have hp : (2 : Nat) ^ n * 2 ^ (64 - n) = 18446744073709551616 := by rw [← Nat.pow_add, show n + (64 - n) = 64 by omega]
  have hq : (2 : Nat) ^ (n - 1) * 2 ^ (64 - n) = 9223372036854775808 := by rw [← Nat.pow_add, show n - 1 + (64 - n) = 63 by omega]
  have h2 : 0 < (2 : Nat) ^ (64 - n) := Nat.pow_pos (by decide)
  have e1 := Nat.mul_lt_mul_of_pos_right a h2
  have e2 := Nat.mul_le_mul_right (2 ^ (64 - n)) d
  have e3 : y * 2 ^ (64 - n) = ((y.toNat * 2 ^ (64 - n) : Nat) : Int) := by
    rw [Int.natCast_mul, Int.natCast_pow, Int.toNat_of_nonneg (by omega)]; rfl
  rw [e3]
  generalize y.toNat * 2 ^ (64 - n) = z at *
  omega
end Dv

theorem lz64_any (y : Int) (w : World) (h0 : 1 ≤ y) (h1 : y ≤ 18446744073709551615) :
    Calls Try.prog 119 #[.int .u64 y] w fun e w' => e = .returned (.int .i64 (Dv.up y)) ∧ w = w' := by
  obtain ⟨_, _, _, hu⟩ := Dv.up_le y h0 h1
  have l := Lib.bitLen_le y.toNat 64 (by omega) (by omega)
  have HU := Lib.hid hu
  clear hu
  go_enter Try.func119, Try.ntmps119
  go_wp2_with (go_at_call 120; refine (len64_any y _ (by omega) h1).mono ?_; rintro e w' ⟨rfl, rfl⟩)
  go_ret
  exact ⟨ret_int HU.out, rfl⟩

theorem Dv.low32 (z : Int) : bits .and .u64 (z % 18446744073709551616) 4294967295 = z % 18446744073709551616 % 4294967296 := and_low32 _ (by omega) (by omega)

set_option maxHeartbeats 1000000 in
set_option maxRecDepth 100000 in
theorem mul64_any (x y : Int) (w : World) (h0 : 0 ≤ x) (h1 : x ≤ 18446744073709551615) (g0 : 0 ≤ y) (g1 : y ≤ 18446744073709551615) :
    Calls Try.prog 116 #[.int .u64 x, .int .u64 y] w fun e w' => e = .returned (.tuple #[.int .u64 (x * y / 18446744073709551616), .int .u64 (x * y % 18446744073709551616)]) ∧ w = w' := by
  go_enter Try.func116, Try.ntmps116
  go_wp2
  simp only [IntKind.wrap_u64, and_low32 x h0 (by omega), and_low32 y g0 (by omega), Dv.low32]
  rw [mul64_arith x y h0 (by omega) g0 (by omega)]
  go_ret2
  exact ⟨rfl, rfl⟩
end Go.Proofs.Ytnbfkdcpghkglaa
/-
  Contract of the library's division of two words by one: the quotient and the rest. No conditions but that the quotient is a word.
-/
namespace Go.Proofs.Ytnbfkdcpghkglaa
open Go.ChangeShapes Go.WideShapes Go.ChangeAt Go.RowKit

theorem ret_two {k : IntKind} {a b c d : Int} (h : a = c) (g : b = d) : Ending.returned (.tuple #[.int k a, .int k b]) = .returned (.tuple #[.int k c, .int k d]) := by rw [h, g]

set_option maxHeartbeats 1000000 in
set_option maxRecDepth 100000 in
theorem div64_low (x y : Int) (w : World) (h0 : 0 ≤ x) (h1 : x ≤ 18446744073709551615) (g0 : 1 ≤ y) (g1 : y ≤ 18446744073709551615) :
    Calls Try.prog 117 #[.int .u64 0, .int .u64 x, .int .u64 y] w fun e w' => e = .returned (.tuple #[.int .u64 (x / y), .int .u64 (x % y)]) ∧ Below w.heap.size w w' := by
  have e0 : (y == 0) = false := beq_eq_false_iff_ne.2 (by omega)
  have hy : decide (y ≤ 0) = false := by simp; omega
  go_enter Try.func117, Try.ntmps117
  go_wp2
  go_quiet (fail)
  go_wp2
  go_ret2
  exact ⟨rfl, Below.drewN' (by go_grown) _⟩

namespace Dv
theorem pows (s : Nat) (h : s ≤ 63) : (2 : Int) ^ s * 2 ^ (64 - s) = 18446744073709551616 ∧ 0 < (2 : Int) ^ s ∧ 0 < (2 : Int) ^ (64 - s) := by
  refine ⟨?_, Int.pow_pos (by decide), Int.pow_pos (by decide)⟩
  rw [← Int.pow_add, show s + (64 - s) = 64 by omega]; decide
theorem lifted_le {hi x y : Int} {s : Nat} (hs : s ≤ 63) (p0 : 1 ≤ hi) (p1 : hi < y) (h0 : 0 ≤ x) (h1 : x ≤ 18446744073709551615) (hy : y * 2 ^ s ≤ 18446744073709551615) :
    0 ≤ hi * 2 ^ s + x / 2 ^ (64 - s) ∧ hi * 2 ^ s + x / 2 ^ (64 - s) < y * 2 ^ s ∧ IntKind.u64.wrap (hi * 2 ^ s) = hi * 2 ^ s ∧
    bits .or .u64 (hi * 2 ^ s) (x / 2 ^ (64 - s)) = hi * 2 ^ s + x / 2 ^ (64 - s) ∧
    (hi * 18446744073709551616 + x) * 2 ^ s = ((hi * 2 ^ s + x / 2 ^ (64 - s)) * 4294967296 + x * 2 ^ s % 18446744073709551616 / 4294967296) * 4294967296 + x * 2 ^ s % 18446744073709551616 % 4294967296 := by
  obtain ⟨a, b, c⟩ := pows s hs
  have x0 : 0 ≤ x / 2 ^ (64 - s) := Int.ediv_nonneg h0 (by omega)
  have x1 : x / 2 ^ (64 - s) < 2 ^ s := Int.ediv_lt_of_lt_mul c (by omega)
  have k0 : 0 ≤ hi * 2 ^ s := Int.mul_nonneg (by omega) (by omega)
  have k1 := Int.mul_le_mul_of_nonneg_right (show hi + 1 ≤ y by omega) (show (0 : Int) ≤ 2 ^ s by omega)
  rw [Int.add_mul, Int.one_mul] at k1
  have ex := Int.mul_ediv_add_emod x (2 ^ (64 - s))
  have m0 := Int.emod_nonneg x (show (2 : Int) ^ (64 - s) ≠ 0 by omega)
  have m1 := Int.emod_lt_of_pos x c
  have l : x * 2 ^ s = x / 2 ^ (64 - s) * 18446744073709551616 + x % 2 ^ (64 - s) * 2 ^ s := by
    conv => lhs; rw [← ex, Int.add_mul, Int.mul_comm (2 ^ (64 - s)) (x / 2 ^ (64 - s)), Int.mul_assoc, Int.mul_comm (2 ^ (64 - s)) (2 ^ s), a]
  have l0 : 0 ≤ x % 2 ^ (64 - s) * 2 ^ s := Int.mul_nonneg m0 (by omega)
  have l1 : x % 2 ^ (64 - s) * 2 ^ s < 18446744073709551616 := by
    have := Int.mul_lt_mul_of_pos_right m1 b
    rw [Int.mul_comm (2 ^ (64 - s)), a] at this
    exact this
  have hor : bits .or .u64 (hi * 2 ^ s) (x / 2 ^ (64 - s)) = hi * 2 ^ s + x / 2 ^ (64 - s) := by
    rw [u64_or (hi * 2 ^ s) (x / 2 ^ (64 - s)) k0 (by omega) x0 (by omega)]
    have e1 : (hi * 2 ^ s).toNat = 2 ^ s * hi.toNat := by
      have : hi * 2 ^ s = ((2 ^ s * hi.toNat : Nat) : Int) := by rw [Int.natCast_mul, Int.natCast_pow, Int.toNat_of_nonneg (by omega), Int.mul_comm]; rfl
      omega
    have e2 : ((2 ^ s : Nat) : Int) = 2 ^ s := by rw [Int.natCast_pow]; rfl
    have e3 : (x / 2 ^ (64 - s)).toNat < 2 ^ s := by omega
    rw [e1, ← Nat.two_pow_add_eq_or_of_lt e3 hi.toNat]
    rw [Int.natCast_add, ← e1, Int.toNat_of_nonneg k0, Int.toNat_of_nonneg x0]
  have n : (hi * 18446744073709551616 + x) * 2 ^ s = hi * 2 ^ s * 18446744073709551616 + x * 2 ^ s := by rw [Int.add_mul, Int.mul_right_comm]
  rw [n]
  generalize x * 2 ^ s = xs at *
  generalize hi * 2 ^ s = hs' at *
  generalize y * 2 ^ s = ys at *
  generalize x / 2 ^ (64 - s) = xt at *
  generalize x % 2 ^ (64 - s) * 2 ^ s = xr at *
  generalize (2 : Int) ^ s = pp at *
  refine ⟨by omega, by omega, IntWalk.u64_in _ (by omega), hor, by omega⟩
theorem wrapped {a b c : Int} (h0 : 0 ≤ a * 4294967296 + b - c) (h1 : a * 4294967296 + b - c ≤ 18446744073709551615) :
    IntKind.u64.wrap (IntKind.u64.wrap (IntKind.u64.wrap (a * 4294967296) + b) - IntKind.u64.wrap c) = a * 4294967296 + b - c := by
  simp only [IntKind.wrap_u64]; omega
end Dv

set_option maxHeartbeats 2000000 in
set_option maxRecDepth 100000 in
theorem div64_high (hi x y : Int) (w : World) (h0 : 0 ≤ x) (h1 : x ≤ 18446744073709551615) (p0 : 1 ≤ hi) (p1 : hi < y) (g1 : y ≤ 18446744073709551615) :
    Calls Try.prog 117 #[.int .u64 hi, .int .u64 x, .int .u64 y] w fun e w' => e = .returned (.tuple #[.int .u64 ((hi * 18446744073709551616 + x) / y), .int .u64 ((hi * 18446744073709551616 + x) % y)]) ∧ Below w.heap.size w w' := by
  obtain ⟨s1, s2, s3, _⟩ := Dv.up_le y (by omega) g1
  have e0 : (y == 0) = false := beq_eq_false_iff_ne.2 (by omega)
  have e1 : (hi == 0) = false := beq_eq_false_iff_ne.2 (by omega)
  generalize hs : Dv.up y = s at *
  have HS := Lib.hid hs
  clear hs
  go_enter Try.func117, Try.ntmps117
  go_wp2_with (go_at_call 119; refine (lz64_any y _ (by omega) g1).mono ?_; rintro e w' ⟨rfl, rfl⟩; rw [HS.out])
  obtain ⟨u0, u1, l1, l2, l3⟩ := Dv.lifted_le (x := x) s1 p0 p1 h0 h1 s3
  have mv := @Dv.moved (hi * 18446744073709551616 + x) y (2 ^ s) (Dv.pows s s1).2.1
  rw [l3] at mv
  have MV := Lib.hid mv
  rw [l1, l2, and_low32 (y * 2 ^ s) (by omega) (by omega)]
  simp only [IntKind.wrap_u64 (x * 2 ^ s), Dv.low32]
  clear mv l1 l2 l3 e0 e1
  generalize hz : x * 2 ^ s % 18446744073709551616 = z at *
  generalize hu : hi * 2 ^ s + x / 2 ^ (64 - s) = u at *
  generalize hv : y * 2 ^ s = v at *
  have y1 : 0 < v := by omega
  have z0 : 0 ≤ z ∧ z ≤ 18446744073709551615 := by omega
  clear hz hu hv
  have v1 : v = v / 4294967296 * 4294967296 + v % 4294967296 := by omega
  have v2 : 2147483648 ≤ v / 4294967296 ∧ v / 4294967296 ≤ 4294967295 := by omega
  have v3 : 0 ≤ v % 4294967296 ∧ v % 4294967296 ≤ 4294967295 := by omega
  have w2 : 0 ≤ z / 4294967296 ∧ z / 4294967296 ≤ 4294967295 := by omega
  have w3 : 0 ≤ z % 4294967296 ∧ z % 4294967296 ≤ 4294967295 := by omega
  generalize v / 4294967296 = va at *
  generalize v % 4294967296 = vb at *
  generalize z / 4294967296 = wa at *
  generalize z % 4294967296 = wb at *
  clear z0
  obtain ⟨f1, f2, f3, f4, f5⟩ := Dv.first v1 v2.1 v2.2 v3.1 v3.2 u0 u1 w2.1 w2.2
  have f6 : 0 ≤ u / va * va := Int.mul_nonneg f1 (by omega)
  rw [show u.tdiv va = u / va from Int.tdiv_eq_ediv_of_nonneg u0, IntWalk.u64_in (u / va) (by omega), IntWalk.u64_in (u / va * va) (by omega), IntWalk.u64_in (u - u / va * va) (by omega)]
  obtain ⟨r1, r2, r3, r4, r5⟩ := Dv.rest (show 0 < v by omega) u0 u1 w2.1 w2.2
  have both := @Dv.both u v wa wb y1
  have hinv : u / va * va + (u - u / va * va) = u := by omega
  have HV := Lib.hid v1
  have HI := Lib.hid hinv
  generalize hQ : (u * 4294967296 + wa) / v = Q at *
  generalize hR : (u * 4294967296 + wa) % v = R at *
  have R3 := Lib.hid r3
  have W1 := Lib.hid (show IntKind.u64.wrap (IntKind.u64.wrap (IntKind.u64.wrap (u * 4294967296) + wa) - IntKind.u64.wrap (Q * v)) = R by rw [Dv.wrapped (by omega) (by omega), r3])
  obtain ⟨q1, q2, q3, q4, q5⟩ := Dv.rest y1 r4 r5 w3.1 w3.2
  have e1 := MV.out.1
  have e2 := MV.out.2
  rw [← both.1] at e1
  rw [← both.2] at e2
  generalize hQ2 : (R * 4294967296 + wb) / v = Q2 at *
  have W2 := Lib.hid (show IntKind.u64.wrap (IntKind.u64.wrap (IntKind.u64.wrap (R * 4294967296) + wb) - IntKind.u64.wrap (Q2 * v)) = (R * 4294967296 + wb) % v by rw [Dv.wrapped (by omega) (by omega), q3])
  have H2 := Lib.hid hQ2
  have E1 := Lib.hid e1
  have E2 := Lib.hid e2
  clear hQ2 q3 q4 q5 e1 e2
  have HQ := Lib.hid hQ
  clear v1 hinv r3 hQ hR both
  go_loop [15, 16] (fun t r => ∃ q rh : Int, Hid (q * va + rh = u) ∧ 0 ≤ rh ∧ rh ≤ 4294967295 ∧ 0 ≤ q ∧ q ≤ 4294967297 ∧ Q ≤ q ∧ t = .int .u64 q ∧ r = .int .u64 rh) (fun _ r => (4294967296 - intOf r).toNat)
  case atStart => exact ⟨_, _, HI, f3, f4, f1, f2, f5, rfl, rfl⟩
  case round =>
    obtain ⟨q, rh, inv, i1, i2, i3, i4, i5, rfl, rfl⟩ := hrel
    clear HI f1 f2 f3 f4 f5
    have sm := Dv.small i3 i4 v3.1 v3.2
    by_cases hg : 4294967296 ≤ q ∨ (q < 4294967296 ∧ 4294967296 * rh + wa < q * vb)
    · have lo := Dv.great HV.out y1 u1 w2.2 inv (by omega)
      rw [HQ.out] at lo
      have LW := Lib.hid (Dv.lower inv)
      clear inv
      by_cases hb : 4294967296 ≤ rh + va
      · have eq := Dv.broke HV.out v3.1 v3.2 y1 w2.1 LW.out (by omega) hb (by rw [HQ.out]; omega)
        rw [HQ.out] at eq
        obtain rfl : q = Q + 1 := by omega
        clear eq
        rcases hg with hg | ⟨hg', hg⟩
        all_goals
          go_wp2
          rw [W1.out]
          obtain ⟨f1, f2, f3, f4, f5⟩ := Dv.first HV.out v2.1 v2.2 v3.1 v3.2 r4 r5 w3.1 w3.2
          have f6 : 0 ≤ R / va * va := Int.mul_nonneg f1 (by omega)
          rw [show R.tdiv va = R / va from Int.tdiv_eq_ediv_of_nonneg r4, IntWalk.u64_in (R / va) (by omega), IntWalk.u64_in (R / va * va) (by omega), IntWalk.u64_in (R - R / va * va) (by omega)]
          have HI := Lib.hid (show R / va * va + (R - R / va * va) = R by omega)
          clear f6
          go_loop [18, 16] (fun t r => ∃ q rh : Int, Hid (q * va + rh = R) ∧ 0 ≤ rh ∧ rh ≤ 4294967295 ∧ 0 ≤ q ∧ q ≤ 4294967297 ∧ Q2 ≤ q ∧ t = .int .u64 q ∧ r = .int .u64 rh) (fun _ r => (4294967296 - intOf r).toNat)
          case atStart => exact ⟨_, _, HI, f3, f4, f1, f2, by rw [← H2.out]; exact f5, rfl, rfl⟩
          case round =>
            obtain ⟨q, rh, inv, i1, i2, i3, i4, i5, rfl, rfl⟩ := hrel
            clear HI f1 f2 f3 f4 f5
            have sm := Dv.small i3 i4 v3.1 v3.2
            by_cases hg : 4294967296 ≤ q ∨ (q < 4294967296 ∧ 4294967296 * rh + wb < q * vb)
            · have lo := Dv.great HV.out y1 r5 w3.2 inv (by omega)
              rw [H2.out] at lo
              have LW := Lib.hid (Dv.lower inv)
              clear inv
              by_cases hb : 4294967296 ≤ rh + va
              · have eq := Dv.broke HV.out v3.1 v3.2 y1 w3.1 LW.out (by omega) hb (by rw [H2.out]; omega)
                rw [H2.out] at eq
                obtain rfl : q = Q2 + 1 := by omega
                clear eq
                rcases hg with hg | ⟨hg', hg⟩
                all_goals
                  go_wp2
                  rw [W2.out]
                  go_ret2
                  exact ⟨ret_two E1.out E2.out, by go_grown⟩
              · rcases hg with hg | ⟨hg', hg⟩
                all_goals
                  go_wp2
                  go_round
                  case rel => exact ⟨q - 1, rh + va, LW, by omega, by omega, by omega, by omega, by omega, rfl, rfl⟩
                  case measure => simp [intOf]; omega
            · have eq := Dv.right HV.out y1 inv (show q * vb ≤ 4294967296 * rh + wb by omega) (by rw [H2.out]; exact i5)
              rw [H2.out] at eq
              obtain rfl : q = Q2 := eq
              have g1 : q < 4294967296 := by omega
              have g2 : q * vb ≤ 4294967296 * rh + wb := by omega
              clear hg inv
              go_wp2
              rw [W2.out]
              go_ret2
              exact ⟨ret_two E1.out E2.out, by go_grown⟩
      · rcases hg with hg | ⟨hg', hg⟩
        all_goals
          go_wp2
          go_round
          case rel => exact ⟨q - 1, rh + va, LW, by omega, by omega, by omega, by omega, by omega, rfl, rfl⟩
          case measure => simp [intOf]; omega
    · have eq := Dv.right HV.out y1 inv (show q * vb ≤ 4294967296 * rh + wa by omega) (by rw [HQ.out]; exact i5)
      rw [HQ.out] at eq
      obtain rfl : q = Q := eq
      have g1 : q < 4294967296 := by omega
      have g2 : q * vb ≤ 4294967296 * rh + wa := by omega
      clear hg inv
      go_wp2
      rw [W1.out]
      obtain ⟨f1, f2, f3, f4, f5⟩ := Dv.first HV.out v2.1 v2.2 v3.1 v3.2 r4 r5 w3.1 w3.2
      have f6 : 0 ≤ R / va * va := Int.mul_nonneg f1 (by omega)
      rw [show R.tdiv va = R / va from Int.tdiv_eq_ediv_of_nonneg r4, IntWalk.u64_in (R / va) (by omega), IntWalk.u64_in (R / va * va) (by omega), IntWalk.u64_in (R - R / va * va) (by omega)]
      have HI := Lib.hid (show R / va * va + (R - R / va * va) = R by omega)
      clear f6
      go_loop [18, 16] (fun t r => ∃ q rh : Int, Hid (q * va + rh = R) ∧ 0 ≤ rh ∧ rh ≤ 4294967295 ∧ 0 ≤ q ∧ q ≤ 4294967297 ∧ Q2 ≤ q ∧ t = .int .u64 q ∧ r = .int .u64 rh) (fun _ r => (4294967296 - intOf r).toNat)
      case atStart => exact ⟨_, _, HI, f3, f4, f1, f2, by rw [← H2.out]; exact f5, rfl, rfl⟩
      case round =>
        obtain ⟨q, rh, inv, i1, i2, i3, i4, i5, rfl, rfl⟩ := hrel
        clear HI f1 f2 f3 f4 f5
        have sm := Dv.small i3 i4 v3.1 v3.2
        by_cases hg : 4294967296 ≤ q ∨ (q < 4294967296 ∧ 4294967296 * rh + wb < q * vb)
        · have lo := Dv.great HV.out y1 r5 w3.2 inv (by omega)
          rw [H2.out] at lo
          have LW := Lib.hid (Dv.lower inv)
          clear inv
          by_cases hb : 4294967296 ≤ rh + va
          · have eq := Dv.broke HV.out v3.1 v3.2 y1 w3.1 LW.out (by omega) hb (by rw [H2.out]; omega)
            rw [H2.out] at eq
            obtain rfl : q = Q2 + 1 := by omega
            clear eq
            rcases hg with hg | ⟨hg', hg⟩
            all_goals
              go_wp2
              rw [W2.out]
              go_ret2
              exact ⟨ret_two E1.out E2.out, by go_grown⟩
          · rcases hg with hg | ⟨hg', hg⟩
            all_goals
              go_wp2
              go_round
              case rel => exact ⟨q - 1, rh + va, LW, by omega, by omega, by omega, by omega, by omega, rfl, rfl⟩
              case measure => simp [intOf]; omega
        · have eq := Dv.right HV.out y1 inv (show q * vb ≤ 4294967296 * rh + wb by omega) (by rw [H2.out]; exact i5)
          rw [H2.out] at eq
          obtain rfl : q = Q2 := eq
          have g1 : q < 4294967296 := by omega
          have g2 : q * vb ≤ 4294967296 * rh + wb := by omega
          clear hg inv
          go_wp2
          rw [W2.out]
          go_ret2
          exact ⟨ret_two E1.out E2.out, by go_grown⟩

theorem div64_any (hi x y : Int) (w : World) (h0 : 0 ≤ x) (h1 : x ≤ 18446744073709551615) (p0 : 0 ≤ hi) (p1 : hi < y) (g1 : y ≤ 18446744073709551615) :
    Calls Try.prog 117 #[.int .u64 hi, .int .u64 x, .int .u64 y] w fun e w' => e = .returned (.tuple #[.int .u64 ((hi * 18446744073709551616 + x) / y), .int .u64 ((hi * 18446744073709551616 + x) % y)]) ∧ Below w.heap.size w w' := by
  by_cases h : hi = 0
  · subst h
    rw [Int.zero_mul, Int.zero_add]
    exact div64_low x y w h0 h1 (by omega) g1
  · exact div64_high hi x y w h0 h1 (by omega) p1 g1
end Go.Proofs.Ytnbfkdcpghkglaa
/-
  Contracts of package purse but for its list: what may be, sums, differences, parts, shares. No conditions but the numbers' own ranges.
-/
namespace Go.Proofs.Ytnbfkdcpghkglaa
open Go.ChangeShapes Go.WideShapes Go.ChangeAt Go.RowKit

namespace Dv
theorem part_bd {a p w : Int} (h0 : 0 ≤ a) (h1 : 0 ≤ p) (h2 : p ≤ w) (h3 : 1 ≤ w) : 0 ≤ a * p / w ∧ a * p / w ≤ a := by
  have e := Int.mul_nonneg h0 h1
  have f := Int.mul_le_mul_of_nonneg_left h2 h0
  refine ⟨Int.ediv_nonneg e (by omega), ?_⟩
  have : a * p / w < a + 1 := by
    apply Int.ediv_lt_of_lt_mul (by omega)
    rw [Int.add_mul, Int.one_mul]; omega
  omega
theorem words {a p w : Int} (h0 : 0 ≤ a) (h4 : a ≤ 1125899906842624) (h1 : 0 ≤ p) (h2 : p ≤ w) (h3 : 1 ≤ w) :
    0 ≤ a * p / 18446744073709551616 ∧ a * p / 18446744073709551616 < w ∧ 0 ≤ a * p % 18446744073709551616 ∧ a * p % 18446744073709551616 ≤ 18446744073709551615 ∧
    (a * p / 18446744073709551616 * 18446744073709551616 + a * p % 18446744073709551616) / w = a * p / w := by
  have e := Int.mul_nonneg h0 h1
  have f := Int.mul_le_mul_of_nonneg_left h2 h0
  have g := Int.mul_le_mul_of_nonneg_right h4 (show 0 ≤ w by omega)
  generalize a * p = x at *
  generalize a * w = y at *
  refine ⟨by omega, by omega, by omega, by omega, by rw [show x / 18446744073709551616 * 18446744073709551616 + x % 18446744073709551616 = x by omega]⟩
theorem left_01 {a p w : Int} (h3 : 1 ≤ w) : 0 ≤ a - a * p / w - a * (w - p) / w ∧ a - a * p / w - a * (w - p) / w ≤ 1 := by
  have e := Int.mul_ediv_add_emod (a * p) w
  have f := Int.mul_ediv_add_emod (a * (w - p)) w
  have g : a * (w - p) = a * w - a * p := Int.mul_sub _ _ _
  have m := Int.emod_nonneg (a * p) (show w ≠ 0 by omega)
  have m' := Int.emod_lt_of_pos (a * p) (show 0 < w by omega)
  have n := Int.emod_nonneg (a * (w - p)) (show w ≠ 0 by omega)
  have n' := Int.emod_lt_of_pos (a * (w - p)) (show 0 < w by omega)
  generalize a * p % w = r at *
  generalize a * (w - p) % w = s at *
  generalize hx : a * p / w = x at *
  generalize hy : a * (w - p) / w = y at *
  have k : (a - x - y) * w = r + s := by
    rw [Int.sub_mul, Int.sub_mul, Int.mul_comm x w, Int.mul_comm y w]; omega
  constructor
  · apply Int.le_of_not_gt; intro c
    have := Int.mul_le_mul_of_nonneg_right (show a - x - y ≤ -1 by omega) (show 0 ≤ w by omega)
    omega
  · apply Int.le_of_not_gt; intro c
    have := Int.mul_le_mul_of_nonneg_right (show 2 ≤ a - x - y by omega) (show 0 ≤ w by omega)
    omega
theorem part_mono {a b p w : Int} (h : a ≤ b) (h1 : 0 ≤ p) (h3 : 1 ≤ w) : a * p / w ≤ b * p / w :=
  Int.ediv_le_ediv (by omega) (Int.mul_le_mul_of_nonneg_right h h1)
theorem all {a w : Int} (h3 : 1 ≤ w) : a * w / w = a := Int.mul_ediv_cancel _ (by omega)
end Dv

set_option maxHeartbeats 400000 in
theorem pright_yes (n : Int) (w : World) (h : -1125899906842624 ≤ n ∧ n ≤ 1125899906842624) :
    Calls Try.prog 99 #[.int .i64 n] w fun e w' => e = .returned (.bool true) ∧ w = w' := by
  obtain ⟨h0, h1⟩ := h
  go_enter Try.func99, Try.ntmps99
  go_wp2
  go_ret
  exact ⟨rfl, rfl⟩
set_option maxHeartbeats 400000 in
theorem pright_no (n : Int) (w : World) (h : n < -1125899906842624 ∨ 1125899906842624 < n) :
    Calls Try.prog 99 #[.int .i64 n] w fun e w' => e = .returned (.bool false) ∧ w = w' := by
  rcases h with h | h
  · have t : decide (-1125899906842624 ≤ n) = false := by simp; omega
    go_enter Try.func99, Try.ntmps99
    go_wp2
    go_ret
    exact ⟨rfl, rfl⟩
  · have t : decide (n ≤ 1125899906842624) = false := by simp; omega
    go_enter Try.func99, Try.ntmps99
    go_wp2
    go_ret
    exact ⟨rfl, rfl⟩

set_option maxHeartbeats 400000 in
theorem partable_yes (n : Int) (w : World) (h0 : 0 ≤ n) (h1 : n ≤ 1125899906842624) :
    Calls Try.prog 111 #[.int .i64 n] w fun e w' => e = .returned (.bool true) ∧ w = w' := by
  go_enter Try.func111, Try.ntmps111
  go_wp2_with (go_at_call 99; refine (pright_yes _ _ (by omega)).mono ?_; rintro e w' ⟨rfl, rfl⟩)
  go_ret
  exact ⟨rfl, rfl⟩
set_option maxHeartbeats 400000 in
theorem partable_no (n : Int) (w : World) (h : n < 0 ∨ 1125899906842624 < n) :
    Calls Try.prog 111 #[.int .i64 n] w fun e w' => e = .returned (.bool false) ∧ w = w' := by
  rcases h with h | h
  · have t : decide (0 ≤ n) = false := by simp; omega
    go_enter Try.func111, Try.ntmps111
    go_wp2
    go_ret
    exact ⟨rfl, rfl⟩
  · go_enter Try.func111, Try.ntmps111
    go_wp2_with (go_at_call 99; refine (pright_no _ _ (by omega)).mono ?_; rintro e w' ⟨rfl, rfl⟩)
    go_ret
    exact ⟨rfl, rfl⟩

set_option maxHeartbeats 1000000 in
theorem scaled_any (a p n : Int) (w : World) (h0 : 0 ≤ a) (h1 : a ≤ 1125899906842624) (g0 : 0 ≤ p) (g1 : p ≤ n) (n0 : 1 ≤ n) (n1 : n ≤ 9223372036854775807) :
    Calls Try.prog 112 #[.int .i64 a, .int .i64 p, .int .i64 n] w fun e w' => e = .returned (.int .i64 (a * p / n)) ∧ Below w.heap.size w w' := by
  obtain ⟨b0, b1⟩ := Dv.part_bd h0 g0 g1 n0
  obtain ⟨c0, c1, c2, c3, c4⟩ := Dv.words h0 h1 g0 g1 n0
  have C4 := Lib.hid c4
  clear c4
  go_enter Try.func112, Try.ntmps112
  go_wp2_with (go_at_call 116; refine (mul64_any a p _ h0 (by omega) g0 (by omega)).mono ?_; rintro e w' ⟨rfl, rfl⟩)
  refine (div64_any _ _ _ _ c2 c3 c0 c1 (by omega)).mono ?_
  rintro e w1 ⟨rfl, hb⟩
  rw [C4.out]
  go_wp2
  go_ret
  exact ⟨rfl, hb⟩

theorem part_money (a p n : Int) (w : World) (h : a < 0 ∨ 1125899906842624 < a) :
    Calls Try.prog 105 #[.int .i64 a, .int .i64 p, .int .i64 n] w fun e w' => e = .returned (.tuple #[.int .i64 0, .int .i64 9]) ∧ Below w.heap.size w w' := by
  go_enter Try.func105, Try.ntmps105
  go_wp2_with (go_at_call 111; refine (partable_no _ _ h).mono ?_; rintro e w' ⟨rfl, rfl⟩)
  go_ret2
  exact ⟨rfl, Below.refl _ _⟩
theorem part_arg (a p n : Int) (w : World) (h0 : 0 ≤ a) (h1 : a ≤ 1125899906842624) (h : n < 1 ∨ 1 ≤ n ∧ p < 0 ∨ 1 ≤ n ∧ 0 ≤ p ∧ n < p) :
    Calls Try.prog 105 #[.int .i64 a, .int .i64 p, .int .i64 n] w fun e w' => e = .returned (.tuple #[.int .i64 0, .int .i64 1]) ∧ Below w.heap.size w w' := by
  rcases h with h | ⟨h, g⟩ | ⟨h, g, k⟩
  · have t : decide (n < 1) = true := by simp; omega
    go_enter Try.func105, Try.ntmps105
    go_wp2_with (go_at_call 111; refine (partable_yes _ _ h0 h1).mono ?_; rintro e w' ⟨rfl, rfl⟩)
    go_ret2
    exact ⟨rfl, Below.refl _ _⟩
  · have t : decide (n < 1) = false := by simp; omega
    have t' : decide (p < 0) = true := by simp; omega
    go_enter Try.func105, Try.ntmps105
    go_wp2_with (go_at_call 111; refine (partable_yes _ _ h0 h1).mono ?_; rintro e w' ⟨rfl, rfl⟩)
    go_ret2
    exact ⟨rfl, Below.refl _ _⟩
  · have t : decide (n < 1) = false := by simp; omega
    have t' : decide (p < 0) = false := by simp; omega
    go_enter Try.func105, Try.ntmps105
    go_wp2_with (go_at_call 111; refine (partable_yes _ _ h0 h1).mono ?_; rintro e w' ⟨rfl, rfl⟩)
    go_ret2
    exact ⟨rfl, Below.refl _ _⟩
theorem part_yes (a p n : Int) (w : World) (h0 : 0 ≤ a) (h1 : a ≤ 1125899906842624) (g0 : 0 ≤ p) (g1 : p ≤ n) (n0 : 1 ≤ n) (n1 : n ≤ 9223372036854775807) :
    Calls Try.prog 105 #[.int .i64 a, .int .i64 p, .int .i64 n] w fun e w' => e = .returned (.tuple #[.int .i64 (a * p / n), .int .i64 0]) ∧ Below w.heap.size w w' := by
  have t : decide (n < 1) = false := by simp; omega
  have t' : decide (p < 0) = false := by simp; omega
  have t'' : decide (n < p) = false := by simp; omega
  go_enter Try.func105, Try.ntmps105
  go_wp2_with (go_at_call 111; refine (partable_yes _ _ h0 h1).mono ?_; rintro e w' ⟨rfl, rfl⟩)
  refine (scaled_any _ _ _ _ h0 h1 g0 g1 n0 n1).mono ?_
  rintro e w1 ⟨rfl, hb⟩
  go_wp2
  go_ret2
  exact ⟨rfl, hb⟩

theorem add_yes (a b : Int) (w : World) (ha : -1125899906842624 ≤ a ∧ a ≤ 1125899906842624) (hb : -1125899906842624 ≤ b ∧ b ≤ 1125899906842624) (hs : -1125899906842624 ≤ a + b ∧ a + b ≤ 1125899906842624) :
    Calls Try.prog 84 #[.int .i64 a, .int .i64 b] w fun e w' => e = .returned (.tuple #[.int .i64 (a + b), .int .i64 0]) ∧ w = w' := by
  go_enter Try.func84, Try.ntmps84
  go_wp2_with (go_at_call 99; refine (pright_yes _ _ (by omega)).mono ?_; rintro e w' ⟨rfl, rfl⟩)
  go_ret2
  exact ⟨rfl, rfl⟩
theorem add_no (a b : Int) (w : World) (h : (a < -1125899906842624 ∨ 1125899906842624 < a) ∨ (-1125899906842624 ≤ a ∧ a ≤ 1125899906842624) ∧ (b < -1125899906842624 ∨ 1125899906842624 < b) ∨
      (-1125899906842624 ≤ a ∧ a ≤ 1125899906842624) ∧ (-1125899906842624 ≤ b ∧ b ≤ 1125899906842624) ∧ (a + b < -1125899906842624 ∨ 1125899906842624 < a + b)) :
    Calls Try.prog 84 #[.int .i64 a, .int .i64 b] w fun e w' => e = .returned (.tuple #[.int .i64 0, .int .i64 9]) ∧ w = w' := by
  rcases h with h | ⟨h, g⟩ | ⟨h, g, k⟩
  all_goals
    go_enter Try.func84, Try.ntmps84
    go_wp2_with (go_at_call 99; (first | refine (pright_no _ _ (by omega)).mono ?_ | refine (pright_yes _ _ (by omega)).mono ?_); rintro e w' ⟨rfl, rfl⟩)
    go_ret2
    exact ⟨rfl, rfl⟩
theorem less_yes (a b : Int) (w : World) (ha : -1125899906842624 ≤ a ∧ a ≤ 1125899906842624) (hb : -1125899906842624 ≤ b ∧ b ≤ 1125899906842624) (hs : -1125899906842624 ≤ a - b ∧ a - b ≤ 1125899906842624) :
    Calls Try.prog 75 #[.int .i64 a, .int .i64 b] w fun e w' => e = .returned (.tuple #[.int .i64 (a - b), .int .i64 0]) ∧ w = w' := by
  go_enter Try.func75, Try.ntmps75
  go_wp2_with (go_at_call 99; refine (pright_yes _ _ (by omega)).mono ?_; rintro e w' ⟨rfl, rfl⟩)
  go_ret2
  exact ⟨rfl, rfl⟩
theorem less_no (a b : Int) (w : World) (h : (a < -1125899906842624 ∨ 1125899906842624 < a) ∨ (-1125899906842624 ≤ a ∧ a ≤ 1125899906842624) ∧ (b < -1125899906842624 ∨ 1125899906842624 < b) ∨
      (-1125899906842624 ≤ a ∧ a ≤ 1125899906842624) ∧ (-1125899906842624 ≤ b ∧ b ≤ 1125899906842624) ∧ (a - b < -1125899906842624 ∨ 1125899906842624 < a - b)) :
    Calls Try.prog 75 #[.int .i64 a, .int .i64 b] w fun e w' => e = .returned (.tuple #[.int .i64 0, .int .i64 9]) ∧ w = w' := by
  rcases h with h | ⟨h, g⟩ | ⟨h, g, k⟩
  all_goals
    go_enter Try.func75, Try.ntmps75
    go_wp2_with (go_at_call 99; (first | refine (pright_no _ _ (by omega)).mono ?_ | refine (pright_yes _ _ (by omega)).mono ?_); rintro e w' ⟨rfl, rfl⟩)
    go_ret2
    exact ⟨rfl, rfl⟩
end Go.Proofs.Ytnbfkdcpghkglaa
