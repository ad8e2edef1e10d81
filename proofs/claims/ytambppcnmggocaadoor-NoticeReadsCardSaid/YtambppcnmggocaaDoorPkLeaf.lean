/-
  Contracts of the functions on a number's word: the doubled word, the way back, which byte may stand. No conditions but the numbers' own ranges.
-/
import Derived.Test.YtambppcnmggocaaDoorRows
import Derived.Test.YtambppcnmggocaaDoorPk
import Derived.Test.YtambppcnmggocaaDoorOver
import Derived.Laws.BitsAllLaws
import Derived.Laws.ShiftsVarLaws
import Derived.Outline
namespace Go.Proofs.YtambppcnmggocaaDoor
open Go.ChangeShapes Go.WideShapes Go.ChangeAt Go.RowKit

namespace Pk
theorem ones64 : BitVec.ofInt 64 (-1) = BitVec.allOnes 64 := by decide +kernel
theorem ones64u : BitVec.ofInt 64 18446744073709551615 = BitVec.allOnes 64 := by decide +kernel
theorem ofInt_nat {x : Int} (h0 : 0 ≤ x) (h1 : x < 18446744073709551616) : ((BitVec.ofInt 64 x).toNat : Int) = x := by
  obtain ⟨m, rfl⟩ := Int.eq_ofNat_of_zero_le h0
  rw [BitVec.ofInt_natCast, BitVec.toNat_ofNat, Nat.mod_eq_of_lt (by omega)]
theorem xor_ones_u {x : Int} (h0 : 0 ≤ x) (h1 : x < 18446744073709551616) : bits .xor .u64 x 18446744073709551615 = 18446744073709551615 - x := by
  show IntKind.u64.wrap ((BitVec.ofInt 64 x ^^^ BitVec.ofInt 64 18446744073709551615).toNat : Int) = _
  rw [ones64u, BitVec.xor_allOnes, BitVec.toNat_not, IntKind.wrap_u64]
  have := ofInt_nat h0 h1
  omega
theorem xor_ones_i {x : Int} (h0 : 0 ≤ x) (h1 : x < 9223372036854775808) : bits .xor .i64 x (-1) = -x - 1 := by
  show IntKind.i64.wrap ((BitVec.ofInt 64 x ^^^ BitVec.ofInt 64 (-1)).toNat : Int) = _
  rw [ones64, BitVec.xor_allOnes, BitVec.toNat_not, IntKind.wrap_i64]
  have := ofInt_nat h0 (by omega)
  omega
theorem xor_none_u {x : Int} (h0 : 0 ≤ x) (h1 : x < 18446744073709551616) : bits .xor .u64 x 0 = x := by
  rw [u64_xor x 0 h0 h1 (by omega) (by omega)]; simp; omega
theorem xor_none_i {x : Int} (h0 : 0 ≤ x) (h1 : x < 9223372036854775808) : bits .xor .i64 x 0 = x := by
  show IntKind.i64.wrap ((BitVec.ofInt 64 x ^^^ BitVec.ofInt 64 0).toNat : Int) = _
  have e : BitVec.ofInt 64 0 = 0#64 := by decide +kernel
  rw [e, BitVec.xor_zero, IntKind.wrap_i64]
  have := ofInt_nat h0 (by omega)
  omega
theorem zig_bits {n : Int} (h0 : 0 ≤ n) (h1 : n ≤ 9223372036854775807) : bits .xor .u64 (n * 2) (n / 9223372036854775808) = zig n := by
  rw [show n / 9223372036854775808 = 0 by omega, xor_none_u (by omega) (by omega), zig_even h0]; omega
theorem zig_bits' {n : Int} (h0 : n < 0) (h1 : -9223372036854775808 ≤ n) : bits .xor .u64 (IntKind.u64.wrap (IntKind.u64.wrap n * 2)) (IntKind.u64.wrap (n / 9223372036854775808)) = zig n := by
  simp only [IntKind.wrap_u64]
  rw [show n / 9223372036854775808 % 18446744073709551616 = 18446744073709551615 by omega, xor_ones_u (by omega) (by omega), zig_odd h0]
  omega
theorem and_one (u : Nat) (h : u < 18446744073709551616) : bits .and .u64 (u : Int) 1 = ((u % 2 : Nat) : Int) := by
  have := u64_and (u : Int) 1 (by omega) (by omega) (by omega) (by omega)
  rw [this]
  simp [Nat.and_one_is_mod]
theorem zag_bits (u : Nat) (h : u < 18446744073709551616) : bits .xor .i64 ((u : Int) / 2) (wrap64 (-wrap64 (bits .and .u64 (u : Int) 1))) = zag u := by
  rw [and_one u h]
  unfold zag
  by_cases e : u % 2 = 1
  · rw [if_pos e, e, show wrap64 (-wrap64 ((1 : Nat) : Int)) = -1 by decide +kernel, xor_ones_i (by omega) (by omega)]; omega
  · rw [if_neg e, show u % 2 = 0 by omega, show wrap64 (-wrap64 ((0 : Nat) : Int)) = 0 by decide +kernel, xor_none_i (by omega) (by omega)]; omega
end Pk

set_option maxHeartbeats 400000 in
theorem unsigned_any (n : Int) (w : World) (h0 : -9223372036854775808 ≤ n) (h1 : n ≤ 9223372036854775807) :
    Calls Tryd.prog 42 #[.int .i64 n] w fun e w' => e = .returned (.int .u64 (Pk.zig n)) ∧ w = w' := by
  by_cases h : 0 ≤ n
  · go_enter Tryd.func42, Tryd.ntmps42
    go_wp2
    go_ret
    exact ⟨ret_int (Pk.zig_bits h h1), rfl⟩
  · go_enter Tryd.func42, Tryd.ntmps42
    go_wp2
    go_ret
    exact ⟨ret_int (Pk.zig_bits' (by omega) h0), rfl⟩
set_option maxHeartbeats 400000 in
theorem signed_any (u : Nat) (w : World) (h1 : u < 18446744073709551616) :
    Calls Tryd.prog 44 #[.int .u64 u] w fun e w' => e = .returned (.int .i64 (Pk.zag u)) ∧ w = w' := by
  go_enter Tryd.func44, Tryd.ntmps44
  go_wp2
  go_ret
  exact ⟨ret_int (Pk.zag_bits u h1), rfl⟩
set_option maxHeartbeats 400000 in
theorem mayStand_any (c : Int) (i : Nat) (w : World) (h0 : 0 ≤ c) (h1 : c < 256) (i1 : i ≤ 10) :
    Calls Tryd.prog 43 #[.int .u8 c, .int .i64 i] w fun e w' => e = .returned (.bool (!Pk.bad i c)) ∧ w = w' := by
  have fin : ∀ {a b : Bool}, (a = true ↔ b = false) → Ending.returned (.bool a) = .returned (.bool (!b)) := fun h => ret_bool (by cases ‹Bool› <;> cases ‹Bool› <;> simp_all)
  by_cases hi : i = 0
  · subst hi
    go_enter Tryd.func43, Tryd.ntmps43
    go_wp2
    go_ret
    refine ⟨fin ?_, rfl⟩
    unfold Pk.bad; simp
  · have t : decide ((0 : Int) < (i : Int)) = true := by simp; omega
    have t' : decide (0 < i) = true := by simp; omega
    by_cases hc : c = 0
    · subst hc
      go_enter Tryd.func43, Tryd.ntmps43
      go_wp2
      go_ret
      refine ⟨fin ?_, rfl⟩
      unfold Pk.bad; simp; omega
    · have z : (c == 0) = false := beq_eq_false_iff_ne.2 hc
      by_cases h10 : i = 10
      · subst h10
        go_enter Tryd.func43, Tryd.ntmps43
        go_wp2
        go_ret
        refine ⟨fin ?_, rfl⟩
        unfold Pk.bad; simp; omega
      · have z' : ((i : Int) == 10) = false := beq_eq_false_iff_ne.2 (by omega)
        go_enter Tryd.func43, Tryd.ntmps43
        go_wp2
        go_ret
        refine ⟨fin ?_, rfl⟩
        unfold Pk.bad; simp; omega
end Go.Proofs.YtambppcnmggocaaDoor
