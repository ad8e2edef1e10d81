/-
  Contracts of the two functions that tell the number with which bytes begin: the program's and the document's. No conditions but that the bytes are bytes.
-/
import Derived.Test.YtambppcnmggocaaDoorPkLeaf
import Derived.Test.YtambppcnmggocaaDoorPkMem
namespace Go.Proofs.YtambppcnmggocaaDoor
open Go.ChangeShapes Go.WideShapes Go.ChangeAt Go.RowKit

namespace Pk
theorem pow_six (k : Nat) : (2 : Nat) ^ (k * 6) = 64 ^ k := by rw [Nat.mul_comm, Nat.pow_mul]
theorem or_take {k u : Nat} {x : Int} (hk : k ≤ 10) (c0 : 0 ≤ x) (hb : bad k x = false) (hu : u < 64 ^ k) : bits .or .u64 (u : Int) (IntKind.u64.wrap (x % 64 * 2 ^ (k * 6))) = (take1 k u x : Int) := by
  have hf := take1_fits hk c0 hb hu
  have hp := pow_le10 hk
  have e : x % 64 * 2 ^ (k * 6) = (((x % 64).toNat * 64 ^ k : Nat) : Int) := by
    rw [← pow_six, Int.natCast_mul, Int.natCast_pow, Int.toNat_of_nonneg (by omega)]; rfl
  rw [e, IntKind.wrap_u64, Int.emod_eq_of_lt (by omega) (by unfold take1 at hf; omega), u64_or_nat _ _ (by omega) (by unfold take1 at hf; omega)]
  unfold take1
  rw [← pow_six] at hu ⊢
  rw [Nat.or_comm, Nat.mul_comm, ← Nat.two_pow_add_eq_or_of_lt hu, Nat.add_comm]
end Pk

/-- What dec tells, as three results. -/
def decV (l : List Int) : Value := .tuple #[.int .i64 (Pk.dec 0 0 l).1, .int .i64 ((Pk.dec 0 0 l).2.1 : Nat), .int .i64 (Pk.dec 0 0 l).2.2]
theorem decV_eq {l : List Int} {n e : Int} {k : Nat} (h : Pk.dec 0 0 l = (n, k, e)) : decV l = .tuple #[.int .i64 n, .int .i64 (k : Int), .int .i64 e] := by unfold decV; rw [h]

set_option maxHeartbeats 1000000 in
theorem first_any (A : Option Addr) (B c : Nat) (l : List Int) (w : World) (hr : Rd w .u8 B A l) (hb : ∀ x ∈ l, 0 ≤ x ∧ x < 256) :
    Calls Tryd.prog 41 #[.slice A l.length c] w fun e w' => e = .returned (decV l) ∧ w = w' := by
  have HR := Lib.hid hr
  have HB := Lib.hid hb
  clear hr hb
  go_enter Tryd.func41, Tryd.ntmps41
  go_wp2
  go_loop [5, 10] (fun t i => ∃ (k u : Nat), k ≤ l.length ∧ k ≤ 10 ∧ u < 64 ^ k ∧ t = .int .u64 u ∧ i = .int .i64 k ∧ Hid (Pk.dec k u (l.drop k) = Pk.dec 0 0 l)) (fun _ i => l.length - (intOf i).toNat)
  case atStart => exact ⟨0, 0, by omega, by omega, by simp, rfl, rfl, rfl⟩
  case round =>
    obtain ⟨k, u, hk, hk10, hu, rfl, rfl, HD⟩ := hrel
    by_cases hlt : k < l.length
    · obtain ⟨a, rfl, _, hc⟩ := HR.out.at_ hlt
      obtain ⟨c0, c1⟩ := HB.out _ (List.getElem_mem hlt)
      have HL := Lib.hid (List.drop_eq_getElem_cons hlt)
      generalize l[k] = x at *
      cases hbad : Pk.bad k x
      · by_cases g : x < 64
        · go_wp2_with (go_at_call 43; refine (mayStand_any _ _ _ (by omega) (by omega) (by omega)).mono ?_; rintro e w' ⟨rfl, rfl⟩)
          rw [Pk.or_take hk10 c0 hbad hu]
          refine (signed_any _ _ (Pk.take1_fits hk10 c0 hbad hu)).mono ?_
          rintro e w' ⟨rfl, rfl⟩
          have HF := Lib.hid (HD.out.symm.trans ((congrArg (Pk.dec k u) HL.out).trans (Pk.dec_last _ hbad g)))
          go_wp2
          go_ret3
          exact ⟨by rw [decV_eq HF.out]; rfl, rfl⟩
        · have HF := Lib.hid (((congrArg (Pk.dec k u) HL.out).trans (Pk.dec_next _ hbad g)).symm.trans HD.out)
          have hn := Pk.take1_lt (c := x) hu
          have h10 : k + 1 ≤ 10 := by have := Pk.of_good hbad; omega
          go_wp2_with (go_at_call 43; refine (mayStand_any _ _ _ (by omega) (by omega) (by omega)).mono ?_; rintro e w' ⟨rfl, rfl⟩)
          rw [Pk.or_take hk10 c0 hbad hu]
          go_round
          case rel => exact ⟨k + 1, _, by omega, h10, hn, rfl, by go_num, HF⟩
          case measure => simp [intOf]; omega
      · have HF := Lib.hid (HD.out.symm.trans ((congrArg (Pk.dec k u) HL.out).trans (Pk.dec_bad _ hbad)))
        go_wp2_with (go_at_call 43; refine (mayStand_any _ _ _ (by omega) (by omega) (by omega)).mono ?_; rintro e w' ⟨rfl, rfl⟩)
        go_ret3
        exact ⟨by rw [decV_eq HF.out]; rfl, rfl⟩
    · obtain rfl : k = l.length := by omega
      have HF : Hid (Pk.dec 0 0 l = (0, 0, 5)) := by rw [← HD.out, List.drop_length]; rfl
      go_wp2
      go_ret3
      exact ⟨by rw [decV_eq HF.out]; rfl, rfl⟩

theorem decV_ret {l : List Int} {n e a b c : Int} {k : Nat} (h : Pk.dec 0 0 l = (n, k, e)) (h1 : a = n) (h2 : b = k) (h3 : c = e) :
    Ending.returned (.tuple #[.int .i64 a, .int .i64 b, .int .i64 c]) = .returned (decV l) := by rw [decV_eq h, h1, h2, h3]
namespace Pk
theorem zag_odd {u : Nat} (h : u % 2 = 1) : zag u = -((u : Int) / 2) - 1 := by unfold zag; rw [if_pos h]; omega
theorem zag_even {u : Nat} (h : ¬ u % 2 = 1) : zag u = (u : Int) / 2 := by unfold zag; rw [if_neg h]; omega
theorem take1_mul (k u : Nat) (x : Int) : (u : Int) + x % 64 * (64 ^ k : Nat) = (take1 k u x : Nat) := by
  unfold take1
  rw [Int.natCast_add, Int.natCast_mul, Int.toNat_of_nonneg (by omega)]
theorem pow_next (k : Nat) : ((64 ^ k : Nat) : Int) * 64 = (64 ^ (k + 1) : Nat) := by rw [Nat.pow_succ, Int.natCast_mul]; rfl
end Pk

end Go.Proofs.YtambppcnmggocaaDoor
