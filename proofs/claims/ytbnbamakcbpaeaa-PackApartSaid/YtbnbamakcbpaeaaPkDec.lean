/-
  Contracts of the two functions that tell the number with which bytes begin: the program's and the document's. No conditions but that the bytes are bytes.
-/
import Derived.Test.YtbnbamakcbpaeaaPkLeaf
import Derived.Test.YtbnbamakcbpaeaaPkMem
namespace Go.Proofs.Ytbnbamakcbpaeaa
open Go.ChangeShapes Go.WideShapes Go.ChangeAt Go.RowKit

namespace Pk
theorem pow_six (k : Nat) : (2 : Nat) ^ (k * 6) = 64 ^ k := by rw [Nat.mul_comm, Nat.pow_mul]
theorem or_take {k u : Nat} {x : Int} (hk : k ≤ 10) (c0 : 0 ≤ x) (hb : bad k x = false) (hu : u < 64 ^ k) : bits .or .u64 (u : Int) (IntKind.u64.wrap (x % 64 * 2 ^ (k * 6))) = (take1 k u x : Int) := by
  have hf := take1_fits hk c0 hb hu
  have hp := pow_le10 hk
  have e : x % 64 * 2 ^ (k * 6) = (((x % 64).toNat * 64 ^ k : Nat) : Int) := by
    rw [← pow_six, Int.natCast_mul, Int.natCast_pow, Int.toNat_of_nonneg (by omega)]; rfl
  rw [e, IntKind.wrap_u64, Int.emod_eq_of_lt (by omega) (by unfold take1 at hf; omega), u64_or_nat _ _ (by omega) (by unfold take1 at hf; omega)]
  unfold take1
  rw [← pow_six] at hu ⊢
  rw [Nat.or_comm, Nat.mul_comm, ← Nat.two_pow_add_eq_or_of_lt hu, Nat.add_comm]
end Pk

/-- What dec tells, as three results. -/
def decV (l : List Int) : Value := .tuple #[.int .i64 (Pk.dec 0 0 l).1, .int .i64 ((Pk.dec 0 0 l).2.1 : Nat), .int .i64 (Pk.dec 0 0 l).2.2]
theorem decV_eq {l : List Int} {n e : Int} {k : Nat} (h : Pk.dec 0 0 l = (n, k, e)) : decV l = .tuple #[.int .i64 n, .int .i64 (k : Int), .int .i64 e] := by unfold decV; rw [h]

set_option maxHeartbeats 1000000 in
theorem first_any (A : Option Addr) (B c : Nat) (l : List Int) (w : World) (hr : Rd w .u8 B A l) (hb : ∀ x ∈ l, 0 ≤ x ∧ x < 256) :
    Calls Try.prog 28 #[.slice A l.length c] w fun e w' => e = .returned (decV l) ∧ w = w' := by
  have HR := Lib.hid hr
  have HB := Lib.hid hb
  clear hr hb
  go_enter Try.func28, Try.ntmps28
  go_wp2
  go_loop [5, 10] (fun t i => ∃ (k u : Nat), k ≤ l.length ∧ k ≤ 10 ∧ u < 64 ^ k ∧ t = .int .u64 u ∧ i = .int .i64 k ∧ Hid (Pk.dec k u (l.drop k) = Pk.dec 0 0 l)) (fun _ i => l.length - (intOf i).toNat)
  case atStart => exact ⟨0, 0, by omega, by omega, by simp, rfl, rfl, rfl⟩
  case round =>
    obtain ⟨k, u, hk, hk10, hu, rfl, rfl, HD⟩ := hrel
    by_cases hlt : k < l.length
    · obtain ⟨a, rfl, _, hc⟩ := HR.out.at_ hlt
      obtain ⟨c0, c1⟩ := HB.out _ (List.getElem_mem hlt)
      have HL := Lib.hid (List.drop_eq_getElem_cons hlt)
      generalize l[k] = x at *
      cases hbad : Pk.bad k x
      · by_cases g : x < 64
        · go_wp2_with (go_at_call 30; refine (mayStand_any _ _ _ (by omega) (by omega) (by omega)).mono ?_; rintro e w' ⟨rfl, rfl⟩)
          rw [Pk.or_take hk10 c0 hbad hu]
          refine (signed_any _ _ (Pk.take1_fits hk10 c0 hbad hu)).mono ?_
          rintro e w' ⟨rfl, rfl⟩
          have HF := Lib.hid (HD.out.symm.trans ((congrArg (Pk.dec k u) HL.out).trans (Pk.dec_last _ hbad g)))
          go_wp2
          go_ret3
          exact ⟨by rw [decV_eq HF.out]; rfl, rfl⟩
        · have HF := Lib.hid (((congrArg (Pk.dec k u) HL.out).trans (Pk.dec_next _ hbad g)).symm.trans HD.out)
          have hn := Pk.take1_lt (c := x) hu
          have h10 : k + 1 ≤ 10 := by have := Pk.of_good hbad; omega
          go_wp2_with (go_at_call 30; refine (mayStand_any _ _ _ (by omega) (by omega) (by omega)).mono ?_; rintro e w' ⟨rfl, rfl⟩)
          rw [Pk.or_take hk10 c0 hbad hu]
          go_round
          case rel => exact ⟨k + 1, _, by omega, h10, hn, rfl, by go_num, HF⟩
          case measure => simp [intOf]; omega
      · have HF := Lib.hid (HD.out.symm.trans ((congrArg (Pk.dec k u) HL.out).trans (Pk.dec_bad _ hbad)))
        go_wp2_with (go_at_call 30; refine (mayStand_any _ _ _ (by omega) (by omega) (by omega)).mono ?_; rintro e w' ⟨rfl, rfl⟩)
        go_ret3
        exact ⟨by rw [decV_eq HF.out]; rfl, rfl⟩
    · obtain rfl : k = l.length := by omega
      have HF : Hid (Pk.dec 0 0 l = (0, 0, 5)) := by rw [← HD.out, List.drop_length]; rfl
      go_wp2
      go_ret3
      exact ⟨by rw [decV_eq HF.out]; rfl, rfl⟩

theorem decV_ret {l : List Int} {n e a b c : Int} {k : Nat} (h : Pk.dec 0 0 l = (n, k, e)) (h1 : a = n) (h2 : b = k) (h3 : c = e) :
    Ending.returned (.tuple #[.int .i64 a, .int .i64 b, .int .i64 c]) = .returned (decV l) := by rw [decV_eq h, h1, h2, h3]
namespace Pk
theorem zag_odd {u : Nat} (h : u % 2 = 1) : zag u = -((u : Int) / 2) - 1 := by unfold zag; rw [if_pos h]; omega
theorem zag_even {u : Nat} (h : ¬ u % 2 = 1) : zag u = (u : Int) / 2 := by unfold zag; rw [if_neg h]; omega
theorem take1_mul (k u : Nat) (x : Int) : (u : Int) + x % 64 * (64 ^ k : Nat) = (take1 k u x : Nat) := by
  unfold take1
  rw [Int.natCast_add, Int.natCast_mul, Int.toNat_of_nonneg (by omega)]
theorem pow_next (k : Nat) : ((64 ^ k : Nat) : Int) * 64 = (64 ^ (k + 1) : Nat) := by rw [Nat.pow_succ, Int.natCast_mul]; rfl
end Pk

set_option maxHeartbeats 2000000 in
theorem unpack_any (A : Option Addr) (B c : Nat) (l : List Int) (w : World) (hr : Rd w .u8 B A l) (hb : ∀ x ∈ l, 0 ≤ x ∧ x < 256) :
    Calls Try.prog 19 #[.slice A l.length c] w fun e w' => e = .returned (decV l) ∧ w = w' := by
  have HR := Lib.hid hr
  have HB := Lib.hid hb
  clear hr hb
  go_enter Try.func19, Try.ntmps19
  go_wp2
  go_loop [5, 6, 7] (fun t m i => ∃ (k u q : Nat), k ≤ l.length ∧ k ≤ 10 ∧ u < 64 ^ k ∧ t = .int .u64 u ∧ m = .int .u64 q ∧ i = .int .i64 k ∧ Hid (Pk.dec k u (l.drop k) = Pk.dec 0 0 l) ∧ Hid (q = 64 ^ k)) (fun _ _ i => l.length - (intOf i).toNat)
  case atStart => exact ⟨0, 0, 1, by omega, by omega, by simp, rfl, rfl, rfl, rfl, rfl⟩
  case round =>
    obtain ⟨k, u, q, hk, hk10, hu, rfl, rfl, rfl, HD, HQ⟩ := hrel
    by_cases hlt : k < l.length
    · obtain ⟨a, rfl, _, hc⟩ := HR.out.at_ hlt
      obtain ⟨c0, c1⟩ := HB.out _ (List.getElem_mem hlt)
      have HL := Lib.hid (List.drop_eq_getElem_cons hlt)
      generalize l[k] = x at *
      have hq0 : 1 ≤ q := by rw [HQ.out]; exact Nat.pow_pos (by omega)
      have hq1 : q ≤ 1152921504606846976 := by rw [HQ.out]; exact Pk.pow_le10 hk10
      cases hbad : Pk.bad k x
      · have hg := Pk.of_good hbad
        have hf := Pk.take1_fits hk10 c0 hbad hu
        have HV : Hid ((u : Int) + x % 64 * q = (Pk.take1 k u x : Nat)) := by rw [HQ.out]; exact Pk.take1_mul k u x
        have hn := Pk.take1_lt (c := x) hu
        have HB' := Lib.hid hbad
        clear hbad
        have e1 : IntKind.u64.wrap ((u : Int) + IntKind.u64.wrap (x % 64 * q)) = (Pk.take1 k u x : Nat) := by
          have := HV.out
          have : 0 ≤ x % 64 * q := Int.mul_nonneg (by omega) (by omega)
          simp only [IntKind.wrap_u64]
          rw [Int.emod_eq_of_lt (a := x % 64 * q) (by omega) (by omega), HV.out, Int.emod_eq_of_lt (by omega) (by omega)]
        have t1 : decide (127 < x) = false := by simp; omega
        clear HV
        by_cases g : x < 64
        · have HF := Lib.hid (HD.out.symm.trans ((congrArg (Pk.dec k u) HL.out).trans (Pk.dec_last _ HB'.out g)))
          by_cases x0 : x = 0
          · subst x0
            obtain rfl : k = 0 := by omega
            obtain rfl : u = 0 := by simp at hu; exact hu
            clear e1 hf hn
            rw [ad_zero] at hc
            go_wp2
            go_ret3
            exact ⟨decV_ret HF.out rfl rfl rfl, rfl⟩
          have z : (x % 64 == 0) = false := beq_eq_false_iff_ne.2 (by omega)
          generalize Pk.take1 k u x = T at *
          by_cases hodd : T % 2 = 1
          · have o : ((T : Int) % 2 == 1) = true := beq_iff_eq.2 (by omega)
            have HZ := Lib.hid (Pk.zag_odd hodd)
            clear hodd
            go_wp2
            all_goals first | (exfalso; omega) | skip
            all_goals
              go_ret3
              exact ⟨decV_ret HF.out (by rw [HZ.out]) (by omega) rfl, rfl⟩
          · have o : ((T : Int) % 2 == 1) = false := beq_eq_false_iff_ne.2 (by omega)
            have HZ := Lib.hid (Pk.zag_even hodd)
            clear hodd
            go_wp2
            all_goals first | (exfalso; omega) | skip
            all_goals
              go_ret3
              exact ⟨decV_ret HF.out (by rw [HZ.out]) (by omega) rfl, rfl⟩
        · have HF := Lib.hid (((congrArg (Pk.dec k u) HL.out).trans (Pk.dec_next _ HB'.out g)).symm.trans HD.out)
          have h10 : ((k : Int) == 10) = false := beq_eq_false_iff_ne.2 (by omega)
          have hk1 : k + 1 ≤ 10 := by omega
          have HQ' : Hid (((q * 64 : Nat) : Int) = (64 ^ (k + 1) : Nat)) := by rw [HQ.out, Nat.pow_succ]; rfl
          have hq2 : q * 64 ≤ 1152921504606846976 := by have := HQ'.out; have := Pk.pow_le10 hk1; omega
          generalize Pk.take1 k u x = T at *
          go_wp2
          all_goals first | (exfalso; omega) | skip
          go_round
          case rel => exact ⟨k + 1, T, q * 64, by omega, hk1, hn, rfl, by go_num, by go_num, HF, by have := HQ'.out; exact Lib.hid (by omega)⟩
          case measure => simp [intOf]; omega
      · have hw := Pk.of_bad hbad
        have HF := Lib.hid (HD.out.symm.trans ((congrArg (Pk.dec k u) HL.out).trans (Pk.dec_bad _ hbad)))
        clear hbad
        by_cases t : 127 < x
        · go_wp2
          go_ret3
          exact ⟨by rw [decV_eq HF.out]; rfl, rfl⟩
        · have t1 : decide (127 < x) = false := by simp; omega
          by_cases h10 : (k : Int) = 10
          · have hx : 16 ≤ x ∨ x = 0 := by omega
            have t2 : ((k : Int) == 10) = true := beq_iff_eq.2 h10
            have t4 : decide ((0 : Int) < k) = true := by simp; omega
            have t5 : decide (0 < k) = true := by simp; omega
            clear h10
            by_cases g : x < 64
            · rcases (show 16 ≤ x % 64 ∨ x = 0 by omega) with g2 | rfl
              · have t3 : decide (16 ≤ x % 64) = true := by simpa using g2
                go_wp2
                go_ret3
                exact ⟨decV_ret HF.out rfl rfl rfl, rfl⟩
              · go_wp2
                go_ret3
                exact ⟨decV_ret HF.out rfl rfl rfl, rfl⟩
            · have t3 : decide (x < 64) = false := by simp; omega
              go_wp2
              all_goals
                go_ret3
                exact ⟨decV_ret HF.out rfl rfl rfl, rfl⟩
          · obtain rfl : x = 0 := by omega
            have t2 : ((k : Int) == 10) = false := beq_eq_false_iff_ne.2 h10
            have t3 : decide ((0 : Int) < k) = true := by simp; omega
            clear h10
            go_wp2
            all_goals first | (exfalso; omega) | skip
            all_goals
              go_ret3
              exact ⟨decV_ret HF.out rfl rfl rfl, rfl⟩
    · obtain rfl : k = l.length := by omega
      have HF : Hid (Pk.dec 0 0 l = (0, 0, 5)) := by rw [← HD.out, List.drop_length]; rfl
      go_wp2
      go_ret3
      exact ⟨by rw [decV_eq HF.out]; rfl, rfl⟩
end Go.Proofs.Ytbnbamakcbpaeaa
