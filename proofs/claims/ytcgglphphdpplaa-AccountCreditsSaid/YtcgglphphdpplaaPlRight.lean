/-
  Contracts of season.Right and of package plan's Right; which plans may be; remainders of words without a sign. No conditions.
-/
import Derived.Test.YtcgglphphdpplaaProg
import Derived.Test.YtcgglphphdpplaaBoxed
import Derived.Lib.Hide
namespace Go.Proofs.Ytcgglphphdpplaa
set_option maxRecDepth 20000
open Go.ChangeShapes Go.WideShapes Go.ChangeAt Go.RowKit

namespace Pn
/-- May a plan be? -/
def right (a u e t : Int) : Int := if 3 < u ∨ e < 1 ∨ 1000 < e ∨ t < 0 ∨ 1000 < t then 1 else if a < 0 ∨ 1073741824 < a then 9 else 0
def nP (a : Int) : Int := a % 18446744073709551616 % 1073741825
def nU (u : Int) : Int := u % 4
def nE (e : Int) : Int := 1 + e % 18446744073709551616 % 1000
def nT (t : Int) : Int := t % 18446744073709551616 % 1001
theorem nP_ok (a : Int) : 0 ≤ nP a ∧ nP a ≤ 1073741824 := by unfold nP; omega
theorem nU_ok (a : Int) : 0 ≤ nU a ∧ nU a ≤ 3 := by unfold nU; omega
theorem nE_ok (a : Int) : 1 ≤ nE a ∧ nE a ≤ 1000 := by unfold nE; omega
theorem nT_ok (a : Int) : 0 ≤ nT a ∧ nT a ≤ 1000 := by unfold nT; omega
theorem right_near (a u e t : Int) : right (nP a) (nU u) (nE e) (nT t) = 0 := by
  have h1 := nP_ok a; have h2 := nU_ok u; have h3 := nE_ok e; have h4 := nT_ok t
  unfold right; rw [if_neg (by omega), if_neg (by omega)]
/-- The ways that a plan can go. -/
theorem ways {P : Prop} (a u e t : Int) (h1 : 3 < u → P) (h2 : u ≤ 3 → e < 1 → P) (h3 : u ≤ 3 → 1 ≤ e → 1000 < e → P) (h4 : u ≤ 3 → 1 ≤ e → e ≤ 1000 → t < 0 → P) (h5 : u ≤ 3 → 1 ≤ e → e ≤ 1000 → 0 ≤ t → 1000 < t → P)
    (h6 : u ≤ 3 → 1 ≤ e → e ≤ 1000 → 0 ≤ t → t ≤ 1000 → a < 0 → P) (h7 : u ≤ 3 → 1 ≤ e → e ≤ 1000 → 0 ≤ t → t ≤ 1000 → 0 ≤ a → 1073741824 < a → P) (h8 : u ≤ 3 → 1 ≤ e → e ≤ 1000 → 0 ≤ t → t ≤ 1000 → 0 ≤ a → a ≤ 1073741824 → P) : P := by
  by_cases c1 : 3 < u
  · exact h1 c1
  by_cases c2 : e < 1
  · exact h2 (by omega) c2
  by_cases c3 : 1000 < e
  · exact h3 (by omega) (by omega) c3
  by_cases c4 : t < 0
  · exact h4 (by omega) (by omega) (by omega) c4
  by_cases c5 : 1000 < t
  · exact h5 (by omega) (by omega) (by omega) (by omega) c5
  by_cases c6 : a < 0
  · exact h6 (by omega) (by omega) (by omega) (by omega) (by omega) c6
  by_cases c7 : 1073741824 < a
  · exact h7 (by omega) (by omega) (by omega) (by omega) (by omega) (by omega) c7
  · exact h8 (by omega) (by omega) (by omega) (by omega) (by omega) (by omega) (by omega)
end Pn

set_option maxHeartbeats 400000 in
theorem sright_yes (u e : Int) (w : World) (h : u ≤ 3) (h1 : 1 ≤ e) (h2 : e ≤ 1000) :
    Calls Try.prog 79 #[.int .u8 u, .int .i64 e] w fun e w' => e = .returned (.bool true) ∧ w = w' := by
  go_enter Try.func79, Try.ntmps79
  go_wp2
  go_ret
  exact ⟨rfl, rfl⟩
set_option maxHeartbeats 400000 in
theorem sright_no (u e : Int) (w : World) (h : 3 < u ∨ u ≤ 3 ∧ e < 1 ∨ u ≤ 3 ∧ 1 ≤ e ∧ 1000 < e) :
    Calls Try.prog 79 #[.int .u8 u, .int .i64 e] w fun e w' => e = .returned (.bool false) ∧ w = w' := by
  rcases h with h | ⟨g, h⟩ | ⟨g, k, h⟩
  · have t : decide (u ≤ 3) = false := by simp; omega
    go_enter Try.func79, Try.ntmps79
    go_wp2
    go_ret
    exact ⟨rfl, rfl⟩
  · have t : decide (1 ≤ e) = false := by simp; omega
    go_enter Try.func79, Try.ntmps79
    go_wp2
    go_ret
    exact ⟨rfl, rfl⟩
  · have t : decide (e ≤ 1000) = false := by simp; omega
    go_enter Try.func79, Try.ntmps79
    go_wp2
    go_ret
    exact ⟨rfl, rfl⟩


theorem u64w (n : Int) : IntKind.u64.wrap n = n % 18446744073709551616 := by simp [IntKind.wrap, IntKind.bits, IntKind.signed]
theorem u64t (n m : Int) : (IntKind.u64.wrap n).tmod m = n % 18446744073709551616 % m := by
  rw [u64w, Int.tmod_eq_emod_of_nonneg (Int.emod_nonneg _ (by omega))]

end Go.Proofs.Ytcgglphphdpplaa
