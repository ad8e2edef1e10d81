/-
  An order out of an act and what is asked: what form it has. No conditions but the sizes.
-/
import Derived.Test.YtblikgbcakgdnaaGreatBr32
import Derived.Test.YtblikgbcakgdnaaGreatBr34
import Derived.Test.YtblikgbcakgdnaaGreatBr41
set_option linter.unusedSimpArgs false
set_option linter.unusedVariables false
namespace Go.Proofs.YtblikgbcakgdnaaGreat
set_option linter.unusedVariables false
set_option linter.unusedSimpArgs false
set_option maxRecDepth 100000
open Go.ChangeShapes Go.WideShapes Go.ChangeAt Go.RowKit

theorem Pv.of_ok (n : Int) : (Pv.of n).Ok ∧ (Pv.of n).e ≤ 12 ∧ 0 ≤ (Pv.of n).t ∧ (Pv.of n).t ≤ 1000 := by
  obtain ⟨h1, h2, h3, h4⟩ := Pv.of_bd n
  exact ⟨⟨h2, by omega, by omega⟩, by omega, by omega, by omega⟩
theorem Pv.of_right (n : Int) : Pn.right (Pv.of n).a (Pv.of n).u (Pv.of n).e (Pv.of n).t = 0 := by
  obtain ⟨h1, h2, h3, h4⟩ := Pv.of_bd n
  generalize Pv.of n = P at *
  unfold Pn.right
  repeat (first | rw [if_neg (by omega)] | rw [if_pos (by omega)] | split)
  all_goals (first | rfl | omega)
/-- What Order answers. -/
def OrdAns (W : World) (e : Ending) (w' : World) : Prop := ∃ o, e = .returned (.agg o.kb) ∧ OForm o ∧ Below W.heap.size W w'
theorem built_def (pa pu pe pt : Int) (pg pl : Bool) : Tryz.prog.built 48 [(0, .int .u8 1), (4, .agg #[.int .i64 pa, .int .u8 pu, .int .i64 pe, .int .i64 pt, .bool pg, .bool pl])] = some (Ov.kb ⟨1, 0, 0, 0, ⟨pa, pu, pe, pt, pg, pl⟩, Nv.zero⟩) := by kernel_rfl
set_option maxHeartbeats 4000000 in
theorem order_1 (K A B C : Int) (hA : 0 ≤ A ∧ A < 256) (hB : 0 ≤ B ∧ B < 256) (hC : 0 ≤ C ∧ C < 256) (v : Value) (w : World) (hk : K.tmod 14 = 1) : Calls Tryz.prog 11 #[.agg #[.int .u8 K, .int .u8 A, .int .u8 B, .int .u8 C], v] w (OrdAns w) := by
  obtain ⟨i, hi⟩ : ∃ i : Nat, A % 3 = (i : Int) := ⟨(A % 3).toNat, by omega⟩
  obtain ⟨n, hn⟩ : ∃ n : Nat, B % 3 = (n : Int) := ⟨(B % 3).toNat, by omega⟩
  obtain ⟨b5, hb5⟩ : ∃ b5, B % 5 = b5 := ⟨_, rfl⟩
  obtain ⟨c4, hc4⟩ : ∃ c4, C % 40 = c4 := ⟨_, rfl⟩
  have eA : A.tmod 3 = (i : Int) := by rw [← hi]; exact Int.tmod_eq_emod_of_nonneg hA.1
  have eB3 : B.tmod 3 = (n : Int) := by rw [← hn]; exact Int.tmod_eq_emod_of_nonneg hB.1
  have eB5 : B.tmod 5 = b5 := by rw [← hb5]; exact Int.tmod_eq_emod_of_nonneg hB.1
  have eC : C.tmod 40 = c4 := by rw [← hc4]; exact Int.tmod_eq_emod_of_nonneg hC.1
  have hi3 : i < 3 := by omega
  have hn3 : n < 3 := by omega
  have hb : 0 ≤ b5 ∧ b5 < 5 := by omega
  have hc : 0 ≤ c4 ∧ c4 < 40 := by omega
  clear hi hn hb5 hc4
  have e4 : IntKind.u8.wrap (4 + b5) = 4 + b5 := by rw [show IntKind.u8.wrap (4 + b5) = (4 + b5) % 256 from rfl]; omega
  have e41 : (4 + b5) % 256 = 4 + b5 := by omega
  have e1 : wrap64 (1 + c4) = 1 + c4 := by unfold wrap64; omega
  go_enter Tryz.func11, Tryz.ntmps11
  go_wp2_with fail
  refine bodyPost_ret (results_cell_row rfl _ _ (w.heap.size + 1) 48 _ (0, 0) _ rfl (alloc_at (by simp)) Tryz.underlying48 rfl info16k) rfl ?_
  exact ⟨⟨2, i, n, 0, Pv.zero, Nv.zero⟩, rfl, OForm.opn_ i n (by omega), ((Below.refl _ w).alloc (Nat.le_refl _) _).alloc (by simp) _⟩
set_option maxHeartbeats 4000000 in
theorem order_2 (K A B C : Int) (hA : 0 ≤ A ∧ A < 256) (hB : 0 ≤ B ∧ B < 256) (hC : 0 ≤ C ∧ C < 256) (v : Value) (w : World) (hk : K.tmod 14 = 2) : Calls Tryz.prog 11 #[.agg #[.int .u8 K, .int .u8 A, .int .u8 B, .int .u8 C], v] w (OrdAns w) := by
  obtain ⟨i, hi⟩ : ∃ i : Nat, A % 3 = (i : Int) := ⟨(A % 3).toNat, by omega⟩
  obtain ⟨n, hn⟩ : ∃ n : Nat, B % 3 = (n : Int) := ⟨(B % 3).toNat, by omega⟩
  obtain ⟨b5, hb5⟩ : ∃ b5, B % 5 = b5 := ⟨_, rfl⟩
  obtain ⟨c4, hc4⟩ : ∃ c4, C % 40 = c4 := ⟨_, rfl⟩
  have eA : A.tmod 3 = (i : Int) := by rw [← hi]; exact Int.tmod_eq_emod_of_nonneg hA.1
  have eB3 : B.tmod 3 = (n : Int) := by rw [← hn]; exact Int.tmod_eq_emod_of_nonneg hB.1
  have eB5 : B.tmod 5 = b5 := by rw [← hb5]; exact Int.tmod_eq_emod_of_nonneg hB.1
  have eC : C.tmod 40 = c4 := by rw [← hc4]; exact Int.tmod_eq_emod_of_nonneg hC.1
  have hi3 : i < 3 := by omega
  have hn3 : n < 3 := by omega
  have hb : 0 ≤ b5 ∧ b5 < 5 := by omega
  have hc : 0 ≤ c4 ∧ c4 < 40 := by omega
  clear hi hn hb5 hc4
  have e4 : IntKind.u8.wrap (4 + b5) = 4 + b5 := by rw [show IntKind.u8.wrap (4 + b5) = (4 + b5) % 256 from rfl]; omega
  have e41 : (4 + b5) % 256 = 4 + b5 := by omega
  have e1 : wrap64 (1 + c4) = 1 + c4 := by unfold wrap64; omega
  go_enter Tryz.func11, Tryz.ntmps11
  go_wp2_with fail
  refine bodyPost_ret (results_cell_row rfl _ _ (w.heap.size + 1) 48 _ (0, 0) _ rfl (alloc_at (by simp)) Tryz.underlying48 rfl info16k) rfl ?_
  exact ⟨⟨2, i, n, 0, Pv.zero, Nv.zero⟩, rfl, OForm.opn_ i n (by omega), ((Below.refl _ w).alloc (Nat.le_refl _) _).alloc (by simp) _⟩
set_option maxHeartbeats 4000000 in
theorem order_3 (K A B C : Int) (hA : 0 ≤ A ∧ A < 256) (hB : 0 ≤ B ∧ B < 256) (hC : 0 ≤ C ∧ C < 256) (v : Value) (w : World) (hk : K.tmod 14 = 3) : Calls Tryz.prog 11 #[.agg #[.int .u8 K, .int .u8 A, .int .u8 B, .int .u8 C], v] w (OrdAns w) := by
  obtain ⟨i, hi⟩ : ∃ i : Nat, A % 3 = (i : Int) := ⟨(A % 3).toNat, by omega⟩
  obtain ⟨n, hn⟩ : ∃ n : Nat, B % 3 = (n : Int) := ⟨(B % 3).toNat, by omega⟩
  obtain ⟨b5, hb5⟩ : ∃ b5, B % 5 = b5 := ⟨_, rfl⟩
  obtain ⟨c4, hc4⟩ : ∃ c4, C % 40 = c4 := ⟨_, rfl⟩
  have eA : A.tmod 3 = (i : Int) := by rw [← hi]; exact Int.tmod_eq_emod_of_nonneg hA.1
  have eB3 : B.tmod 3 = (n : Int) := by rw [← hn]; exact Int.tmod_eq_emod_of_nonneg hB.1
  have eB5 : B.tmod 5 = b5 := by rw [← hb5]; exact Int.tmod_eq_emod_of_nonneg hB.1
  have eC : C.tmod 40 = c4 := by rw [← hc4]; exact Int.tmod_eq_emod_of_nonneg hC.1
  have hi3 : i < 3 := by omega
  have hn3 : n < 3 := by omega
  have hb : 0 ≤ b5 ∧ b5 < 5 := by omega
  have hc : 0 ≤ c4 ∧ c4 < 40 := by omega
  clear hi hn hb5 hc4
  have e4 : IntKind.u8.wrap (4 + b5) = 4 + b5 := by rw [show IntKind.u8.wrap (4 + b5) = (4 + b5) % 256 from rfl]; omega
  have e41 : (4 + b5) % 256 = 4 + b5 := by omega
  have e1 : wrap64 (1 + c4) = 1 + c4 := by unfold wrap64; omega
  go_enter Tryz.func11, Tryz.ntmps11
  go_wp2_with fail
  refine bodyPost_ret (results_cell_row rfl _ _ (w.heap.size + 1) 48 _ (0, 0) _ rfl (alloc_at (by simp)) Tryz.underlying48 rfl info16k) rfl ?_
  exact ⟨⟨3, i, n, 0, Pv.zero, Nv.zero⟩, rfl, OForm.chg i n (by omega), ((Below.refl _ w).alloc (Nat.le_refl _) _).alloc (by simp) _⟩
set_option maxHeartbeats 4000000 in
theorem order_4 (K A B C : Int) (hA : 0 ≤ A ∧ A < 256) (hB : 0 ≤ B ∧ B < 256) (hC : 0 ≤ C ∧ C < 256) (v : Value) (w : World) (hk : K.tmod 14 = 4) : Calls Tryz.prog 11 #[.agg #[.int .u8 K, .int .u8 A, .int .u8 B, .int .u8 C], v] w (OrdAns w) := by
  obtain ⟨i, hi⟩ : ∃ i : Nat, A % 3 = (i : Int) := ⟨(A % 3).toNat, by omega⟩
  obtain ⟨n, hn⟩ : ∃ n : Nat, B % 3 = (n : Int) := ⟨(B % 3).toNat, by omega⟩
  obtain ⟨b5, hb5⟩ : ∃ b5, B % 5 = b5 := ⟨_, rfl⟩
  obtain ⟨c4, hc4⟩ : ∃ c4, C % 40 = c4 := ⟨_, rfl⟩
  have eA : A.tmod 3 = (i : Int) := by rw [← hi]; exact Int.tmod_eq_emod_of_nonneg hA.1
  have eB3 : B.tmod 3 = (n : Int) := by rw [← hn]; exact Int.tmod_eq_emod_of_nonneg hB.1
  have eB5 : B.tmod 5 = b5 := by rw [← hb5]; exact Int.tmod_eq_emod_of_nonneg hB.1
  have eC : C.tmod 40 = c4 := by rw [← hc4]; exact Int.tmod_eq_emod_of_nonneg hC.1
  have hi3 : i < 3 := by omega
  have hn3 : n < 3 := by omega
  have hb : 0 ≤ b5 ∧ b5 < 5 := by omega
  have hc : 0 ≤ c4 ∧ c4 < 40 := by omega
  clear hi hn hb5 hc4
  have e4 : IntKind.u8.wrap (4 + b5) = 4 + b5 := by rw [show IntKind.u8.wrap (4 + b5) = (4 + b5) % 256 from rfl]; omega
  have e41 : (4 + b5) % 256 = 4 + b5 := by omega
  have e1 : wrap64 (1 + c4) = 1 + c4 := by unfold wrap64; omega
  go_enter Tryz.func11, Tryz.ntmps11
  go_wp2_with fail
  refine bodyPost_ret (results_cell_row rfl _ _ (w.heap.size + 1) 48 _ (0, 0) _ rfl (alloc_at (by simp)) Tryz.underlying48 rfl info16k) rfl ?_
  exact ⟨⟨4 + b5, i, 0, 0, Pv.zero, Nv.zero⟩, rfl, OForm.one _ (by omega) i (by omega), ((Below.refl _ w).alloc (Nat.le_refl _) _).alloc (by simp) _⟩
set_option maxHeartbeats 4000000 in
theorem order_5 (K A B C : Int) (hA : 0 ≤ A ∧ A < 256) (hB : 0 ≤ B ∧ B < 256) (hC : 0 ≤ C ∧ C < 256) (v : Value) (w : World) (hk : K.tmod 14 = 5) : Calls Tryz.prog 11 #[.agg #[.int .u8 K, .int .u8 A, .int .u8 B, .int .u8 C], v] w (OrdAns w) := by
  obtain ⟨i, hi⟩ : ∃ i : Nat, A % 3 = (i : Int) := ⟨(A % 3).toNat, by omega⟩
  obtain ⟨n, hn⟩ : ∃ n : Nat, B % 3 = (n : Int) := ⟨(B % 3).toNat, by omega⟩
  obtain ⟨b5, hb5⟩ : ∃ b5, B % 5 = b5 := ⟨_, rfl⟩
  obtain ⟨c4, hc4⟩ : ∃ c4, C % 40 = c4 := ⟨_, rfl⟩
  have eA : A.tmod 3 = (i : Int) := by rw [← hi]; exact Int.tmod_eq_emod_of_nonneg hA.1
  have eB3 : B.tmod 3 = (n : Int) := by rw [← hn]; exact Int.tmod_eq_emod_of_nonneg hB.1
  have eB5 : B.tmod 5 = b5 := by rw [← hb5]; exact Int.tmod_eq_emod_of_nonneg hB.1
  have eC : C.tmod 40 = c4 := by rw [← hc4]; exact Int.tmod_eq_emod_of_nonneg hC.1
  have hi3 : i < 3 := by omega
  have hn3 : n < 3 := by omega
  have hb : 0 ≤ b5 ∧ b5 < 5 := by omega
  have hc : 0 ≤ c4 ∧ c4 < 40 := by omega
  clear hi hn hb5 hc4
  have e4 : IntKind.u8.wrap (4 + b5) = 4 + b5 := by rw [show IntKind.u8.wrap (4 + b5) = (4 + b5) % 256 from rfl]; omega
  have e41 : (4 + b5) % 256 = 4 + b5 := by omega
  have e1 : wrap64 (1 + c4) = 1 + c4 := by unfold wrap64; omega
  go_enter Tryz.func11, Tryz.ntmps11
  go_wp2_with fail
  refine bodyPost_ret (results_cell_row rfl _ _ (w.heap.size + 1) 48 _ (0, 0) _ rfl (alloc_at (by simp)) Tryz.underlying48 rfl info16k) rfl ?_
  exact ⟨⟨5, i, 0, 0, Pv.zero, Nv.zero⟩, rfl, OForm.one _ (by omega) i (by omega), ((Below.refl _ w).alloc (Nat.le_refl _) _).alloc (by simp) _⟩
set_option maxHeartbeats 4000000 in
theorem order_6 (K A B C : Int) (hA : 0 ≤ A ∧ A < 256) (hB : 0 ≤ B ∧ B < 256) (hC : 0 ≤ C ∧ C < 256) (v : Value) (w : World) (hk : K.tmod 14 = 6) : Calls Tryz.prog 11 #[.agg #[.int .u8 K, .int .u8 A, .int .u8 B, .int .u8 C], v] w (OrdAns w) := by
  obtain ⟨i, hi⟩ : ∃ i : Nat, A % 3 = (i : Int) := ⟨(A % 3).toNat, by omega⟩
  obtain ⟨n, hn⟩ : ∃ n : Nat, B % 3 = (n : Int) := ⟨(B % 3).toNat, by omega⟩
  obtain ⟨b5, hb5⟩ : ∃ b5, B % 5 = b5 := ⟨_, rfl⟩
  obtain ⟨c4, hc4⟩ : ∃ c4, C % 40 = c4 := ⟨_, rfl⟩
  have eA : A.tmod 3 = (i : Int) := by rw [← hi]; exact Int.tmod_eq_emod_of_nonneg hA.1
  have eB3 : B.tmod 3 = (n : Int) := by rw [← hn]; exact Int.tmod_eq_emod_of_nonneg hB.1
  have eB5 : B.tmod 5 = b5 := by rw [← hb5]; exact Int.tmod_eq_emod_of_nonneg hB.1
  have eC : C.tmod 40 = c4 := by rw [← hc4]; exact Int.tmod_eq_emod_of_nonneg hC.1
  have hi3 : i < 3 := by omega
  have hn3 : n < 3 := by omega
  have hb : 0 ≤ b5 ∧ b5 < 5 := by omega
  have hc : 0 ≤ c4 ∧ c4 < 40 := by omega
  clear hi hn hb5 hc4
  have e4 : IntKind.u8.wrap (4 + b5) = 4 + b5 := by rw [show IntKind.u8.wrap (4 + b5) = (4 + b5) % 256 from rfl]; omega
  have e41 : (4 + b5) % 256 = 4 + b5 := by omega
  have e1 : wrap64 (1 + c4) = 1 + c4 := by unfold wrap64; omega
  go_enter Tryz.func11, Tryz.ntmps11
  go_wp2_with fail
  refine bodyPost_ret (results_cell_row rfl _ _ (w.heap.size + 1) 48 _ (0, 0) _ rfl (alloc_at (by simp)) Tryz.underlying48 rfl info16k) rfl ?_
  exact ⟨⟨9, 0, 0, 1 + c4, Pv.zero, Nv.zero⟩, rfl, OForm.pass _ (by omega), ((Below.refl _ w).alloc (Nat.le_refl _) _).alloc (by simp) _⟩
set_option maxHeartbeats 4000000 in
theorem order_7 (K A B C : Int) (hA : 0 ≤ A ∧ A < 256) (hB : 0 ≤ B ∧ B < 256) (hC : 0 ≤ C ∧ C < 256) (v : Value) (w : World) (hk : K.tmod 14 = 7) : Calls Tryz.prog 11 #[.agg #[.int .u8 K, .int .u8 A, .int .u8 B, .int .u8 C], v] w (OrdAns w) := by
  obtain ⟨i, hi⟩ : ∃ i : Nat, A % 3 = (i : Int) := ⟨(A % 3).toNat, by omega⟩
  obtain ⟨n, hn⟩ : ∃ n : Nat, B % 3 = (n : Int) := ⟨(B % 3).toNat, by omega⟩
  obtain ⟨b5, hb5⟩ : ∃ b5, B % 5 = b5 := ⟨_, rfl⟩
  obtain ⟨c4, hc4⟩ : ∃ c4, C % 40 = c4 := ⟨_, rfl⟩
  have eA : A.tmod 3 = (i : Int) := by rw [← hi]; exact Int.tmod_eq_emod_of_nonneg hA.1
  have eB3 : B.tmod 3 = (n : Int) := by rw [← hn]; exact Int.tmod_eq_emod_of_nonneg hB.1
  have eB5 : B.tmod 5 = b5 := by rw [← hb5]; exact Int.tmod_eq_emod_of_nonneg hB.1
  have eC : C.tmod 40 = c4 := by rw [← hc4]; exact Int.tmod_eq_emod_of_nonneg hC.1
  have hi3 : i < 3 := by omega
  have hn3 : n < 3 := by omega
  have hb : 0 ≤ b5 ∧ b5 < 5 := by omega
  have hc : 0 ≤ c4 ∧ c4 < 40 := by omega
  clear hi hn hb5 hc4
  have e4 : IntKind.u8.wrap (4 + b5) = 4 + b5 := by rw [show IntKind.u8.wrap (4 + b5) = (4 + b5) % 256 from rfl]; omega
  have e41 : (4 + b5) % 256 = 4 + b5 := by omega
  have e1 : wrap64 (1 + c4) = 1 + c4 := by unfold wrap64; omega
  go_enter Tryz.func11, Tryz.ntmps11
  go_wp2_with fail
  refine bodyPost_ret (results_cell_row rfl _ _ (w.heap.size + 1) 48 _ (0, 0) _ rfl (alloc_at (by simp)) Tryz.underlying48 rfl info16k) rfl ?_
  exact ⟨⟨9, 0, 0, 1 + c4, Pv.zero, Nv.zero⟩, rfl, OForm.pass _ (by omega), ((Below.refl _ w).alloc (Nat.le_refl _) _).alloc (by simp) _⟩
set_option maxHeartbeats 4000000 in
theorem order_8 (K A B C : Int) (hA : 0 ≤ A ∧ A < 256) (hB : 0 ≤ B ∧ B < 256) (hC : 0 ≤ C ∧ C < 256) (v : Value) (w : World) (hk : K.tmod 14 = 8) : Calls Tryz.prog 11 #[.agg #[.int .u8 K, .int .u8 A, .int .u8 B, .int .u8 C], v] w (OrdAns w) := by
  obtain ⟨i, hi⟩ : ∃ i : Nat, A % 3 = (i : Int) := ⟨(A % 3).toNat, by omega⟩
  obtain ⟨n, hn⟩ : ∃ n : Nat, B % 3 = (n : Int) := ⟨(B % 3).toNat, by omega⟩
  obtain ⟨b5, hb5⟩ : ∃ b5, B % 5 = b5 := ⟨_, rfl⟩
  obtain ⟨c4, hc4⟩ : ∃ c4, C % 40 = c4 := ⟨_, rfl⟩
  have eA : A.tmod 3 = (i : Int) := by rw [← hi]; exact Int.tmod_eq_emod_of_nonneg hA.1
  have eB3 : B.tmod 3 = (n : Int) := by rw [← hn]; exact Int.tmod_eq_emod_of_nonneg hB.1
  have eB5 : B.tmod 5 = b5 := by rw [← hb5]; exact Int.tmod_eq_emod_of_nonneg hB.1
  have eC : C.tmod 40 = c4 := by rw [← hc4]; exact Int.tmod_eq_emod_of_nonneg hC.1
  have hi3 : i < 3 := by omega
  have hn3 : n < 3 := by omega
  have hb : 0 ≤ b5 ∧ b5 < 5 := by omega
  have hc : 0 ≤ c4 ∧ c4 < 40 := by omega
  clear hi hn hb5 hc4
  have e4 : IntKind.u8.wrap (4 + b5) = 4 + b5 := by rw [show IntKind.u8.wrap (4 + b5) = (4 + b5) % 256 from rfl]; omega
  have e41 : (4 + b5) % 256 = 4 + b5 := by omega
  have e1 : wrap64 (1 + c4) = 1 + c4 := by unfold wrap64; omega
  go_enter Tryz.func11, Tryz.ntmps11
  go_wp2_with fail
  refine bodyPost_ret (results_cell_row rfl _ _ (w.heap.size + 1) 48 _ (0, 0) _ rfl (alloc_at (by simp)) Tryz.underlying48 rfl info16k) rfl ?_
  exact ⟨⟨9, 0, 0, 1 + c4, Pv.zero, Nv.zero⟩, rfl, OForm.pass _ (by omega), ((Below.refl _ w).alloc (Nat.le_refl _) _).alloc (by simp) _⟩
set_option maxHeartbeats 4000000 in
theorem order_0 (K A B C : Int) (hA : 0 ≤ A ∧ A < 256) (hB : 0 ≤ B ∧ B < 256) (hC : 0 ≤ C ∧ C < 256) (v : Value) (w : World) (hk : K.tmod 14 = 0) : Calls Tryz.prog 11 #[.agg #[.int .u8 K, .int .u8 A, .int .u8 B, .int .u8 C], v] w (OrdAns w) := by
  obtain ⟨i, hi⟩ : ∃ i : Nat, A % 3 = (i : Int) := ⟨(A % 3).toNat, by omega⟩
  obtain ⟨n, hn⟩ : ∃ n : Nat, B % 3 = (n : Int) := ⟨(B % 3).toNat, by omega⟩
  obtain ⟨b5, hb5⟩ : ∃ b5, B % 5 = b5 := ⟨_, rfl⟩
  obtain ⟨c4, hc4⟩ : ∃ c4, C % 40 = c4 := ⟨_, rfl⟩
  have eA : A.tmod 3 = (i : Int) := by rw [← hi]; exact Int.tmod_eq_emod_of_nonneg hA.1
  have eB3 : B.tmod 3 = (n : Int) := by rw [← hn]; exact Int.tmod_eq_emod_of_nonneg hB.1
  have eB5 : B.tmod 5 = b5 := by rw [← hb5]; exact Int.tmod_eq_emod_of_nonneg hB.1
  have eC : C.tmod 40 = c4 := by rw [← hc4]; exact Int.tmod_eq_emod_of_nonneg hC.1
  have hi3 : i < 3 := by omega
  have hn3 : n < 3 := by omega
  have hb : 0 ≤ b5 ∧ b5 < 5 := by omega
  have hc : 0 ≤ c4 ∧ c4 < 40 := by omega
  clear hi hn hb5 hc4
  have e4 : IntKind.u8.wrap (4 + b5) = 4 + b5 := by rw [show IntKind.u8.wrap (4 + b5) = (4 + b5) % 256 from rfl]; omega
  have e41 : (4 + b5) % 256 = 4 + b5 := by omega
  have e1 : wrap64 (1 + c4) = 1 + c4 := by unfold wrap64; omega
  go_enter Tryz.func11, Tryz.ntmps11
  go_wp2_with fail
  refine (plan12_any B hB.1 hB.2 _).mono ?_
  rintro e W2 ⟨rfl, hb2⟩
  have z1 : W2.heap[w.heap.size + 1]? = some (.cells #[.int .u8 0, .int .i64 0, .int .i64 0, .int .i64 0, .int .i64 0, .int .u8 0, .int .i64 0, .int .i64 0, .bool false, .bool false, .int .u8 0, .int .i64 0, .int .i64 0, .int .i64 0, .int .i64 0, .int .u8 0] 48 (0, 0)) := below_block hb2 (alloc_at (by simp))
  have hV2 : Below w.heap.size w W2 := (((Below.refl _ w).alloc (Nat.le_refl _) _).alloc (by simp) _).trans (hb2.mono (by simp; omega))
  clear hb2
  obtain ⟨P, hP⟩ : ∃ P, Pv.of B = P := ⟨_, rfl⟩
  have hok : P.Ok ∧ P.e ≤ 12 ∧ 0 ≤ P.t ∧ P.t ≤ 1000 := by rw [← hP]; exact Pv.of_ok B
  have hpr : Pn.right P.a P.u P.e P.t = 0 := by rw [← hP]; exact Pv.of_right B
  rw [hP]
  clear hP
  have HOK := Lib.hid hok
  have HPR := Lib.hid hpr
  clear hok hpr
  obtain ⟨pa, pu, pe, pt, pg, pl⟩ := P
  have hz1 : w.heap.size + 1 < W2.heap.size := (Array.getElem?_eq_some_iff.1 z1).1
  dsimp only [Pv.arr]
  go_wp2_with (((with_reducible_and_instances (show wpList _ _ _ (Oper.mk _ (Op.build 48 _) _ _ _ _ :: _) _ _)); refine stop_here ?_))
  refine ⟨?_⟩
  refine wpList_buildTo rfl 48 _ rfl _ rfl _ (Eq.trans (congrArg (Program.built _ _) (by simp [Act.eval])) (built_def pa pu pe pt pg pl)) ?_
  go_wp2_with (((with_reducible_and_instances (show wpList _ _ _ (Oper.mk _ (Op.store 48 _ _) _ _ _ _ :: _) _ _)); refine stop_here ?_))
  refine ⟨?_⟩
  refine wl_store (cs' := (Ov.kb ⟨1, 0, 0, 0, ⟨pa, pu, pe, pt, pg, pl⟩, Nv.zero⟩)) (g := w.heap.size + 1) info16k rfl rfl rfl rfl z1 rfl rfl (by simp [Ov.kb, Value.oneCell']) ?_
  go_wp2_with fail
  refine bodyPost_ret (results_cell_row rfl _ _ (w.heap.size + 1) 48 _ (0, 0) _ rfl (boxed_at hz1) Tryz.underlying48 rfl info16k) rfl ?_
  exact ⟨⟨1, 0, 0, 0, ⟨pa, pu, pe, pt, pg, pl⟩, Nv.zero⟩, rfl, OForm.def_ _ HOK.out HPR.out, boxed_below hV2 (by omega)⟩
set_option maxHeartbeats 4000000 in
theorem order_none (K A B C : Int) (hA : 0 ≤ A ∧ A < 256) (hB : 0 ≤ B ∧ B < 256) (hC : 0 ≤ C ∧ C < 256) (w : World) {r : Int} {A1 : Option Addr} {cap : Nat} (hk : K.tmod 14 = r) (hr : 9 ≤ r) : Calls Tryz.prog 11 #[.agg #[.int .u8 K, .int .u8 A, .int .u8 B, .int .u8 C]  , .slice A1 0 cap] w (OrdAns w) := by
  obtain ⟨i, hi⟩ : ∃ i : Nat, A % 3 = (i : Int) := ⟨(A % 3).toNat, by omega⟩
  obtain ⟨n, hn⟩ : ∃ n : Nat, B % 3 = (n : Int) := ⟨(B % 3).toNat, by omega⟩
  obtain ⟨b5, hb5⟩ : ∃ b5, B % 5 = b5 := ⟨_, rfl⟩
  obtain ⟨c4, hc4⟩ : ∃ c4, C % 40 = c4 := ⟨_, rfl⟩
  have eA : A.tmod 3 = (i : Int) := by rw [← hi]; exact Int.tmod_eq_emod_of_nonneg hA.1
  have eB3 : B.tmod 3 = (n : Int) := by rw [← hn]; exact Int.tmod_eq_emod_of_nonneg hB.1
  have eB5 : B.tmod 5 = b5 := by rw [← hb5]; exact Int.tmod_eq_emod_of_nonneg hB.1
  have eC : C.tmod 40 = c4 := by rw [← hc4]; exact Int.tmod_eq_emod_of_nonneg hC.1
  have hi3 : i < 3 := by omega
  have hn3 : n < 3 := by omega
  have hb : 0 ≤ b5 ∧ b5 < 5 := by omega
  have hc : 0 ≤ c4 ∧ c4 < 40 := by omega
  obtain ⟨c9, hc9⟩ : ∃ c9, C % 9 = c9 := ⟨_, rfl⟩
  clear hi hn hb5 hc4
  have e4 : IntKind.u8.wrap (4 + b5) = 4 + b5 := by rw [show IntKind.u8.wrap (4 + b5) = (4 + b5) % 256 from rfl]; omega
  have e41 : (4 + b5) % 256 = 4 + b5 := by omega
  have e1 : wrap64 (1 + c4) = 1 + c4 := by unfold wrap64; omega
  have eC9 : C.tmod 9 = c9 := by rw [← hc9]; exact Int.tmod_eq_emod_of_nonneg hC.1
  have hc9b : 0 ≤ c9 ∧ c9 < 9 := by omega
  clear hc9
  have e19 : wrap64 (1 + c9) = 1 + c9 := by unfold wrap64; omega
  have f0 : (r == 0) = false := by simp; omega
  have f1 : (r == 1) = false := by simp; omega
  have f2 : (r == 2) = false := by simp; omega
  have f3 : (r == 3) = false := by simp; omega
  have f4 : (r == 4) = false := by simp; omega
  have f5 : (r == 5) = false := by simp; omega
  have f6 : (r == 6) = false := by simp; omega
  have f7 : (r == 7) = false := by simp; omega
  have f8 : (r == 8) = false := by simp; omega
  go_enter Tryz.func11, Tryz.ntmps11
  go_wp2_with fail
  refine bodyPost_ret (results_cell_row rfl _ _ (w.heap.size + 1) 48 _ (0, 0) _ rfl (alloc_at (by simp)) Tryz.underlying48 rfl info16k) rfl ?_
  exact ⟨⟨9, 0, 0, 1 + c9, Pv.zero, Nv.zero⟩, rfl, OForm.pass _ (by omega), ((Below.refl _ w).alloc (Nat.le_refl _) _).alloc (by simp) _⟩
end Go.Proofs.YtblikgbcakgdnaaGreat
