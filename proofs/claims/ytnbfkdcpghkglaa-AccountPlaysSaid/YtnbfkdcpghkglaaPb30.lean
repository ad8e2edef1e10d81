/-
  Another plan that is refused: the same one, or a period that ends behind the last day; a period that begins near enough. No conditions but those that each law names.
-/
import Derived.Test.YtnbfkdcpghkglaaPb10
import Derived.Test.YtnbfkdcpghkglaaPb15
set_option linter.unusedSimpArgs false
set_option linter.unusedVariables false
namespace Go.Proofs.Ytnbfkdcpghkglaa
set_option maxRecDepth 100000
open Go.ChangeShapes Go.WideShapes Go.ChangeAt Go.RowKit

set_option maxHeartbeats 2000000 in
theorem change_same {w : World} {v : Value} {a : Av} {p q : Pv} {k d : Int} (n y : Int) (hst : a.st = 1) (hn : n = a.pl) (hAt : Cal.At a.an k d) (hU : 0 ≤ p.u ∧ p.u ≤ 3) (hE : 1 ≤ p.e ∧ p.e ≤ 1000) (hy : 0 ≤ y ∧ y ≤ 3652058) :
    Calls Try.prog 29 #[.agg (a.arr v), .agg p.arr, .int .i64 n, .agg q.arr, .int .i64 y] w (Refused w 8) := by
  obtain ⟨x1, x2, x3, hs⟩ := span_some a.an k d p.u p.e y hAt hU.1 hU.2 hE.1 hE.2 hy.1 hy.2
  have HS := Lib.hid hs
  have h1 : (a.st == 1) = true := by simpa using hst
  have h2 : (a.st != 1) = false := by simpa using hst
  have h3 : (n == a.pl) = true := by simpa using hn
  clear hs hst hAt hn
  go_enter Try.func29, Try.ntmps29
  go_wp2_with (fail)
  refine (HS.out _).mono ?_
  rintro e w1 ⟨rfl, hb⟩
  have hP : w1.heap[w.heap.size]? = some (.cells (a.arr v) 33 (0, 0)) := below_block hb (alloc_old (by simp; omega) (alloc_old (by simp; omega) (alloc_old (by simp) (alloc_at rfl))))
  have hZ : w1.heap[w.heap.size + 1 + 1 + 1]? = some (.cells #[.int .u8 0, .int .i64 0, .int .i64 0, .int .i64 0, .int .i64 0, .int .i64 0, .bool false, .slice none 0 0, .int .i64 0, .int .i64 0, .int .i64 0, .int .i64 0, .int .i64 0] 33 (0, 0)) := below_block hb (alloc_at (by simp))
  have hW : Below w.heap.size w w1 := (((((Below.refl _ w).alloc (Nat.le_refl _) _).alloc (by simp) _).alloc (by simp; omega) _).alloc (by simp; omega) _).trans (hb.mono (by simp; omega))
  have hz : w.heap.size + 1 + 1 + 1 < w1.heap.size := (Array.getElem?_eq_some_iff.1 hZ).1
  have c0 : w1.cell? ⟨w.heap.size, 0, none⟩ = some (.int .u8 a.st) := cell_of_row _ _ _ _ _ _ hP
  have c1 : w1.cell? ⟨w.heap.size, 1, none⟩ = some (.int .i64 a.pl) := cell_of_row _ _ _ _ _ _ hP
  have HW := Lib.hid hW
  clear hb hW hP
  go_wp2_with (first | ((with_reducible_and_instances (show wpList _ _ _ (Oper.mk _ (Op.store 33 _ _) _ _ _ _ :: _) _ _)); refine wl_store info13 rfl rfl rfl rfl (by (repeat (first | assumption | (with_reducible refine alloc_at ?_; (focus (first | omega | (simp; done) | (simp; omega)))) | (with_reducible refine boxed_at ?_; (focus (first | omega | (simp; done) | (simp; omega)))) | (with_reducible refine alloc_old ?_ ?_; (focus (first | omega | (simp; done) | (simp; omega)))) | (with_reducible refine boxed_old ?_ ?_; (focus (first | omega | (simp; done) | (simp; omega)))) | (with_reducible refine drew_old ?_)))) (by rfl) (by rfl) (by first | exact Cv.arr_one _ | exact Nv.arr_one _ | exact Av.arr_one rfl | exact Pv.arr_one _ | simp [Value.oneCell']) ?_))
  refine bodyPost_ret (results_row_tmp rfl _ _ (w.heap.size + 1 + 1 + 1) 33 _ (0, 0) _ rfl (boxed_at (by omega)) Try.underlying33 rfl (by exact info13)) rfl ?_
  exact ⟨rfl, boxed_below HW.out (by omega)⟩
set_option maxHeartbeats 2000000 in
theorem change_long {w : World} {v : Value} {a : Av} {p q : Pv} {k d c : Int} (n y : Int) (hst : a.st = 1) (hn : n ≠ a.pl) (hAt : Cal.At a.an k d) (hU : 0 ≤ p.u ∧ p.u ≤ 3) (hE : 1 ≤ p.e ∧ p.e ≤ 1000) (hy : 0 ≤ y ∧ y ≤ 3652058) (hay : a.an ≤ y) (hcn : Cal.Cnt p.u a.an k d p.e y c) (hok : Cal.okN p.u a.an k p.e c = false) :
    Calls Try.prog 29 #[.agg (a.arr v), .agg p.arr, .int .i64 n, .agg q.arr, .int .i64 y] w (Refused w 8) := by
  have HS : Hid (∀ w, Calls Try.prog 55 #[.int .i64 a.an, .int .u8 p.u, .int .i64 p.e, .int .i64 y] w fun r w' => r = .returned (.tuple #[.int .i64 0, .int .i64 0, .int .i64 6]) ∧ Below w.heap.size w w') := fun w => span_long _ k d _ _ _ c w hAt hU.1 hU.2 hE.1 hE.2 hy.1 hy.2 hay hcn hok
  have h1 : (a.st == 1) = true := by simpa using hst
  have h2 : (a.st != 1) = false := by simpa using hst
  have h3 : (n == a.pl) = false := by simpa using hn
  clear hst hAt hn hcn hok
  go_enter Try.func29, Try.ntmps29
  go_wp2_with (fail)
  refine (HS.out _).mono ?_
  rintro e w1 ⟨rfl, hb⟩
  have hP : w1.heap[w.heap.size]? = some (.cells (a.arr v) 33 (0, 0)) := below_block hb (alloc_old (by simp; omega) (alloc_old (by simp; omega) (alloc_old (by simp) (alloc_at rfl))))
  have hZ : w1.heap[w.heap.size + 1 + 1 + 1]? = some (.cells #[.int .u8 0, .int .i64 0, .int .i64 0, .int .i64 0, .int .i64 0, .int .i64 0, .bool false, .slice none 0 0, .int .i64 0, .int .i64 0, .int .i64 0, .int .i64 0, .int .i64 0] 33 (0, 0)) := below_block hb (alloc_at (by simp))
  have hW : Below w.heap.size w w1 := (((((Below.refl _ w).alloc (Nat.le_refl _) _).alloc (by simp) _).alloc (by simp; omega) _).alloc (by simp; omega) _).trans (hb.mono (by simp; omega))
  have hz : w.heap.size + 1 + 1 + 1 < w1.heap.size := (Array.getElem?_eq_some_iff.1 hZ).1
  have c0 : w1.cell? ⟨w.heap.size, 0, none⟩ = some (.int .u8 a.st) := cell_of_row _ _ _ _ _ _ hP
  have c1 : w1.cell? ⟨w.heap.size, 1, none⟩ = some (.int .i64 a.pl) := cell_of_row _ _ _ _ _ _ hP
  have HW := Lib.hid hW
  clear hb hW hP
  go_wp2_with (first | ((with_reducible_and_instances (show wpList _ _ _ (Oper.mk _ (Op.store 33 _ _) _ _ _ _ :: _) _ _)); refine wl_store info13 rfl rfl rfl rfl (by (repeat (first | assumption | (with_reducible refine alloc_at ?_; (focus (first | omega | (simp; done) | (simp; omega)))) | (with_reducible refine boxed_at ?_; (focus (first | omega | (simp; done) | (simp; omega)))) | (with_reducible refine alloc_old ?_ ?_; (focus (first | omega | (simp; done) | (simp; omega)))) | (with_reducible refine boxed_old ?_ ?_; (focus (first | omega | (simp; done) | (simp; omega)))) | (with_reducible refine drew_old ?_)))) (by rfl) (by rfl) (by first | exact Cv.arr_one _ | exact Nv.arr_one _ | exact Av.arr_one rfl | exact Pv.arr_one _ | simp [Value.oneCell']) ?_))
  refine bodyPost_ret (results_row_tmp rfl _ _ (w.heap.size + 1 + 1 + 1) 33 _ (0, 0) _ rfl (boxed_at (by omega)) Try.underlying33 rfl (by exact info13)) rfl ?_
  exact ⟨rfl, boxed_below HW.out (by omega)⟩
/-- Months are 28 days at least. -/
theorem Cal.ms_28 : ∀ (n : Nat), 28 * (n : Int) ≤ Cal.ms n
  | 0 => by rw [show ((0 : Nat) : Int) = 0 from rfl, Cal.ms_zero]; omega
  | n + 1 => by
    have h := Cal.ms_28 n
    have h2 := Cal.ms_succ (n : Int)
    have h3 := Cal.ml_bd (n : Int)
    have e : ((n + 1 : Nat) : Int) = (n : Int) + 1 := by omega
    rw [e, h2]; omega
/-- A period that begins near enough to its day. -/
theorem Cal.okN_near {u a k d e y c : Int} (hAt : Cal.At a k d) (he : 1 ≤ e ∧ e ≤ 12) (hc : Cal.Cnt u a k d e y c) (hay : a ≤ y) (hy : y ≤ 2000000) : Cal.okN u a k e c = true := by
  have hp := hc.pos hAt hay
  obtain ⟨h1, h2⟩ := hc.all (c - 1) (by omega) (by omega)
  have hs := Cal.stp_bd (u := u) he.1 (by omega)
  have hmul : c * Cal.stp u e = (c - 1) * Cal.stp u e + Cal.stp u e := by rw [Int.sub_mul, Int.one_mul]; omega
  have hs2 : Cal.stp u e ≤ 144 := by unfold Cal.stp; split <;> (try split) <;> omega
  by_cases hu : u < 2
  · rw [Cal.okN_days hu]
    rw [Cal.vN_days hu] at h2
    omega
  · rw [Cal.okN_months hu]
    rw [Cal.okN_months hu] at h1
    rw [Cal.vN_months hu] at h2
    have hk := hAt.k0
    have hn := Cal.step_nn (u := u) (e := e) (n := c - 1) he.1 (by omega)
    obtain ⟨m, hm⟩ := Int.eq_ofNat_of_zero_le (show 0 ≤ k + (c - 1) * Cal.stp u e by omega)
    rw [hm] at h2
    have h4 := Cal.ms_28 m
    have h5 := Cal.low_bd (m : Int) hAt.d0
    unfold Cal.nthM at h2
    omega
end Go.Proofs.Ytnbfkdcpghkglaa
/-
  A plan by a number: the document's own Plan. No conditions.
-/
namespace Go.Proofs.Ytnbfkdcpghkglaa
set_option maxRecDepth 20000
open Go.ChangeShapes Go.WideShapes Go.ChangeAt Go.RowKit

def Pv.price (r : Nat) : Int := if r = 0 then 1000 else if r = 1 then 0 else if r = 2 then 2999 else 1
def Pv.free (r : Nat) : Int := if r = 2 then 10 else if r = 3 then 3 else 0
/-- A plan by a number. -/
def Pv.of (n : Int) : Pv := ⟨Pv.price (n % 4).toNat, n / 4 % 4, 1 + n / 16 % 3, Pv.free (n / 48 % 4).toNat, n % 3 == 1, n % 7 == 3⟩
theorem Pv.of_bd (n : Int) : (0 ≤ (Pv.of n).a ∧ (Pv.of n).a ≤ 2999) ∧ (0 ≤ (Pv.of n).u ∧ (Pv.of n).u ≤ 3) ∧ (1 ≤ (Pv.of n).e ∧ (Pv.of n).e ≤ 3) ∧ (0 ≤ (Pv.of n).t ∧ (Pv.of n).t ≤ 10) := by
  refine ⟨?_, ?_, ?_, ?_⟩
  · show 0 ≤ Pv.price _ ∧ Pv.price _ ≤ 2999
    unfold Pv.price; split <;> (try split) <;> (try split) <;> omega
  · show 0 ≤ n / 4 % 4 ∧ n / 4 % 4 ≤ 3
    omega
  · show 1 ≤ 1 + n / 16 % 3 ∧ 1 + n / 16 % 3 ≤ 3
    omega
  · show 0 ≤ Pv.free _ ∧ Pv.free _ ≤ 10
    unfold Pv.free; split <;> (try split) <;> omega
theorem price_cells {w : World} {t : TypeId} {g : Nat} (h : w.heap[g]? = some (.cells #[.int .i64 1000, .int .i64 0, .int .i64 2999, .int .i64 1] t (0, 0))) (r : Nat) (hr : r < 4) : w.cell? ⟨g, r, none⟩ = some (.int .i64 (Pv.price r)) := by
  rw [cell_of_row _ _ _ _ _ _ h]
  have : r = 0 ∨ r = 1 ∨ r = 2 ∨ r = 3 := by omega
  rcases this with rfl | rfl | rfl | rfl <;> rfl
theorem free_cells {w : World} {t : TypeId} {g : Nat} (h : w.heap[g]? = some (.cells #[.int .i64 0, .int .i64 0, .int .i64 10, .int .i64 3] t (0, 0))) (r : Nat) (hr : r < 4) : w.cell? ⟨g, r, none⟩ = some (.int .i64 (Pv.free r)) := by
  rw [cell_of_row _ _ _ _ _ _ h]
  have : r = 0 ∨ r = 1 ∨ r = 2 ∨ r = 3 := by omega
  rcases this with rfl | rfl | rfl | rfl <;> rfl
set_option maxHeartbeats 4000000 in
theorem plan12_any (n : Int) (h0 : 0 ≤ n) (h1 : n < 256) (w : World) : Calls Try.prog 21 #[.int .u8 n] w fun e w' => e = .returned (.agg (Pv.of n).arr) ∧ Below w.heap.size w w' := by
  have e1 := Int.tmod_eq_emod_of_nonneg (b := 4) h0
  have e2 : n.tdiv 4 = n / 4 := Int.tdiv_eq_ediv_of_nonneg h0
  have e3 : n.tdiv 16 = n / 16 := Int.tdiv_eq_ediv_of_nonneg h0
  have e4 : n.tdiv 48 = n / 48 := Int.tdiv_eq_ediv_of_nonneg h0
  have e5 : (n / 4).tmod 4 = n / 4 % 4 := Int.tmod_eq_emod_of_nonneg (by omega)
  have e6 : (n / 16).tmod 3 = n / 16 % 3 := Int.tmod_eq_emod_of_nonneg (by omega)
  have e7 : (n / 48).tmod 4 = n / 48 % 4 := Int.tmod_eq_emod_of_nonneg (by omega)
  have e8 := Int.tmod_eq_emod_of_nonneg (b := 3) h0
  have e9 := Int.tmod_eq_emod_of_nonneg (b := 7) h0
  have W1 : Hid (IntKind.u8.wrap (n / 16) = n / 16) := by show _ = _; simp [IntKind.wrap, IntKind.bits, IntKind.signed]; omega
  have W2 : Hid (IntKind.u8.wrap (n / 4) = n / 4) := by show _ = _; simp [IntKind.wrap, IntKind.bits, IntKind.signed]; omega
  have W3 : Hid (IntKind.u8.wrap (n / 48) = n / 48) := by show _ = _; simp [IntKind.wrap, IntKind.bits, IntKind.signed]; omega
  have W4 : Hid (IntKind.i64.wrap (n / 16 % 3) = n / 16 % 3) := by show _ = _; rw [IntKind.wrap_i64]; omega
  have W5 : Hid (IntKind.i64.wrap (1 + n / 16 % 3) = 1 + n / 16 % 3) := by show _ = _; rw [IntKind.wrap_i64]; omega
  go_enter Try.func21, Try.ntmps21
  go_wp2_with (fail)
  have HS0 : Hid ((fun _ : World => True) w) := trivial
  refine lane_start (ord := [1, 2, 5, 6, 7, 8, 9, 10, 11, 12, 14, 15, 16, 19, 20, 21, 22, 23, 24, 0, 3, 4, 13, 17, 18, 25, 26]) (S := fun _ => True) rfl (by kernel_rfl) trivial (fun _ => ?_)
  iterate 19 (refine lane_take (v := ?_) rfl (by kernel_rfl) (by kernel_rfl) (by rfl) ?_ (by exact HS0.out) ?_; rotate_left; (focus (intro W hSw; go_simp; try (with_reducible rfl))); simp only [Act.put, List.setIfInBounds_toArray, List.set_cons_zero, List.set_cons_succ])
  rw [W2.out, W1.out, W3.out, e5, e6, e7, W4.out, W5.out]
  obtain ⟨r, hr⟩ : ∃ r : Nat, n % 4 = r := ⟨(n % 4).toNat, by omega⟩
  obtain ⟨s, hs⟩ : ∃ s : Nat, n / 48 % 4 = s := ⟨(n / 48 % 4).toNat, by omega⟩
  have hof : Pv.of n = ⟨Pv.price r, n / 4 % 4, 1 + n / 16 % 3, Pv.free s, n % 3 == 1, n % 7 == 3⟩ := by unfold Pv.of; rw [hr, hs, Int.toNat_natCast, Int.toNat_natCast]
  have HOF := Lib.hid hof
  rw [hr, hs]
  have r0 : (0 : Int) ≤ (r : Int) := by omega
  have r1 : (r : Int) < 4 := by omega
  have s0 : (0 : Int) ≤ (s : Int) := by omega
  have s1 : (s : Int) < 4 := by omega
  have r2 : r < 4 := by omega
  have s2 : s < 4 := by omega
  have HE := Lib.hid h1
  clear e1 e2 e3 e4 e5 e6 e7 e8 e9 hof hr hs
  refine lane_two (i := 0) (j := 13) (ordI := [3, 4, 13, 17, 18, 25, 26]) (ordJ := [17, 18, 0, 3, 4, 25, 26]) rfl rfl (by kernel_rfl) rfl (by rfl) (by rfl) (fun K hK => ?_) (fun K hK => ?_)
  · go_simp
    have hA0 : (((w.alloc (.cells #[.int .i64 0, .int .u8 0, .int .i64 0, .int .i64 0, .bool false, .bool false] 26)).alloc (.cells #[.int .i64 1000, .int .i64 0, .int .i64 2999, .int .i64 1] 2))).heap[w.heap.size + 1]? = some (.cells #[.int .i64 1000, .int .i64 0, .int .i64 2999, .int .i64 1] 2 (0, 0)) := alloc_at (by simp)
    have hZ0 : (((w.alloc (.cells #[.int .i64 0, .int .u8 0, .int .i64 0, .int .i64 0, .bool false, .bool false] 26)).alloc (.cells #[.int .i64 1000, .int .i64 0, .int .i64 2999, .int .i64 1] 2))).heap[w.heap.size]? = some (.cells #[.int .i64 0, .int .u8 0, .int .i64 0, .int .i64 0, .bool false, .bool false] 26 (0, 0)) := alloc_old (by simp) (alloc_at rfl)
    have hW0 : Below w.heap.size w (((w.alloc (.cells #[.int .i64 0, .int .u8 0, .int .i64 0, .int .i64 0, .bool false, .bool false] 26)).alloc (.cells #[.int .i64 1000, .int .i64 0, .int .i64 2999, .int .i64 1] 2))).drew := (((Below.refl _ w).alloc (Nat.le_refl _) _).alloc (by simp) _).drew
    have hA : (((w.alloc (.cells #[.int .i64 0, .int .u8 0, .int .i64 0, .int .i64 0, .bool false, .bool false] 26)).alloc (.cells #[.int .i64 1000, .int .i64 0, .int .i64 2999, .int .i64 1] 2))).drew.heap[w.heap.size + 1]? = some (.cells #[.int .i64 1000, .int .i64 0, .int .i64 2999, .int .i64 1] 2 (0, 0)) := hA0
    have hZ : (((w.alloc (.cells #[.int .i64 0, .int .u8 0, .int .i64 0, .int .i64 0, .bool false, .bool false] 26)).alloc (.cells #[.int .i64 1000, .int .i64 0, .int .i64 2999, .int .i64 1] 2))).drew.heap[w.heap.size]? = some (.cells #[.int .i64 0, .int .u8 0, .int .i64 0, .int .i64 0, .bool false, .bool false] 26 (0, 0)) := hZ0
    have hsz : (((w.alloc (.cells #[.int .i64 0, .int .u8 0, .int .i64 0, .int .i64 0, .bool false, .bool false] 26)).alloc (.cells #[.int .i64 1000, .int .i64 0, .int .i64 2999, .int .i64 1] 2))).drew.heap.size = w.heap.size + 1 + 1 := by show (((w.alloc (.cells #[.int .i64 0, .int .u8 0, .int .i64 0, .int .i64 0, .bool false, .bool false] 26)).alloc (.cells #[.int .i64 1000, .int .i64 0, .int .i64 2999, .int .i64 1] 2))).heap.size = _; simp
    refine hK _ _ trivial (fun _ => ?_)
    clear hK K
    obtain ⟨X, hX⟩ : ∃ X, (((w.alloc (.cells #[.int .i64 0, .int .u8 0, .int .i64 0, .int .i64 0, .bool false, .bool false] 26)).alloc (.cells #[.int .i64 1000, .int .i64 0, .int .i64 2999, .int .i64 1] 2))).drew = X := ⟨_, rfl⟩
    rw [hX] at hA hZ hW0 hsz ⊢
    clear hX hA0 hZ0
    have HW := Lib.hid hW0
    have HA := Lib.hid hA
    have HZ := Lib.hid hZ
    have HSZ := Lib.hid hsz
    clear hA hZ hW0 hsz
    refine lane_into (S' := fun w' => (∀ r : Nat, r < 4 → w'.cell? ⟨w.heap.size + 1, r, none⟩ = some (.int .i64 (Pv.price r))) ∧ True) (fun _ _ => trivial) ⟨price_cells HA.out, trivial⟩ (fun hS1 => ?_)
    have HS1 := Lib.hid hS1
    clear hS1
    iterate 2 (refine lane_take (v := ?_) rfl (by kernel_rfl) (by kernel_rfl) (by rfl) ?_ (by exact HS1.out) ?_; rotate_left; (focus (intro W hSw; have q0 := hSw.1 r r2; go_simp; try (with_reducible rfl))); simp only [Act.put, List.setIfInBounds_toArray, List.set_cons_zero, List.set_cons_succ])
    refine lane_alone rfl (by kernel_rfl) (by rfl) (fun K hK => ?_)
    go_simp
    have hA : (X.alloc (.cells #[.int .i64 0, .int .i64 0, .int .i64 10, .int .i64 3] 3)).heap[w.heap.size + 1]? = some (.cells #[.int .i64 1000, .int .i64 0, .int .i64 2999, .int .i64 1] 2 (0, 0)) := alloc_old (by have := HSZ.out; omega) HA.out
    have hB : (X.alloc (.cells #[.int .i64 0, .int .i64 0, .int .i64 10, .int .i64 3] 3)).heap[w.heap.size + 1 + 1]? = some (.cells #[.int .i64 0, .int .i64 0, .int .i64 10, .int .i64 3] 3 (0, 0)) := alloc_at HSZ.out.symm
    have hZ : (X.alloc (.cells #[.int .i64 0, .int .i64 0, .int .i64 10, .int .i64 3] 3)).heap[w.heap.size]? = some (.cells #[.int .i64 0, .int .u8 0, .int .i64 0, .int .i64 0, .bool false, .bool false] 26 (0, 0)) := alloc_old (by have := HSZ.out; omega) HZ.out
    have hW : Below w.heap.size w (X.alloc (.cells #[.int .i64 0, .int .i64 0, .int .i64 10, .int .i64 3] 3)) := HW.out.alloc (by have := HSZ.out; omega) _
    refine hK _ _ ⟨price_cells hA, trivial⟩ (fun _ => ?_)
    clear hK K
    rw [HSZ.out]
    obtain ⟨Y, hY⟩ : ∃ Y, X.alloc (.cells #[.int .i64 0, .int .i64 0, .int .i64 10, .int .i64 3] 3) = Y := ⟨_, rfl⟩
    rw [hY] at hA hB hZ hW ⊢
    clear hY HA HZ HW HSZ HS1
    have hzz : w.heap.size < Y.heap.size := (Array.getElem?_eq_some_iff.1 hZ).1
    have HW := Lib.hid hW
    have HA := Lib.hid hA
    have HB := Lib.hid hB
    have HZ := Lib.hid hZ
    clear hA hB hZ hW
    refine lane_into (S' := fun w' => ((∀ r : Nat, r < 4 → w'.cell? ⟨w.heap.size + 1, r, none⟩ = some (.int .i64 (Pv.price r))) ∧ True) ∧ (∀ r : Nat, r < 4 → w'.cell? ⟨w.heap.size + 1 + 1, r, none⟩ = some (.int .i64 (Pv.free r)))) (fun _ h => h.1) ⟨⟨price_cells HA.out, trivial⟩, free_cells HB.out⟩ (fun hS2 => ?_)
    have HS2 := Lib.hid hS2
    clear hS2
    iterate 3 (refine lane_take (v := ?_) rfl (by kernel_rfl) (by kernel_rfl) (by rfl) ?_ (by exact HS2.out) ?_; rotate_left; (focus (intro W hSw; have q0 := hSw.2 s s2; go_simp; try (with_reducible rfl))); simp only [Act.put, List.setIfInBounds_toArray, List.set_cons_zero, List.set_cons_succ])
    refine lane_alone rfl (by kernel_rfl) (by rfl) (fun K hK => ?_)
    refine wp_store_row _ _ _ rfl w.heap.size (Pv.of n).arr rfl (by rw [HOF.out]; rfl) _ _ HZ.out (by exact info6p) rfl (Pv.arr_one _) ?_
    rw [row_boxed HZ.out]
    refine hK _ _ ⟨⟨price_cells ((boxed_block_other (by omega)).trans HA.out), trivial⟩, free_cells ((boxed_block_other (by omega)).trans HB.out)⟩ (fun _ => ?_)
    clear hK K
    refine lane_end (by kernel_rfl) ?_
    go_wp2
    refine bodyPost_ret (results_cell_row rfl _ _ w.heap.size 26 _ (0, 0) _ rfl (boxed_at hzz) Try.underlying26 rfl (by exact info6p)) rfl ?_
    exact ⟨rfl, boxed_below HW.out (Nat.le_refl _)⟩
  · go_simp
    have hA0 : (((w.alloc (.cells #[.int .i64 0, .int .u8 0, .int .i64 0, .int .i64 0, .bool false, .bool false] 26)).alloc (.cells #[.int .i64 0, .int .i64 0, .int .i64 10, .int .i64 3] 3))).heap[w.heap.size + 1]? = some (.cells #[.int .i64 0, .int .i64 0, .int .i64 10, .int .i64 3] 3 (0, 0)) := alloc_at (by simp)
    have hZ0 : (((w.alloc (.cells #[.int .i64 0, .int .u8 0, .int .i64 0, .int .i64 0, .bool false, .bool false] 26)).alloc (.cells #[.int .i64 0, .int .i64 0, .int .i64 10, .int .i64 3] 3))).heap[w.heap.size]? = some (.cells #[.int .i64 0, .int .u8 0, .int .i64 0, .int .i64 0, .bool false, .bool false] 26 (0, 0)) := alloc_old (by simp) (alloc_at rfl)
    have hW0 : Below w.heap.size w (((w.alloc (.cells #[.int .i64 0, .int .u8 0, .int .i64 0, .int .i64 0, .bool false, .bool false] 26)).alloc (.cells #[.int .i64 0, .int .i64 0, .int .i64 10, .int .i64 3] 3))).drew := (((Below.refl _ w).alloc (Nat.le_refl _) _).alloc (by simp) _).drew
    have hA : (((w.alloc (.cells #[.int .i64 0, .int .u8 0, .int .i64 0, .int .i64 0, .bool false, .bool false] 26)).alloc (.cells #[.int .i64 0, .int .i64 0, .int .i64 10, .int .i64 3] 3))).drew.heap[w.heap.size + 1]? = some (.cells #[.int .i64 0, .int .i64 0, .int .i64 10, .int .i64 3] 3 (0, 0)) := hA0
    have hZ : (((w.alloc (.cells #[.int .i64 0, .int .u8 0, .int .i64 0, .int .i64 0, .bool false, .bool false] 26)).alloc (.cells #[.int .i64 0, .int .i64 0, .int .i64 10, .int .i64 3] 3))).drew.heap[w.heap.size]? = some (.cells #[.int .i64 0, .int .u8 0, .int .i64 0, .int .i64 0, .bool false, .bool false] 26 (0, 0)) := hZ0
    have hsz : (((w.alloc (.cells #[.int .i64 0, .int .u8 0, .int .i64 0, .int .i64 0, .bool false, .bool false] 26)).alloc (.cells #[.int .i64 0, .int .i64 0, .int .i64 10, .int .i64 3] 3))).drew.heap.size = w.heap.size + 1 + 1 := by show (((w.alloc (.cells #[.int .i64 0, .int .u8 0, .int .i64 0, .int .i64 0, .bool false, .bool false] 26)).alloc (.cells #[.int .i64 0, .int .i64 0, .int .i64 10, .int .i64 3] 3))).heap.size = _; simp
    refine hK _ _ trivial (fun _ => ?_)
    clear hK K
    obtain ⟨X, hX⟩ : ∃ X, (((w.alloc (.cells #[.int .i64 0, .int .u8 0, .int .i64 0, .int .i64 0, .bool false, .bool false] 26)).alloc (.cells #[.int .i64 0, .int .i64 0, .int .i64 10, .int .i64 3] 3))).drew = X := ⟨_, rfl⟩
    rw [hX] at hA hZ hW0 hsz ⊢
    clear hX hA0 hZ0
    have HW := Lib.hid hW0
    have HA := Lib.hid hA
    have HZ := Lib.hid hZ
    have HSZ := Lib.hid hsz
    clear hA hZ hW0 hsz
    refine lane_into (S' := fun w' => (∀ r : Nat, r < 4 → w'.cell? ⟨w.heap.size + 1, r, none⟩ = some (.int .i64 (Pv.free r))) ∧ True) (fun _ _ => trivial) ⟨free_cells HA.out, trivial⟩ (fun hS1 => ?_)
    have HS1 := Lib.hid hS1
    clear hS1
    iterate 2 (refine lane_take (v := ?_) rfl (by kernel_rfl) (by kernel_rfl) (by rfl) ?_ (by exact HS1.out) ?_; rotate_left; (focus (intro W hSw; have q0 := hSw.1 s s2; go_simp; try (with_reducible rfl))); simp only [Act.put, List.setIfInBounds_toArray, List.set_cons_zero, List.set_cons_succ])
    refine lane_alone rfl (by kernel_rfl) (by rfl) (fun K hK => ?_)
    go_simp
    have hA : (X.alloc (.cells #[.int .i64 1000, .int .i64 0, .int .i64 2999, .int .i64 1] 2)).heap[w.heap.size + 1]? = some (.cells #[.int .i64 0, .int .i64 0, .int .i64 10, .int .i64 3] 3 (0, 0)) := alloc_old (by have := HSZ.out; omega) HA.out
    have hB : (X.alloc (.cells #[.int .i64 1000, .int .i64 0, .int .i64 2999, .int .i64 1] 2)).heap[w.heap.size + 1 + 1]? = some (.cells #[.int .i64 1000, .int .i64 0, .int .i64 2999, .int .i64 1] 2 (0, 0)) := alloc_at HSZ.out.symm
    have hZ : (X.alloc (.cells #[.int .i64 1000, .int .i64 0, .int .i64 2999, .int .i64 1] 2)).heap[w.heap.size]? = some (.cells #[.int .i64 0, .int .u8 0, .int .i64 0, .int .i64 0, .bool false, .bool false] 26 (0, 0)) := alloc_old (by have := HSZ.out; omega) HZ.out
    have hW : Below w.heap.size w (X.alloc (.cells #[.int .i64 1000, .int .i64 0, .int .i64 2999, .int .i64 1] 2)) := HW.out.alloc (by have := HSZ.out; omega) _
    refine hK _ _ ⟨free_cells hA, trivial⟩ (fun _ => ?_)
    clear hK K
    rw [HSZ.out]
    obtain ⟨Y, hY⟩ : ∃ Y, X.alloc (.cells #[.int .i64 1000, .int .i64 0, .int .i64 2999, .int .i64 1] 2) = Y := ⟨_, rfl⟩
    rw [hY] at hA hB hZ hW ⊢
    clear hY HA HZ HW HSZ HS1
    have hzz : w.heap.size < Y.heap.size := (Array.getElem?_eq_some_iff.1 hZ).1
    have HW := Lib.hid hW
    have HA := Lib.hid hA
    have HB := Lib.hid hB
    have HZ := Lib.hid hZ
    clear hA hB hZ hW
    refine lane_into (S' := fun w' => ((∀ r : Nat, r < 4 → w'.cell? ⟨w.heap.size + 1, r, none⟩ = some (.int .i64 (Pv.free r))) ∧ True) ∧ (∀ r : Nat, r < 4 → w'.cell? ⟨w.heap.size + 1 + 1, r, none⟩ = some (.int .i64 (Pv.price r)))) (fun _ h => h.1) ⟨⟨free_cells HA.out, trivial⟩, price_cells HB.out⟩ (fun hS2 => ?_)
    have HS2 := Lib.hid hS2
    clear hS2
    iterate 3 (refine lane_take (v := ?_) rfl (by kernel_rfl) (by kernel_rfl) (by rfl) ?_ (by exact HS2.out) ?_; rotate_left; (focus (intro W hSw; have q0 := hSw.2 r r2; go_simp; try (with_reducible rfl))); simp only [Act.put, List.setIfInBounds_toArray, List.set_cons_zero, List.set_cons_succ])
    refine lane_alone rfl (by kernel_rfl) (by rfl) (fun K hK => ?_)
    refine wp_store_row _ _ _ rfl w.heap.size (Pv.of n).arr rfl (by rw [HOF.out]; rfl) _ _ HZ.out (by exact info6p) rfl (Pv.arr_one _) ?_
    rw [row_boxed HZ.out]
    refine hK _ _ ⟨⟨free_cells ((boxed_block_other (by omega)).trans HA.out), trivial⟩, price_cells ((boxed_block_other (by omega)).trans HB.out)⟩ (fun _ => ?_)
    clear hK K
    refine lane_end (by kernel_rfl) ?_
    go_wp2
    refine bodyPost_ret (results_cell_row rfl _ _ w.heap.size 26 _ (0, 0) _ rfl (boxed_at hzz) Try.underlying26 rfl (by exact info6p)) rfl ?_
    exact ⟨rfl, boxed_below HW.out (Nat.le_refl _)⟩
end Go.Proofs.Ytnbfkdcpghkglaa
