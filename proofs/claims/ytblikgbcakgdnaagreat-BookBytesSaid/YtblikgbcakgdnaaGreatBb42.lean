/-
  A plan by a number: the document's own Plan. No conditions.
-/
import Derived.Test.YtblikgbcakgdnaaGreatBb13
set_option linter.unusedSimpArgs false
set_option linter.unusedVariables false
namespace Go.Proofs.YtblikgbcakgdnaaGreat
set_option maxRecDepth 20000
open Go.ChangeShapes Go.WideShapes Go.ChangeAt Go.RowKit

def Pv.price (r : Nat) : Int := if r = 0 then 1000 else if r = 1 then 0 else if r = 2 then 2999 else 1
def Pv.free (r : Nat) : Int := if r = 2 then 10 else if r = 3 then 3 else 0
/-- A plan by a number. -/
def Pv.of (n : Int) : Pv := ⟨Pv.price (n % 4).toNat, n / 4 % 4, 1 + n / 16 % 3, Pv.free (n / 48 % 4).toNat, n % 3 == 1, n % 7 == 3⟩
theorem Pv.of_bd (n : Int) : (0 ≤ (Pv.of n).a ∧ (Pv.of n).a ≤ 2999) ∧ (0 ≤ (Pv.of n).u ∧ (Pv.of n).u ≤ 3) ∧ (1 ≤ (Pv.of n).e ∧ (Pv.of n).e ≤ 3) ∧ (0 ≤ (Pv.of n).t ∧ (Pv.of n).t ≤ 10) := by
  refine ⟨?_, ?_, ?_, ?_⟩
  · show 0 ≤ Pv.price _ ∧ Pv.price _ ≤ 2999
    unfold Pv.price; split <;> (try split) <;> (try split) <;> omega
  · show 0 ≤ n / 4 % 4 ∧ n / 4 % 4 ≤ 3
    omega
  · show 1 ≤ 1 + n / 16 % 3 ∧ 1 + n / 16 % 3 ≤ 3
    omega
  · show 0 ≤ Pv.free _ ∧ Pv.free _ ≤ 10
    unfold Pv.free; split <;> (try split) <;> omega
theorem price_cells {w : World} {t : TypeId} {g : Nat} (h : w.heap[g]? = some (.cells #[.int .i64 1000, .int .i64 0, .int .i64 2999, .int .i64 1] t (0, 0))) (r : Nat) (hr : r < 4) : w.cell? ⟨g, r, none⟩ = some (.int .i64 (Pv.price r)) := by
  rw [cell_of_row _ _ _ _ _ _ h]
  have : r = 0 ∨ r = 1 ∨ r = 2 ∨ r = 3 := by omega
  rcases this with rfl | rfl | rfl | rfl <;> rfl
theorem free_cells {w : World} {t : TypeId} {g : Nat} (h : w.heap[g]? = some (.cells #[.int .i64 0, .int .i64 0, .int .i64 10, .int .i64 3] t (0, 0))) (r : Nat) (hr : r < 4) : w.cell? ⟨g, r, none⟩ = some (.int .i64 (Pv.free r)) := by
  rw [cell_of_row _ _ _ _ _ _ h]
  have : r = 0 ∨ r = 1 ∨ r = 2 ∨ r = 3 := by omega
  rcases this with rfl | rfl | rfl | rfl <;> rfl
set_option maxHeartbeats 4000000 in
theorem plan12_any (n : Int) (h0 : 0 ≤ n) (h1 : n < 256) (w : World) : Calls Tryz.prog 21 #[.int .u8 n] w fun e w' => e = .returned (.agg (Pv.of n).arr) ∧ Below w.heap.size w w' := by
  have e1 := Int.tmod_eq_emod_of_nonneg (b := 4) h0
  have e2 : n.tdiv 4 = n / 4 := Int.tdiv_eq_ediv_of_nonneg h0
  have e3 : n.tdiv 16 = n / 16 := Int.tdiv_eq_ediv_of_nonneg h0
  have e4 : n.tdiv 48 = n / 48 := Int.tdiv_eq_ediv_of_nonneg h0
  have e5 : (n / 4).tmod 4 = n / 4 % 4 := Int.tmod_eq_emod_of_nonneg (by omega)
  have e6 : (n / 16).tmod 3 = n / 16 % 3 := Int.tmod_eq_emod_of_nonneg (by omega)
  have e7 : (n / 48).tmod 4 = n / 48 % 4 := Int.tmod_eq_emod_of_nonneg (by omega)
  have e8 := Int.tmod_eq_emod_of_nonneg (b := 3) h0
  have e9 := Int.tmod_eq_emod_of_nonneg (b := 7) h0
  have W1 : Hid (IntKind.u8.wrap (n / 16) = n / 16) := by show _ = _; simp [IntKind.wrap, IntKind.bits, IntKind.signed]; omega
  have W2 : Hid (IntKind.u8.wrap (n / 4) = n / 4) := by show _ = _; simp [IntKind.wrap, IntKind.bits, IntKind.signed]; omega
  have W3 : Hid (IntKind.u8.wrap (n / 48) = n / 48) := by show _ = _; simp [IntKind.wrap, IntKind.bits, IntKind.signed]; omega
  have W4 : Hid (IntKind.i64.wrap (n / 16 % 3) = n / 16 % 3) := by show _ = _; rw [IntKind.wrap_i64]; omega
  have W5 : Hid (IntKind.i64.wrap (1 + n / 16 % 3) = 1 + n / 16 % 3) := by show _ = _; rw [IntKind.wrap_i64]; omega
  go_enter Tryz.func21, Tryz.ntmps21
  go_wp2_with (fail)
  have HS0 : Hid ((fun _ : World => True) w) := trivial
  refine lane_start (ord := [1, 2, 5, 6, 7, 8, 9, 10, 11, 12, 14, 15, 16, 19, 20, 21, 22, 23, 24, 0, 3, 4, 13, 17, 18, 25, 26]) (S := fun _ => True) rfl (by kernel_rfl) trivial (fun _ => ?_)
  iterate 19 (refine lane_take (v := ?_) rfl (by kernel_rfl) (by kernel_rfl) (by rfl) ?_ (by exact HS0.out) ?_; rotate_left; (focus (intro W hSw; go_simp; try (with_reducible rfl))); simp only [Act.put, List.setIfInBounds_toArray, List.set_cons_zero, List.set_cons_succ])
  rw [W2.out, W1.out, W3.out, e5, e6, e7, W4.out, W5.out]
  obtain ⟨r, hr⟩ : ∃ r : Nat, n % 4 = r := ⟨(n % 4).toNat, by omega⟩
  obtain ⟨s, hs⟩ : ∃ s : Nat, n / 48 % 4 = s := ⟨(n / 48 % 4).toNat, by omega⟩
  have hof : Pv.of n = ⟨Pv.price r, n / 4 % 4, 1 + n / 16 % 3, Pv.free s, n % 3 == 1, n % 7 == 3⟩ := by unfold Pv.of; rw [hr, hs, Int.toNat_natCast, Int.toNat_natCast]
  have HOF := Lib.hid hof
  rw [hr, hs]
  have r0 : (0 : Int) ≤ (r : Int) := by omega
  have r1 : (r : Int) < 4 := by omega
  have s0 : (0 : Int) ≤ (s : Int) := by omega
  have s1 : (s : Int) < 4 := by omega
  have r2 : r < 4 := by omega
  have s2 : s < 4 := by omega
  have HE := Lib.hid h1
  clear e1 e2 e3 e4 e5 e6 e7 e8 e9 hof hr hs
  refine lane_two (i := 0) (j := 13) (ordI := [3, 4, 13, 17, 18, 25, 26]) (ordJ := [17, 18, 0, 3, 4, 25, 26]) rfl rfl (by kernel_rfl) rfl (by rfl) (by rfl) (fun K hK => ?_) (fun K hK => ?_)
  · go_simp
    have hA0 : (((w.alloc (.cells #[.int .i64 0, .int .u8 0, .int .i64 0, .int .i64 0, .bool false, .bool false] 44)).alloc (.cells #[.int .i64 1000, .int .i64 0, .int .i64 2999, .int .i64 1] 2))).heap[w.heap.size + 1]? = some (.cells #[.int .i64 1000, .int .i64 0, .int .i64 2999, .int .i64 1] 2 (0, 0)) := alloc_at (by simp)
    have hZ0 : (((w.alloc (.cells #[.int .i64 0, .int .u8 0, .int .i64 0, .int .i64 0, .bool false, .bool false] 44)).alloc (.cells #[.int .i64 1000, .int .i64 0, .int .i64 2999, .int .i64 1] 2))).heap[w.heap.size]? = some (.cells #[.int .i64 0, .int .u8 0, .int .i64 0, .int .i64 0, .bool false, .bool false] 44 (0, 0)) := alloc_old (by simp) (alloc_at rfl)
    have hW0 : Below w.heap.size w (((w.alloc (.cells #[.int .i64 0, .int .u8 0, .int .i64 0, .int .i64 0, .bool false, .bool false] 44)).alloc (.cells #[.int .i64 1000, .int .i64 0, .int .i64 2999, .int .i64 1] 2))).drew := (((Below.refl _ w).alloc (Nat.le_refl _) _).alloc (by simp) _).drew
    have hA : (((w.alloc (.cells #[.int .i64 0, .int .u8 0, .int .i64 0, .int .i64 0, .bool false, .bool false] 44)).alloc (.cells #[.int .i64 1000, .int .i64 0, .int .i64 2999, .int .i64 1] 2))).drew.heap[w.heap.size + 1]? = some (.cells #[.int .i64 1000, .int .i64 0, .int .i64 2999, .int .i64 1] 2 (0, 0)) := hA0
    have hZ : (((w.alloc (.cells #[.int .i64 0, .int .u8 0, .int .i64 0, .int .i64 0, .bool false, .bool false] 44)).alloc (.cells #[.int .i64 1000, .int .i64 0, .int .i64 2999, .int .i64 1] 2))).drew.heap[w.heap.size]? = some (.cells #[.int .i64 0, .int .u8 0, .int .i64 0, .int .i64 0, .bool false, .bool false] 44 (0, 0)) := hZ0
    have hsz : (((w.alloc (.cells #[.int .i64 0, .int .u8 0, .int .i64 0, .int .i64 0, .bool false, .bool false] 44)).alloc (.cells #[.int .i64 1000, .int .i64 0, .int .i64 2999, .int .i64 1] 2))).drew.heap.size = w.heap.size + 1 + 1 := by show (((w.alloc (.cells #[.int .i64 0, .int .u8 0, .int .i64 0, .int .i64 0, .bool false, .bool false] 44)).alloc (.cells #[.int .i64 1000, .int .i64 0, .int .i64 2999, .int .i64 1] 2))).heap.size = _; simp
    refine hK _ _ trivial (fun _ => ?_)
    clear hK K
    obtain ⟨X, hX⟩ : ∃ X, (((w.alloc (.cells #[.int .i64 0, .int .u8 0, .int .i64 0, .int .i64 0, .bool false, .bool false] 44)).alloc (.cells #[.int .i64 1000, .int .i64 0, .int .i64 2999, .int .i64 1] 2))).drew = X := ⟨_, rfl⟩
    rw [hX] at hA hZ hW0 hsz ⊢
    clear hX hA0 hZ0
    have HW := Lib.hid hW0
    have HA := Lib.hid hA
    have HZ := Lib.hid hZ
    have HSZ := Lib.hid hsz
    clear hA hZ hW0 hsz
    refine lane_into (S' := fun w' => (∀ r : Nat, r < 4 → w'.cell? ⟨w.heap.size + 1, r, none⟩ = some (.int .i64 (Pv.price r))) ∧ True) (fun _ _ => trivial) ⟨price_cells HA.out, trivial⟩ (fun hS1 => ?_)
    have HS1 := Lib.hid hS1
    clear hS1
    iterate 2 (refine lane_take (v := ?_) rfl (by kernel_rfl) (by kernel_rfl) (by rfl) ?_ (by exact HS1.out) ?_; rotate_left; (focus (intro W hSw; have q0 := hSw.1 r r2; go_simp; try (with_reducible rfl))); simp only [Act.put, List.setIfInBounds_toArray, List.set_cons_zero, List.set_cons_succ])
    refine lane_alone rfl (by kernel_rfl) (by rfl) (fun K hK => ?_)
    go_simp
    have hA : (X.alloc (.cells #[.int .i64 0, .int .i64 0, .int .i64 10, .int .i64 3] 3)).heap[w.heap.size + 1]? = some (.cells #[.int .i64 1000, .int .i64 0, .int .i64 2999, .int .i64 1] 2 (0, 0)) := alloc_old (by have := HSZ.out; omega) HA.out
    have hB : (X.alloc (.cells #[.int .i64 0, .int .i64 0, .int .i64 10, .int .i64 3] 3)).heap[w.heap.size + 1 + 1]? = some (.cells #[.int .i64 0, .int .i64 0, .int .i64 10, .int .i64 3] 3 (0, 0)) := alloc_at HSZ.out.symm
    have hZ : (X.alloc (.cells #[.int .i64 0, .int .i64 0, .int .i64 10, .int .i64 3] 3)).heap[w.heap.size]? = some (.cells #[.int .i64 0, .int .u8 0, .int .i64 0, .int .i64 0, .bool false, .bool false] 44 (0, 0)) := alloc_old (by have := HSZ.out; omega) HZ.out
    have hW : Below w.heap.size w (X.alloc (.cells #[.int .i64 0, .int .i64 0, .int .i64 10, .int .i64 3] 3)) := HW.out.alloc (by have := HSZ.out; omega) _
    refine hK _ _ ⟨price_cells hA, trivial⟩ (fun _ => ?_)
    clear hK K
    rw [HSZ.out]
    obtain ⟨Y, hY⟩ : ∃ Y, X.alloc (.cells #[.int .i64 0, .int .i64 0, .int .i64 10, .int .i64 3] 3) = Y := ⟨_, rfl⟩
    rw [hY] at hA hB hZ hW ⊢
    clear hY HA HZ HW HSZ HS1
    have hzz : w.heap.size < Y.heap.size := (Array.getElem?_eq_some_iff.1 hZ).1
    have HW := Lib.hid hW
    have HA := Lib.hid hA
    have HB := Lib.hid hB
    have HZ := Lib.hid hZ
    clear hA hB hZ hW
    refine lane_into (S' := fun w' => ((∀ r : Nat, r < 4 → w'.cell? ⟨w.heap.size + 1, r, none⟩ = some (.int .i64 (Pv.price r))) ∧ True) ∧ (∀ r : Nat, r < 4 → w'.cell? ⟨w.heap.size + 1 + 1, r, none⟩ = some (.int .i64 (Pv.free r)))) (fun _ h => h.1) ⟨⟨price_cells HA.out, trivial⟩, free_cells HB.out⟩ (fun hS2 => ?_)
    have HS2 := Lib.hid hS2
    clear hS2
    iterate 3 (refine lane_take (v := ?_) rfl (by kernel_rfl) (by kernel_rfl) (by rfl) ?_ (by exact HS2.out) ?_; rotate_left; (focus (intro W hSw; have q0 := hSw.2 s s2; go_simp; try (with_reducible rfl))); simp only [Act.put, List.setIfInBounds_toArray, List.set_cons_zero, List.set_cons_succ])
    refine lane_alone rfl (by kernel_rfl) (by rfl) (fun K hK => ?_)
    refine wp_store_row _ _ _ rfl w.heap.size (Pv.of n).arr rfl (by rw [HOF.out]; rfl) _ _ HZ.out (by exact info6p) rfl (Pv.arr_one _) ?_
    rw [row_boxed HZ.out]
    refine hK _ _ ⟨⟨price_cells ((boxed_block_other (by omega)).trans HA.out), trivial⟩, free_cells ((boxed_block_other (by omega)).trans HB.out)⟩ (fun _ => ?_)
    clear hK K
    refine lane_end (by kernel_rfl) ?_
    go_wp2
    refine bodyPost_ret (results_cell_row rfl _ _ w.heap.size 44 _ (0, 0) _ rfl (boxed_at hzz) Tryz.underlying44 rfl (by exact info6p)) rfl ?_
    exact ⟨rfl, boxed_below HW.out (Nat.le_refl _)⟩
  · go_simp
    have hA0 : (((w.alloc (.cells #[.int .i64 0, .int .u8 0, .int .i64 0, .int .i64 0, .bool false, .bool false] 44)).alloc (.cells #[.int .i64 0, .int .i64 0, .int .i64 10, .int .i64 3] 3))).heap[w.heap.size + 1]? = some (.cells #[.int .i64 0, .int .i64 0, .int .i64 10, .int .i64 3] 3 (0, 0)) := alloc_at (by simp)
    have hZ0 : (((w.alloc (.cells #[.int .i64 0, .int .u8 0, .int .i64 0, .int .i64 0, .bool false, .bool false] 44)).alloc (.cells #[.int .i64 0, .int .i64 0, .int .i64 10, .int .i64 3] 3))).heap[w.heap.size]? = some (.cells #[.int .i64 0, .int .u8 0, .int .i64 0, .int .i64 0, .bool false, .bool false] 44 (0, 0)) := alloc_old (by simp) (alloc_at rfl)
    have hW0 : Below w.heap.size w (((w.alloc (.cells #[.int .i64 0, .int .u8 0, .int .i64 0, .int .i64 0, .bool false, .bool false] 44)).alloc (.cells #[.int .i64 0, .int .i64 0, .int .i64 10, .int .i64 3] 3))).drew := (((Below.refl _ w).alloc (Nat.le_refl _) _).alloc (by simp) _).drew
    have hA : (((w.alloc (.cells #[.int .i64 0, .int .u8 0, .int .i64 0, .int .i64 0, .bool false, .bool false] 44)).alloc (.cells #[.int .i64 0, .int .i64 0, .int .i64 10, .int .i64 3] 3))).drew.heap[w.heap.size + 1]? = some (.cells #[.int .i64 0, .int .i64 0, .int .i64 10, .int .i64 3] 3 (0, 0)) := hA0
    have hZ : (((w.alloc (.cells #[.int .i64 0, .int .u8 0, .int .i64 0, .int .i64 0, .bool false, .bool false] 44)).alloc (.cells #[.int .i64 0, .int .i64 0, .int .i64 10, .int .i64 3] 3))).drew.heap[w.heap.size]? = some (.cells #[.int .i64 0, .int .u8 0, .int .i64 0, .int .i64 0, .bool false, .bool false] 44 (0, 0)) := hZ0
    have hsz : (((w.alloc (.cells #[.int .i64 0, .int .u8 0, .int .i64 0, .int .i64 0, .bool false, .bool false] 44)).alloc (.cells #[.int .i64 0, .int .i64 0, .int .i64 10, .int .i64 3] 3))).drew.heap.size = w.heap.size + 1 + 1 := by show (((w.alloc (.cells #[.int .i64 0, .int .u8 0, .int .i64 0, .int .i64 0, .bool false, .bool false] 44)).alloc (.cells #[.int .i64 0, .int .i64 0, .int .i64 10, .int .i64 3] 3))).heap.size = _; simp
    refine hK _ _ trivial (fun _ => ?_)
    clear hK K
    obtain ⟨X, hX⟩ : ∃ X, (((w.alloc (.cells #[.int .i64 0, .int .u8 0, .int .i64 0, .int .i64 0, .bool false, .bool false] 44)).alloc (.cells #[.int .i64 0, .int .i64 0, .int .i64 10, .int .i64 3] 3))).drew = X := ⟨_, rfl⟩
    rw [hX] at hA hZ hW0 hsz ⊢
    clear hX hA0 hZ0
    have HW := Lib.hid hW0
    have HA := Lib.hid hA
    have HZ := Lib.hid hZ
    have HSZ := Lib.hid hsz
    clear hA hZ hW0 hsz
    refine lane_into (S' := fun w' => (∀ r : Nat, r < 4 → w'.cell? ⟨w.heap.size + 1, r, none⟩ = some (.int .i64 (Pv.free r))) ∧ True) (fun _ _ => trivial) ⟨free_cells HA.out, trivial⟩ (fun hS1 => ?_)
    have HS1 := Lib.hid hS1
    clear hS1
    iterate 2 (refine lane_take (v := ?_) rfl (by kernel_rfl) (by kernel_rfl) (by rfl) ?_ (by exact HS1.out) ?_; rotate_left; (focus (intro W hSw; have q0 := hSw.1 s s2; go_simp; try (with_reducible rfl))); simp only [Act.put, List.setIfInBounds_toArray, List.set_cons_zero, List.set_cons_succ])
    refine lane_alone rfl (by kernel_rfl) (by rfl) (fun K hK => ?_)
    go_simp
    have hA : (X.alloc (.cells #[.int .i64 1000, .int .i64 0, .int .i64 2999, .int .i64 1] 2)).heap[w.heap.size + 1]? = some (.cells #[.int .i64 0, .int .i64 0, .int .i64 10, .int .i64 3] 3 (0, 0)) := alloc_old (by have := HSZ.out; omega) HA.out
    have hB : (X.alloc (.cells #[.int .i64 1000, .int .i64 0, .int .i64 2999, .int .i64 1] 2)).heap[w.heap.size + 1 + 1]? = some (.cells #[.int .i64 1000, .int .i64 0, .int .i64 2999, .int .i64 1] 2 (0, 0)) := alloc_at HSZ.out.symm
    have hZ : (X.alloc (.cells #[.int .i64 1000, .int .i64 0, .int .i64 2999, .int .i64 1] 2)).heap[w.heap.size]? = some (.cells #[.int .i64 0, .int .u8 0, .int .i64 0, .int .i64 0, .bool false, .bool false] 44 (0, 0)) := alloc_old (by have := HSZ.out; omega) HZ.out
    have hW : Below w.heap.size w (X.alloc (.cells #[.int .i64 1000, .int .i64 0, .int .i64 2999, .int .i64 1] 2)) := HW.out.alloc (by have := HSZ.out; omega) _
    refine hK _ _ ⟨free_cells hA, trivial⟩ (fun _ => ?_)
    clear hK K
    rw [HSZ.out]
    obtain ⟨Y, hY⟩ : ∃ Y, X.alloc (.cells #[.int .i64 1000, .int .i64 0, .int .i64 2999, .int .i64 1] 2) = Y := ⟨_, rfl⟩
    rw [hY] at hA hB hZ hW ⊢
    clear hY HA HZ HW HSZ HS1
    have hzz : w.heap.size < Y.heap.size := (Array.getElem?_eq_some_iff.1 hZ).1
    have HW := Lib.hid hW
    have HA := Lib.hid hA
    have HB := Lib.hid hB
    have HZ := Lib.hid hZ
    clear hA hB hZ hW
    refine lane_into (S' := fun w' => ((∀ r : Nat, r < 4 → w'.cell? ⟨w.heap.size + 1, r, none⟩ = some (.int .i64 (Pv.free r))) ∧ True) ∧ (∀ r : Nat, r < 4 → w'.cell? ⟨w.heap.size + 1 + 1, r, none⟩ = some (.int .i64 (Pv.price r)))) (fun _ h => h.1) ⟨⟨free_cells HA.out, trivial⟩, price_cells HB.out⟩ (fun hS2 => ?_)
    have HS2 := Lib.hid hS2
    clear hS2
    iterate 3 (refine lane_take (v := ?_) rfl (by kernel_rfl) (by kernel_rfl) (by rfl) ?_ (by exact HS2.out) ?_; rotate_left; (focus (intro W hSw; have q0 := hSw.2 r r2; go_simp; try (with_reducible rfl))); simp only [Act.put, List.setIfInBounds_toArray, List.set_cons_zero, List.set_cons_succ])
    refine lane_alone rfl (by kernel_rfl) (by rfl) (fun K hK => ?_)
    refine wp_store_row _ _ _ rfl w.heap.size (Pv.of n).arr rfl (by rw [HOF.out]; rfl) _ _ HZ.out (by exact info6p) rfl (Pv.arr_one _) ?_
    rw [row_boxed HZ.out]
    refine hK _ _ ⟨⟨free_cells ((boxed_block_other (by omega)).trans HA.out), trivial⟩, price_cells ((boxed_block_other (by omega)).trans HB.out)⟩ (fun _ => ?_)
    clear hK K
    refine lane_end (by kernel_rfl) ?_
    go_wp2
    refine bodyPost_ret (results_cell_row rfl _ _ w.heap.size 44 _ (0, 0) _ rfl (boxed_at hzz) Tryz.underlying44 rfl (by exact info6p)) rfl ?_
    exact ⟨rfl, boxed_below HW.out (Nat.le_refl _)⟩
end Go.Proofs.YtblikgbcakgdnaaGreat
