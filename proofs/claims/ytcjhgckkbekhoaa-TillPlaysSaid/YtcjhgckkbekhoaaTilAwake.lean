/-
  The document's example of a till. No conditions.
-/
import Derived.Test.YtcjhgckkbekhoaaTilLive
namespace Go.Proofs.Ytcjhgckkbekhoaa
set_option maxRecDepth 20000
set_option linter.unusedSimpArgs false
set_option linter.unusedVariables false
open Go.ChangeShapes Go.WideShapes Go.ChangeAt Go.RowKit

set_option maxHeartbeats 1000000 in
theorem tilAwake_any (w : World) : Calls Try.prog 13 #[] w fun e w' => e = .returned (.bool true) ∧ Below w.heap.size w w' := by
  have kk : ypok (1, 2, 1) := ⟨by decide, by decide, by decide⟩
  have kc : cpok (1, 2) := ⟨by decide, by decide⟩
  have k1 : (Lit.int .i64 1).wf = true := by decide
  go_enter Try.func13, Try.ntmps13
  go_wp2_with (fail)
  refine (tnew_live).mono ?_
  rintro e W1 ⟨rfl, hl, hz1⟩
  have HL1 := Lib.hid hl
  have l1 : w.heap.size ≤ W1.heap.size := hl.old.size
  clear hl hz1
  go_wp2_with (fail)
  have HLE : LiveO (TilB (w.heap.size + 4) .new 0) w (fun i => i = W1.heap.size) (W1.alloc (.cells #[.int .u8 1, .int .i64 1, .int .i64 2, .int .i64 1, .int .i64 100, .int .u8 0] 31)) := ((HL1.out).alloc (til_thing (w.heap.size + 4) .new 0) (.cells #[.int .u8 1, .int .i64 1, .int .i64 2, .int .i64 1, .int .i64 100, .int .u8 0] 31)).less (fun i hi => by have hi2 := hi; (try simp only [World.size_alloc, boxed_size]); (try simp only at hi2); (try simp only [false_or]); omega)
  have hNE : ∀ i, (fun i => i = W1.heap.size) i → i < (W1.alloc (.cells #[.int .u8 1, .int .i64 1, .int .i64 2, .int .i64 1, .int .i64 100, .int .u8 0] 31)).heap.size := fun i hi => by have hi2 := hi; (try simp only [World.size_alloc, boxed_size]); (try simp only at hi2); omega
  refine (tcharge_live HLE hNE kk (by omega) (fun _ => ⟨by decide, by decide⟩)).mono ?_
  rintro e W2 ⟨rfl, hl, hk⟩
  have hsz : (W1.alloc (.cells #[.int .u8 1, .int .i64 1, .int .i64 2, .int .i64 1, .int .i64 100, .int .u8 0] 31)).heap.size ≤ W2.heap.size := hk.size
  try simp only [World.size_alloc, boxed_size] at hsz
  have hb0 : W2.heap[W1.heap.size]? = some (.cells #[.int .u8 1, .int .i64 1, .int .i64 2, .int .i64 1, .int .i64 100, .int .u8 0] 31 (0, 0)) := hk.at_ (by simp) (alloc_at (by first | rfl | simp only [World.size_alloc, boxed_size]))
  have HL2 := Lib.hid hl
  have l2 : W1.heap.size + 1 ≤ W2.heap.size := by omega
  have : W1.heap.size < W2.heap.size := by omega
  clear hl hk hsz HLE hNE
  have e0 := boxed_self (w := W2) (hb0)
  rw [e0]
  clear e0 hb0
  go_wp2_with (fail)
  have HLE : LiveO (TilB (w.heap.size + 4) (Til.new.charge 1 2 1 100 (Til.told 1 100 1)) (0 + 4)) w (fun i => i = W1.heap.size) (boxed W2 W1.heap.size #[.int .u8 1, .int .i64 1, .int .i64 2, .int .i64 1, .int .i64 100, .int .u8 0] 31) := (HL2.out).boxed (til_thing (w.heap.size + 4) (Til.new.charge 1 2 1 100 (Til.told 1 100 1)) (0 + 4)) (g := W1.heap.size) (cs := #[.int .u8 1, .int .i64 1, .int .i64 2, .int .i64 1, .int .i64 100, .int .u8 0]) (t := 31) (by simp) (by omega)
  have hNE : ∀ i, (fun i => i = W1.heap.size) i → i < (boxed W2 W1.heap.size #[.int .u8 1, .int .i64 1, .int .i64 2, .int .i64 1, .int .i64 100, .int .u8 0] 31).heap.size := fun i hi => by have hi2 := hi; (try simp only [World.size_alloc, boxed_size]); (try simp only at hi2); omega
  refine (tcharge_live HLE hNE kk (by omega) (fun _ => ⟨by decide, by decide⟩)).mono ?_
  rintro e W3 ⟨rfl, hl, hk⟩
  have hsz : (boxed W2 W1.heap.size #[.int .u8 1, .int .i64 1, .int .i64 2, .int .i64 1, .int .i64 100, .int .u8 0] 31).heap.size ≤ W3.heap.size := hk.size
  try simp only [World.size_alloc, boxed_size] at hsz
  have hb0 : W3.heap[W1.heap.size]? = some (.cells #[.int .u8 1, .int .i64 1, .int .i64 2, .int .i64 1, .int .i64 100, .int .u8 0] 31 (0, 0)) := hk.at_ (by simp) (boxed_at (by (try simp only [boxed_size]); omega))
  have HL3 := Lib.hid hl
  have l3 : W2.heap.size + 0 ≤ W3.heap.size := by omega
  have : W1.heap.size < W3.heap.size := by omega
  clear hl hk hsz HLE hNE
  have e0 := boxed_self (w := W3) (hb0)
  rw [e0]
  clear e0 hb0
  have a1 : (Til.new.charge 1 2 1 100 (Til.told 1 100 1)).chargeA 1 2 1 (Til.told 1 100 3) = 1 := by decide
  rw [a1]
  clear a1
  go_wp2_with (fail)
  have HLE : LiveO (TilB (w.heap.size + 4) ((Til.new.charge 1 2 1 100 (Til.told 1 100 1)).charge 1 2 1 100 (Til.told 1 100 3)) (0 + 4 + 4)) w (fun i => i = W1.heap.size ∨ i = W3.heap.size) ((boxed W3 W1.heap.size #[.int .u8 2, .int .i64 1, .int .i64 2, .int .i64 1, .int .i64 100, .int .u8 0] 31).alloc (.cells #[.int .u8 1, .int .i64 1, .int .i64 2, .int .i64 1, .int .i64 100, .int .u8 1] 31)) := (((HL3.out).boxed (til_thing (w.heap.size + 4) ((Til.new.charge 1 2 1 100 (Til.told 1 100 1)).charge 1 2 1 100 (Til.told 1 100 3)) (0 + 4 + 4)) (g := W1.heap.size) (cs := #[.int .u8 2, .int .i64 1, .int .i64 2, .int .i64 1, .int .i64 100, .int .u8 0]) (t := 31) (by simp) (by omega)).alloc (til_thing (w.heap.size + 4) ((Til.new.charge 1 2 1 100 (Til.told 1 100 1)).charge 1 2 1 100 (Til.told 1 100 3)) (0 + 4 + 4)) (.cells #[.int .u8 1, .int .i64 1, .int .i64 2, .int .i64 1, .int .i64 100, .int .u8 1] 31)).less (fun i hi => by have hi2 := hi; (try simp only [World.size_alloc, boxed_size]); (try simp only at hi2); (try simp only [false_or]); omega)
  have hNE : ∀ i, (fun i => i = W1.heap.size ∨ i = W3.heap.size) i → i < ((boxed W3 W1.heap.size #[.int .u8 2, .int .i64 1, .int .i64 2, .int .i64 1, .int .i64 100, .int .u8 0] 31).alloc (.cells #[.int .u8 1, .int .i64 1, .int .i64 2, .int .i64 1, .int .i64 100, .int .u8 1] 31)).heap.size := fun i hi => by have hi2 := hi; (try simp only [World.size_alloc, boxed_size]); (try simp only at hi2); omega
  refine (trefund_live HLE hNE kc (by omega) (by decide)).mono ?_
  rintro e W4 ⟨rfl, hl, hk⟩
  have hsz : ((boxed W3 W1.heap.size #[.int .u8 2, .int .i64 1, .int .i64 2, .int .i64 1, .int .i64 100, .int .u8 0] 31).alloc (.cells #[.int .u8 1, .int .i64 1, .int .i64 2, .int .i64 1, .int .i64 100, .int .u8 1] 31)).heap.size ≤ W4.heap.size := hk.size
  try simp only [World.size_alloc, boxed_size] at hsz
  have hb0 : W4.heap[W1.heap.size]? = some (.cells #[.int .u8 2, .int .i64 1, .int .i64 2, .int .i64 1, .int .i64 100, .int .u8 0] 31 (0, 0)) := hk.at_ (by simp) (alloc_old (by (try simp only [World.size_alloc, boxed_size]); omega) (boxed_at (by (try simp only [boxed_size]); omega)))
  have hb1 : W4.heap[W3.heap.size]? = some (.cells #[.int .u8 1, .int .i64 1, .int .i64 2, .int .i64 1, .int .i64 100, .int .u8 1] 31 (0, 0)) := hk.at_ (by simp) (alloc_at (by first | rfl | simp only [World.size_alloc, boxed_size]))
  have HL4 := Lib.hid hl
  have l4 : W3.heap.size + 1 ≤ W4.heap.size := by omega
  have : W1.heap.size < W4.heap.size := by omega
  have : W3.heap.size < W4.heap.size := by omega
  have : W1.heap.size < W3.heap.size := by omega
  clear hl hk hsz HLE hNE
  have HB4_1 := Lib.hid hb1
  have c1_0 : W4.cell? ⟨W3.heap.size, 0, none⟩ = some (.int .u8 1) := by rw [cell_of_row _ _ _ _ _ _ hb1]; rfl
  have c1_1 : W4.cell? ⟨W3.heap.size, 1, none⟩ = some (.int .i64 1) := by rw [cell_of_row _ _ _ _ _ _ hb1]; rfl
  have c1_2 : W4.cell? ⟨W3.heap.size, 2, none⟩ = some (.int .i64 2) := by rw [cell_of_row _ _ _ _ _ _ hb1]; rfl
  have c1_3 : W4.cell? ⟨W3.heap.size, 3, none⟩ = some (.int .i64 1) := by rw [cell_of_row _ _ _ _ _ _ hb1]; rfl
  have c1_4 : W4.cell? ⟨W3.heap.size, 4, none⟩ = some (.int .i64 100) := by rw [cell_of_row _ _ _ _ _ _ hb1]; rfl
  have c1_5 : W4.cell? ⟨W3.heap.size, 5, none⟩ = some (.int .u8 1) := by rw [cell_of_row _ _ _ _ _ _ hb1]; rfl
  clear hb1
  have e0 := boxed_self (w := W4) (hb0)
  rw [e0]
  clear e0 hb0
  have a1 : ((Til.new.charge 1 2 1 100 (Til.told 1 100 1)).charge 1 2 1 100 (Til.told 1 100 3)).refundA 1 2 = 1 := by decide
  rw [a1]
  clear a1
  go_wp2_with (fail)
  have HLE : LiveO (TilB (w.heap.size + 4) (((Til.new.charge 1 2 1 100 (Til.told 1 100 1)).charge 1 2 1 100 (Til.told 1 100 3)).refund 1 2) (0 + 4 + 4 + 4)) w (fun i => i = W1.heap.size ∨ i = W3.heap.size ∨ i = W4.heap.size) ((boxed W4 W1.heap.size #[.int .u8 2, .int .i64 1, .int .i64 2, .int .i64 1, .int .i64 100, .int .u8 0] 31).alloc (.cells #[.int .u8 2, .int .i64 1, .int .i64 2, .int .i64 1, .int .i64 100, .int .u8 1] 31)) := (((HL4.out).boxed (til_thing (w.heap.size + 4) (((Til.new.charge 1 2 1 100 (Til.told 1 100 1)).charge 1 2 1 100 (Til.told 1 100 3)).refund 1 2) (0 + 4 + 4 + 4)) (g := W1.heap.size) (cs := #[.int .u8 2, .int .i64 1, .int .i64 2, .int .i64 1, .int .i64 100, .int .u8 0]) (t := 31) (by simp) (by omega)).alloc (til_thing (w.heap.size + 4) (((Til.new.charge 1 2 1 100 (Til.told 1 100 1)).charge 1 2 1 100 (Til.told 1 100 3)).refund 1 2) (0 + 4 + 4 + 4)) (.cells #[.int .u8 2, .int .i64 1, .int .i64 2, .int .i64 1, .int .i64 100, .int .u8 1] 31)).less (fun i hi => by have hi2 := hi; (try simp only [World.size_alloc, boxed_size]); (try simp only at hi2); (try simp only [false_or]); omega)
  have hNE : ∀ i, (fun i => i = W1.heap.size ∨ i = W3.heap.size ∨ i = W4.heap.size) i → i < ((boxed W4 W1.heap.size #[.int .u8 2, .int .i64 1, .int .i64 2, .int .i64 1, .int .i64 100, .int .u8 0] 31).alloc (.cells #[.int .u8 2, .int .i64 1, .int .i64 2, .int .i64 1, .int .i64 100, .int .u8 1] 31)).heap.size := fun i hi => by have hi2 := hi; (try simp only [World.size_alloc, boxed_size]); (try simp only at hi2); omega
  refine (entriesLen_live HLE (by omega)).mono ?_
  rintro e W5 ⟨A9, c9, rfl, hk⟩
  have hl := HLE.below (til_thing (w.heap.size + 4) (((Til.new.charge 1 2 1 100 (Til.told 1 100 1)).charge 1 2 1 100 (Til.told 1 100 3)).refund 1 2) (0 + 4 + 4 + 4)) hk
  have hsz : ((boxed W4 W1.heap.size #[.int .u8 2, .int .i64 1, .int .i64 2, .int .i64 1, .int .i64 100, .int .u8 0] 31).alloc (.cells #[.int .u8 2, .int .i64 1, .int .i64 2, .int .i64 1, .int .i64 100, .int .u8 1] 31)).heap.size ≤ W5.heap.size := hk.size
  try simp only [World.size_alloc, boxed_size] at hsz
  have hb0 : W5.heap[W1.heap.size]? = some (.cells #[.int .u8 2, .int .i64 1, .int .i64 2, .int .i64 1, .int .i64 100, .int .u8 0] 31 (0, 0)) := below_block hk (alloc_old (by (try simp only [World.size_alloc, boxed_size]); omega) (boxed_at (by (try simp only [boxed_size]); omega)))
  have hb1 : W5.heap[W3.heap.size]? = some (.cells #[.int .u8 1, .int .i64 1, .int .i64 2, .int .i64 1, .int .i64 100, .int .u8 1] 31 (0, 0)) := below_block hk (alloc_old (by (try simp only [World.size_alloc, boxed_size]); omega) (boxed_old (by omega) (HB4_1.out)))
  have hb2 : W5.heap[W4.heap.size]? = some (.cells #[.int .u8 2, .int .i64 1, .int .i64 2, .int .i64 1, .int .i64 100, .int .u8 1] 31 (0, 0)) := below_block hk (alloc_at (by first | rfl | simp only [World.size_alloc, boxed_size]))
  have HL5 := Lib.hid hl
  have l5 : W4.heap.size + 1 ≤ W5.heap.size := by omega
  have : W1.heap.size < W5.heap.size := by omega
  have : W3.heap.size < W5.heap.size := by omega
  have : W4.heap.size < W5.heap.size := by omega
  have : W1.heap.size < W4.heap.size := by omega
  have : W3.heap.size < W4.heap.size := by omega
  clear hl hk hsz HLE hNE HB4_1 c1_0 c1_1 c1_2 c1_3 c1_4 c1_5
  have HB5_1 := Lib.hid hb1
  have c1_0 : W5.cell? ⟨W3.heap.size, 0, none⟩ = some (.int .u8 1) := by rw [cell_of_row _ _ _ _ _ _ hb1]; rfl
  have c1_1 : W5.cell? ⟨W3.heap.size, 1, none⟩ = some (.int .i64 1) := by rw [cell_of_row _ _ _ _ _ _ hb1]; rfl
  have c1_2 : W5.cell? ⟨W3.heap.size, 2, none⟩ = some (.int .i64 2) := by rw [cell_of_row _ _ _ _ _ _ hb1]; rfl
  have c1_3 : W5.cell? ⟨W3.heap.size, 3, none⟩ = some (.int .i64 1) := by rw [cell_of_row _ _ _ _ _ _ hb1]; rfl
  have c1_4 : W5.cell? ⟨W3.heap.size, 4, none⟩ = some (.int .i64 100) := by rw [cell_of_row _ _ _ _ _ _ hb1]; rfl
  have c1_5 : W5.cell? ⟨W3.heap.size, 5, none⟩ = some (.int .u8 1) := by rw [cell_of_row _ _ _ _ _ _ hb1]; rfl
  clear hb1
  have HB5_2 := Lib.hid hb2
  have c2_0 : W5.cell? ⟨W4.heap.size, 0, none⟩ = some (.int .u8 2) := by rw [cell_of_row _ _ _ _ _ _ hb2]; rfl
  have c2_1 : W5.cell? ⟨W4.heap.size, 1, none⟩ = some (.int .i64 1) := by rw [cell_of_row _ _ _ _ _ _ hb2]; rfl
  have c2_2 : W5.cell? ⟨W4.heap.size, 2, none⟩ = some (.int .i64 2) := by rw [cell_of_row _ _ _ _ _ _ hb2]; rfl
  have c2_3 : W5.cell? ⟨W4.heap.size, 3, none⟩ = some (.int .i64 1) := by rw [cell_of_row _ _ _ _ _ _ hb2]; rfl
  have c2_4 : W5.cell? ⟨W4.heap.size, 4, none⟩ = some (.int .i64 100) := by rw [cell_of_row _ _ _ _ _ _ hb2]; rfl
  have c2_5 : W5.cell? ⟨W4.heap.size, 5, none⟩ = some (.int .u8 1) := by rw [cell_of_row _ _ _ _ _ _ hb2]; rfl
  clear hb2
  have e0 := boxed_self (w := W5) (hb0)
  rw [e0]
  clear e0 hb0
  have a1 : (((Til.new.charge 1 2 1 100 (Til.told 1 100 1)).charge 1 2 1 100 (Til.told 1 100 3)).refund 1 2).es.length = 2 := by decide
  rw [a1]
  clear a1
  go_wp2_with (fail)
  have HLE : LiveO (TilB (w.heap.size + 4) (((Til.new.charge 1 2 1 100 (Til.told 1 100 1)).charge 1 2 1 100 (Til.told 1 100 3)).refund 1 2) (0 + 4 + 4 + 4)) w (fun i => i = W1.heap.size ∨ i = W3.heap.size ∨ i = W4.heap.size) (boxed W5 W1.heap.size #[.int .u8 2, .int .i64 1, .int .i64 2, .int .i64 1, .int .i64 100, .int .u8 0] 31) := (HL5.out).boxed (til_thing (w.heap.size + 4) (((Til.new.charge 1 2 1 100 (Til.told 1 100 1)).charge 1 2 1 100 (Til.told 1 100 3)).refund 1 2) (0 + 4 + 4 + 4)) (g := W1.heap.size) (cs := #[.int .u8 2, .int .i64 1, .int .i64 2, .int .i64 1, .int .i64 100, .int .u8 0]) (t := 31) (by simp) (by omega)
  have hNE : ∀ i, (fun i => i = W1.heap.size ∨ i = W3.heap.size ∨ i = W4.heap.size) i → i < (boxed W5 W1.heap.size #[.int .u8 2, .int .i64 1, .int .i64 2, .int .i64 1, .int .i64 100, .int .u8 0] 31).heap.size := fun i hi => by have hi2 := hi; (try simp only [World.size_alloc, boxed_size]); (try simp only at hi2); omega
  refine (net_live HLE k1).mono ?_
  rintro e _ ⟨rfl, rfl⟩
  clear HLE hNE
  have a1 : ((((Til.new.charge 1 2 1 100 (Til.told 1 100 1)).charge 1 2 1 100 (Til.told 1 100 3)).refund 1 2).nt 1).getD 0 = 0 := by decide
  rw [a1]
  clear a1
  go_wp2
  go_ret
  exact ⟨rfl, boxed_below (HL5.out.old) (by omega)⟩
end Go.Proofs.Ytcjhgckkbekhoaa
