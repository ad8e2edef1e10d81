/-
  The document's example of a cart. No conditions.
-/
import Derived.Test.YtcjhgckkbekhoaaCrtLive
namespace Go.Proofs.Ytcjhgckkbekhoaa
set_option maxRecDepth 20000
set_option linter.unusedSimpArgs false
set_option linter.unusedVariables false
open Go.ChangeShapes Go.WideShapes Go.ChangeAt Go.RowKit

set_option maxHeartbeats 1000000 in
theorem crtAwake_any (w : World) : Calls Try.prog 25 #[] w fun e w' => e = .returned (.bool true) ∧ Below w.heap.size w w' := by
  have kk : tpok (1, 2) := ⟨by decide, by decide⟩
  go_enter Try.func25, Try.ntmps25
  go_wp2_with (fail)
  refine (cnew_live).mono ?_
  rintro e W1 ⟨rfl, hl, hz1⟩
  have HL1 := Lib.hid hl
  have l1 : w.heap.size ≤ W1.heap.size := hl.old.size
  clear hl hz1
  go_wp2_with (fail)
  have HLE : LiveO (CrtB (w.heap.size + 1) .new 0) w (fun i => i = W1.heap.size) (W1.alloc (.cells #[.int .u8 5, .int .i64 1, .int .i64 2, .int .i64 0, .int .i64 0, .int .u8 0] 31)) := ((HL1.out).alloc (crt_thing (w.heap.size + 1) .new 0) (.cells #[.int .u8 5, .int .i64 1, .int .i64 2, .int .i64 0, .int .i64 0, .int .u8 0] 31)).less (fun i hi => by have hi2 := hi; (try simp only [World.size_alloc, boxed_size]); (try simp only at hi2); (try simp only [false_or]); omega)
  have hNE : ∀ i, (fun i => i = W1.heap.size) i → i < (W1.alloc (.cells #[.int .u8 5, .int .i64 1, .int .i64 2, .int .i64 0, .int .i64 0, .int .u8 0] 31)).heap.size := fun i hi => by have hi2 := hi; (try simp only [World.size_alloc, boxed_size]); (try simp only at hi2); omega
  refine (chear_live HLE hNE kk (by omega)).mono ?_
  rintro e W2 ⟨rfl, hl, hk⟩
  have hsz : (W1.alloc (.cells #[.int .u8 5, .int .i64 1, .int .i64 2, .int .i64 0, .int .i64 0, .int .u8 0] 31)).heap.size ≤ W2.heap.size := hk.size
  try simp only [World.size_alloc, boxed_size] at hsz
  have hb0 : W2.heap[W1.heap.size]? = some (.cells #[.int .u8 5, .int .i64 1, .int .i64 2, .int .i64 0, .int .i64 0, .int .u8 0] 31 (0, 0)) := hk.at_ (by simp) (alloc_at (by first | rfl | simp only [World.size_alloc, boxed_size]))
  have HL2 := Lib.hid hl
  have l2 : W1.heap.size + 1 ≤ W2.heap.size := by omega
  have : W1.heap.size < W2.heap.size := by omega
  clear hl hk hsz HLE hNE
  have HB2_0 := Lib.hid hb0
  have c0_0 : W2.cell? ⟨W1.heap.size, 0, none⟩ = some (.int .u8 5) := by rw [cell_of_row _ _ _ _ _ _ hb0]; rfl
  have c0_1 : W2.cell? ⟨W1.heap.size, 1, none⟩ = some (.int .i64 1) := by rw [cell_of_row _ _ _ _ _ _ hb0]; rfl
  have c0_2 : W2.cell? ⟨W1.heap.size, 2, none⟩ = some (.int .i64 2) := by rw [cell_of_row _ _ _ _ _ _ hb0]; rfl
  have c0_3 : W2.cell? ⟨W1.heap.size, 3, none⟩ = some (.int .i64 0) := by rw [cell_of_row _ _ _ _ _ _ hb0]; rfl
  have c0_4 : W2.cell? ⟨W1.heap.size, 4, none⟩ = some (.int .i64 0) := by rw [cell_of_row _ _ _ _ _ _ hb0]; rfl
  have c0_5 : W2.cell? ⟨W1.heap.size, 5, none⟩ = some (.int .u8 0) := by rw [cell_of_row _ _ _ _ _ _ hb0]; rfl
  clear hb0
  have a1 : (Crt.new).ans (1, 2) 1 = 1 := by rfl
  rw [a1]
  clear a1
  go_wp2_with (fail)
  have HLE : LiveO (CrtB (w.heap.size + 1) (Crt.new.ship (1, 2) 1) (0 + 1)) w (fun i => i = W1.heap.size ∨ i = W2.heap.size) (W2.alloc (.cells #[.int .u8 5, .int .i64 1, .int .i64 2, .int .i64 0, .int .i64 0, .int .u8 1] 31)) := ((HL2.out).alloc (crt_thing (w.heap.size + 1) (Crt.new.ship (1, 2) 1) (0 + 1)) (.cells #[.int .u8 5, .int .i64 1, .int .i64 2, .int .i64 0, .int .i64 0, .int .u8 1] 31)).less (fun i hi => by have hi2 := hi; (try simp only [World.size_alloc, boxed_size]); (try simp only at hi2); (try simp only [false_or]); omega)
  have hNE : ∀ i, (fun i => i = W1.heap.size ∨ i = W2.heap.size) i → i < (W2.alloc (.cells #[.int .u8 5, .int .i64 1, .int .i64 2, .int .i64 0, .int .i64 0, .int .u8 1] 31)).heap.size := fun i hi => by have hi2 := hi; (try simp only [World.size_alloc, boxed_size]); (try simp only at hi2); omega
  refine (chear_live HLE hNE kk (by omega)).mono ?_
  rintro e W3 ⟨rfl, hl, hk⟩
  have hsz : (W2.alloc (.cells #[.int .u8 5, .int .i64 1, .int .i64 2, .int .i64 0, .int .i64 0, .int .u8 1] 31)).heap.size ≤ W3.heap.size := hk.size
  try simp only [World.size_alloc, boxed_size] at hsz
  have hb0 : W3.heap[W1.heap.size]? = some (.cells #[.int .u8 5, .int .i64 1, .int .i64 2, .int .i64 0, .int .i64 0, .int .u8 0] 31 (0, 0)) := hk.at_ (by simp) (alloc_old (by (try simp only [World.size_alloc, boxed_size]); omega) (HB2_0.out))
  have hb1 : W3.heap[W2.heap.size]? = some (.cells #[.int .u8 5, .int .i64 1, .int .i64 2, .int .i64 0, .int .i64 0, .int .u8 1] 31 (0, 0)) := hk.at_ (by simp) (alloc_at (by first | rfl | simp only [World.size_alloc, boxed_size]))
  have HL3 := Lib.hid hl
  have l3 : W2.heap.size + 1 ≤ W3.heap.size := by omega
  have : W1.heap.size < W3.heap.size := by omega
  have : W2.heap.size < W3.heap.size := by omega
  have : W1.heap.size < W2.heap.size := by omega
  clear hl hk hsz HLE hNE HB2_0 c0_0 c0_1 c0_2 c0_3 c0_4 c0_5
  have HB3_0 := Lib.hid hb0
  have c0_0 : W3.cell? ⟨W1.heap.size, 0, none⟩ = some (.int .u8 5) := by rw [cell_of_row _ _ _ _ _ _ hb0]; rfl
  have c0_1 : W3.cell? ⟨W1.heap.size, 1, none⟩ = some (.int .i64 1) := by rw [cell_of_row _ _ _ _ _ _ hb0]; rfl
  have c0_2 : W3.cell? ⟨W1.heap.size, 2, none⟩ = some (.int .i64 2) := by rw [cell_of_row _ _ _ _ _ _ hb0]; rfl
  have c0_3 : W3.cell? ⟨W1.heap.size, 3, none⟩ = some (.int .i64 0) := by rw [cell_of_row _ _ _ _ _ _ hb0]; rfl
  have c0_4 : W3.cell? ⟨W1.heap.size, 4, none⟩ = some (.int .i64 0) := by rw [cell_of_row _ _ _ _ _ _ hb0]; rfl
  have c0_5 : W3.cell? ⟨W1.heap.size, 5, none⟩ = some (.int .u8 0) := by rw [cell_of_row _ _ _ _ _ _ hb0]; rfl
  clear hb0
  have HB3_1 := Lib.hid hb1
  have c1_0 : W3.cell? ⟨W2.heap.size, 0, none⟩ = some (.int .u8 5) := by rw [cell_of_row _ _ _ _ _ _ hb1]; rfl
  have c1_1 : W3.cell? ⟨W2.heap.size, 1, none⟩ = some (.int .i64 1) := by rw [cell_of_row _ _ _ _ _ _ hb1]; rfl
  have c1_2 : W3.cell? ⟨W2.heap.size, 2, none⟩ = some (.int .i64 2) := by rw [cell_of_row _ _ _ _ _ _ hb1]; rfl
  have c1_3 : W3.cell? ⟨W2.heap.size, 3, none⟩ = some (.int .i64 0) := by rw [cell_of_row _ _ _ _ _ _ hb1]; rfl
  have c1_4 : W3.cell? ⟨W2.heap.size, 4, none⟩ = some (.int .i64 0) := by rw [cell_of_row _ _ _ _ _ _ hb1]; rfl
  have c1_5 : W3.cell? ⟨W2.heap.size, 5, none⟩ = some (.int .u8 1) := by rw [cell_of_row _ _ _ _ _ _ hb1]; rfl
  clear hb1
  have a1 : (Crt.new.ship (1, 2) 1).ans (1, 2) 3 = 1 := by rfl
  rw [a1]
  clear a1
  go_wp2_with (fail)
  have HLE : LiveO (CrtB (w.heap.size + 1) ((Crt.new.ship (1, 2) 1).ship (1, 2) 3) (0 + 1 + 1)) w (fun i => i = W1.heap.size ∨ i = W2.heap.size ∨ i = W3.heap.size) (W3.alloc (.cells #[.int .u8 5, .int .i64 1, .int .i64 2, .int .i64 0, .int .i64 0, .int .u8 1] 31)) := ((HL3.out).alloc (crt_thing (w.heap.size + 1) ((Crt.new.ship (1, 2) 1).ship (1, 2) 3) (0 + 1 + 1)) (.cells #[.int .u8 5, .int .i64 1, .int .i64 2, .int .i64 0, .int .i64 0, .int .u8 1] 31)).less (fun i hi => by have hi2 := hi; (try simp only [World.size_alloc, boxed_size]); (try simp only at hi2); (try simp only [false_or]); omega)
  have hNE : ∀ i, (fun i => i = W1.heap.size ∨ i = W2.heap.size ∨ i = W3.heap.size) i → i < (W3.alloc (.cells #[.int .u8 5, .int .i64 1, .int .i64 2, .int .i64 0, .int .i64 0, .int .u8 1] 31)).heap.size := fun i hi => by have hi2 := hi; (try simp only [World.size_alloc, boxed_size]); (try simp only at hi2); omega
  refine (sent_live HLE (by omega)).mono ?_
  rintro e W4 ⟨rfl, hk⟩
  have hl := HLE.below (crt_thing (w.heap.size + 1) ((Crt.new.ship (1, 2) 1).ship (1, 2) 3) (0 + 1 + 1)) hk
  have hsz : (W3.alloc (.cells #[.int .u8 5, .int .i64 1, .int .i64 2, .int .i64 0, .int .i64 0, .int .u8 1] 31)).heap.size ≤ W4.heap.size := hk.size
  try simp only [World.size_alloc, boxed_size] at hsz
  have hb0 : W4.heap[W1.heap.size]? = some (.cells #[.int .u8 5, .int .i64 1, .int .i64 2, .int .i64 0, .int .i64 0, .int .u8 0] 31 (0, 0)) := below_block hk (alloc_old (by (try simp only [World.size_alloc, boxed_size]); omega) (HB3_0.out))
  have hb1 : W4.heap[W2.heap.size]? = some (.cells #[.int .u8 5, .int .i64 1, .int .i64 2, .int .i64 0, .int .i64 0, .int .u8 1] 31 (0, 0)) := below_block hk (alloc_old (by (try simp only [World.size_alloc, boxed_size]); omega) (HB3_1.out))
  have hb2 : W4.heap[W3.heap.size]? = some (.cells #[.int .u8 5, .int .i64 1, .int .i64 2, .int .i64 0, .int .i64 0, .int .u8 1] 31 (0, 0)) := below_block hk (alloc_at (by first | rfl | simp only [World.size_alloc, boxed_size]))
  have HL4 := Lib.hid hl
  have l4 : W3.heap.size + 1 ≤ W4.heap.size := by omega
  have : W1.heap.size < W4.heap.size := by omega
  have : W2.heap.size < W4.heap.size := by omega
  have : W3.heap.size < W4.heap.size := by omega
  have : W1.heap.size < W3.heap.size := by omega
  have : W2.heap.size < W3.heap.size := by omega
  clear hl hk hsz HLE hNE HB3_0 c0_0 c0_1 c0_2 c0_3 c0_4 c0_5 HB3_1 c1_0 c1_1 c1_2 c1_3 c1_4 c1_5
  have HB4_0 := Lib.hid hb0
  have c0_0 : W4.cell? ⟨W1.heap.size, 0, none⟩ = some (.int .u8 5) := by rw [cell_of_row _ _ _ _ _ _ hb0]; rfl
  have c0_1 : W4.cell? ⟨W1.heap.size, 1, none⟩ = some (.int .i64 1) := by rw [cell_of_row _ _ _ _ _ _ hb0]; rfl
  have c0_2 : W4.cell? ⟨W1.heap.size, 2, none⟩ = some (.int .i64 2) := by rw [cell_of_row _ _ _ _ _ _ hb0]; rfl
  have c0_3 : W4.cell? ⟨W1.heap.size, 3, none⟩ = some (.int .i64 0) := by rw [cell_of_row _ _ _ _ _ _ hb0]; rfl
  have c0_4 : W4.cell? ⟨W1.heap.size, 4, none⟩ = some (.int .i64 0) := by rw [cell_of_row _ _ _ _ _ _ hb0]; rfl
  have c0_5 : W4.cell? ⟨W1.heap.size, 5, none⟩ = some (.int .u8 0) := by rw [cell_of_row _ _ _ _ _ _ hb0]; rfl
  clear hb0
  have HB4_1 := Lib.hid hb1
  have c1_0 : W4.cell? ⟨W2.heap.size, 0, none⟩ = some (.int .u8 5) := by rw [cell_of_row _ _ _ _ _ _ hb1]; rfl
  have c1_1 : W4.cell? ⟨W2.heap.size, 1, none⟩ = some (.int .i64 1) := by rw [cell_of_row _ _ _ _ _ _ hb1]; rfl
  have c1_2 : W4.cell? ⟨W2.heap.size, 2, none⟩ = some (.int .i64 2) := by rw [cell_of_row _ _ _ _ _ _ hb1]; rfl
  have c1_3 : W4.cell? ⟨W2.heap.size, 3, none⟩ = some (.int .i64 0) := by rw [cell_of_row _ _ _ _ _ _ hb1]; rfl
  have c1_4 : W4.cell? ⟨W2.heap.size, 4, none⟩ = some (.int .i64 0) := by rw [cell_of_row _ _ _ _ _ _ hb1]; rfl
  have c1_5 : W4.cell? ⟨W2.heap.size, 5, none⟩ = some (.int .u8 1) := by rw [cell_of_row _ _ _ _ _ _ hb1]; rfl
  clear hb1
  have HB4_2 := Lib.hid hb2
  have c2_0 : W4.cell? ⟨W3.heap.size, 0, none⟩ = some (.int .u8 5) := by rw [cell_of_row _ _ _ _ _ _ hb2]; rfl
  have c2_1 : W4.cell? ⟨W3.heap.size, 1, none⟩ = some (.int .i64 1) := by rw [cell_of_row _ _ _ _ _ _ hb2]; rfl
  have c2_2 : W4.cell? ⟨W3.heap.size, 2, none⟩ = some (.int .i64 2) := by rw [cell_of_row _ _ _ _ _ _ hb2]; rfl
  have c2_3 : W4.cell? ⟨W3.heap.size, 3, none⟩ = some (.int .i64 0) := by rw [cell_of_row _ _ _ _ _ _ hb2]; rfl
  have c2_4 : W4.cell? ⟨W3.heap.size, 4, none⟩ = some (.int .i64 0) := by rw [cell_of_row _ _ _ _ _ _ hb2]; rfl
  have c2_5 : W4.cell? ⟨W3.heap.size, 5, none⟩ = some (.int .u8 1) := by rw [cell_of_row _ _ _ _ _ _ hb2]; rfl
  clear hb2
  have a1 : sentOf ((Crt.new.ship (1, 2) 1).ship (1, 2) 3).trips (1, 2) = 1 := by rfl
  rw [a1]
  clear a1
  go_wp2
  go_ret
  exact ⟨rfl, HL4.out.old⟩
end Go.Proofs.Ytcjhgckkbekhoaa
