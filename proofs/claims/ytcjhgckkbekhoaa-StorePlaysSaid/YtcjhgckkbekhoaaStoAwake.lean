/-
  The document's example of a store. No conditions.
-/
import Derived.Test.YtcjhgckkbekhoaaStoLive
namespace Go.Proofs.Ytcjhgckkbekhoaa
set_option maxRecDepth 20000
set_option linter.unusedSimpArgs false
set_option linter.unusedVariables false
open Go.ChangeShapes Go.WideShapes Go.ChangeAt Go.RowKit

set_option maxHeartbeats 1000000 in
theorem stoAwake_any (w : World) : Calls Try.prog 20 #[] w fun e w' => e = .returned (.bool true) ∧ Below w.heap.size w w' := by
  have kk : pok (1, 2) := ⟨by decide, by decide⟩
  go_enter Try.func20, Try.ntmps20
  go_wp2_with (fail)
  refine (snew_live).mono ?_
  rintro e W1 ⟨rfl, hl, hz1⟩
  have HL1 := Lib.hid hl
  have l1 : w.heap.size ≤ W1.heap.size := hl.old.size
  clear hl hz1
  go_wp2_with (fail)
  have HLE : LiveO (StoB (w.heap.size + 2) .new 0) w (fun i => i = W1.heap.size) (W1.alloc (.cells #[.int .u8 3, .int .i64 1, .int .i64 2, .int .i64 0, .int .i64 0, .int .u8 0] 31)) := ((HL1.out).alloc (sto_thing (w.heap.size + 2) .new 0) (.cells #[.int .u8 3, .int .i64 1, .int .i64 2, .int .i64 0, .int .i64 0, .int .u8 0] 31)).less (fun i hi => by have hi2 := hi; (try simp only [World.size_alloc, boxed_size]); (try simp only at hi2); (try simp only [false_or]); omega)
  have hNE : ∀ i, (fun i => i = W1.heap.size) i → i < (W1.alloc (.cells #[.int .u8 3, .int .i64 1, .int .i64 2, .int .i64 0, .int .i64 0, .int .u8 0] 31)).heap.size := fun i hi => by have hi2 := hi; (try simp only [World.size_alloc, boxed_size]); (try simp only at hi2); omega
  refine (shear_alloc_live HLE hNE kk (by omega)).mono ?_
  rintro e W2 ⟨rfl, hl, hk⟩
  have hsz : (W1.alloc (.cells #[.int .u8 3, .int .i64 1, .int .i64 2, .int .i64 0, .int .i64 0, .int .u8 0] 31)).heap.size ≤ W2.heap.size := hk.size
  try simp only [World.size_alloc, boxed_size] at hsz
  have hb0 : W2.heap[W1.heap.size]? = some (.cells #[.int .u8 3, .int .i64 1, .int .i64 2, .int .i64 0, .int .i64 0, .int .u8 0] 31 (0, 0)) := hk.at_ (by simp) (alloc_at (by first | rfl | simp only [World.size_alloc, boxed_size]))
  have HL2 := Lib.hid hl
  have l2 : W1.heap.size + 1 ≤ W2.heap.size := by omega
  have : W1.heap.size < W2.heap.size := by omega
  clear hl hk hsz HLE hNE
  have e0 := boxed_self (w := W2) (hb0)
  rw [e0]
  clear e0 hb0
  have a1 : (Sto.new).ans (1, 2) 1 = 1 := by rfl
  rw [a1]
  clear a1
  go_wp2_with (fail)
  have HLE : LiveO (StoB (w.heap.size + 2) (Sto.new.alloc (1, 2) 1) (0 + 2)) w (fun i => i = W1.heap.size ∨ i = W2.heap.size) ((boxed W2 W1.heap.size #[.int .u8 3, .int .i64 1, .int .i64 2, .int .i64 0, .int .i64 0, .int .u8 0] 31).alloc (.cells #[.int .u8 3, .int .i64 1, .int .i64 2, .int .i64 0, .int .i64 0, .int .u8 1] 31)) := (((HL2.out).boxed (sto_thing (w.heap.size + 2) (Sto.new.alloc (1, 2) 1) (0 + 2)) (g := W1.heap.size) (cs := #[.int .u8 3, .int .i64 1, .int .i64 2, .int .i64 0, .int .i64 0, .int .u8 0]) (t := 31) (by simp) (by omega)).alloc (sto_thing (w.heap.size + 2) (Sto.new.alloc (1, 2) 1) (0 + 2)) (.cells #[.int .u8 3, .int .i64 1, .int .i64 2, .int .i64 0, .int .i64 0, .int .u8 1] 31)).less (fun i hi => by have hi2 := hi; (try simp only [World.size_alloc, boxed_size]); (try simp only at hi2); (try simp only [false_or]); omega)
  have hNE : ∀ i, (fun i => i = W1.heap.size ∨ i = W2.heap.size) i → i < ((boxed W2 W1.heap.size #[.int .u8 3, .int .i64 1, .int .i64 2, .int .i64 0, .int .i64 0, .int .u8 0] 31).alloc (.cells #[.int .u8 3, .int .i64 1, .int .i64 2, .int .i64 0, .int .i64 0, .int .u8 1] 31)).heap.size := fun i hi => by have hi2 := hi; (try simp only [World.size_alloc, boxed_size]); (try simp only at hi2); omega
  refine (aside_live HLE kk).mono ?_
  rintro e W3 ⟨rfl, hk⟩
  have hl := HLE.below (sto_thing (w.heap.size + 2) (Sto.new.alloc (1, 2) 1) (0 + 2)) hk
  have hsz : ((boxed W2 W1.heap.size #[.int .u8 3, .int .i64 1, .int .i64 2, .int .i64 0, .int .i64 0, .int .u8 0] 31).alloc (.cells #[.int .u8 3, .int .i64 1, .int .i64 2, .int .i64 0, .int .i64 0, .int .u8 1] 31)).heap.size ≤ W3.heap.size := hk.size
  try simp only [World.size_alloc, boxed_size] at hsz
  have hb0 : W3.heap[W1.heap.size]? = some (.cells #[.int .u8 3, .int .i64 1, .int .i64 2, .int .i64 0, .int .i64 0, .int .u8 0] 31 (0, 0)) := below_block hk (alloc_old (by (try simp only [World.size_alloc, boxed_size]); omega) (boxed_at (by (try simp only [boxed_size]); omega)))
  have hb1 : W3.heap[W2.heap.size]? = some (.cells #[.int .u8 3, .int .i64 1, .int .i64 2, .int .i64 0, .int .i64 0, .int .u8 1] 31 (0, 0)) := below_block hk (alloc_at (by first | rfl | simp only [World.size_alloc, boxed_size]))
  have HL3 := Lib.hid hl
  have l3 : W2.heap.size + 1 ≤ W3.heap.size := by omega
  have : W1.heap.size < W3.heap.size := by omega
  have : W2.heap.size < W3.heap.size := by omega
  have : W1.heap.size < W2.heap.size := by omega
  clear hl hk hsz HLE hNE
  have HB3_1 := Lib.hid hb1
  have c1_0 : W3.cell? ⟨W2.heap.size, 0, none⟩ = some (.int .u8 3) := by rw [cell_of_row _ _ _ _ _ _ hb1]; rfl
  have c1_1 : W3.cell? ⟨W2.heap.size, 1, none⟩ = some (.int .i64 1) := by rw [cell_of_row _ _ _ _ _ _ hb1]; rfl
  have c1_2 : W3.cell? ⟨W2.heap.size, 2, none⟩ = some (.int .i64 2) := by rw [cell_of_row _ _ _ _ _ _ hb1]; rfl
  have c1_3 : W3.cell? ⟨W2.heap.size, 3, none⟩ = some (.int .i64 0) := by rw [cell_of_row _ _ _ _ _ _ hb1]; rfl
  have c1_4 : W3.cell? ⟨W2.heap.size, 4, none⟩ = some (.int .i64 0) := by rw [cell_of_row _ _ _ _ _ _ hb1]; rfl
  have c1_5 : W3.cell? ⟨W2.heap.size, 5, none⟩ = some (.int .u8 1) := by rw [cell_of_row _ _ _ _ _ _ hb1]; rfl
  clear hb1
  have e0 := boxed_self (w := W3) (hb0)
  rw [e0]
  clear e0 hb0
  have a2 : decide ((1, 2) ∈ (Sto.new.alloc (1, 2) 1).aside) = true := by decide
  rw [a2]
  clear a2
  go_wp2_with (fail)
  have HLE : LiveO (StoB (w.heap.size + 2) (Sto.new.alloc (1, 2) 1) (0 + 2)) w (fun i => i = W1.heap.size ∨ i = W2.heap.size) (boxed W3 W1.heap.size #[.int .u8 4, .int .i64 1, .int .i64 2, .int .i64 0, .int .i64 0, .int .u8 0] 31) := (HL3.out).boxed (sto_thing (w.heap.size + 2) (Sto.new.alloc (1, 2) 1) (0 + 2)) (g := W1.heap.size) (cs := #[.int .u8 4, .int .i64 1, .int .i64 2, .int .i64 0, .int .i64 0, .int .u8 0]) (t := 31) (by simp) (by omega)
  have hNE : ∀ i, (fun i => i = W1.heap.size ∨ i = W2.heap.size) i → i < (boxed W3 W1.heap.size #[.int .u8 4, .int .i64 1, .int .i64 2, .int .i64 0, .int .i64 0, .int .u8 0] 31).heap.size := fun i hi => by have hi2 := hi; (try simp only [World.size_alloc, boxed_size]); (try simp only at hi2); omega
  refine (shear_drop_live HLE hNE kk (by omega)).mono ?_
  rintro e W4 ⟨rfl, hl, hk⟩
  have hsz : (boxed W3 W1.heap.size #[.int .u8 4, .int .i64 1, .int .i64 2, .int .i64 0, .int .i64 0, .int .u8 0] 31).heap.size ≤ W4.heap.size := hk.size
  try simp only [World.size_alloc, boxed_size] at hsz
  have hb0 : W4.heap[W1.heap.size]? = some (.cells #[.int .u8 4, .int .i64 1, .int .i64 2, .int .i64 0, .int .i64 0, .int .u8 0] 31 (0, 0)) := hk.at_ (by simp) (boxed_at (by (try simp only [boxed_size]); omega))
  have hb1 : W4.heap[W2.heap.size]? = some (.cells #[.int .u8 3, .int .i64 1, .int .i64 2, .int .i64 0, .int .i64 0, .int .u8 1] 31 (0, 0)) := hk.at_ (by simp) (boxed_old (by omega) (HB3_1.out))
  have HL4 := Lib.hid hl
  have l4 : W3.heap.size + 0 ≤ W4.heap.size := by omega
  have : W1.heap.size < W4.heap.size := by omega
  have : W2.heap.size < W4.heap.size := by omega
  clear hl hk hsz HLE hNE HB3_1 c1_0 c1_1 c1_2 c1_3 c1_4 c1_5
  have HB4_1 := Lib.hid hb1
  have c1_0 : W4.cell? ⟨W2.heap.size, 0, none⟩ = some (.int .u8 3) := by rw [cell_of_row _ _ _ _ _ _ hb1]; rfl
  have c1_1 : W4.cell? ⟨W2.heap.size, 1, none⟩ = some (.int .i64 1) := by rw [cell_of_row _ _ _ _ _ _ hb1]; rfl
  have c1_2 : W4.cell? ⟨W2.heap.size, 2, none⟩ = some (.int .i64 2) := by rw [cell_of_row _ _ _ _ _ _ hb1]; rfl
  have c1_3 : W4.cell? ⟨W2.heap.size, 3, none⟩ = some (.int .i64 0) := by rw [cell_of_row _ _ _ _ _ _ hb1]; rfl
  have c1_4 : W4.cell? ⟨W2.heap.size, 4, none⟩ = some (.int .i64 0) := by rw [cell_of_row _ _ _ _ _ _ hb1]; rfl
  have c1_5 : W4.cell? ⟨W2.heap.size, 5, none⟩ = some (.int .u8 1) := by rw [cell_of_row _ _ _ _ _ _ hb1]; rfl
  clear hb1
  have e0 := boxed_self (w := W4) (hb0)
  rw [e0]
  clear e0 hb0
  go_wp2_with (fail)
  have HLE : LiveO (StoB (w.heap.size + 2) ((Sto.new.alloc (1, 2) 1).drop (1, 2)) (0 + 2 + 2)) w (fun i => i = W1.heap.size ∨ i = W2.heap.size) (boxed W4 W1.heap.size #[.int .u8 3, .int .i64 1, .int .i64 2, .int .i64 0, .int .i64 0, .int .u8 0] 31) := (HL4.out).boxed (sto_thing (w.heap.size + 2) ((Sto.new.alloc (1, 2) 1).drop (1, 2)) (0 + 2 + 2)) (g := W1.heap.size) (cs := #[.int .u8 3, .int .i64 1, .int .i64 2, .int .i64 0, .int .i64 0, .int .u8 0]) (t := 31) (by simp) (by omega)
  have hNE : ∀ i, (fun i => i = W1.heap.size ∨ i = W2.heap.size) i → i < (boxed W4 W1.heap.size #[.int .u8 3, .int .i64 1, .int .i64 2, .int .i64 0, .int .i64 0, .int .u8 0] 31).heap.size := fun i hi => by have hi2 := hi; (try simp only [World.size_alloc, boxed_size]); (try simp only at hi2); omega
  refine (shear_alloc_live HLE hNE kk (by omega)).mono ?_
  rintro e W5 ⟨rfl, hl, hk⟩
  have hsz : (boxed W4 W1.heap.size #[.int .u8 3, .int .i64 1, .int .i64 2, .int .i64 0, .int .i64 0, .int .u8 0] 31).heap.size ≤ W5.heap.size := hk.size
  try simp only [World.size_alloc, boxed_size] at hsz
  have hb0 : W5.heap[W1.heap.size]? = some (.cells #[.int .u8 3, .int .i64 1, .int .i64 2, .int .i64 0, .int .i64 0, .int .u8 0] 31 (0, 0)) := hk.at_ (by simp) (boxed_at (by (try simp only [boxed_size]); omega))
  have hb1 : W5.heap[W2.heap.size]? = some (.cells #[.int .u8 3, .int .i64 1, .int .i64 2, .int .i64 0, .int .i64 0, .int .u8 1] 31 (0, 0)) := hk.at_ (by simp) (boxed_old (by omega) (HB4_1.out))
  have HL5 := Lib.hid hl
  have l5 : W4.heap.size + 0 ≤ W5.heap.size := by omega
  have : W1.heap.size < W5.heap.size := by omega
  have : W2.heap.size < W5.heap.size := by omega
  clear hl hk hsz HLE hNE HB4_1 c1_0 c1_1 c1_2 c1_3 c1_4 c1_5
  have HB5_1 := Lib.hid hb1
  have c1_0 : W5.cell? ⟨W2.heap.size, 0, none⟩ = some (.int .u8 3) := by rw [cell_of_row _ _ _ _ _ _ hb1]; rfl
  have c1_1 : W5.cell? ⟨W2.heap.size, 1, none⟩ = some (.int .i64 1) := by rw [cell_of_row _ _ _ _ _ _ hb1]; rfl
  have c1_2 : W5.cell? ⟨W2.heap.size, 2, none⟩ = some (.int .i64 2) := by rw [cell_of_row _ _ _ _ _ _ hb1]; rfl
  have c1_3 : W5.cell? ⟨W2.heap.size, 3, none⟩ = some (.int .i64 0) := by rw [cell_of_row _ _ _ _ _ _ hb1]; rfl
  have c1_4 : W5.cell? ⟨W2.heap.size, 4, none⟩ = some (.int .i64 0) := by rw [cell_of_row _ _ _ _ _ _ hb1]; rfl
  have c1_5 : W5.cell? ⟨W2.heap.size, 5, none⟩ = some (.int .u8 1) := by rw [cell_of_row _ _ _ _ _ _ hb1]; rfl
  clear hb1
  have e0 := boxed_self (w := W5) (hb0)
  rw [e0]
  clear e0 hb0
  have a3 : ((Sto.new.alloc (1, 2) 1).drop (1, 2)).ans (1, 2) 1 = 1 := by rfl
  rw [a3]
  clear a3
  go_wp2_with (fail)
  have HLE : LiveO (StoB (w.heap.size + 2) (((Sto.new.alloc (1, 2) 1).drop (1, 2)).alloc (1, 2) 1) (0 + 2 + 2 + 2)) w (fun i => i = W1.heap.size ∨ i = W2.heap.size ∨ i = W5.heap.size) ((boxed W5 W1.heap.size #[.int .u8 3, .int .i64 1, .int .i64 2, .int .i64 0, .int .i64 0, .int .u8 0] 31).alloc (.cells #[.int .u8 3, .int .i64 1, .int .i64 2, .int .i64 0, .int .i64 0, .int .u8 1] 31)) := (((HL5.out).boxed (sto_thing (w.heap.size + 2) (((Sto.new.alloc (1, 2) 1).drop (1, 2)).alloc (1, 2) 1) (0 + 2 + 2 + 2)) (g := W1.heap.size) (cs := #[.int .u8 3, .int .i64 1, .int .i64 2, .int .i64 0, .int .i64 0, .int .u8 0]) (t := 31) (by simp) (by omega)).alloc (sto_thing (w.heap.size + 2) (((Sto.new.alloc (1, 2) 1).drop (1, 2)).alloc (1, 2) 1) (0 + 2 + 2 + 2)) (.cells #[.int .u8 3, .int .i64 1, .int .i64 2, .int .i64 0, .int .i64 0, .int .u8 1] 31)).less (fun i hi => by have hi2 := hi; (try simp only [World.size_alloc, boxed_size]); (try simp only at hi2); (try simp only [false_or]); omega)
  have hNE : ∀ i, (fun i => i = W1.heap.size ∨ i = W2.heap.size ∨ i = W5.heap.size) i → i < ((boxed W5 W1.heap.size #[.int .u8 3, .int .i64 1, .int .i64 2, .int .i64 0, .int .i64 0, .int .u8 0] 31).alloc (.cells #[.int .u8 3, .int .i64 1, .int .i64 2, .int .i64 0, .int .i64 0, .int .u8 1] 31)).heap.size := fun i hi => by have hi2 := hi; (try simp only [World.size_alloc, boxed_size]); (try simp only at hi2); omega
  refine (aside_live HLE kk).mono ?_
  rintro e W6 ⟨rfl, hk⟩
  have hl := HLE.below (sto_thing (w.heap.size + 2) (((Sto.new.alloc (1, 2) 1).drop (1, 2)).alloc (1, 2) 1) (0 + 2 + 2 + 2)) hk
  have hsz : ((boxed W5 W1.heap.size #[.int .u8 3, .int .i64 1, .int .i64 2, .int .i64 0, .int .i64 0, .int .u8 0] 31).alloc (.cells #[.int .u8 3, .int .i64 1, .int .i64 2, .int .i64 0, .int .i64 0, .int .u8 1] 31)).heap.size ≤ W6.heap.size := hk.size
  try simp only [World.size_alloc, boxed_size] at hsz
  have hb0 : W6.heap[W1.heap.size]? = some (.cells #[.int .u8 3, .int .i64 1, .int .i64 2, .int .i64 0, .int .i64 0, .int .u8 0] 31 (0, 0)) := below_block hk (alloc_old (by (try simp only [World.size_alloc, boxed_size]); omega) (boxed_at (by (try simp only [boxed_size]); omega)))
  have hb1 : W6.heap[W2.heap.size]? = some (.cells #[.int .u8 3, .int .i64 1, .int .i64 2, .int .i64 0, .int .i64 0, .int .u8 1] 31 (0, 0)) := below_block hk (alloc_old (by (try simp only [World.size_alloc, boxed_size]); omega) (boxed_old (by omega) (HB5_1.out)))
  have hb2 : W6.heap[W5.heap.size]? = some (.cells #[.int .u8 3, .int .i64 1, .int .i64 2, .int .i64 0, .int .i64 0, .int .u8 1] 31 (0, 0)) := below_block hk (alloc_at (by first | rfl | simp only [World.size_alloc, boxed_size]))
  have HL6 := Lib.hid hl
  have l6 : W5.heap.size + 1 ≤ W6.heap.size := by omega
  have : W1.heap.size < W6.heap.size := by omega
  have : W2.heap.size < W6.heap.size := by omega
  have : W5.heap.size < W6.heap.size := by omega
  have : W1.heap.size < W5.heap.size := by omega
  have : W2.heap.size < W5.heap.size := by omega
  clear hl hk hsz HLE hNE HB5_1 c1_0 c1_1 c1_2 c1_3 c1_4 c1_5
  have HB6_1 := Lib.hid hb1
  have c1_0 : W6.cell? ⟨W2.heap.size, 0, none⟩ = some (.int .u8 3) := by rw [cell_of_row _ _ _ _ _ _ hb1]; rfl
  have c1_1 : W6.cell? ⟨W2.heap.size, 1, none⟩ = some (.int .i64 1) := by rw [cell_of_row _ _ _ _ _ _ hb1]; rfl
  have c1_2 : W6.cell? ⟨W2.heap.size, 2, none⟩ = some (.int .i64 2) := by rw [cell_of_row _ _ _ _ _ _ hb1]; rfl
  have c1_3 : W6.cell? ⟨W2.heap.size, 3, none⟩ = some (.int .i64 0) := by rw [cell_of_row _ _ _ _ _ _ hb1]; rfl
  have c1_4 : W6.cell? ⟨W2.heap.size, 4, none⟩ = some (.int .i64 0) := by rw [cell_of_row _ _ _ _ _ _ hb1]; rfl
  have c1_5 : W6.cell? ⟨W2.heap.size, 5, none⟩ = some (.int .u8 1) := by rw [cell_of_row _ _ _ _ _ _ hb1]; rfl
  clear hb1
  have HB6_2 := Lib.hid hb2
  have c2_0 : W6.cell? ⟨W5.heap.size, 0, none⟩ = some (.int .u8 3) := by rw [cell_of_row _ _ _ _ _ _ hb2]; rfl
  have c2_1 : W6.cell? ⟨W5.heap.size, 1, none⟩ = some (.int .i64 1) := by rw [cell_of_row _ _ _ _ _ _ hb2]; rfl
  have c2_2 : W6.cell? ⟨W5.heap.size, 2, none⟩ = some (.int .i64 2) := by rw [cell_of_row _ _ _ _ _ _ hb2]; rfl
  have c2_3 : W6.cell? ⟨W5.heap.size, 3, none⟩ = some (.int .i64 0) := by rw [cell_of_row _ _ _ _ _ _ hb2]; rfl
  have c2_4 : W6.cell? ⟨W5.heap.size, 4, none⟩ = some (.int .i64 0) := by rw [cell_of_row _ _ _ _ _ _ hb2]; rfl
  have c2_5 : W6.cell? ⟨W5.heap.size, 5, none⟩ = some (.int .u8 1) := by rw [cell_of_row _ _ _ _ _ _ hb2]; rfl
  clear hb2
  have e0 := boxed_self (w := W6) (hb0)
  rw [e0]
  clear e0 hb0
  have a4 : decide ((1, 2) ∈ (((Sto.new.alloc (1, 2) 1).drop (1, 2)).alloc (1, 2) 1).aside) = false := by decide
  rw [a4]
  clear a4
  go_wp2
  go_ret
  exact ⟨rfl, boxed_below (HL6.out.old) (by omega)⟩
end Go.Proofs.Ytcjhgckkbekhoaa
