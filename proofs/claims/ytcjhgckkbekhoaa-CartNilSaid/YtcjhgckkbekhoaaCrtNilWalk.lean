/-
  The walk of the law CartNil. No conditions.
-/
import Derived.Test.YtcjhgckkbekhoaaCrtAwake
import Derived.Test.YtcjhgckkbekhoaaNvRow
namespace Go.Proofs.Ytcjhgckkbekhoaa
set_option maxRecDepth 20000
set_option linter.unusedSimpArgs false
set_option linter.unusedVariables false
open Go.ChangeShapes Go.WideShapes Go.ChangeAt Go.RowKit

set_option maxHeartbeats 2000000 in
theorem cartNil_answer {w : World} (K S C T M V : Int) (v : Int) (hk : tpok (S, C)) (hV : ¬ V = 0) :
    Calls Try.prog 11 #[.agg #[.int .u8 K, .int .i64 S, .int .i64 C, .int .i64 T, .int .i64 M, .int .u8 V], .int .u8 v] w fun e w' => e = .returned (.bool true) ∧ Below w.heap.size w w' := by
  have dV : (V == 0) = false := by simpa using hV
  obtain ⟨hS, hC⟩ := hk
  have hk : tpok (S, C) := ⟨hS, hC⟩
  go_enter Try.func11, Try.ntmps11
  go_wp2_with (fail)
  refine (chear_nil _ K S C T M V v).mono ?_
  rintro e U0 ⟨rfl, hb⟩
  have hn0 : U0.heap[w.heap.size]? = some (.cells #[.int .u8 K, .int .i64 S, .int .i64 C, .int .i64 T, .int .i64 M, .int .u8 V] 31 (0, 0)) := below_block hb (alloc_at rfl)
  have d0 : U0.cell? ⟨w.heap.size, 0, none⟩ = some (.int .u8 K) := by rw [cell_of_row _ _ _ _ _ _ hn0]; rfl
  have d1 : U0.cell? ⟨w.heap.size, 1, none⟩ = some (.int .i64 S) := by rw [cell_of_row _ _ _ _ _ _ hn0]; rfl
  have d2 : U0.cell? ⟨w.heap.size, 2, none⟩ = some (.int .i64 C) := by rw [cell_of_row _ _ _ _ _ _ hn0]; rfl
  have d3 : U0.cell? ⟨w.heap.size, 3, none⟩ = some (.int .i64 T) := by rw [cell_of_row _ _ _ _ _ _ hn0]; rfl
  have d4 : U0.cell? ⟨w.heap.size, 4, none⟩ = some (.int .i64 M) := by rw [cell_of_row _ _ _ _ _ _ hn0]; rfl
  have d5 : U0.cell? ⟨w.heap.size, 5, none⟩ = some (.int .u8 V) := by rw [cell_of_row _ _ _ _ _ _ hn0]; rfl
  have HUB : Hid (Below w.heap.size w U0) := ((Below.refl _ w).alloc (Nat.le_refl _) _).trans (hb.mono (by simp))
  have hlt : w.heap.size < U0.heap.size := (Array.getElem?_eq_some_iff.1 hn0).1
  go_wp2_with (fail)
  have HB0_0 : Hid ((U0.alloc (.cells #[.int .u8 0, .int .i64 0, .int .i64 0, .int .i64 0, .int .i64 0, .int .u8 0] 31)).heap[w.heap.size]? = some (.cells #[.int .u8 K, .int .i64 S, .int .i64 C, .int .i64 T, .int .i64 M, .int .u8 V] 31 (0, 0))) := alloc_old hlt hn0
  have HUW : Hid (Below w.heap.size w (U0.alloc (.cells #[.int .u8 0, .int .i64 0, .int .i64 0, .int .i64 0, .int .i64 0, .int .u8 0] 31))) := HUB.out.alloc (by omega) _
  have hlt2 : w.heap.size < (U0.alloc (.cells #[.int .u8 0, .int .i64 0, .int .i64 0, .int .i64 0, .int .i64 0, .int .u8 0] 31)).heap.size := by rw [World.size_alloc]; omega
  clear d0 d1 d2 d3 d4 d5 hn0 hb HUB hlt
  generalize U0.alloc (.cells #[.int .u8 0, .int .i64 0, .int .i64 0, .int .i64 0, .int .i64 0, .int .u8 0] 31) = U at *
  refine (cnew_live).mono ?_
  rintro e W1 ⟨rfl, hl, hz1⟩
  have HL1 := Lib.hid hl
  have l1 : U.heap.size ≤ W1.heap.size := hl.old.size
  have hb0 : W1.heap[w.heap.size]? = some (.cells #[.int .u8 K, .int .i64 S, .int .i64 C, .int .i64 T, .int .i64 M, .int .u8 V] 31 (0, 0)) := below_block hl.old HB0_0.out
  clear hl hz1
  have HB1_0 := Lib.hid hb0
  have c0_0 : W1.cell? ⟨w.heap.size, 0, none⟩ = some (.int .u8 K) := by rw [cell_of_row _ _ _ _ _ _ hb0]; rfl
  have c0_1 : W1.cell? ⟨w.heap.size, 1, none⟩ = some (.int .i64 S) := by rw [cell_of_row _ _ _ _ _ _ hb0]; rfl
  have c0_2 : W1.cell? ⟨w.heap.size, 2, none⟩ = some (.int .i64 C) := by rw [cell_of_row _ _ _ _ _ _ hb0]; rfl
  have c0_3 : W1.cell? ⟨w.heap.size, 3, none⟩ = some (.int .i64 T) := by rw [cell_of_row _ _ _ _ _ _ hb0]; rfl
  have c0_4 : W1.cell? ⟨w.heap.size, 4, none⟩ = some (.int .i64 M) := by rw [cell_of_row _ _ _ _ _ _ hb0]; rfl
  have c0_5 : W1.cell? ⟨w.heap.size, 5, none⟩ = some (.int .u8 V) := by rw [cell_of_row _ _ _ _ _ _ hb0]; rfl
  clear hb0
  go_wp2_with (fail)
  have HLE : LiveO (CrtB (U.heap.size + 1) .new 0) U (fun (_ : Nat) => False) W1 := HL1.out
  have hNE : ∀ i : Nat, (fun (_ : Nat) => False) i → i < W1.heap.size := fun i hi => hi.elim
  refine (chear_answer _ (U.heap.size + 1) K S C T M V v hV).mono ?_
  rintro e W2 ⟨rfl, hk⟩
  have hl := HLE.below (crt_thing (U.heap.size + 1) .new 0) hk
  have hsz : W1.heap.size ≤ W2.heap.size := hk.size
  try simp only [World.size_alloc, boxed_size] at hsz
  have hb0 : W2.heap[w.heap.size]? = some (.cells #[.int .u8 K, .int .i64 S, .int .i64 C, .int .i64 T, .int .i64 M, .int .u8 V] 31 (0, 0)) := below_block hk (HB1_0.out)
  have HL2 := Lib.hid hl
  have l2 : W1.heap.size + 0 ≤ W2.heap.size := by omega
  have : w.heap.size < W2.heap.size := by omega
  clear hl hk hsz HLE hNE HB1_0 c0_0 c0_1 c0_2 c0_3 c0_4 c0_5
  have HB2_0 := Lib.hid hb0
  have c0_0 : W2.cell? ⟨w.heap.size, 0, none⟩ = some (.int .u8 K) := by rw [cell_of_row _ _ _ _ _ _ hb0]; rfl
  have c0_1 : W2.cell? ⟨w.heap.size, 1, none⟩ = some (.int .i64 S) := by rw [cell_of_row _ _ _ _ _ _ hb0]; rfl
  have c0_2 : W2.cell? ⟨w.heap.size, 2, none⟩ = some (.int .i64 C) := by rw [cell_of_row _ _ _ _ _ _ hb0]; rfl
  have c0_3 : W2.cell? ⟨w.heap.size, 3, none⟩ = some (.int .i64 T) := by rw [cell_of_row _ _ _ _ _ _ hb0]; rfl
  have c0_4 : W2.cell? ⟨w.heap.size, 4, none⟩ = some (.int .i64 M) := by rw [cell_of_row _ _ _ _ _ _ hb0]; rfl
  have c0_5 : W2.cell? ⟨w.heap.size, 5, none⟩ = some (.int .u8 V) := by rw [cell_of_row _ _ _ _ _ _ hb0]; rfl
  clear hb0
  go_wp2_with (fail)
  have HLE : LiveO (CrtB (U.heap.size + 1) .new 0) U (fun i => i = W2.heap.size) (W2.alloc (.cells #[.int .u8 0, .int .i64 0, .int .i64 0, .int .i64 0, .int .i64 0, .int .u8 0] 31)) := ((HL2.out).alloc (crt_thing (U.heap.size + 1) .new 0) (.cells #[.int .u8 0, .int .i64 0, .int .i64 0, .int .i64 0, .int .i64 0, .int .u8 0] 31)).less (fun i hi => by have hi2 := hi; (try simp only [World.size_alloc, boxed_size]); (try simp only at hi2); (try simp only [false_or]); omega)
  have hNE : ∀ i, (fun i => i = W2.heap.size) i → i < (W2.alloc (.cells #[.int .u8 0, .int .i64 0, .int .i64 0, .int .i64 0, .int .i64 0, .int .u8 0] 31)).heap.size := fun i hi => by have hi2 := hi; (try simp only [World.size_alloc, boxed_size]); (try simp only at hi2); omega
  refine (crtAwake_any _).mono ?_
  rintro e W3 ⟨rfl, hk⟩
  have hl := HLE.below (crt_thing (U.heap.size + 1) .new 0) hk
  have hsz : (W2.alloc (.cells #[.int .u8 0, .int .i64 0, .int .i64 0, .int .i64 0, .int .i64 0, .int .u8 0] 31)).heap.size ≤ W3.heap.size := hk.size
  try simp only [World.size_alloc, boxed_size] at hsz
  have hb0 : W3.heap[w.heap.size]? = some (.cells #[.int .u8 K, .int .i64 S, .int .i64 C, .int .i64 T, .int .i64 M, .int .u8 V] 31 (0, 0)) := below_block hk (alloc_old (by (try simp only [World.size_alloc, boxed_size]); omega) (HB2_0.out))
  have hb1 : W3.heap[W2.heap.size]? = some (.cells #[.int .u8 0, .int .i64 0, .int .i64 0, .int .i64 0, .int .i64 0, .int .u8 0] 31 (0, 0)) := below_block hk (alloc_at (by first | rfl | simp only [World.size_alloc, boxed_size]))
  have HL3 := Lib.hid hl
  have l3 : W2.heap.size + 1 ≤ W3.heap.size := by omega
  have : w.heap.size < W3.heap.size := by omega
  have : W2.heap.size < W3.heap.size := by omega
  have : w.heap.size < W2.heap.size := by omega
  clear hl hk hsz HLE hNE HB2_0 c0_0 c0_1 c0_2 c0_3 c0_4 c0_5
  have HB3_0 := Lib.hid hb0
  have c0_0 : W3.cell? ⟨w.heap.size, 0, none⟩ = some (.int .u8 K) := by rw [cell_of_row _ _ _ _ _ _ hb0]; rfl
  have c0_1 : W3.cell? ⟨w.heap.size, 1, none⟩ = some (.int .i64 S) := by rw [cell_of_row _ _ _ _ _ _ hb0]; rfl
  have c0_2 : W3.cell? ⟨w.heap.size, 2, none⟩ = some (.int .i64 C) := by rw [cell_of_row _ _ _ _ _ _ hb0]; rfl
  have c0_3 : W3.cell? ⟨w.heap.size, 3, none⟩ = some (.int .i64 T) := by rw [cell_of_row _ _ _ _ _ _ hb0]; rfl
  have c0_4 : W3.cell? ⟨w.heap.size, 4, none⟩ = some (.int .i64 M) := by rw [cell_of_row _ _ _ _ _ _ hb0]; rfl
  have c0_5 : W3.cell? ⟨w.heap.size, 5, none⟩ = some (.int .u8 V) := by rw [cell_of_row _ _ _ _ _ _ hb0]; rfl
  clear hb0
  have HB3_1 := Lib.hid hb1
  have c1_0 : W3.cell? ⟨W2.heap.size, 0, none⟩ = some (.int .u8 0) := by rw [cell_of_row _ _ _ _ _ _ hb1]; rfl
  have c1_1 : W3.cell? ⟨W2.heap.size, 1, none⟩ = some (.int .i64 0) := by rw [cell_of_row _ _ _ _ _ _ hb1]; rfl
  have c1_2 : W3.cell? ⟨W2.heap.size, 2, none⟩ = some (.int .i64 0) := by rw [cell_of_row _ _ _ _ _ _ hb1]; rfl
  have c1_3 : W3.cell? ⟨W2.heap.size, 3, none⟩ = some (.int .i64 0) := by rw [cell_of_row _ _ _ _ _ _ hb1]; rfl
  have c1_4 : W3.cell? ⟨W2.heap.size, 4, none⟩ = some (.int .i64 0) := by rw [cell_of_row _ _ _ _ _ _ hb1]; rfl
  have c1_5 : W3.cell? ⟨W2.heap.size, 5, none⟩ = some (.int .u8 0) := by rw [cell_of_row _ _ _ _ _ _ hb1]; rfl
  clear hb1
  go_wp2_with (fail)
  have HLE : LiveO (CrtB (U.heap.size + 1) .new 0) U (fun i => i = W2.heap.size) W3 := HL3.out
  have hNE : ∀ i, (fun i => i = W2.heap.size) i → i < W3.heap.size := fun i hi => by have hi2 := hi; (try simp only [World.size_alloc, boxed_size]); (try simp only at hi2); omega
  refine (sent_nil _ S C).mono ?_
  rintro e _ ⟨rfl, rfl⟩
  clear HLE hNE
  go_wp2_with (fail)
  have HLE : LiveO (CrtB (U.heap.size + 1) .new 0) U (fun i => i = W2.heap.size) W3 := HL3.out
  have hNE : ∀ i, (fun i => i = W2.heap.size) i → i < W3.heap.size := fun i hi => by have hi2 := hi; (try simp only [World.size_alloc, boxed_size]); (try simp only at hi2); omega
  refine (trips_nil _).mono ?_
  rintro e _ ⟨rfl, rfl⟩
  clear HLE hNE
  go_wp2_with (fail)
  have HLE : LiveO (CrtB (U.heap.size + 1) .new 0) U (fun i => i = W2.heap.size) W3 := HL3.out
  have hNE : ∀ i, (fun i => i = W2.heap.size) i → i < W3.heap.size := fun i hi => by have hi2 := hi; (try simp only [World.size_alloc, boxed_size]); (try simp only at hi2); omega
  refine (sent_live HLE (by omega)).mono ?_
  rintro e W4 ⟨rfl, hk⟩
  have hl := HLE.below (crt_thing (U.heap.size + 1) .new 0) hk
  have hsz : W3.heap.size ≤ W4.heap.size := hk.size
  try simp only [World.size_alloc, boxed_size] at hsz
  have hb0 : W4.heap[w.heap.size]? = some (.cells #[.int .u8 K, .int .i64 S, .int .i64 C, .int .i64 T, .int .i64 M, .int .u8 V] 31 (0, 0)) := below_block hk (HB3_0.out)
  have hb1 : W4.heap[W2.heap.size]? = some (.cells #[.int .u8 0, .int .i64 0, .int .i64 0, .int .i64 0, .int .i64 0, .int .u8 0] 31 (0, 0)) := below_block hk (HB3_1.out)
  have HL4 := Lib.hid hl
  have l4 : W3.heap.size + 0 ≤ W4.heap.size := by omega
  have : w.heap.size < W4.heap.size := by omega
  have : W2.heap.size < W4.heap.size := by omega
  clear hl hk hsz HLE hNE HB3_0 c0_0 c0_1 c0_2 c0_3 c0_4 c0_5 HB3_1 c1_0 c1_1 c1_2 c1_3 c1_4 c1_5
  have HB4_0 := Lib.hid hb0
  have c0_0 : W4.cell? ⟨w.heap.size, 0, none⟩ = some (.int .u8 K) := by rw [cell_of_row _ _ _ _ _ _ hb0]; rfl
  have c0_1 : W4.cell? ⟨w.heap.size, 1, none⟩ = some (.int .i64 S) := by rw [cell_of_row _ _ _ _ _ _ hb0]; rfl
  have c0_2 : W4.cell? ⟨w.heap.size, 2, none⟩ = some (.int .i64 C) := by rw [cell_of_row _ _ _ _ _ _ hb0]; rfl
  have c0_3 : W4.cell? ⟨w.heap.size, 3, none⟩ = some (.int .i64 T) := by rw [cell_of_row _ _ _ _ _ _ hb0]; rfl
  have c0_4 : W4.cell? ⟨w.heap.size, 4, none⟩ = some (.int .i64 M) := by rw [cell_of_row _ _ _ _ _ _ hb0]; rfl
  have c0_5 : W4.cell? ⟨w.heap.size, 5, none⟩ = some (.int .u8 V) := by rw [cell_of_row _ _ _ _ _ _ hb0]; rfl
  clear hb0
  have HB4_1 := Lib.hid hb1
  have c1_0 : W4.cell? ⟨W2.heap.size, 0, none⟩ = some (.int .u8 0) := by rw [cell_of_row _ _ _ _ _ _ hb1]; rfl
  have c1_1 : W4.cell? ⟨W2.heap.size, 1, none⟩ = some (.int .i64 0) := by rw [cell_of_row _ _ _ _ _ _ hb1]; rfl
  have c1_2 : W4.cell? ⟨W2.heap.size, 2, none⟩ = some (.int .i64 0) := by rw [cell_of_row _ _ _ _ _ _ hb1]; rfl
  have c1_3 : W4.cell? ⟨W2.heap.size, 3, none⟩ = some (.int .i64 0) := by rw [cell_of_row _ _ _ _ _ _ hb1]; rfl
  have c1_4 : W4.cell? ⟨W2.heap.size, 4, none⟩ = some (.int .i64 0) := by rw [cell_of_row _ _ _ _ _ _ hb1]; rfl
  have c1_5 : W4.cell? ⟨W2.heap.size, 5, none⟩ = some (.int .u8 0) := by rw [cell_of_row _ _ _ _ _ _ hb1]; rfl
  clear hb1
  have a4 : sentOf (Crt.new).trips (S, C) = 0 := by rfl
  rw [a4]
  clear a4
  go_wp2_with (fail)
  have HLE : LiveO (CrtB (U.heap.size + 1) .new 0) U (fun i => i = W2.heap.size) W4 := HL4.out
  have hNE : ∀ i, (fun i => i = W2.heap.size) i → i < W4.heap.size := fun i hi => by have hi2 := hi; (try simp only [World.size_alloc, boxed_size]); (try simp only at hi2); omega
  refine (tripsLen_live HLE (by omega)).mono ?_
  rintro e W5 ⟨A9, c9, rfl, hk⟩
  have hl := HLE.below (crt_thing (U.heap.size + 1) .new 0) hk
  have hsz : W4.heap.size ≤ W5.heap.size := hk.size
  try simp only [World.size_alloc, boxed_size] at hsz
  have hb0 : W5.heap[w.heap.size]? = some (.cells #[.int .u8 K, .int .i64 S, .int .i64 C, .int .i64 T, .int .i64 M, .int .u8 V] 31 (0, 0)) := below_block hk (HB4_0.out)
  have hb1 : W5.heap[W2.heap.size]? = some (.cells #[.int .u8 0, .int .i64 0, .int .i64 0, .int .i64 0, .int .i64 0, .int .u8 0] 31 (0, 0)) := below_block hk (HB4_1.out)
  have HL5 := Lib.hid hl
  have l5 : W4.heap.size + 0 ≤ W5.heap.size := by omega
  have : w.heap.size < W5.heap.size := by omega
  have : W2.heap.size < W5.heap.size := by omega
  clear hl hk hsz HLE hNE HB4_0 c0_0 c0_1 c0_2 c0_3 c0_4 c0_5 HB4_1 c1_0 c1_1 c1_2 c1_3 c1_4 c1_5
  have HB5_0 := Lib.hid hb0
  have c0_0 : W5.cell? ⟨w.heap.size, 0, none⟩ = some (.int .u8 K) := by rw [cell_of_row _ _ _ _ _ _ hb0]; rfl
  have c0_1 : W5.cell? ⟨w.heap.size, 1, none⟩ = some (.int .i64 S) := by rw [cell_of_row _ _ _ _ _ _ hb0]; rfl
  have c0_2 : W5.cell? ⟨w.heap.size, 2, none⟩ = some (.int .i64 C) := by rw [cell_of_row _ _ _ _ _ _ hb0]; rfl
  have c0_3 : W5.cell? ⟨w.heap.size, 3, none⟩ = some (.int .i64 T) := by rw [cell_of_row _ _ _ _ _ _ hb0]; rfl
  have c0_4 : W5.cell? ⟨w.heap.size, 4, none⟩ = some (.int .i64 M) := by rw [cell_of_row _ _ _ _ _ _ hb0]; rfl
  have c0_5 : W5.cell? ⟨w.heap.size, 5, none⟩ = some (.int .u8 V) := by rw [cell_of_row _ _ _ _ _ _ hb0]; rfl
  clear hb0
  have HB5_1 := Lib.hid hb1
  have c1_0 : W5.cell? ⟨W2.heap.size, 0, none⟩ = some (.int .u8 0) := by rw [cell_of_row _ _ _ _ _ _ hb1]; rfl
  have c1_1 : W5.cell? ⟨W2.heap.size, 1, none⟩ = some (.int .i64 0) := by rw [cell_of_row _ _ _ _ _ _ hb1]; rfl
  have c1_2 : W5.cell? ⟨W2.heap.size, 2, none⟩ = some (.int .i64 0) := by rw [cell_of_row _ _ _ _ _ _ hb1]; rfl
  have c1_3 : W5.cell? ⟨W2.heap.size, 3, none⟩ = some (.int .i64 0) := by rw [cell_of_row _ _ _ _ _ _ hb1]; rfl
  have c1_4 : W5.cell? ⟨W2.heap.size, 4, none⟩ = some (.int .i64 0) := by rw [cell_of_row _ _ _ _ _ _ hb1]; rfl
  have c1_5 : W5.cell? ⟨W2.heap.size, 5, none⟩ = some (.int .u8 0) := by rw [cell_of_row _ _ _ _ _ _ hb1]; rfl
  clear hb1
  have a5 : (Crt.new).trips.length = 0 := by rfl
  rw [a5]
  clear a5
  go_wp2
  go_ret
  exact ⟨rfl, HUW.out.trans ((HL5.out.old).mono (by omega))⟩
set_option maxHeartbeats 2000000 in
theorem cartNil_other {w : World} (K S C T M V : Int) (v : Int) (hk : tpok (S, C)) (h5 : ¬ K = 5) :
    Calls Try.prog 11 #[.agg #[.int .u8 K, .int .i64 S, .int .i64 C, .int .i64 T, .int .i64 M, .int .u8 0], .int .u8 v] w fun e w' => e = .returned (.bool true) ∧ Below w.heap.size w w' := by
  have d5 : (K == 5) = false := by simpa using h5
  obtain ⟨hS, hC⟩ := hk
  have hk : tpok (S, C) := ⟨hS, hC⟩
  go_enter Try.func11, Try.ntmps11
  go_wp2_with (fail)
  refine (chear_nil _ K S C T M 0 v).mono ?_
  rintro e U0 ⟨rfl, hb⟩
  have hn0 : U0.heap[w.heap.size]? = some (.cells #[.int .u8 K, .int .i64 S, .int .i64 C, .int .i64 T, .int .i64 M, .int .u8 0] 31 (0, 0)) := below_block hb (alloc_at rfl)
  have d0 : U0.cell? ⟨w.heap.size, 0, none⟩ = some (.int .u8 K) := by rw [cell_of_row _ _ _ _ _ _ hn0]; rfl
  have d1 : U0.cell? ⟨w.heap.size, 1, none⟩ = some (.int .i64 S) := by rw [cell_of_row _ _ _ _ _ _ hn0]; rfl
  have d2 : U0.cell? ⟨w.heap.size, 2, none⟩ = some (.int .i64 C) := by rw [cell_of_row _ _ _ _ _ _ hn0]; rfl
  have d3 : U0.cell? ⟨w.heap.size, 3, none⟩ = some (.int .i64 T) := by rw [cell_of_row _ _ _ _ _ _ hn0]; rfl
  have d4 : U0.cell? ⟨w.heap.size, 4, none⟩ = some (.int .i64 M) := by rw [cell_of_row _ _ _ _ _ _ hn0]; rfl
  have d5 : U0.cell? ⟨w.heap.size, 5, none⟩ = some (.int .u8 0) := by rw [cell_of_row _ _ _ _ _ _ hn0]; rfl
  have HUB : Hid (Below w.heap.size w U0) := ((Below.refl _ w).alloc (Nat.le_refl _) _).trans (hb.mono (by simp))
  have hlt : w.heap.size < U0.heap.size := (Array.getElem?_eq_some_iff.1 hn0).1
  go_wp2_with (fail)
  have HB0_0 : Hid ((U0.alloc (.cells #[.int .u8 0, .int .i64 0, .int .i64 0, .int .i64 0, .int .i64 0, .int .u8 0] 31)).heap[w.heap.size]? = some (.cells #[.int .u8 K, .int .i64 S, .int .i64 C, .int .i64 T, .int .i64 M, .int .u8 0] 31 (0, 0))) := alloc_old hlt hn0
  have HUW : Hid (Below w.heap.size w (U0.alloc (.cells #[.int .u8 0, .int .i64 0, .int .i64 0, .int .i64 0, .int .i64 0, .int .u8 0] 31))) := HUB.out.alloc (by omega) _
  have hlt2 : w.heap.size < (U0.alloc (.cells #[.int .u8 0, .int .i64 0, .int .i64 0, .int .i64 0, .int .i64 0, .int .u8 0] 31)).heap.size := by rw [World.size_alloc]; omega
  clear d0 d1 d2 d3 d4 d5 hn0 hb HUB hlt
  generalize U0.alloc (.cells #[.int .u8 0, .int .i64 0, .int .i64 0, .int .i64 0, .int .i64 0, .int .u8 0] 31) = U at *
  refine (cnew_live).mono ?_
  rintro e W1 ⟨rfl, hl, hz1⟩
  have HL1 := Lib.hid hl
  have l1 : U.heap.size ≤ W1.heap.size := hl.old.size
  have hb0 : W1.heap[w.heap.size]? = some (.cells #[.int .u8 K, .int .i64 S, .int .i64 C, .int .i64 T, .int .i64 M, .int .u8 0] 31 (0, 0)) := below_block hl.old HB0_0.out
  clear hl hz1
  have HB1_0 := Lib.hid hb0
  have c0_0 : W1.cell? ⟨w.heap.size, 0, none⟩ = some (.int .u8 K) := by rw [cell_of_row _ _ _ _ _ _ hb0]; rfl
  have c0_1 : W1.cell? ⟨w.heap.size, 1, none⟩ = some (.int .i64 S) := by rw [cell_of_row _ _ _ _ _ _ hb0]; rfl
  have c0_2 : W1.cell? ⟨w.heap.size, 2, none⟩ = some (.int .i64 C) := by rw [cell_of_row _ _ _ _ _ _ hb0]; rfl
  have c0_3 : W1.cell? ⟨w.heap.size, 3, none⟩ = some (.int .i64 T) := by rw [cell_of_row _ _ _ _ _ _ hb0]; rfl
  have c0_4 : W1.cell? ⟨w.heap.size, 4, none⟩ = some (.int .i64 M) := by rw [cell_of_row _ _ _ _ _ _ hb0]; rfl
  have c0_5 : W1.cell? ⟨w.heap.size, 5, none⟩ = some (.int .u8 0) := by rw [cell_of_row _ _ _ _ _ _ hb0]; rfl
  clear hb0
  go_wp2_with (fail)
  have HLE : LiveO (CrtB (U.heap.size + 1) .new 0) U (fun (_ : Nat) => False) W1 := HL1.out
  have hNE : ∀ i : Nat, (fun (_ : Nat) => False) i → i < W1.heap.size := fun i hi => hi.elim
  refine (chear_other _ (U.heap.size + 1) K S C T M v h5).mono ?_
  rintro e W2 ⟨rfl, hk⟩
  have hl := HLE.below (crt_thing (U.heap.size + 1) .new 0) hk
  have hsz : W1.heap.size ≤ W2.heap.size := hk.size
  try simp only [World.size_alloc, boxed_size] at hsz
  have hb0 : W2.heap[w.heap.size]? = some (.cells #[.int .u8 K, .int .i64 S, .int .i64 C, .int .i64 T, .int .i64 M, .int .u8 0] 31 (0, 0)) := below_block hk (HB1_0.out)
  have HL2 := Lib.hid hl
  have l2 : W1.heap.size + 0 ≤ W2.heap.size := by omega
  have : w.heap.size < W2.heap.size := by omega
  clear hl hk hsz HLE hNE HB1_0 c0_0 c0_1 c0_2 c0_3 c0_4 c0_5
  have HB2_0 := Lib.hid hb0
  have c0_0 : W2.cell? ⟨w.heap.size, 0, none⟩ = some (.int .u8 K) := by rw [cell_of_row _ _ _ _ _ _ hb0]; rfl
  have c0_1 : W2.cell? ⟨w.heap.size, 1, none⟩ = some (.int .i64 S) := by rw [cell_of_row _ _ _ _ _ _ hb0]; rfl
  have c0_2 : W2.cell? ⟨w.heap.size, 2, none⟩ = some (.int .i64 C) := by rw [cell_of_row _ _ _ _ _ _ hb0]; rfl
  have c0_3 : W2.cell? ⟨w.heap.size, 3, none⟩ = some (.int .i64 T) := by rw [cell_of_row _ _ _ _ _ _ hb0]; rfl
  have c0_4 : W2.cell? ⟨w.heap.size, 4, none⟩ = some (.int .i64 M) := by rw [cell_of_row _ _ _ _ _ _ hb0]; rfl
  have c0_5 : W2.cell? ⟨w.heap.size, 5, none⟩ = some (.int .u8 0) := by rw [cell_of_row _ _ _ _ _ _ hb0]; rfl
  clear hb0
  go_wp2_with (fail)
  have HLE : LiveO (CrtB (U.heap.size + 1) .new 0) U (fun i => i = W2.heap.size) (W2.alloc (.cells #[.int .u8 0, .int .i64 0, .int .i64 0, .int .i64 0, .int .i64 0, .int .u8 0] 31)) := ((HL2.out).alloc (crt_thing (U.heap.size + 1) .new 0) (.cells #[.int .u8 0, .int .i64 0, .int .i64 0, .int .i64 0, .int .i64 0, .int .u8 0] 31)).less (fun i hi => by have hi2 := hi; (try simp only [World.size_alloc, boxed_size]); (try simp only at hi2); (try simp only [false_or]); omega)
  have hNE : ∀ i, (fun i => i = W2.heap.size) i → i < (W2.alloc (.cells #[.int .u8 0, .int .i64 0, .int .i64 0, .int .i64 0, .int .i64 0, .int .u8 0] 31)).heap.size := fun i hi => by have hi2 := hi; (try simp only [World.size_alloc, boxed_size]); (try simp only at hi2); omega
  refine (crtAwake_any _).mono ?_
  rintro e W3 ⟨rfl, hk⟩
  have hl := HLE.below (crt_thing (U.heap.size + 1) .new 0) hk
  have hsz : (W2.alloc (.cells #[.int .u8 0, .int .i64 0, .int .i64 0, .int .i64 0, .int .i64 0, .int .u8 0] 31)).heap.size ≤ W3.heap.size := hk.size
  try simp only [World.size_alloc, boxed_size] at hsz
  have hb0 : W3.heap[w.heap.size]? = some (.cells #[.int .u8 K, .int .i64 S, .int .i64 C, .int .i64 T, .int .i64 M, .int .u8 0] 31 (0, 0)) := below_block hk (alloc_old (by (try simp only [World.size_alloc, boxed_size]); omega) (HB2_0.out))
  have hb1 : W3.heap[W2.heap.size]? = some (.cells #[.int .u8 0, .int .i64 0, .int .i64 0, .int .i64 0, .int .i64 0, .int .u8 0] 31 (0, 0)) := below_block hk (alloc_at (by first | rfl | simp only [World.size_alloc, boxed_size]))
  have HL3 := Lib.hid hl
  have l3 : W2.heap.size + 1 ≤ W3.heap.size := by omega
  have : w.heap.size < W3.heap.size := by omega
  have : W2.heap.size < W3.heap.size := by omega
  have : w.heap.size < W2.heap.size := by omega
  clear hl hk hsz HLE hNE HB2_0 c0_0 c0_1 c0_2 c0_3 c0_4 c0_5
  have HB3_0 := Lib.hid hb0
  have c0_0 : W3.cell? ⟨w.heap.size, 0, none⟩ = some (.int .u8 K) := by rw [cell_of_row _ _ _ _ _ _ hb0]; rfl
  have c0_1 : W3.cell? ⟨w.heap.size, 1, none⟩ = some (.int .i64 S) := by rw [cell_of_row _ _ _ _ _ _ hb0]; rfl
  have c0_2 : W3.cell? ⟨w.heap.size, 2, none⟩ = some (.int .i64 C) := by rw [cell_of_row _ _ _ _ _ _ hb0]; rfl
  have c0_3 : W3.cell? ⟨w.heap.size, 3, none⟩ = some (.int .i64 T) := by rw [cell_of_row _ _ _ _ _ _ hb0]; rfl
  have c0_4 : W3.cell? ⟨w.heap.size, 4, none⟩ = some (.int .i64 M) := by rw [cell_of_row _ _ _ _ _ _ hb0]; rfl
  have c0_5 : W3.cell? ⟨w.heap.size, 5, none⟩ = some (.int .u8 0) := by rw [cell_of_row _ _ _ _ _ _ hb0]; rfl
  clear hb0
  have HB3_1 := Lib.hid hb1
  have c1_0 : W3.cell? ⟨W2.heap.size, 0, none⟩ = some (.int .u8 0) := by rw [cell_of_row _ _ _ _ _ _ hb1]; rfl
  have c1_1 : W3.cell? ⟨W2.heap.size, 1, none⟩ = some (.int .i64 0) := by rw [cell_of_row _ _ _ _ _ _ hb1]; rfl
  have c1_2 : W3.cell? ⟨W2.heap.size, 2, none⟩ = some (.int .i64 0) := by rw [cell_of_row _ _ _ _ _ _ hb1]; rfl
  have c1_3 : W3.cell? ⟨W2.heap.size, 3, none⟩ = some (.int .i64 0) := by rw [cell_of_row _ _ _ _ _ _ hb1]; rfl
  have c1_4 : W3.cell? ⟨W2.heap.size, 4, none⟩ = some (.int .i64 0) := by rw [cell_of_row _ _ _ _ _ _ hb1]; rfl
  have c1_5 : W3.cell? ⟨W2.heap.size, 5, none⟩ = some (.int .u8 0) := by rw [cell_of_row _ _ _ _ _ _ hb1]; rfl
  clear hb1
  go_wp2_with (fail)
  have HLE : LiveO (CrtB (U.heap.size + 1) .new 0) U (fun i => i = W2.heap.size) W3 := HL3.out
  have hNE : ∀ i, (fun i => i = W2.heap.size) i → i < W3.heap.size := fun i hi => by have hi2 := hi; (try simp only [World.size_alloc, boxed_size]); (try simp only at hi2); omega
  refine (sent_nil _ S C).mono ?_
  rintro e _ ⟨rfl, rfl⟩
  clear HLE hNE
  go_wp2_with (fail)
  have HLE : LiveO (CrtB (U.heap.size + 1) .new 0) U (fun i => i = W2.heap.size) W3 := HL3.out
  have hNE : ∀ i, (fun i => i = W2.heap.size) i → i < W3.heap.size := fun i hi => by have hi2 := hi; (try simp only [World.size_alloc, boxed_size]); (try simp only at hi2); omega
  refine (trips_nil _).mono ?_
  rintro e _ ⟨rfl, rfl⟩
  clear HLE hNE
  go_wp2_with (fail)
  have HLE : LiveO (CrtB (U.heap.size + 1) .new 0) U (fun i => i = W2.heap.size) W3 := HL3.out
  have hNE : ∀ i, (fun i => i = W2.heap.size) i → i < W3.heap.size := fun i hi => by have hi2 := hi; (try simp only [World.size_alloc, boxed_size]); (try simp only at hi2); omega
  refine (sent_live HLE (by omega)).mono ?_
  rintro e W4 ⟨rfl, hk⟩
  have hl := HLE.below (crt_thing (U.heap.size + 1) .new 0) hk
  have hsz : W3.heap.size ≤ W4.heap.size := hk.size
  try simp only [World.size_alloc, boxed_size] at hsz
  have hb0 : W4.heap[w.heap.size]? = some (.cells #[.int .u8 K, .int .i64 S, .int .i64 C, .int .i64 T, .int .i64 M, .int .u8 0] 31 (0, 0)) := below_block hk (HB3_0.out)
  have hb1 : W4.heap[W2.heap.size]? = some (.cells #[.int .u8 0, .int .i64 0, .int .i64 0, .int .i64 0, .int .i64 0, .int .u8 0] 31 (0, 0)) := below_block hk (HB3_1.out)
  have HL4 := Lib.hid hl
  have l4 : W3.heap.size + 0 ≤ W4.heap.size := by omega
  have : w.heap.size < W4.heap.size := by omega
  have : W2.heap.size < W4.heap.size := by omega
  clear hl hk hsz HLE hNE HB3_0 c0_0 c0_1 c0_2 c0_3 c0_4 c0_5 HB3_1 c1_0 c1_1 c1_2 c1_3 c1_4 c1_5
  have HB4_0 := Lib.hid hb0
  have c0_0 : W4.cell? ⟨w.heap.size, 0, none⟩ = some (.int .u8 K) := by rw [cell_of_row _ _ _ _ _ _ hb0]; rfl
  have c0_1 : W4.cell? ⟨w.heap.size, 1, none⟩ = some (.int .i64 S) := by rw [cell_of_row _ _ _ _ _ _ hb0]; rfl
  have c0_2 : W4.cell? ⟨w.heap.size, 2, none⟩ = some (.int .i64 C) := by rw [cell_of_row _ _ _ _ _ _ hb0]; rfl
  have c0_3 : W4.cell? ⟨w.heap.size, 3, none⟩ = some (.int .i64 T) := by rw [cell_of_row _ _ _ _ _ _ hb0]; rfl
  have c0_4 : W4.cell? ⟨w.heap.size, 4, none⟩ = some (.int .i64 M) := by rw [cell_of_row _ _ _ _ _ _ hb0]; rfl
  have c0_5 : W4.cell? ⟨w.heap.size, 5, none⟩ = some (.int .u8 0) := by rw [cell_of_row _ _ _ _ _ _ hb0]; rfl
  clear hb0
  have HB4_1 := Lib.hid hb1
  have c1_0 : W4.cell? ⟨W2.heap.size, 0, none⟩ = some (.int .u8 0) := by rw [cell_of_row _ _ _ _ _ _ hb1]; rfl
  have c1_1 : W4.cell? ⟨W2.heap.size, 1, none⟩ = some (.int .i64 0) := by rw [cell_of_row _ _ _ _ _ _ hb1]; rfl
  have c1_2 : W4.cell? ⟨W2.heap.size, 2, none⟩ = some (.int .i64 0) := by rw [cell_of_row _ _ _ _ _ _ hb1]; rfl
  have c1_3 : W4.cell? ⟨W2.heap.size, 3, none⟩ = some (.int .i64 0) := by rw [cell_of_row _ _ _ _ _ _ hb1]; rfl
  have c1_4 : W4.cell? ⟨W2.heap.size, 4, none⟩ = some (.int .i64 0) := by rw [cell_of_row _ _ _ _ _ _ hb1]; rfl
  have c1_5 : W4.cell? ⟨W2.heap.size, 5, none⟩ = some (.int .u8 0) := by rw [cell_of_row _ _ _ _ _ _ hb1]; rfl
  clear hb1
  have a4 : sentOf (Crt.new).trips (S, C) = 0 := by rfl
  rw [a4]
  clear a4
  go_wp2_with (fail)
  have HLE : LiveO (CrtB (U.heap.size + 1) .new 0) U (fun i => i = W2.heap.size) W4 := HL4.out
  have hNE : ∀ i, (fun i => i = W2.heap.size) i → i < W4.heap.size := fun i hi => by have hi2 := hi; (try simp only [World.size_alloc, boxed_size]); (try simp only at hi2); omega
  refine (tripsLen_live HLE (by omega)).mono ?_
  rintro e W5 ⟨A9, c9, rfl, hk⟩
  have hl := HLE.below (crt_thing (U.heap.size + 1) .new 0) hk
  have hsz : W4.heap.size ≤ W5.heap.size := hk.size
  try simp only [World.size_alloc, boxed_size] at hsz
  have hb0 : W5.heap[w.heap.size]? = some (.cells #[.int .u8 K, .int .i64 S, .int .i64 C, .int .i64 T, .int .i64 M, .int .u8 0] 31 (0, 0)) := below_block hk (HB4_0.out)
  have hb1 : W5.heap[W2.heap.size]? = some (.cells #[.int .u8 0, .int .i64 0, .int .i64 0, .int .i64 0, .int .i64 0, .int .u8 0] 31 (0, 0)) := below_block hk (HB4_1.out)
  have HL5 := Lib.hid hl
  have l5 : W4.heap.size + 0 ≤ W5.heap.size := by omega
  have : w.heap.size < W5.heap.size := by omega
  have : W2.heap.size < W5.heap.size := by omega
  clear hl hk hsz HLE hNE HB4_0 c0_0 c0_1 c0_2 c0_3 c0_4 c0_5 HB4_1 c1_0 c1_1 c1_2 c1_3 c1_4 c1_5
  have HB5_0 := Lib.hid hb0
  have c0_0 : W5.cell? ⟨w.heap.size, 0, none⟩ = some (.int .u8 K) := by rw [cell_of_row _ _ _ _ _ _ hb0]; rfl
  have c0_1 : W5.cell? ⟨w.heap.size, 1, none⟩ = some (.int .i64 S) := by rw [cell_of_row _ _ _ _ _ _ hb0]; rfl
  have c0_2 : W5.cell? ⟨w.heap.size, 2, none⟩ = some (.int .i64 C) := by rw [cell_of_row _ _ _ _ _ _ hb0]; rfl
  have c0_3 : W5.cell? ⟨w.heap.size, 3, none⟩ = some (.int .i64 T) := by rw [cell_of_row _ _ _ _ _ _ hb0]; rfl
  have c0_4 : W5.cell? ⟨w.heap.size, 4, none⟩ = some (.int .i64 M) := by rw [cell_of_row _ _ _ _ _ _ hb0]; rfl
  have c0_5 : W5.cell? ⟨w.heap.size, 5, none⟩ = some (.int .u8 0) := by rw [cell_of_row _ _ _ _ _ _ hb0]; rfl
  clear hb0
  have HB5_1 := Lib.hid hb1
  have c1_0 : W5.cell? ⟨W2.heap.size, 0, none⟩ = some (.int .u8 0) := by rw [cell_of_row _ _ _ _ _ _ hb1]; rfl
  have c1_1 : W5.cell? ⟨W2.heap.size, 1, none⟩ = some (.int .i64 0) := by rw [cell_of_row _ _ _ _ _ _ hb1]; rfl
  have c1_2 : W5.cell? ⟨W2.heap.size, 2, none⟩ = some (.int .i64 0) := by rw [cell_of_row _ _ _ _ _ _ hb1]; rfl
  have c1_3 : W5.cell? ⟨W2.heap.size, 3, none⟩ = some (.int .i64 0) := by rw [cell_of_row _ _ _ _ _ _ hb1]; rfl
  have c1_4 : W5.cell? ⟨W2.heap.size, 4, none⟩ = some (.int .i64 0) := by rw [cell_of_row _ _ _ _ _ _ hb1]; rfl
  have c1_5 : W5.cell? ⟨W2.heap.size, 5, none⟩ = some (.int .u8 0) := by rw [cell_of_row _ _ _ _ _ _ hb1]; rfl
  clear hb1
  have a5 : (Crt.new).trips.length = 0 := by rfl
  rw [a5]
  clear a5
  go_wp2
  go_ret
  exact ⟨rfl, HUW.out.trans ((HL5.out.old).mono (by omega))⟩
set_option maxHeartbeats 2000000 in
theorem cartNil_yes {w : World} (K S C T M V : Int) (v : Int) (hk : tpok (S, C)) :
    Calls Try.prog 11 #[.agg #[.int .u8 5, .int .i64 S, .int .i64 C, .int .i64 T, .int .i64 M, .int .u8 0], .int .u8 1] w fun e w' => e = .returned (.bool true) ∧ Below w.heap.size w w' := by
  obtain ⟨hS, hC⟩ := hk
  have hk : tpok (S, C) := ⟨hS, hC⟩
  go_enter Try.func11, Try.ntmps11
  go_wp2_with (fail)
  refine (chear_nil _ 5 S C T M 0 1).mono ?_
  rintro e U0 ⟨rfl, hb⟩
  have hn0 : U0.heap[w.heap.size]? = some (.cells #[.int .u8 5, .int .i64 S, .int .i64 C, .int .i64 T, .int .i64 M, .int .u8 0] 31 (0, 0)) := below_block hb (alloc_at rfl)
  have d0 : U0.cell? ⟨w.heap.size, 0, none⟩ = some (.int .u8 5) := by rw [cell_of_row _ _ _ _ _ _ hn0]; rfl
  have d1 : U0.cell? ⟨w.heap.size, 1, none⟩ = some (.int .i64 S) := by rw [cell_of_row _ _ _ _ _ _ hn0]; rfl
  have d2 : U0.cell? ⟨w.heap.size, 2, none⟩ = some (.int .i64 C) := by rw [cell_of_row _ _ _ _ _ _ hn0]; rfl
  have d3 : U0.cell? ⟨w.heap.size, 3, none⟩ = some (.int .i64 T) := by rw [cell_of_row _ _ _ _ _ _ hn0]; rfl
  have d4 : U0.cell? ⟨w.heap.size, 4, none⟩ = some (.int .i64 M) := by rw [cell_of_row _ _ _ _ _ _ hn0]; rfl
  have d5 : U0.cell? ⟨w.heap.size, 5, none⟩ = some (.int .u8 0) := by rw [cell_of_row _ _ _ _ _ _ hn0]; rfl
  have HUB : Hid (Below w.heap.size w U0) := ((Below.refl _ w).alloc (Nat.le_refl _) _).trans (hb.mono (by simp))
  have hlt : w.heap.size < U0.heap.size := (Array.getElem?_eq_some_iff.1 hn0).1
  go_wp2_with (fail)
  have HB0_0 : Hid ((U0.alloc (.cells #[.int .u8 0, .int .i64 0, .int .i64 0, .int .i64 0, .int .i64 0, .int .u8 0] 31)).heap[w.heap.size]? = some (.cells #[.int .u8 5, .int .i64 S, .int .i64 C, .int .i64 T, .int .i64 M, .int .u8 0] 31 (0, 0))) := alloc_old hlt hn0
  have HUW : Hid (Below w.heap.size w (U0.alloc (.cells #[.int .u8 0, .int .i64 0, .int .i64 0, .int .i64 0, .int .i64 0, .int .u8 0] 31))) := HUB.out.alloc (by omega) _
  have hlt2 : w.heap.size < (U0.alloc (.cells #[.int .u8 0, .int .i64 0, .int .i64 0, .int .i64 0, .int .i64 0, .int .u8 0] 31)).heap.size := by rw [World.size_alloc]; omega
  clear d0 d1 d2 d3 d4 d5 hn0 hb HUB hlt
  generalize U0.alloc (.cells #[.int .u8 0, .int .i64 0, .int .i64 0, .int .i64 0, .int .i64 0, .int .u8 0] 31) = U at *
  refine (cnew_live).mono ?_
  rintro e W1 ⟨rfl, hl, hz1⟩
  have HL1 := Lib.hid hl
  have l1 : U.heap.size ≤ W1.heap.size := hl.old.size
  have hb0 : W1.heap[w.heap.size]? = some (.cells #[.int .u8 5, .int .i64 S, .int .i64 C, .int .i64 T, .int .i64 M, .int .u8 0] 31 (0, 0)) := below_block hl.old HB0_0.out
  clear hl hz1
  have HB1_0 := Lib.hid hb0
  have c0_0 : W1.cell? ⟨w.heap.size, 0, none⟩ = some (.int .u8 5) := by rw [cell_of_row _ _ _ _ _ _ hb0]; rfl
  have c0_1 : W1.cell? ⟨w.heap.size, 1, none⟩ = some (.int .i64 S) := by rw [cell_of_row _ _ _ _ _ _ hb0]; rfl
  have c0_2 : W1.cell? ⟨w.heap.size, 2, none⟩ = some (.int .i64 C) := by rw [cell_of_row _ _ _ _ _ _ hb0]; rfl
  have c0_3 : W1.cell? ⟨w.heap.size, 3, none⟩ = some (.int .i64 T) := by rw [cell_of_row _ _ _ _ _ _ hb0]; rfl
  have c0_4 : W1.cell? ⟨w.heap.size, 4, none⟩ = some (.int .i64 M) := by rw [cell_of_row _ _ _ _ _ _ hb0]; rfl
  have c0_5 : W1.cell? ⟨w.heap.size, 5, none⟩ = some (.int .u8 0) := by rw [cell_of_row _ _ _ _ _ _ hb0]; rfl
  clear hb0
  go_wp2_with (fail)
  have HLE : LiveO (CrtB (U.heap.size + 1) .new 0) U (fun (_ : Nat) => False) W1 := HL1.out
  have hNE : ∀ i : Nat, (fun (_ : Nat) => False) i → i < W1.heap.size := fun i hi => hi.elim
  refine (chear_live HLE hNE hk (by omega)).mono ?_
  rintro e W2 ⟨rfl, hl, hk⟩
  have hsz : W1.heap.size ≤ W2.heap.size := hk.size
  try simp only [World.size_alloc, boxed_size] at hsz
  have hb0 : W2.heap[w.heap.size]? = some (.cells #[.int .u8 5, .int .i64 S, .int .i64 C, .int .i64 T, .int .i64 M, .int .u8 0] 31 (0, 0)) := hk.old_at (by omega) (HB1_0.out)
  have HL2 := Lib.hid hl
  have l2 : W1.heap.size + 0 ≤ W2.heap.size := by omega
  have : w.heap.size < W2.heap.size := by omega
  clear hl hk hsz HLE hNE HB1_0 c0_0 c0_1 c0_2 c0_3 c0_4 c0_5
  have HB2_0 := Lib.hid hb0
  have c0_0 : W2.cell? ⟨w.heap.size, 0, none⟩ = some (.int .u8 5) := by rw [cell_of_row _ _ _ _ _ _ hb0]; rfl
  have c0_1 : W2.cell? ⟨w.heap.size, 1, none⟩ = some (.int .i64 S) := by rw [cell_of_row _ _ _ _ _ _ hb0]; rfl
  have c0_2 : W2.cell? ⟨w.heap.size, 2, none⟩ = some (.int .i64 C) := by rw [cell_of_row _ _ _ _ _ _ hb0]; rfl
  have c0_3 : W2.cell? ⟨w.heap.size, 3, none⟩ = some (.int .i64 T) := by rw [cell_of_row _ _ _ _ _ _ hb0]; rfl
  have c0_4 : W2.cell? ⟨w.heap.size, 4, none⟩ = some (.int .i64 M) := by rw [cell_of_row _ _ _ _ _ _ hb0]; rfl
  have c0_5 : W2.cell? ⟨w.heap.size, 5, none⟩ = some (.int .u8 0) := by rw [cell_of_row _ _ _ _ _ _ hb0]; rfl
  clear hb0
  go_wp2_with (fail)
  have HLE : LiveO (CrtB (U.heap.size + 1) (Crt.new.ship (S, C) 1) (0 + 1)) U (fun i => i = W2.heap.size) (W2.alloc (.cells #[.int .u8 5, .int .i64 S, .int .i64 C, .int .i64 T, .int .i64 M, .int .u8 ((Crt.new).ans (S, C) 1)] 31)) := ((HL2.out).alloc (crt_thing (U.heap.size + 1) (Crt.new.ship (S, C) 1) (0 + 1)) (.cells #[.int .u8 5, .int .i64 S, .int .i64 C, .int .i64 T, .int .i64 M, .int .u8 ((Crt.new).ans (S, C) 1)] 31)).less (fun i hi => by have hi2 := hi; (try simp only [World.size_alloc, boxed_size]); (try simp only at hi2); (try simp only [false_or]); omega)
  have hNE : ∀ i, (fun i => i = W2.heap.size) i → i < (W2.alloc (.cells #[.int .u8 5, .int .i64 S, .int .i64 C, .int .i64 T, .int .i64 M, .int .u8 ((Crt.new).ans (S, C) 1)] 31)).heap.size := fun i hi => by have hi2 := hi; (try simp only [World.size_alloc, boxed_size]); (try simp only at hi2); omega
  refine (crtAwake_any _).mono ?_
  rintro e W3 ⟨rfl, hk⟩
  have hl := HLE.below (crt_thing (U.heap.size + 1) (Crt.new.ship (S, C) 1) (0 + 1)) hk
  have hsz : (W2.alloc (.cells #[.int .u8 5, .int .i64 S, .int .i64 C, .int .i64 T, .int .i64 M, .int .u8 ((Crt.new).ans (S, C) 1)] 31)).heap.size ≤ W3.heap.size := hk.size
  try simp only [World.size_alloc, boxed_size] at hsz
  have hb0 : W3.heap[w.heap.size]? = some (.cells #[.int .u8 5, .int .i64 S, .int .i64 C, .int .i64 T, .int .i64 M, .int .u8 0] 31 (0, 0)) := below_block hk (alloc_old (by (try simp only [World.size_alloc, boxed_size]); omega) (HB2_0.out))
  have hb1 : W3.heap[W2.heap.size]? = some (.cells #[.int .u8 5, .int .i64 S, .int .i64 C, .int .i64 T, .int .i64 M, .int .u8 ((Crt.new).ans (S, C) 1)] 31 (0, 0)) := below_block hk (alloc_at (by first | rfl | simp only [World.size_alloc, boxed_size]))
  have HL3 := Lib.hid hl
  have l3 : W2.heap.size + 1 ≤ W3.heap.size := by omega
  have : w.heap.size < W3.heap.size := by omega
  have : W2.heap.size < W3.heap.size := by omega
  have : w.heap.size < W2.heap.size := by omega
  clear hl hk hsz HLE hNE HB2_0 c0_0 c0_1 c0_2 c0_3 c0_4 c0_5
  have HB3_0 := Lib.hid hb0
  have c0_0 : W3.cell? ⟨w.heap.size, 0, none⟩ = some (.int .u8 5) := by rw [cell_of_row _ _ _ _ _ _ hb0]; rfl
  have c0_1 : W3.cell? ⟨w.heap.size, 1, none⟩ = some (.int .i64 S) := by rw [cell_of_row _ _ _ _ _ _ hb0]; rfl
  have c0_2 : W3.cell? ⟨w.heap.size, 2, none⟩ = some (.int .i64 C) := by rw [cell_of_row _ _ _ _ _ _ hb0]; rfl
  have c0_3 : W3.cell? ⟨w.heap.size, 3, none⟩ = some (.int .i64 T) := by rw [cell_of_row _ _ _ _ _ _ hb0]; rfl
  have c0_4 : W3.cell? ⟨w.heap.size, 4, none⟩ = some (.int .i64 M) := by rw [cell_of_row _ _ _ _ _ _ hb0]; rfl
  have c0_5 : W3.cell? ⟨w.heap.size, 5, none⟩ = some (.int .u8 0) := by rw [cell_of_row _ _ _ _ _ _ hb0]; rfl
  clear hb0
  have HB3_1 := Lib.hid hb1
  have c1_0 : W3.cell? ⟨W2.heap.size, 0, none⟩ = some (.int .u8 5) := by rw [cell_of_row _ _ _ _ _ _ hb1]; rfl
  have c1_1 : W3.cell? ⟨W2.heap.size, 1, none⟩ = some (.int .i64 S) := by rw [cell_of_row _ _ _ _ _ _ hb1]; rfl
  have c1_2 : W3.cell? ⟨W2.heap.size, 2, none⟩ = some (.int .i64 C) := by rw [cell_of_row _ _ _ _ _ _ hb1]; rfl
  have c1_3 : W3.cell? ⟨W2.heap.size, 3, none⟩ = some (.int .i64 T) := by rw [cell_of_row _ _ _ _ _ _ hb1]; rfl
  have c1_4 : W3.cell? ⟨W2.heap.size, 4, none⟩ = some (.int .i64 M) := by rw [cell_of_row _ _ _ _ _ _ hb1]; rfl
  have c1_5 : W3.cell? ⟨W2.heap.size, 5, none⟩ = some (.int .u8 ((Crt.new).ans (S, C) 1)) := by rw [cell_of_row _ _ _ _ _ _ hb1]; rfl
  clear hb1
  go_wp2_with (fail)
  have HLE : LiveO (CrtB (U.heap.size + 1) (Crt.new.ship (S, C) 1) (0 + 1)) U (fun i => i = W2.heap.size) W3 := HL3.out
  have hNE : ∀ i, (fun i => i = W2.heap.size) i → i < W3.heap.size := fun i hi => by have hi2 := hi; (try simp only [World.size_alloc, boxed_size]); (try simp only at hi2); omega
  refine (sent_nil _ S C).mono ?_
  rintro e _ ⟨rfl, rfl⟩
  clear HLE hNE
  go_wp2_with (fail)
  have HLE : LiveO (CrtB (U.heap.size + 1) (Crt.new.ship (S, C) 1) (0 + 1)) U (fun i => i = W2.heap.size) W3 := HL3.out
  have hNE : ∀ i, (fun i => i = W2.heap.size) i → i < W3.heap.size := fun i hi => by have hi2 := hi; (try simp only [World.size_alloc, boxed_size]); (try simp only at hi2); omega
  refine (trips_nil _).mono ?_
  rintro e _ ⟨rfl, rfl⟩
  clear HLE hNE
  go_wp2_with (fail)
  have HLE : LiveO (CrtB (U.heap.size + 1) (Crt.new.ship (S, C) 1) (0 + 1)) U (fun i => i = W2.heap.size) W3 := HL3.out
  have hNE : ∀ i, (fun i => i = W2.heap.size) i → i < W3.heap.size := fun i hi => by have hi2 := hi; (try simp only [World.size_alloc, boxed_size]); (try simp only at hi2); omega
  refine (sent_live HLE (by omega)).mono ?_
  rintro e W4 ⟨rfl, hk⟩
  have hl := HLE.below (crt_thing (U.heap.size + 1) (Crt.new.ship (S, C) 1) (0 + 1)) hk
  have hsz : W3.heap.size ≤ W4.heap.size := hk.size
  try simp only [World.size_alloc, boxed_size] at hsz
  have hb0 : W4.heap[w.heap.size]? = some (.cells #[.int .u8 5, .int .i64 S, .int .i64 C, .int .i64 T, .int .i64 M, .int .u8 0] 31 (0, 0)) := below_block hk (HB3_0.out)
  have hb1 : W4.heap[W2.heap.size]? = some (.cells #[.int .u8 5, .int .i64 S, .int .i64 C, .int .i64 T, .int .i64 M, .int .u8 ((Crt.new).ans (S, C) 1)] 31 (0, 0)) := below_block hk (HB3_1.out)
  have HL4 := Lib.hid hl
  have l4 : W3.heap.size + 0 ≤ W4.heap.size := by omega
  have : w.heap.size < W4.heap.size := by omega
  have : W2.heap.size < W4.heap.size := by omega
  clear hl hk hsz HLE hNE HB3_0 c0_0 c0_1 c0_2 c0_3 c0_4 c0_5 HB3_1 c1_0 c1_1 c1_2 c1_3 c1_4 c1_5
  have HB4_0 := Lib.hid hb0
  have c0_0 : W4.cell? ⟨w.heap.size, 0, none⟩ = some (.int .u8 5) := by rw [cell_of_row _ _ _ _ _ _ hb0]; rfl
  have c0_1 : W4.cell? ⟨w.heap.size, 1, none⟩ = some (.int .i64 S) := by rw [cell_of_row _ _ _ _ _ _ hb0]; rfl
  have c0_2 : W4.cell? ⟨w.heap.size, 2, none⟩ = some (.int .i64 C) := by rw [cell_of_row _ _ _ _ _ _ hb0]; rfl
  have c0_3 : W4.cell? ⟨w.heap.size, 3, none⟩ = some (.int .i64 T) := by rw [cell_of_row _ _ _ _ _ _ hb0]; rfl
  have c0_4 : W4.cell? ⟨w.heap.size, 4, none⟩ = some (.int .i64 M) := by rw [cell_of_row _ _ _ _ _ _ hb0]; rfl
  have c0_5 : W4.cell? ⟨w.heap.size, 5, none⟩ = some (.int .u8 0) := by rw [cell_of_row _ _ _ _ _ _ hb0]; rfl
  clear hb0
  have HB4_1 := Lib.hid hb1
  have c1_0 : W4.cell? ⟨W2.heap.size, 0, none⟩ = some (.int .u8 5) := by rw [cell_of_row _ _ _ _ _ _ hb1]; rfl
  have c1_1 : W4.cell? ⟨W2.heap.size, 1, none⟩ = some (.int .i64 S) := by rw [cell_of_row _ _ _ _ _ _ hb1]; rfl
  have c1_2 : W4.cell? ⟨W2.heap.size, 2, none⟩ = some (.int .i64 C) := by rw [cell_of_row _ _ _ _ _ _ hb1]; rfl
  have c1_3 : W4.cell? ⟨W2.heap.size, 3, none⟩ = some (.int .i64 T) := by rw [cell_of_row _ _ _ _ _ _ hb1]; rfl
  have c1_4 : W4.cell? ⟨W2.heap.size, 4, none⟩ = some (.int .i64 M) := by rw [cell_of_row _ _ _ _ _ _ hb1]; rfl
  have c1_5 : W4.cell? ⟨W2.heap.size, 5, none⟩ = some (.int .u8 ((Crt.new).ans (S, C) 1)) := by rw [cell_of_row _ _ _ _ _ _ hb1]; rfl
  clear hb1
  have a4 : sentOf (Crt.new.ship (S, C) 1).trips (S, C) = 1 := by show sentOf [(S, C)] (S, C) = 1; simp [sentOf]
  rw [a4]
  clear a4
  go_wp2_with (fail)
  have HLE : LiveO (CrtB (U.heap.size + 1) (Crt.new.ship (S, C) 1) (0 + 1)) U (fun i => i = W2.heap.size) W4 := HL4.out
  have hNE : ∀ i, (fun i => i = W2.heap.size) i → i < W4.heap.size := fun i hi => by have hi2 := hi; (try simp only [World.size_alloc, boxed_size]); (try simp only at hi2); omega
  refine (tripsLen_live HLE (by omega)).mono ?_
  rintro e W5 ⟨A9, c9, rfl, hk⟩
  have hl := HLE.below (crt_thing (U.heap.size + 1) (Crt.new.ship (S, C) 1) (0 + 1)) hk
  have hsz : W4.heap.size ≤ W5.heap.size := hk.size
  try simp only [World.size_alloc, boxed_size] at hsz
  have hb0 : W5.heap[w.heap.size]? = some (.cells #[.int .u8 5, .int .i64 S, .int .i64 C, .int .i64 T, .int .i64 M, .int .u8 0] 31 (0, 0)) := below_block hk (HB4_0.out)
  have hb1 : W5.heap[W2.heap.size]? = some (.cells #[.int .u8 5, .int .i64 S, .int .i64 C, .int .i64 T, .int .i64 M, .int .u8 ((Crt.new).ans (S, C) 1)] 31 (0, 0)) := below_block hk (HB4_1.out)
  have HL5 := Lib.hid hl
  have l5 : W4.heap.size + 0 ≤ W5.heap.size := by omega
  have : w.heap.size < W5.heap.size := by omega
  have : W2.heap.size < W5.heap.size := by omega
  clear hl hk hsz HLE hNE HB4_0 c0_0 c0_1 c0_2 c0_3 c0_4 c0_5 HB4_1 c1_0 c1_1 c1_2 c1_3 c1_4 c1_5
  have HB5_0 := Lib.hid hb0
  have c0_0 : W5.cell? ⟨w.heap.size, 0, none⟩ = some (.int .u8 5) := by rw [cell_of_row _ _ _ _ _ _ hb0]; rfl
  have c0_1 : W5.cell? ⟨w.heap.size, 1, none⟩ = some (.int .i64 S) := by rw [cell_of_row _ _ _ _ _ _ hb0]; rfl
  have c0_2 : W5.cell? ⟨w.heap.size, 2, none⟩ = some (.int .i64 C) := by rw [cell_of_row _ _ _ _ _ _ hb0]; rfl
  have c0_3 : W5.cell? ⟨w.heap.size, 3, none⟩ = some (.int .i64 T) := by rw [cell_of_row _ _ _ _ _ _ hb0]; rfl
  have c0_4 : W5.cell? ⟨w.heap.size, 4, none⟩ = some (.int .i64 M) := by rw [cell_of_row _ _ _ _ _ _ hb0]; rfl
  have c0_5 : W5.cell? ⟨w.heap.size, 5, none⟩ = some (.int .u8 0) := by rw [cell_of_row _ _ _ _ _ _ hb0]; rfl
  clear hb0
  have HB5_1 := Lib.hid hb1
  have c1_0 : W5.cell? ⟨W2.heap.size, 0, none⟩ = some (.int .u8 5) := by rw [cell_of_row _ _ _ _ _ _ hb1]; rfl
  have c1_1 : W5.cell? ⟨W2.heap.size, 1, none⟩ = some (.int .i64 S) := by rw [cell_of_row _ _ _ _ _ _ hb1]; rfl
  have c1_2 : W5.cell? ⟨W2.heap.size, 2, none⟩ = some (.int .i64 C) := by rw [cell_of_row _ _ _ _ _ _ hb1]; rfl
  have c1_3 : W5.cell? ⟨W2.heap.size, 3, none⟩ = some (.int .i64 T) := by rw [cell_of_row _ _ _ _ _ _ hb1]; rfl
  have c1_4 : W5.cell? ⟨W2.heap.size, 4, none⟩ = some (.int .i64 M) := by rw [cell_of_row _ _ _ _ _ _ hb1]; rfl
  have c1_5 : W5.cell? ⟨W2.heap.size, 5, none⟩ = some (.int .u8 ((Crt.new).ans (S, C) 1)) := by rw [cell_of_row _ _ _ _ _ _ hb1]; rfl
  clear hb1
  have a5 : (Crt.new.ship (S, C) 1).trips.length = 1 := by rfl
  rw [a5]
  clear a5
  go_wp2
  go_ret
  exact ⟨rfl, HUW.out.trans ((HL5.out.old).mono (by omega))⟩
set_option maxHeartbeats 2000000 in
theorem cartNil_no {w : World} (K S C T M V : Int) (v : Int) (hk : tpok (S, C)) (hv : ¬ v = 1) :
    Calls Try.prog 11 #[.agg #[.int .u8 5, .int .i64 S, .int .i64 C, .int .i64 T, .int .i64 M, .int .u8 0], .int .u8 v] w fun e w' => e = .returned (.bool true) ∧ Below w.heap.size w w' := by
  have dv : (v == 1) = false := by simpa using hv
  obtain ⟨hS, hC⟩ := hk
  have hk : tpok (S, C) := ⟨hS, hC⟩
  go_enter Try.func11, Try.ntmps11
  go_wp2_with (fail)
  refine (chear_nil _ 5 S C T M 0 v).mono ?_
  rintro e U0 ⟨rfl, hb⟩
  have hn0 : U0.heap[w.heap.size]? = some (.cells #[.int .u8 5, .int .i64 S, .int .i64 C, .int .i64 T, .int .i64 M, .int .u8 0] 31 (0, 0)) := below_block hb (alloc_at rfl)
  have d0 : U0.cell? ⟨w.heap.size, 0, none⟩ = some (.int .u8 5) := by rw [cell_of_row _ _ _ _ _ _ hn0]; rfl
  have d1 : U0.cell? ⟨w.heap.size, 1, none⟩ = some (.int .i64 S) := by rw [cell_of_row _ _ _ _ _ _ hn0]; rfl
  have d2 : U0.cell? ⟨w.heap.size, 2, none⟩ = some (.int .i64 C) := by rw [cell_of_row _ _ _ _ _ _ hn0]; rfl
  have d3 : U0.cell? ⟨w.heap.size, 3, none⟩ = some (.int .i64 T) := by rw [cell_of_row _ _ _ _ _ _ hn0]; rfl
  have d4 : U0.cell? ⟨w.heap.size, 4, none⟩ = some (.int .i64 M) := by rw [cell_of_row _ _ _ _ _ _ hn0]; rfl
  have d5 : U0.cell? ⟨w.heap.size, 5, none⟩ = some (.int .u8 0) := by rw [cell_of_row _ _ _ _ _ _ hn0]; rfl
  have HUB : Hid (Below w.heap.size w U0) := ((Below.refl _ w).alloc (Nat.le_refl _) _).trans (hb.mono (by simp))
  have hlt : w.heap.size < U0.heap.size := (Array.getElem?_eq_some_iff.1 hn0).1
  go_wp2_with (fail)
  have HB0_0 : Hid ((U0.alloc (.cells #[.int .u8 0, .int .i64 0, .int .i64 0, .int .i64 0, .int .i64 0, .int .u8 0] 31)).heap[w.heap.size]? = some (.cells #[.int .u8 5, .int .i64 S, .int .i64 C, .int .i64 T, .int .i64 M, .int .u8 0] 31 (0, 0))) := alloc_old hlt hn0
  have HUW : Hid (Below w.heap.size w (U0.alloc (.cells #[.int .u8 0, .int .i64 0, .int .i64 0, .int .i64 0, .int .i64 0, .int .u8 0] 31))) := HUB.out.alloc (by omega) _
  have hlt2 : w.heap.size < (U0.alloc (.cells #[.int .u8 0, .int .i64 0, .int .i64 0, .int .i64 0, .int .i64 0, .int .u8 0] 31)).heap.size := by rw [World.size_alloc]; omega
  clear d0 d1 d2 d3 d4 d5 hn0 hb HUB hlt
  generalize U0.alloc (.cells #[.int .u8 0, .int .i64 0, .int .i64 0, .int .i64 0, .int .i64 0, .int .u8 0] 31) = U at *
  refine (cnew_live).mono ?_
  rintro e W1 ⟨rfl, hl, hz1⟩
  have HL1 := Lib.hid hl
  have l1 : U.heap.size ≤ W1.heap.size := hl.old.size
  have hb0 : W1.heap[w.heap.size]? = some (.cells #[.int .u8 5, .int .i64 S, .int .i64 C, .int .i64 T, .int .i64 M, .int .u8 0] 31 (0, 0)) := below_block hl.old HB0_0.out
  clear hl hz1
  have HB1_0 := Lib.hid hb0
  have c0_0 : W1.cell? ⟨w.heap.size, 0, none⟩ = some (.int .u8 5) := by rw [cell_of_row _ _ _ _ _ _ hb0]; rfl
  have c0_1 : W1.cell? ⟨w.heap.size, 1, none⟩ = some (.int .i64 S) := by rw [cell_of_row _ _ _ _ _ _ hb0]; rfl
  have c0_2 : W1.cell? ⟨w.heap.size, 2, none⟩ = some (.int .i64 C) := by rw [cell_of_row _ _ _ _ _ _ hb0]; rfl
  have c0_3 : W1.cell? ⟨w.heap.size, 3, none⟩ = some (.int .i64 T) := by rw [cell_of_row _ _ _ _ _ _ hb0]; rfl
  have c0_4 : W1.cell? ⟨w.heap.size, 4, none⟩ = some (.int .i64 M) := by rw [cell_of_row _ _ _ _ _ _ hb0]; rfl
  have c0_5 : W1.cell? ⟨w.heap.size, 5, none⟩ = some (.int .u8 0) := by rw [cell_of_row _ _ _ _ _ _ hb0]; rfl
  clear hb0
  go_wp2_with (fail)
  have HLE : LiveO (CrtB (U.heap.size + 1) .new 0) U (fun (_ : Nat) => False) W1 := HL1.out
  have hNE : ∀ i : Nat, (fun (_ : Nat) => False) i → i < W1.heap.size := fun i hi => hi.elim
  refine (chear_live HLE hNE hk (by omega)).mono ?_
  rintro e W2 ⟨rfl, hl, hk⟩
  have hsz : W1.heap.size ≤ W2.heap.size := hk.size
  try simp only [World.size_alloc, boxed_size] at hsz
  have hb0 : W2.heap[w.heap.size]? = some (.cells #[.int .u8 5, .int .i64 S, .int .i64 C, .int .i64 T, .int .i64 M, .int .u8 0] 31 (0, 0)) := hk.old_at (by omega) (HB1_0.out)
  have HL2 := Lib.hid hl
  have l2 : W1.heap.size + 0 ≤ W2.heap.size := by omega
  have : w.heap.size < W2.heap.size := by omega
  clear hl hk hsz HLE hNE HB1_0 c0_0 c0_1 c0_2 c0_3 c0_4 c0_5
  have HB2_0 := Lib.hid hb0
  have c0_0 : W2.cell? ⟨w.heap.size, 0, none⟩ = some (.int .u8 5) := by rw [cell_of_row _ _ _ _ _ _ hb0]; rfl
  have c0_1 : W2.cell? ⟨w.heap.size, 1, none⟩ = some (.int .i64 S) := by rw [cell_of_row _ _ _ _ _ _ hb0]; rfl
  have c0_2 : W2.cell? ⟨w.heap.size, 2, none⟩ = some (.int .i64 C) := by rw [cell_of_row _ _ _ _ _ _ hb0]; rfl
  have c0_3 : W2.cell? ⟨w.heap.size, 3, none⟩ = some (.int .i64 T) := by rw [cell_of_row _ _ _ _ _ _ hb0]; rfl
  have c0_4 : W2.cell? ⟨w.heap.size, 4, none⟩ = some (.int .i64 M) := by rw [cell_of_row _ _ _ _ _ _ hb0]; rfl
  have c0_5 : W2.cell? ⟨w.heap.size, 5, none⟩ = some (.int .u8 0) := by rw [cell_of_row _ _ _ _ _ _ hb0]; rfl
  clear hb0
  go_wp2_with (fail)
  have HLE : LiveO (CrtB (U.heap.size + 1) (Crt.new.ship (S, C) v) (0 + 1)) U (fun i => i = W2.heap.size) (W2.alloc (.cells #[.int .u8 5, .int .i64 S, .int .i64 C, .int .i64 T, .int .i64 M, .int .u8 ((Crt.new).ans (S, C) v)] 31)) := ((HL2.out).alloc (crt_thing (U.heap.size + 1) (Crt.new.ship (S, C) v) (0 + 1)) (.cells #[.int .u8 5, .int .i64 S, .int .i64 C, .int .i64 T, .int .i64 M, .int .u8 ((Crt.new).ans (S, C) v)] 31)).less (fun i hi => by have hi2 := hi; (try simp only [World.size_alloc, boxed_size]); (try simp only at hi2); (try simp only [false_or]); omega)
  have hNE : ∀ i, (fun i => i = W2.heap.size) i → i < (W2.alloc (.cells #[.int .u8 5, .int .i64 S, .int .i64 C, .int .i64 T, .int .i64 M, .int .u8 ((Crt.new).ans (S, C) v)] 31)).heap.size := fun i hi => by have hi2 := hi; (try simp only [World.size_alloc, boxed_size]); (try simp only at hi2); omega
  refine (crtAwake_any _).mono ?_
  rintro e W3 ⟨rfl, hk⟩
  have hl := HLE.below (crt_thing (U.heap.size + 1) (Crt.new.ship (S, C) v) (0 + 1)) hk
  have hsz : (W2.alloc (.cells #[.int .u8 5, .int .i64 S, .int .i64 C, .int .i64 T, .int .i64 M, .int .u8 ((Crt.new).ans (S, C) v)] 31)).heap.size ≤ W3.heap.size := hk.size
  try simp only [World.size_alloc, boxed_size] at hsz
  have hb0 : W3.heap[w.heap.size]? = some (.cells #[.int .u8 5, .int .i64 S, .int .i64 C, .int .i64 T, .int .i64 M, .int .u8 0] 31 (0, 0)) := below_block hk (alloc_old (by (try simp only [World.size_alloc, boxed_size]); omega) (HB2_0.out))
  have hb1 : W3.heap[W2.heap.size]? = some (.cells #[.int .u8 5, .int .i64 S, .int .i64 C, .int .i64 T, .int .i64 M, .int .u8 ((Crt.new).ans (S, C) v)] 31 (0, 0)) := below_block hk (alloc_at (by first | rfl | simp only [World.size_alloc, boxed_size]))
  have HL3 := Lib.hid hl
  have l3 : W2.heap.size + 1 ≤ W3.heap.size := by omega
  have : w.heap.size < W3.heap.size := by omega
  have : W2.heap.size < W3.heap.size := by omega
  have : w.heap.size < W2.heap.size := by omega
  clear hl hk hsz HLE hNE HB2_0 c0_0 c0_1 c0_2 c0_3 c0_4 c0_5
  have HB3_0 := Lib.hid hb0
  have c0_0 : W3.cell? ⟨w.heap.size, 0, none⟩ = some (.int .u8 5) := by rw [cell_of_row _ _ _ _ _ _ hb0]; rfl
  have c0_1 : W3.cell? ⟨w.heap.size, 1, none⟩ = some (.int .i64 S) := by rw [cell_of_row _ _ _ _ _ _ hb0]; rfl
  have c0_2 : W3.cell? ⟨w.heap.size, 2, none⟩ = some (.int .i64 C) := by rw [cell_of_row _ _ _ _ _ _ hb0]; rfl
  have c0_3 : W3.cell? ⟨w.heap.size, 3, none⟩ = some (.int .i64 T) := by rw [cell_of_row _ _ _ _ _ _ hb0]; rfl
  have c0_4 : W3.cell? ⟨w.heap.size, 4, none⟩ = some (.int .i64 M) := by rw [cell_of_row _ _ _ _ _ _ hb0]; rfl
  have c0_5 : W3.cell? ⟨w.heap.size, 5, none⟩ = some (.int .u8 0) := by rw [cell_of_row _ _ _ _ _ _ hb0]; rfl
  clear hb0
  have HB3_1 := Lib.hid hb1
  have c1_0 : W3.cell? ⟨W2.heap.size, 0, none⟩ = some (.int .u8 5) := by rw [cell_of_row _ _ _ _ _ _ hb1]; rfl
  have c1_1 : W3.cell? ⟨W2.heap.size, 1, none⟩ = some (.int .i64 S) := by rw [cell_of_row _ _ _ _ _ _ hb1]; rfl
  have c1_2 : W3.cell? ⟨W2.heap.size, 2, none⟩ = some (.int .i64 C) := by rw [cell_of_row _ _ _ _ _ _ hb1]; rfl
  have c1_3 : W3.cell? ⟨W2.heap.size, 3, none⟩ = some (.int .i64 T) := by rw [cell_of_row _ _ _ _ _ _ hb1]; rfl
  have c1_4 : W3.cell? ⟨W2.heap.size, 4, none⟩ = some (.int .i64 M) := by rw [cell_of_row _ _ _ _ _ _ hb1]; rfl
  have c1_5 : W3.cell? ⟨W2.heap.size, 5, none⟩ = some (.int .u8 ((Crt.new).ans (S, C) v)) := by rw [cell_of_row _ _ _ _ _ _ hb1]; rfl
  clear hb1
  go_wp2_with (fail)
  have HLE : LiveO (CrtB (U.heap.size + 1) (Crt.new.ship (S, C) v) (0 + 1)) U (fun i => i = W2.heap.size) W3 := HL3.out
  have hNE : ∀ i, (fun i => i = W2.heap.size) i → i < W3.heap.size := fun i hi => by have hi2 := hi; (try simp only [World.size_alloc, boxed_size]); (try simp only at hi2); omega
  refine (sent_nil _ S C).mono ?_
  rintro e _ ⟨rfl, rfl⟩
  clear HLE hNE
  go_wp2_with (fail)
  have HLE : LiveO (CrtB (U.heap.size + 1) (Crt.new.ship (S, C) v) (0 + 1)) U (fun i => i = W2.heap.size) W3 := HL3.out
  have hNE : ∀ i, (fun i => i = W2.heap.size) i → i < W3.heap.size := fun i hi => by have hi2 := hi; (try simp only [World.size_alloc, boxed_size]); (try simp only at hi2); omega
  refine (trips_nil _).mono ?_
  rintro e _ ⟨rfl, rfl⟩
  clear HLE hNE
  go_wp2_with (fail)
  have HLE : LiveO (CrtB (U.heap.size + 1) (Crt.new.ship (S, C) v) (0 + 1)) U (fun i => i = W2.heap.size) W3 := HL3.out
  have hNE : ∀ i, (fun i => i = W2.heap.size) i → i < W3.heap.size := fun i hi => by have hi2 := hi; (try simp only [World.size_alloc, boxed_size]); (try simp only at hi2); omega
  refine (sent_live HLE (by omega)).mono ?_
  rintro e W4 ⟨rfl, hk⟩
  have hl := HLE.below (crt_thing (U.heap.size + 1) (Crt.new.ship (S, C) v) (0 + 1)) hk
  have hsz : W3.heap.size ≤ W4.heap.size := hk.size
  try simp only [World.size_alloc, boxed_size] at hsz
  have hb0 : W4.heap[w.heap.size]? = some (.cells #[.int .u8 5, .int .i64 S, .int .i64 C, .int .i64 T, .int .i64 M, .int .u8 0] 31 (0, 0)) := below_block hk (HB3_0.out)
  have hb1 : W4.heap[W2.heap.size]? = some (.cells #[.int .u8 5, .int .i64 S, .int .i64 C, .int .i64 T, .int .i64 M, .int .u8 ((Crt.new).ans (S, C) v)] 31 (0, 0)) := below_block hk (HB3_1.out)
  have HL4 := Lib.hid hl
  have l4 : W3.heap.size + 0 ≤ W4.heap.size := by omega
  have : w.heap.size < W4.heap.size := by omega
  have : W2.heap.size < W4.heap.size := by omega
  clear hl hk hsz HLE hNE HB3_0 c0_0 c0_1 c0_2 c0_3 c0_4 c0_5 HB3_1 c1_0 c1_1 c1_2 c1_3 c1_4 c1_5
  have HB4_0 := Lib.hid hb0
  have c0_0 : W4.cell? ⟨w.heap.size, 0, none⟩ = some (.int .u8 5) := by rw [cell_of_row _ _ _ _ _ _ hb0]; rfl
  have c0_1 : W4.cell? ⟨w.heap.size, 1, none⟩ = some (.int .i64 S) := by rw [cell_of_row _ _ _ _ _ _ hb0]; rfl
  have c0_2 : W4.cell? ⟨w.heap.size, 2, none⟩ = some (.int .i64 C) := by rw [cell_of_row _ _ _ _ _ _ hb0]; rfl
  have c0_3 : W4.cell? ⟨w.heap.size, 3, none⟩ = some (.int .i64 T) := by rw [cell_of_row _ _ _ _ _ _ hb0]; rfl
  have c0_4 : W4.cell? ⟨w.heap.size, 4, none⟩ = some (.int .i64 M) := by rw [cell_of_row _ _ _ _ _ _ hb0]; rfl
  have c0_5 : W4.cell? ⟨w.heap.size, 5, none⟩ = some (.int .u8 0) := by rw [cell_of_row _ _ _ _ _ _ hb0]; rfl
  clear hb0
  have HB4_1 := Lib.hid hb1
  have c1_0 : W4.cell? ⟨W2.heap.size, 0, none⟩ = some (.int .u8 5) := by rw [cell_of_row _ _ _ _ _ _ hb1]; rfl
  have c1_1 : W4.cell? ⟨W2.heap.size, 1, none⟩ = some (.int .i64 S) := by rw [cell_of_row _ _ _ _ _ _ hb1]; rfl
  have c1_2 : W4.cell? ⟨W2.heap.size, 2, none⟩ = some (.int .i64 C) := by rw [cell_of_row _ _ _ _ _ _ hb1]; rfl
  have c1_3 : W4.cell? ⟨W2.heap.size, 3, none⟩ = some (.int .i64 T) := by rw [cell_of_row _ _ _ _ _ _ hb1]; rfl
  have c1_4 : W4.cell? ⟨W2.heap.size, 4, none⟩ = some (.int .i64 M) := by rw [cell_of_row _ _ _ _ _ _ hb1]; rfl
  have c1_5 : W4.cell? ⟨W2.heap.size, 5, none⟩ = some (.int .u8 ((Crt.new).ans (S, C) v)) := by rw [cell_of_row _ _ _ _ _ _ hb1]; rfl
  clear hb1
  have e9 : (Crt.new.ship (S, C) v).trips = [] := by { show (if v = 1 then [] ++ [(S, C)] else []) = []; rw [if_neg hv] }
  have a4 : sentOf (Crt.new.ship (S, C) v).trips (S, C) = 0 := by rw [e9]; rfl
  rw [a4]
  clear a4 e9
  go_wp2_with (fail)
  have HLE : LiveO (CrtB (U.heap.size + 1) (Crt.new.ship (S, C) v) (0 + 1)) U (fun i => i = W2.heap.size) W4 := HL4.out
  have hNE : ∀ i, (fun i => i = W2.heap.size) i → i < W4.heap.size := fun i hi => by have hi2 := hi; (try simp only [World.size_alloc, boxed_size]); (try simp only at hi2); omega
  refine (tripsLen_live HLE (by omega)).mono ?_
  rintro e W5 ⟨A9, c9, rfl, hk⟩
  have hl := HLE.below (crt_thing (U.heap.size + 1) (Crt.new.ship (S, C) v) (0 + 1)) hk
  have hsz : W4.heap.size ≤ W5.heap.size := hk.size
  try simp only [World.size_alloc, boxed_size] at hsz
  have hb0 : W5.heap[w.heap.size]? = some (.cells #[.int .u8 5, .int .i64 S, .int .i64 C, .int .i64 T, .int .i64 M, .int .u8 0] 31 (0, 0)) := below_block hk (HB4_0.out)
  have hb1 : W5.heap[W2.heap.size]? = some (.cells #[.int .u8 5, .int .i64 S, .int .i64 C, .int .i64 T, .int .i64 M, .int .u8 ((Crt.new).ans (S, C) v)] 31 (0, 0)) := below_block hk (HB4_1.out)
  have HL5 := Lib.hid hl
  have l5 : W4.heap.size + 0 ≤ W5.heap.size := by omega
  have : w.heap.size < W5.heap.size := by omega
  have : W2.heap.size < W5.heap.size := by omega
  clear hl hk hsz HLE hNE HB4_0 c0_0 c0_1 c0_2 c0_3 c0_4 c0_5 HB4_1 c1_0 c1_1 c1_2 c1_3 c1_4 c1_5
  have HB5_0 := Lib.hid hb0
  have c0_0 : W5.cell? ⟨w.heap.size, 0, none⟩ = some (.int .u8 5) := by rw [cell_of_row _ _ _ _ _ _ hb0]; rfl
  have c0_1 : W5.cell? ⟨w.heap.size, 1, none⟩ = some (.int .i64 S) := by rw [cell_of_row _ _ _ _ _ _ hb0]; rfl
  have c0_2 : W5.cell? ⟨w.heap.size, 2, none⟩ = some (.int .i64 C) := by rw [cell_of_row _ _ _ _ _ _ hb0]; rfl
  have c0_3 : W5.cell? ⟨w.heap.size, 3, none⟩ = some (.int .i64 T) := by rw [cell_of_row _ _ _ _ _ _ hb0]; rfl
  have c0_4 : W5.cell? ⟨w.heap.size, 4, none⟩ = some (.int .i64 M) := by rw [cell_of_row _ _ _ _ _ _ hb0]; rfl
  have c0_5 : W5.cell? ⟨w.heap.size, 5, none⟩ = some (.int .u8 0) := by rw [cell_of_row _ _ _ _ _ _ hb0]; rfl
  clear hb0
  have HB5_1 := Lib.hid hb1
  have c1_0 : W5.cell? ⟨W2.heap.size, 0, none⟩ = some (.int .u8 5) := by rw [cell_of_row _ _ _ _ _ _ hb1]; rfl
  have c1_1 : W5.cell? ⟨W2.heap.size, 1, none⟩ = some (.int .i64 S) := by rw [cell_of_row _ _ _ _ _ _ hb1]; rfl
  have c1_2 : W5.cell? ⟨W2.heap.size, 2, none⟩ = some (.int .i64 C) := by rw [cell_of_row _ _ _ _ _ _ hb1]; rfl
  have c1_3 : W5.cell? ⟨W2.heap.size, 3, none⟩ = some (.int .i64 T) := by rw [cell_of_row _ _ _ _ _ _ hb1]; rfl
  have c1_4 : W5.cell? ⟨W2.heap.size, 4, none⟩ = some (.int .i64 M) := by rw [cell_of_row _ _ _ _ _ _ hb1]; rfl
  have c1_5 : W5.cell? ⟨W2.heap.size, 5, none⟩ = some (.int .u8 ((Crt.new).ans (S, C) v)) := by rw [cell_of_row _ _ _ _ _ _ hb1]; rfl
  clear hb1
  have e9 : (Crt.new.ship (S, C) v).trips = [] := by { show (if v = 1 then [] ++ [(S, C)] else []) = []; rw [if_neg hv] }
  have a5 : (Crt.new.ship (S, C) v).trips.length = 0 := by rw [e9]; rfl
  rw [a5]
  clear a5 e9
  go_wp2
  go_ret
  exact ⟨rfl, HUW.out.trans ((HL5.out.old).mono (by omega))⟩
theorem cartNil_walk {w : World} (K S C T M V : Int) (h : (⟨K, S, C, T, M, V⟩ : Nv).Wf) (v : Int) (_ : (Lit.int .u8 v).wf = true) :
    Calls Try.prog 11 #[.agg #[.int .u8 K, .int .i64 S, .int .i64 C, .int .i64 T, .int .i64 M, .int .u8 V], .int .u8 v] w fun e w' => e = .returned (.bool true) ∧ Below w.heap.size w w' := by
  obtain ⟨_, hS, hC, _⟩ := h
  have hk : tpok (S, C) := ⟨WalkArith.wf_i64 hS, WalkArith.wf_i64 hC⟩
  by_cases hV : V = 0
  · subst hV
    by_cases h5 : K = 5
    · subst h5
      by_cases hv : v = 1
      · subst hv; exact cartNil_yes 5 S C T M 0 1 hk
      · exact cartNil_no 5 S C T M 0 v hk hv
    · exact cartNil_other K S C T M 0 v hk h5
  · exact cartNil_answer K S C T M V v hk hV
end Go.Proofs.Ytcjhgckkbekhoaa
