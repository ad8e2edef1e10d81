/-
  The document's own Hear, of a charge that is put off. No conditions but those that each law names.
-/
import Derived.Test.YthilcefikhnilaaCyRef
import Derived.Test.YthilcefikhnilaaLaneT
namespace Go.Proofs.Ythilcefikhnilaa
set_option maxRecDepth 20000
open Go.ChangeShapes Go.WideShapes Go.ChangeAt Go.RowKit

set_option maxHeartbeats 2000000 in
theorem refhear_2 (s n d a u t x : Int) (g : Bool) (K S C T M : Int) (y : Int) (o : Bool) (w : World) (HA : Hid (Cv.ask s ⟨n, d, 1, a, u, t, x, g⟩ = ⟨K, S, C, T, M, 0⟩)) (HB : Hid (Cv.asks ⟨n, d, 1, a, u, t, x, g⟩ = true)) (ht : 1 ≤ t) (hy0 : -4611686018427387904 ≤ y) (hy1 : y ≤ 4611686018427387904) :
    Calls Try.prog 22 #[.int .i64 s, .agg #[.int .i64 n, .int .i64 d, .int .u8 1, .int .i64 a, .int .i64 u, .int .i64 t, .int .i64 x, .bool g], .agg #[.int .u8 K, .int .i64 S, .int .i64 C, .int .i64 T, .int .i64 M, .int .u8 2], .int .i64 y, .bool o] w fun e w' => e = .returned (.tuple #[(Cv.charged ⟨n, d, 1, a, u, t, x, g⟩ 2 y o).val, .bool true]) ∧ Below w.heap.size w w' := by
  cases o
  case true =>
    rw [show Cv.charged ⟨n, d, 1, a, u, t, x, g⟩ 2 y true = ⟨n, d, 8, a, u, t, x, g⟩ by unfold Cv.charged; rw [if_neg (by omega), if_neg (fun g => by simp at g)]; rfl]
    clear hy0 hy1 ht
    go_enter Try.func22, Try.ntmps22
    go_wp2_with (fail)
    refine (refasks_any _ _ _ _ _ _ _ _ _ _).mono ?_
    rw [HA.out, HB.out]
    dsimp only [Nv.arr]
    rintro e w1 ⟨rfl, hb⟩
    obtain ⟨hw, y0, y1, z0, e1⟩ := box3 hb
    rw [e1]
    have HW := Lib.hid hw
    clear e1 hb hw
    go_wp2
    refine lane_start (ord := [0, 1, 2, 3, 4, 5, 6, 7, 8, 9, 10, 11, 12, 13]) (S := fun w' => w'.heap[w.heap.size]? = some (.cells #[.int .i64 n, .int .i64 d, .int .u8 8, .int .i64 a, .int .i64 u, .int .i64 t, .int .i64 x, .bool g] 29 (0, 0)) ∧ w'.heap[w.heap.size + 1]? = some (.cells #[.int .u8 K, .int .i64 S, .int .i64 C, .int .i64 T, .int .i64 M, .int .u8 2] 35 (0, 0))) rfl (by kernel_rfl) ⟨look0_1 z0, look1_1 z0⟩ (fun hHeld => ?_)
    repeat (first
      | (refine lane_take (v := ?_) rfl (by kernel_rfl) (by kernel_rfl) (by rfl) ?_ (by assumption) ?_; rotate_left; (focus (intro W hSw; obtain ⟨hSw, hSn⟩ := hSw; obtain ⟨s0, s1, s2, s3, s4, s5, s6, s7⟩ := cells8 hSw; obtain ⟨n0, n1, n2, n3, n4, n5⟩ := cells6 hSn; go_simp; try (with_reducible rfl))); simp only [Act.put, List.setIfInBounds_toArray, List.set_cons_zero, List.set_cons_succ])
      | (refine lane_skip rfl (by kernel_rfl) (by kernel_rfl) (by rfl) (by assumption) ?_; simp only [Act.put, List.setIfInBounds_toArray, List.set_cons_zero, List.set_cons_succ]))
    refine lane_end (by kernel_rfl) ?_
    go_wp2
    refine bodyPost_ret (v := .tuple #[.agg #[.int .i64 n, .int .i64 d, .int .u8 8, .int .i64 a, .int .i64 u, .int .i64 t, .int .i64 x, .bool g], .bool true]) ?_ rfl ⟨rfl, by have hB := HW.out; (repeat (first | assumption | (with_reducible exact Below.refl _ _) | (with_reducible refine boxed_below ?_ ?_; rotate_left; (focus (first | omega | (simp; done) | (simp; omega)))) | (with_reducible refine Below.alloc ?_ ?_ _; rotate_left; (focus (first | omega | (simp; done) | (simp; omega)))) | (with_reducible refine Below.drew ?_)))⟩
    simp [results, Try.results22, go_sem, z0]
  by_cases h4 : t < 4
  case neg =>
    have h5 : decide (t ≤ 3) = false := by simp; omega
    rw [show Cv.charged ⟨n, d, 1, a, u, t, x, g⟩ 2 y false = ⟨n, d, 8, a, u, t, x, g⟩ by unfold Cv.charged; rw [if_neg (by omega), if_neg (fun g => h4 g.2.2)]; rfl]
    clear h4 hy0 hy1 ht
    go_enter Try.func22, Try.ntmps22
    go_wp2_with (fail)
    refine (refasks_any _ _ _ _ _ _ _ _ _ _).mono ?_
    rw [HA.out, HB.out]
    dsimp only [Nv.arr]
    rintro e w1 ⟨rfl, hb⟩
    obtain ⟨hw, y0, y1, z0, e1⟩ := box3 hb
    rw [e1]
    have HW := Lib.hid hw
    clear e1 hb hw
    go_wp2
    refine lane_start (ord := [0, 1, 2, 3, 4, 5, 6, 7, 8, 9, 10, 11, 12, 13]) (S := fun w' => w'.heap[w.heap.size]? = some (.cells #[.int .i64 n, .int .i64 d, .int .u8 8, .int .i64 a, .int .i64 u, .int .i64 t, .int .i64 x, .bool g] 29 (0, 0)) ∧ w'.heap[w.heap.size + 1]? = some (.cells #[.int .u8 K, .int .i64 S, .int .i64 C, .int .i64 T, .int .i64 M, .int .u8 2] 35 (0, 0))) rfl (by kernel_rfl) ⟨look0_1 z0, look1_1 z0⟩ (fun hHeld => ?_)
    iterate 10 (refine lane_take (v := ?_) rfl (by kernel_rfl) (by kernel_rfl) (by rfl) ?_ (by assumption) ?_; rotate_left; (focus (intro W hSw; obtain ⟨hSw, hSn⟩ := hSw; obtain ⟨s0, s1, s2, s3, s4, s5, s6, s7⟩ := cells8 hSw; obtain ⟨n0, n1, n2, n3, n4, n5⟩ := cells6 hSn; go_simp; try (with_reducible rfl))); simp only [Act.put, List.setIfInBounds_toArray, List.set_cons_zero, List.set_cons_succ])
    refine lane_alone rfl (by kernel_rfl) (by rfl) (fun K hK => ?_)
    go_simp
    refine (steps_any _).mono ?_
    rintro e w2 ⟨rfl, rfl⟩
    refine hK _ _ ⟨alloc_old (by simp; omega) hHeld.1, alloc_old (by simp; omega) hHeld.2⟩ (fun hHeld => ?_)
    clear hK K
    iterate 3 (refine lane_take (v := ?_) rfl (by kernel_rfl) (by kernel_rfl) (by rfl) ?_ (by assumption) ?_; rotate_left; (focus (intro W hSw; obtain ⟨hSw, hSn⟩ := hSw; obtain ⟨s0, s1, s2, s3, s4, s5, s6, s7⟩ := cells8 hSw; obtain ⟨n0, n1, n2, n3, n4, n5⟩ := cells6 hSn; go_simp; try (with_reducible rfl))); simp only [Act.put, List.setIfInBounds_toArray, List.set_cons_zero, List.set_cons_succ])
    refine lane_end (by kernel_rfl) ?_
    go_wp2
    have z9 : w.heap.size + 1 + 1 < w1.heap.size + 1 := by omega
    refine bodyPost_ret (v := .tuple #[.agg #[.int .i64 n, .int .i64 d, .int .u8 8, .int .i64 a, .int .i64 u, .int .i64 t, .int .i64 x, .bool g], .bool true]) ?_ rfl ⟨rfl, by have hB := HW.out; (repeat (first | assumption | (with_reducible exact Below.refl _ _) | (with_reducible refine boxed_below ?_ ?_; rotate_left; (focus (first | omega | (simp; done) | (simp; omega)))) | (with_reducible refine Below.alloc ?_ ?_ _; rotate_left; (focus (first | omega | (simp; done) | (simp; omega)))) | (with_reducible refine Below.drew ?_)))⟩
    simp [results, Try.results22, go_sem, z0, z9]
  have h5 : decide (t ≤ 3) = true := by simp; omega
  have h6 : t = 1 ∨ t = 2 ∨ t = 3 := by omega
  clear h4 h5 ht
  rcases h6 with rfl | rfl | rfl
  · rw [show Cv.charged ⟨n, d, 1, a, u, 1, x, g⟩ 2 y false = ⟨n, d, 2, a, u, 1, y + 1, g⟩ from rfl]
    go_enter Try.func22, Try.ntmps22
    go_wp2_with (fail)
    refine (refasks_any _ _ _ _ _ _ _ _ _ _).mono ?_
    rw [HA.out, HB.out]
    dsimp only [Nv.arr]
    rintro e w1 ⟨rfl, hb⟩
    obtain ⟨hw, y0, y1, z0, e1⟩ := box3 hb
    rw [e1]
    have HW := Lib.hid hw
    clear e1 hb hw
    go_wp2
    refine lane_start (ord := [0, 1, 2, 3, 4, 5, 6, 7, 8, 9, 10, 11, 12, 13]) (S := fun w' => w'.heap[w.heap.size]? = some (.cells #[.int .i64 n, .int .i64 d, .int .u8 8, .int .i64 a, .int .i64 u, .int .i64 1, .int .i64 x, .bool g] 29 (0, 0)) ∧ w'.heap[w.heap.size + 1]? = some (.cells #[.int .u8 K, .int .i64 S, .int .i64 C, .int .i64 T, .int .i64 M, .int .u8 2] 35 (0, 0))) rfl (by kernel_rfl) ⟨look0_1 z0, look1_1 z0⟩ (fun hHeld => ?_)
    iterate 10 (refine lane_take (v := ?_) rfl (by kernel_rfl) (by kernel_rfl) (by rfl) ?_ (by assumption) ?_; rotate_left; (focus (intro W hSw; obtain ⟨hSw, hSn⟩ := hSw; obtain ⟨s0, s1, s2, s3, s4, s5, s6, s7⟩ := cells8 hSw; obtain ⟨n0, n1, n2, n3, n4, n5⟩ := cells6 hSn; go_simp; try (with_reducible rfl))); simp only [Act.put, List.setIfInBounds_toArray, List.set_cons_zero, List.set_cons_succ])
    refine lane_alone rfl (by kernel_rfl) (by rfl) (fun K hK => ?_)
    go_simp
    refine (steps_any _).mono ?_
    rintro e w2 ⟨rfl, rfl⟩
    refine hK _ _ ⟨alloc_old (by simp; omega) hHeld.1, alloc_old (by simp; omega) hHeld.2⟩ (fun hHeld => ?_)
    clear hK K
    iterate 3 (refine lane_take (v := ?_) rfl (by kernel_rfl) (by kernel_rfl) (by rfl) ?_ (by assumption) ?_; rotate_left; (focus (intro W hSw; obtain ⟨hSw, hSn⟩ := hSw; obtain ⟨s0, s1, s2, s3, s4, s5, s6, s7⟩ := cells8 hSw; obtain ⟨n0, n1, n2, n3, n4, n5⟩ := cells6 hSn; go_simp; try (with_reducible rfl))); simp only [Act.put, List.setIfInBounds_toArray, List.set_cons_zero, List.set_cons_succ])
    refine lane_end (by kernel_rfl) ?_
    go_wp2
    refine laneT_start (ord := [0, 2, 3, 4, 1, 5, 6, 7, 8, 9]) (t := 9) (S := fun w' => w'.heap[w.heap.size]? = some (.cells #[.int .i64 n, .int .i64 d, .int .u8 2, .int .i64 a, .int .i64 u, .int .i64 1, .int .i64 x, .bool g] 29 (0, 0)) ∧ w'.heap[w.heap.size + 1]? = some (.cells #[.int .u8 K, .int .i64 S, .int .i64 C, .int .i64 T, .int .i64 M, .int .u8 2] 35 (0, 0))) rfl (by kernel_rfl) ?_
    iterate 4 (refine laneT_take (v := ?_) rfl (by kernel_rfl) (by kernel_rfl) (by rfl) ?_ ⟨look0_2 z0, look1_2 z0⟩ ?_; rotate_left; (focus (intro W hSw; obtain ⟨hSw, hSn⟩ := hSw; obtain ⟨s0, s1, s2, s3, s4, s5, s6, s7⟩ := cells8 hSw; obtain ⟨n0, n1, n2, n3, n4, n5⟩ := cells6 hSn; go_simp; try (with_reducible rfl))); simp only [Act.put, List.setIfInBounds_toArray, List.set_cons_zero, List.set_cons_succ])
    refine laneT_alone rfl (by kernel_rfl) (by rfl) (fun K hK => ?_)
    go_simp
    refine (steps_any _).mono ?_
    rintro e w2 ⟨rfl, rfl⟩
    refine hK _ _ (fun _ => ⟨alloc_old (by simp; omega) (look0_2 z0), alloc_old (by simp; omega) (look1_2 z0)⟩) ?_
    clear hK K
    iterate 4
      refine laneT_alone rfl (by kernel_rfl) (by rfl) (fun K hK => ?_)
      go_simp
      refine hK _ _ (fun _ => ⟨alloc_old (by simp; omega) (look0_2 z0), alloc_old (by simp; omega) (look1_2 z0)⟩) ?_
      clear hK K
    have q1 : w.heap.size < w1.heap.size + 1 := by omega
    have q2 : w.heap.size < w1.heap.size + 1 + 1 := by omega
    refine laneT_alone rfl (by kernel_rfl) (by rfl) (fun K hK => ?_)
    go_simp
    refine hK _ _ (fun h => absurd rfl h) ?_
    clear hK K
    refine laneT_end (by kernel_rfl) ?_
    go_wp2
    have z9 : w.heap.size + 1 + 1 < w1.heap.size + 1 := by omega
    have z8 : w.heap.size + 1 + 1 < w1.heap.size + 1 + 1 := by omega
    refine bodyPost_ret (v := .tuple #[.agg #[.int .i64 n, .int .i64 d, .int .u8 2, .int .i64 a, .int .i64 u, .int .i64 1, .int .i64 (y + 1), .bool g], .bool true]) ?_ rfl ⟨rfl, by have hB := HW.out; (repeat (first | assumption | (with_reducible exact Below.refl _ _) | (with_reducible refine boxed_below ?_ ?_; rotate_left; (focus (first | omega | (simp; done) | (simp; omega)))) | (with_reducible refine Below.alloc ?_ ?_ _; rotate_left; (focus (first | omega | (simp; done) | (simp; omega)))) | (with_reducible refine Below.drew ?_)))⟩
    simp [results, Try.results22, go_sem, z0, z9, z8]
  · rw [show Cv.charged ⟨n, d, 1, a, u, 2, x, g⟩ 2 y false = ⟨n, d, 2, a, u, 2, y + 3, g⟩ from rfl]
    go_enter Try.func22, Try.ntmps22
    go_wp2_with (fail)
    refine (refasks_any _ _ _ _ _ _ _ _ _ _).mono ?_
    rw [HA.out, HB.out]
    dsimp only [Nv.arr]
    rintro e w1 ⟨rfl, hb⟩
    obtain ⟨hw, y0, y1, z0, e1⟩ := box3 hb
    rw [e1]
    have HW := Lib.hid hw
    clear e1 hb hw
    go_wp2
    refine lane_start (ord := [0, 1, 2, 3, 4, 5, 6, 7, 8, 9, 10, 11, 12, 13]) (S := fun w' => w'.heap[w.heap.size]? = some (.cells #[.int .i64 n, .int .i64 d, .int .u8 8, .int .i64 a, .int .i64 u, .int .i64 2, .int .i64 x, .bool g] 29 (0, 0)) ∧ w'.heap[w.heap.size + 1]? = some (.cells #[.int .u8 K, .int .i64 S, .int .i64 C, .int .i64 T, .int .i64 M, .int .u8 2] 35 (0, 0))) rfl (by kernel_rfl) ⟨look0_1 z0, look1_1 z0⟩ (fun hHeld => ?_)
    iterate 10 (refine lane_take (v := ?_) rfl (by kernel_rfl) (by kernel_rfl) (by rfl) ?_ (by assumption) ?_; rotate_left; (focus (intro W hSw; obtain ⟨hSw, hSn⟩ := hSw; obtain ⟨s0, s1, s2, s3, s4, s5, s6, s7⟩ := cells8 hSw; obtain ⟨n0, n1, n2, n3, n4, n5⟩ := cells6 hSn; go_simp; try (with_reducible rfl))); simp only [Act.put, List.setIfInBounds_toArray, List.set_cons_zero, List.set_cons_succ])
    refine lane_alone rfl (by kernel_rfl) (by rfl) (fun K hK => ?_)
    go_simp
    refine (steps_any _).mono ?_
    rintro e w2 ⟨rfl, rfl⟩
    refine hK _ _ ⟨alloc_old (by simp; omega) hHeld.1, alloc_old (by simp; omega) hHeld.2⟩ (fun hHeld => ?_)
    clear hK K
    iterate 3 (refine lane_take (v := ?_) rfl (by kernel_rfl) (by kernel_rfl) (by rfl) ?_ (by assumption) ?_; rotate_left; (focus (intro W hSw; obtain ⟨hSw, hSn⟩ := hSw; obtain ⟨s0, s1, s2, s3, s4, s5, s6, s7⟩ := cells8 hSw; obtain ⟨n0, n1, n2, n3, n4, n5⟩ := cells6 hSn; go_simp; try (with_reducible rfl))); simp only [Act.put, List.setIfInBounds_toArray, List.set_cons_zero, List.set_cons_succ])
    refine lane_end (by kernel_rfl) ?_
    go_wp2
    refine laneT_start (ord := [0, 2, 3, 4, 1, 5, 6, 7, 8, 9]) (t := 9) (S := fun w' => w'.heap[w.heap.size]? = some (.cells #[.int .i64 n, .int .i64 d, .int .u8 2, .int .i64 a, .int .i64 u, .int .i64 2, .int .i64 x, .bool g] 29 (0, 0)) ∧ w'.heap[w.heap.size + 1]? = some (.cells #[.int .u8 K, .int .i64 S, .int .i64 C, .int .i64 T, .int .i64 M, .int .u8 2] 35 (0, 0))) rfl (by kernel_rfl) ?_
    iterate 4 (refine laneT_take (v := ?_) rfl (by kernel_rfl) (by kernel_rfl) (by rfl) ?_ ⟨look0_2 z0, look1_2 z0⟩ ?_; rotate_left; (focus (intro W hSw; obtain ⟨hSw, hSn⟩ := hSw; obtain ⟨s0, s1, s2, s3, s4, s5, s6, s7⟩ := cells8 hSw; obtain ⟨n0, n1, n2, n3, n4, n5⟩ := cells6 hSn; go_simp; try (with_reducible rfl))); simp only [Act.put, List.setIfInBounds_toArray, List.set_cons_zero, List.set_cons_succ])
    refine laneT_alone rfl (by kernel_rfl) (by rfl) (fun K hK => ?_)
    go_simp
    refine (steps_any _).mono ?_
    rintro e w2 ⟨rfl, rfl⟩
    refine hK _ _ (fun _ => ⟨alloc_old (by simp; omega) (look0_2 z0), alloc_old (by simp; omega) (look1_2 z0)⟩) ?_
    clear hK K
    iterate 4
      refine laneT_alone rfl (by kernel_rfl) (by rfl) (fun K hK => ?_)
      go_simp
      refine hK _ _ (fun _ => ⟨alloc_old (by simp; omega) (look0_2 z0), alloc_old (by simp; omega) (look1_2 z0)⟩) ?_
      clear hK K
    have q1 : w.heap.size < w1.heap.size + 1 := by omega
    have q2 : w.heap.size < w1.heap.size + 1 + 1 := by omega
    refine laneT_alone rfl (by kernel_rfl) (by rfl) (fun K hK => ?_)
    go_simp
    refine hK _ _ (fun h => absurd rfl h) ?_
    clear hK K
    refine laneT_end (by kernel_rfl) ?_
    go_wp2
    have z9 : w.heap.size + 1 + 1 < w1.heap.size + 1 := by omega
    have z8 : w.heap.size + 1 + 1 < w1.heap.size + 1 + 1 := by omega
    refine bodyPost_ret (v := .tuple #[.agg #[.int .i64 n, .int .i64 d, .int .u8 2, .int .i64 a, .int .i64 u, .int .i64 2, .int .i64 (y + 3), .bool g], .bool true]) ?_ rfl ⟨rfl, by have hB := HW.out; (repeat (first | assumption | (with_reducible exact Below.refl _ _) | (with_reducible refine boxed_below ?_ ?_; rotate_left; (focus (first | omega | (simp; done) | (simp; omega)))) | (with_reducible refine Below.alloc ?_ ?_ _; rotate_left; (focus (first | omega | (simp; done) | (simp; omega)))) | (with_reducible refine Below.drew ?_)))⟩
    simp [results, Try.results22, go_sem, z0, z9, z8]
  · rw [show Cv.charged ⟨n, d, 1, a, u, 3, x, g⟩ 2 y false = ⟨n, d, 2, a, u, 3, y + 7, g⟩ from rfl]
    go_enter Try.func22, Try.ntmps22
    go_wp2_with (fail)
    refine (refasks_any _ _ _ _ _ _ _ _ _ _).mono ?_
    rw [HA.out, HB.out]
    dsimp only [Nv.arr]
    rintro e w1 ⟨rfl, hb⟩
    obtain ⟨hw, y0, y1, z0, e1⟩ := box3 hb
    rw [e1]
    have HW := Lib.hid hw
    clear e1 hb hw
    go_wp2
    refine lane_start (ord := [0, 1, 2, 3, 4, 5, 6, 7, 8, 9, 10, 11, 12, 13]) (S := fun w' => w'.heap[w.heap.size]? = some (.cells #[.int .i64 n, .int .i64 d, .int .u8 8, .int .i64 a, .int .i64 u, .int .i64 3, .int .i64 x, .bool g] 29 (0, 0)) ∧ w'.heap[w.heap.size + 1]? = some (.cells #[.int .u8 K, .int .i64 S, .int .i64 C, .int .i64 T, .int .i64 M, .int .u8 2] 35 (0, 0))) rfl (by kernel_rfl) ⟨look0_1 z0, look1_1 z0⟩ (fun hHeld => ?_)
    iterate 10 (refine lane_take (v := ?_) rfl (by kernel_rfl) (by kernel_rfl) (by rfl) ?_ (by assumption) ?_; rotate_left; (focus (intro W hSw; obtain ⟨hSw, hSn⟩ := hSw; obtain ⟨s0, s1, s2, s3, s4, s5, s6, s7⟩ := cells8 hSw; obtain ⟨n0, n1, n2, n3, n4, n5⟩ := cells6 hSn; go_simp; try (with_reducible rfl))); simp only [Act.put, List.setIfInBounds_toArray, List.set_cons_zero, List.set_cons_succ])
    refine lane_alone rfl (by kernel_rfl) (by rfl) (fun K hK => ?_)
    go_simp
    refine (steps_any _).mono ?_
    rintro e w2 ⟨rfl, rfl⟩
    refine hK _ _ ⟨alloc_old (by simp; omega) hHeld.1, alloc_old (by simp; omega) hHeld.2⟩ (fun hHeld => ?_)
    clear hK K
    iterate 3 (refine lane_take (v := ?_) rfl (by kernel_rfl) (by kernel_rfl) (by rfl) ?_ (by assumption) ?_; rotate_left; (focus (intro W hSw; obtain ⟨hSw, hSn⟩ := hSw; obtain ⟨s0, s1, s2, s3, s4, s5, s6, s7⟩ := cells8 hSw; obtain ⟨n0, n1, n2, n3, n4, n5⟩ := cells6 hSn; go_simp; try (with_reducible rfl))); simp only [Act.put, List.setIfInBounds_toArray, List.set_cons_zero, List.set_cons_succ])
    refine lane_end (by kernel_rfl) ?_
    go_wp2
    refine laneT_start (ord := [0, 2, 3, 4, 1, 5, 6, 7, 8, 9]) (t := 9) (S := fun w' => w'.heap[w.heap.size]? = some (.cells #[.int .i64 n, .int .i64 d, .int .u8 2, .int .i64 a, .int .i64 u, .int .i64 3, .int .i64 x, .bool g] 29 (0, 0)) ∧ w'.heap[w.heap.size + 1]? = some (.cells #[.int .u8 K, .int .i64 S, .int .i64 C, .int .i64 T, .int .i64 M, .int .u8 2] 35 (0, 0))) rfl (by kernel_rfl) ?_
    iterate 4 (refine laneT_take (v := ?_) rfl (by kernel_rfl) (by kernel_rfl) (by rfl) ?_ ⟨look0_2 z0, look1_2 z0⟩ ?_; rotate_left; (focus (intro W hSw; obtain ⟨hSw, hSn⟩ := hSw; obtain ⟨s0, s1, s2, s3, s4, s5, s6, s7⟩ := cells8 hSw; obtain ⟨n0, n1, n2, n3, n4, n5⟩ := cells6 hSn; go_simp; try (with_reducible rfl))); simp only [Act.put, List.setIfInBounds_toArray, List.set_cons_zero, List.set_cons_succ])
    refine laneT_alone rfl (by kernel_rfl) (by rfl) (fun K hK => ?_)
    go_simp
    refine (steps_any _).mono ?_
    rintro e w2 ⟨rfl, rfl⟩
    refine hK _ _ (fun _ => ⟨alloc_old (by simp; omega) (look0_2 z0), alloc_old (by simp; omega) (look1_2 z0)⟩) ?_
    clear hK K
    iterate 4
      refine laneT_alone rfl (by kernel_rfl) (by rfl) (fun K hK => ?_)
      go_simp
      refine hK _ _ (fun _ => ⟨alloc_old (by simp; omega) (look0_2 z0), alloc_old (by simp; omega) (look1_2 z0)⟩) ?_
      clear hK K
    have q1 : w.heap.size < w1.heap.size + 1 := by omega
    have q2 : w.heap.size < w1.heap.size + 1 + 1 := by omega
    refine laneT_alone rfl (by kernel_rfl) (by rfl) (fun K hK => ?_)
    go_simp
    refine hK _ _ (fun h => absurd rfl h) ?_
    clear hK K
    refine laneT_end (by kernel_rfl) ?_
    go_wp2
    have z9 : w.heap.size + 1 + 1 < w1.heap.size + 1 := by omega
    have z8 : w.heap.size + 1 + 1 < w1.heap.size + 1 + 1 := by omega
    refine bodyPost_ret (v := .tuple #[.agg #[.int .i64 n, .int .i64 d, .int .u8 2, .int .i64 a, .int .i64 u, .int .i64 3, .int .i64 (y + 7), .bool g], .bool true]) ?_ rfl ⟨rfl, by have hB := HW.out; (repeat (first | assumption | (with_reducible exact Below.refl _ _) | (with_reducible refine boxed_below ?_ ?_; rotate_left; (focus (first | omega | (simp; done) | (simp; omega)))) | (with_reducible refine Below.alloc ?_ ?_ _; rotate_left; (focus (first | omega | (simp; done) | (simp; omega)))) | (with_reducible refine Below.drew ?_)))⟩
    simp [results, Try.results22, go_sem, z0, z9, z8]
end Go.Proofs.Ythilcefikhnilaa
