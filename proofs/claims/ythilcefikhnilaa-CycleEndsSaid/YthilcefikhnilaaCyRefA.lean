/-
  The document's own Hear, of a charge. No conditions but those that each law names.
-/
import Derived.Test.YthilcefikhnilaaCyRefB
namespace Go.Proofs.Ythilcefikhnilaa
set_option maxRecDepth 20000
open Go.ChangeShapes Go.WideShapes Go.ChangeAt Go.RowKit

set_option maxHeartbeats 2000000 in
theorem refhear_1 (s n d a u t x : Int) (g : Bool) (K S C T M V : Int) (y : Int) (o : Bool) (w : World) (HA : Hid (Cv.ask s ⟨n, d, 1, a, u, t, x, g⟩ = ⟨K, S, C, T, M, 0⟩)) (HB : Hid (Cv.asks ⟨n, d, 1, a, u, t, x, g⟩ = true)) (hv : V ≠ 0) (ht : 1 ≤ t) (hy0 : -4611686018427387904 ≤ y) (hy1 : y ≤ 4611686018427387904) :
    Calls Try.prog 22 #[.int .i64 s, .agg #[.int .i64 n, .int .i64 d, .int .u8 1, .int .i64 a, .int .i64 u, .int .i64 t, .int .i64 x, .bool g], .agg #[.int .u8 K, .int .i64 S, .int .i64 C, .int .i64 T, .int .i64 M, .int .u8 V], .int .i64 y, .bool o] w fun e w' => e = .returned (.tuple #[(Cv.charged ⟨n, d, 1, a, u, t, x, g⟩ V y o).val, .bool true]) ∧ Below w.heap.size w w' := by
  have d0 : (V == 0) = false := by simpa using hv
  by_cases h : V = 1
  · subst h
    clear hv hy0 hy1 ht
    cases o
    · cases g
      · rw [show Cv.charged ⟨n, d, 1, a, u, t, x, false⟩ 1 y false = ⟨n, d, 7, a, u, t, x, false⟩ from rfl]
        go_enter Try.func22, Try.ntmps22
        go_wp2_with (fail)
        refine (refasks_any _ _ _ _ _ _ _ _ _ _).mono ?_
        rw [HA.out, HB.out]
        dsimp only [Nv.arr]
        rintro e w1 ⟨rfl, hb⟩
        obtain ⟨hw, y0, y1, z0, e1⟩ := box3 hb
        rw [e1]
        have HW := Lib.hid hw
        clear e1 hb hw
        go_wp2
        refine bodyPost_ret (v := .tuple #[.agg #[.int .i64 n, .int .i64 d, .int .u8 7, .int .i64 a, .int .i64 u, .int .i64 t, .int .i64 x, .bool false], .bool true]) ?_ rfl ⟨rfl, (boxed_below (boxed_below (boxed_below HW.out (Nat.le_refl _)) (by omega)) (by omega)).alloc (by simp; omega) _⟩
        simp [results, Try.results22, go_sem, z0]
      · rw [show Cv.charged ⟨n, d, 1, a, u, t, x, true⟩ 1 y false = ⟨n, d, 3, a, u, t, x, true⟩ from rfl]
        go_enter Try.func22, Try.ntmps22
        go_wp2_with (fail)
        refine (refasks_any _ _ _ _ _ _ _ _ _ _).mono ?_
        rw [HA.out, HB.out]
        dsimp only [Nv.arr]
        rintro e w1 ⟨rfl, hb⟩
        obtain ⟨hw, y0, y1, z0, e1⟩ := box3 hb
        rw [e1]
        have HW := Lib.hid hw
        clear e1 hb hw
        go_wp2
        refine bodyPost_ret (v := .tuple #[.agg #[.int .i64 n, .int .i64 d, .int .u8 3, .int .i64 a, .int .i64 u, .int .i64 t, .int .i64 x, .bool true], .bool true]) ?_ rfl ⟨rfl, (boxed_below (boxed_below (boxed_below HW.out (Nat.le_refl _)) (by omega)) (by omega)).alloc (by simp; omega) _⟩
        simp [results, Try.results22, go_sem, z0]
    · rw [show Cv.charged ⟨n, d, 1, a, u, t, x, g⟩ 1 y true = Cv.back ⟨n, d, 1, a, u, t, x, g⟩ from rfl, refback_is]
      obtain ⟨q, hq⟩ : ∃ q, (if a = 0 then (9 : Int) else 6) = q := ⟨_, rfl⟩
      have HQ := Lib.hid hq
      rw [hq]
      clear hq
      go_enter Try.func22, Try.ntmps22
      go_wp2_with (fail)
      refine (refasks_any _ _ _ _ _ _ _ _ _ _).mono ?_
      rw [HA.out, HB.out]
      dsimp only [Nv.arr]
      rintro e w1 ⟨rfl, hb⟩
      obtain ⟨hw, y0, y1, z0, e1⟩ := box3 hb
      rw [e1]
      have HW := Lib.hid hw
      clear e1 hb hw
      go_wp2_with (fail)
      refine (refback_any _ _ _ _ _ _ _ _ _).mono ?_
      rw [HQ.out]
      rintro e w2 ⟨rfl, hb⟩
      obtain ⟨hw, z1, e1⟩ := box3_alloc HW.out z0 hb
      have x1 : w.heap.size + 1 < w2.heap.size := by omega
      have x0 : w.heap.size < w2.heap.size := by omega
      rw [e1]
      have HW2 := Lib.hid hw
      clear e1 hb hw HW
      go_wp2
      refine bodyPost_ret (v := .tuple #[.agg #[.int .i64 n, .int .i64 d, .int .u8 q, .int .i64 a, .int .i64 u, .int .i64 t, .int .i64 x, .bool g], .bool true]) ?_ rfl ⟨rfl, boxed_below (boxed_below (boxed_below HW2.out (Nat.le_refl _)) (by omega)) (by omega)⟩
      simp [results, Try.results22, go_sem, z1]
  have h1 : (V == 1) = false := by simpa using h
  by_cases h2 : V = 2
  case neg =>
    have h3 : (V == 2) = false := by simpa using h2
    rw [show Cv.charged ⟨n, d, 1, a, u, t, x, g⟩ V y o = ⟨n, d, 8, a, u, t, x, g⟩ by unfold Cv.charged; rw [if_neg h, if_neg (fun g => h2 g.1)]; rfl]
    clear h h2 hv hy0 hy1 ht
    go_enter Try.func22, Try.ntmps22
    go_wp2_with (fail)
    refine (refasks_any _ _ _ _ _ _ _ _ _ _).mono ?_
    rw [HA.out, HB.out]
    dsimp only [Nv.arr]
    rintro e w1 ⟨rfl, hb⟩
    obtain ⟨hw, y0, y1, z0, e1⟩ := box3 hb
    rw [e1]
    have HW := Lib.hid hw
    clear e1 hb hw
    go_wp2
    refine lane_start (ord := [0, 1, 2, 3, 4, 5, 6, 7, 8, 9, 10, 11, 12, 13]) (S := fun w' => w'.heap[w.heap.size]? = some (.cells #[.int .i64 n, .int .i64 d, .int .u8 8, .int .i64 a, .int .i64 u, .int .i64 t, .int .i64 x, .bool g] 29 (0, 0)) ∧ w'.heap[w.heap.size + 1]? = some (.cells #[.int .u8 K, .int .i64 S, .int .i64 C, .int .i64 T, .int .i64 M, .int .u8 V] 35 (0, 0))) rfl (by kernel_rfl) ⟨look0_1 z0, look1_1 z0⟩ (fun hHeld => ?_)
    repeat (first
      | (refine lane_take (v := ?_) rfl (by kernel_rfl) (by kernel_rfl) (by rfl) ?_ (by assumption) ?_; rotate_left; (focus (intro W hSw; obtain ⟨hSw, hSn⟩ := hSw; obtain ⟨s0, s1, s2, s3, s4, s5, s6, s7⟩ := cells8 hSw; obtain ⟨n0, n1, n2, n3, n4, n5⟩ := cells6 hSn; go_simp; try (with_reducible rfl))); simp only [Act.put, List.setIfInBounds_toArray, List.set_cons_zero, List.set_cons_succ])
      | (refine lane_skip rfl (by kernel_rfl) (by kernel_rfl) (by rfl) (by assumption) ?_; simp only [Act.put, List.setIfInBounds_toArray, List.set_cons_zero, List.set_cons_succ]))
    refine lane_end (by kernel_rfl) ?_
    go_wp2
    refine bodyPost_ret (v := .tuple #[.agg #[.int .i64 n, .int .i64 d, .int .u8 8, .int .i64 a, .int .i64 u, .int .i64 t, .int .i64 x, .bool g], .bool true]) ?_ rfl ⟨rfl, by have hB := HW.out; (repeat (first | assumption | (with_reducible exact Below.refl _ _) | (with_reducible refine boxed_below ?_ ?_; rotate_left; (focus (first | omega | (simp; done) | (simp; omega)))) | (with_reducible refine Below.alloc ?_ ?_ _; rotate_left; (focus (first | omega | (simp; done) | (simp; omega)))) | (with_reducible refine Below.drew ?_)))⟩
    simp [results, Try.results22, go_sem, z0]
  subst h2
  exact refhear_2 s n d a u t x g K S C T M y o w HA HB ht hy0 hy1
end Go.Proofs.Ythilcefikhnilaa
