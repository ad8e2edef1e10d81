/-
  The document's own Hear, of other phases. No conditions but those that each law names.
-/
import Derived.Test.YthilcefikhnilaaCyRef
namespace Go.Proofs.Ythilcefikhnilaa
set_option maxRecDepth 20000
open Go.ChangeShapes Go.WideShapes Go.ChangeAt Go.RowKit

set_option maxHeartbeats 2000000 in
theorem refhear_3 (s n d a u t x : Int) (g : Bool) (K S C T M V : Int) (y : Int) (o : Bool) (w : World) (HA : Hid (Cv.ask s ⟨n, d, 3, a, u, t, x, g⟩ = ⟨K, S, C, T, M, 0⟩)) (HB : Hid (Cv.asks ⟨n, d, 3, a, u, t, x, g⟩ = true)) (hv : V ≠ 0) :
    Calls Try.prog 22 #[.int .i64 s, .agg #[.int .i64 n, .int .i64 d, .int .u8 3, .int .i64 a, .int .i64 u, .int .i64 t, .int .i64 x, .bool g], .agg #[.int .u8 K, .int .i64 S, .int .i64 C, .int .i64 T, .int .i64 M, .int .u8 V], .int .i64 y, .bool o] w fun e w' => e = .returned (.tuple #[(Cv.allocated ⟨n, d, 3, a, u, t, x, g⟩ V o).val, .bool true]) ∧ Below w.heap.size w w' := by
  have d0 : (V == 0) = false := by simpa using hv
  by_cases h : V = 1
  · subst h
    clear hv
    cases o
    · rw [show Cv.allocated ⟨n, d, 3, a, u, t, x, g⟩ 1 false = ⟨n, d, 4, a, u, t, x, g⟩ from rfl]
      go_enter Try.func22, Try.ntmps22
      go_wp2_with (fail)
      refine (refasks_any _ _ _ _ _ _ _ _ _ _).mono ?_
      rw [HA.out, HB.out]
      dsimp only [Nv.arr]
      rintro e w1 ⟨rfl, hb⟩
      obtain ⟨hw, y0, y1, z0, e1⟩ := box3 hb
      rw [e1]
      have HW := Lib.hid hw
      clear e1 hb hw
      go_wp2
      refine bodyPost_ret (v := .tuple #[.agg #[.int .i64 n, .int .i64 d, .int .u8 4, .int .i64 a, .int .i64 u, .int .i64 t, .int .i64 x, .bool g], .bool true]) ?_ rfl ⟨rfl, (boxed_below (boxed_below (boxed_below HW.out (Nat.le_refl _)) (by omega)) (by omega)).alloc (by simp; omega) _⟩
      simp [results, Try.results22, go_sem, z0]
    · rw [show Cv.allocated ⟨n, d, 3, a, u, t, x, g⟩ 1 true = ⟨n, d, 5, a, u, t, x, g⟩ from rfl]
      go_enter Try.func22, Try.ntmps22
      go_wp2_with (fail)
      refine (refasks_any _ _ _ _ _ _ _ _ _ _).mono ?_
      rw [HA.out, HB.out]
      dsimp only [Nv.arr]
      rintro e w1 ⟨rfl, hb⟩
      obtain ⟨hw, y0, y1, z0, e1⟩ := box3 hb
      rw [e1]
      have HW := Lib.hid hw
      clear e1 hb hw
      go_wp2
      refine bodyPost_ret (v := .tuple #[.agg #[.int .i64 n, .int .i64 d, .int .u8 5, .int .i64 a, .int .i64 u, .int .i64 t, .int .i64 x, .bool g], .bool true]) ?_ rfl ⟨rfl, (boxed_below (boxed_below (boxed_below HW.out (Nat.le_refl _)) (by omega)) (by omega)).alloc (by simp; omega) _⟩
      simp [results, Try.results22, go_sem, z0]
  · have h1 : (V == 1) = false := by simpa using h
    rw [show Cv.allocated ⟨n, d, 3, a, u, t, x, g⟩ V o = Cv.back ⟨n, d, 3, a, u, t, x, g⟩ from if_neg h, refback_is]
    clear hv h
    obtain ⟨q, hq⟩ : ∃ q, (if a = 0 then (9 : Int) else 6) = q := ⟨_, rfl⟩
    have HQ := Lib.hid hq
    rw [hq]
    clear hq
    go_enter Try.func22, Try.ntmps22
    go_wp2_with (fail)
    refine (refasks_any _ _ _ _ _ _ _ _ _ _).mono ?_
    rw [HA.out, HB.out]
    dsimp only [Nv.arr]
    rintro e w1 ⟨rfl, hb⟩
    obtain ⟨hw, y0, y1, z0, e1⟩ := box3 hb
    rw [e1]
    have HW := Lib.hid hw
    clear e1 hb hw
    go_wp2_with (fail)
    refine (refback_any _ _ _ _ _ _ _ _ _).mono ?_
    rw [HQ.out]
    rintro e w2 ⟨rfl, hb⟩
    obtain ⟨hw, z1, e1⟩ := box3_alloc HW.out z0 hb
    have x1 : w.heap.size + 1 < w2.heap.size := by omega
    have x0 : w.heap.size < w2.heap.size := by omega
    rw [e1]
    have HW2 := Lib.hid hw
    clear e1 hb hw HW
    go_wp2
    refine bodyPost_ret (v := .tuple #[.agg #[.int .i64 n, .int .i64 d, .int .u8 q, .int .i64 a, .int .i64 u, .int .i64 t, .int .i64 x, .bool g], .bool true]) ?_ rfl ⟨rfl, boxed_below (boxed_below (boxed_below HW2.out (Nat.le_refl _)) (by omega)) (by omega)⟩
    simp [results, Try.results22, go_sem, z1]
set_option maxHeartbeats 2000000 in
theorem refhear_4 (s n d a u t x : Int) (g : Bool) (K S C T M V : Int) (y : Int) (o : Bool) (w : World) (HA : Hid (Cv.ask s ⟨n, d, 4, a, u, t, x, g⟩ = ⟨K, S, C, T, M, 0⟩)) (HB : Hid (Cv.asks ⟨n, d, 4, a, u, t, x, g⟩ = true)) (hv : V ≠ 0) :
    Calls Try.prog 22 #[.int .i64 s, .agg #[.int .i64 n, .int .i64 d, .int .u8 4, .int .i64 a, .int .i64 u, .int .i64 t, .int .i64 x, .bool g], .agg #[.int .u8 K, .int .i64 S, .int .i64 C, .int .i64 T, .int .i64 M, .int .u8 V], .int .i64 y, .bool o] w fun e w' => e = .returned (.tuple #[(Cv.shipped ⟨n, d, 4, a, u, t, x, g⟩ V).val, .bool true]) ∧ Below w.heap.size w w' := by
  have d0 : (V == 0) = false := by simpa using hv
  by_cases h : V = 1
  · subst h
    clear hv
    rw [show Cv.shipped ⟨n, d, 4, a, u, t, x, g⟩ 1 = ⟨n, d, 7, a, u, t, x, g⟩ from rfl]
    go_enter Try.func22, Try.ntmps22
    go_wp2_with (fail)
    refine (refasks_any _ _ _ _ _ _ _ _ _ _).mono ?_
    rw [HA.out, HB.out]
    dsimp only [Nv.arr]
    rintro e w1 ⟨rfl, hb⟩
    obtain ⟨hw, y0, y1, z0, e1⟩ := box3 hb
    rw [e1]
    have HW := Lib.hid hw
    clear e1 hb hw
    go_wp2
    refine bodyPost_ret (v := .tuple #[.agg #[.int .i64 n, .int .i64 d, .int .u8 7, .int .i64 a, .int .i64 u, .int .i64 t, .int .i64 x, .bool g], .bool true]) ?_ rfl ⟨rfl, (boxed_below (boxed_below (boxed_below HW.out (Nat.le_refl _)) (by omega)) (by omega)).alloc (by simp; omega) _⟩
    simp [results, Try.results22, go_sem, z0]
  · have h1 : (V == 1) = false := by simpa using h
    rw [show Cv.shipped ⟨n, d, 4, a, u, t, x, g⟩ V = ⟨n, d, 5, a, u, t, x, g⟩ from if_neg h]
    clear hv h
    go_enter Try.func22, Try.ntmps22
    go_wp2_with (fail)
    refine (refasks_any _ _ _ _ _ _ _ _ _ _).mono ?_
    rw [HA.out, HB.out]
    dsimp only [Nv.arr]
    rintro e w1 ⟨rfl, hb⟩
    obtain ⟨hw, y0, y1, z0, e1⟩ := box3 hb
    rw [e1]
    have HW := Lib.hid hw
    clear e1 hb hw
    go_wp2
    refine bodyPost_ret (v := .tuple #[.agg #[.int .i64 n, .int .i64 d, .int .u8 5, .int .i64 a, .int .i64 u, .int .i64 t, .int .i64 x, .bool g], .bool true]) ?_ rfl ⟨rfl, (boxed_below (boxed_below (boxed_below HW.out (Nat.le_refl _)) (by omega)) (by omega)).alloc (by simp; omega) _⟩
    simp [results, Try.results22, go_sem, z0]
set_option maxHeartbeats 2000000 in
theorem refhear_5 (s n d a u t x : Int) (g : Bool) (K S C T M V : Int) (y : Int) (o : Bool) (w : World) (HA : Hid (Cv.ask s ⟨n, d, 5, a, u, t, x, g⟩ = ⟨K, S, C, T, M, 0⟩)) (HB : Hid (Cv.asks ⟨n, d, 5, a, u, t, x, g⟩ = true)) (hv : V ≠ 0) :
    Calls Try.prog 22 #[.int .i64 s, .agg #[.int .i64 n, .int .i64 d, .int .u8 5, .int .i64 a, .int .i64 u, .int .i64 t, .int .i64 x, .bool g], .agg #[.int .u8 K, .int .i64 S, .int .i64 C, .int .i64 T, .int .i64 M, .int .u8 V], .int .i64 y, .bool o] w fun e w' => e = .returned (.tuple #[(Cv.back ⟨n, d, 5, a, u, t, x, g⟩).val, .bool true]) ∧ Below w.heap.size w w' := by
  have d0 : (V == 0) = false := by simpa using hv
  rw [refback_is]
  clear hv
  obtain ⟨q, hq⟩ : ∃ q, (if a = 0 then (9 : Int) else 6) = q := ⟨_, rfl⟩
  have HQ := Lib.hid hq
  rw [hq]
  clear hq
  go_enter Try.func22, Try.ntmps22
  go_wp2_with (fail)
  refine (refasks_any _ _ _ _ _ _ _ _ _ _).mono ?_
  rw [HA.out, HB.out]
  dsimp only [Nv.arr]
  rintro e w1 ⟨rfl, hb⟩
  obtain ⟨hw, y0, y1, z0, e1⟩ := box3 hb
  rw [e1]
  have HW := Lib.hid hw
  clear e1 hb hw
  go_wp2_with (fail)
  refine (refback_any _ _ _ _ _ _ _ _ _).mono ?_
  rw [HQ.out]
  rintro e w2 ⟨rfl, hb⟩
  obtain ⟨hw, z1, e1⟩ := box3_alloc HW.out z0 hb
  have x1 : w.heap.size + 1 < w2.heap.size := by omega
  have x0 : w.heap.size < w2.heap.size := by omega
  rw [e1]
  have HW2 := Lib.hid hw
  clear e1 hb hw HW
  go_wp2
  refine bodyPost_ret (v := .tuple #[.agg #[.int .i64 n, .int .i64 d, .int .u8 q, .int .i64 a, .int .i64 u, .int .i64 t, .int .i64 x, .bool g], .bool true]) ?_ rfl ⟨rfl, boxed_below (boxed_below (boxed_below HW2.out (Nat.le_refl _)) (by omega)) (by omega)⟩
  simp [results, Try.results22, go_sem, z1]
set_option maxHeartbeats 2000000 in
theorem refhear_6 (s n d a u t x : Int) (g : Bool) (K S C T M V : Int) (y : Int) (o : Bool) (w : World) (HA : Hid (Cv.ask s ⟨n, d, 6, a, u, t, x, g⟩ = ⟨K, S, C, T, M, 0⟩)) (HB : Hid (Cv.asks ⟨n, d, 6, a, u, t, x, g⟩ = true)) (hv : V ≠ 0) :
    Calls Try.prog 22 #[.int .i64 s, .agg #[.int .i64 n, .int .i64 d, .int .u8 6, .int .i64 a, .int .i64 u, .int .i64 t, .int .i64 x, .bool g], .agg #[.int .u8 K, .int .i64 S, .int .i64 C, .int .i64 T, .int .i64 M, .int .u8 V], .int .i64 y, .bool o] w fun e w' => e = .returned (.tuple #[(Cv.to ⟨n, d, 6, a, u, t, x, g⟩ 9).val, .bool true]) ∧ Below w.heap.size w w' := by
  have d0 : (V == 0) = false := by simpa using hv
  clear hv
  go_enter Try.func22, Try.ntmps22
  go_wp2_with (fail)
  refine (refasks_any _ _ _ _ _ _ _ _ _ _).mono ?_
  rw [HA.out, HB.out]
  dsimp only [Nv.arr]
  rintro e w1 ⟨rfl, hb⟩
  obtain ⟨hw, y0, y1, z0, e1⟩ := box3 hb
  rw [e1]
  have HW := Lib.hid hw
  clear e1 hb hw
  go_wp2
  refine bodyPost_ret (v := .tuple #[.agg #[.int .i64 n, .int .i64 d, .int .u8 9, .int .i64 a, .int .i64 u, .int .i64 t, .int .i64 x, .bool g], .bool true]) ?_ rfl ⟨rfl, (boxed_below (boxed_below (boxed_below HW.out (Nat.le_refl _)) (by omega)) (by omega)).alloc (by simp; omega) _⟩
  simp [results, Try.results22, go_sem, z0]
end Go.Proofs.Ythilcefikhnilaa
