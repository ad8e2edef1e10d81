/-
  What becomes of a cycle behind an answer: the document's own Hear, whole. Conditions: the day is far from int's ends; a try is above 0 where it is charging.
-/
import Derived.Test.YthilcefikhnilaaCyRefA
import Derived.Test.YthilcefikhnilaaCyRefC
namespace Go.Proofs.Ythilcefikhnilaa
set_option maxRecDepth 20000
open Go.ChangeShapes Go.WideShapes Go.ChangeAt Go.RowKit

theorem refhear_any (s : Int) (n d p a u t x : Int) (g : Bool) (K S C T M V : Int) (y : Int) (o : Bool) (w : World) (ht : p = 1 → 1 ≤ t) (hy0 : -4611686018427387904 ≤ y) (hy1 : y ≤ 4611686018427387904) :
    Calls Try.prog 22 #[.int .i64 s, .agg #[.int .i64 n, .int .i64 d, .int .u8 p, .int .i64 a, .int .i64 u, .int .i64 t, .int .i64 x, .bool g], .agg #[.int .u8 K, .int .i64 S, .int .i64 C, .int .i64 T, .int .i64 M, .int .u8 V], .int .i64 y, .bool o] w fun e w' => e = .returned (.tuple #[(Cv.hear s ⟨n, d, p, a, u, t, x, g⟩ ⟨K, S, C, T, M, V⟩ y o).val, .bool (decide (Cv.Heard s ⟨n, d, p, a, u, t, x, g⟩ ⟨K, S, C, T, M, V⟩))]) ∧ Below w.heap.size w w' := by
  by_cases h : Cv.Heard s ⟨n, d, p, a, u, t, x, g⟩ ⟨K, S, C, T, M, V⟩
  case neg =>
    rw [show Cv.hear s ⟨n, d, p, a, u, t, x, g⟩ ⟨K, S, C, T, M, V⟩ y o = ⟨n, d, p, a, u, t, x, g⟩ from if_neg h, decide_eq_false h]
    exact refunheard_any s n d p a u t x g K S C T M V y o w h
  rw [show Cv.hear s ⟨n, d, p, a, u, t, x, g⟩ ⟨K, S, C, T, M, V⟩ y o = Cv.next ⟨n, d, p, a, u, t, x, g⟩ V y o from if_pos h, decide_eq_true h]
  obtain ⟨hk, hv, ha⟩ := h
  dsimp only at hk hv ha
  have HA := Lib.hid ha.symm
  have HB : Hid (Cv.asks ⟨n, d, p, a, u, t, x, g⟩ = true) := by
    show Cv.asks _ = true
    unfold Cv.asks
    simpa using hk
  clear ha
  revert HA HB
  refine kind_ways p ?_ ?_ ?_ ?_ ?_ (fun c1 c3 c4 c5 c6 => absurd (kind_none c1 c3 c4 c5 c6) hk)
  · rintro rfl HA HB; exact refhear_1 s n d a u t x g K S C T M V y o w HA HB hv (ht rfl) hy0 hy1
  · rintro rfl HA HB; exact refhear_3 s n d a u t x g K S C T M V y o w HA HB hv
  · rintro rfl HA HB; exact refhear_4 s n d a u t x g K S C T M V y o w HA HB hv
  · rintro rfl HA HB; exact refhear_5 s n d a u t x g K S C T M V y o w HA HB hv
  · rintro rfl HA HB; exact refhear_6 s n d a u t x g K S C T M V y o w HA HB hv
end Go.Proofs.Ythilcefikhnilaa
