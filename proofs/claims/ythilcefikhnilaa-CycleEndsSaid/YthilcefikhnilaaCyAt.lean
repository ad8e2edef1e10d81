/-
  The laws' cycle that may be; the document's example. No conditions.
-/
import Derived.Test.YthilcefikhnilaaCyHear
namespace Go.Proofs.Ythilcefikhnilaa
set_option maxRecDepth 20000
open Go.ChangeShapes Go.WideShapes Go.ChangeAt Go.RowKit

/-- The laws' cycle that may be. -/
def Cy.at_ (q n d a u t x : Int) (g : Bool) : Cv :=
  ⟨n, d, 1 + q % 10, a, u, if q % 10 = 0 then 1 + t % 4 else if q % 10 = 1 then 1 + t % 3 else 0, if q % 10 = 1 then x else 0, g⟩
set_option maxHeartbeats 1000000 in
theorem cyat_any (q n d a u t x : Int) (g : Bool) (w : World) (hq : 0 ≤ q ∧ q < 256) (ht : 0 ≤ t ∧ t < 256) (hn : 0 ≤ n ∧ n < 65536) (hd : 0 ≤ d ∧ d < 65536) (ha : 0 ≤ a ∧ a < 4294967296) (hu : -2147483648 ≤ u ∧ u ≤ 2147483647) (hx : 0 ≤ x ∧ x < 65536) :
    Calls Try.prog 17 #[.int .u8 q, .int .u16 n, .int .u16 d, .int .u32 a, .int .i32 u, .int .u8 t, .int .u16 x, .bool g] w fun e w' => e = .returned (Cy.at_ q n d a u t x g).val ∧ Below w.heap.size w w' := by
  obtain ⟨hq0, hq1⟩ := hq
  obtain ⟨ht0, ht1⟩ := ht
  obtain ⟨hn0, hn1⟩ := hn
  obtain ⟨hd0, hd1⟩ := hd
  obtain ⟨ha0, ha1⟩ := ha
  obtain ⟨hu0, hu1⟩ := hu
  obtain ⟨hx0, hx1⟩ := hx
  have e1 := Int.tmod_eq_emod_of_nonneg (b := 10) hq0
  have e2 := Int.tmod_eq_emod_of_nonneg (b := 4) ht0
  have e3 := Int.tmod_eq_emod_of_nonneg (b := 3) ht0
  by_cases h0 : q % 10 = 0
  · rw [show Cy.at_ q n d a u t x g = ⟨n, d, 1, a, u, 1 + t % 4, 0, g⟩ by unfold Cy.at_; rw [h0]; rfl]
    go_enter Try.func17, Try.ntmps17
    go_wp2
    refine bodyPost_ret (v := .agg #[.int .i64 n, .int .i64 d, .int .u8 1, .int .i64 a, .int .i64 u, .int .i64 (1 + t % 4), .int .i64 0, .bool g]) ?_ rfl ⟨rfl, by go_grown⟩
    simp [results, Try.results17, go_sem]
  by_cases h1 : q % 10 = 1
  · rw [show Cy.at_ q n d a u t x g = ⟨n, d, 2, a, u, 1 + t % 3, x, g⟩ by unfold Cy.at_; rw [h1]; rfl]
    go_enter Try.func17, Try.ntmps17
    go_wp2
    refine bodyPost_ret (v := .agg #[.int .i64 n, .int .i64 d, .int .u8 2, .int .i64 a, .int .i64 u, .int .i64 (1 + t % 3), .int .i64 x, .bool g]) ?_ rfl ⟨rfl, by go_grown⟩
    simp [results, Try.results17, go_sem]
  · obtain ⟨r, hr⟩ : ∃ r, 1 + q % 10 = r := ⟨_, rfl⟩
    rw [show Cy.at_ q n d a u t x g = ⟨n, d, r, a, u, 0, 0, g⟩ by unfold Cy.at_; rw [if_neg h0, if_neg h1, if_neg h1, hr]]
    have k1 : (r == 1) = false := by rw [beq_eq_false_iff_ne]; omega
    have k2 : (r == 2) = false := by rw [beq_eq_false_iff_ne]; omega
    have k3 : (1 + q % 10 == 1) = false := by rw [beq_eq_false_iff_ne]; omega
    have k4 : (1 + q % 10 == 2) = false := by rw [beq_eq_false_iff_ne]; omega
    clear h0 h1
    go_enter Try.func17, Try.ntmps17
    go_wp2
    refine bodyPost_ret (v := .agg #[.int .i64 n, .int .i64 d, .int .u8 r, .int .i64 a, .int .i64 u, .int .i64 0, .int .i64 0, .bool g]) ?_ rfl ⟨rfl, by go_grown⟩
    simp [results, Try.results17, go_sem]

/-- The document's example: behind so many answers of Yes. -/
def Cy.exp (k : Nat) : Int := if k = 0 then 1 else if k = 1 then 3 else if k = 2 then 4 else 7
set_option maxHeartbeats 4000000 in
theorem cyawake_any (w : World) : Calls Try.prog 14 #[] w fun e w' => e = .returned (.bool true) ∧ Below w.heap.size w w' := by
  go_enter Try.func14, Try.ntmps14
  go_wp2_with (fail)
  refine (cybegin_any _ _ _ _ _ _).mono ?_
  rw [show Cy.begin_ 0 5 100 0 true = ⟨0, 5, 1, 100, 0, 1, 0, true⟩ from rfl]
  dsimp only [Cv.val, Cv.arr]
  rintro e w1 ⟨rfl, hb⟩
  have HB := Lib.hid hb
  clear hb
  go_wp2
  go_loopw [2] (fun i wq => ∃ k : Nat, k ≤ 3 ∧ i = .int .i64 k ∧ Hid (Below w.heap.size w wq) ∧ Hid (wq.heap[w1.heap.size]? = some (.cells #[.int .i64 0, .int .i64 5, .int .u8 (Cy.exp k), .int .i64 100, .int .i64 0, .int .i64 1, .int .i64 0, .bool true] 25 (0, 0)))) (fun i _ => 3 - (intOf i).toNat)
  case atStart => exact ⟨0, by omega, rfl, HB.out.alloc (by exact HB.out.size) _, alloc_at rfl⟩
  case round =>
    obtain ⟨k, hk, rfl, HW, HP⟩ := hrel
    have hB : w.heap.size ≤ w1.heap.size := HB.out.size
    have hz : w1.heap.size < wr.heap.size := (Array.getElem?_eq_some_iff.1 HP.out).1
    have hks : k = 0 ∨ k = 1 ∨ k = 2 ∨ k = 3 := by omega
    clear hk
    have e := boxed_self HP.out
    rw [e]
    clear e HP
    rcases hks with rfl | rfl | rfl | rfl
    · rw [show Cy.exp 0 = 1 from rfl]
      go_wp2_with (fail)
      refine (cyasks_any _ _ _ _ _ _ _ _ _ _).mono ?_
      rw [show Cv.ask 1 ⟨0, 5, 1, 100, 0, 1, 0, true⟩ = ⟨1, 1, 0, 1, 100, 0⟩ from rfl, show Cv.asks ⟨0, 5, 1, 100, 0, 1, 0, true⟩ = true from rfl]
      dsimp only [Nv.arr]
      rintro e w2 ⟨rfl, hb⟩
      obtain ⟨hw, z1, e1⟩ := keep1 HW.out hB hz hb
      rw [e1]
      have HW2 := Lib.hid hw
      clear e1 hb hw HW hz
      go_wp2_with (fail)
      refine (cyhear_any _ _ _ _ _ _ _ _ _ _ _ _ _ _ _ _ _ _ (by omega) (by omega)).mono ?_
      rw [show Cv.hear 1 ⟨0, 5, 1, 100, 0, 1, 0, true⟩ ⟨1, 1, 0, 1, 100, 1⟩ 5 false = ⟨0, 5, 3, 100, 0, 1, 0, true⟩ from by decide, show Cv.herr 1 ⟨0, 5, 1, 100, 0, 1, 0, true⟩ ⟨1, 1, 0, 1, 100, 1⟩ = 0 from by decide]
      dsimp only [Cv.val, Cv.arr]
      rintro e w3 ⟨rfl, hb⟩
      obtain ⟨hw, z2, z3, e1⟩ := keep1_alloc HW2.out hB z1 hb
      rw [e1]
      have HW3 := Lib.hid hw
      clear e1 hb hw
      go_wp2
      go_roundw
      case rel => exact ⟨1, by omega, by go_num, boxed_below (boxed_below HW3.out hB) (by omega), boxed_old (by omega) (boxed_at (by omega))⟩
      case measure => simp [intOf]
    · rw [show Cy.exp 1 = 3 from rfl]
      go_wp2_with (fail)
      refine (cyasks_any _ _ _ _ _ _ _ _ _ _).mono ?_
      rw [show Cv.ask 1 ⟨0, 5, 3, 100, 0, 1, 0, true⟩ = ⟨3, 1, 0, 0, 0, 0⟩ from rfl, show Cv.asks ⟨0, 5, 3, 100, 0, 1, 0, true⟩ = true from rfl]
      dsimp only [Nv.arr]
      rintro e w2 ⟨rfl, hb⟩
      obtain ⟨hw, z1, e1⟩ := keep1 HW.out hB hz hb
      rw [e1]
      have HW2 := Lib.hid hw
      clear e1 hb hw HW hz
      go_wp2_with (fail)
      refine (cyhear_any _ _ _ _ _ _ _ _ _ _ _ _ _ _ _ _ _ _ (by omega) (by omega)).mono ?_
      rw [show Cv.hear 1 ⟨0, 5, 3, 100, 0, 1, 0, true⟩ ⟨3, 1, 0, 0, 0, 1⟩ 5 false = ⟨0, 5, 4, 100, 0, 1, 0, true⟩ from by decide, show Cv.herr 1 ⟨0, 5, 3, 100, 0, 1, 0, true⟩ ⟨3, 1, 0, 0, 0, 1⟩ = 0 from by decide]
      dsimp only [Cv.val, Cv.arr]
      rintro e w3 ⟨rfl, hb⟩
      obtain ⟨hw, z2, z3, e1⟩ := keep1_alloc HW2.out hB z1 hb
      rw [e1]
      have HW3 := Lib.hid hw
      clear e1 hb hw
      go_wp2
      go_roundw
      case rel => exact ⟨2, by omega, by go_num, boxed_below (boxed_below HW3.out hB) (by omega), boxed_old (by omega) (boxed_at (by omega))⟩
      case measure => simp [intOf]
    · rw [show Cy.exp 2 = 4 from rfl]
      go_wp2_with (fail)
      refine (cyasks_any _ _ _ _ _ _ _ _ _ _).mono ?_
      rw [show Cv.ask 1 ⟨0, 5, 4, 100, 0, 1, 0, true⟩ = ⟨5, 1, 0, 0, 0, 0⟩ from rfl, show Cv.asks ⟨0, 5, 4, 100, 0, 1, 0, true⟩ = true from rfl]
      dsimp only [Nv.arr]
      rintro e w2 ⟨rfl, hb⟩
      obtain ⟨hw, z1, e1⟩ := keep1 HW.out hB hz hb
      rw [e1]
      have HW2 := Lib.hid hw
      clear e1 hb hw HW hz
      go_wp2_with (fail)
      refine (cyhear_any _ _ _ _ _ _ _ _ _ _ _ _ _ _ _ _ _ _ (by omega) (by omega)).mono ?_
      rw [show Cv.hear 1 ⟨0, 5, 4, 100, 0, 1, 0, true⟩ ⟨5, 1, 0, 0, 0, 1⟩ 5 false = ⟨0, 5, 7, 100, 0, 1, 0, true⟩ from by decide, show Cv.herr 1 ⟨0, 5, 4, 100, 0, 1, 0, true⟩ ⟨5, 1, 0, 0, 0, 1⟩ = 0 from by decide]
      dsimp only [Cv.val, Cv.arr]
      rintro e w3 ⟨rfl, hb⟩
      obtain ⟨hw, z2, z3, e1⟩ := keep1_alloc HW2.out hB z1 hb
      rw [e1]
      have HW3 := Lib.hid hw
      clear e1 hb hw
      go_wp2
      go_roundw
      case rel => exact ⟨3, by omega, by go_num, boxed_below (boxed_below HW3.out hB) (by omega), boxed_old (by omega) (boxed_at (by omega))⟩
      case measure => simp [intOf]
    · rw [show Cy.exp 3 = 7 from rfl]
      go_wp2_with (fail)
      refine (cyended_any _ _ _ _ _ _ _ _ _).mono ?_
      rintro e w2 ⟨rfl, hb⟩
      obtain ⟨hw, z1, e1⟩ := keep1 HW.out hB hz hb
      have HW2 := Lib.hid hw
      clear e1 hb hw HW hz
      go_wp2_with (go_at_call 29; refine (tries_any _).mono ?_; rintro e w' ⟨rfl, rfl⟩)
      go_ret
      exact ⟨rfl, HW2.out⟩
end Go.Proofs.Ythilcefikhnilaa
