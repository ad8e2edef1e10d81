/-
  The walk of the law CycleKeeps: it returns true, whatever the input. No conditions.
-/
import Derived.Test.YthilcefikhnilaaCyWalksC
namespace Go.Proofs.Ythilcefikhnilaa
set_option maxRecDepth 20000
open Go.ChangeShapes Go.WideShapes Go.ChangeAt Go.RowKit

/-- What stays of a cycle. -/
def Cv.Kept (c z : Cv) : Prop := z.n = c.n ∧ z.d = c.d ∧ z.a = c.a ∧ z.u = c.u ∧ z.g = c.g ∧ c.t ≤ z.t ∧ z.t ≤ c.t + 1 ∧ (7 ≤ c.p → z = c)
theorem kept_refl (c : Cv) : c.Kept c := ⟨rfl, rfl, rfl, rfl, rfl, by omega, by omega, fun _ => rfl⟩
theorem kept_of {c : Cv} {p x : Int} (h : c.p < 7) : c.Kept { c with p := p, x := x } := ⟨rfl, rfl, rfl, rfl, rfl, by dsimp only; omega, by dsimp only; omega, fun h7 => by omega⟩
theorem kept_to {c : Cv} {p : Int} (h : c.p < 7) : c.Kept (c.to p) := ⟨rfl, rfl, rfl, rfl, rfl, by unfold Cv.to; dsimp only; omega, by unfold Cv.to; dsimp only; omega, fun h7 => by omega⟩
theorem kept_back {c : Cv} (h : c.p < 7) : c.Kept c.back := by
  unfold Cv.back; split
  · exact kept_to h
  · exact kept_to h
theorem kept_card (c : Cv) : c.Kept c.card := by
  unfold Cv.card; split
  · exact ⟨rfl, rfl, rfl, rfl, rfl, by dsimp only; omega, by dsimp only; omega, fun h7 => by omega⟩
  · exact kept_refl c
theorem kept_over (c : Cv) : c.Kept c.over := by
  unfold Cv.over; split
  · exact kept_of (by omega)
  · exact kept_refl c
theorem kept_wake (c : Cv) (y : Int) : c.Kept (c.wake y) := by
  unfold Cv.wake; split
  · exact kept_refl c
  · exact kept_card c
theorem kept_next (c : Cv) (v y : Int) (o : Bool) (h : c.p < 7) : c.Kept (c.next v y o) := by
  unfold Cv.next
  split
  · unfold Cv.charged
    split
    · split
      · exact kept_back h
      · exact kept_to h
    split
    · exact kept_of h
    · exact kept_to h
  split
  · unfold Cv.allocated
    split
    · split
      · exact kept_to h
      · exact kept_to h
    · exact kept_back h
  split
  · unfold Cv.shipped
    split
    · exact kept_to h
    · exact kept_to h
  split
  · exact kept_back h
  · exact kept_to h
theorem kind_early {p : Int} (h : Cy.kind p ≠ 0) : p < 7 := by
  refine kind_ways p ?_ ?_ ?_ ?_ ?_ (fun c1 c3 c4 c5 c6 => absurd (kind_none c1 c3 c4 c5 c6) h)
  all_goals
    intro e
    omega
theorem kept_hear (s : Int) (c : Cv) (m : Nv) (y : Int) (o : Bool) : c.Kept (c.hear s m y o) := by
  unfold Cv.hear
  split
  · rename_i hh
    exact kept_next c m.v y o (kind_early hh.1)
  · exact kept_refl c

set_option maxHeartbeats 8000000 in
theorem keeps_ended (q a u t v y : Int) (g o : Bool) (n' d' p' a' u' t' x' : Int) (g' : Bool) (K S C T M V : Int) (b : Bool) (E : Int) (w : World) (hp : 7 ≤ p' ) (ht0 : 0 ≤ t') (ht1 : t' ≤ 4) (hy0 : 0 ≤ y) (hy1 : y < 65536)
    (HC : Hid (∀ w, Calls Try.prog 17 #[.int .u8 q, .int .u16 7, .int .u16 9, .int .u32 a, .int .i32 u, .int .u8 t, .int .u16 3, .bool g] w fun e w' => e = .returned (.agg #[.int .i64 n', .int .i64 d', .int .u8 p', .int .i64 a', .int .i64 u', .int .i64 t', .int .i64 x', .bool g']) ∧ Below w.heap.size w w'))
    (HA : Hid (∀ w, Calls Try.prog 18 #[.int .i64 1, .agg #[.int .i64 n', .int .i64 d', .int .u8 p', .int .i64 a', .int .i64 u', .int .i64 t', .int .i64 x', .bool g']] w fun e w' => e = .returned (.tuple #[.agg #[.int .u8 K, .int .i64 S, .int .i64 C, .int .i64 T, .int .i64 M, .int .u8 V], .bool b]) ∧ Below w.heap.size w w'))
    (HH : Hid (∀ w, Calls Try.prog 21 #[.int .i64 1, .agg #[.int .i64 n', .int .i64 d', .int .u8 p', .int .i64 a', .int .i64 u', .int .i64 t', .int .i64 x', .bool g'], .agg #[.int .u8 K, .int .i64 S, .int .i64 C, .int .i64 T, .int .i64 M, .int .u8 v], .int .i64 y, .bool o] w fun e w' => e = .returned (.tuple #[.agg #[.int .i64 n', .int .i64 d', .int .u8 p', .int .i64 a', .int .i64 u', .int .i64 t', .int .i64 x', .bool g'], .int .i64 E]) ∧ Below w.heap.size w w'))
    (HWA : Hid (∀ w, Calls Try.prog 25 #[.agg #[.int .i64 n', .int .i64 d', .int .u8 p', .int .i64 a', .int .i64 u', .int .i64 t', .int .i64 x', .bool g'], .int .i64 y] w fun e w' => e = .returned (.agg #[.int .i64 n', .int .i64 d', .int .u8 p', .int .i64 a', .int .i64 u', .int .i64 t', .int .i64 x', .bool g']) ∧ Below w.heap.size w w')) (HCA : Hid (∀ w, Calls Try.prog 23 #[.agg #[.int .i64 n', .int .i64 d', .int .u8 p', .int .i64 a', .int .i64 u', .int .i64 t', .int .i64 x', .bool g']] w fun e w' => e = .returned (.agg #[.int .i64 n', .int .i64 d', .int .u8 p', .int .i64 a', .int .i64 u', .int .i64 t', .int .i64 x', .bool g']) ∧ Below w.heap.size w w')) (HOV : Hid (∀ w, Calls Try.prog 24 #[.agg #[.int .i64 n', .int .i64 d', .int .u8 p', .int .i64 a', .int .i64 u', .int .i64 t', .int .i64 x', .bool g']] w fun e w' => e = .returned (.agg #[.int .i64 n', .int .i64 d', .int .u8 p', .int .i64 a', .int .i64 u', .int .i64 t', .int .i64 x', .bool g']) ∧ Below w.heap.size w w')) :
    Calls Try.prog 11 #[.int .u8 q, .int .u32 a, .int .i32 u, .int .u8 t, .int .u8 v, .int .u16 y, .bool g, .bool o] w fun e w' => e = .returned (.bool true) ∧ Below w.heap.size w w' := by
  have d7 : decide (7 ≤ p') = true := by simp; omega
  have et : wrap64 (t' + 1) = t' + 1 := by unfold wrap64; omega
  have ET := Lib.hid et
  have ey : IntKind.i64.wrap y = y := by rw [IntKind.wrap_i64]; omega
  have EY := Lib.hid ey
  clear et ey
  go_enter Try.func11, Try.ntmps11
  go_wp2_with (fail)
  refine (HC.out _).mono ?_
  rintro e w1 ⟨rfl, hb⟩
  have HB1 := Lib.hid hb
  clear hb
  have hz : w.heap.size ≤ w1.heap.size := HB1.out.size
  go_wp2_with (fail)
  refine (HA.out _).mono ?_
  rintro e w2 ⟨rfl, hb⟩
  obtain ⟨hw, z1, e1⟩ := keep_alloc HB1.out HB1.out.size hb
  rw [e1]
  have HW2 := Lib.hid hw
  clear e1 hb hw HB1
  go_wp2_with (fail)
  refine (HH.out _).mono ?_
  rintro e w3 ⟨rfl, hb⟩
  obtain ⟨hw, z2, z3, e1⟩ := keep1_alloc HW2.out hz z1 hb
  rw [e1]
  have HW3 := Lib.hid hw
  clear e1 hb hw HW2
  go_wp2
  have HB0 : Hid (Below w.heap.size w (((boxed (boxed w3 w1.heap.size #[.int .i64 n', .int .i64 d', .int .u8 p', .int .i64 a', .int .i64 u', .int .i64 t', .int .i64 x', .bool g'] 25) w2.heap.size #[.int .u8 K, .int .i64 S, .int .i64 C, .int .i64 T, .int .i64 M, .int .u8 v] 35).alloc (.cells #[.int .i64 n', .int .i64 d', .int .u8 p', .int .i64 a', .int .i64 u', .int .i64 t', .int .i64 x', .bool g'] 25)).drew)) := by
    show Below _ _ _
    have hB := HW3.out
    (repeat (first | assumption | (with_reducible exact Below.refl _ _) | (with_reducible refine boxed_below ?_ ?_; rotate_left; (focus (first | omega | (simp; done) | (simp; omega)))) | (with_reducible refine Below.alloc ?_ ?_ _; rotate_left; (focus (first | omega | (simp; done) | (simp; omega)))) | (with_reducible refine Below.drew ?_)))
  refine lane_start (ord := [0, 1, 2, 3, 5, 7, 4, 6, 8, 9, 10]) (S := fun w' => w'.heap[w1.heap.size]? = some (.cells #[.int .i64 n', .int .i64 d', .int .u8 p', .int .i64 a', .int .i64 u', .int .i64 t', .int .i64 x', .bool g'] 25 (0, 0)) ∧ w'.heap[w3.heap.size]? = some (.cells #[.int .i64 n', .int .i64 d', .int .u8 p', .int .i64 a', .int .i64 u', .int .i64 t', .int .i64 x', .bool g'] 25 (0, 0))) rfl (by kernel_rfl) ⟨alloc_old (by simp; omega) (boxed_old (by omega) (boxed_at (by omega))), alloc_at (by simp)⟩ (fun hHeld => ?_)
  iterate 6 (refine lane_take (v := ?_) rfl (by kernel_rfl) (by kernel_rfl) (by rfl) ?_ (by assumption) ?_; rotate_left; (focus (intro W hSw; obtain ⟨hSc, hSx⟩ := hSw; obtain ⟨s0, s1, s2, s3, s4, s5, s6, s7⟩ := cells8 hSc; obtain ⟨k0, k1, k2, k3, k4, k5, k6, k7⟩ := cells8 hSx; go_simp; try (with_reducible rfl))); simp only [Act.put, List.setIfInBounds_toArray, List.set_cons_zero, List.set_cons_succ])
  refine lane_alone rfl (by kernel_rfl) (by rfl) (fun K hK => ?_)
  go_simp
  rw [EY.out]
  refine (HWA.out _).mono ?_
  rintro e w4 ⟨rfl, hb⟩
  refine hK _ _ ⟨below_block hb hHeld.1, below_block hb hHeld.2⟩ (fun hHeld => ?_)
  clear hK K
  have HB4 := Lib.hid (HB0.out.trans (hb.mono (by exact HB0.out.size)))
  clear hb HB0
  have HB0 := HB4
  clear HB4
  refine lane_alone rfl (by kernel_rfl) (by rfl) (fun K hK => ?_)
  go_simp
  refine (HCA.out _).mono ?_
  rintro e w4 ⟨rfl, hb⟩
  refine hK _ _ ⟨below_block hb hHeld.1, below_block hb hHeld.2⟩ (fun hHeld => ?_)
  clear hK K
  have HB4 := Lib.hid (HB0.out.trans (hb.mono (by exact HB0.out.size)))
  clear hb HB0
  have HB0 := HB4
  clear HB4
  refine lane_alone rfl (by kernel_rfl) (by rfl) (fun K hK => ?_)
  go_simp
  refine (HOV.out _).mono ?_
  rintro e w4 ⟨rfl, hb⟩
  refine hK _ _ ⟨below_block hb hHeld.1, below_block hb hHeld.2⟩ (fun hHeld => ?_)
  clear hK K
  have HB4 := Lib.hid (HB0.out.trans (hb.mono (by exact HB0.out.size)))
  clear hb HB0
  have HB0 := HB4
  clear HB4
  refine lane_alone rfl (by kernel_rfl) (by rfl) (fun K hK => ?_)
  go_simp
  have hN1 := (Array.getElem?_eq_some_iff.1 hHeld.1).1
  have hN2 := (Array.getElem?_eq_some_iff.1 hHeld.2).1
  refine hK _ _ ⟨alloc_old hN1 hHeld.1, alloc_old hN2 hHeld.2⟩ (fun hHeld2 => ?_)
  clear hK K
  (refine lane_take (v := ?_) rfl (by kernel_rfl) (by kernel_rfl) (by rfl) ?_ (by assumption) ?_; rotate_left; (focus (intro W hSw; obtain ⟨hSc, hSx⟩ := hSw; obtain ⟨s0, s1, s2, s3, s4, s5, s6, s7⟩ := cells8 hSc; obtain ⟨k0, k1, k2, k3, k4, k5, k6, k7⟩ := cells8 hSx; go_simp; try (with_reducible rfl))); simp only [Act.put, List.setIfInBounds_toArray, List.set_cons_zero, List.set_cons_succ])
  refine lane_end (by kernel_rfl) ?_
  have HB5 : Hid (Below w.heap.size w (w4.alloc (.cells #[.int .i64 n', .int .i64 d', .int .u8 p', .int .i64 a', .int .i64 u', .int .i64 t', .int .i64 x', .bool g', .int .i64 n', .int .i64 d', .int .u8 p', .int .i64 a', .int .i64 u', .int .i64 t', .int .i64 x', .bool g', .int .i64 n', .int .i64 d', .int .u8 p', .int .i64 a', .int .i64 u', .int .i64 t', .int .i64 x', .bool g', .int .i64 n', .int .i64 d', .int .u8 p', .int .i64 a', .int .i64 u', .int .i64 t', .int .i64 x', .bool g'] 25))) := HB0.out.alloc (by exact HB0.out.size) _
  have HS5 : Hid ((w4.alloc (.cells #[.int .i64 n', .int .i64 d', .int .u8 p', .int .i64 a', .int .i64 u', .int .i64 t', .int .i64 x', .bool g', .int .i64 n', .int .i64 d', .int .u8 p', .int .i64 a', .int .i64 u', .int .i64 t', .int .i64 x', .bool g', .int .i64 n', .int .i64 d', .int .u8 p', .int .i64 a', .int .i64 u', .int .i64 t', .int .i64 x', .bool g', .int .i64 n', .int .i64 d', .int .u8 p', .int .i64 a', .int .i64 u', .int .i64 t', .int .i64 x', .bool g'] 25)).heap[w4.heap.size]? = some (.cells #[.int .i64 n', .int .i64 d', .int .u8 p', .int .i64 a', .int .i64 u', .int .i64 t', .int .i64 x', .bool g', .int .i64 n', .int .i64 d', .int .u8 p', .int .i64 a', .int .i64 u', .int .i64 t', .int .i64 x', .bool g', .int .i64 n', .int .i64 d', .int .u8 p', .int .i64 a', .int .i64 u', .int .i64 t', .int .i64 x', .bool g', .int .i64 n', .int .i64 d', .int .u8 p', .int .i64 a', .int .i64 u', .int .i64 t', .int .i64 x', .bool g'] 25 (0, 0))) := alloc_at rfl
  have HC5 : Hid ((w4.alloc (.cells #[.int .i64 n', .int .i64 d', .int .u8 p', .int .i64 a', .int .i64 u', .int .i64 t', .int .i64 x', .bool g', .int .i64 n', .int .i64 d', .int .u8 p', .int .i64 a', .int .i64 u', .int .i64 t', .int .i64 x', .bool g', .int .i64 n', .int .i64 d', .int .u8 p', .int .i64 a', .int .i64 u', .int .i64 t', .int .i64 x', .bool g', .int .i64 n', .int .i64 d', .int .u8 p', .int .i64 a', .int .i64 u', .int .i64 t', .int .i64 x', .bool g'] 25)).heap[w1.heap.size]? = some (.cells #[.int .i64 n', .int .i64 d', .int .u8 p', .int .i64 a', .int .i64 u', .int .i64 t', .int .i64 x', .bool g'] 25 (0, 0))) := hHeld2.1
  clear hHeld hHeld2 hN1 hN2 HB0
  generalize w4.alloc (.cells #[.int .i64 n', .int .i64 d', .int .u8 p', .int .i64 a', .int .i64 u', .int .i64 t', .int .i64 x', .bool g', .int .i64 n', .int .i64 d', .int .u8 p', .int .i64 a', .int .i64 u', .int .i64 t', .int .i64 x', .bool g', .int .i64 n', .int .i64 d', .int .u8 p', .int .i64 a', .int .i64 u', .int .i64 t', .int .i64 x', .bool g', .int .i64 n', .int .i64 d', .int .u8 p', .int .i64 a', .int .i64 u', .int .i64 t', .int .i64 x', .bool g'] 25) = w5 at *
  go_wp2
  go_loopw [23] (fun i wq => ∃ k : Nat, k ≤ 4 ∧ i = .int .i64 k ∧ Hid (Below w.heap.size w wq) ∧ Hid (wq.heap[w4.heap.size]? = some (.cells #[.int .i64 n', .int .i64 d', .int .u8 p', .int .i64 a', .int .i64 u', .int .i64 t', .int .i64 x', .bool g', .int .i64 n', .int .i64 d', .int .u8 p', .int .i64 a', .int .i64 u', .int .i64 t', .int .i64 x', .bool g', .int .i64 n', .int .i64 d', .int .u8 p', .int .i64 a', .int .i64 u', .int .i64 t', .int .i64 x', .bool g', .int .i64 n', .int .i64 d', .int .u8 p', .int .i64 a', .int .i64 u', .int .i64 t', .int .i64 x', .bool g'] 25 (0, 0))) ∧ Hid (wq.heap[w1.heap.size]? = some (.cells #[.int .i64 n', .int .i64 d', .int .u8 p', .int .i64 a', .int .i64 u', .int .i64 t', .int .i64 x', .bool g'] 25 (0, 0)))) (fun i _ => 4 - (intOf i).toNat)
  case atStart => exact ⟨0, by omega, rfl, HB5, HS5, HC5⟩
  case round =>
    obtain ⟨k, hk, rfl, HW, HS, HP⟩ := hrel
    have hks : k = 0 ∨ k = 1 ∨ k = 2 ∨ k = 3 ∨ k = 4 := by omega
    clear hk HB5 HS5 HC5
    obtain ⟨s0, s1, s2, s3, s4, s5, s6, s7⟩ := cells8 HP.out
    have hl1 : w1.heap.size < wr.heap.size := (Array.getElem?_eq_some_iff.1 HP.out).1
    have hcs := fun j => cell_of_row wr w4.heap.size j _ _ _ HS.out
    rcases hks with rfl | rfl | rfl | rfl | rfl
    · have q0 := hcs 0
      have q1 := hcs 1
      have q2 := hcs 2
      have q3 := hcs 3
      have q4 := hcs 4
      have q5 := hcs 5
      have q6 := hcs 6
      have q7 := hcs 7
      dsimp at q0 q1 q2 q3 q4 q5 q6 q7
      clear hcs
      go_wp2_with (fail)
      refine (cyended_any _ _ _ _ _ _ _ _ _).mono ?_
      rw [show decide (7 ≤ p') = true from d7]
      rintro e w6 ⟨rfl, hb⟩
      have hc6 : w6.heap[w1.heap.size]? = some (.cells #[.int .i64 n', .int .i64 d', .int .u8 p', .int .i64 a', .int .i64 u', .int .i64 t', .int .i64 x', .bool g'] 25 (0, 0)) := below_block hb (by (repeat (first | assumption | (with_reducible refine alloc_at ?_; (focus (first | omega | (simp; done) | (simp; omega)))) | (with_reducible refine boxed_at ?_; (focus (first | omega | (simp; done) | (simp; omega)))) | (with_reducible refine alloc_old ?_ ?_; (focus (first | omega | (simp; done) | (simp; omega)))) | (with_reducible refine boxed_old ?_ ?_; (focus (first | omega | (simp; done) | (simp; omega)))) | (with_reducible refine drew_old ?_))))
      have hy6 : w6.heap[wr.heap.size]? = some (.cells #[.int .i64 n', .int .i64 d', .int .u8 p', .int .i64 a', .int .i64 u', .int .i64 t', .int .i64 x', .bool g'] 25 (0, 0)) := below_block hb (by (repeat (first | assumption | (with_reducible refine alloc_at ?_; (focus (first | omega | (simp; done) | (simp; omega)))) | (with_reducible refine boxed_at ?_; (focus (first | omega | (simp; done) | (simp; omega)))) | (with_reducible refine alloc_old ?_ ?_; (focus (first | omega | (simp; done) | (simp; omega)))) | (with_reducible refine boxed_old ?_ ?_; (focus (first | omega | (simp; done) | (simp; omega)))) | (with_reducible refine drew_old ?_))))
      obtain ⟨c0, c1, c2, c3, c4, c5, c6, c7⟩ := cells8 hc6
      obtain ⟨y0, y1, y2, y3, y4, y5, y6, y7⟩ := cells8 hy6
      have hs6 : w6.heap[w4.heap.size]? = some (.cells #[.int .i64 n', .int .i64 d', .int .u8 p', .int .i64 a', .int .i64 u', .int .i64 t', .int .i64 x', .bool g', .int .i64 n', .int .i64 d', .int .u8 p', .int .i64 a', .int .i64 u', .int .i64 t', .int .i64 x', .bool g', .int .i64 n', .int .i64 d', .int .u8 p', .int .i64 a', .int .i64 u', .int .i64 t', .int .i64 x', .bool g', .int .i64 n', .int .i64 d', .int .u8 p', .int .i64 a', .int .i64 u', .int .i64 t', .int .i64 x', .bool g'] 25 (0, 0)) := below_block hb (alloc_old (Array.getElem?_eq_some_iff.1 HS.out).1 HS.out)
      have hb6 : Below w.heap.size w w6 := (HW.out.alloc (by exact HW.out.size) _).trans (hb.mono (by simp; have := HW.out.size; omega))
      have HC6 := Lib.hid hc6
      have HS6 := Lib.hid hs6
      have HB6 := Lib.hid hb6
      clear hc6 hy6 hs6 hb6 hb s0 s1 s2 s3 s4 s5 s6 s7 q0 q1 q2 q3 q4 q5 q6 q7 HS HP HW
      go_wp2
      go_roundw
      case rel => exact ⟨1, by omega, by go_num, HB6, HS6, HC6⟩
      case measure => simp [intOf]
    · have q0 := hcs 8
      have q1 := hcs 9
      have q2 := hcs 10
      have q3 := hcs 11
      have q4 := hcs 12
      have q5 := hcs 13
      have q6 := hcs 14
      have q7 := hcs 15
      dsimp at q0 q1 q2 q3 q4 q5 q6 q7
      clear hcs
      go_wp2_with (fail)
      refine (cyended_any _ _ _ _ _ _ _ _ _).mono ?_
      rw [show decide (7 ≤ p') = true from d7]
      rintro e w6 ⟨rfl, hb⟩
      have hc6 : w6.heap[w1.heap.size]? = some (.cells #[.int .i64 n', .int .i64 d', .int .u8 p', .int .i64 a', .int .i64 u', .int .i64 t', .int .i64 x', .bool g'] 25 (0, 0)) := below_block hb (by (repeat (first | assumption | (with_reducible refine alloc_at ?_; (focus (first | omega | (simp; done) | (simp; omega)))) | (with_reducible refine boxed_at ?_; (focus (first | omega | (simp; done) | (simp; omega)))) | (with_reducible refine alloc_old ?_ ?_; (focus (first | omega | (simp; done) | (simp; omega)))) | (with_reducible refine boxed_old ?_ ?_; (focus (first | omega | (simp; done) | (simp; omega)))) | (with_reducible refine drew_old ?_))))
      have hy6 : w6.heap[wr.heap.size]? = some (.cells #[.int .i64 n', .int .i64 d', .int .u8 p', .int .i64 a', .int .i64 u', .int .i64 t', .int .i64 x', .bool g'] 25 (0, 0)) := below_block hb (by (repeat (first | assumption | (with_reducible refine alloc_at ?_; (focus (first | omega | (simp; done) | (simp; omega)))) | (with_reducible refine boxed_at ?_; (focus (first | omega | (simp; done) | (simp; omega)))) | (with_reducible refine alloc_old ?_ ?_; (focus (first | omega | (simp; done) | (simp; omega)))) | (with_reducible refine boxed_old ?_ ?_; (focus (first | omega | (simp; done) | (simp; omega)))) | (with_reducible refine drew_old ?_))))
      obtain ⟨c0, c1, c2, c3, c4, c5, c6, c7⟩ := cells8 hc6
      obtain ⟨y0, y1, y2, y3, y4, y5, y6, y7⟩ := cells8 hy6
      have hs6 : w6.heap[w4.heap.size]? = some (.cells #[.int .i64 n', .int .i64 d', .int .u8 p', .int .i64 a', .int .i64 u', .int .i64 t', .int .i64 x', .bool g', .int .i64 n', .int .i64 d', .int .u8 p', .int .i64 a', .int .i64 u', .int .i64 t', .int .i64 x', .bool g', .int .i64 n', .int .i64 d', .int .u8 p', .int .i64 a', .int .i64 u', .int .i64 t', .int .i64 x', .bool g', .int .i64 n', .int .i64 d', .int .u8 p', .int .i64 a', .int .i64 u', .int .i64 t', .int .i64 x', .bool g'] 25 (0, 0)) := below_block hb (alloc_old (Array.getElem?_eq_some_iff.1 HS.out).1 HS.out)
      have hb6 : Below w.heap.size w w6 := (HW.out.alloc (by exact HW.out.size) _).trans (hb.mono (by simp; have := HW.out.size; omega))
      have HC6 := Lib.hid hc6
      have HS6 := Lib.hid hs6
      have HB6 := Lib.hid hb6
      clear hc6 hy6 hs6 hb6 hb s0 s1 s2 s3 s4 s5 s6 s7 q0 q1 q2 q3 q4 q5 q6 q7 HS HP HW
      go_wp2
      go_roundw
      case rel => exact ⟨2, by omega, by go_num, HB6, HS6, HC6⟩
      case measure => simp [intOf]
    · have q0 := hcs 16
      have q1 := hcs 17
      have q2 := hcs 18
      have q3 := hcs 19
      have q4 := hcs 20
      have q5 := hcs 21
      have q6 := hcs 22
      have q7 := hcs 23
      dsimp at q0 q1 q2 q3 q4 q5 q6 q7
      clear hcs
      go_wp2_with (fail)
      refine (cyended_any _ _ _ _ _ _ _ _ _).mono ?_
      rw [show decide (7 ≤ p') = true from d7]
      rintro e w6 ⟨rfl, hb⟩
      have hc6 : w6.heap[w1.heap.size]? = some (.cells #[.int .i64 n', .int .i64 d', .int .u8 p', .int .i64 a', .int .i64 u', .int .i64 t', .int .i64 x', .bool g'] 25 (0, 0)) := below_block hb (by (repeat (first | assumption | (with_reducible refine alloc_at ?_; (focus (first | omega | (simp; done) | (simp; omega)))) | (with_reducible refine boxed_at ?_; (focus (first | omega | (simp; done) | (simp; omega)))) | (with_reducible refine alloc_old ?_ ?_; (focus (first | omega | (simp; done) | (simp; omega)))) | (with_reducible refine boxed_old ?_ ?_; (focus (first | omega | (simp; done) | (simp; omega)))) | (with_reducible refine drew_old ?_))))
      have hy6 : w6.heap[wr.heap.size]? = some (.cells #[.int .i64 n', .int .i64 d', .int .u8 p', .int .i64 a', .int .i64 u', .int .i64 t', .int .i64 x', .bool g'] 25 (0, 0)) := below_block hb (by (repeat (first | assumption | (with_reducible refine alloc_at ?_; (focus (first | omega | (simp; done) | (simp; omega)))) | (with_reducible refine boxed_at ?_; (focus (first | omega | (simp; done) | (simp; omega)))) | (with_reducible refine alloc_old ?_ ?_; (focus (first | omega | (simp; done) | (simp; omega)))) | (with_reducible refine boxed_old ?_ ?_; (focus (first | omega | (simp; done) | (simp; omega)))) | (with_reducible refine drew_old ?_))))
      obtain ⟨c0, c1, c2, c3, c4, c5, c6, c7⟩ := cells8 hc6
      obtain ⟨y0, y1, y2, y3, y4, y5, y6, y7⟩ := cells8 hy6
      have hs6 : w6.heap[w4.heap.size]? = some (.cells #[.int .i64 n', .int .i64 d', .int .u8 p', .int .i64 a', .int .i64 u', .int .i64 t', .int .i64 x', .bool g', .int .i64 n', .int .i64 d', .int .u8 p', .int .i64 a', .int .i64 u', .int .i64 t', .int .i64 x', .bool g', .int .i64 n', .int .i64 d', .int .u8 p', .int .i64 a', .int .i64 u', .int .i64 t', .int .i64 x', .bool g', .int .i64 n', .int .i64 d', .int .u8 p', .int .i64 a', .int .i64 u', .int .i64 t', .int .i64 x', .bool g'] 25 (0, 0)) := below_block hb (alloc_old (Array.getElem?_eq_some_iff.1 HS.out).1 HS.out)
      have hb6 : Below w.heap.size w w6 := (HW.out.alloc (by exact HW.out.size) _).trans (hb.mono (by simp; have := HW.out.size; omega))
      have HC6 := Lib.hid hc6
      have HS6 := Lib.hid hs6
      have HB6 := Lib.hid hb6
      clear hc6 hy6 hs6 hb6 hb s0 s1 s2 s3 s4 s5 s6 s7 q0 q1 q2 q3 q4 q5 q6 q7 HS HP HW
      go_wp2
      go_roundw
      case rel => exact ⟨3, by omega, by go_num, HB6, HS6, HC6⟩
      case measure => simp [intOf]
    · have q0 := hcs 24
      have q1 := hcs 25
      have q2 := hcs 26
      have q3 := hcs 27
      have q4 := hcs 28
      have q5 := hcs 29
      have q6 := hcs 30
      have q7 := hcs 31
      dsimp at q0 q1 q2 q3 q4 q5 q6 q7
      clear hcs
      go_wp2_with (fail)
      refine (cyended_any _ _ _ _ _ _ _ _ _).mono ?_
      rw [show decide (7 ≤ p') = true from d7]
      rintro e w6 ⟨rfl, hb⟩
      have hc6 : w6.heap[w1.heap.size]? = some (.cells #[.int .i64 n', .int .i64 d', .int .u8 p', .int .i64 a', .int .i64 u', .int .i64 t', .int .i64 x', .bool g'] 25 (0, 0)) := below_block hb (by (repeat (first | assumption | (with_reducible refine alloc_at ?_; (focus (first | omega | (simp; done) | (simp; omega)))) | (with_reducible refine boxed_at ?_; (focus (first | omega | (simp; done) | (simp; omega)))) | (with_reducible refine alloc_old ?_ ?_; (focus (first | omega | (simp; done) | (simp; omega)))) | (with_reducible refine boxed_old ?_ ?_; (focus (first | omega | (simp; done) | (simp; omega)))) | (with_reducible refine drew_old ?_))))
      have hy6 : w6.heap[wr.heap.size]? = some (.cells #[.int .i64 n', .int .i64 d', .int .u8 p', .int .i64 a', .int .i64 u', .int .i64 t', .int .i64 x', .bool g'] 25 (0, 0)) := below_block hb (by (repeat (first | assumption | (with_reducible refine alloc_at ?_; (focus (first | omega | (simp; done) | (simp; omega)))) | (with_reducible refine boxed_at ?_; (focus (first | omega | (simp; done) | (simp; omega)))) | (with_reducible refine alloc_old ?_ ?_; (focus (first | omega | (simp; done) | (simp; omega)))) | (with_reducible refine boxed_old ?_ ?_; (focus (first | omega | (simp; done) | (simp; omega)))) | (with_reducible refine drew_old ?_))))
      obtain ⟨c0, c1, c2, c3, c4, c5, c6, c7⟩ := cells8 hc6
      obtain ⟨y0, y1, y2, y3, y4, y5, y6, y7⟩ := cells8 hy6
      have hs6 : w6.heap[w4.heap.size]? = some (.cells #[.int .i64 n', .int .i64 d', .int .u8 p', .int .i64 a', .int .i64 u', .int .i64 t', .int .i64 x', .bool g', .int .i64 n', .int .i64 d', .int .u8 p', .int .i64 a', .int .i64 u', .int .i64 t', .int .i64 x', .bool g', .int .i64 n', .int .i64 d', .int .u8 p', .int .i64 a', .int .i64 u', .int .i64 t', .int .i64 x', .bool g', .int .i64 n', .int .i64 d', .int .u8 p', .int .i64 a', .int .i64 u', .int .i64 t', .int .i64 x', .bool g'] 25 (0, 0)) := below_block hb (alloc_old (Array.getElem?_eq_some_iff.1 HS.out).1 HS.out)
      have hb6 : Below w.heap.size w w6 := (HW.out.alloc (by exact HW.out.size) _).trans (hb.mono (by simp; have := HW.out.size; omega))
      have HC6 := Lib.hid hc6
      have HS6 := Lib.hid hs6
      have HB6 := Lib.hid hb6
      clear hc6 hy6 hs6 hb6 hb s0 s1 s2 s3 s4 s5 s6 s7 q0 q1 q2 q3 q4 q5 q6 q7 HS HP HW
      go_wp2
      go_roundw
      case rel => exact ⟨4, by omega, by go_num, HB6, HS6, HC6⟩
      case measure => simp [intOf]
    · clear hcs
      go_wp2_with (fail)
      refine (cyawake_any _).mono ?_
      rintro e w6 ⟨rfl, hb⟩
      have HB6 := Lib.hid (HW.out.trans (hb.mono (by exact HW.out.size)))
      clear hb
      go_wp2
      go_ret
      exact ⟨rfl, HB6.out⟩
set_option maxHeartbeats 8000000 in
theorem keeps_live (q a u t v y : Int) (g o : Bool) (n' d' p' a' u' t' x' : Int) (g' : Bool) (K S C T M V : Int) (b : Bool) (p1 t1 x1 : Int) (p2 t2 x2 : Int) (p3 t3 x3 : Int) (p4 t4 x4 : Int) (E : Int) (w : World) (hp : p' < 7) (ht0 : 0 ≤ t') (ht1 : t' ≤ 4) (ha1 : t' ≤ t1) (hb1 : t1 ≤ t' + 1) (ha2 : t' ≤ t2) (hb2 : t2 ≤ t' + 1) (ha3 : t' ≤ t3) (hb3 : t3 ≤ t' + 1) (ha4 : t' ≤ t4) (hb4 : t4 ≤ t' + 1) (hy0 : 0 ≤ y) (hy1 : y < 65536)
    (HC : Hid (∀ w, Calls Try.prog 17 #[.int .u8 q, .int .u16 7, .int .u16 9, .int .u32 a, .int .i32 u, .int .u8 t, .int .u16 3, .bool g] w fun e w' => e = .returned (.agg #[.int .i64 n', .int .i64 d', .int .u8 p', .int .i64 a', .int .i64 u', .int .i64 t', .int .i64 x', .bool g']) ∧ Below w.heap.size w w'))
    (HA : Hid (∀ w, Calls Try.prog 18 #[.int .i64 1, .agg #[.int .i64 n', .int .i64 d', .int .u8 p', .int .i64 a', .int .i64 u', .int .i64 t', .int .i64 x', .bool g']] w fun e w' => e = .returned (.tuple #[.agg #[.int .u8 K, .int .i64 S, .int .i64 C, .int .i64 T, .int .i64 M, .int .u8 V], .bool b]) ∧ Below w.heap.size w w'))
    (HH : Hid (∀ w, Calls Try.prog 21 #[.int .i64 1, .agg #[.int .i64 n', .int .i64 d', .int .u8 p', .int .i64 a', .int .i64 u', .int .i64 t', .int .i64 x', .bool g'], .agg #[.int .u8 K, .int .i64 S, .int .i64 C, .int .i64 T, .int .i64 M, .int .u8 v], .int .i64 y, .bool o] w fun e w' => e = .returned (.tuple #[.agg #[.int .i64 n', .int .i64 d', .int .u8 p1, .int .i64 a', .int .i64 u', .int .i64 t1, .int .i64 x1, .bool g'], .int .i64 E]) ∧ Below w.heap.size w w'))
    (HWA : Hid (∀ w, Calls Try.prog 25 #[.agg #[.int .i64 n', .int .i64 d', .int .u8 p', .int .i64 a', .int .i64 u', .int .i64 t', .int .i64 x', .bool g'], .int .i64 y] w fun e w' => e = .returned (.agg #[.int .i64 n', .int .i64 d', .int .u8 p2, .int .i64 a', .int .i64 u', .int .i64 t2, .int .i64 x2, .bool g']) ∧ Below w.heap.size w w')) (HCA : Hid (∀ w, Calls Try.prog 23 #[.agg #[.int .i64 n', .int .i64 d', .int .u8 p', .int .i64 a', .int .i64 u', .int .i64 t', .int .i64 x', .bool g']] w fun e w' => e = .returned (.agg #[.int .i64 n', .int .i64 d', .int .u8 p3, .int .i64 a', .int .i64 u', .int .i64 t3, .int .i64 x3, .bool g']) ∧ Below w.heap.size w w')) (HOV : Hid (∀ w, Calls Try.prog 24 #[.agg #[.int .i64 n', .int .i64 d', .int .u8 p', .int .i64 a', .int .i64 u', .int .i64 t', .int .i64 x', .bool g']] w fun e w' => e = .returned (.agg #[.int .i64 n', .int .i64 d', .int .u8 p4, .int .i64 a', .int .i64 u', .int .i64 t4, .int .i64 x4, .bool g']) ∧ Below w.heap.size w w')) :
    Calls Try.prog 11 #[.int .u8 q, .int .u32 a, .int .i32 u, .int .u8 t, .int .u8 v, .int .u16 y, .bool g, .bool o] w fun e w' => e = .returned (.bool true) ∧ Below w.heap.size w w' := by
  have d7 : decide (7 ≤ p') = false := by simp; omega
  have l1 : decide (t1 < t') = false := by simp; omega
  have m1 : decide (t1 > t' + 1) = false := by simp; omega
  have m1' : decide (t' + 1 < t1) = false := by simp; omega
  have l2 : decide (t2 < t') = false := by simp; omega
  have m2 : decide (t2 > t' + 1) = false := by simp; omega
  have m2' : decide (t' + 1 < t2) = false := by simp; omega
  have l3 : decide (t3 < t') = false := by simp; omega
  have m3 : decide (t3 > t' + 1) = false := by simp; omega
  have m3' : decide (t' + 1 < t3) = false := by simp; omega
  have l4 : decide (t4 < t') = false := by simp; omega
  have m4 : decide (t4 > t' + 1) = false := by simp; omega
  have m4' : decide (t' + 1 < t4) = false := by simp; omega
  have et : wrap64 (t' + 1) = t' + 1 := by unfold wrap64; omega
  have ET := Lib.hid et
  have ey : IntKind.i64.wrap y = y := by rw [IntKind.wrap_i64]; omega
  have EY := Lib.hid ey
  clear et ey
  go_enter Try.func11, Try.ntmps11
  go_wp2_with (fail)
  refine (HC.out _).mono ?_
  rintro e w1 ⟨rfl, hb⟩
  have HB1 := Lib.hid hb
  clear hb
  have hz : w.heap.size ≤ w1.heap.size := HB1.out.size
  go_wp2_with (fail)
  refine (HA.out _).mono ?_
  rintro e w2 ⟨rfl, hb⟩
  obtain ⟨hw, z1, e1⟩ := keep_alloc HB1.out HB1.out.size hb
  rw [e1]
  have HW2 := Lib.hid hw
  clear e1 hb hw HB1
  go_wp2_with (fail)
  refine (HH.out _).mono ?_
  rintro e w3 ⟨rfl, hb⟩
  obtain ⟨hw, z2, z3, e1⟩ := keep1_alloc HW2.out hz z1 hb
  rw [e1]
  have HW3 := Lib.hid hw
  clear e1 hb hw HW2
  go_wp2
  have HB0 : Hid (Below w.heap.size w (((boxed (boxed w3 w1.heap.size #[.int .i64 n', .int .i64 d', .int .u8 p', .int .i64 a', .int .i64 u', .int .i64 t', .int .i64 x', .bool g'] 25) w2.heap.size #[.int .u8 K, .int .i64 S, .int .i64 C, .int .i64 T, .int .i64 M, .int .u8 v] 35).alloc (.cells #[.int .i64 n', .int .i64 d', .int .u8 p1, .int .i64 a', .int .i64 u', .int .i64 t1, .int .i64 x1, .bool g'] 25)).drew)) := by
    show Below _ _ _
    have hB := HW3.out
    (repeat (first | assumption | (with_reducible exact Below.refl _ _) | (with_reducible refine boxed_below ?_ ?_; rotate_left; (focus (first | omega | (simp; done) | (simp; omega)))) | (with_reducible refine Below.alloc ?_ ?_ _; rotate_left; (focus (first | omega | (simp; done) | (simp; omega)))) | (with_reducible refine Below.drew ?_)))
  refine lane_start (ord := [0, 1, 2, 3, 5, 7, 4, 6, 8, 9, 10]) (S := fun w' => w'.heap[w1.heap.size]? = some (.cells #[.int .i64 n', .int .i64 d', .int .u8 p', .int .i64 a', .int .i64 u', .int .i64 t', .int .i64 x', .bool g'] 25 (0, 0)) ∧ w'.heap[w3.heap.size]? = some (.cells #[.int .i64 n', .int .i64 d', .int .u8 p1, .int .i64 a', .int .i64 u', .int .i64 t1, .int .i64 x1, .bool g'] 25 (0, 0))) rfl (by kernel_rfl) ⟨alloc_old (by simp; omega) (boxed_old (by omega) (boxed_at (by omega))), alloc_at (by simp)⟩ (fun hHeld => ?_)
  iterate 6 (refine lane_take (v := ?_) rfl (by kernel_rfl) (by kernel_rfl) (by rfl) ?_ (by assumption) ?_; rotate_left; (focus (intro W hSw; obtain ⟨hSc, hSx⟩ := hSw; obtain ⟨s0, s1, s2, s3, s4, s5, s6, s7⟩ := cells8 hSc; obtain ⟨k0, k1, k2, k3, k4, k5, k6, k7⟩ := cells8 hSx; go_simp; try (with_reducible rfl))); simp only [Act.put, List.setIfInBounds_toArray, List.set_cons_zero, List.set_cons_succ])
  refine lane_alone rfl (by kernel_rfl) (by rfl) (fun K hK => ?_)
  go_simp
  rw [EY.out]
  refine (HWA.out _).mono ?_
  rintro e w4 ⟨rfl, hb⟩
  refine hK _ _ ⟨below_block hb hHeld.1, below_block hb hHeld.2⟩ (fun hHeld => ?_)
  clear hK K
  have HB4 := Lib.hid (HB0.out.trans (hb.mono (by exact HB0.out.size)))
  clear hb HB0
  have HB0 := HB4
  clear HB4
  refine lane_alone rfl (by kernel_rfl) (by rfl) (fun K hK => ?_)
  go_simp
  refine (HCA.out _).mono ?_
  rintro e w4 ⟨rfl, hb⟩
  refine hK _ _ ⟨below_block hb hHeld.1, below_block hb hHeld.2⟩ (fun hHeld => ?_)
  clear hK K
  have HB4 := Lib.hid (HB0.out.trans (hb.mono (by exact HB0.out.size)))
  clear hb HB0
  have HB0 := HB4
  clear HB4
  refine lane_alone rfl (by kernel_rfl) (by rfl) (fun K hK => ?_)
  go_simp
  refine (HOV.out _).mono ?_
  rintro e w4 ⟨rfl, hb⟩
  refine hK _ _ ⟨below_block hb hHeld.1, below_block hb hHeld.2⟩ (fun hHeld => ?_)
  clear hK K
  have HB4 := Lib.hid (HB0.out.trans (hb.mono (by exact HB0.out.size)))
  clear hb HB0
  have HB0 := HB4
  clear HB4
  refine lane_alone rfl (by kernel_rfl) (by rfl) (fun K hK => ?_)
  go_simp
  have hN1 := (Array.getElem?_eq_some_iff.1 hHeld.1).1
  have hN2 := (Array.getElem?_eq_some_iff.1 hHeld.2).1
  refine hK _ _ ⟨alloc_old hN1 hHeld.1, alloc_old hN2 hHeld.2⟩ (fun hHeld2 => ?_)
  clear hK K
  (refine lane_take (v := ?_) rfl (by kernel_rfl) (by kernel_rfl) (by rfl) ?_ (by assumption) ?_; rotate_left; (focus (intro W hSw; obtain ⟨hSc, hSx⟩ := hSw; obtain ⟨s0, s1, s2, s3, s4, s5, s6, s7⟩ := cells8 hSc; obtain ⟨k0, k1, k2, k3, k4, k5, k6, k7⟩ := cells8 hSx; go_simp; try (with_reducible rfl))); simp only [Act.put, List.setIfInBounds_toArray, List.set_cons_zero, List.set_cons_succ])
  refine lane_end (by kernel_rfl) ?_
  have HB5 : Hid (Below w.heap.size w (w4.alloc (.cells #[.int .i64 n', .int .i64 d', .int .u8 p1, .int .i64 a', .int .i64 u', .int .i64 t1, .int .i64 x1, .bool g', .int .i64 n', .int .i64 d', .int .u8 p2, .int .i64 a', .int .i64 u', .int .i64 t2, .int .i64 x2, .bool g', .int .i64 n', .int .i64 d', .int .u8 p3, .int .i64 a', .int .i64 u', .int .i64 t3, .int .i64 x3, .bool g', .int .i64 n', .int .i64 d', .int .u8 p4, .int .i64 a', .int .i64 u', .int .i64 t4, .int .i64 x4, .bool g'] 25))) := HB0.out.alloc (by exact HB0.out.size) _
  have HS5 : Hid ((w4.alloc (.cells #[.int .i64 n', .int .i64 d', .int .u8 p1, .int .i64 a', .int .i64 u', .int .i64 t1, .int .i64 x1, .bool g', .int .i64 n', .int .i64 d', .int .u8 p2, .int .i64 a', .int .i64 u', .int .i64 t2, .int .i64 x2, .bool g', .int .i64 n', .int .i64 d', .int .u8 p3, .int .i64 a', .int .i64 u', .int .i64 t3, .int .i64 x3, .bool g', .int .i64 n', .int .i64 d', .int .u8 p4, .int .i64 a', .int .i64 u', .int .i64 t4, .int .i64 x4, .bool g'] 25)).heap[w4.heap.size]? = some (.cells #[.int .i64 n', .int .i64 d', .int .u8 p1, .int .i64 a', .int .i64 u', .int .i64 t1, .int .i64 x1, .bool g', .int .i64 n', .int .i64 d', .int .u8 p2, .int .i64 a', .int .i64 u', .int .i64 t2, .int .i64 x2, .bool g', .int .i64 n', .int .i64 d', .int .u8 p3, .int .i64 a', .int .i64 u', .int .i64 t3, .int .i64 x3, .bool g', .int .i64 n', .int .i64 d', .int .u8 p4, .int .i64 a', .int .i64 u', .int .i64 t4, .int .i64 x4, .bool g'] 25 (0, 0))) := alloc_at rfl
  have HC5 : Hid ((w4.alloc (.cells #[.int .i64 n', .int .i64 d', .int .u8 p1, .int .i64 a', .int .i64 u', .int .i64 t1, .int .i64 x1, .bool g', .int .i64 n', .int .i64 d', .int .u8 p2, .int .i64 a', .int .i64 u', .int .i64 t2, .int .i64 x2, .bool g', .int .i64 n', .int .i64 d', .int .u8 p3, .int .i64 a', .int .i64 u', .int .i64 t3, .int .i64 x3, .bool g', .int .i64 n', .int .i64 d', .int .u8 p4, .int .i64 a', .int .i64 u', .int .i64 t4, .int .i64 x4, .bool g'] 25)).heap[w1.heap.size]? = some (.cells #[.int .i64 n', .int .i64 d', .int .u8 p', .int .i64 a', .int .i64 u', .int .i64 t', .int .i64 x', .bool g'] 25 (0, 0))) := hHeld2.1
  clear hHeld hHeld2 hN1 hN2 HB0
  generalize w4.alloc (.cells #[.int .i64 n', .int .i64 d', .int .u8 p1, .int .i64 a', .int .i64 u', .int .i64 t1, .int .i64 x1, .bool g', .int .i64 n', .int .i64 d', .int .u8 p2, .int .i64 a', .int .i64 u', .int .i64 t2, .int .i64 x2, .bool g', .int .i64 n', .int .i64 d', .int .u8 p3, .int .i64 a', .int .i64 u', .int .i64 t3, .int .i64 x3, .bool g', .int .i64 n', .int .i64 d', .int .u8 p4, .int .i64 a', .int .i64 u', .int .i64 t4, .int .i64 x4, .bool g'] 25) = w5 at *
  go_wp2
  go_loopw [23] (fun i wq => ∃ k : Nat, k ≤ 4 ∧ i = .int .i64 k ∧ Hid (Below w.heap.size w wq) ∧ Hid (wq.heap[w4.heap.size]? = some (.cells #[.int .i64 n', .int .i64 d', .int .u8 p1, .int .i64 a', .int .i64 u', .int .i64 t1, .int .i64 x1, .bool g', .int .i64 n', .int .i64 d', .int .u8 p2, .int .i64 a', .int .i64 u', .int .i64 t2, .int .i64 x2, .bool g', .int .i64 n', .int .i64 d', .int .u8 p3, .int .i64 a', .int .i64 u', .int .i64 t3, .int .i64 x3, .bool g', .int .i64 n', .int .i64 d', .int .u8 p4, .int .i64 a', .int .i64 u', .int .i64 t4, .int .i64 x4, .bool g'] 25 (0, 0))) ∧ Hid (wq.heap[w1.heap.size]? = some (.cells #[.int .i64 n', .int .i64 d', .int .u8 p', .int .i64 a', .int .i64 u', .int .i64 t', .int .i64 x', .bool g'] 25 (0, 0)))) (fun i _ => 4 - (intOf i).toNat)
  case atStart => exact ⟨0, by omega, rfl, HB5, HS5, HC5⟩
  case round =>
    obtain ⟨k, hk, rfl, HW, HS, HP⟩ := hrel
    have hks : k = 0 ∨ k = 1 ∨ k = 2 ∨ k = 3 ∨ k = 4 := by omega
    clear hk HB5 HS5 HC5
    obtain ⟨s0, s1, s2, s3, s4, s5, s6, s7⟩ := cells8 HP.out
    have hl1 : w1.heap.size < wr.heap.size := (Array.getElem?_eq_some_iff.1 HP.out).1
    have hcs := fun j => cell_of_row wr w4.heap.size j _ _ _ HS.out
    rcases hks with rfl | rfl | rfl | rfl | rfl
    · have q0 := hcs 0
      have q1 := hcs 1
      have q2 := hcs 2
      have q3 := hcs 3
      have q4 := hcs 4
      have q5 := hcs 5
      have q6 := hcs 6
      have q7 := hcs 7
      dsimp at q0 q1 q2 q3 q4 q5 q6 q7
      clear hcs
      go_wp2_with (fail)
      refine (cyended_any _ _ _ _ _ _ _ _ _).mono ?_
      rw [show decide (7 ≤ p') = false from d7]
      rintro e w6 ⟨rfl, hb⟩
      have hc6 : w6.heap[w1.heap.size]? = some (.cells #[.int .i64 n', .int .i64 d', .int .u8 p', .int .i64 a', .int .i64 u', .int .i64 t', .int .i64 x', .bool g'] 25 (0, 0)) := below_block hb (by (repeat (first | assumption | (with_reducible refine alloc_at ?_; (focus (first | omega | (simp; done) | (simp; omega)))) | (with_reducible refine boxed_at ?_; (focus (first | omega | (simp; done) | (simp; omega)))) | (with_reducible refine alloc_old ?_ ?_; (focus (first | omega | (simp; done) | (simp; omega)))) | (with_reducible refine boxed_old ?_ ?_; (focus (first | omega | (simp; done) | (simp; omega)))) | (with_reducible refine drew_old ?_))))
      have hy6 : w6.heap[wr.heap.size]? = some (.cells #[.int .i64 n', .int .i64 d', .int .u8 p1, .int .i64 a', .int .i64 u', .int .i64 t1, .int .i64 x1, .bool g'] 25 (0, 0)) := below_block hb (by (repeat (first | assumption | (with_reducible refine alloc_at ?_; (focus (first | omega | (simp; done) | (simp; omega)))) | (with_reducible refine boxed_at ?_; (focus (first | omega | (simp; done) | (simp; omega)))) | (with_reducible refine alloc_old ?_ ?_; (focus (first | omega | (simp; done) | (simp; omega)))) | (with_reducible refine boxed_old ?_ ?_; (focus (first | omega | (simp; done) | (simp; omega)))) | (with_reducible refine drew_old ?_))))
      obtain ⟨c0, c1, c2, c3, c4, c5, c6, c7⟩ := cells8 hc6
      obtain ⟨y0, y1, y2, y3, y4, y5, y6, y7⟩ := cells8 hy6
      have hs6 : w6.heap[w4.heap.size]? = some (.cells #[.int .i64 n', .int .i64 d', .int .u8 p1, .int .i64 a', .int .i64 u', .int .i64 t1, .int .i64 x1, .bool g', .int .i64 n', .int .i64 d', .int .u8 p2, .int .i64 a', .int .i64 u', .int .i64 t2, .int .i64 x2, .bool g', .int .i64 n', .int .i64 d', .int .u8 p3, .int .i64 a', .int .i64 u', .int .i64 t3, .int .i64 x3, .bool g', .int .i64 n', .int .i64 d', .int .u8 p4, .int .i64 a', .int .i64 u', .int .i64 t4, .int .i64 x4, .bool g'] 25 (0, 0)) := below_block hb (alloc_old (Array.getElem?_eq_some_iff.1 HS.out).1 HS.out)
      have hb6 : Below w.heap.size w w6 := (HW.out.alloc (by exact HW.out.size) _).trans (hb.mono (by simp; have := HW.out.size; omega))
      have HC6 := Lib.hid hc6
      have HS6 := Lib.hid hs6
      have HB6 := Lib.hid hb6
      clear hc6 hy6 hs6 hb6 hb s0 s1 s2 s3 s4 s5 s6 s7 q0 q1 q2 q3 q4 q5 q6 q7 HS HP HW
      go_wp2
      go_roundw
      case rel => exact ⟨1, by omega, by go_num, HB6, HS6, HC6⟩
      case measure => simp [intOf]
    · have q0 := hcs 8
      have q1 := hcs 9
      have q2 := hcs 10
      have q3 := hcs 11
      have q4 := hcs 12
      have q5 := hcs 13
      have q6 := hcs 14
      have q7 := hcs 15
      dsimp at q0 q1 q2 q3 q4 q5 q6 q7
      clear hcs
      go_wp2_with (fail)
      refine (cyended_any _ _ _ _ _ _ _ _ _).mono ?_
      rw [show decide (7 ≤ p') = false from d7]
      rintro e w6 ⟨rfl, hb⟩
      have hc6 : w6.heap[w1.heap.size]? = some (.cells #[.int .i64 n', .int .i64 d', .int .u8 p', .int .i64 a', .int .i64 u', .int .i64 t', .int .i64 x', .bool g'] 25 (0, 0)) := below_block hb (by (repeat (first | assumption | (with_reducible refine alloc_at ?_; (focus (first | omega | (simp; done) | (simp; omega)))) | (with_reducible refine boxed_at ?_; (focus (first | omega | (simp; done) | (simp; omega)))) | (with_reducible refine alloc_old ?_ ?_; (focus (first | omega | (simp; done) | (simp; omega)))) | (with_reducible refine boxed_old ?_ ?_; (focus (first | omega | (simp; done) | (simp; omega)))) | (with_reducible refine drew_old ?_))))
      have hy6 : w6.heap[wr.heap.size]? = some (.cells #[.int .i64 n', .int .i64 d', .int .u8 p2, .int .i64 a', .int .i64 u', .int .i64 t2, .int .i64 x2, .bool g'] 25 (0, 0)) := below_block hb (by (repeat (first | assumption | (with_reducible refine alloc_at ?_; (focus (first | omega | (simp; done) | (simp; omega)))) | (with_reducible refine boxed_at ?_; (focus (first | omega | (simp; done) | (simp; omega)))) | (with_reducible refine alloc_old ?_ ?_; (focus (first | omega | (simp; done) | (simp; omega)))) | (with_reducible refine boxed_old ?_ ?_; (focus (first | omega | (simp; done) | (simp; omega)))) | (with_reducible refine drew_old ?_))))
      obtain ⟨c0, c1, c2, c3, c4, c5, c6, c7⟩ := cells8 hc6
      obtain ⟨y0, y1, y2, y3, y4, y5, y6, y7⟩ := cells8 hy6
      have hs6 : w6.heap[w4.heap.size]? = some (.cells #[.int .i64 n', .int .i64 d', .int .u8 p1, .int .i64 a', .int .i64 u', .int .i64 t1, .int .i64 x1, .bool g', .int .i64 n', .int .i64 d', .int .u8 p2, .int .i64 a', .int .i64 u', .int .i64 t2, .int .i64 x2, .bool g', .int .i64 n', .int .i64 d', .int .u8 p3, .int .i64 a', .int .i64 u', .int .i64 t3, .int .i64 x3, .bool g', .int .i64 n', .int .i64 d', .int .u8 p4, .int .i64 a', .int .i64 u', .int .i64 t4, .int .i64 x4, .bool g'] 25 (0, 0)) := below_block hb (alloc_old (Array.getElem?_eq_some_iff.1 HS.out).1 HS.out)
      have hb6 : Below w.heap.size w w6 := (HW.out.alloc (by exact HW.out.size) _).trans (hb.mono (by simp; have := HW.out.size; omega))
      have HC6 := Lib.hid hc6
      have HS6 := Lib.hid hs6
      have HB6 := Lib.hid hb6
      clear hc6 hy6 hs6 hb6 hb s0 s1 s2 s3 s4 s5 s6 s7 q0 q1 q2 q3 q4 q5 q6 q7 HS HP HW
      go_wp2
      go_roundw
      case rel => exact ⟨2, by omega, by go_num, HB6, HS6, HC6⟩
      case measure => simp [intOf]
    · have q0 := hcs 16
      have q1 := hcs 17
      have q2 := hcs 18
      have q3 := hcs 19
      have q4 := hcs 20
      have q5 := hcs 21
      have q6 := hcs 22
      have q7 := hcs 23
      dsimp at q0 q1 q2 q3 q4 q5 q6 q7
      clear hcs
      go_wp2_with (fail)
      refine (cyended_any _ _ _ _ _ _ _ _ _).mono ?_
      rw [show decide (7 ≤ p') = false from d7]
      rintro e w6 ⟨rfl, hb⟩
      have hc6 : w6.heap[w1.heap.size]? = some (.cells #[.int .i64 n', .int .i64 d', .int .u8 p', .int .i64 a', .int .i64 u', .int .i64 t', .int .i64 x', .bool g'] 25 (0, 0)) := below_block hb (by (repeat (first | assumption | (with_reducible refine alloc_at ?_; (focus (first | omega | (simp; done) | (simp; omega)))) | (with_reducible refine boxed_at ?_; (focus (first | omega | (simp; done) | (simp; omega)))) | (with_reducible refine alloc_old ?_ ?_; (focus (first | omega | (simp; done) | (simp; omega)))) | (with_reducible refine boxed_old ?_ ?_; (focus (first | omega | (simp; done) | (simp; omega)))) | (with_reducible refine drew_old ?_))))
      have hy6 : w6.heap[wr.heap.size]? = some (.cells #[.int .i64 n', .int .i64 d', .int .u8 p3, .int .i64 a', .int .i64 u', .int .i64 t3, .int .i64 x3, .bool g'] 25 (0, 0)) := below_block hb (by (repeat (first | assumption | (with_reducible refine alloc_at ?_; (focus (first | omega | (simp; done) | (simp; omega)))) | (with_reducible refine boxed_at ?_; (focus (first | omega | (simp; done) | (simp; omega)))) | (with_reducible refine alloc_old ?_ ?_; (focus (first | omega | (simp; done) | (simp; omega)))) | (with_reducible refine boxed_old ?_ ?_; (focus (first | omega | (simp; done) | (simp; omega)))) | (with_reducible refine drew_old ?_))))
      obtain ⟨c0, c1, c2, c3, c4, c5, c6, c7⟩ := cells8 hc6
      obtain ⟨y0, y1, y2, y3, y4, y5, y6, y7⟩ := cells8 hy6
      have hs6 : w6.heap[w4.heap.size]? = some (.cells #[.int .i64 n', .int .i64 d', .int .u8 p1, .int .i64 a', .int .i64 u', .int .i64 t1, .int .i64 x1, .bool g', .int .i64 n', .int .i64 d', .int .u8 p2, .int .i64 a', .int .i64 u', .int .i64 t2, .int .i64 x2, .bool g', .int .i64 n', .int .i64 d', .int .u8 p3, .int .i64 a', .int .i64 u', .int .i64 t3, .int .i64 x3, .bool g', .int .i64 n', .int .i64 d', .int .u8 p4, .int .i64 a', .int .i64 u', .int .i64 t4, .int .i64 x4, .bool g'] 25 (0, 0)) := below_block hb (alloc_old (Array.getElem?_eq_some_iff.1 HS.out).1 HS.out)
      have hb6 : Below w.heap.size w w6 := (HW.out.alloc (by exact HW.out.size) _).trans (hb.mono (by simp; have := HW.out.size; omega))
      have HC6 := Lib.hid hc6
      have HS6 := Lib.hid hs6
      have HB6 := Lib.hid hb6
      clear hc6 hy6 hs6 hb6 hb s0 s1 s2 s3 s4 s5 s6 s7 q0 q1 q2 q3 q4 q5 q6 q7 HS HP HW
      go_wp2
      go_roundw
      case rel => exact ⟨3, by omega, by go_num, HB6, HS6, HC6⟩
      case measure => simp [intOf]
    · have q0 := hcs 24
      have q1 := hcs 25
      have q2 := hcs 26
      have q3 := hcs 27
      have q4 := hcs 28
      have q5 := hcs 29
      have q6 := hcs 30
      have q7 := hcs 31
      dsimp at q0 q1 q2 q3 q4 q5 q6 q7
      clear hcs
      go_wp2_with (fail)
      refine (cyended_any _ _ _ _ _ _ _ _ _).mono ?_
      rw [show decide (7 ≤ p') = false from d7]
      rintro e w6 ⟨rfl, hb⟩
      have hc6 : w6.heap[w1.heap.size]? = some (.cells #[.int .i64 n', .int .i64 d', .int .u8 p', .int .i64 a', .int .i64 u', .int .i64 t', .int .i64 x', .bool g'] 25 (0, 0)) := below_block hb (by (repeat (first | assumption | (with_reducible refine alloc_at ?_; (focus (first | omega | (simp; done) | (simp; omega)))) | (with_reducible refine boxed_at ?_; (focus (first | omega | (simp; done) | (simp; omega)))) | (with_reducible refine alloc_old ?_ ?_; (focus (first | omega | (simp; done) | (simp; omega)))) | (with_reducible refine boxed_old ?_ ?_; (focus (first | omega | (simp; done) | (simp; omega)))) | (with_reducible refine drew_old ?_))))
      have hy6 : w6.heap[wr.heap.size]? = some (.cells #[.int .i64 n', .int .i64 d', .int .u8 p4, .int .i64 a', .int .i64 u', .int .i64 t4, .int .i64 x4, .bool g'] 25 (0, 0)) := below_block hb (by (repeat (first | assumption | (with_reducible refine alloc_at ?_; (focus (first | omega | (simp; done) | (simp; omega)))) | (with_reducible refine boxed_at ?_; (focus (first | omega | (simp; done) | (simp; omega)))) | (with_reducible refine alloc_old ?_ ?_; (focus (first | omega | (simp; done) | (simp; omega)))) | (with_reducible refine boxed_old ?_ ?_; (focus (first | omega | (simp; done) | (simp; omega)))) | (with_reducible refine drew_old ?_))))
      obtain ⟨c0, c1, c2, c3, c4, c5, c6, c7⟩ := cells8 hc6
      obtain ⟨y0, y1, y2, y3, y4, y5, y6, y7⟩ := cells8 hy6
      have hs6 : w6.heap[w4.heap.size]? = some (.cells #[.int .i64 n', .int .i64 d', .int .u8 p1, .int .i64 a', .int .i64 u', .int .i64 t1, .int .i64 x1, .bool g', .int .i64 n', .int .i64 d', .int .u8 p2, .int .i64 a', .int .i64 u', .int .i64 t2, .int .i64 x2, .bool g', .int .i64 n', .int .i64 d', .int .u8 p3, .int .i64 a', .int .i64 u', .int .i64 t3, .int .i64 x3, .bool g', .int .i64 n', .int .i64 d', .int .u8 p4, .int .i64 a', .int .i64 u', .int .i64 t4, .int .i64 x4, .bool g'] 25 (0, 0)) := below_block hb (alloc_old (Array.getElem?_eq_some_iff.1 HS.out).1 HS.out)
      have hb6 : Below w.heap.size w w6 := (HW.out.alloc (by exact HW.out.size) _).trans (hb.mono (by simp; have := HW.out.size; omega))
      have HC6 := Lib.hid hc6
      have HS6 := Lib.hid hs6
      have HB6 := Lib.hid hb6
      clear hc6 hy6 hs6 hb6 hb s0 s1 s2 s3 s4 s5 s6 s7 q0 q1 q2 q3 q4 q5 q6 q7 HS HP HW
      go_wp2
      go_roundw
      case rel => exact ⟨4, by omega, by go_num, HB6, HS6, HC6⟩
      case measure => simp [intOf]
    · clear hcs
      go_wp2_with (fail)
      refine (cyawake_any _).mono ?_
      rintro e w6 ⟨rfl, hb⟩
      have HB6 := Lib.hid (HW.out.trans (hb.mono (by exact HW.out.size)))
      clear hb
      go_wp2
      go_ret
      exact ⟨rfl, HB6.out⟩
theorem cycleKeeps_walk (q : Int) (w0 : (Lit.int .u8 q).wf = true) (a : Int) (w1 : (Lit.int .u32 a).wf = true) (u : Int) (w2 : (Lit.int .i32 u).wf = true) (t : Int) (w3 : (Lit.int .u8 t).wf = true) (v : Int) (_w4 : (Lit.int .u8 v).wf = true) (y : Int) (w5 : (Lit.int .u16 y).wf = true) (g o : Bool) (w : World) :
    Calls Try.prog 11 #[.int .u8 q, .int .u32 a, .int .i32 u, .int .u8 t, .int .u8 v, .int .u16 y, .bool g, .bool o] w fun e w' => e = .returned (.bool true) ∧ Below w.heap.size w w' := by
  have hq := wf_u8 w0
  have ha := wf_u32 w1
  have hu := wf_i32 w2
  have ht := wf_u8 w3
  obtain ⟨hy0, hy1⟩ := wf_u16 w5
  have htt := (at_try (q := q) (n := 7) (d := 9) (a := a) (u := u) (x := 3) (g := g) ht.1).2
  obtain ⟨D, hD⟩ : ∃ D, Cy.at_ q 7 9 a u t 3 g = D := ⟨_, rfl⟩
  have HC : Hid (∀ w, Calls Try.prog 17 #[.int .u8 q, .int .u16 7, .int .u16 9, .int .u32 a, .int .i32 u, .int .u8 t, .int .u16 3, .bool g] w fun e w' => e = .returned D.val ∧ Below w.heap.size w w') := fun w => by
    rw [← hD]; exact cyat_any q 7 9 a u t 3 g w hq ht (by omega) (by omega) ha hu (by omega)
  rw [hD] at htt
  clear hD
  obtain ⟨n', d', p', a', u', t', x', g'⟩ := D
  dsimp only at htt
  obtain ⟨ht0, ht1⟩ := htt
  obtain ⟨A, hA⟩ : ∃ A, Cv.ask 1 ⟨n', d', p', a', u', t', x', g'⟩ = A := ⟨_, rfl⟩
  have HA : Hid (∀ w, Calls Try.prog 18 #[.int .i64 1, .agg #[.int .i64 n', .int .i64 d', .int .u8 p', .int .i64 a', .int .i64 u', .int .i64 t', .int .i64 x', .bool g']] w fun e w' => e = .returned (.tuple #[.agg A.arr, .bool (Cv.asks ⟨n', d', p', a', u', t', x', g'⟩)]) ∧ Below w.heap.size w w') := fun w => by
    rw [← hA]; exact cyasks_any 1 n' d' p' a' u' t' x' g' w
  clear hA
  obtain ⟨K, S, C, T, M, V⟩ := A
  obtain ⟨z1, hz1⟩ : ∃ z, Cv.hear 1 ⟨n', d', p', a', u', t', x', g'⟩ ⟨K, S, C, T, M, v⟩ y o = z := ⟨_, rfl⟩
  obtain ⟨z2, hz2⟩ : ∃ z, Cv.wake ⟨n', d', p', a', u', t', x', g'⟩ y = z := ⟨_, rfl⟩
  obtain ⟨z3, hz3⟩ : ∃ z, Cv.card ⟨n', d', p', a', u', t', x', g'⟩ = z := ⟨_, rfl⟩
  obtain ⟨z4, hz4⟩ : ∃ z, Cv.over ⟨n', d', p', a', u', t', x', g'⟩ = z := ⟨_, rfl⟩
  have k1 := kept_hear 1 ⟨n', d', p', a', u', t', x', g'⟩ ⟨K, S, C, T, M, v⟩ y o
  have k2 := kept_wake ⟨n', d', p', a', u', t', x', g'⟩ y
  have k3 := kept_card ⟨n', d', p', a', u', t', x', g'⟩
  have k4 := kept_over ⟨n', d', p', a', u', t', x', g'⟩
  have HH : Hid (∀ w, Calls Try.prog 21 #[.int .i64 1, .agg #[.int .i64 n', .int .i64 d', .int .u8 p', .int .i64 a', .int .i64 u', .int .i64 t', .int .i64 x', .bool g'], .agg #[.int .u8 K, .int .i64 S, .int .i64 C, .int .i64 T, .int .i64 M, .int .u8 v], .int .i64 y, .bool o] w fun e w' => e = .returned (.tuple #[z1.val, .int .i64 (Cv.herr 1 ⟨n', d', p', a', u', t', x', g'⟩ ⟨K, S, C, T, M, v⟩)]) ∧ Below w.heap.size w w') := fun w => by
    rw [← hz1]; exact cyhear_any 1 n' d' p' a' u' t' x' g' K S C T M v y o w (by omega) (by omega)
  have HW : Hid (∀ w, Calls Try.prog 25 #[.agg #[.int .i64 n', .int .i64 d', .int .u8 p', .int .i64 a', .int .i64 u', .int .i64 t', .int .i64 x', .bool g'], .int .i64 y] w fun e w' => e = .returned z2.val ∧ Below w.heap.size w w') := fun w => by
    rw [← hz2]; exact cywake_any n' d' p' a' u' t' x' g' y w (by omega) (by omega)
  have HCA : Hid (∀ w, Calls Try.prog 23 #[.agg #[.int .i64 n', .int .i64 d', .int .u8 p', .int .i64 a', .int .i64 u', .int .i64 t', .int .i64 x', .bool g']] w fun e w' => e = .returned z3.val ∧ Below w.heap.size w w') := fun w => by
    rw [← hz3]; exact cycard_any n' d' p' a' u' t' x' g' w (by omega) (by omega)
  have HO : Hid (∀ w, Calls Try.prog 24 #[.agg #[.int .i64 n', .int .i64 d', .int .u8 p', .int .i64 a', .int .i64 u', .int .i64 t', .int .i64 x', .bool g']] w fun e w' => e = .returned z4.val ∧ Below w.heap.size w w') := fun w => by
    rw [← hz4]; exact cyover_any n' d' p' a' u' t' x' g' w
  rw [hz1] at k1
  rw [hz2] at k2
  rw [hz3] at k3
  rw [hz4] at k4
  clear hz1 hz2 hz3 hz4
  by_cases h7 : 7 ≤ p'
  · obtain rfl := k1.2.2.2.2.2.2.2 h7
    obtain rfl := k2.2.2.2.2.2.2.2 h7
    obtain rfl := k3.2.2.2.2.2.2.2 h7
    obtain rfl := k4.2.2.2.2.2.2.2 h7
    exact keeps_ended q a u t v y g o n' d' p' a' u' t' x' g' K S C T M V _ _ w h7 ht0 ht1 hy0 hy1 HC HA HH HW HCA HO
  · obtain ⟨n1, d1, p1, a1, u1, t1, x1, g1⟩ := z1
    obtain ⟨n2, d2, p2, a2, u2, t2, x2, g2⟩ := z2
    obtain ⟨n3, d3, p3, a3, u3, t3, x3, g3⟩ := z3
    obtain ⟨n4, d4, p4, a4, u4, t4, x4, g4⟩ := z4
    obtain ⟨rfl, rfl, rfl, rfl, rfl, l1, m1, _⟩ := k1
    obtain ⟨h1, h2, h3, h4, h5, l2, m2, _⟩ := k2
    obtain ⟨i1, i2, i3, i4, i5, l3, m3, _⟩ := k3
    obtain ⟨j1, j2, j3, j4, j5, l4, m4, _⟩ := k4
    dsimp only at h1 h2 h3 h4 h5 i1 i2 i3 i4 i5 j1 j2 j3 j4 j5 l1 l2 l3 l4 m1 m2 m3 m4
    subst h1 h2 h3 h4 h5 i1 i2 i3 i4 i5 j1 j2 j3 j4 j5
    exact keeps_live q a u t v y g o _ _ _ _ _ _ _ _ K S C T M V _ p1 t1 x1 p2 t2 x2 p3 t3 x3 p4 t4 x4 _ w (Int.not_le.1 h7) ht0 ht1 l1 m1 l2 m2 l3 m3 l4 m4 hy0 hy1 HC HA HH HW HCA HO
end Go.Proofs.Ythilcefikhnilaa
