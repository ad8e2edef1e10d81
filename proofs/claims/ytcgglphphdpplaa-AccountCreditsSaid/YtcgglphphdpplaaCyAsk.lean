/-
  What a cycle asks: cycle.Asks, and the document's own. No conditions.
-/
import Derived.Test.YtcgglphphdpplaaCy
import Derived.Test.YtcgglphphdpplaaLane
import Derived.Test.YtcgglphphdpplaaLaneT
namespace Go.Proofs.Ytcgglphphdpplaa
set_option maxRecDepth 20000
open Go.ChangeShapes Go.WideShapes Go.ChangeAt Go.RowKit

theorem kind_ways {P : Prop} (p : Int) (h1 : p = 1 → P) (h3 : p = 3 → P) (h4 : p = 4 → P) (h5 : p = 5 → P) (h6 : p = 6 → P) (h0 : p ≠ 1 → p ≠ 3 → p ≠ 4 → p ≠ 5 → p ≠ 6 → P) : P := by
  by_cases c1 : p = 1
  · exact h1 c1
  by_cases c3 : p = 3
  · exact h3 c3
  by_cases c4 : p = 4
  · exact h4 c4
  by_cases c5 : p = 5
  · exact h5 c5
  by_cases c6 : p = 6
  · exact h6 c6
  · exact h0 c1 c3 c4 c5 c6
theorem kind_none {p : Int} (h1 : p ≠ 1) (h3 : p ≠ 3) (h4 : p ≠ 4) (h5 : p ≠ 5) (h6 : p ≠ 6) : Cy.kind p = 0 := by
  unfold Cy.kind; rw [if_neg h1, if_neg h3, if_neg h4, if_neg h5, if_neg h6]
theorem ask_none {s : Int} {c : Cv} (h : Cy.kind c.p = 0) : c.ask s = Nv.zero := if_pos h
/-- A cycle's block, cell by cell. -/
theorem cells8 {w : World} {b : Nat} {ty : TypeId} {fr : Nat × Nat} {n d p a u t x : Int} {g : Bool} (h : w.heap[b]? = some (.cells #[.int .i64 n, .int .i64 d, .int .u8 p, .int .i64 a, .int .i64 u, .int .i64 t, .int .i64 x, .bool g] ty fr)) :
    w.cell? ⟨b, 0, none⟩ = some (.int .i64 n) ∧ w.cell? ⟨b, 1, none⟩ = some (.int .i64 d) ∧ w.cell? ⟨b, 2, none⟩ = some (.int .u8 p) ∧ w.cell? ⟨b, 3, none⟩ = some (.int .i64 a) ∧ w.cell? ⟨b, 4, none⟩ = some (.int .i64 u) ∧ w.cell? ⟨b, 5, none⟩ = some (.int .i64 t) ∧ w.cell? ⟨b, 6, none⟩ = some (.int .i64 x) ∧ w.cell? ⟨b, 7, none⟩ = some (.bool g) := by
  refine ⟨?_, ?_, ?_, ?_, ?_, ?_, ?_, ?_⟩
  all_goals
    rw [cell_of_row _ _ _ _ _ _ h]
    rfl
/-- Does it ask? -/
def Cv.asks (c : Cv) : Bool := decide (Cy.kind c.p ≠ 0)
theorem asks_none {c : Cv} (h : Cy.kind c.p = 0) : c.asks = false := by unfold Cv.asks; simpa using h
set_option maxHeartbeats 400000 in
theorem cyasks_any (s : Int) (n d p a u t x : Int) (g : Bool) (w : World) : Calls Try.prog 50 #[.int .i64 s, .agg #[.int .i64 n, .int .i64 d, .int .u8 p, .int .i64 a, .int .i64 u, .int .i64 t, .int .i64 x, .bool g]] w fun e w' => e = .returned (.tuple #[.agg (Cv.ask s ⟨n, d, p, a, u, t, x, g⟩).arr, .bool (Cv.asks ⟨n, d, p, a, u, t, x, g⟩)]) ∧ Below w.heap.size w w' := by
  refine kind_ways p ?_ ?_ ?_ ?_ ?_ ?_
  · rintro rfl
    go_enter Try.func50, Try.ntmps50
    go_wp2
    go_region
    go_wp2
    refine bodyPost_ret (v := .tuple #[.agg #[.int .u8 1, .int .i64 s, .int .i64 n, .int .i64 t, .int .i64 a, .int .u8 0], .bool true]) ?_ rfl ⟨rfl, by go_grown⟩
    simp [results, Try.results50, go_sem]
  · rintro rfl
    go_enter Try.func50, Try.ntmps50
    go_wp2
    refine bodyPost_ret (v := .tuple #[.agg #[.int .u8 3, .int .i64 s, .int .i64 n, .int .i64 0, .int .i64 0, .int .u8 0], .bool true]) ?_ rfl ⟨rfl, by go_grown⟩
    simp [results, Try.results50, go_sem]
  · rintro rfl
    go_enter Try.func50, Try.ntmps50
    go_wp2
    refine bodyPost_ret (v := .tuple #[.agg #[.int .u8 5, .int .i64 s, .int .i64 n, .int .i64 0, .int .i64 0, .int .u8 0], .bool true]) ?_ rfl ⟨rfl, by go_grown⟩
    simp [results, Try.results50, go_sem]
  · rintro rfl
    go_enter Try.func50, Try.ntmps50
    go_wp2
    refine bodyPost_ret (v := .tuple #[.agg #[.int .u8 4, .int .i64 s, .int .i64 n, .int .i64 0, .int .i64 0, .int .u8 0], .bool true]) ?_ rfl ⟨rfl, by go_grown⟩
    simp [results, Try.results50, go_sem]
  · rintro rfl
    go_enter Try.func50, Try.ntmps50
    go_wp2
    go_region
    go_wp2
    refine bodyPost_ret (v := .tuple #[.agg #[.int .u8 2, .int .i64 s, .int .i64 n, .int .i64 0, .int .i64 a, .int .u8 0], .bool true]) ?_ rfl ⟨rfl, by go_grown⟩
    simp [results, Try.results50, go_sem]
  · intro c1 c3 c4 c5 c6
    have hk := kind_none c1 c3 c4 c5 c6
    rw [ask_none (c := ⟨n, d, p, a, u, t, x, g⟩) hk, asks_none (c := ⟨n, d, p, a, u, t, x, g⟩) hk]
    have d1 : (p == 1) = false := by simpa using c1
    have d3 : (p == 3) = false := by simpa using c3
    have d4 : (p == 4) = false := by simpa using c4
    have d5 : (p == 5) = false := by simpa using c5
    have d6 : (p == 6) = false := by simpa using c6
    clear c1 c3 c4 c5 c6 hk
    go_enter Try.func50, Try.ntmps50
    go_wp2
    refine bodyPost_ret (v := .tuple #[.agg #[.int .u8 0, .int .i64 0, .int .i64 0, .int .i64 0, .int .i64 0, .int .u8 0], .bool false]) ?_ rfl ⟨rfl, by go_grown⟩
    simp [results, Try.results50, go_sem]
set_option maxHeartbeats 400000 in
theorem refkind_any (p : Int) (w : World) : Calls Try.prog 88 #[.int .u8 p] w fun e w' => e = .returned (.int .u8 (Cy.kind p)) ∧ w = w' := by
  refine kind_ways p ?_ ?_ ?_ ?_ ?_ ?_
  iterate 5 (focus (rintro rfl; go_enter Try.func88, Try.ntmps88; go_wp2; go_ret; exact ⟨rfl, rfl⟩))
  · intro c1 c3 c4 c5 c6
    rw [kind_none c1 c3 c4 c5 c6]
    have d1 : (p == 1) = false := by simpa using c1
    have d3 : (p == 3) = false := by simpa using c3
    have d4 : (p == 4) = false := by simpa using c4
    have d5 : (p == 5) = false := by simpa using c5
    have d6 : (p == 6) = false := by simpa using c6
    clear c1 c3 c4 c5 c6
    go_enter Try.func88, Try.ntmps88
    go_wp2
    go_ret
    exact ⟨rfl, rfl⟩
set_option maxHeartbeats 1000000 in
theorem refasks_any (s : Int) (n d p a u t x : Int) (g : Bool) (w : World) : Calls Try.prog 75 #[.int .i64 s, .agg #[.int .i64 n, .int .i64 d, .int .u8 p, .int .i64 a, .int .i64 u, .int .i64 t, .int .i64 x, .bool g]] w fun e w' => e = .returned (.tuple #[.agg (Cv.ask s ⟨n, d, p, a, u, t, x, g⟩).arr, .bool (Cv.asks ⟨n, d, p, a, u, t, x, g⟩)]) ∧ Below w.heap.size w w' := by
  have HP : Hid (((w.alloc (.cells #[.int .i64 n, .int .i64 d, .int .u8 p, .int .i64 a, .int .i64 u, .int .i64 t, .int .i64 x, .bool g] 97)).alloc (.cells #[.int .u8 0, .int .i64 0, .int .i64 0, .int .i64 0, .int .i64 0, .int .u8 0] 69)).heap[w.heap.size]? = some (.cells #[.int .i64 n, .int .i64 d, .int .u8 p, .int .i64 a, .int .i64 u, .int .i64 t, .int .i64 x, .bool g] 97 (0, 0))) := alloc_old (by simp) (alloc_at rfl)
  obtain ⟨k, hk⟩ : ∃ k, Cy.kind p = k := ⟨_, rfl⟩
  have HK := Lib.hid hk
  clear hk
  go_enter Try.func75, Try.ntmps75
  go_wp2_with (fail)
  refine lane_start (ord := [0, 1, 3, 4, 5, 2, 6, 7, 8]) (S := fun w' => w'.heap[w.heap.size]? = some (.cells #[.int .i64 n, .int .i64 d, .int .u8 p, .int .i64 a, .int .i64 u, .int .i64 t, .int .i64 x, .bool g] 97 (0, 0))) rfl (by kernel_rfl) HP.out (fun hHeld => ?_)
  iterate 5 (refine lane_take (v := ?_) rfl (by kernel_rfl) (by kernel_rfl) (by rfl) ?_ (by assumption) ?_; rotate_left; (focus (intro W hSw; obtain ⟨s0, s1, s2, s3, s4, s5, s6, s7⟩ := cells8 hSw; go_simp; try (with_reducible rfl))); simp only [Act.put, List.setIfInBounds_toArray, List.set_cons_zero, List.set_cons_succ])
  refine lane_two (i := 2) (j := 7) (ordI := [6, 7, 8]) (ordJ := [2, 6, 8]) rfl rfl (by kernel_rfl) rfl (by rfl) (by rfl) (fun K hK => ?_) (fun K hK => ?_)
  case' refine_1 =>
    go_simp
    refine (refkind_any _ _).mono ?_
    rw [HK.out]
    rintro e w' ⟨rfl, rfl⟩
    refine hK _ _ hHeld (fun hHeld => ?_)
    clear hK K
    (refine lane_take (v := ?_) rfl (by kernel_rfl) (by kernel_rfl) (by rfl) ?_ (by assumption) ?_; rotate_left; (focus (intro W hSw; obtain ⟨s0, s1, s2, s3, s4, s5, s6, s7⟩ := cells8 hSw; go_simp; try (with_reducible rfl))); simp only [Act.put, List.setIfInBounds_toArray, List.set_cons_zero, List.set_cons_succ])
    refine lane_alone rfl (by kernel_rfl) (by rfl) (fun K hK => ?_)
    go_simp
    refine hK _ _ (alloc_old (by simp; omega) HP.out) (fun hHeld => ?_)
    clear hK K
  case' refine_2 =>
    go_simp
    refine hK _ _ (alloc_old (by simp; omega) HP.out) (fun hHeld => ?_)
    clear hK K
    refine lane_alone rfl (by kernel_rfl) (by rfl) (fun K hK => ?_)
    go_simp
    refine (refkind_any _ _).mono ?_
    rw [HK.out]
    rintro e w' ⟨rfl, rfl⟩
    refine hK _ _ hHeld (fun hHeld => ?_)
    clear hK K
    (refine lane_take (v := ?_) rfl (by kernel_rfl) (by kernel_rfl) (by rfl) ?_ (by assumption) ?_; rotate_left; (focus (intro W hSw; obtain ⟨s0, s1, s2, s3, s4, s5, s6, s7⟩ := cells8 hSw; go_simp; try (with_reducible rfl))); simp only [Act.put, List.setIfInBounds_toArray, List.set_cons_zero, List.set_cons_succ])
  all_goals
    refine lane_alone rfl (by kernel_rfl) (by rfl) (fun K hK => ?_)
    go_simp
    refine hK _ _ (by (repeat (first | assumption | (with_reducible refine alloc_at ?_; (focus (first | omega | (simp; done) | (simp; omega)))) | (with_reducible refine boxed_at ?_; (focus (first | omega | (simp; done) | (simp; omega)))) | (with_reducible refine alloc_old ?_ ?_; (focus (first | omega | (simp; done) | (simp; omega)))) | (with_reducible refine boxed_old ?_ ?_; (focus (first | omega | (simp; done) | (simp; omega)))) | (with_reducible refine drew_old ?_)))) (fun hHeld => ?_)
    clear hK K
    refine lane_end (by kernel_rfl) ?_
    revert HK HP
    clear hHeld
    refine kind_ways p ?_ ?_ ?_ ?_ ?_ ?_
    · rintro rfl _ HK
      obtain rfl : 1 = k := HK.out
      clear HK
      go_wp2
      refine bodyPost_ret (v := .tuple #[.agg #[.int .u8 1, .int .i64 s, .int .i64 n, .int .i64 t, .int .i64 a, .int .u8 0], .bool true]) ?_ rfl ⟨rfl, by go_grown⟩
      simp [results, Try.results75, go_sem]
    · rintro rfl _ HK
      obtain rfl : 3 = k := HK.out
      clear HK
      go_wp2
      refine bodyPost_ret (v := .tuple #[.agg #[.int .u8 3, .int .i64 s, .int .i64 n, .int .i64 0, .int .i64 0, .int .u8 0], .bool true]) ?_ rfl ⟨rfl, by go_grown⟩
      simp [results, Try.results75, go_sem]
    · rintro rfl _ HK
      obtain rfl : 5 = k := HK.out
      clear HK
      go_wp2
      refine bodyPost_ret (v := .tuple #[.agg #[.int .u8 5, .int .i64 s, .int .i64 n, .int .i64 0, .int .i64 0, .int .u8 0], .bool true]) ?_ rfl ⟨rfl, by go_grown⟩
      simp [results, Try.results75, go_sem]
    · rintro rfl _ HK
      obtain rfl : 4 = k := HK.out
      clear HK
      go_wp2
      refine bodyPost_ret (v := .tuple #[.agg #[.int .u8 4, .int .i64 s, .int .i64 n, .int .i64 0, .int .i64 0, .int .u8 0], .bool true]) ?_ rfl ⟨rfl, by go_grown⟩
      simp [results, Try.results75, go_sem]
    · rintro rfl _ HK
      obtain rfl : 2 = k := HK.out
      clear HK
      go_wp2
      refine bodyPost_ret (v := .tuple #[.agg #[.int .u8 2, .int .i64 s, .int .i64 n, .int .i64 0, .int .i64 a, .int .u8 0], .bool true]) ?_ rfl ⟨rfl, by go_grown⟩
      simp [results, Try.results75, go_sem]
    · intro c1 c3 c4 c5 c6 _ HK
      have hk := kind_none c1 c3 c4 c5 c6
      obtain rfl : 0 = k := hk.symm.trans HK.out
      have HQ := Lib.hid hk
      clear HK c1 c3 c4 c5 c6 hk
      go_wp2
      refine bodyPost_ret (v := .tuple #[.agg #[.int .u8 0, .int .i64 0, .int .i64 0, .int .i64 0, .int .i64 0, .int .u8 0], .bool false]) ?_ rfl ⟨by rw [ask_none (c := ⟨n, d, p, a, u, t, x, g⟩) HQ.out, asks_none (c := ⟨n, d, p, a, u, t, x, g⟩) HQ.out]; rfl, by go_grown⟩
      simp [results, Try.results75, go_sem]
end Go.Proofs.Ytcgglphphdpplaa
