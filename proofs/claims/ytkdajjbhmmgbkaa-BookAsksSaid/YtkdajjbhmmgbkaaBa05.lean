/-
  What a cycle asks: cycle.Asks, and the document's own. No conditions.
-/
import Derived.Test.YtkdajjbhmmgbkaaRows
import Derived.Maps.AppendAt
import Derived.Laws.OwnMore
import Derived.Laws.BytesString
import Derived.Test.YtkdajjbhmmgbkaaBa02
import Derived.Test.YtkdajjbhmmgbkaaBa03
import Derived.Test.YtkdajjbhmmgbkaaBa04
set_option linter.unusedSimpArgs false
set_option linter.unusedVariables false
namespace Go.Proofs.Ytkdajjbhmmgbkaa
set_option maxRecDepth 20000
open Go.ChangeShapes Go.WideShapes Go.ChangeAt Go.RowKit

theorem kind_ways {P : Prop} (p : Int) (h1 : p = 1 → P) (h3 : p = 3 → P) (h4 : p = 4 → P) (h5 : p = 5 → P) (h6 : p = 6 → P) (h0 : p ≠ 1 → p ≠ 3 → p ≠ 4 → p ≠ 5 → p ≠ 6 → P) : P := by
  by_cases c1 : p = 1
  · exact h1 c1
  by_cases c3 : p = 3
  · exact h3 c3
  by_cases c4 : p = 4
  · exact h4 c4
  by_cases c5 : p = 5
  · exact h5 c5
  by_cases c6 : p = 6
  · exact h6 c6
  · exact h0 c1 c3 c4 c5 c6
theorem kind_none {p : Int} (h1 : p ≠ 1) (h3 : p ≠ 3) (h4 : p ≠ 4) (h5 : p ≠ 5) (h6 : p ≠ 6) : Cy.kind p = 0 := by
  unfold Cy.kind; rw [if_neg h1, if_neg h3, if_neg h4, if_neg h5, if_neg h6]
theorem ask_none {s : Int} {c : Cv} (h : Cy.kind c.p = 0) : c.ask s = Nv.zero := if_pos h
/-- A cycle's block, cell by cell. -/
theorem cells8 {w : World} {b : Nat} {ty : TypeId} {fr : Nat × Nat} {n d p a u t x : Int} {g : Bool} (h : w.heap[b]? = some (.cells #[.int .i64 n, .int .i64 d, .int .u8 p, .int .i64 a, .int .i64 u, .int .i64 t, .int .i64 x, .bool g] ty fr)) :
    w.cell? ⟨b, 0, none⟩ = some (.int .i64 n) ∧ w.cell? ⟨b, 1, none⟩ = some (.int .i64 d) ∧ w.cell? ⟨b, 2, none⟩ = some (.int .u8 p) ∧ w.cell? ⟨b, 3, none⟩ = some (.int .i64 a) ∧ w.cell? ⟨b, 4, none⟩ = some (.int .i64 u) ∧ w.cell? ⟨b, 5, none⟩ = some (.int .i64 t) ∧ w.cell? ⟨b, 6, none⟩ = some (.int .i64 x) ∧ w.cell? ⟨b, 7, none⟩ = some (.bool g) := by
  refine ⟨?_, ?_, ?_, ?_, ?_, ?_, ?_, ?_⟩
  all_goals
    rw [cell_of_row _ _ _ _ _ _ h]
    rfl
/-- Does it ask? -/
def Cv.asks (c : Cv) : Bool := decide (Cy.kind c.p ≠ 0)
theorem asks_none {c : Cv} (h : Cy.kind c.p = 0) : c.asks = false := by unfold Cv.asks; simpa using h
set_option maxHeartbeats 400000 in
theorem cyasks_any (s : Int) (n d p a u t x : Int) (g : Bool) (w : World) : Calls Try.prog 57 #[.int .i64 s, .agg #[.int .i64 n, .int .i64 d, .int .u8 p, .int .i64 a, .int .i64 u, .int .i64 t, .int .i64 x, .bool g]] w fun e w' => e = .returned (.tuple #[.agg (Cv.ask s ⟨n, d, p, a, u, t, x, g⟩).arr, .bool (Cv.asks ⟨n, d, p, a, u, t, x, g⟩)]) ∧ Below w.heap.size w w' := by
  refine kind_ways p ?_ ?_ ?_ ?_ ?_ ?_
  · rintro rfl
    go_enter Try.func57, Try.ntmps57
    go_wp2
    go_region
    go_wp2
    refine bodyPost_ret (v := .tuple #[.agg #[.int .u8 1, .int .i64 s, .int .i64 n, .int .i64 t, .int .i64 a, .int .u8 0], .bool true]) ?_ rfl ⟨rfl, by go_grown⟩
    simp [results, Try.results57, go_sem]
  · rintro rfl
    go_enter Try.func57, Try.ntmps57
    go_wp2
    refine bodyPost_ret (v := .tuple #[.agg #[.int .u8 3, .int .i64 s, .int .i64 n, .int .i64 0, .int .i64 0, .int .u8 0], .bool true]) ?_ rfl ⟨rfl, by go_grown⟩
    simp [results, Try.results57, go_sem]
  · rintro rfl
    go_enter Try.func57, Try.ntmps57
    go_wp2
    refine bodyPost_ret (v := .tuple #[.agg #[.int .u8 5, .int .i64 s, .int .i64 n, .int .i64 0, .int .i64 0, .int .u8 0], .bool true]) ?_ rfl ⟨rfl, by go_grown⟩
    simp [results, Try.results57, go_sem]
  · rintro rfl
    go_enter Try.func57, Try.ntmps57
    go_wp2
    refine bodyPost_ret (v := .tuple #[.agg #[.int .u8 4, .int .i64 s, .int .i64 n, .int .i64 0, .int .i64 0, .int .u8 0], .bool true]) ?_ rfl ⟨rfl, by go_grown⟩
    simp [results, Try.results57, go_sem]
  · rintro rfl
    go_enter Try.func57, Try.ntmps57
    go_wp2
    go_region
    go_wp2
    refine bodyPost_ret (v := .tuple #[.agg #[.int .u8 2, .int .i64 s, .int .i64 n, .int .i64 0, .int .i64 a, .int .u8 0], .bool true]) ?_ rfl ⟨rfl, by go_grown⟩
    simp [results, Try.results57, go_sem]
  · intro c1 c3 c4 c5 c6
    have hk := kind_none c1 c3 c4 c5 c6
    rw [ask_none (c := ⟨n, d, p, a, u, t, x, g⟩) hk, asks_none (c := ⟨n, d, p, a, u, t, x, g⟩) hk]
    have d1 : (p == 1) = false := by simpa using c1
    have d3 : (p == 3) = false := by simpa using c3
    have d4 : (p == 4) = false := by simpa using c4
    have d5 : (p == 5) = false := by simpa using c5
    have d6 : (p == 6) = false := by simpa using c6
    clear c1 c3 c4 c5 c6 hk
    go_enter Try.func57, Try.ntmps57
    go_wp2
    refine bodyPost_ret (v := .tuple #[.agg #[.int .u8 0, .int .i64 0, .int .i64 0, .int .i64 0, .int .i64 0, .int .u8 0], .bool false]) ?_ rfl ⟨rfl, by go_grown⟩
    simp [results, Try.results57, go_sem]
set_option maxHeartbeats 400000 in
theorem refkind_any (p : Int) (w : World) : Calls Try.prog 41 #[.int .u8 p] w fun e w' => e = .returned (.int .u8 (Cy.kind p)) ∧ w = w' := by
  refine kind_ways p ?_ ?_ ?_ ?_ ?_ ?_
  iterate 5 (focus (rintro rfl; go_enter Try.func41, Try.ntmps41; go_wp2; go_ret; exact ⟨rfl, rfl⟩))
  · intro c1 c3 c4 c5 c6
    rw [kind_none c1 c3 c4 c5 c6]
    have d1 : (p == 1) = false := by simpa using c1
    have d3 : (p == 3) = false := by simpa using c3
    have d4 : (p == 4) = false := by simpa using c4
    have d5 : (p == 5) = false := by simpa using c5
    have d6 : (p == 6) = false := by simpa using c6
    clear c1 c3 c4 c5 c6
    go_enter Try.func41, Try.ntmps41
    go_wp2
    go_ret
    exact ⟨rfl, rfl⟩
set_option maxHeartbeats 1000000 in
theorem refasks_any (s : Int) (n d p a u t x : Int) (g : Bool) (w : World) : Calls Try.prog 17 #[.int .i64 s, .agg #[.int .i64 n, .int .i64 d, .int .u8 p, .int .i64 a, .int .i64 u, .int .i64 t, .int .i64 x, .bool g]] w fun e w' => e = .returned (.tuple #[.agg (Cv.ask s ⟨n, d, p, a, u, t, x, g⟩).arr, .bool (Cv.asks ⟨n, d, p, a, u, t, x, g⟩)]) ∧ Below w.heap.size w w' := by
  have HP : Hid (((w.alloc (.cells #[.int .i64 n, .int .i64 d, .int .u8 p, .int .i64 a, .int .i64 u, .int .i64 t, .int .i64 x, .bool g] 69)).alloc (.cells #[.int .u8 0, .int .i64 0, .int .i64 0, .int .i64 0, .int .i64 0, .int .u8 0] 59)).heap[w.heap.size]? = some (.cells #[.int .i64 n, .int .i64 d, .int .u8 p, .int .i64 a, .int .i64 u, .int .i64 t, .int .i64 x, .bool g] 69 (0, 0))) := alloc_old (by simp) (alloc_at rfl)
  obtain ⟨k, hk⟩ : ∃ k, Cy.kind p = k := ⟨_, rfl⟩
  have HK := Lib.hid hk
  clear hk
  go_enter Try.func17, Try.ntmps17
  go_wp2_with (fail)
  refine lane_start (ord := [0, 1, 3, 4, 5, 2, 6, 7, 8]) (S := fun w' => w'.heap[w.heap.size]? = some (.cells #[.int .i64 n, .int .i64 d, .int .u8 p, .int .i64 a, .int .i64 u, .int .i64 t, .int .i64 x, .bool g] 69 (0, 0))) rfl (by kernel_rfl) HP.out (fun hHeld => ?_)
  iterate 5 (refine lane_take (v := ?_) rfl (by kernel_rfl) (by kernel_rfl) (by rfl) ?_ (by assumption) ?_; rotate_left; (focus (intro W hSw; obtain ⟨s0, s1, s2, s3, s4, s5, s6, s7⟩ := cells8 hSw; go_simp; try (with_reducible rfl))); simp only [Act.put, List.setIfInBounds_toArray, List.set_cons_zero, List.set_cons_succ])
  refine lane_two (i := 2) (j := 7) (ordI := [6, 7, 8]) (ordJ := [2, 6, 8]) rfl rfl (by kernel_rfl) rfl (by rfl) (by rfl) (fun K hK => ?_) (fun K hK => ?_)
  case' refine_1 =>
    go_simp
    refine (refkind_any _ _).mono ?_
    rw [HK.out]
    rintro e w' ⟨rfl, rfl⟩
    refine hK _ _ hHeld (fun hHeld => ?_)
    clear hK K
    (refine lane_take (v := ?_) rfl (by kernel_rfl) (by kernel_rfl) (by rfl) ?_ (by assumption) ?_; rotate_left; (focus (intro W hSw; obtain ⟨s0, s1, s2, s3, s4, s5, s6, s7⟩ := cells8 hSw; go_simp; try (with_reducible rfl))); simp only [Act.put, List.setIfInBounds_toArray, List.set_cons_zero, List.set_cons_succ])
    refine lane_alone rfl (by kernel_rfl) (by rfl) (fun K hK => ?_)
    go_simp
    refine hK _ _ (alloc_old (by simp; omega) HP.out) (fun hHeld => ?_)
    clear hK K
  case' refine_2 =>
    go_simp
    refine hK _ _ (alloc_old (by simp; omega) HP.out) (fun hHeld => ?_)
    clear hK K
    refine lane_alone rfl (by kernel_rfl) (by rfl) (fun K hK => ?_)
    go_simp
    refine (refkind_any _ _).mono ?_
    rw [HK.out]
    rintro e w' ⟨rfl, rfl⟩
    refine hK _ _ hHeld (fun hHeld => ?_)
    clear hK K
    (refine lane_take (v := ?_) rfl (by kernel_rfl) (by kernel_rfl) (by rfl) ?_ (by assumption) ?_; rotate_left; (focus (intro W hSw; obtain ⟨s0, s1, s2, s3, s4, s5, s6, s7⟩ := cells8 hSw; go_simp; try (with_reducible rfl))); simp only [Act.put, List.setIfInBounds_toArray, List.set_cons_zero, List.set_cons_succ])
  all_goals
    refine lane_alone rfl (by kernel_rfl) (by rfl) (fun K hK => ?_)
    go_simp
    refine hK _ _ (by (repeat (first | assumption | (with_reducible refine alloc_at ?_; (focus (first | omega | (simp; done) | (simp; omega)))) | (with_reducible refine boxed_at ?_; (focus (first | omega | (simp; done) | (simp; omega)))) | (with_reducible refine alloc_old ?_ ?_; (focus (first | omega | (simp; done) | (simp; omega)))) | (with_reducible refine boxed_old ?_ ?_; (focus (first | omega | (simp; done) | (simp; omega)))) | (with_reducible refine drew_old ?_)))) (fun hHeld => ?_)
    clear hK K
    refine lane_end (by kernel_rfl) ?_
    revert HK HP
    clear hHeld
    refine kind_ways p ?_ ?_ ?_ ?_ ?_ ?_
    · rintro rfl _ HK
      obtain rfl : 1 = k := HK.out
      clear HK
      go_wp2
      refine bodyPost_ret (v := .tuple #[.agg #[.int .u8 1, .int .i64 s, .int .i64 n, .int .i64 t, .int .i64 a, .int .u8 0], .bool true]) ?_ rfl ⟨rfl, by go_grown⟩
      simp [results, Try.results17, go_sem]
    · rintro rfl _ HK
      obtain rfl : 3 = k := HK.out
      clear HK
      go_wp2
      refine bodyPost_ret (v := .tuple #[.agg #[.int .u8 3, .int .i64 s, .int .i64 n, .int .i64 0, .int .i64 0, .int .u8 0], .bool true]) ?_ rfl ⟨rfl, by go_grown⟩
      simp [results, Try.results17, go_sem]
    · rintro rfl _ HK
      obtain rfl : 5 = k := HK.out
      clear HK
      go_wp2
      refine bodyPost_ret (v := .tuple #[.agg #[.int .u8 5, .int .i64 s, .int .i64 n, .int .i64 0, .int .i64 0, .int .u8 0], .bool true]) ?_ rfl ⟨rfl, by go_grown⟩
      simp [results, Try.results17, go_sem]
    · rintro rfl _ HK
      obtain rfl : 4 = k := HK.out
      clear HK
      go_wp2
      refine bodyPost_ret (v := .tuple #[.agg #[.int .u8 4, .int .i64 s, .int .i64 n, .int .i64 0, .int .i64 0, .int .u8 0], .bool true]) ?_ rfl ⟨rfl, by go_grown⟩
      simp [results, Try.results17, go_sem]
    · rintro rfl _ HK
      obtain rfl : 2 = k := HK.out
      clear HK
      go_wp2
      refine bodyPost_ret (v := .tuple #[.agg #[.int .u8 2, .int .i64 s, .int .i64 n, .int .i64 0, .int .i64 a, .int .u8 0], .bool true]) ?_ rfl ⟨rfl, by go_grown⟩
      simp [results, Try.results17, go_sem]
    · intro c1 c3 c4 c5 c6 _ HK
      have hk := kind_none c1 c3 c4 c5 c6
      obtain rfl : 0 = k := hk.symm.trans HK.out
      have HQ := Lib.hid hk
      clear HK c1 c3 c4 c5 c6 hk
      go_wp2
      refine bodyPost_ret (v := .tuple #[.agg #[.int .u8 0, .int .i64 0, .int .i64 0, .int .i64 0, .int .i64 0, .int .u8 0], .bool false]) ?_ rfl ⟨by rw [ask_none (c := ⟨n, d, p, a, u, t, x, g⟩) HQ.out, asks_none (c := ⟨n, d, p, a, u, t, x, g⟩) HQ.out]; rfl, by go_grown⟩
      simp [results, Try.results17, go_sem]
end Go.Proofs.Ytkdajjbhmmgbkaa
/-
  Words for memory: a slice that reads as a list of numbers, nil let in; the string of bytes; and how each stays over steps that turn other blocks alone. No conditions but those that each law names.
-/
namespace Go.Proofs.Ytkdajjbhmmgbkaa
open Go.ChangeShapes Go.WideShapes Go.ChangeAt Go.RowKit

theorem ad_block (a : Addr) (n : Nat) : (a.add n).block = a.block := by unfold Addr.add; split <;> rfl
theorem ad_add (a : Addr) (i j : Nat) : (a.add i).add j = a.add (i + j) := by
  unfold Addr.add
  by_cases hi : i = 0 <;> by_cases hj : j = 0 <;> simp [hi, hj, Nat.add_assoc]
theorem ad_zero (a : Addr) : a.add 0 = a := by simp [Addr.add]
theorem ad_head (b j : Nat) : (⟨b, 0, none⟩ : Addr).add j = ⟨b, j, none⟩ := by unfold Addr.add; split <;> simp_all

/-- A slice whose address is A reads as the numbers l, in a block below B. -/
def Rd (w : World) (k : IntKind) (B : Nat) (A : Option Addr) (l : List Int) : Prop :=
  l ≠ [] → ∃ a, A = some a ∧ a.block < B ∧ ∀ j u, l[j]? = some u → w.cell? (a.add j) = some (.int k u)

section
variable {w w' : World} {k : IntKind} {B B' : Nat} {A : Option Addr} {l : List Int}
theorem Rd.none : Rd w k B A [] := fun h => absurd rfl h
theorem Rd.at_ (h : Rd w k B A l) {j : Nat} (hj : j < l.length) : ∃ a, A = some a ∧ a.block < B ∧ w.cell? (a.add j) = some (.int k l[j]) := by
  obtain ⟨a, e, hb, hc⟩ := h (fun e => by subst e; simp at hj)
  exact ⟨a, e, hb, hc j _ (List.getElem?_eq_getElem hj)⟩
theorem Rd.kept (h : Rd w k B A l) (hk : ∀ i, i < B → w'.heap[i]? = w.heap[i]?) : Rd w' k B A l := fun hl => by
  obtain ⟨a, e, hb, hc⟩ := h hl
  exact ⟨a, e, hb, fun j u hu => (World.cell?_of_block (hk _ (by rw [ad_block]; exact hb))).trans (hc j u hu)⟩
theorem Rd.more (h : Rd w k B A l) (hB : B ≤ B') : Rd w k B' A l := fun hl => by
  obtain ⟨a, e, hb, hc⟩ := h hl
  exact ⟨a, e, by omega, hc⟩
theorem Rd.below (h : Rd w k B A l) (hb : Below B w w') : Rd w' k B A l := h.kept hb.block
theorem Rd.grown {row : Option Nat} (h : Rd w k B A l) (hg : w.grownBy w' row) (hB : B ≤ w.heap.size) (hr : ∀ g, row = some g → B ≤ g) : Rd w' k B A l :=
  h.kept fun i hi => hg.block i (by omega) fun e => by have := hr i e.symm; omega
theorem Rd.drop (h : Rd w k B A l) (n : Nat) : Rd w k B (A.map (·.add n)) (l.drop n) := fun hl => by
  obtain ⟨a, rfl, hb, hc⟩ := h (fun e => by subst e; simp at hl)
  refine ⟨a.add n, rfl, by rw [ad_block]; exact hb, fun j u hu => ?_⟩
  rw [ad_add]
  exact hc _ u (by rw [← hu, List.getElem?_drop])
theorem Rd.take (h : Rd w k B A l) (n : Nat) : Rd w k B A (l.take n) := fun hl => by
  obtain ⟨a, rfl, hb, hc⟩ := h (fun e => by subst e; simp at hl)
  refine ⟨a, rfl, hb, fun j u hu => hc j u ?_⟩
  rw [List.getElem?_take] at hu
  split at hu
  · exact hu
  · cases hu
end

/-- The cells of numbers. -/
def cl (k : IntKind) (l : List Int) : List Value := l.map (Value.int k)
theorem cl_length (k : IntKind) (l : List Int) : (cl k l).length = l.length := by simp [cl]
/-- A row of the call's own reads as its numbers. -/
theorem Rd.own {w : World} {base : Nat} {e : TypeId} {k : IntKind} {A : Option Addr} {n c : Nat} {l : List Int} (h : w.ownsRow base e 1 (.slice A n c) n (cl k l)) : Rd w k w.heap.size A l := by
  intro hl
  rcases h.2 with ⟨_, rfl⟩ | ⟨g, cap, cur, hv, _⟩
  · have := h.1; rw [cl_length] at this; exact absurd (List.eq_nil_of_length_eq_zero (by simpa using this)) hl
  · injection hv with hA _ _
    subst hA
    refine ⟨_, rfl, (h.lt g rfl).2, fun j u hu => h.cells (g := g) rfl j (.int k u) ?_⟩
    unfold cl; rw [List.getElem?_map, hu]; rfl
/-- The form of a slice that is owned: its length, and that it has room for it. -/
theorem own_form {w : World} {base : Nat} {e : TypeId} {size : Nat} {v : Value} {n : Nat} {xs : List Value} (h : w.ownsRow base e size v n xs) : ∃ A c, v = .slice A n c ∧ n ≤ c ∧ c ≤ maxLen := by
  rcases h.2 with ⟨rfl, rfl⟩ | ⟨g, cap, cur, rfl, _, _, h1, h2, _⟩
  · exact ⟨Option.none, 0, rfl, Nat.le_refl _, Nat.zero_le _⟩
  · exact ⟨_, _, rfl, h1, h2⟩

theorem grown_refl (w : World) (row : Option Nat) : w.grownBy w row := ⟨rfl, rfl, rfl, Nat.le_refl _, fun _ _ _ => rfl⟩
theorem grown_drewN {a w : World} {row : Option Nat} (h : a.grownBy w row) (n : Nat) : a.grownBy (w.drewN n) row := ⟨h.os, h.tape, h.output, h.size, h.block⟩
theorem below_grown {a w : World} (h : Below a.heap.size a w) (row : Option Nat) : a.grownBy w row := ⟨h.os, h.tape, h.output, h.size, fun i hi _ => h.block i hi⟩

theorem own_kept {w w' : World} {base : Nat} {e : TypeId} {size : Nat} {v : Value} {n : Nat} {xs : List Value} (h : w.ownsRow base e size v n xs) (hk : ∀ i, v.ownBlock = some i → w'.heap[i]? = w.heap[i]?) : w'.ownsRow base e size v n xs := by
  refine ⟨h.1, ?_⟩
  rcases h.2 with hn | ⟨g, cap, cur, rfl, hb, hgg, rest⟩
  · exact .inl hn
  · exact .inr ⟨g, cap, cur, rfl, hb, (hk g rfl).trans hgg, rest⟩
/-- The letters of bytes. -/
def bst (l : List Int) : ByteArray := l.foldl (fun r n => r.push (UInt8.ofNat n.toNat)) ByteArray.empty
/-- Numbers that are bytes. -/
def BytesOk (l : List Int) : Prop := ∀ x ∈ l, 0 ≤ x ∧ x < 256
theorem BytesOk.lt {l : List Int} (h : BytesOk l) : ∀ x ∈ l, x < 256 := fun x hx => (h x hx).2
theorem BytesOk.take {l : List Int} (h : BytesOk l) (k : Nat) : BytesOk (l.take k) := fun x hx => h x (List.mem_of_mem_take hx)
theorem BytesOk.drop {l : List Int} (h : BytesOk l) (k : Nat) : BytesOk (l.drop k) := fun x hx => h x (List.mem_of_mem_drop hx)
theorem BytesOk.append {a b : List Int} (ha : BytesOk a) (hb : BytesOk b) : BytesOk (a ++ b) := fun x hx => by
  rcases List.mem_append.1 hx with h | h
  · exact ha x h
  · exact hb x h
end Go.Proofs.Ytkdajjbhmmgbkaa
