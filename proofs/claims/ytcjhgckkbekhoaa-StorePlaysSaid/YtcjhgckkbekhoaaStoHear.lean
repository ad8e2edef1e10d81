/-
  A store's Hear, Aside, Count and New, nil ones too. No conditions but the sizes.
-/
import Derived.Test.YtcjhgckkbekhoaaSto
import Derived.Test.YtcjhgckkbekhoaaNv
namespace Go.Proofs.Ytcjhgckkbekhoaa
set_option maxRecDepth 20000
open Go.ChangeShapes Go.WideShapes Go.ChangeAt Go.RowKit

/-- What isn't asked of a store. -/
def Sto.deaf (K V : Int) : Prop := V ≠ 0 ∨ (K ≠ 3 ∧ K ≠ 4)

theorem notice_info : (Try.prog.info? 31).map (·.size) = some 6 := by kernel_rfl
/-- The worlds behind what isn't heard. -/
theorem two_below (w : World) (o o' : Obj) : Below w.heap.size w ((w.alloc o).alloc o') := ((Below.refl _ _).alloc (Nat.le_refl _) _).alloc (by simp) _
theorem at_second (w : World) (o o' : Obj) : ((w.alloc o).alloc o').heap[w.heap.size + 1]? = some o' := alloc_at (by simp)

set_option maxHeartbeats 1000000 in
theorem shear_nil (w : World) (K S C T M V v : Int) :
    Calls Try.prog 22 #[.pointer none, .agg #[.int .u8 K, .int .i64 S, .int .i64 C, .int .i64 T, .int .i64 M, .int .u8 V], .int .u8 v] w fun e w' => e = .returned (.tuple #[.agg #[.int .u8 0, .int .i64 0, .int .i64 0, .int .i64 0, .int .i64 0, .int .u8 0], .bool false]) ∧ Below w.heap.size w w' := by
  go_enter Try.func22, Try.ntmps22
  go_wp2
  refine bodyPost_ret (results_row_tmp rfl _ _ (w.heap.size + 1) 31 _ (0, 0) _ rfl (at_second _ _ _) Try.underlying31 rfl (by exact notice_info)) rfl ?_
  exact ⟨rfl, two_below _ _ _⟩
set_option maxHeartbeats 1000000 in
theorem shear_answer (w : World) (g : Nat) (K S C T M V v : Int) (hV : ¬ V = 0) :
    Calls Try.prog 22 #[.pointer (some ⟨g, 0, none⟩), .agg #[.int .u8 K, .int .i64 S, .int .i64 C, .int .i64 T, .int .i64 M, .int .u8 V], .int .u8 v] w fun e w' => e = .returned (.tuple #[.agg #[.int .u8 0, .int .i64 0, .int .i64 0, .int .i64 0, .int .i64 0, .int .u8 0], .bool false]) ∧ Below w.heap.size w w' := by
  have d : (V != 0) = true := by simpa using hV
  go_enter Try.func22, Try.ntmps22
  go_wp2
  refine bodyPost_ret (results_row_tmp rfl _ _ (w.heap.size + 1) 31 _ (0, 0) _ rfl (at_second _ _ _) Try.underlying31 rfl (by exact notice_info)) rfl ?_
  exact ⟨rfl, two_below _ _ _⟩
set_option maxHeartbeats 1000000 in
theorem shear_other (w : World) (g : Nat) (K S C T M v : Int) (h3 : ¬ K = 3) (h4 : ¬ K = 4) :
    Calls Try.prog 22 #[.pointer (some ⟨g, 0, none⟩), .agg #[.int .u8 K, .int .i64 S, .int .i64 C, .int .i64 T, .int .i64 M, .int .u8 0], .int .u8 v] w fun e w' => e = .returned (.tuple #[.agg #[.int .u8 0, .int .i64 0, .int .i64 0, .int .i64 0, .int .i64 0, .int .u8 0], .bool false]) ∧ Below w.heap.size w w' := by
  have d3 : (K == 3) = false := by simpa using h3
  have d4 : (K == 4) = false := by simpa using h4
  go_enter Try.func22, Try.ntmps22
  go_wp2
  refine bodyPost_ret (results_row_tmp rfl _ _ (w.heap.size + 1) 31 _ (0, 0) _ rfl (alloc_old (by simp) (at_second _ _ _)) Try.underlying31 rfl (by exact notice_info)) rfl ?_
  exact ⟨rfl, (two_below _ _ _).alloc (by simp; omega) _⟩
set_option maxHeartbeats 1000000 in
theorem shear_alloc (w : World) (g b1 b2 : Nat) (st : Sto) (m : Nat) (S C T M v : Int) (h : StoC w g b1 b2 st m) (hk : pok (S, C)) (hm : m + 2 ≤ 100000) :
    Calls Try.prog 22 #[.pointer (some ⟨g, 0, none⟩), .agg #[.int .u8 3, .int .i64 S, .int .i64 C, .int .i64 T, .int .i64 M, .int .u8 0], .int .u8 v] w fun e w' => e = .returned (.tuple #[.agg #[.int .u8 3, .int .i64 S, .int .i64 C, .int .i64 T, .int .i64 M, .int .u8 (st.ans (S, C) v)], .bool true]) ∧ StoC w' g b1 b2 (st.alloc (S, C) v) (m + 2) ∧ Turn (stoF b1 b2) w w' := by
  have hg : g < w.heap.size := (Array.getElem?_eq_some_iff.1 h.blk).1
  have hb2 : b2 < w.heap.size := h.m2.lt
  have hb1 : b1 < w.heap.size := by obtain ⟨c, h1⟩ := h.m1; exact h1.lt
  have H3 : ∀ o o' o'' : Obj, Below w.heap.size w (((w.alloc o).alloc o').alloc o'') := fun o o' o'' => (two_below w o o').alloc (by simp; omega) _
  have HH := Lib.hid h
  clear h
  go_enter Try.func22, Try.ntmps22
  go_wp2_with (fail)
  refine (allocate_any _ g b1 b2 st m S C v (HH.out.below (H3 _ _ _)) hk hm).mono ?_
  rintro e W1 ⟨rfl, hst, ht⟩
  have hz := ht.size
  simp only [World.size_alloc] at hz
  have e0 : W1.heap[w.heap.size]? = some (.cells #[.int .u8 3, .int .i64 S, .int .i64 C, .int .i64 T, .int .i64 M, .int .u8 0] 31 (0, 0)) :=
    (ht.block _ (by simp only [World.size_alloc]; omega) (by rintro (e | e) <;> omega)).trans (alloc_old (by simp; omega) (alloc_old (by simp) (alloc_at rfl)))
  have e1 : W1.heap[w.heap.size + 1]? = some (.cells #[.int .u8 0, .int .i64 0, .int .i64 0, .int .i64 0, .int .i64 0, .int .u8 0] 31 (0, 0)) :=
    (ht.block _ (by simp only [World.size_alloc]; omega) (by rintro (e | e) <;> omega)).trans (alloc_old (by simp) (alloc_at (by simp)))
  have HS := Lib.hid hst
  have HT : Hid (Turn (stoF b1 b2) w W1) := (Turn.of_below (H3 _ _ _)).trans ht fun i hi => .inl hi
  clear hst ht H3
  have l0 : w.heap.size < W1.heap.size := by omega
  have l1 : w.heap.size + 1 < W1.heap.size := by omega
  obtain ⟨W2, rfl⟩ : ∃ W2, W1 = boxed (boxed W2 w.heap.size #[.int .u8 3, .int .i64 S, .int .i64 C, .int .i64 T, .int .i64 M, .int .u8 0] 31) (w.heap.size + 1) #[.int .u8 0, .int .i64 0, .int .i64 0, .int .i64 0, .int .i64 0, .int .u8 0] 31 :=
    ⟨W1, by rw [← boxed_self e0, ← boxed_self e1]⟩
  rw [boxed_size, boxed_size] at l0 l1
  clear e0 e1 hz
  go_wp2
  refine bodyPost_ret (results_row_tmp rfl _ _ (w.heap.size + 1) 31 _ (0, 0) _ rfl (boxed_at (by rw [boxed_size]; exact l1)) Try.underlying31 rfl (by exact notice_info)) rfl ?_
  have hkeep : ∀ (c c' d d' : Array Value) (t t' : TypeId) (i : Nat), i < w.heap.size → (boxed (boxed W2 w.heap.size c t) (w.heap.size + 1) c' t').heap[i]? = (boxed (boxed W2 w.heap.size d t) (w.heap.size + 1) d' t').heap[i]? := fun c c' d d' t t' i hi => by
    rw [boxed_block_other (by omega), boxed_block_other (by omega), boxed_block_other (by omega), boxed_block_other (by omega)]
  refine ⟨rfl, HS.out.kept (hkeep _ _ _ _ _ _ _ hg) (hkeep _ _ _ _ _ _ _ hb1) (hkeep _ _ _ _ _ _ _ hb2), ?_⟩
  exact ⟨HT.out.os, HT.out.tape, HT.out.output, by have := HT.out.size; simp only [boxed_size] at this ⊢; exact this, fun i hi hn => (hkeep _ _ _ _ _ _ _ hi).trans (HT.out.block i hi hn)⟩
set_option maxHeartbeats 1000000 in
theorem shear_drop (w : World) (g b1 b2 : Nat) (st : Sto) (m : Nat) (S C T M v : Int) (h : StoC w g b1 b2 st m) (hk : pok (S, C)) (hm : m + 2 ≤ 100000) :
    Calls Try.prog 22 #[.pointer (some ⟨g, 0, none⟩), .agg #[.int .u8 4, .int .i64 S, .int .i64 C, .int .i64 T, .int .i64 M, .int .u8 0], .int .u8 v] w fun e w' => e = .returned (.tuple #[.agg #[.int .u8 4, .int .i64 S, .int .i64 C, .int .i64 T, .int .i64 M, .int .u8 1], .bool true]) ∧ StoC w' g b1 b2 (st.drop (S, C)) (m + 2) ∧ Turn (stoF b1 b2) w w' := by
  have hg : g < w.heap.size := (Array.getElem?_eq_some_iff.1 h.blk).1
  have hb2 : b2 < w.heap.size := h.m2.lt
  have hb1 : b1 < w.heap.size := by obtain ⟨c, h1⟩ := h.m1; exact h1.lt
  have H3 : ∀ o o' o'' : Obj, Below w.heap.size w (((w.alloc o).alloc o').alloc o'') := fun o o' o'' => (two_below w o o').alloc (by simp; omega) _
  have HH := Lib.hid h
  clear h
  go_enter Try.func22, Try.ntmps22
  go_wp2_with (fail)
  refine (release_any _ g b1 b2 st m S C (HH.out.below (H3 _ _ _)) hk hm).mono ?_
  rintro e W1 ⟨rfl, hst, ht⟩
  have hz := ht.size
  simp only [World.size_alloc] at hz
  have e0 : W1.heap[w.heap.size]? = some (.cells #[.int .u8 4, .int .i64 S, .int .i64 C, .int .i64 T, .int .i64 M, .int .u8 0] 31 (0, 0)) :=
    (ht.block _ (by simp only [World.size_alloc]; omega) (by rintro (e | e) <;> omega)).trans (alloc_old (by simp; omega) (alloc_old (by simp) (alloc_at rfl)))
  have e1 : W1.heap[w.heap.size + 1]? = some (.cells #[.int .u8 0, .int .i64 0, .int .i64 0, .int .i64 0, .int .i64 0, .int .u8 0] 31 (0, 0)) :=
    (ht.block _ (by simp only [World.size_alloc]; omega) (by rintro (e | e) <;> omega)).trans (alloc_old (by simp) (alloc_at (by simp)))
  have HS := Lib.hid hst
  have HT : Hid (Turn (stoF b1 b2) w W1) := (Turn.of_below (H3 _ _ _)).trans ht fun i hi => .inl hi
  clear hst ht H3
  have l0 : w.heap.size < W1.heap.size := by omega
  have l1 : w.heap.size + 1 < W1.heap.size := by omega
  obtain ⟨W2, rfl⟩ : ∃ W2, W1 = boxed (boxed W2 w.heap.size #[.int .u8 4, .int .i64 S, .int .i64 C, .int .i64 T, .int .i64 M, .int .u8 0] 31) (w.heap.size + 1) #[.int .u8 0, .int .i64 0, .int .i64 0, .int .i64 0, .int .i64 0, .int .u8 0] 31 :=
    ⟨W1, by rw [← boxed_self e0, ← boxed_self e1]⟩
  rw [boxed_size, boxed_size] at l0 l1
  clear e0 e1 hz
  go_wp2
  refine bodyPost_ret (results_row_tmp rfl _ _ (w.heap.size + 1) 31 _ (0, 0) _ rfl (boxed_at (by rw [boxed_size]; exact l1)) Try.underlying31 rfl (by exact notice_info)) rfl ?_
  have hkeep : ∀ (c c' d d' : Array Value) (t t' : TypeId) (i : Nat), i < w.heap.size → (boxed (boxed W2 w.heap.size c t) (w.heap.size + 1) c' t').heap[i]? = (boxed (boxed W2 w.heap.size d t) (w.heap.size + 1) d' t').heap[i]? := fun c c' d d' t t' i hi => by
    rw [boxed_block_other (by omega), boxed_block_other (by omega), boxed_block_other (by omega), boxed_block_other (by omega)]
  refine ⟨rfl, HS.out.kept (hkeep _ _ _ _ _ _ _ hg) (hkeep _ _ _ _ _ _ _ hb1) (hkeep _ _ _ _ _ _ _ hb2), ?_⟩
  exact ⟨HT.out.os, HT.out.tape, HT.out.output, by have := HT.out.size; simp only [boxed_size] at this ⊢; exact this, fun i hi hn => (hkeep _ _ _ _ _ _ _ hi).trans (HT.out.block i hi hn)⟩

/-! Aside, Count, New. -/
theorem aside_nil (w : World) (a b : Int) : Calls Try.prog 23 #[.pointer none, .int .i64 a, .int .i64 b] w fun e w' => e = .returned (.bool false) ∧ w = w' := by
  go_enter Try.func23, Try.ntmps23
  go_wp2
  go_ret
  exact ⟨rfl, rfl⟩
theorem count_nil (w : World) : Calls Try.prog 24 #[.pointer none] w fun e w' => e = .returned (.int .i64 0) ∧ w = w' := by
  go_enter Try.func24, Try.ntmps24
  go_wp2
  go_ret
  exact ⟨rfl, rfl⟩
theorem count_any (w : World) (g b1 b2 : Nat) (st : Sto) (m : Nat) (h : StoC w g b1 b2 st m) : Calls Try.prog 24 #[.pointer (some ⟨g, 0, none⟩)] w fun e w' => e = .returned (.int .i64 st.aside.length) ∧ w = w' := by
  have hc : w.cell? ⟨g, 1, none⟩ = some (.map (some b2)) := by rw [cell_of_row _ _ _ _ _ _ h.blk]; rfl
  have hl := h.m2.len course_map2 3
  go_enter Try.func24, Try.ntmps24
  go_wp2
  go_ret
  exact ⟨rfl, rfl⟩
set_option maxHeartbeats 1000000 in
theorem aside_any (w : World) (g b1 b2 : Nat) (st : Sto) (m : Nat) (a b : Int) (h : StoC w g b1 b2 st m) (hk : pok (a, b)) : Calls Try.prog 23 #[.pointer (some ⟨g, 0, none⟩), .int .i64 a, .int .i64 b] w fun e w' => e = .returned (.bool (decide ((a, b) ∈ st.aside))) ∧ Below w.heap.size w w' := by
  have hc : w.cell? ⟨g, 1, none⟩ = some (.map (some b2)) := by rw [cell_of_row _ _ _ _ _ _ h.blk]; rfl
  have hl : (Instr.lookup 85 (.map (some b2)) (.agg #[.int .i64 a, .int .i64 b]) true).run Try.prog w = .ok (.tuple #[.agg #[], .bool (decide ((a, b) ∈ st.aside))]) w := by
    have := h.m2.look_ok course_map2 (zero_unit _) (a, b) hk
    have e : (st.ad (a, b)).getD (.agg #[]) = .agg #[] ∧ (st.ad (a, b)).isSome = decide ((a, b) ∈ st.aside) := by
      unfold Sto.ad
      by_cases hm : (a, b) ∈ st.aside <;> simp [hm]
    rw [e.1, e.2] at this
    exact this
  go_enter Try.func23, Try.ntmps23
  go_wp2
  go_ret
  exact ⟨rfl, (Below.refl _ _).alloc (Nat.le_refl _) _⟩
theorem snew_any (w : World) : Calls Try.prog 21 #[] w fun e w' => e = .returned (.pointer (some ⟨w.heap.size + 2, 0, none⟩)) ∧ StoC w' (w.heap.size + 2) w.heap.size (w.heap.size + 1) .new 0 ∧ Below w.heap.size w w' ∧ w'.heap.size = w.heap.size + 3 := by
  have hmm := @run_makeMap Try.prog
  go_enter Try.func21, Try.ntmps21
  go_wp2
  go_ret
  have s1 : (w.alloc (.map #[] 0)).heap.size = w.heap.size + 1 := World.size_alloc _ _
  refine ⟨rfl, ⟨alloc_at (by simp), ⟨0, ?_⟩, ?_, by omega, List.nodup_nil, fun k hk => (nomatch hk)⟩, ((Below.refl _ _).alloc (Nat.le_refl _) _ |>.alloc (by simp) _).alloc (by simp; omega) _, by simp⟩
  · exact (mapE_made courseE w).kept (by rw [alloc_block_old (by simp; omega), alloc_block_old (by simp)])
  · have := mapE_made courseE (w.alloc (.map #[] 0))
    rw [s1] at this
    exact this.kept (alloc_block_old (by simp))
end Go.Proofs.Ytcjhgckkbekhoaa
