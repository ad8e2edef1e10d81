/-
  A period begins: package account's 'begin'. No conditions but the sizes.
-/
import Derived.Test.YtblikgbcakgdnaaGreatBr05
import Derived.Test.YtblikgbcakgdnaaGreatBr13
set_option linter.unusedSimpArgs false
set_option linter.unusedVariables false
namespace Go.Proofs.YtblikgbcakgdnaaGreat
set_option maxRecDepth 20000
open Go.ChangeShapes Go.WideShapes Go.ChangeAt Go.RowKit

/-- A period begins: what becomes of a subscription. -/
def Av.born (a : Av) (p : Pv) (d : Int) (missed : Bool) : Av :=
  if a.st = 2 ∨ missed = true then Av.with_ { a with ct := a.ct + 1 } ⟨a.ct, d, 10, 0, 0, 0, 0, false⟩
  else if a.sk = true then Av.with_ { a with ct := a.ct + 1, sk := false } ⟨a.ct, d, 10, 0, 0, 0, 0, false⟩
  else if p.a - a.cr < 0 then Av.with_ { a with ct := a.ct + 1, cr := -(p.a - a.cr) } (Cy.begin_ a.ct d 0 p.a p.g)
  else Av.with_ { a with ct := a.ct + 1, cr := 0 } (Cy.begin_ a.ct d (p.a - a.cr) a.cr p.g)
/-- What is answered by a call that may write behind a list of the caller's own. -/
def Bears (w : World) (b : Nat) (a : Av) (e : Ending) (w' : World) : Prop :=
  ∃ v', e = .returned (.tuple #[.agg (a.arr v'), .int .i64 0]) ∧ Own w' b v' a.l ∧ Below b w w'
theorem pcells {w : World} {b : Nat} {ty : TypeId} {fr : Nat × Nat} {p : Pv} (h : w.heap[b]? = some (.cells p.arr ty fr)) :
    w.cell? ⟨b, 0, none⟩ = some (.int .i64 p.a) ∧ w.cell? ⟨b, 1, none⟩ = some (.int .u8 p.u) ∧ w.cell? ⟨b, 2, none⟩ = some (.int .i64 p.e) ∧ w.cell? ⟨b, 3, none⟩ = some (.int .i64 p.t) ∧ w.cell? ⟨b, 4, none⟩ = some (.bool p.g) ∧ w.cell? ⟨b, 5, none⟩ = some (.bool p.l) := by
  refine ⟨?_, ?_, ?_, ?_, ?_, ?_⟩
  all_goals
    rw [cell_of_row _ _ _ _ _ _ h]
    rfl
set_option maxHeartbeats 4000000 in
theorem begin_pf {w : World} {b : Nat} {v : Value} {a : Av} {p : Pv} {m : Nat} (d : Int) (missed : Bool) (ho : Own w b v a.l) (hb : b ≤ w.heap.size) (hs : a.l.length ≤ 1000000) (hf : a.Fit m) (hm : m ≤ 1000000) (hct : 0 ≤ a.ct ∧ a.ct ≤ 1000000000) (h1 : a.st = 2) (hsk : a.sk = false) :
    Calls Tryz.prog 89 #[.agg (a.arr v), .agg p.arr, .int .i64 d, .bool missed] w (Bears w b (a.born p d missed)) := by
  obtain ⟨A, cap, rfl, hc1, hc2⟩ := ho.form
  have HO := Lib.hid ho
  have HF := Lib.hid hf
  obtain ⟨hct0, hct1⟩ := hct
  have ect : wrap64 (a.ct + 1) = a.ct + 1 := by unfold wrap64; omega
  have hR : a.born p d missed = Av.with_ { a with ct := a.ct + 1, sk := false } ⟨a.ct, d, 10, 0, 0, 0, 0, false⟩ := by unfold Av.born; rw [if_pos (by first | exact .inl h1 | exact .inr h2), ← hsk]
  rw [hR]
  clear hR
  have hst : (a.st == 2) = true := by simpa using h1
  clear h1
  clear ho hf
  go_enter Tryz.func89, Tryz.ntmps89
  go_wp2_with (fail)
  obtain ⟨a1, ha1⟩ : ∃ a1, ({ a with ct := a.ct + 1, sk := false } : Av) = a1 := ⟨_, rfl⟩
  have hl1 : a1.l = a.l := by rw [← ha1]
  have hf1 : a1.Fit m := by rw [← ha1]; exact ⟨HF.out.d0, HF.out.d1, HF.out.n0, HF.out.n1, HF.out.r0, HF.out.r1, HF.out.s0, HF.out.s1, HF.out.c0, HF.out.c1, HF.out.p0, HF.out.p1⟩
  have hP : (((w.alloc (.cells (({ a with ct := a.ct + 1, sk := false } : Av).arr (.slice A a.l.length cap)) 32)).alloc (.cells p.arr 44)).alloc (.cells (Av.zero.arr (.slice none 0 0)) 32)).heap[w.heap.size]? = some (.cells (({ a with ct := a.ct + 1, sk := false } : Av).arr (.slice A a.l.length cap)) 32 (0, 0)) := alloc_old (by simp; omega) (alloc_old (by simp) (alloc_at rfl))
  have hQ : (((w.alloc (.cells (({ a with ct := a.ct + 1, sk := false } : Av).arr (.slice A a.l.length cap)) 32)).alloc (.cells p.arr 44)).alloc (.cells (Av.zero.arr (.slice none 0 0)) 32)).heap[w.heap.size + 1]? = some (.cells p.arr 44 (0, 0)) := alloc_old (by simp) (alloc_at (by simp))
  have hZ : (((w.alloc (.cells (({ a with ct := a.ct + 1, sk := false } : Av).arr (.slice A a.l.length cap)) 32)).alloc (.cells p.arr 44)).alloc (.cells (Av.zero.arr (.slice none 0 0)) 32)).heap[w.heap.size + 1 + 1]? = some (.cells (Av.zero.arr (.slice none 0 0)) 32 (0, 0)) := alloc_at (by simp)
  have hW : Below w.heap.size w (((w.alloc (.cells (({ a with ct := a.ct + 1, sk := false } : Av).arr (.slice A a.l.length cap)) 32)).alloc (.cells p.arr 44)).alloc (.cells (Av.zero.arr (.slice none 0 0)) 32)) := (((Below.refl _ w).alloc (Nat.le_refl _) _).alloc (by simp) _).alloc (by simp; omega) _
  have hO : Own (((w.alloc (.cells (({ a with ct := a.ct + 1, sk := false } : Av).arr (.slice A a.l.length cap)) 32)).alloc (.cells p.arr 44)).alloc (.cells (Av.zero.arr (.slice none 0 0)) 32)) b (.slice A a.l.length cap) a.l := HO.out.alloc.alloc.alloc
  rw [Av.zero_arr] at hP hQ hZ hW hO
  obtain ⟨W0, hW0⟩ : ∃ W0, (((w.alloc (.cells (({ a with ct := a.ct + 1, sk := false } : Av).arr (.slice A a.l.length cap)) 32)).alloc (.cells p.arr 44)).alloc (.cells #[.int .u8 0, .int .i64 0, .int .i64 0, .int .i64 0, .int .i64 0, .int .i64 0, .bool false, .slice none 0 0, .int .i64 0, .int .i64 0, .int .i64 0, .int .i64 0, .int .i64 0] 32)) = W0 := ⟨_, rfl⟩
  rw [hW0] at hP hQ hZ hW hO ⊢
  rw [ha1] at hP
  have hzz : w.heap.size + 1 + 1 < W0.heap.size := (Array.getElem?_eq_some_iff.1 hZ).1
  have HZ := Lib.hid hZ
  have HW := Lib.hid hW
  have HOW := Lib.hid hO
  have HS0 : Hid ((fun w' => w'.heap[w.heap.size]? = some (.cells (a1.arr (.slice A a.l.length cap)) 32 (0, 0))) W0.drew) := hP
  have HL1 := Lib.hid hl1
  have HF1 := Lib.hid hf1
  have HA1 := Lib.hid ha1
  clear hW0 hP hQ hZ hW hO hl1 hf1 ha1
  refine lane_start (ord := [0, 1, 2, 3, 4, 5, 6]) (S := (fun w' => w'.heap[w.heap.size]? = some (.cells (a1.arr (.slice A a.l.length cap)) 32 (0, 0)))) rfl (by kernel_rfl) (by exact HS0.out) (fun _ => ?_)
  refine lane_take (v := .agg (a1.arr (.slice A a.l.length cap))) rfl (by kernel_rfl) (by kernel_rfl) (by rfl) (fun W hSw => exec_load rfl rfl (run_loadAt_row W w.heap.size 32 32 _ (0, 0) _ hSw Tryz.underlying32 rfl info13)) (by exact HS0.out) ?_
  simp only [Act.put, List.setIfInBounds_toArray, List.set_cons_zero, List.set_cons_succ]
  iterate 2 (refine lane_take (v := ?_) rfl (by kernel_rfl) (by kernel_rfl) (by rfl) ?_ (by exact HS0.out) ?_; rotate_left; (focus (intro W hSw; go_simp; try (with_reducible rfl))); simp only [Act.put, List.setIfInBounds_toArray, List.set_cons_zero, List.set_cons_succ])
  refine lane_alone rfl (by kernel_rfl) (by rfl) (fun K hK => ?_)
  go_simp
  refine (cypass_any _ _ _).mono ?_
  rintro e w4 ⟨rfl, hb4⟩
  have hb5 : Below W0.heap.size W0 w4 := (Below.refl _ W0).drew.trans hb4
  have hs5 := hb5.size
  have HS4 : Hid ((fun w' => w'.heap[w.heap.size]? = some (.cells (a1.arr (.slice A a.l.length cap)) 32 (0, 0))) w4) := (hb5.block w.heap.size (by omega)).trans HS0.out
  have HZ4 : Hid (w4.heap[w.heap.size + 1 + 1]? = some (.cells #[.int .u8 0, .int .i64 0, .int .i64 0, .int .i64 0, .int .i64 0, .int .i64 0, .bool false, .slice none 0 0, .int .i64 0, .int .i64 0, .int .i64 0, .int .i64 0, .int .i64 0] 32 (0, 0))) := (hb5.block _ hzz).trans HZ.out
  have HO4 : Hid (Own w4 b (.slice A a.l.length cap) a1.l) := by rw [HL1.out]; exact HOW.out.below hb5
  have HW4 : Hid (Below w.heap.size w w4) := HW.out.trans (hb5.mono (by omega))
  clear hb4 hb5 HZ HOW HW
  refine hK _ _ HS4.out (fun _ => ?_)
  clear hK K
  refine lane_alone rfl (by kernel_rfl) (by rfl) (fun K hK => ?_)
  go_simp
  refine (with_any ⟨a.ct, d, 10, 0, 0, 0, 0, false⟩ HO4.out (by omega) (by rw [HL1.out]; omega) HF1.out hm (by constructor <;> dsimp only <;> omega)).mono ?_
  rintro e w5 ⟨v5, rfl, ho5, hg5, hat5⟩
  obtain ⟨A5, c5, rfl, _, _⟩ := ho5.form
  have hlt : ∀ i, Value.ownBlock (.slice A a.l.length cap) = some i → i < w.heap.size := fun i hi => (HO.out.at_ i hi).2
  have hne : ∀ q, some (w.heap.size + q) ≠ Value.ownBlock (.slice A a.l.length cap) := fun q e => by have := hlt _ e.symm; omega
  have HS5 : Hid ((fun w' => w'.heap[w.heap.size]? = some (.cells (a1.arr (.slice A a.l.length cap)) 32 (0, 0))) w5) := (hg5.block w.heap.size (by omega) (hne 0)).trans HS4.out
  have HZ5 : Hid (w5.heap[w.heap.size + 1 + 1]? = some (.cells #[.int .u8 0, .int .i64 0, .int .i64 0, .int .i64 0, .int .i64 0, .int .i64 0, .bool false, .slice none 0 0, .int .i64 0, .int .i64 0, .int .i64 0, .int .i64 0, .int .i64 0] 32 (0, 0))) := (hg5.block (w.heap.size + 1 + 1) (by omega) (hne 2)).trans HZ4.out
  have HO5 := Lib.hid ho5
  have HW5 : Hid (Below b w w5) := (HW4.out.mono hb).trans (grown_from hg5 (fun i hi => (HO4.out.at_ i hi).1) (by omega))
  have HLT := Lib.hid hlt
  have hs6 := hg5.size
  have HB5 : Hid (∀ i, Value.ownBlock (.slice A5 (a1.with_ ⟨a.ct, d, 10, 0, 0, 0, 0, false⟩).l.length c5) = some i → i ≠ w.heap.size + 1 + 1) := fun i hi => by
    rcases hat5 with h | h
    · have := hlt i (h ▸ hi); omega
    · have := h i hi; omega
  clear ho5 hg5 hlt hne hat5 HS4 HZ4 HO4 HW4
  refine hK _ _ HS5.out (fun _ => ?_)
  clear hK K
  refine lane_alone rfl (by kernel_rfl) (by rfl) (fun K hK => ?_)
  refine wp_store_row _ _ _ rfl (w.heap.size + 1 + 1) _ rfl rfl _ _ HZ5.out (by exact info13) rfl (Av.arr_one rfl) ?_
  rw [row_boxed HZ5.out]
  refine hK _ _ ((boxed_block_other (by omega)).trans HS5.out) (fun _ => ?_)
  clear hK K
  refine lane_alone rfl (by kernel_rfl) (by rfl) (fun K hK => ?_)
  go_simp
  refine hK _ _ ((boxed_block_other (by omega)).trans HS5.out) (fun _ => ?_)
  clear hK K
  refine lane_end (by kernel_rfl) ?_
  go_wp2
  refine bodyPost_ret (results_row_tmp rfl _ _ (w.heap.size + 1 + 1) 32 _ (0, 0) _ rfl (boxed_at (by omega)) Tryz.underlying32 rfl (by exact info13)) rfl ?_
  rw [HA1.out]
  exact ⟨_, rfl, HO5.out.boxed_new HB5.out, boxed_below HW5.out (by omega)⟩
set_option maxHeartbeats 4000000 in
theorem begin_pt {w : World} {b : Nat} {v : Value} {a : Av} {p : Pv} {m : Nat} (d : Int) (missed : Bool) (ho : Own w b v a.l) (hb : b ≤ w.heap.size) (hs : a.l.length ≤ 1000000) (hf : a.Fit m) (hm : m ≤ 1000000) (hct : 0 ≤ a.ct ∧ a.ct ≤ 1000000000) (h1 : a.st = 2) (hsk : a.sk = true) :
    Calls Tryz.prog 89 #[.agg (a.arr v), .agg p.arr, .int .i64 d, .bool missed] w (Bears w b (a.born p d missed)) := by
  obtain ⟨A, cap, rfl, hc1, hc2⟩ := ho.form
  have HO := Lib.hid ho
  have HF := Lib.hid hf
  obtain ⟨hct0, hct1⟩ := hct
  have ect : wrap64 (a.ct + 1) = a.ct + 1 := by unfold wrap64; omega
  have hR : a.born p d missed = Av.with_ { a with ct := a.ct + 1, sk := true } ⟨a.ct, d, 10, 0, 0, 0, 0, false⟩ := by unfold Av.born; rw [if_pos (by first | exact .inl h1 | exact .inr h2), ← hsk]
  rw [hR]
  clear hR
  have hst : (a.st == 2) = true := by simpa using h1
  clear h1
  clear ho hf
  go_enter Tryz.func89, Tryz.ntmps89
  go_wp2_with (fail)
  obtain ⟨a1, ha1⟩ : ∃ a1, ({ a with ct := a.ct + 1, sk := true } : Av) = a1 := ⟨_, rfl⟩
  have hl1 : a1.l = a.l := by rw [← ha1]
  have hf1 : a1.Fit m := by rw [← ha1]; exact ⟨HF.out.d0, HF.out.d1, HF.out.n0, HF.out.n1, HF.out.r0, HF.out.r1, HF.out.s0, HF.out.s1, HF.out.c0, HF.out.c1, HF.out.p0, HF.out.p1⟩
  have hP : (((w.alloc (.cells (({ a with ct := a.ct + 1, sk := true } : Av).arr (.slice A a.l.length cap)) 32)).alloc (.cells p.arr 44)).alloc (.cells (Av.zero.arr (.slice none 0 0)) 32)).heap[w.heap.size]? = some (.cells (({ a with ct := a.ct + 1, sk := true } : Av).arr (.slice A a.l.length cap)) 32 (0, 0)) := alloc_old (by simp; omega) (alloc_old (by simp) (alloc_at rfl))
  have hQ : (((w.alloc (.cells (({ a with ct := a.ct + 1, sk := true } : Av).arr (.slice A a.l.length cap)) 32)).alloc (.cells p.arr 44)).alloc (.cells (Av.zero.arr (.slice none 0 0)) 32)).heap[w.heap.size + 1]? = some (.cells p.arr 44 (0, 0)) := alloc_old (by simp) (alloc_at (by simp))
  have hZ : (((w.alloc (.cells (({ a with ct := a.ct + 1, sk := true } : Av).arr (.slice A a.l.length cap)) 32)).alloc (.cells p.arr 44)).alloc (.cells (Av.zero.arr (.slice none 0 0)) 32)).heap[w.heap.size + 1 + 1]? = some (.cells (Av.zero.arr (.slice none 0 0)) 32 (0, 0)) := alloc_at (by simp)
  have hW : Below w.heap.size w (((w.alloc (.cells (({ a with ct := a.ct + 1, sk := true } : Av).arr (.slice A a.l.length cap)) 32)).alloc (.cells p.arr 44)).alloc (.cells (Av.zero.arr (.slice none 0 0)) 32)) := (((Below.refl _ w).alloc (Nat.le_refl _) _).alloc (by simp) _).alloc (by simp; omega) _
  have hO : Own (((w.alloc (.cells (({ a with ct := a.ct + 1, sk := true } : Av).arr (.slice A a.l.length cap)) 32)).alloc (.cells p.arr 44)).alloc (.cells (Av.zero.arr (.slice none 0 0)) 32)) b (.slice A a.l.length cap) a.l := HO.out.alloc.alloc.alloc
  rw [Av.zero_arr] at hP hQ hZ hW hO
  obtain ⟨W0, hW0⟩ : ∃ W0, (((w.alloc (.cells (({ a with ct := a.ct + 1, sk := true } : Av).arr (.slice A a.l.length cap)) 32)).alloc (.cells p.arr 44)).alloc (.cells #[.int .u8 0, .int .i64 0, .int .i64 0, .int .i64 0, .int .i64 0, .int .i64 0, .bool false, .slice none 0 0, .int .i64 0, .int .i64 0, .int .i64 0, .int .i64 0, .int .i64 0] 32)) = W0 := ⟨_, rfl⟩
  rw [hW0] at hP hQ hZ hW hO ⊢
  rw [ha1] at hP
  have hzz : w.heap.size + 1 + 1 < W0.heap.size := (Array.getElem?_eq_some_iff.1 hZ).1
  have HZ := Lib.hid hZ
  have HW := Lib.hid hW
  have HOW := Lib.hid hO
  have HS0 : Hid ((fun w' => w'.heap[w.heap.size]? = some (.cells (a1.arr (.slice A a.l.length cap)) 32 (0, 0))) W0.drew) := hP
  have HL1 := Lib.hid hl1
  have HF1 := Lib.hid hf1
  have HA1 := Lib.hid ha1
  clear hW0 hP hQ hZ hW hO hl1 hf1 ha1
  refine lane_start (ord := [0, 1, 2, 3, 4, 5, 6]) (S := (fun w' => w'.heap[w.heap.size]? = some (.cells (a1.arr (.slice A a.l.length cap)) 32 (0, 0)))) rfl (by kernel_rfl) (by exact HS0.out) (fun _ => ?_)
  refine lane_take (v := .agg (a1.arr (.slice A a.l.length cap))) rfl (by kernel_rfl) (by kernel_rfl) (by rfl) (fun W hSw => exec_load rfl rfl (run_loadAt_row W w.heap.size 32 32 _ (0, 0) _ hSw Tryz.underlying32 rfl info13)) (by exact HS0.out) ?_
  simp only [Act.put, List.setIfInBounds_toArray, List.set_cons_zero, List.set_cons_succ]
  iterate 2 (refine lane_take (v := ?_) rfl (by kernel_rfl) (by kernel_rfl) (by rfl) ?_ (by exact HS0.out) ?_; rotate_left; (focus (intro W hSw; go_simp; try (with_reducible rfl))); simp only [Act.put, List.setIfInBounds_toArray, List.set_cons_zero, List.set_cons_succ])
  refine lane_alone rfl (by kernel_rfl) (by rfl) (fun K hK => ?_)
  go_simp
  refine (cypass_any _ _ _).mono ?_
  rintro e w4 ⟨rfl, hb4⟩
  have hb5 : Below W0.heap.size W0 w4 := (Below.refl _ W0).drew.trans hb4
  have hs5 := hb5.size
  have HS4 : Hid ((fun w' => w'.heap[w.heap.size]? = some (.cells (a1.arr (.slice A a.l.length cap)) 32 (0, 0))) w4) := (hb5.block w.heap.size (by omega)).trans HS0.out
  have HZ4 : Hid (w4.heap[w.heap.size + 1 + 1]? = some (.cells #[.int .u8 0, .int .i64 0, .int .i64 0, .int .i64 0, .int .i64 0, .int .i64 0, .bool false, .slice none 0 0, .int .i64 0, .int .i64 0, .int .i64 0, .int .i64 0, .int .i64 0] 32 (0, 0))) := (hb5.block _ hzz).trans HZ.out
  have HO4 : Hid (Own w4 b (.slice A a.l.length cap) a1.l) := by rw [HL1.out]; exact HOW.out.below hb5
  have HW4 : Hid (Below w.heap.size w w4) := HW.out.trans (hb5.mono (by omega))
  clear hb4 hb5 HZ HOW HW
  refine hK _ _ HS4.out (fun _ => ?_)
  clear hK K
  refine lane_alone rfl (by kernel_rfl) (by rfl) (fun K hK => ?_)
  go_simp
  refine (with_any ⟨a.ct, d, 10, 0, 0, 0, 0, false⟩ HO4.out (by omega) (by rw [HL1.out]; omega) HF1.out hm (by constructor <;> dsimp only <;> omega)).mono ?_
  rintro e w5 ⟨v5, rfl, ho5, hg5, hat5⟩
  obtain ⟨A5, c5, rfl, _, _⟩ := ho5.form
  have hlt : ∀ i, Value.ownBlock (.slice A a.l.length cap) = some i → i < w.heap.size := fun i hi => (HO.out.at_ i hi).2
  have hne : ∀ q, some (w.heap.size + q) ≠ Value.ownBlock (.slice A a.l.length cap) := fun q e => by have := hlt _ e.symm; omega
  have HS5 : Hid ((fun w' => w'.heap[w.heap.size]? = some (.cells (a1.arr (.slice A a.l.length cap)) 32 (0, 0))) w5) := (hg5.block w.heap.size (by omega) (hne 0)).trans HS4.out
  have HZ5 : Hid (w5.heap[w.heap.size + 1 + 1]? = some (.cells #[.int .u8 0, .int .i64 0, .int .i64 0, .int .i64 0, .int .i64 0, .int .i64 0, .bool false, .slice none 0 0, .int .i64 0, .int .i64 0, .int .i64 0, .int .i64 0, .int .i64 0] 32 (0, 0))) := (hg5.block (w.heap.size + 1 + 1) (by omega) (hne 2)).trans HZ4.out
  have HO5 := Lib.hid ho5
  have HW5 : Hid (Below b w w5) := (HW4.out.mono hb).trans (grown_from hg5 (fun i hi => (HO4.out.at_ i hi).1) (by omega))
  have HLT := Lib.hid hlt
  have hs6 := hg5.size
  have HB5 : Hid (∀ i, Value.ownBlock (.slice A5 (a1.with_ ⟨a.ct, d, 10, 0, 0, 0, 0, false⟩).l.length c5) = some i → i ≠ w.heap.size + 1 + 1) := fun i hi => by
    rcases hat5 with h | h
    · have := hlt i (h ▸ hi); omega
    · have := h i hi; omega
  clear ho5 hg5 hlt hne hat5 HS4 HZ4 HO4 HW4
  refine hK _ _ HS5.out (fun _ => ?_)
  clear hK K
  refine lane_alone rfl (by kernel_rfl) (by rfl) (fun K hK => ?_)
  refine wp_store_row _ _ _ rfl (w.heap.size + 1 + 1) _ rfl rfl _ _ HZ5.out (by exact info13) rfl (Av.arr_one rfl) ?_
  rw [row_boxed HZ5.out]
  refine hK _ _ ((boxed_block_other (by omega)).trans HS5.out) (fun _ => ?_)
  clear hK K
  refine lane_alone rfl (by kernel_rfl) (by rfl) (fun K hK => ?_)
  go_simp
  refine hK _ _ ((boxed_block_other (by omega)).trans HS5.out) (fun _ => ?_)
  clear hK K
  refine lane_end (by kernel_rfl) ?_
  go_wp2
  refine bodyPost_ret (results_row_tmp rfl _ _ (w.heap.size + 1 + 1) 32 _ (0, 0) _ rfl (boxed_at (by omega)) Tryz.underlying32 rfl (by exact info13)) rfl ?_
  rw [HA1.out]
  exact ⟨_, rfl, HO5.out.boxed_new HB5.out, boxed_below HW5.out (by omega)⟩
set_option maxHeartbeats 4000000 in
theorem begin_mf {w : World} {b : Nat} {v : Value} {a : Av} {p : Pv} {m : Nat} (d : Int) (missed : Bool) (ho : Own w b v a.l) (hb : b ≤ w.heap.size) (hs : a.l.length ≤ 1000000) (hf : a.Fit m) (hm : m ≤ 1000000) (hct : 0 ≤ a.ct ∧ a.ct ≤ 1000000000) (h1 : a.st ≠ 2) (h2 : missed = true) (hsk : a.sk = false) :
    Calls Tryz.prog 89 #[.agg (a.arr v), .agg p.arr, .int .i64 d, .bool missed] w (Bears w b (a.born p d missed)) := by
  obtain ⟨A, cap, rfl, hc1, hc2⟩ := ho.form
  have HO := Lib.hid ho
  have HF := Lib.hid hf
  obtain ⟨hct0, hct1⟩ := hct
  have ect : wrap64 (a.ct + 1) = a.ct + 1 := by unfold wrap64; omega
  have hR : a.born p d missed = Av.with_ { a with ct := a.ct + 1, sk := false } ⟨a.ct, d, 10, 0, 0, 0, 0, false⟩ := by unfold Av.born; rw [if_pos (by first | exact .inl h1 | exact .inr h2), ← hsk]
  rw [hR]
  clear hR
  have hst : (a.st == 2) = false := by simpa using h1
  clear h1
  subst h2
  clear ho hf
  go_enter Tryz.func89, Tryz.ntmps89
  go_wp2_with (fail)
  obtain ⟨a1, ha1⟩ : ∃ a1, ({ a with ct := a.ct + 1, sk := false } : Av) = a1 := ⟨_, rfl⟩
  have hl1 : a1.l = a.l := by rw [← ha1]
  have hf1 : a1.Fit m := by rw [← ha1]; exact ⟨HF.out.d0, HF.out.d1, HF.out.n0, HF.out.n1, HF.out.r0, HF.out.r1, HF.out.s0, HF.out.s1, HF.out.c0, HF.out.c1, HF.out.p0, HF.out.p1⟩
  have hP : (((w.alloc (.cells (({ a with ct := a.ct + 1, sk := false } : Av).arr (.slice A a.l.length cap)) 32)).alloc (.cells p.arr 44)).alloc (.cells (Av.zero.arr (.slice none 0 0)) 32)).heap[w.heap.size]? = some (.cells (({ a with ct := a.ct + 1, sk := false } : Av).arr (.slice A a.l.length cap)) 32 (0, 0)) := alloc_old (by simp; omega) (alloc_old (by simp) (alloc_at rfl))
  have hQ : (((w.alloc (.cells (({ a with ct := a.ct + 1, sk := false } : Av).arr (.slice A a.l.length cap)) 32)).alloc (.cells p.arr 44)).alloc (.cells (Av.zero.arr (.slice none 0 0)) 32)).heap[w.heap.size + 1]? = some (.cells p.arr 44 (0, 0)) := alloc_old (by simp) (alloc_at (by simp))
  have hZ : (((w.alloc (.cells (({ a with ct := a.ct + 1, sk := false } : Av).arr (.slice A a.l.length cap)) 32)).alloc (.cells p.arr 44)).alloc (.cells (Av.zero.arr (.slice none 0 0)) 32)).heap[w.heap.size + 1 + 1]? = some (.cells (Av.zero.arr (.slice none 0 0)) 32 (0, 0)) := alloc_at (by simp)
  have hW : Below w.heap.size w (((w.alloc (.cells (({ a with ct := a.ct + 1, sk := false } : Av).arr (.slice A a.l.length cap)) 32)).alloc (.cells p.arr 44)).alloc (.cells (Av.zero.arr (.slice none 0 0)) 32)) := (((Below.refl _ w).alloc (Nat.le_refl _) _).alloc (by simp) _).alloc (by simp; omega) _
  have hO : Own (((w.alloc (.cells (({ a with ct := a.ct + 1, sk := false } : Av).arr (.slice A a.l.length cap)) 32)).alloc (.cells p.arr 44)).alloc (.cells (Av.zero.arr (.slice none 0 0)) 32)) b (.slice A a.l.length cap) a.l := HO.out.alloc.alloc.alloc
  rw [Av.zero_arr] at hP hQ hZ hW hO
  obtain ⟨W0, hW0⟩ : ∃ W0, (((w.alloc (.cells (({ a with ct := a.ct + 1, sk := false } : Av).arr (.slice A a.l.length cap)) 32)).alloc (.cells p.arr 44)).alloc (.cells #[.int .u8 0, .int .i64 0, .int .i64 0, .int .i64 0, .int .i64 0, .int .i64 0, .bool false, .slice none 0 0, .int .i64 0, .int .i64 0, .int .i64 0, .int .i64 0, .int .i64 0] 32)) = W0 := ⟨_, rfl⟩
  rw [hW0] at hP hQ hZ hW hO ⊢
  rw [ha1] at hP
  have hzz : w.heap.size + 1 + 1 < W0.heap.size := (Array.getElem?_eq_some_iff.1 hZ).1
  have HZ := Lib.hid hZ
  have HW := Lib.hid hW
  have HOW := Lib.hid hO
  have HS0 : Hid ((fun w' => w'.heap[w.heap.size]? = some (.cells (a1.arr (.slice A a.l.length cap)) 32 (0, 0))) W0.drew) := hP
  have HL1 := Lib.hid hl1
  have HF1 := Lib.hid hf1
  have HA1 := Lib.hid ha1
  clear hW0 hP hQ hZ hW hO hl1 hf1 ha1
  refine lane_start (ord := [0, 1, 2, 3, 4, 5, 6]) (S := (fun w' => w'.heap[w.heap.size]? = some (.cells (a1.arr (.slice A a.l.length cap)) 32 (0, 0)))) rfl (by kernel_rfl) (by exact HS0.out) (fun _ => ?_)
  refine lane_take (v := .agg (a1.arr (.slice A a.l.length cap))) rfl (by kernel_rfl) (by kernel_rfl) (by rfl) (fun W hSw => exec_load rfl rfl (run_loadAt_row W w.heap.size 32 32 _ (0, 0) _ hSw Tryz.underlying32 rfl info13)) (by exact HS0.out) ?_
  simp only [Act.put, List.setIfInBounds_toArray, List.set_cons_zero, List.set_cons_succ]
  iterate 2 (refine lane_take (v := ?_) rfl (by kernel_rfl) (by kernel_rfl) (by rfl) ?_ (by exact HS0.out) ?_; rotate_left; (focus (intro W hSw; go_simp; try (with_reducible rfl))); simp only [Act.put, List.setIfInBounds_toArray, List.set_cons_zero, List.set_cons_succ])
  refine lane_alone rfl (by kernel_rfl) (by rfl) (fun K hK => ?_)
  go_simp
  refine (cypass_any _ _ _).mono ?_
  rintro e w4 ⟨rfl, hb4⟩
  have hb5 : Below W0.heap.size W0 w4 := (Below.refl _ W0).drew.trans hb4
  have hs5 := hb5.size
  have HS4 : Hid ((fun w' => w'.heap[w.heap.size]? = some (.cells (a1.arr (.slice A a.l.length cap)) 32 (0, 0))) w4) := (hb5.block w.heap.size (by omega)).trans HS0.out
  have HZ4 : Hid (w4.heap[w.heap.size + 1 + 1]? = some (.cells #[.int .u8 0, .int .i64 0, .int .i64 0, .int .i64 0, .int .i64 0, .int .i64 0, .bool false, .slice none 0 0, .int .i64 0, .int .i64 0, .int .i64 0, .int .i64 0, .int .i64 0] 32 (0, 0))) := (hb5.block _ hzz).trans HZ.out
  have HO4 : Hid (Own w4 b (.slice A a.l.length cap) a1.l) := by rw [HL1.out]; exact HOW.out.below hb5
  have HW4 : Hid (Below w.heap.size w w4) := HW.out.trans (hb5.mono (by omega))
  clear hb4 hb5 HZ HOW HW
  refine hK _ _ HS4.out (fun _ => ?_)
  clear hK K
  refine lane_alone rfl (by kernel_rfl) (by rfl) (fun K hK => ?_)
  go_simp
  refine (with_any ⟨a.ct, d, 10, 0, 0, 0, 0, false⟩ HO4.out (by omega) (by rw [HL1.out]; omega) HF1.out hm (by constructor <;> dsimp only <;> omega)).mono ?_
  rintro e w5 ⟨v5, rfl, ho5, hg5, hat5⟩
  obtain ⟨A5, c5, rfl, _, _⟩ := ho5.form
  have hlt : ∀ i, Value.ownBlock (.slice A a.l.length cap) = some i → i < w.heap.size := fun i hi => (HO.out.at_ i hi).2
  have hne : ∀ q, some (w.heap.size + q) ≠ Value.ownBlock (.slice A a.l.length cap) := fun q e => by have := hlt _ e.symm; omega
  have HS5 : Hid ((fun w' => w'.heap[w.heap.size]? = some (.cells (a1.arr (.slice A a.l.length cap)) 32 (0, 0))) w5) := (hg5.block w.heap.size (by omega) (hne 0)).trans HS4.out
  have HZ5 : Hid (w5.heap[w.heap.size + 1 + 1]? = some (.cells #[.int .u8 0, .int .i64 0, .int .i64 0, .int .i64 0, .int .i64 0, .int .i64 0, .bool false, .slice none 0 0, .int .i64 0, .int .i64 0, .int .i64 0, .int .i64 0, .int .i64 0] 32 (0, 0))) := (hg5.block (w.heap.size + 1 + 1) (by omega) (hne 2)).trans HZ4.out
  have HO5 := Lib.hid ho5
  have HW5 : Hid (Below b w w5) := (HW4.out.mono hb).trans (grown_from hg5 (fun i hi => (HO4.out.at_ i hi).1) (by omega))
  have HLT := Lib.hid hlt
  have hs6 := hg5.size
  have HB5 : Hid (∀ i, Value.ownBlock (.slice A5 (a1.with_ ⟨a.ct, d, 10, 0, 0, 0, 0, false⟩).l.length c5) = some i → i ≠ w.heap.size + 1 + 1) := fun i hi => by
    rcases hat5 with h | h
    · have := hlt i (h ▸ hi); omega
    · have := h i hi; omega
  clear ho5 hg5 hlt hne hat5 HS4 HZ4 HO4 HW4
  refine hK _ _ HS5.out (fun _ => ?_)
  clear hK K
  refine lane_alone rfl (by kernel_rfl) (by rfl) (fun K hK => ?_)
  refine wp_store_row _ _ _ rfl (w.heap.size + 1 + 1) _ rfl rfl _ _ HZ5.out (by exact info13) rfl (Av.arr_one rfl) ?_
  rw [row_boxed HZ5.out]
  refine hK _ _ ((boxed_block_other (by omega)).trans HS5.out) (fun _ => ?_)
  clear hK K
  refine lane_alone rfl (by kernel_rfl) (by rfl) (fun K hK => ?_)
  go_simp
  refine hK _ _ ((boxed_block_other (by omega)).trans HS5.out) (fun _ => ?_)
  clear hK K
  refine lane_end (by kernel_rfl) ?_
  go_wp2
  refine bodyPost_ret (results_row_tmp rfl _ _ (w.heap.size + 1 + 1) 32 _ (0, 0) _ rfl (boxed_at (by omega)) Tryz.underlying32 rfl (by exact info13)) rfl ?_
  rw [HA1.out]
  exact ⟨_, rfl, HO5.out.boxed_new HB5.out, boxed_below HW5.out (by omega)⟩
set_option maxHeartbeats 4000000 in
theorem begin_mt {w : World} {b : Nat} {v : Value} {a : Av} {p : Pv} {m : Nat} (d : Int) (missed : Bool) (ho : Own w b v a.l) (hb : b ≤ w.heap.size) (hs : a.l.length ≤ 1000000) (hf : a.Fit m) (hm : m ≤ 1000000) (hct : 0 ≤ a.ct ∧ a.ct ≤ 1000000000) (h1 : a.st ≠ 2) (h2 : missed = true) (hsk : a.sk = true) :
    Calls Tryz.prog 89 #[.agg (a.arr v), .agg p.arr, .int .i64 d, .bool missed] w (Bears w b (a.born p d missed)) := by
  obtain ⟨A, cap, rfl, hc1, hc2⟩ := ho.form
  have HO := Lib.hid ho
  have HF := Lib.hid hf
  obtain ⟨hct0, hct1⟩ := hct
  have ect : wrap64 (a.ct + 1) = a.ct + 1 := by unfold wrap64; omega
  have hR : a.born p d missed = Av.with_ { a with ct := a.ct + 1, sk := true } ⟨a.ct, d, 10, 0, 0, 0, 0, false⟩ := by unfold Av.born; rw [if_pos (by first | exact .inl h1 | exact .inr h2), ← hsk]
  rw [hR]
  clear hR
  have hst : (a.st == 2) = false := by simpa using h1
  clear h1
  subst h2
  clear ho hf
  go_enter Tryz.func89, Tryz.ntmps89
  go_wp2_with (fail)
  obtain ⟨a1, ha1⟩ : ∃ a1, ({ a with ct := a.ct + 1, sk := true } : Av) = a1 := ⟨_, rfl⟩
  have hl1 : a1.l = a.l := by rw [← ha1]
  have hf1 : a1.Fit m := by rw [← ha1]; exact ⟨HF.out.d0, HF.out.d1, HF.out.n0, HF.out.n1, HF.out.r0, HF.out.r1, HF.out.s0, HF.out.s1, HF.out.c0, HF.out.c1, HF.out.p0, HF.out.p1⟩
  have hP : (((w.alloc (.cells (({ a with ct := a.ct + 1, sk := true } : Av).arr (.slice A a.l.length cap)) 32)).alloc (.cells p.arr 44)).alloc (.cells (Av.zero.arr (.slice none 0 0)) 32)).heap[w.heap.size]? = some (.cells (({ a with ct := a.ct + 1, sk := true } : Av).arr (.slice A a.l.length cap)) 32 (0, 0)) := alloc_old (by simp; omega) (alloc_old (by simp) (alloc_at rfl))
  have hQ : (((w.alloc (.cells (({ a with ct := a.ct + 1, sk := true } : Av).arr (.slice A a.l.length cap)) 32)).alloc (.cells p.arr 44)).alloc (.cells (Av.zero.arr (.slice none 0 0)) 32)).heap[w.heap.size + 1]? = some (.cells p.arr 44 (0, 0)) := alloc_old (by simp) (alloc_at (by simp))
  have hZ : (((w.alloc (.cells (({ a with ct := a.ct + 1, sk := true } : Av).arr (.slice A a.l.length cap)) 32)).alloc (.cells p.arr 44)).alloc (.cells (Av.zero.arr (.slice none 0 0)) 32)).heap[w.heap.size + 1 + 1]? = some (.cells (Av.zero.arr (.slice none 0 0)) 32 (0, 0)) := alloc_at (by simp)
  have hW : Below w.heap.size w (((w.alloc (.cells (({ a with ct := a.ct + 1, sk := true } : Av).arr (.slice A a.l.length cap)) 32)).alloc (.cells p.arr 44)).alloc (.cells (Av.zero.arr (.slice none 0 0)) 32)) := (((Below.refl _ w).alloc (Nat.le_refl _) _).alloc (by simp) _).alloc (by simp; omega) _
  have hO : Own (((w.alloc (.cells (({ a with ct := a.ct + 1, sk := true } : Av).arr (.slice A a.l.length cap)) 32)).alloc (.cells p.arr 44)).alloc (.cells (Av.zero.arr (.slice none 0 0)) 32)) b (.slice A a.l.length cap) a.l := HO.out.alloc.alloc.alloc
  rw [Av.zero_arr] at hP hQ hZ hW hO
  obtain ⟨W0, hW0⟩ : ∃ W0, (((w.alloc (.cells (({ a with ct := a.ct + 1, sk := true } : Av).arr (.slice A a.l.length cap)) 32)).alloc (.cells p.arr 44)).alloc (.cells #[.int .u8 0, .int .i64 0, .int .i64 0, .int .i64 0, .int .i64 0, .int .i64 0, .bool false, .slice none 0 0, .int .i64 0, .int .i64 0, .int .i64 0, .int .i64 0, .int .i64 0] 32)) = W0 := ⟨_, rfl⟩
  rw [hW0] at hP hQ hZ hW hO ⊢
  rw [ha1] at hP
  have hzz : w.heap.size + 1 + 1 < W0.heap.size := (Array.getElem?_eq_some_iff.1 hZ).1
  have HZ := Lib.hid hZ
  have HW := Lib.hid hW
  have HOW := Lib.hid hO
  have HS0 : Hid ((fun w' => w'.heap[w.heap.size]? = some (.cells (a1.arr (.slice A a.l.length cap)) 32 (0, 0))) W0.drew) := hP
  have HL1 := Lib.hid hl1
  have HF1 := Lib.hid hf1
  have HA1 := Lib.hid ha1
  clear hW0 hP hQ hZ hW hO hl1 hf1 ha1
  refine lane_start (ord := [0, 1, 2, 3, 4, 5, 6]) (S := (fun w' => w'.heap[w.heap.size]? = some (.cells (a1.arr (.slice A a.l.length cap)) 32 (0, 0)))) rfl (by kernel_rfl) (by exact HS0.out) (fun _ => ?_)
  refine lane_take (v := .agg (a1.arr (.slice A a.l.length cap))) rfl (by kernel_rfl) (by kernel_rfl) (by rfl) (fun W hSw => exec_load rfl rfl (run_loadAt_row W w.heap.size 32 32 _ (0, 0) _ hSw Tryz.underlying32 rfl info13)) (by exact HS0.out) ?_
  simp only [Act.put, List.setIfInBounds_toArray, List.set_cons_zero, List.set_cons_succ]
  iterate 2 (refine lane_take (v := ?_) rfl (by kernel_rfl) (by kernel_rfl) (by rfl) ?_ (by exact HS0.out) ?_; rotate_left; (focus (intro W hSw; go_simp; try (with_reducible rfl))); simp only [Act.put, List.setIfInBounds_toArray, List.set_cons_zero, List.set_cons_succ])
  refine lane_alone rfl (by kernel_rfl) (by rfl) (fun K hK => ?_)
  go_simp
  refine (cypass_any _ _ _).mono ?_
  rintro e w4 ⟨rfl, hb4⟩
  have hb5 : Below W0.heap.size W0 w4 := (Below.refl _ W0).drew.trans hb4
  have hs5 := hb5.size
  have HS4 : Hid ((fun w' => w'.heap[w.heap.size]? = some (.cells (a1.arr (.slice A a.l.length cap)) 32 (0, 0))) w4) := (hb5.block w.heap.size (by omega)).trans HS0.out
  have HZ4 : Hid (w4.heap[w.heap.size + 1 + 1]? = some (.cells #[.int .u8 0, .int .i64 0, .int .i64 0, .int .i64 0, .int .i64 0, .int .i64 0, .bool false, .slice none 0 0, .int .i64 0, .int .i64 0, .int .i64 0, .int .i64 0, .int .i64 0] 32 (0, 0))) := (hb5.block _ hzz).trans HZ.out
  have HO4 : Hid (Own w4 b (.slice A a.l.length cap) a1.l) := by rw [HL1.out]; exact HOW.out.below hb5
  have HW4 : Hid (Below w.heap.size w w4) := HW.out.trans (hb5.mono (by omega))
  clear hb4 hb5 HZ HOW HW
  refine hK _ _ HS4.out (fun _ => ?_)
  clear hK K
  refine lane_alone rfl (by kernel_rfl) (by rfl) (fun K hK => ?_)
  go_simp
  refine (with_any ⟨a.ct, d, 10, 0, 0, 0, 0, false⟩ HO4.out (by omega) (by rw [HL1.out]; omega) HF1.out hm (by constructor <;> dsimp only <;> omega)).mono ?_
  rintro e w5 ⟨v5, rfl, ho5, hg5, hat5⟩
  obtain ⟨A5, c5, rfl, _, _⟩ := ho5.form
  have hlt : ∀ i, Value.ownBlock (.slice A a.l.length cap) = some i → i < w.heap.size := fun i hi => (HO.out.at_ i hi).2
  have hne : ∀ q, some (w.heap.size + q) ≠ Value.ownBlock (.slice A a.l.length cap) := fun q e => by have := hlt _ e.symm; omega
  have HS5 : Hid ((fun w' => w'.heap[w.heap.size]? = some (.cells (a1.arr (.slice A a.l.length cap)) 32 (0, 0))) w5) := (hg5.block w.heap.size (by omega) (hne 0)).trans HS4.out
  have HZ5 : Hid (w5.heap[w.heap.size + 1 + 1]? = some (.cells #[.int .u8 0, .int .i64 0, .int .i64 0, .int .i64 0, .int .i64 0, .int .i64 0, .bool false, .slice none 0 0, .int .i64 0, .int .i64 0, .int .i64 0, .int .i64 0, .int .i64 0] 32 (0, 0))) := (hg5.block (w.heap.size + 1 + 1) (by omega) (hne 2)).trans HZ4.out
  have HO5 := Lib.hid ho5
  have HW5 : Hid (Below b w w5) := (HW4.out.mono hb).trans (grown_from hg5 (fun i hi => (HO4.out.at_ i hi).1) (by omega))
  have HLT := Lib.hid hlt
  have hs6 := hg5.size
  have HB5 : Hid (∀ i, Value.ownBlock (.slice A5 (a1.with_ ⟨a.ct, d, 10, 0, 0, 0, 0, false⟩).l.length c5) = some i → i ≠ w.heap.size + 1 + 1) := fun i hi => by
    rcases hat5 with h | h
    · have := hlt i (h ▸ hi); omega
    · have := h i hi; omega
  clear ho5 hg5 hlt hne hat5 HS4 HZ4 HO4 HW4
  refine hK _ _ HS5.out (fun _ => ?_)
  clear hK K
  refine lane_alone rfl (by kernel_rfl) (by rfl) (fun K hK => ?_)
  refine wp_store_row _ _ _ rfl (w.heap.size + 1 + 1) _ rfl rfl _ _ HZ5.out (by exact info13) rfl (Av.arr_one rfl) ?_
  rw [row_boxed HZ5.out]
  refine hK _ _ ((boxed_block_other (by omega)).trans HS5.out) (fun _ => ?_)
  clear hK K
  refine lane_alone rfl (by kernel_rfl) (by rfl) (fun K hK => ?_)
  go_simp
  refine hK _ _ ((boxed_block_other (by omega)).trans HS5.out) (fun _ => ?_)
  clear hK K
  refine lane_end (by kernel_rfl) ?_
  go_wp2
  refine bodyPost_ret (results_row_tmp rfl _ _ (w.heap.size + 1 + 1) 32 _ (0, 0) _ rfl (boxed_at (by omega)) Tryz.underlying32 rfl (by exact info13)) rfl ?_
  rw [HA1.out]
  exact ⟨_, rfl, HO5.out.boxed_new HB5.out, boxed_below HW5.out (by omega)⟩
set_option maxHeartbeats 4000000 in
theorem begin_skip {w : World} {b : Nat} {v : Value} {a : Av} {p : Pv} {m : Nat} (d : Int) (missed : Bool) (ho : Own w b v a.l) (hb : b ≤ w.heap.size) (hs : a.l.length ≤ 1000000) (hf : a.Fit m) (hm : m ≤ 1000000) (hct : 0 ≤ a.ct ∧ a.ct ≤ 1000000000) (h1 : a.st ≠ 2) (h2 : missed = false) (hsk : a.sk = true) :
    Calls Tryz.prog 89 #[.agg (a.arr v), .agg p.arr, .int .i64 d, .bool missed] w (Bears w b (a.born p d missed)) := by
  obtain ⟨A, cap, rfl, hc1, hc2⟩ := ho.form
  have HO := Lib.hid ho
  have HF := Lib.hid hf
  obtain ⟨hct0, hct1⟩ := hct
  have ect : wrap64 (a.ct + 1) = a.ct + 1 := by unfold wrap64; omega
  have hR : a.born p d missed = Av.with_ { a with ct := a.ct + 1, sk := false } ⟨a.ct, d, 10, 0, 0, 0, 0, false⟩ := by unfold Av.born; rw [if_neg (by rintro (h | h); exact h1 h; rw [h2] at h; cases h), if_pos hsk]
  rw [hR]
  clear hR
  have hst : (a.st == 2) = false := by simpa using h1
  clear h1
  subst h2
  clear ho hf
  go_enter Tryz.func89, Tryz.ntmps89
  go_wp2_with (fail)
  obtain ⟨a1, ha1⟩ : ∃ a1, ({ a with ct := a.ct + 1, sk := false } : Av) = a1 := ⟨_, rfl⟩
  have hl1 : a1.l = a.l := by rw [← ha1]
  have hf1 : a1.Fit m := by rw [← ha1]; exact ⟨HF.out.d0, HF.out.d1, HF.out.n0, HF.out.n1, HF.out.r0, HF.out.r1, HF.out.s0, HF.out.s1, HF.out.c0, HF.out.c1, HF.out.p0, HF.out.p1⟩
  have hP : (((w.alloc (.cells (({ a with ct := a.ct + 1, sk := false } : Av).arr (.slice A a.l.length cap)) 32)).alloc (.cells p.arr 44)).alloc (.cells (Av.zero.arr (.slice none 0 0)) 32)).heap[w.heap.size]? = some (.cells (({ a with ct := a.ct + 1, sk := false } : Av).arr (.slice A a.l.length cap)) 32 (0, 0)) := alloc_old (by simp; omega) (alloc_old (by simp) (alloc_at rfl))
  have hQ : (((w.alloc (.cells (({ a with ct := a.ct + 1, sk := false } : Av).arr (.slice A a.l.length cap)) 32)).alloc (.cells p.arr 44)).alloc (.cells (Av.zero.arr (.slice none 0 0)) 32)).heap[w.heap.size + 1]? = some (.cells p.arr 44 (0, 0)) := alloc_old (by simp) (alloc_at (by simp))
  have hZ : (((w.alloc (.cells (({ a with ct := a.ct + 1, sk := false } : Av).arr (.slice A a.l.length cap)) 32)).alloc (.cells p.arr 44)).alloc (.cells (Av.zero.arr (.slice none 0 0)) 32)).heap[w.heap.size + 1 + 1]? = some (.cells (Av.zero.arr (.slice none 0 0)) 32 (0, 0)) := alloc_at (by simp)
  have hW : Below w.heap.size w (((w.alloc (.cells (({ a with ct := a.ct + 1, sk := false } : Av).arr (.slice A a.l.length cap)) 32)).alloc (.cells p.arr 44)).alloc (.cells (Av.zero.arr (.slice none 0 0)) 32)) := (((Below.refl _ w).alloc (Nat.le_refl _) _).alloc (by simp) _).alloc (by simp; omega) _
  have hO : Own (((w.alloc (.cells (({ a with ct := a.ct + 1, sk := false } : Av).arr (.slice A a.l.length cap)) 32)).alloc (.cells p.arr 44)).alloc (.cells (Av.zero.arr (.slice none 0 0)) 32)) b (.slice A a.l.length cap) a.l := HO.out.alloc.alloc.alloc
  rw [Av.zero_arr] at hP hQ hZ hW hO
  obtain ⟨W0, hW0⟩ : ∃ W0, (((w.alloc (.cells (({ a with ct := a.ct + 1, sk := false } : Av).arr (.slice A a.l.length cap)) 32)).alloc (.cells p.arr 44)).alloc (.cells #[.int .u8 0, .int .i64 0, .int .i64 0, .int .i64 0, .int .i64 0, .int .i64 0, .bool false, .slice none 0 0, .int .i64 0, .int .i64 0, .int .i64 0, .int .i64 0, .int .i64 0] 32)) = W0 := ⟨_, rfl⟩
  rw [hW0] at hP hQ hZ hW hO ⊢
  rw [ha1] at hP
  have hzz : w.heap.size + 1 + 1 < W0.heap.size := (Array.getElem?_eq_some_iff.1 hZ).1
  have HZ := Lib.hid hZ
  have HW := Lib.hid hW
  have HOW := Lib.hid hO
  have HS0 : Hid ((fun w' => w'.heap[w.heap.size]? = some (.cells (a1.arr (.slice A a.l.length cap)) 32 (0, 0))) W0.drew) := hP
  have HL1 := Lib.hid hl1
  have HF1 := Lib.hid hf1
  have HA1 := Lib.hid ha1
  clear hW0 hP hQ hZ hW hO hl1 hf1 ha1
  refine lane_start (ord := [0, 1, 2, 3, 4, 5, 6]) (S := (fun w' => w'.heap[w.heap.size]? = some (.cells (a1.arr (.slice A a.l.length cap)) 32 (0, 0)))) rfl (by kernel_rfl) (by exact HS0.out) (fun _ => ?_)
  refine lane_take (v := .agg (a1.arr (.slice A a.l.length cap))) rfl (by kernel_rfl) (by kernel_rfl) (by rfl) (fun W hSw => exec_load rfl rfl (run_loadAt_row W w.heap.size 32 32 _ (0, 0) _ hSw Tryz.underlying32 rfl info13)) (by exact HS0.out) ?_
  simp only [Act.put, List.setIfInBounds_toArray, List.set_cons_zero, List.set_cons_succ]
  iterate 2 (refine lane_take (v := ?_) rfl (by kernel_rfl) (by kernel_rfl) (by rfl) ?_ (by exact HS0.out) ?_; rotate_left; (focus (intro W hSw; go_simp; try (with_reducible rfl))); simp only [Act.put, List.setIfInBounds_toArray, List.set_cons_zero, List.set_cons_succ])
  refine lane_alone rfl (by kernel_rfl) (by rfl) (fun K hK => ?_)
  go_simp
  refine (cypass_any _ _ _).mono ?_
  rintro e w4 ⟨rfl, hb4⟩
  have hb5 : Below W0.heap.size W0 w4 := (Below.refl _ W0).drew.trans hb4
  have hs5 := hb5.size
  have HS4 : Hid ((fun w' => w'.heap[w.heap.size]? = some (.cells (a1.arr (.slice A a.l.length cap)) 32 (0, 0))) w4) := (hb5.block w.heap.size (by omega)).trans HS0.out
  have HZ4 : Hid (w4.heap[w.heap.size + 1 + 1]? = some (.cells #[.int .u8 0, .int .i64 0, .int .i64 0, .int .i64 0, .int .i64 0, .int .i64 0, .bool false, .slice none 0 0, .int .i64 0, .int .i64 0, .int .i64 0, .int .i64 0, .int .i64 0] 32 (0, 0))) := (hb5.block _ hzz).trans HZ.out
  have HO4 : Hid (Own w4 b (.slice A a.l.length cap) a1.l) := by rw [HL1.out]; exact HOW.out.below hb5
  have HW4 : Hid (Below w.heap.size w w4) := HW.out.trans (hb5.mono (by omega))
  clear hb4 hb5 HZ HOW HW
  refine hK _ _ HS4.out (fun _ => ?_)
  clear hK K
  refine lane_alone rfl (by kernel_rfl) (by rfl) (fun K hK => ?_)
  go_simp
  refine (with_any ⟨a.ct, d, 10, 0, 0, 0, 0, false⟩ HO4.out (by omega) (by rw [HL1.out]; omega) HF1.out hm (by constructor <;> dsimp only <;> omega)).mono ?_
  rintro e w5 ⟨v5, rfl, ho5, hg5, hat5⟩
  obtain ⟨A5, c5, rfl, _, _⟩ := ho5.form
  have hlt : ∀ i, Value.ownBlock (.slice A a.l.length cap) = some i → i < w.heap.size := fun i hi => (HO.out.at_ i hi).2
  have hne : ∀ q, some (w.heap.size + q) ≠ Value.ownBlock (.slice A a.l.length cap) := fun q e => by have := hlt _ e.symm; omega
  have HS5 : Hid ((fun w' => w'.heap[w.heap.size]? = some (.cells (a1.arr (.slice A a.l.length cap)) 32 (0, 0))) w5) := (hg5.block w.heap.size (by omega) (hne 0)).trans HS4.out
  have HZ5 : Hid (w5.heap[w.heap.size + 1 + 1]? = some (.cells #[.int .u8 0, .int .i64 0, .int .i64 0, .int .i64 0, .int .i64 0, .int .i64 0, .bool false, .slice none 0 0, .int .i64 0, .int .i64 0, .int .i64 0, .int .i64 0, .int .i64 0] 32 (0, 0))) := (hg5.block (w.heap.size + 1 + 1) (by omega) (hne 2)).trans HZ4.out
  have HO5 := Lib.hid ho5
  have HW5 : Hid (Below b w w5) := (HW4.out.mono hb).trans (grown_from hg5 (fun i hi => (HO4.out.at_ i hi).1) (by omega))
  have HLT := Lib.hid hlt
  have hs6 := hg5.size
  have HB5 : Hid (∀ i, Value.ownBlock (.slice A5 (a1.with_ ⟨a.ct, d, 10, 0, 0, 0, 0, false⟩).l.length c5) = some i → i ≠ w.heap.size + 1 + 1) := fun i hi => by
    rcases hat5 with h | h
    · have := hlt i (h ▸ hi); omega
    · have := h i hi; omega
  clear ho5 hg5 hlt hne hat5 HS4 HZ4 HO4 HW4
  refine hK _ _ HS5.out (fun _ => ?_)
  clear hK K
  refine lane_alone rfl (by kernel_rfl) (by rfl) (fun K hK => ?_)
  refine wp_store_row _ _ _ rfl (w.heap.size + 1 + 1) _ rfl rfl _ _ HZ5.out (by exact info13) rfl (Av.arr_one rfl) ?_
  rw [row_boxed HZ5.out]
  refine hK _ _ ((boxed_block_other (by omega)).trans HS5.out) (fun _ => ?_)
  clear hK K
  refine lane_alone rfl (by kernel_rfl) (by rfl) (fun K hK => ?_)
  go_simp
  refine hK _ _ ((boxed_block_other (by omega)).trans HS5.out) (fun _ => ?_)
  clear hK K
  refine lane_end (by kernel_rfl) ?_
  go_wp2
  refine bodyPost_ret (results_row_tmp rfl _ _ (w.heap.size + 1 + 1) 32 _ (0, 0) _ rfl (boxed_at (by omega)) Tryz.underlying32 rfl (by exact info13)) rfl ?_
  rw [HA1.out]
  exact ⟨_, rfl, HO5.out.boxed_new HB5.out, boxed_below HW5.out (by omega)⟩
theorem Cy.begin_fit {n d a u : Int} {g : Bool} (h0 : -1000000000000 ≤ a) (h1 : a ≤ 1000000000000) (h2 : -1000000000000 ≤ u) (h3 : u ≤ 1000000000000) : (Cy.begin_ n d a u g).Fit := by
  unfold Cy.begin_
  split
  · constructor <;> dsimp only <;> omega
  · constructor <;> dsimp only <;> omega
set_option maxHeartbeats 4000000 in
theorem begin_pay {w : World} {b : Nat} {v : Value} {a : Av} {p : Pv} {m : Nat} (d : Int) (missed : Bool) (ho : Own w b v a.l) (hb : b ≤ w.heap.size) (hs : a.l.length ≤ 1000000) (hf : a.Fit m) (hm : m ≤ 1000000) (hct : 0 ≤ a.ct ∧ a.ct ≤ 1000000000) (h1 : a.st ≠ 2) (h2 : missed = false) (hsk : a.sk = false) (hp : 0 ≤ p.a ∧ p.a ≤ 100000000000) (hcr : -100000000000 ≤ a.cr ∧ a.cr ≤ 100000000000) (hlt : ¬ p.a - a.cr < 0) :
    Calls Tryz.prog 89 #[.agg (a.arr v), .agg p.arr, .int .i64 d, .bool missed] w (Bears w b (a.born p d missed)) := by
  obtain ⟨A, cap, rfl, hc1, hc2⟩ := ho.form
  have HO := Lib.hid ho
  have HF := Lib.hid hf
  obtain ⟨hct0, hct1⟩ := hct
  have ect : wrap64 (a.ct + 1) = a.ct + 1 := by unfold wrap64; omega
  obtain ⟨hp0, hp1⟩ := hp
  obtain ⟨hr0, hr1⟩ := hcr
  obtain ⟨cb, hcb⟩ : ∃ cb, Cy.begin_ a.ct d (p.a - a.cr) (a.cr) p.g = cb := ⟨_, rfl⟩
  have hcf : cb.Fit := by rw [← hcb]; exact Cy.begin_fit (by omega) (by omega) (by omega) (by omega)
  have hR : a.born p d missed = Av.with_ { a with ct := a.ct + 1, cr := 0, sk := false } cb := by unfold Av.born; rw [if_neg (by rintro (h | h); exact h1 h; rw [h2] at h; cases h), if_neg (by rw [hsk]; simp), if_neg hlt, hcb, ← hsk]
  rw [hR]
  have HCB := Lib.hid hcb
  have HCF := Lib.hid hcf
  have hm0 := hf.d0
  have hm1 := hf.d1
  clear hR hcb hcf
  obtain ⟨n2, d2, p2, a2, u2, t2, x2, g2⟩ := cb
  have dlt : decide (p.a - a.cr < 0) = false := by simpa using hlt
  have hst : (a.st == 2) = false := by simpa using h1
  clear h1
  subst h2
  clear ho hf
  go_enter Tryz.func89, Tryz.ntmps89
  go_wp2_with (go_at_call 110; refine (less_yes _ _ _ (by omega) (by omega) (by omega)).mono ?_; rintro e w' ⟨rfl, rfl⟩)
  obtain ⟨a1, ha1⟩ : ∃ a1, ({ a with ct := a.ct + 1, cr := 0, sk := false } : Av) = a1 := ⟨_, rfl⟩
  have hl1 : a1.l = a.l := by rw [← ha1]
  have hf1 : a1.Fit m := by rw [← ha1]; exact ⟨HF.out.d0, HF.out.d1, HF.out.n0, HF.out.n1, HF.out.r0, HF.out.r1, HF.out.s0, HF.out.s1, (by have := HF.out.c0; have := HF.out.c1; dsimp only; omega), (by have := HF.out.c0; have := HF.out.c1; dsimp only; omega), HF.out.p0, HF.out.p1⟩
  have hP : (((w.alloc (.cells (({ a with ct := a.ct + 1, cr := 0, sk := false } : Av).arr (.slice A a.l.length cap)) 32)).alloc (.cells p.arr 44)).alloc (.cells (Av.zero.arr (.slice none 0 0)) 32)).heap[w.heap.size]? = some (.cells (({ a with ct := a.ct + 1, cr := 0, sk := false } : Av).arr (.slice A a.l.length cap)) 32 (0, 0)) := alloc_old (by simp; omega) (alloc_old (by simp) (alloc_at rfl))
  have hQ : (((w.alloc (.cells (({ a with ct := a.ct + 1, cr := 0, sk := false } : Av).arr (.slice A a.l.length cap)) 32)).alloc (.cells p.arr 44)).alloc (.cells (Av.zero.arr (.slice none 0 0)) 32)).heap[w.heap.size + 1]? = some (.cells p.arr 44 (0, 0)) := alloc_old (by simp) (alloc_at (by simp))
  have hZ : (((w.alloc (.cells (({ a with ct := a.ct + 1, cr := 0, sk := false } : Av).arr (.slice A a.l.length cap)) 32)).alloc (.cells p.arr 44)).alloc (.cells (Av.zero.arr (.slice none 0 0)) 32)).heap[w.heap.size + 1 + 1]? = some (.cells (Av.zero.arr (.slice none 0 0)) 32 (0, 0)) := alloc_at (by simp)
  have hW : Below w.heap.size w (((w.alloc (.cells (({ a with ct := a.ct + 1, cr := 0, sk := false } : Av).arr (.slice A a.l.length cap)) 32)).alloc (.cells p.arr 44)).alloc (.cells (Av.zero.arr (.slice none 0 0)) 32)) := (((Below.refl _ w).alloc (Nat.le_refl _) _).alloc (by simp) _).alloc (by simp; omega) _
  have hO : Own (((w.alloc (.cells (({ a with ct := a.ct + 1, cr := 0, sk := false } : Av).arr (.slice A a.l.length cap)) 32)).alloc (.cells p.arr 44)).alloc (.cells (Av.zero.arr (.slice none 0 0)) 32)) b (.slice A a.l.length cap) a.l := HO.out.alloc.alloc.alloc
  rw [Av.zero_arr] at hP hQ hZ hW hO
  obtain ⟨W0, hW0⟩ : ∃ W0, (((w.alloc (.cells (({ a with ct := a.ct + 1, cr := 0, sk := false } : Av).arr (.slice A a.l.length cap)) 32)).alloc (.cells p.arr 44)).alloc (.cells #[.int .u8 0, .int .i64 0, .int .i64 0, .int .i64 0, .int .i64 0, .int .i64 0, .bool false, .slice none 0 0, .int .i64 0, .int .i64 0, .int .i64 0, .int .i64 0, .int .i64 0] 32)) = W0 := ⟨_, rfl⟩
  rw [hW0] at hP hQ hZ hW hO ⊢
  rw [ha1] at hP
  have hzz : w.heap.size + 1 + 1 < W0.heap.size := (Array.getElem?_eq_some_iff.1 hZ).1
  have HZ := Lib.hid hZ
  have HW := Lib.hid hW
  have HOW := Lib.hid hO
  have HS0 : Hid ((fun w' => w'.heap[w.heap.size]? = some (.cells (a1.arr (.slice A a.l.length cap)) 32 (0, 0)) ∧ w'.heap[w.heap.size + 1]? = some (.cells p.arr 44 (0, 0))) W0.drew) := ⟨hP, hQ⟩
  have HL1 := Lib.hid hl1
  have HF1 := Lib.hid hf1
  have HA1 := Lib.hid ha1
  clear hW0 hP hQ hZ hW hO hl1 hf1 ha1
  refine lane_start (ord := [0, 1, 2, 3, 4, 5, 6, 7, 8, 9, 10]) (S := (fun w' => w'.heap[w.heap.size]? = some (.cells (a1.arr (.slice A a.l.length cap)) 32 (0, 0)) ∧ w'.heap[w.heap.size + 1]? = some (.cells p.arr 44 (0, 0)))) rfl (by kernel_rfl) (by exact HS0.out) (fun _ => ?_)
  refine lane_take (v := .agg (a1.arr (.slice A a.l.length cap))) rfl (by kernel_rfl) (by kernel_rfl) (by rfl) (fun W hSw => exec_load rfl rfl (run_loadAt_row W w.heap.size 32 32 _ (0, 0) _ hSw.1 Tryz.underlying32 rfl info13)) (by exact HS0.out) ?_
  simp only [Act.put, List.setIfInBounds_toArray, List.set_cons_zero, List.set_cons_succ]
  iterate 6 (refine lane_take (v := ?_) rfl (by kernel_rfl) (by kernel_rfl) (by rfl) ?_ (by exact HS0.out) ?_; rotate_left; (focus (intro W hSw; obtain ⟨q0, q1, q2, q3, q4, q5⟩ := pcells hSw.2; go_simp; try (with_reducible rfl))); simp only [Act.put, List.setIfInBounds_toArray, List.set_cons_zero, List.set_cons_succ])
  refine lane_alone rfl (by kernel_rfl) (by rfl) (fun K hK => ?_)
  go_simp
  refine (cybegin_any _ _ _ _ _ _).mono ?_
  rw [HCB.out]
  dsimp only [Cv.val, Cv.arr]
  rintro e w4 ⟨rfl, hb4⟩
  have hb5 : Below W0.heap.size W0 w4 := (Below.refl _ W0).drew.trans hb4
  have hs5 := hb5.size
  have HS4 : Hid ((fun w' => w'.heap[w.heap.size]? = some (.cells (a1.arr (.slice A a.l.length cap)) 32 (0, 0)) ∧ w'.heap[w.heap.size + 1]? = some (.cells p.arr 44 (0, 0))) w4) := ⟨(hb5.block w.heap.size (by omega)).trans HS0.out.1, (hb5.block (w.heap.size + 1) (by omega)).trans HS0.out.2⟩
  have HZ4 : Hid (w4.heap[w.heap.size + 1 + 1]? = some (.cells #[.int .u8 0, .int .i64 0, .int .i64 0, .int .i64 0, .int .i64 0, .int .i64 0, .bool false, .slice none 0 0, .int .i64 0, .int .i64 0, .int .i64 0, .int .i64 0, .int .i64 0] 32 (0, 0))) := (hb5.block _ hzz).trans HZ.out
  have HO4 : Hid (Own w4 b (.slice A a.l.length cap) a1.l) := by rw [HL1.out]; exact HOW.out.below hb5
  have HW4 : Hid (Below w.heap.size w w4) := HW.out.trans (hb5.mono (by omega))
  clear hb4 hb5 HZ HOW HW
  refine hK _ _ HS4.out (fun _ => ?_)
  clear hK K
  refine lane_alone rfl (by kernel_rfl) (by rfl) (fun K hK => ?_)
  go_simp
  refine (with_any ⟨n2, d2, p2, a2, u2, t2, x2, g2⟩ HO4.out (by omega) (by rw [HL1.out]; omega) HF1.out hm HCF.out).mono ?_
  rintro e w5 ⟨v5, rfl, ho5, hg5, hat5⟩
  obtain ⟨A5, c5, rfl, _, _⟩ := ho5.form
  have hlt : ∀ i, Value.ownBlock (.slice A a.l.length cap) = some i → i < w.heap.size := fun i hi => (HO.out.at_ i hi).2
  have hne : ∀ q, some (w.heap.size + q) ≠ Value.ownBlock (.slice A a.l.length cap) := fun q e => by have := hlt _ e.symm; omega
  have HS5 : Hid ((fun w' => w'.heap[w.heap.size]? = some (.cells (a1.arr (.slice A a.l.length cap)) 32 (0, 0)) ∧ w'.heap[w.heap.size + 1]? = some (.cells p.arr 44 (0, 0))) w5) := ⟨(hg5.block w.heap.size (by omega) (hne 0)).trans HS4.out.1, (hg5.block (w.heap.size + 1) (by omega) (hne 1)).trans HS4.out.2⟩
  have HZ5 : Hid (w5.heap[w.heap.size + 1 + 1]? = some (.cells #[.int .u8 0, .int .i64 0, .int .i64 0, .int .i64 0, .int .i64 0, .int .i64 0, .bool false, .slice none 0 0, .int .i64 0, .int .i64 0, .int .i64 0, .int .i64 0, .int .i64 0] 32 (0, 0))) := (hg5.block (w.heap.size + 1 + 1) (by omega) (hne 2)).trans HZ4.out
  have HO5 := Lib.hid ho5
  have HW5 : Hid (Below b w w5) := (HW4.out.mono hb).trans (grown_from hg5 (fun i hi => (HO4.out.at_ i hi).1) (by omega))
  have HLT := Lib.hid hlt
  have hs6 := hg5.size
  have HB5 : Hid (∀ i, Value.ownBlock (.slice A5 (a1.with_ ⟨n2, d2, p2, a2, u2, t2, x2, g2⟩).l.length c5) = some i → i ≠ w.heap.size + 1 + 1) := fun i hi => by
    rcases hat5 with h | h
    · have := hlt i (h ▸ hi); omega
    · have := h i hi; omega
  clear ho5 hg5 hlt hne hat5 HS4 HZ4 HO4 HW4
  refine hK _ _ HS5.out (fun _ => ?_)
  clear hK K
  refine lane_alone rfl (by kernel_rfl) (by rfl) (fun K hK => ?_)
  refine wp_store_row _ _ _ rfl (w.heap.size + 1 + 1) _ rfl rfl _ _ HZ5.out (by exact info13) rfl (Av.arr_one rfl) ?_
  rw [row_boxed HZ5.out]
  refine hK _ _ ⟨(boxed_block_other (by omega)).trans HS5.out.1, (boxed_block_other (by omega)).trans HS5.out.2⟩ (fun _ => ?_)
  clear hK K
  refine lane_alone rfl (by kernel_rfl) (by rfl) (fun K hK => ?_)
  go_simp
  refine hK _ _ ⟨(boxed_block_other (by omega)).trans HS5.out.1, (boxed_block_other (by omega)).trans HS5.out.2⟩ (fun _ => ?_)
  clear hK K
  refine lane_end (by kernel_rfl) ?_
  go_wp2
  refine bodyPost_ret (results_row_tmp rfl _ _ (w.heap.size + 1 + 1) 32 _ (0, 0) _ rfl (boxed_at (by omega)) Tryz.underlying32 rfl (by exact info13)) rfl ?_
  rw [HA1.out]
  exact ⟨_, rfl, HO5.out.boxed_new HB5.out, boxed_below HW5.out (by omega)⟩
set_option maxHeartbeats 4000000 in
theorem begin_over {w : World} {b : Nat} {v : Value} {a : Av} {p : Pv} {m : Nat} (d : Int) (missed : Bool) (ho : Own w b v a.l) (hb : b ≤ w.heap.size) (hs : a.l.length ≤ 1000000) (hf : a.Fit m) (hm : m ≤ 1000000) (hct : 0 ≤ a.ct ∧ a.ct ≤ 1000000000) (h1 : a.st ≠ 2) (h2 : missed = false) (hsk : a.sk = false) (hp : 0 ≤ p.a ∧ p.a ≤ 100000000000) (hcr : -100000000000 ≤ a.cr ∧ a.cr ≤ 100000000000) (hlt : p.a - a.cr < 0) :
    Calls Tryz.prog 89 #[.agg (a.arr v), .agg p.arr, .int .i64 d, .bool missed] w (Bears w b (a.born p d missed)) := by
  obtain ⟨A, cap, rfl, hc1, hc2⟩ := ho.form
  have HO := Lib.hid ho
  have HF := Lib.hid hf
  obtain ⟨hct0, hct1⟩ := hct
  have ect : wrap64 (a.ct + 1) = a.ct + 1 := by unfold wrap64; omega
  obtain ⟨hp0, hp1⟩ := hp
  obtain ⟨hr0, hr1⟩ := hcr
  obtain ⟨cb, hcb⟩ : ∃ cb, Cy.begin_ a.ct d (0) (p.a) p.g = cb := ⟨_, rfl⟩
  have hcf : cb.Fit := by rw [← hcb]; exact Cy.begin_fit (by omega) (by omega) (by omega) (by omega)
  have hR : a.born p d missed = Av.with_ { a with ct := a.ct + 1, cr := -(p.a - a.cr), sk := false } cb := by unfold Av.born; rw [if_neg (by rintro (h | h); exact h1 h; rw [h2] at h; cases h), if_neg (by rw [hsk]; simp), if_pos hlt, hcb, ← hsk]
  rw [hR]
  have HCB := Lib.hid hcb
  have HCF := Lib.hid hcf
  have hm0 := hf.d0
  have hm1 := hf.d1
  clear hR hcb hcf
  obtain ⟨n2, d2, p2, a2, u2, t2, x2, g2⟩ := cb
  have dlt : decide (p.a - a.cr < 0) = true := by simpa using hlt
  have en1 : wrap64 (-(p.a - a.cr)) = -(p.a - a.cr) := by unfold wrap64; omega

  have hst : (a.st == 2) = false := by simpa using h1
  clear h1
  subst h2
  clear ho hf
  go_enter Tryz.func89, Tryz.ntmps89
  go_wp2_with (go_at_call 110; refine (less_yes _ _ _ (by omega) (by omega) (by omega)).mono ?_; rintro e w' ⟨rfl, rfl⟩)
  go_region
  go_wp2
  obtain ⟨a1, ha1⟩ : ∃ a1, ({ a with ct := a.ct + 1, cr := -(p.a - a.cr), sk := false } : Av) = a1 := ⟨_, rfl⟩
  have hl1 : a1.l = a.l := by rw [← ha1]
  have hf1 : a1.Fit m := by rw [← ha1]; exact ⟨HF.out.d0, HF.out.d1, HF.out.n0, HF.out.n1, HF.out.r0, HF.out.r1, HF.out.s0, HF.out.s1, (by have := HF.out.c0; have := HF.out.c1; dsimp only; omega), (by have := HF.out.c0; have := HF.out.c1; dsimp only; omega), HF.out.p0, HF.out.p1⟩
  have hP : (((w.alloc (.cells (({ a with ct := a.ct + 1, cr := -(p.a - a.cr), sk := false } : Av).arr (.slice A a.l.length cap)) 32)).alloc (.cells p.arr 44)).alloc (.cells (Av.zero.arr (.slice none 0 0)) 32)).heap[w.heap.size]? = some (.cells (({ a with ct := a.ct + 1, cr := -(p.a - a.cr), sk := false } : Av).arr (.slice A a.l.length cap)) 32 (0, 0)) := alloc_old (by simp; omega) (alloc_old (by simp) (alloc_at rfl))
  have hQ : (((w.alloc (.cells (({ a with ct := a.ct + 1, cr := -(p.a - a.cr), sk := false } : Av).arr (.slice A a.l.length cap)) 32)).alloc (.cells p.arr 44)).alloc (.cells (Av.zero.arr (.slice none 0 0)) 32)).heap[w.heap.size + 1]? = some (.cells p.arr 44 (0, 0)) := alloc_old (by simp) (alloc_at (by simp))
  have hZ : (((w.alloc (.cells (({ a with ct := a.ct + 1, cr := -(p.a - a.cr), sk := false } : Av).arr (.slice A a.l.length cap)) 32)).alloc (.cells p.arr 44)).alloc (.cells (Av.zero.arr (.slice none 0 0)) 32)).heap[w.heap.size + 1 + 1]? = some (.cells (Av.zero.arr (.slice none 0 0)) 32 (0, 0)) := alloc_at (by simp)
  have hW : Below w.heap.size w (((w.alloc (.cells (({ a with ct := a.ct + 1, cr := -(p.a - a.cr), sk := false } : Av).arr (.slice A a.l.length cap)) 32)).alloc (.cells p.arr 44)).alloc (.cells (Av.zero.arr (.slice none 0 0)) 32)) := (((Below.refl _ w).alloc (Nat.le_refl _) _).alloc (by simp) _).alloc (by simp; omega) _
  have hO : Own (((w.alloc (.cells (({ a with ct := a.ct + 1, cr := -(p.a - a.cr), sk := false } : Av).arr (.slice A a.l.length cap)) 32)).alloc (.cells p.arr 44)).alloc (.cells (Av.zero.arr (.slice none 0 0)) 32)) b (.slice A a.l.length cap) a.l := HO.out.alloc.alloc.alloc
  rw [Av.zero_arr] at hP hQ hZ hW hO
  have hP := (show (((w.alloc (.cells (({ a with ct := a.ct + 1, cr := -(p.a - a.cr), sk := false } : Av).arr (.slice A a.l.length cap)) 32)).alloc (.cells p.arr 44)).alloc (.cells #[.int .u8 0, .int .i64 0, .int .i64 0, .int .i64 0, .int .i64 0, .int .i64 0, .bool false, .slice none 0 0, .int .i64 0, .int .i64 0, .int .i64 0, .int .i64 0, .int .i64 0] 32)).drew.heap[w.heap.size]? = _ from hP)
  have hQ := (show (((w.alloc (.cells (({ a with ct := a.ct + 1, cr := -(p.a - a.cr), sk := false } : Av).arr (.slice A a.l.length cap)) 32)).alloc (.cells p.arr 44)).alloc (.cells #[.int .u8 0, .int .i64 0, .int .i64 0, .int .i64 0, .int .i64 0, .int .i64 0, .bool false, .slice none 0 0, .int .i64 0, .int .i64 0, .int .i64 0, .int .i64 0, .int .i64 0] 32)).drew.heap[w.heap.size + 1]? = _ from hQ)
  have hZ := (show (((w.alloc (.cells (({ a with ct := a.ct + 1, cr := -(p.a - a.cr), sk := false } : Av).arr (.slice A a.l.length cap)) 32)).alloc (.cells p.arr 44)).alloc (.cells #[.int .u8 0, .int .i64 0, .int .i64 0, .int .i64 0, .int .i64 0, .int .i64 0, .bool false, .slice none 0 0, .int .i64 0, .int .i64 0, .int .i64 0, .int .i64 0, .int .i64 0] 32)).drew.heap[w.heap.size + 1 + 1]? = _ from hZ)
  have hW := hW.drew
  have hO := hO.drew
  obtain ⟨W0, hW0⟩ : ∃ W0, (((w.alloc (.cells (({ a with ct := a.ct + 1, cr := -(p.a - a.cr), sk := false } : Av).arr (.slice A a.l.length cap)) 32)).alloc (.cells p.arr 44)).alloc (.cells #[.int .u8 0, .int .i64 0, .int .i64 0, .int .i64 0, .int .i64 0, .int .i64 0, .bool false, .slice none 0 0, .int .i64 0, .int .i64 0, .int .i64 0, .int .i64 0, .int .i64 0] 32)).drew = W0 := ⟨_, rfl⟩
  rw [hW0] at hP hQ hZ hW hO ⊢
  rw [ha1] at hP
  have hzz : w.heap.size + 1 + 1 < W0.heap.size := (Array.getElem?_eq_some_iff.1 hZ).1
  have HZ := Lib.hid hZ
  have HW := Lib.hid hW
  have HOW := Lib.hid hO
  have HS0 : Hid ((fun w' => w'.heap[w.heap.size]? = some (.cells (a1.arr (.slice A a.l.length cap)) 32 (0, 0)) ∧ w'.heap[w.heap.size + 1]? = some (.cells p.arr 44 (0, 0))) W0.drew) := ⟨hP, hQ⟩
  have HL1 := Lib.hid hl1
  have HF1 := Lib.hid hf1
  have HA1 := Lib.hid ha1
  clear hW0 hP hQ hZ hW hO hl1 hf1 ha1
  refine lane_start (ord := [0, 1, 2, 3, 4, 5, 6, 7, 8, 9, 10]) (S := (fun w' => w'.heap[w.heap.size]? = some (.cells (a1.arr (.slice A a.l.length cap)) 32 (0, 0)) ∧ w'.heap[w.heap.size + 1]? = some (.cells p.arr 44 (0, 0)))) rfl (by kernel_rfl) (by exact HS0.out) (fun _ => ?_)
  refine lane_take (v := .agg (a1.arr (.slice A a.l.length cap))) rfl (by kernel_rfl) (by kernel_rfl) (by rfl) (fun W hSw => exec_load rfl rfl (run_loadAt_row W w.heap.size 32 32 _ (0, 0) _ hSw.1 Tryz.underlying32 rfl info13)) (by exact HS0.out) ?_
  simp only [Act.put, List.setIfInBounds_toArray, List.set_cons_zero, List.set_cons_succ]
  iterate 6 (refine lane_take (v := ?_) rfl (by kernel_rfl) (by kernel_rfl) (by rfl) ?_ (by exact HS0.out) ?_; rotate_left; (focus (intro W hSw; obtain ⟨q0, q1, q2, q3, q4, q5⟩ := pcells hSw.2; go_simp; try (with_reducible rfl))); simp only [Act.put, List.setIfInBounds_toArray, List.set_cons_zero, List.set_cons_succ])
  refine lane_alone rfl (by kernel_rfl) (by rfl) (fun K hK => ?_)
  go_simp
  refine (cybegin_any _ _ _ _ _ _).mono ?_
  rw [HCB.out]
  dsimp only [Cv.val, Cv.arr]
  rintro e w4 ⟨rfl, hb4⟩
  have hb5 : Below W0.heap.size W0 w4 := (Below.refl _ W0).drew.trans hb4
  have hs5 := hb5.size
  have HS4 : Hid ((fun w' => w'.heap[w.heap.size]? = some (.cells (a1.arr (.slice A a.l.length cap)) 32 (0, 0)) ∧ w'.heap[w.heap.size + 1]? = some (.cells p.arr 44 (0, 0))) w4) := ⟨(hb5.block w.heap.size (by omega)).trans HS0.out.1, (hb5.block (w.heap.size + 1) (by omega)).trans HS0.out.2⟩
  have HZ4 : Hid (w4.heap[w.heap.size + 1 + 1]? = some (.cells #[.int .u8 0, .int .i64 0, .int .i64 0, .int .i64 0, .int .i64 0, .int .i64 0, .bool false, .slice none 0 0, .int .i64 0, .int .i64 0, .int .i64 0, .int .i64 0, .int .i64 0] 32 (0, 0))) := (hb5.block _ hzz).trans HZ.out
  have HO4 : Hid (Own w4 b (.slice A a.l.length cap) a1.l) := by rw [HL1.out]; exact HOW.out.below hb5
  have HW4 : Hid (Below w.heap.size w w4) := HW.out.trans (hb5.mono (by omega))
  clear hb4 hb5 HZ HOW HW
  refine hK _ _ HS4.out (fun _ => ?_)
  clear hK K
  refine lane_alone rfl (by kernel_rfl) (by rfl) (fun K hK => ?_)
  go_simp
  refine (with_any ⟨n2, d2, p2, a2, u2, t2, x2, g2⟩ HO4.out (by omega) (by rw [HL1.out]; omega) HF1.out hm HCF.out).mono ?_
  rintro e w5 ⟨v5, rfl, ho5, hg5, hat5⟩
  obtain ⟨A5, c5, rfl, _, _⟩ := ho5.form
  have hlt : ∀ i, Value.ownBlock (.slice A a.l.length cap) = some i → i < w.heap.size := fun i hi => (HO.out.at_ i hi).2
  have hne : ∀ q, some (w.heap.size + q) ≠ Value.ownBlock (.slice A a.l.length cap) := fun q e => by have := hlt _ e.symm; omega
  have HS5 : Hid ((fun w' => w'.heap[w.heap.size]? = some (.cells (a1.arr (.slice A a.l.length cap)) 32 (0, 0)) ∧ w'.heap[w.heap.size + 1]? = some (.cells p.arr 44 (0, 0))) w5) := ⟨(hg5.block w.heap.size (by omega) (hne 0)).trans HS4.out.1, (hg5.block (w.heap.size + 1) (by omega) (hne 1)).trans HS4.out.2⟩
  have HZ5 : Hid (w5.heap[w.heap.size + 1 + 1]? = some (.cells #[.int .u8 0, .int .i64 0, .int .i64 0, .int .i64 0, .int .i64 0, .int .i64 0, .bool false, .slice none 0 0, .int .i64 0, .int .i64 0, .int .i64 0, .int .i64 0, .int .i64 0] 32 (0, 0))) := (hg5.block (w.heap.size + 1 + 1) (by omega) (hne 2)).trans HZ4.out
  have HO5 := Lib.hid ho5
  have HW5 : Hid (Below b w w5) := (HW4.out.mono hb).trans (grown_from hg5 (fun i hi => (HO4.out.at_ i hi).1) (by omega))
  have HLT := Lib.hid hlt
  have hs6 := hg5.size
  have HB5 : Hid (∀ i, Value.ownBlock (.slice A5 (a1.with_ ⟨n2, d2, p2, a2, u2, t2, x2, g2⟩).l.length c5) = some i → i ≠ w.heap.size + 1 + 1) := fun i hi => by
    rcases hat5 with h | h
    · have := hlt i (h ▸ hi); omega
    · have := h i hi; omega
  clear ho5 hg5 hlt hne hat5 HS4 HZ4 HO4 HW4
  refine hK _ _ HS5.out (fun _ => ?_)
  clear hK K
  refine lane_alone rfl (by kernel_rfl) (by rfl) (fun K hK => ?_)
  refine wp_store_row _ _ _ rfl (w.heap.size + 1 + 1) _ rfl rfl _ _ HZ5.out (by exact info13) rfl (Av.arr_one rfl) ?_
  rw [row_boxed HZ5.out]
  refine hK _ _ ⟨(boxed_block_other (by omega)).trans HS5.out.1, (boxed_block_other (by omega)).trans HS5.out.2⟩ (fun _ => ?_)
  clear hK K
  refine lane_alone rfl (by kernel_rfl) (by rfl) (fun K hK => ?_)
  go_simp
  refine hK _ _ ⟨(boxed_block_other (by omega)).trans HS5.out.1, (boxed_block_other (by omega)).trans HS5.out.2⟩ (fun _ => ?_)
  clear hK K
  refine lane_end (by kernel_rfl) ?_
  go_wp2
  refine bodyPost_ret (results_row_tmp rfl _ _ (w.heap.size + 1 + 1) 32 _ (0, 0) _ rfl (boxed_at (by omega)) Tryz.underlying32 rfl (by exact info13)) rfl ?_
  rw [HA1.out]
  exact ⟨_, rfl, HO5.out.boxed_new HB5.out, boxed_below HW5.out (by omega)⟩
/-- Whatever the way. -/
theorem begin_any {w : World} {b : Nat} {v : Value} {a : Av} {p : Pv} {m : Nat} (d : Int) (missed : Bool) (ho : Own w b v a.l) (hb : b ≤ w.heap.size) (hs : a.l.length ≤ 1000000) (hf : a.Fit m) (hm : m ≤ 1000000) (hct : 0 ≤ a.ct ∧ a.ct ≤ 1000000000) (hp : 0 ≤ p.a ∧ p.a ≤ 100000000000) (hcr : -100000000000 ≤ a.cr ∧ a.cr ≤ 100000000000) :
    Calls Tryz.prog 89 #[.agg (a.arr v), .agg p.arr, .int .i64 d, .bool missed] w (Bears w b (a.born p d missed)) := by
  by_cases h1 : a.st = 2
  · cases hsk : a.sk
    · exact begin_pf d missed ho hb hs hf hm hct h1 hsk
    · exact begin_pt d missed ho hb hs hf hm hct h1 hsk
  cases hmi : missed
  · cases hsk : a.sk
    · by_cases hlt : p.a - a.cr < 0
      · exact begin_over d false ho hb hs hf hm hct h1 rfl hsk hp hcr hlt
      · exact begin_pay d false ho hb hs hf hm hct h1 rfl hsk hp hcr hlt
    · exact begin_skip d false ho hb hs hf hm hct h1 rfl hsk
  · cases hsk : a.sk
    · exact begin_mf d true ho hb hs hf hm hct h1 rfl hsk
    · exact begin_mt d true ho hb hs hf hm hct h1 rfl hsk
end Go.Proofs.YtblikgbcakgdnaaGreat
