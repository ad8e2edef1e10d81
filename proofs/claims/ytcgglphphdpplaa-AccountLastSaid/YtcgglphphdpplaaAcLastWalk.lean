/-
  Of periods that are missed the last one alone counts. No conditions.
-/
import Derived.Test.YtcgglphphdpplaaAvFirst
import Derived.Test.YtcgglphphdpplaaAvPlan
import Derived.Test.YtcgglphphdpplaaRow
import Derived.Lib.Hide
namespace Go.Proofs.Ytcgglphphdpplaa
set_option maxRecDepth 20000
open Go.ChangeShapes Go.WideShapes Go.ChangeAt Go.RowKit

theorem acells {w : World} {b : Nat} {ty : TypeId} {fr : Nat × Nat} {a : Av} {v : Value} (h : w.heap[b]? = some (.cells (a.arr v) ty fr)) : w.cell? ⟨b, 0, none⟩ = some (.int .u8 a.st) ∧ w.cell? ⟨b, 1, none⟩ = some (.int .i64 a.pl) ∧ w.cell? ⟨b, 2, none⟩ = some (.int .i64 a.an) ∧ w.cell? ⟨b, 3, none⟩ = some (.int .i64 a.ix) ∧ w.cell? ⟨b, 4, none⟩ = some (.int .i64 a.ct) ∧ w.cell? ⟨b, 5, none⟩ = some (.int .i64 a.cr) ∧ w.cell? ⟨b, 6, none⟩ = some (.bool a.sk) ∧ w.cell? ⟨b, 7, none⟩ = some (v) ∧ w.cell? ⟨b, 8, none⟩ = some (.int .i64 a.dn) ∧ w.cell? ⟨b, 9, none⟩ = some (.int .i64 a.un) ∧ w.cell? ⟨b, 10, none⟩ = some (.int .i64 a.rf) ∧ w.cell? ⟨b, 11, none⟩ = some (.int .i64 a.sp) ∧ w.cell? ⟨b, 12, none⟩ = some (.int .i64 a.pd) := by
  refine ⟨?_, ?_, ?_, ?_, ?_, ?_, ?_, ?_, ?_, ?_, ?_, ?_, ?_⟩
  all_goals
    rw [cell_of_row _ _ _ _ _ _ h]
    rfl
theorem last_pass {N : Int → Int} {p : Pv} {c an : Int} (hl : p.l = true) : ∀ f : Nat, (f : Int) < c → Av.runs N p c f (Av.opened 0 an) = ⟨1, 0, an, f, f, 0, false, [], 0, 0, 0, f, 0⟩ := by
  intro f
  induction f with
  | zero => intro _; rfl
  | succ f ih =>
    intro h
    rw [Av.runs_last, ih (by omega), Av.born_pass (.inr (by rw [hl]; simp [Av.opened]; omega))]
    simp [Av.opened]
theorem last_all {N : Int → Int} {p : Pv} {c an : Int} (hl : p.l = true) (ha : p.a = 500) (hg : p.g = true) (hc : 1 ≤ c) : Av.runs N p c c.toNat (Av.opened 0 an) = ⟨1, 0, an, c, c, 0, false, [⟨c - 1, N (c - 1), 1, 500, 0, 1, 0, true⟩], 0, 0, 0, c - 1, 0⟩ := by
  obtain ⟨f, rfl⟩ : ∃ f : Nat, c = f + 1 := ⟨(c - 1).toNat, by omega⟩
  rw [show ((f : Int) + 1).toNat = f + 1 by omega, Av.runs_last, last_pass hl f (by omega)]
  have e1 : (Av.opened 0 an).ix = 0 := rfl
  rw [e1, show (p.l && decide ((0 : Int) + f + 1 < f + 1)) = false by rw [hl]; simp]
  rw [Av.born_pay (by show (1 : Int) ≠ 2; decide) rfl (by dsimp only; omega)]
  dsimp only
  rw [ha, hg, cbegin_no (by omega)]
  unfold Av.with_
  rw [if_pos (by dsimp only; omega)]
  simp
set_option maxHeartbeats 4000000 in
theorem accountLast_walk (a0 : Int) (w0 : (Lit.int .u8 a0).wf = true) (a1 : Int) (w1 : (Lit.int .u16 a1).wf = true) (a2 : Int) (w2 : (Lit.int .u8 a2).wf = true) (w : World) :
    Calls Try.prog 5 #[.int .u8 a0, .int .u16 a1, .int .u8 a2] w fun e w' => e = .returned (.bool true) ∧ Below w.heap.size w w' := by
  obtain ⟨h00, h01⟩ := wf_u8 w0
  obtain ⟨h10, h11⟩ := wf_u16 w1
  obtain ⟨h20, h21⟩ := wf_u8 w2
  go_enter Try.func5, Try.ntmps5
  go_wp2_with (fail)
  refine (acawake_any _).mono ?_
  rintro e w1 ⟨rfl, hb1⟩
  have HW1 := Lib.hid hb1
  clear hb1
  go_wp2_with (fail)
  refine (plan12_any a0 h00 (by omega) _).mono ?_
  rintro e w2 ⟨rfl, hb2⟩
  have HW2 : Hid (Below w.heap.size w w2) := HW1.out.trans (hb2.mono HW1.out.size)
  clear HW1 hb2
  go_wp2_with (first | ((with_reducible_and_instances (show wpList _ _ _ (Oper.mk _ (Op.load 26 _) _ _ _ _ :: _) _ _)); refine wl_load Try.underlying26 rfl info6p rfl rfl rfl (by (repeat (first | assumption | (with_reducible refine alloc_at ?_; (focus (first | omega | (simp; done) | (simp; omega)))) | (with_reducible refine boxed_at ?_; (focus (first | omega | (simp; done) | (simp; omega)))) | (with_reducible refine alloc_old ?_ ?_; (focus (first | omega | (simp; done) | (simp; omega)))) | (with_reducible refine boxed_old ?_ ?_; (focus (first | omega | (simp; done) | (simp; omega)))) | (with_reducible refine drew_old ?_)))) (by rfl) ?_) | ((with_reducible_and_instances (show wpList _ _ _ (Oper.mk _ (Op.store 26 _ _) _ _ _ _ :: _) _ _)); refine wl_store info6p rfl rfl rfl rfl (by (repeat (first | assumption | (with_reducible refine alloc_at ?_; (focus (first | omega | (simp; done) | (simp; omega)))) | (with_reducible refine boxed_at ?_; (focus (first | omega | (simp; done) | (simp; omega)))) | (with_reducible refine alloc_old ?_ ?_; (focus (first | omega | (simp; done) | (simp; omega)))) | (with_reducible refine boxed_old ?_ ?_; (focus (first | omega | (simp; done) | (simp; omega)))) | (with_reducible refine drew_old ?_)))) (by rfl) (by rfl) (by first | exact Cv.arr_one _ | exact Nv.arr_one _ | exact Av.arr_one rfl | exact Pv.arr_one _ | simp [Value.oneCell']) ?_))
  obtain ⟨hof1, ⟨hof2, hof3⟩, ⟨hof4, hof5⟩, ⟨hof6, hof7⟩⟩ := Pv.of_bd a0
  obtain ⟨P, hP⟩ : ∃ P, (⟨500, (Pv.of a0).u, (Pv.of a0).e, (Pv.of a0).t, true, true⟩ : Pv) = P := ⟨_, rfl⟩
  have hP0 : (0 ≤ P.a ∧ P.a ≤ 2999) ∧ (0 ≤ P.u ∧ P.u ≤ 3) ∧ (1 ≤ P.e ∧ P.e ≤ 3) ∧ (0 ≤ P.t ∧ P.t ≤ 10) := by
    rw [← hP]
    refine ⟨?_, ⟨hof2, hof3⟩, ⟨hof4, hof5⟩, ?_⟩ <;> dsimp only <;> omega
  obtain ⟨F, hF⟩ : ∃ F, 700000 + a1 = F := ⟨_, rfl⟩
  have hF0 : 700000 ≤ F := by omega
  have hF1 : F ≤ 765535 := by omega
  have HPP := Lib.hid hP
  have HP0 := Lib.hid hP0
  have hT : (w2.alloc (.cells P.arr 26)).heap[w2.heap.size]? = some (.cells P.arr 26 (0, 0)) := alloc_at rfl
  have hW0 : Below w.heap.size w (w2.alloc (.cells P.arr 26)) := HW2.out.alloc HW2.out.size _
  have hT0 : w.heap.size ≤ w2.heap.size := HW2.out.size
  have hT1 : w2.heap.size < (w2.alloc (.cells P.arr 26)).heap.size := by simp
  rw [hP, hF]
  clear hP hP0 hof1 hof2 hof3 hof4 hof5 hof6 hof7 HW2
  obtain ⟨T, hTT⟩ : ∃ T, w2.heap.size = T := ⟨_, rfl⟩
  obtain ⟨W0, hWW⟩ : ∃ W0, w2.alloc (.cells P.arr 26) = W0 := ⟨_, rfl⟩
  rw [hWW] at hT hW0 hT1 ⊢
  rw [hTT] at hT hT0 hT1 ⊢
  have HT := Lib.hid hT
  have HW0 := Lib.hid hW0
  have HF := Lib.hid hF
  clear hTT hWW hT hW0 hF
  have hpu := HP0.out.2.1
  have hpe := HP0.out.2.2.1
  have hpt := HP0.out.2.2.2
  obtain ⟨k, d, hAt⟩ := Cal.at_of (F + P.t) (by omega) (by omega)
  obtain ⟨c, hCn⟩ := Cal.cnt_of (u := P.u) (e := P.e) (day := F + a2) hAt hpe.1 (by omega) (by omega)
  have hc0 := hCn.nn
  have hc1 : c ≤ 1000 := by
    by_cases h : 1 ≤ c
    · have := hCn.le hAt hpe.1 h; omega
    · omega
  have HAT := Lib.hid hAt
  have HCN := Lib.hid hCn
  clear hAt hCn
  have WA : Hid (IntKind.i64.wrap a2 = a2) := by show _ = _; rw [IntKind.wrap_i64]; omega
  have WB : Hid (IntKind.i64.wrap (F + a2) = F + a2) := by show _ = _; rw [IntKind.wrap_i64]; omega
  have HS0 : Hid ((fun w' : World => w'.heap[T]? = some (.cells P.arr 26 (0, 0))) W0.drew) := HT.out
  refine lane_start (ord := [0, 1, 3, 4, 5, 6, 7, 2, 8, 9, 10, 11, 12, 13, 14]) (S := (fun w' : World => w'.heap[T]? = some (.cells P.arr 26 (0, 0)))) rfl (by kernel_rfl) (by exact HS0.out) (fun _ => ?_)
  refine lane_take (v := .agg P.arr) rfl (by kernel_rfl) (by kernel_rfl) (by rfl) (fun W hSw => exec_load rfl rfl (run_loadAt_row W T 26 26 _ (0, 0) _ hSw Try.underlying26 rfl info6p)) (by exact HS0.out) ?_
  simp only [Act.put, List.setIfInBounds_toArray, List.set_cons_zero, List.set_cons_succ]
  (refine lane_take (v := ?_) rfl (by kernel_rfl) (by kernel_rfl) (by rfl) ?_ (by exact HS0.out) ?_; rotate_left; (focus (intro W hSw; go_simp; try (with_reducible rfl))); simp only [Act.put, List.setIfInBounds_toArray, List.set_cons_zero, List.set_cons_succ])
  refine lane_take (v := .agg P.arr) rfl (by kernel_rfl) (by kernel_rfl) (by rfl) (fun W hSw => exec_load rfl rfl (run_loadAt_row W T 26 26 _ (0, 0) _ hSw Try.underlying26 rfl info6p)) (by exact HS0.out) ?_
  simp only [Act.put, List.setIfInBounds_toArray, List.set_cons_zero, List.set_cons_succ]
  (refine lane_take (v := ?_) rfl (by kernel_rfl) (by kernel_rfl) (by rfl) ?_ (by exact HS0.out) ?_; rotate_left; (focus (intro W hSw; go_simp; try (with_reducible rfl))); simp only [Act.put, List.setIfInBounds_toArray, List.set_cons_zero, List.set_cons_succ])
  (refine lane_take (v := ?_) rfl (by kernel_rfl) (by kernel_rfl) (by rfl) ?_ (by exact HS0.out) ?_; rotate_left; (focus (intro W hSw; go_simp; try (with_reducible rfl))); simp only [Act.put, List.setIfInBounds_toArray, List.set_cons_zero, List.set_cons_succ])
  (refine lane_take (v := ?_) rfl (by kernel_rfl) (by kernel_rfl) (by rfl) ?_ (by exact HS0.out) ?_; rotate_left; (focus (intro W hSw; go_simp; try (with_reducible rfl))); simp only [Act.put, List.setIfInBounds_toArray, List.set_cons_zero, List.set_cons_succ])
  (refine lane_take (v := ?_) rfl (by kernel_rfl) (by kernel_rfl) (by rfl) ?_ (by exact HS0.out) ?_; rotate_left; (focus (intro W hSw; go_simp; try (with_reducible rfl))); simp only [Act.put, List.setIfInBounds_toArray, List.set_cons_zero, List.set_cons_succ])
  rw [WA.out, WB.out]
  refine lane_two (i := 2) (j := 12) (ordI := [8, 9, 10, 11, 12, 13, 14]) (ordJ := [2, 8, 9, 10, 11, 13, 14]) rfl rfl (by kernel_rfl) rfl (by rfl) (by rfl) (fun K hK => ?_) (fun K hK => ?_)
  · go_simp
    refine (open_any (p := P) 0 F (by have := HP0.out.2.2.2; omega)).mono ?_
    rintro e W1 ⟨rfl, hb⟩
    have hb0 : Below W0.heap.size W0 W1 := (Below.refl _ W0).drew.trans hb
    have HS1 : Hid ((fun w' : World => w'.heap[T]? = some (.cells P.arr 26 (0, 0))) W1) := (hb0.block T hT1).trans HT.out
    have HW1 : Hid (Below w.heap.size w W1) := HW0.out.trans (hb0.mono HW0.out.size)
    have hz1 : W0.heap.size ≤ W1.heap.size := hb0.size
    clear hb hb0
    refine hK _ _ HS1.out (fun _ => ?_)
    clear hK K
    refine lane_two (i := 8) (j := 12) (ordI := [9, 10, 11, 12, 13, 14]) (ordJ := [8, 9, 10, 11, 13, 14]) rfl rfl (by kernel_rfl) rfl (by rfl) (by rfl) (fun K hK => ?_) (fun K hK => ?_)
    · go_simp
      refine (daycalm_any (a := Av.opened 0 (F + P.t)) (p := P) (m := 0) (y := (F + a2)) (c := c) (k := k) (d := d) Cys.nil (Av.opened_fine _ _) (by omega) (by show (1 : Int) ≠ 3; decide) HAT.out HP0.out.2.1 ⟨HP0.out.2.2.1.1, by have := HP0.out.2.2.1.2; omega⟩ ⟨by show (0 : Int) ≤ 0; omega, by show (0 : Int) ≤ 100000; omega⟩ (by show c ≤ 0 + 10000; omega) HCN.out ⟨HP0.out.1.1, by have := HP0.out.1.2; omega⟩).mono ?_
      rw [show (c - (Av.opened 0 (F + P.t)).ix).toNat = c.toNat from by show (c - 0).toNat = _; rw [Int.sub_zero]]
      rw [show (Av.opened 0 (F + P.t)).an = F + P.t from rfl]
      obtain ⟨x, hx⟩ : ∃ x, Av.runs (Cal.vN P.u (F + P.t) k d P.e) P c c.toNat (Av.opened 0 (F + P.t)) = x := ⟨_, rfl⟩
      rw [hx]
      have HX := Lib.hid hx
      clear hx
      rintro e W3 ⟨v1, rfl, ho3, hb3⟩
      obtain ⟨A1, c1, rfl, _, _⟩ := ho3.form
      have HS3 : Hid ((fun w' : World => w'.heap[T]? = some (.cells P.arr 26 (0, 0))) W3) := (hb3.block T (by omega)).trans HS1.out
      have HW3 : Hid (Below w.heap.size w W3) := HW1.out.trans (hb3.mono HW1.out.size)
      have HC3 : Hid (Cys W3 W1.heap.size W3.heap.size (.slice A1 x.l.length c1) x.l) := ho3.cys
      have hz3 : W1.heap.size ≤ W3.heap.size := hb3.size
      clear hb3 ho3 HS1 HW1
      refine hK _ _ HS3.out (fun _ => ?_)
      clear hK K
      (refine lane_take (v := ?_) rfl (by kernel_rfl) (by kernel_rfl) (by rfl) ?_ (by exact HS3.out) ?_; rotate_left; (focus (intro W hSw; go_simp; try (with_reducible rfl))); simp only [Act.put, List.setIfInBounds_toArray, List.set_cons_zero, List.set_cons_succ])
      (refine lane_take (v := ?_) rfl (by kernel_rfl) (by kernel_rfl) (by rfl) ?_ (by exact HS3.out) ?_; rotate_left; (focus (intro W hSw; go_simp; try (with_reducible rfl))); simp only [Act.put, List.setIfInBounds_toArray, List.set_cons_zero, List.set_cons_succ])
      (refine lane_take (v := ?_) rfl (by kernel_rfl) (by kernel_rfl) (by rfl) ?_ (by exact HS3.out) ?_; rotate_left; (focus (intro W hSw; go_simp; try (with_reducible rfl))); simp only [Act.put, List.setIfInBounds_toArray, List.set_cons_zero, List.set_cons_succ])
      refine lane_alone rfl (by kernel_rfl) (by rfl) (fun K hK => ?_)
      go_simp
      have HZ : Hid ((W3.alloc (.cells #[.int .u8 0, .int .i64 0, .int .i64 0, .int .i64 0, .int .i64 0, .int .i64 0, .bool false, .slice none 0 0, .int .i64 0, .int .i64 0, .int .i64 0, .int .i64 0, .int .i64 0] 33)).heap[W3.heap.size]? = some (.cells #[.int .u8 0, .int .i64 0, .int .i64 0, .int .i64 0, .int .i64 0, .int .i64 0, .bool false, .slice none 0 0, .int .i64 0, .int .i64 0, .int .i64 0, .int .i64 0, .int .i64 0] 33 (0, 0))) := alloc_at rfl
      have HS4 : Hid ((fun w' : World => w'.heap[T]? = some (.cells P.arr 26 (0, 0))) (W3.alloc (.cells #[.int .u8 0, .int .i64 0, .int .i64 0, .int .i64 0, .int .i64 0, .int .i64 0, .bool false, .slice none 0 0, .int .i64 0, .int .i64 0, .int .i64 0, .int .i64 0, .int .i64 0] 33))) := alloc_old (by omega) HS3.out
      have HW4 : Hid (Below w.heap.size w (W3.alloc (.cells #[.int .u8 0, .int .i64 0, .int .i64 0, .int .i64 0, .int .i64 0, .int .i64 0, .bool false, .slice none 0 0, .int .i64 0, .int .i64 0, .int .i64 0, .int .i64 0, .int .i64 0] 33))) := HW3.out.alloc HW3.out.size _
      have HC4 : Hid (Cys (W3.alloc (.cells #[.int .u8 0, .int .i64 0, .int .i64 0, .int .i64 0, .int .i64 0, .int .i64 0, .bool false, .slice none 0 0, .int .i64 0, .int .i64 0, .int .i64 0, .int .i64 0, .int .i64 0] 33)) W1.heap.size W3.heap.size (.slice A1 x.l.length c1) x.l) := HC3.out.below ((Below.refl _ W3).alloc (Nat.le_refl _) _)
      have hzz : W3.heap.size < (W3.alloc (.cells #[.int .u8 0, .int .i64 0, .int .i64 0, .int .i64 0, .int .i64 0, .int .i64 0, .bool false, .slice none 0 0, .int .i64 0, .int .i64 0, .int .i64 0, .int .i64 0, .int .i64 0] 33)).heap.size := by simp
      refine hK _ _ HS4.out (fun _ => ?_)
      clear hK K
      refine lane_alone rfl (by kernel_rfl) (by rfl) (fun K hK => ?_)
      refine wp_store_row _ _ _ rfl W3.heap.size _ rfl rfl _ _ HZ.out (by exact info13) rfl (Av.arr_one rfl) ?_
      rw [row_boxed HZ.out]
      refine hK _ _ ((boxed_block_other (by omega)).trans HS4.out) (fun _ => ?_)
      clear hK K
      have hS5 : (fun w' : World => w'.heap[T]? = some (.cells P.arr 26 (0, 0))) (boxed (W3.alloc (.cells #[.int .u8 0, .int .i64 0, .int .i64 0, .int .i64 0, .int .i64 0, .int .i64 0, .bool false, .slice none 0 0, .int .i64 0, .int .i64 0, .int .i64 0, .int .i64 0, .int .i64 0] 33)) W3.heap.size (x.arr (.slice A1 x.l.length c1)) 33) := (boxed_block_other (by omega)).trans HS4.out
      have hZ5 : (boxed (W3.alloc (.cells #[.int .u8 0, .int .i64 0, .int .i64 0, .int .i64 0, .int .i64 0, .int .i64 0, .bool false, .slice none 0 0, .int .i64 0, .int .i64 0, .int .i64 0, .int .i64 0, .int .i64 0] 33)) W3.heap.size (x.arr (.slice A1 x.l.length c1)) 33).heap[W3.heap.size]? = some (.cells (x.arr (.slice A1 x.l.length c1)) 33 (0, 0)) := boxed_at hzz
      have hW5 : Below w.heap.size w (boxed (W3.alloc (.cells #[.int .u8 0, .int .i64 0, .int .i64 0, .int .i64 0, .int .i64 0, .int .i64 0, .bool false, .slice none 0 0, .int .i64 0, .int .i64 0, .int .i64 0, .int .i64 0, .int .i64 0] 33)) W3.heap.size (x.arr (.slice A1 x.l.length c1)) 33) := boxed_below HW4.out (by omega)
      have hC5 : Cys (boxed (W3.alloc (.cells #[.int .u8 0, .int .i64 0, .int .i64 0, .int .i64 0, .int .i64 0, .int .i64 0, .bool false, .slice none 0 0, .int .i64 0, .int .i64 0, .int .i64 0, .int .i64 0, .int .i64 0] 33)) W3.heap.size (x.arr (.slice A1 x.l.length c1)) 33) (T + 1) (boxed (W3.alloc (.cells #[.int .u8 0, .int .i64 0, .int .i64 0, .int .i64 0, .int .i64 0, .int .i64 0, .bool false, .slice none 0 0, .int .i64 0, .int .i64 0, .int .i64 0, .int .i64 0, .int .i64 0] 33)) W3.heap.size (x.arr (.slice A1 x.l.length c1)) 33).heap.size (.slice A1 x.l.length c1) x.l := (HC4.out.boxed (.inr (Nat.le_refl _))).more (by omega) (by simp only [boxed_size]; omega)
      have hzz5 : W3.heap.size < (boxed (W3.alloc (.cells #[.int .u8 0, .int .i64 0, .int .i64 0, .int .i64 0, .int .i64 0, .int .i64 0, .bool false, .slice none 0 0, .int .i64 0, .int .i64 0, .int .i64 0, .int .i64 0, .int .i64 0] 33)) W3.heap.size (x.arr (.slice A1 x.l.length c1)) 33).heap.size := by simp only [boxed_size]; exact hzz
      have hZT : T < W3.heap.size := by omega
      obtain ⟨W5, hW5e⟩ : ∃ W5, boxed (W3.alloc (.cells #[.int .u8 0, .int .i64 0, .int .i64 0, .int .i64 0, .int .i64 0, .int .i64 0, .bool false, .slice none 0 0, .int .i64 0, .int .i64 0, .int .i64 0, .int .i64 0, .int .i64 0] 33)) W3.heap.size (x.arr (.slice A1 x.l.length c1)) 33 = W5 := ⟨_, rfl⟩
      rw [hW5e] at hS5 hZ5 hW5 hC5 hzz5 ⊢
      obtain ⟨Z, hZe⟩ : ∃ Z, W3.heap.size = Z := ⟨_, rfl⟩
      rw [hZe] at hZ5 hzz5 hZT ⊢
      have HS5 := Lib.hid hS5
      have HZ5 := Lib.hid hZ5
      have HW5 := Lib.hid hW5
      have HC5 := Lib.hid hC5
      clear hW5e hZe hS5 hZ5 hW5 hC5 HZ HS4 HW4 HC4 hzz
      refine lane_alone rfl (by kernel_rfl) (by rfl) (fun K hK => ?_)
      go_simp
      refine hK _ _ HS5.out (fun _ => ?_)
      clear hK K
      refine lane_end (by kernel_rfl) ?_
      have hPl : P.l = true := by rw [← HPP.out]
      have hPa : P.a = 500 := by rw [← HPP.out]
      have hPg : P.g = true := by rw [← HPP.out]
      by_cases hcz : c = 0
      · have hxe : x = ⟨1, 0, F + P.t, 0, 0, 0, false, [], 0, 0, 0, 0, 0⟩ := by rw [← HX.out, hcz]; rfl
        subst hxe
        obtain ⟨_, _, _, _, k4, _, _, k7, _, _, _, k11, _⟩ := acells HZ5.out
        clear hPl hPa hPg hcz HC5
        go_wp2
        go_quiet (fail)
        go_wp2
        go_ret
        first
          | exact ⟨rfl, Below.drewN' HW5.out _⟩
          | exact ⟨rfl, HW5.out⟩
      · have hxe : x = ⟨1, 0, F + P.t, c, c, 0, false, [⟨c - 1, Cal.vN P.u (F + P.t) k d P.e (c - 1), 1, 500, 0, 1, 0, true⟩], 0, 0, 0, c - 1, 0⟩ := by rw [← HX.out]; exact last_all hPl hPa hPg (by omega)
        subst hxe
        obtain ⟨_, _, _, _, k4, _, _, k7, _, _, _, k11, _⟩ := acells HZ5.out
        obtain ⟨g, o, cap, hv, _, _, _, _, _, hr⟩ := HC5.out.at_ (k := 0) (c := ⟨c - 1, Cal.vN P.u (F + P.t) k d P.e (c - 1), 1, 500, 0, 1, 0, true⟩) rfl
        injection hv with hv1 _ hv3
        subst hv1 hv3
        have q0 : W5.cell? ⟨g, o, none⟩ = some (.int .i64 (c - 1)) := hr 0 _ rfl
        have q3 : W5.cell? ⟨g, o + 3, none⟩ = some (.int .i64 500) := hr 3 _ rfl
        have e1 : wrap64 (c - 1 + 1) = c := by unfold wrap64; omega
        have e2 : wrap64 (c - 1) = c - 1 := by unfold wrap64; omega
        have d0 : (c == 0) = false := by simpa using hcz
        have d1 : decide (c > 0) = true := by simp; omega
        have d2 : decide (0 < c) = true := by simp; omega
        clear hPl hPa hPg hcz hr HC5
        go_wp2
        go_quiet (fail)
        go_wp2
        go_ret
        first
          | exact ⟨rfl, Below.drewN' HW5.out _⟩
          | exact ⟨rfl, HW5.out⟩
    · go_simp
      have hZ2 : (W1.alloc (.cells #[.int .u8 0, .int .i64 0, .int .i64 0, .int .i64 0, .int .i64 0, .int .i64 0, .bool false, .slice none 0 0, .int .i64 0, .int .i64 0, .int .i64 0, .int .i64 0, .int .i64 0] 33)).heap[W1.heap.size]? = some (.cells #[.int .u8 0, .int .i64 0, .int .i64 0, .int .i64 0, .int .i64 0, .int .i64 0, .bool false, .slice none 0 0, .int .i64 0, .int .i64 0, .int .i64 0, .int .i64 0, .int .i64 0] 33 (0, 0)) := alloc_at rfl
      have HS2 : Hid ((fun w' : World => w'.heap[T]? = some (.cells P.arr 26 (0, 0))) (W1.alloc (.cells #[.int .u8 0, .int .i64 0, .int .i64 0, .int .i64 0, .int .i64 0, .int .i64 0, .bool false, .slice none 0 0, .int .i64 0, .int .i64 0, .int .i64 0, .int .i64 0, .int .i64 0] 33))) := alloc_old (by omega) HS1.out
      have HW2 : Hid (Below w.heap.size w (W1.alloc (.cells #[.int .u8 0, .int .i64 0, .int .i64 0, .int .i64 0, .int .i64 0, .int .i64 0, .bool false, .slice none 0 0, .int .i64 0, .int .i64 0, .int .i64 0, .int .i64 0, .int .i64 0] 33))) := HW1.out.alloc HW1.out.size _
      have hz2 : (W1.alloc (.cells #[.int .u8 0, .int .i64 0, .int .i64 0, .int .i64 0, .int .i64 0, .int .i64 0, .bool false, .slice none 0 0, .int .i64 0, .int .i64 0, .int .i64 0, .int .i64 0, .int .i64 0] 33)).heap.size = W1.heap.size + 1 := by simp
      refine hK _ _ HS2.out (fun _ => ?_)
      clear hK K
      refine lane_alone rfl (by kernel_rfl) (by rfl) (fun K hK => ?_)
      go_simp
      refine (daycalm_any (a := Av.opened 0 (F + P.t)) (p := P) (m := 0) (y := (F + a2)) (c := c) (k := k) (d := d) Cys.nil (Av.opened_fine _ _) (by omega) (by show (1 : Int) ≠ 3; decide) HAT.out HP0.out.2.1 ⟨HP0.out.2.2.1.1, by have := HP0.out.2.2.1.2; omega⟩ ⟨by show (0 : Int) ≤ 0; omega, by show (0 : Int) ≤ 100000; omega⟩ (by show c ≤ 0 + 10000; omega) HCN.out ⟨HP0.out.1.1, by have := HP0.out.1.2; omega⟩).mono ?_
      rw [show (c - (Av.opened 0 (F + P.t)).ix).toNat = c.toNat from by show (c - 0).toNat = _; rw [Int.sub_zero]]
      rw [show (Av.opened 0 (F + P.t)).an = F + P.t from rfl]
      obtain ⟨x, hx⟩ : ∃ x, Av.runs (Cal.vN P.u (F + P.t) k d P.e) P c c.toNat (Av.opened 0 (F + P.t)) = x := ⟨_, rfl⟩
      rw [hx]
      have HX := Lib.hid hx
      clear hx
      rintro e W4 ⟨v1, rfl, ho3, hb3⟩
      obtain ⟨A1, c1, rfl, _, _⟩ := ho3.form
      have HS4 : Hid ((fun w' : World => w'.heap[T]? = some (.cells P.arr 26 (0, 0))) W4) := (hb3.block T (by omega)).trans HS2.out
      have HS3 := HS4
      have HW4 : Hid (Below w.heap.size w W4) := HW2.out.trans (hb3.mono HW2.out.size)
      have HC4 : Hid (Cys W4 (W1.alloc (.cells #[.int .u8 0, .int .i64 0, .int .i64 0, .int .i64 0, .int .i64 0, .int .i64 0, .bool false, .slice none 0 0, .int .i64 0, .int .i64 0, .int .i64 0, .int .i64 0, .int .i64 0] 33)).heap.size W4.heap.size (.slice A1 x.l.length c1) x.l) := ho3.cys
      have hz3 : (W1.alloc (.cells #[.int .u8 0, .int .i64 0, .int .i64 0, .int .i64 0, .int .i64 0, .int .i64 0, .bool false, .slice none 0 0, .int .i64 0, .int .i64 0, .int .i64 0, .int .i64 0, .int .i64 0] 33)).heap.size ≤ W4.heap.size := hb3.size
      have HZ : Hid (W4.heap[W1.heap.size]? = some (.cells #[.int .u8 0, .int .i64 0, .int .i64 0, .int .i64 0, .int .i64 0, .int .i64 0, .bool false, .slice none 0 0, .int .i64 0, .int .i64 0, .int .i64 0, .int .i64 0, .int .i64 0] 33 (0, 0))) := (hb3.block _ (by omega)).trans hZ2
      have hzz : W1.heap.size < W4.heap.size := by omega
      clear hb3 ho3 HS2 HW2 hZ2
      refine hK _ _ HS4.out (fun _ => ?_)
      clear hK K
      (refine lane_take (v := ?_) rfl (by kernel_rfl) (by kernel_rfl) (by rfl) ?_ (by exact HS3.out) ?_; rotate_left; (focus (intro W hSw; go_simp; try (with_reducible rfl))); simp only [Act.put, List.setIfInBounds_toArray, List.set_cons_zero, List.set_cons_succ])
      (refine lane_take (v := ?_) rfl (by kernel_rfl) (by kernel_rfl) (by rfl) ?_ (by exact HS3.out) ?_; rotate_left; (focus (intro W hSw; go_simp; try (with_reducible rfl))); simp only [Act.put, List.setIfInBounds_toArray, List.set_cons_zero, List.set_cons_succ])
      (refine lane_take (v := ?_) rfl (by kernel_rfl) (by kernel_rfl) (by rfl) ?_ (by exact HS3.out) ?_; rotate_left; (focus (intro W hSw; go_simp; try (with_reducible rfl))); simp only [Act.put, List.setIfInBounds_toArray, List.set_cons_zero, List.set_cons_succ])
      refine lane_alone rfl (by kernel_rfl) (by rfl) (fun K hK => ?_)
      refine wp_store_row _ _ _ rfl W1.heap.size _ rfl rfl _ _ HZ.out (by exact info13) rfl (Av.arr_one rfl) ?_
      rw [row_boxed HZ.out]
      refine hK _ _ ((boxed_block_other (by omega)).trans HS4.out) (fun _ => ?_)
      clear hK K
      have hS5 : (fun w' : World => w'.heap[T]? = some (.cells P.arr 26 (0, 0))) (boxed W4 W1.heap.size (x.arr (.slice A1 x.l.length c1)) 33) := (boxed_block_other (by omega)).trans HS4.out
      have hZ5 : (boxed W4 W1.heap.size (x.arr (.slice A1 x.l.length c1)) 33).heap[W1.heap.size]? = some (.cells (x.arr (.slice A1 x.l.length c1)) 33 (0, 0)) := boxed_at hzz
      have hW5 : Below w.heap.size w (boxed W4 W1.heap.size (x.arr (.slice A1 x.l.length c1)) 33) := boxed_below HW4.out (by omega)
      have hC5 : Cys (boxed W4 W1.heap.size (x.arr (.slice A1 x.l.length c1)) 33) (T + 1) (boxed W4 W1.heap.size (x.arr (.slice A1 x.l.length c1)) 33).heap.size (.slice A1 x.l.length c1) x.l := (HC4.out.boxed (.inl (by omega))).more (by omega) (by simp only [boxed_size]; omega)
      have hzz5 : W1.heap.size < (boxed W4 W1.heap.size (x.arr (.slice A1 x.l.length c1)) 33).heap.size := by simp only [boxed_size]; exact hzz
      have hZT : T < W1.heap.size := by omega
      obtain ⟨W5, hW5e⟩ : ∃ W5, boxed W4 W1.heap.size (x.arr (.slice A1 x.l.length c1)) 33 = W5 := ⟨_, rfl⟩
      rw [hW5e] at hS5 hZ5 hW5 hC5 hzz5 ⊢
      obtain ⟨Z, hZe⟩ : ∃ Z, W1.heap.size = Z := ⟨_, rfl⟩
      rw [hZe] at hZ5 hzz5 hZT ⊢
      have HS5 := Lib.hid hS5
      have HZ5 := Lib.hid hZ5
      have HW5 := Lib.hid hW5
      have HC5 := Lib.hid hC5
      clear hW5e hZe hS5 hZ5 hW5 hC5 HZ HS4 HW4 HC4 hzz
      refine lane_alone rfl (by kernel_rfl) (by rfl) (fun K hK => ?_)
      go_simp
      refine hK _ _ HS5.out (fun _ => ?_)
      clear hK K
      refine lane_end (by kernel_rfl) ?_
      have hPl : P.l = true := by rw [← HPP.out]
      have hPa : P.a = 500 := by rw [← HPP.out]
      have hPg : P.g = true := by rw [← HPP.out]
      by_cases hcz : c = 0
      · have hxe : x = ⟨1, 0, F + P.t, 0, 0, 0, false, [], 0, 0, 0, 0, 0⟩ := by rw [← HX.out, hcz]; rfl
        subst hxe
        obtain ⟨_, _, _, _, k4, _, _, k7, _, _, _, k11, _⟩ := acells HZ5.out
        clear hPl hPa hPg hcz HC5
        go_wp2
        go_quiet (fail)
        go_wp2
        go_ret
        first
          | exact ⟨rfl, Below.drewN' HW5.out _⟩
          | exact ⟨rfl, HW5.out⟩
      · have hxe : x = ⟨1, 0, F + P.t, c, c, 0, false, [⟨c - 1, Cal.vN P.u (F + P.t) k d P.e (c - 1), 1, 500, 0, 1, 0, true⟩], 0, 0, 0, c - 1, 0⟩ := by rw [← HX.out]; exact last_all hPl hPa hPg (by omega)
        subst hxe
        obtain ⟨_, _, _, _, k4, _, _, k7, _, _, _, k11, _⟩ := acells HZ5.out
        obtain ⟨g, o, cap, hv, _, _, _, _, _, hr⟩ := HC5.out.at_ (k := 0) (c := ⟨c - 1, Cal.vN P.u (F + P.t) k d P.e (c - 1), 1, 500, 0, 1, 0, true⟩) rfl
        injection hv with hv1 _ hv3
        subst hv1 hv3
        have q0 : W5.cell? ⟨g, o, none⟩ = some (.int .i64 (c - 1)) := hr 0 _ rfl
        have q3 : W5.cell? ⟨g, o + 3, none⟩ = some (.int .i64 500) := hr 3 _ rfl
        have e1 : wrap64 (c - 1 + 1) = c := by unfold wrap64; omega
        have e2 : wrap64 (c - 1) = c - 1 := by unfold wrap64; omega
        have d0 : (c == 0) = false := by simpa using hcz
        have d1 : decide (c > 0) = true := by simp; omega
        have d2 : decide (0 < c) = true := by simp; omega
        clear hPl hPa hPg hcz hr HC5
        go_wp2
        go_quiet (fail)
        go_wp2
        go_ret
        first
          | exact ⟨rfl, Below.drewN' HW5.out _⟩
          | exact ⟨rfl, HW5.out⟩
  · go_simp
    have hZ0 : (W0.alloc (.cells #[.int .u8 0, .int .i64 0, .int .i64 0, .int .i64 0, .int .i64 0, .int .i64 0, .bool false, .slice none 0 0, .int .i64 0, .int .i64 0, .int .i64 0, .int .i64 0, .int .i64 0] 33)).heap[W0.heap.size]? = some (.cells #[.int .u8 0, .int .i64 0, .int .i64 0, .int .i64 0, .int .i64 0, .int .i64 0, .bool false, .slice none 0 0, .int .i64 0, .int .i64 0, .int .i64 0, .int .i64 0, .int .i64 0] 33 (0, 0)) := alloc_at rfl
    have hT00 : (W0.alloc (.cells #[.int .u8 0, .int .i64 0, .int .i64 0, .int .i64 0, .int .i64 0, .int .i64 0, .bool false, .slice none 0 0, .int .i64 0, .int .i64 0, .int .i64 0, .int .i64 0, .int .i64 0] 33)).heap[T]? = some (.cells P.arr 26 (0, 0)) := alloc_old hT1 HT.out
    have hZ1 : ((W0.alloc (.cells #[.int .u8 0, .int .i64 0, .int .i64 0, .int .i64 0, .int .i64 0, .int .i64 0, .bool false, .slice none 0 0, .int .i64 0, .int .i64 0, .int .i64 0, .int .i64 0, .int .i64 0] 33)).drew).heap[W0.heap.size]? = some (.cells #[.int .u8 0, .int .i64 0, .int .i64 0, .int .i64 0, .int .i64 0, .int .i64 0, .bool false, .slice none 0 0, .int .i64 0, .int .i64 0, .int .i64 0, .int .i64 0, .int .i64 0] 33 (0, 0)) := hZ0
    have HS1 : Hid ((fun w' : World => w'.heap[T]? = some (.cells P.arr 26 (0, 0))) ((W0.alloc (.cells #[.int .u8 0, .int .i64 0, .int .i64 0, .int .i64 0, .int .i64 0, .int .i64 0, .bool false, .slice none 0 0, .int .i64 0, .int .i64 0, .int .i64 0, .int .i64 0, .int .i64 0] 33)).drew)) := hT00
    have HW1 : Hid (Below w.heap.size w ((W0.alloc (.cells #[.int .u8 0, .int .i64 0, .int .i64 0, .int .i64 0, .int .i64 0, .int .i64 0, .bool false, .slice none 0 0, .int .i64 0, .int .i64 0, .int .i64 0, .int .i64 0, .int .i64 0] 33)).drew)) := (HW0.out.alloc HW0.out.size _).drew
    have hz1 : ((W0.alloc (.cells #[.int .u8 0, .int .i64 0, .int .i64 0, .int .i64 0, .int .i64 0, .int .i64 0, .bool false, .slice none 0 0, .int .i64 0, .int .i64 0, .int .i64 0, .int .i64 0, .int .i64 0] 33)).drew).heap.size = W0.heap.size + 1 := by show (W0.alloc _).heap.size = _; rw [World.size_alloc]
    clear hZ0 hT00
    refine hK _ _ HS1.out (fun _ => ?_)
    clear hK K
    refine lane_alone rfl (by kernel_rfl) (by rfl) (fun K hK => ?_)
    go_simp
    refine (open_any (p := P) 0 F (by have := HP0.out.2.2.2; omega)).mono ?_
    rintro e W2 ⟨rfl, hb⟩
    have hZ2 : W2.heap[W0.heap.size]? = some (.cells #[.int .u8 0, .int .i64 0, .int .i64 0, .int .i64 0, .int .i64 0, .int .i64 0, .bool false, .slice none 0 0, .int .i64 0, .int .i64 0, .int .i64 0, .int .i64 0, .int .i64 0] 33 (0, 0)) := (hb.block _ (by omega)).trans hZ1
    have HS2 : Hid ((fun w' : World => w'.heap[T]? = some (.cells P.arr 26 (0, 0))) W2) := (hb.block T (by omega)).trans HS1.out
    have HW2 : Hid (Below w.heap.size w W2) := HW1.out.trans (hb.mono HW1.out.size)
    have hz2 : W0.heap.size + 1 ≤ W2.heap.size := by have := hb.size; omega
    clear hb hZ1 HS1 HW1
    refine hK _ _ HS2.out (fun _ => ?_)
    clear hK K
    refine lane_alone rfl (by kernel_rfl) (by rfl) (fun K hK => ?_)
    go_simp
    refine (daycalm_any (a := Av.opened 0 (F + P.t)) (p := P) (m := 0) (y := (F + a2)) (c := c) (k := k) (d := d) Cys.nil (Av.opened_fine _ _) (by omega) (by show (1 : Int) ≠ 3; decide) HAT.out HP0.out.2.1 ⟨HP0.out.2.2.1.1, by have := HP0.out.2.2.1.2; omega⟩ ⟨by show (0 : Int) ≤ 0; omega, by show (0 : Int) ≤ 100000; omega⟩ (by show c ≤ 0 + 10000; omega) HCN.out ⟨HP0.out.1.1, by have := HP0.out.1.2; omega⟩).mono ?_
    rw [show (c - (Av.opened 0 (F + P.t)).ix).toNat = c.toNat from by show (c - 0).toNat = _; rw [Int.sub_zero]]
    rw [show (Av.opened 0 (F + P.t)).an = F + P.t from rfl]
    obtain ⟨x, hx⟩ : ∃ x, Av.runs (Cal.vN P.u (F + P.t) k d P.e) P c c.toNat (Av.opened 0 (F + P.t)) = x := ⟨_, rfl⟩
    rw [hx]
    have HX := Lib.hid hx
    clear hx
    rintro e W4 ⟨v1, rfl, ho3, hb3⟩
    obtain ⟨A1, c1, rfl, _, _⟩ := ho3.form
    have HS4 : Hid ((fun w' : World => w'.heap[T]? = some (.cells P.arr 26 (0, 0))) W4) := (hb3.block T (by omega)).trans HS2.out
    have HS3 := HS4
    have HW4 : Hid (Below w.heap.size w W4) := HW2.out.trans (hb3.mono HW2.out.size)
    have HC4 : Hid (Cys W4 W2.heap.size W4.heap.size (.slice A1 x.l.length c1) x.l) := ho3.cys
    have hz3 : W2.heap.size ≤ W4.heap.size := hb3.size
    have HZ : Hid (W4.heap[W0.heap.size]? = some (.cells #[.int .u8 0, .int .i64 0, .int .i64 0, .int .i64 0, .int .i64 0, .int .i64 0, .bool false, .slice none 0 0, .int .i64 0, .int .i64 0, .int .i64 0, .int .i64 0, .int .i64 0] 33 (0, 0))) := (hb3.block _ (by omega)).trans hZ2
    have hzz : W0.heap.size < W4.heap.size := by omega
    clear hb3 ho3 HS2 HW2 hZ2
    refine hK _ _ HS4.out (fun _ => ?_)
    clear hK K
    (refine lane_take (v := ?_) rfl (by kernel_rfl) (by kernel_rfl) (by rfl) ?_ (by exact HS3.out) ?_; rotate_left; (focus (intro W hSw; go_simp; try (with_reducible rfl))); simp only [Act.put, List.setIfInBounds_toArray, List.set_cons_zero, List.set_cons_succ])
    (refine lane_take (v := ?_) rfl (by kernel_rfl) (by kernel_rfl) (by rfl) ?_ (by exact HS3.out) ?_; rotate_left; (focus (intro W hSw; go_simp; try (with_reducible rfl))); simp only [Act.put, List.setIfInBounds_toArray, List.set_cons_zero, List.set_cons_succ])
    (refine lane_take (v := ?_) rfl (by kernel_rfl) (by kernel_rfl) (by rfl) ?_ (by exact HS3.out) ?_; rotate_left; (focus (intro W hSw; go_simp; try (with_reducible rfl))); simp only [Act.put, List.setIfInBounds_toArray, List.set_cons_zero, List.set_cons_succ])
    refine lane_alone rfl (by kernel_rfl) (by rfl) (fun K hK => ?_)
    refine wp_store_row _ _ _ rfl W0.heap.size _ rfl rfl _ _ HZ.out (by exact info13) rfl (Av.arr_one rfl) ?_
    rw [row_boxed HZ.out]
    refine hK _ _ ((boxed_block_other (by omega)).trans HS4.out) (fun _ => ?_)
    clear hK K
    have hS5 : (fun w' : World => w'.heap[T]? = some (.cells P.arr 26 (0, 0))) (boxed W4 W0.heap.size (x.arr (.slice A1 x.l.length c1)) 33) := (boxed_block_other (by omega)).trans HS4.out
    have hZ5 : (boxed W4 W0.heap.size (x.arr (.slice A1 x.l.length c1)) 33).heap[W0.heap.size]? = some (.cells (x.arr (.slice A1 x.l.length c1)) 33 (0, 0)) := boxed_at hzz
    have hW5 : Below w.heap.size w (boxed W4 W0.heap.size (x.arr (.slice A1 x.l.length c1)) 33) := boxed_below HW4.out (by omega)
    have hC5 : Cys (boxed W4 W0.heap.size (x.arr (.slice A1 x.l.length c1)) 33) (T + 1) (boxed W4 W0.heap.size (x.arr (.slice A1 x.l.length c1)) 33).heap.size (.slice A1 x.l.length c1) x.l := (HC4.out.boxed (.inl (by omega))).more (by omega) (by simp only [boxed_size]; omega)
    have hzz5 : W0.heap.size < (boxed W4 W0.heap.size (x.arr (.slice A1 x.l.length c1)) 33).heap.size := by simp only [boxed_size]; exact hzz
    have hZT : T < W0.heap.size := by omega
    obtain ⟨W5, hW5e⟩ : ∃ W5, boxed W4 W0.heap.size (x.arr (.slice A1 x.l.length c1)) 33 = W5 := ⟨_, rfl⟩
    rw [hW5e] at hS5 hZ5 hW5 hC5 hzz5 ⊢
    obtain ⟨Z, hZe⟩ : ∃ Z, W0.heap.size = Z := ⟨_, rfl⟩
    rw [hZe] at hZ5 hzz5 hZT ⊢
    have HS5 := Lib.hid hS5
    have HZ5 := Lib.hid hZ5
    have HW5 := Lib.hid hW5
    have HC5 := Lib.hid hC5
    clear hW5e hZe hS5 hZ5 hW5 hC5 HZ HS4 HW4 HC4 hzz
    refine lane_alone rfl (by kernel_rfl) (by rfl) (fun K hK => ?_)
    go_simp
    refine hK _ _ HS5.out (fun _ => ?_)
    clear hK K
    refine lane_end (by kernel_rfl) ?_
    have hPl : P.l = true := by rw [← HPP.out]
    have hPa : P.a = 500 := by rw [← HPP.out]
    have hPg : P.g = true := by rw [← HPP.out]
    by_cases hcz : c = 0
    · have hxe : x = ⟨1, 0, F + P.t, 0, 0, 0, false, [], 0, 0, 0, 0, 0⟩ := by rw [← HX.out, hcz]; rfl
      subst hxe
      obtain ⟨_, _, _, _, k4, _, _, k7, _, _, _, k11, _⟩ := acells HZ5.out
      clear hPl hPa hPg hcz HC5
      go_wp2
      go_quiet (fail)
      go_wp2
      go_ret
      first
        | exact ⟨rfl, Below.drewN' HW5.out _⟩
        | exact ⟨rfl, HW5.out⟩
    · have hxe : x = ⟨1, 0, F + P.t, c, c, 0, false, [⟨c - 1, Cal.vN P.u (F + P.t) k d P.e (c - 1), 1, 500, 0, 1, 0, true⟩], 0, 0, 0, c - 1, 0⟩ := by rw [← HX.out]; exact last_all hPl hPa hPg (by omega)
      subst hxe
      obtain ⟨_, _, _, _, k4, _, _, k7, _, _, _, k11, _⟩ := acells HZ5.out
      obtain ⟨g, o, cap, hv, _, _, _, _, _, hr⟩ := HC5.out.at_ (k := 0) (c := ⟨c - 1, Cal.vN P.u (F + P.t) k d P.e (c - 1), 1, 500, 0, 1, 0, true⟩) rfl
      injection hv with hv1 _ hv3
      subst hv1 hv3
      have q0 : W5.cell? ⟨g, o, none⟩ = some (.int .i64 (c - 1)) := hr 0 _ rfl
      have q3 : W5.cell? ⟨g, o + 3, none⟩ = some (.int .i64 500) := hr 3 _ rfl
      have e1 : wrap64 (c - 1 + 1) = c := by unfold wrap64; omega
      have e2 : wrap64 (c - 1) = c - 1 := by unfold wrap64; omega
      have d0 : (c == 0) = false := by simpa using hcz
      have d1 : decide (c > 0) = true := by simp; omega
      have d2 : decide (0 < c) = true := by simp; omega
      clear hPl hPa hPg hcz hr HC5
      go_wp2
      go_quiet (fail)
      go_wp2
      go_ret
      first
        | exact ⟨rfl, Below.drewN' HW5.out _⟩
        | exact ⟨rfl, HW5.out⟩
end Go.Proofs.Ytcgglphphdpplaa
