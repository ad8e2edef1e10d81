/-
  Cycles begin on the days of their periods, numbered as they come. No conditions.
-/
import Derived.Test.YtcgglphphdpplaaAvFirst
import Derived.Test.YtcgglphphdpplaaAvPlan
import Derived.Test.YtcgglphphdpplaaRow
import Derived.Test.YtcgglphphdpplaaRefNth
import Derived.Lib.Hide
namespace Go.Proofs.Ytcgglphphdpplaa
set_option maxRecDepth 20000
open Go.ChangeShapes Go.WideShapes Go.ChangeAt Go.RowKit

theorem region_frame {P : Program} {c : Code} {Q : Exit → Act → World → Prop} {a : Act} {w : World} (Facts : Nat → Option Addr → Nat → World → Prop) (fr : Nat → Option Addr → Nat → Act)
    (h : c.wp P (fun e a' w' => e = .normal ∧ ∃ Z A1 c1, a' = fr Z A1 c1 ∧ Facts Z A1 c1 w') a w) (hk : ∀ Z A1 c1 w', Facts Z A1 c1 w' → Q .normal (fr Z A1 c1) w') : c.wp P Q a w :=
  wp_mono h (by rintro e a' w' ⟨rfl, Z, A1, c1, rfl, hf⟩; exact hk _ _ _ _ hf)
theorem acells {w : World} {b : Nat} {ty : TypeId} {fr : Nat × Nat} {a : Av} {v : Value} (h : w.heap[b]? = some (.cells (a.arr v) ty fr)) : w.cell? ⟨b, 0, none⟩ = some (.int .u8 a.st) ∧ w.cell? ⟨b, 1, none⟩ = some (.int .i64 a.pl) ∧ w.cell? ⟨b, 2, none⟩ = some (.int .i64 a.an) ∧ w.cell? ⟨b, 3, none⟩ = some (.int .i64 a.ix) ∧ w.cell? ⟨b, 4, none⟩ = some (.int .i64 a.ct) ∧ w.cell? ⟨b, 5, none⟩ = some (.int .i64 a.cr) ∧ w.cell? ⟨b, 6, none⟩ = some (.bool a.sk) ∧ w.cell? ⟨b, 7, none⟩ = some (v) ∧ w.cell? ⟨b, 8, none⟩ = some (.int .i64 a.dn) ∧ w.cell? ⟨b, 9, none⟩ = some (.int .i64 a.un) ∧ w.cell? ⟨b, 10, none⟩ = some (.int .i64 a.rf) ∧ w.cell? ⟨b, 11, none⟩ = some (.int .i64 a.sp) ∧ w.cell? ⟨b, 12, none⟩ = some (.int .i64 a.pd) := by
  refine ⟨?_, ?_, ?_, ?_, ?_, ?_, ?_, ?_, ?_, ?_, ?_, ?_, ?_⟩
  all_goals
    rw [cell_of_row _ _ _ _ _ _ h]
    rfl
theorem wrap_succ (j : Nat) (h : j ≤ 1000) : wrap64 ((j : Int) + 1) = (j : Int) + 1 := by unfold wrap64; omega
/-- A period's cycle. -/
def dueAt (N : Int → Int) (a : Int) (i : Nat) : Cv := ⟨i, N i, 1, a, 0, 1, 0, true⟩
theorem dues_all {N : Int → Int} {p : Pv} {c an : Int} (hl : p.l = false) (ha : 1 ≤ p.a) (hg : p.g = true) : ∀ f : Nat, Av.runs N p c f (Av.opened 0 an) = ⟨1, 0, an, f, f, 0, false, (List.range f).map (dueAt N p.a), 0, 0, 0, 0, 0⟩ := by
  intro f
  induction f with
  | zero => rfl
  | succ f ih =>
    rw [Av.runs_last, ih, hl]
    show Av.born _ _ _ false = _
    rw [Av.born_pay (by show (1 : Int) ≠ 2; decide) rfl (by dsimp only; omega)]
    dsimp only
    rw [hg, cbegin_no (by omega)]
    unfold Av.with_
    rw [if_pos (by dsimp only; omega), List.range_succ, List.map_append]
    simp [Av.opened, dueAt]
theorem Cal.k_small {a k d : Int} (h : Cal.At a k d) (ha : a ≤ 800000) : k < 27000 := by
  apply Int.lt_of_not_ge
  intro hk
  have h1 : 810000 ≤ Cal.ms 27000 := by decide
  have h2 : Cal.ms 27000 ≤ Cal.ms k := by
    rcases Int.lt_or_eq_of_le hk with h3 | h3
    · have := Cal.ms_lt h3; have := (Cal.ml_bd 27000).1; omega
    · rw [← h3]; exact Int.le_refl _
  have := h.eq
  have := h.d0
  omega
theorem Cal.ok_small {u a k d e c : Int} (h : Cal.At a k d) (ha : a ≤ 800000) (he : 1 ≤ e ∧ e ≤ 3) (hc : 0 ≤ c ∧ c ≤ 1001) : Cal.okN u a k e c = true := by
  have hk := Cal.k_small h ha
  have hs : c * Cal.stp u e ≤ 1001 * 36 := by
    have h1 : Cal.stp u e ≤ 36 := by unfold Cal.stp; split <;> (try split) <;> omega
    have h0 : 0 ≤ Cal.stp u e := by unfold Cal.stp; split <;> (try split) <;> omega
    exact Int.le_trans (Int.mul_le_mul_of_nonneg_left h1 hc.1) (by omega)
  unfold Cal.okN
  split
  · simp; omega
  · simp; omega
set_option maxHeartbeats 4000000 in
theorem accountDues_walk (a0 : Int) (w0 : (Lit.int .u8 a0).wf = true) (a1 : Int) (w1 : (Lit.int .u16 a1).wf = true) (a2 : Int) (w2 : (Lit.int .u8 a2).wf = true) (w : World) :
    Calls Try.prog 9 #[.int .u8 a0, .int .u16 a1, .int .u8 a2] w fun e w' => e = .returned (.bool true) ∧ Below w.heap.size w w' := by
  obtain ⟨h00, h01⟩ := wf_u8 w0
  obtain ⟨h10, h11⟩ := wf_u16 w1
  obtain ⟨h20, h21⟩ := wf_u8 w2
  go_enter Try.func9, Try.ntmps9
  go_wp2_with (fail)
  refine (acawake_any _).mono ?_
  rintro e w1 ⟨rfl, hb1⟩
  have HW1 := Lib.hid hb1
  clear hb1
  go_wp2_with (fail)
  refine (plan12_any a0 h00 (by omega) _).mono ?_
  rintro e w2 ⟨rfl, hb2⟩
  have HW2 : Hid (Below w.heap.size w w2) := HW1.out.trans (hb2.mono HW1.out.size)
  clear HW1 hb2
  go_wp2_with (first | ((with_reducible_and_instances (show wpList _ _ _ (Oper.mk _ (Op.load 26 _) _ _ _ _ :: _) _ _)); refine wl_load Try.underlying26 rfl info6p rfl rfl rfl (by (repeat (first | assumption | (with_reducible refine alloc_at ?_; (focus (first | omega | (simp; done) | (simp; omega)))) | (with_reducible refine boxed_at ?_; (focus (first | omega | (simp; done) | (simp; omega)))) | (with_reducible refine alloc_old ?_ ?_; (focus (first | omega | (simp; done) | (simp; omega)))) | (with_reducible refine boxed_old ?_ ?_; (focus (first | omega | (simp; done) | (simp; omega)))) | (with_reducible refine drew_old ?_)))) (by rfl) ?_) | ((with_reducible_and_instances (show wpList _ _ _ (Oper.mk _ (Op.store 26 _ _) _ _ _ _ :: _) _ _)); refine wl_store info6p rfl rfl rfl rfl (by (repeat (first | assumption | (with_reducible refine alloc_at ?_; (focus (first | omega | (simp; done) | (simp; omega)))) | (with_reducible refine boxed_at ?_; (focus (first | omega | (simp; done) | (simp; omega)))) | (with_reducible refine alloc_old ?_ ?_; (focus (first | omega | (simp; done) | (simp; omega)))) | (with_reducible refine boxed_old ?_ ?_; (focus (first | omega | (simp; done) | (simp; omega)))) | (with_reducible refine drew_old ?_)))) (by rfl) (by rfl) (by first | exact Cv.arr_one _ | exact Nv.arr_one _ | exact Av.arr_one rfl | exact Pv.arr_one _ | simp [Value.oneCell']) ?_))
  obtain ⟨hof1, ⟨hof2, hof3⟩, ⟨hof4, hof5⟩, ⟨hof6, hof7⟩⟩ := Pv.of_bd a0
  obtain ⟨P, hP⟩ : ∃ P, (⟨9, (Pv.of a0).u, (Pv.of a0).e, (Pv.of a0).t, true, false⟩ : Pv) = P := ⟨_, rfl⟩
  have hP0 : (0 ≤ P.a ∧ P.a ≤ 2999) ∧ (0 ≤ P.u ∧ P.u ≤ 3) ∧ (1 ≤ P.e ∧ P.e ≤ 3) ∧ (0 ≤ P.t ∧ P.t ≤ 10) := by
    rw [← hP]
    refine ⟨?_, ⟨hof2, hof3⟩, ⟨hof4, hof5⟩, ?_⟩ <;> dsimp only <;> omega
  obtain ⟨F, hF⟩ : ∃ F, 700000 + a1 = F := ⟨_, rfl⟩
  have hF0 : 700000 ≤ F := by omega
  have hF1 : F ≤ 765535 := by omega
  have HPP := Lib.hid hP
  have HP0 := Lib.hid hP0
  have hT : (w2.alloc (.cells P.arr 26)).heap[w2.heap.size]? = some (.cells P.arr 26 (0, 0)) := alloc_at rfl
  have hW0 : Below w.heap.size w (w2.alloc (.cells P.arr 26)) := HW2.out.alloc HW2.out.size _
  have hT0 : w.heap.size ≤ w2.heap.size := HW2.out.size
  have hT1 : w2.heap.size < (w2.alloc (.cells P.arr 26)).heap.size := by simp
  rw [hP, hF]
  clear hP hP0 hof1 hof2 hof3 hof4 hof5 hof6 hof7 HW2
  obtain ⟨T, hTT⟩ : ∃ T, w2.heap.size = T := ⟨_, rfl⟩
  obtain ⟨W0, hWW⟩ : ∃ W0, w2.alloc (.cells P.arr 26) = W0 := ⟨_, rfl⟩
  rw [hWW] at hT hW0 hT1 ⊢
  rw [hTT] at hT hT0 hT1 ⊢
  have HT := Lib.hid hT
  have HW0 := Lib.hid hW0
  have HF := Lib.hid hF
  clear hTT hWW hT hW0 hF
  have hpu := HP0.out.2.1
  have hpe := HP0.out.2.2.1
  have hpt := HP0.out.2.2.2
  obtain ⟨k, d, hAt⟩ := Cal.at_of (F + P.t) (by omega) (by omega)
  obtain ⟨c, hCn⟩ := Cal.cnt_of (u := P.u) (e := P.e) (day := F + a2) hAt hpe.1 (by omega) (by omega)
  have hc0 := hCn.nn
  have hc1 : c ≤ 1000 := by
    by_cases h : 1 ≤ c
    · have := hCn.le hAt hpe.1 h; omega
    · omega
  have HAT := Lib.hid hAt
  have HCN := Lib.hid hCn
  clear hAt hCn
  have WA : Hid (IntKind.i64.wrap a2 = a2) := by show _ = _; rw [IntKind.wrap_i64]; omega
  have WB : Hid (IntKind.i64.wrap (F + a2) = F + a2) := by show _ = _; rw [IntKind.wrap_i64]; omega
  obtain ⟨x, hx⟩ : ∃ x, Av.runs (Cal.vN P.u (F + P.t) k d P.e) P c c.toNat (Av.opened 0 (F + P.t)) = x := ⟨_, rfl⟩
  have HX := Lib.hid hx
  clear hx
  have HS0 : Hid ((fun w' : World => w'.heap[T]? = some (.cells P.arr 26 (0, 0))) W0.drew) := HT.out
  apply region_frame (fun Z A1 c1 w' => Hid (Below w.heap.size w w') ∧ Hid ((fun w' : World => w'.heap[T]? = some (.cells P.arr 26 (0, 0))) w') ∧ Hid (w'.heap[Z]? = some (.cells (x.arr (.slice A1 x.l.length c1)) 33 (0, 0))) ∧ Hid (Cys w' (T + 1) w'.heap.size (.slice A1 x.l.length c1) x.l) ∧ T < Z ∧ Z < w'.heap.size)
  · refine lane_start (ord := [0, 1, 3, 4, 5, 6, 7, 2, 8, 9, 10, 11, 12, 13, 14]) (S := (fun w' : World => w'.heap[T]? = some (.cells P.arr 26 (0, 0)))) rfl (by kernel_rfl) (by exact HS0.out) (fun _ => ?_)
    refine lane_take (v := .agg P.arr) rfl (by kernel_rfl) (by kernel_rfl) (by rfl) (fun W hSw => exec_load rfl rfl (run_loadAt_row W T 26 26 _ (0, 0) _ hSw Try.underlying26 rfl info6p)) (by exact HS0.out) ?_
    simp only [Act.put, List.setIfInBounds_toArray, List.set_cons_zero, List.set_cons_succ]
    (refine lane_take (v := ?_) rfl (by kernel_rfl) (by kernel_rfl) (by rfl) ?_ (by exact HS0.out) ?_; rotate_left; (focus (intro W hSw; go_simp; try (with_reducible rfl))); simp only [Act.put, List.setIfInBounds_toArray, List.set_cons_zero, List.set_cons_succ])
    refine lane_take (v := .agg P.arr) rfl (by kernel_rfl) (by kernel_rfl) (by rfl) (fun W hSw => exec_load rfl rfl (run_loadAt_row W T 26 26 _ (0, 0) _ hSw Try.underlying26 rfl info6p)) (by exact HS0.out) ?_
    simp only [Act.put, List.setIfInBounds_toArray, List.set_cons_zero, List.set_cons_succ]
    (refine lane_take (v := ?_) rfl (by kernel_rfl) (by kernel_rfl) (by rfl) ?_ (by exact HS0.out) ?_; rotate_left; (focus (intro W hSw; go_simp; try (with_reducible rfl))); simp only [Act.put, List.setIfInBounds_toArray, List.set_cons_zero, List.set_cons_succ])
    (refine lane_take (v := ?_) rfl (by kernel_rfl) (by kernel_rfl) (by rfl) ?_ (by exact HS0.out) ?_; rotate_left; (focus (intro W hSw; go_simp; try (with_reducible rfl))); simp only [Act.put, List.setIfInBounds_toArray, List.set_cons_zero, List.set_cons_succ])
    (refine lane_take (v := ?_) rfl (by kernel_rfl) (by kernel_rfl) (by rfl) ?_ (by exact HS0.out) ?_; rotate_left; (focus (intro W hSw; go_simp; try (with_reducible rfl))); simp only [Act.put, List.setIfInBounds_toArray, List.set_cons_zero, List.set_cons_succ])
    (refine lane_take (v := ?_) rfl (by kernel_rfl) (by kernel_rfl) (by rfl) ?_ (by exact HS0.out) ?_; rotate_left; (focus (intro W hSw; go_simp; try (with_reducible rfl))); simp only [Act.put, List.setIfInBounds_toArray, List.set_cons_zero, List.set_cons_succ])
    rw [WA.out, WB.out]
    refine lane_two (i := 2) (j := 12) (ordI := [8, 9, 10, 11, 12, 13, 14]) (ordJ := [2, 8, 9, 10, 11, 13, 14]) rfl rfl (by kernel_rfl) rfl (by rfl) (by rfl) (fun K hK => ?_) (fun K hK => ?_)
    · go_simp
      refine (open_any (p := P) 0 F (by have := HP0.out.2.2.2; omega)).mono ?_
      rintro e W1 ⟨rfl, hb⟩
      have hb0 : Below W0.heap.size W0 W1 := (Below.refl _ W0).drew.trans hb
      have HS1 : Hid ((fun w' : World => w'.heap[T]? = some (.cells P.arr 26 (0, 0))) W1) := (hb0.block T hT1).trans HT.out
      have HW1 : Hid (Below w.heap.size w W1) := HW0.out.trans (hb0.mono HW0.out.size)
      have hz1 : W0.heap.size ≤ W1.heap.size := hb0.size
      clear hb hb0
      refine hK _ _ HS1.out (fun _ => ?_)
      clear hK K
      refine lane_two (i := 8) (j := 12) (ordI := [9, 10, 11, 12, 13, 14]) (ordJ := [8, 9, 10, 11, 13, 14]) rfl rfl (by kernel_rfl) rfl (by rfl) (by rfl) (fun K hK => ?_) (fun K hK => ?_)
      · go_simp
        refine (daycalm_any (a := Av.opened 0 (F + P.t)) (p := P) (m := 0) (y := (F + a2)) (c := c) (k := k) (d := d) Cys.nil (Av.opened_fine _ _) (by omega) (by show (1 : Int) ≠ 3; decide) HAT.out HP0.out.2.1 ⟨HP0.out.2.2.1.1, by have := HP0.out.2.2.1.2; omega⟩ ⟨by show (0 : Int) ≤ 0; omega, by show (0 : Int) ≤ 100000; omega⟩ (by show c ≤ 0 + 10000; omega) HCN.out ⟨HP0.out.1.1, by have := HP0.out.1.2; omega⟩).mono ?_
        rw [show (c - (Av.opened 0 (F + P.t)).ix).toNat = c.toNat from by show (c - 0).toNat = _; rw [Int.sub_zero]]
        rw [show (Av.opened 0 (F + P.t)).an = F + P.t from rfl]
        rw [HX.out]
        rintro e W3 ⟨v1, rfl, ho3, hb3⟩
        obtain ⟨A1, c1, rfl, _, _⟩ := ho3.form
        have HS3 : Hid ((fun w' : World => w'.heap[T]? = some (.cells P.arr 26 (0, 0))) W3) := (hb3.block T (by omega)).trans HS1.out
        have HW3 : Hid (Below w.heap.size w W3) := HW1.out.trans (hb3.mono HW1.out.size)
        have HC3 : Hid (Cys W3 W1.heap.size W3.heap.size (.slice A1 x.l.length c1) x.l) := ho3.cys
        have hz3 : W1.heap.size ≤ W3.heap.size := hb3.size
        clear hb3 ho3 HS1 HW1
        refine hK _ _ HS3.out (fun _ => ?_)
        clear hK K
        (refine lane_take (v := ?_) rfl (by kernel_rfl) (by kernel_rfl) (by rfl) ?_ (by exact HS3.out) ?_; rotate_left; (focus (intro W hSw; go_simp; try (with_reducible rfl))); simp only [Act.put, List.setIfInBounds_toArray, List.set_cons_zero, List.set_cons_succ])
        (refine lane_take (v := ?_) rfl (by kernel_rfl) (by kernel_rfl) (by rfl) ?_ (by exact HS3.out) ?_; rotate_left; (focus (intro W hSw; go_simp; try (with_reducible rfl))); simp only [Act.put, List.setIfInBounds_toArray, List.set_cons_zero, List.set_cons_succ])
        (refine lane_take (v := ?_) rfl (by kernel_rfl) (by kernel_rfl) (by rfl) ?_ (by exact HS3.out) ?_; rotate_left; (focus (intro W hSw; go_simp; try (with_reducible rfl))); simp only [Act.put, List.setIfInBounds_toArray, List.set_cons_zero, List.set_cons_succ])
        refine lane_alone rfl (by kernel_rfl) (by rfl) (fun K hK => ?_)
        go_simp
        have HZ : Hid ((W3.alloc (.cells #[.int .u8 0, .int .i64 0, .int .i64 0, .int .i64 0, .int .i64 0, .int .i64 0, .bool false, .slice none 0 0, .int .i64 0, .int .i64 0, .int .i64 0, .int .i64 0, .int .i64 0] 33)).heap[W3.heap.size]? = some (.cells #[.int .u8 0, .int .i64 0, .int .i64 0, .int .i64 0, .int .i64 0, .int .i64 0, .bool false, .slice none 0 0, .int .i64 0, .int .i64 0, .int .i64 0, .int .i64 0, .int .i64 0] 33 (0, 0))) := alloc_at rfl
        have HS4 : Hid ((fun w' : World => w'.heap[T]? = some (.cells P.arr 26 (0, 0))) (W3.alloc (.cells #[.int .u8 0, .int .i64 0, .int .i64 0, .int .i64 0, .int .i64 0, .int .i64 0, .bool false, .slice none 0 0, .int .i64 0, .int .i64 0, .int .i64 0, .int .i64 0, .int .i64 0] 33))) := alloc_old (by omega) HS3.out
        have HW4 : Hid (Below w.heap.size w (W3.alloc (.cells #[.int .u8 0, .int .i64 0, .int .i64 0, .int .i64 0, .int .i64 0, .int .i64 0, .bool false, .slice none 0 0, .int .i64 0, .int .i64 0, .int .i64 0, .int .i64 0, .int .i64 0] 33))) := HW3.out.alloc HW3.out.size _
        have HC4 : Hid (Cys (W3.alloc (.cells #[.int .u8 0, .int .i64 0, .int .i64 0, .int .i64 0, .int .i64 0, .int .i64 0, .bool false, .slice none 0 0, .int .i64 0, .int .i64 0, .int .i64 0, .int .i64 0, .int .i64 0] 33)) W1.heap.size W3.heap.size (.slice A1 x.l.length c1) x.l) := HC3.out.below ((Below.refl _ W3).alloc (Nat.le_refl _) _)
        have hzz : W3.heap.size < (W3.alloc (.cells #[.int .u8 0, .int .i64 0, .int .i64 0, .int .i64 0, .int .i64 0, .int .i64 0, .bool false, .slice none 0 0, .int .i64 0, .int .i64 0, .int .i64 0, .int .i64 0, .int .i64 0] 33)).heap.size := by simp
        refine hK _ _ HS4.out (fun _ => ?_)
        clear hK K
        refine lane_alone rfl (by kernel_rfl) (by rfl) (fun K hK => ?_)
        refine wp_store_row _ _ _ rfl W3.heap.size _ rfl rfl _ _ HZ.out (by exact info13) rfl (Av.arr_one rfl) ?_
        rw [row_boxed HZ.out]
        refine hK _ _ ((boxed_block_other (by omega)).trans HS4.out) (fun _ => ?_)
        clear hK K
        have hS5 : (fun w' : World => w'.heap[T]? = some (.cells P.arr 26 (0, 0))) (boxed (W3.alloc (.cells #[.int .u8 0, .int .i64 0, .int .i64 0, .int .i64 0, .int .i64 0, .int .i64 0, .bool false, .slice none 0 0, .int .i64 0, .int .i64 0, .int .i64 0, .int .i64 0, .int .i64 0] 33)) W3.heap.size (x.arr (.slice A1 x.l.length c1)) 33) := (boxed_block_other (by omega)).trans HS4.out
        have hZ5 : (boxed (W3.alloc (.cells #[.int .u8 0, .int .i64 0, .int .i64 0, .int .i64 0, .int .i64 0, .int .i64 0, .bool false, .slice none 0 0, .int .i64 0, .int .i64 0, .int .i64 0, .int .i64 0, .int .i64 0] 33)) W3.heap.size (x.arr (.slice A1 x.l.length c1)) 33).heap[W3.heap.size]? = some (.cells (x.arr (.slice A1 x.l.length c1)) 33 (0, 0)) := boxed_at hzz
        have hW5 : Below w.heap.size w (boxed (W3.alloc (.cells #[.int .u8 0, .int .i64 0, .int .i64 0, .int .i64 0, .int .i64 0, .int .i64 0, .bool false, .slice none 0 0, .int .i64 0, .int .i64 0, .int .i64 0, .int .i64 0, .int .i64 0] 33)) W3.heap.size (x.arr (.slice A1 x.l.length c1)) 33) := boxed_below HW4.out (by omega)
        have hC5 : Cys (boxed (W3.alloc (.cells #[.int .u8 0, .int .i64 0, .int .i64 0, .int .i64 0, .int .i64 0, .int .i64 0, .bool false, .slice none 0 0, .int .i64 0, .int .i64 0, .int .i64 0, .int .i64 0, .int .i64 0] 33)) W3.heap.size (x.arr (.slice A1 x.l.length c1)) 33) (T + 1) (boxed (W3.alloc (.cells #[.int .u8 0, .int .i64 0, .int .i64 0, .int .i64 0, .int .i64 0, .int .i64 0, .bool false, .slice none 0 0, .int .i64 0, .int .i64 0, .int .i64 0, .int .i64 0, .int .i64 0] 33)) W3.heap.size (x.arr (.slice A1 x.l.length c1)) 33).heap.size (.slice A1 x.l.length c1) x.l := (HC4.out.boxed (.inr (Nat.le_refl _))).more (by omega) (by simp only [boxed_size]; omega)
        have hzz5 : W3.heap.size < (boxed (W3.alloc (.cells #[.int .u8 0, .int .i64 0, .int .i64 0, .int .i64 0, .int .i64 0, .int .i64 0, .bool false, .slice none 0 0, .int .i64 0, .int .i64 0, .int .i64 0, .int .i64 0, .int .i64 0] 33)) W3.heap.size (x.arr (.slice A1 x.l.length c1)) 33).heap.size := by simp only [boxed_size]; exact hzz
        have hZT : T < W3.heap.size := by omega
        obtain ⟨W5, hW5e⟩ : ∃ W5, boxed (W3.alloc (.cells #[.int .u8 0, .int .i64 0, .int .i64 0, .int .i64 0, .int .i64 0, .int .i64 0, .bool false, .slice none 0 0, .int .i64 0, .int .i64 0, .int .i64 0, .int .i64 0, .int .i64 0] 33)) W3.heap.size (x.arr (.slice A1 x.l.length c1)) 33 = W5 := ⟨_, rfl⟩
        rw [hW5e] at hS5 hZ5 hW5 hC5 hzz5 ⊢
        obtain ⟨Z, hZe⟩ : ∃ Z, W3.heap.size = Z := ⟨_, rfl⟩
        rw [hZe] at hZ5 hzz5 hZT ⊢
        have HS5 := Lib.hid hS5
        have HZ5 := Lib.hid hZ5
        have HW5 := Lib.hid hW5
        have HC5 := Lib.hid hC5
        clear hW5e hZe hS5 hZ5 hW5 hC5 HZ HS4 HW4 HC4 hzz
        refine lane_alone rfl (by kernel_rfl) (by rfl) (fun K hK => ?_)
        go_simp
        refine hK _ _ HS5.out (fun _ => ?_)
        clear hK K
        refine lane_end (by kernel_rfl) ?_
        exact ⟨rfl, _, _, _, rfl, HW5, HS5, HZ5, HC5, hZT, hzz5⟩
      · go_simp
        have hZ2 : (W1.alloc (.cells #[.int .u8 0, .int .i64 0, .int .i64 0, .int .i64 0, .int .i64 0, .int .i64 0, .bool false, .slice none 0 0, .int .i64 0, .int .i64 0, .int .i64 0, .int .i64 0, .int .i64 0] 33)).heap[W1.heap.size]? = some (.cells #[.int .u8 0, .int .i64 0, .int .i64 0, .int .i64 0, .int .i64 0, .int .i64 0, .bool false, .slice none 0 0, .int .i64 0, .int .i64 0, .int .i64 0, .int .i64 0, .int .i64 0] 33 (0, 0)) := alloc_at rfl
        have HS2 : Hid ((fun w' : World => w'.heap[T]? = some (.cells P.arr 26 (0, 0))) (W1.alloc (.cells #[.int .u8 0, .int .i64 0, .int .i64 0, .int .i64 0, .int .i64 0, .int .i64 0, .bool false, .slice none 0 0, .int .i64 0, .int .i64 0, .int .i64 0, .int .i64 0, .int .i64 0] 33))) := alloc_old (by omega) HS1.out
        have HW2 : Hid (Below w.heap.size w (W1.alloc (.cells #[.int .u8 0, .int .i64 0, .int .i64 0, .int .i64 0, .int .i64 0, .int .i64 0, .bool false, .slice none 0 0, .int .i64 0, .int .i64 0, .int .i64 0, .int .i64 0, .int .i64 0] 33))) := HW1.out.alloc HW1.out.size _
        have hz2 : (W1.alloc (.cells #[.int .u8 0, .int .i64 0, .int .i64 0, .int .i64 0, .int .i64 0, .int .i64 0, .bool false, .slice none 0 0, .int .i64 0, .int .i64 0, .int .i64 0, .int .i64 0, .int .i64 0] 33)).heap.size = W1.heap.size + 1 := by simp
        refine hK _ _ HS2.out (fun _ => ?_)
        clear hK K
        refine lane_alone rfl (by kernel_rfl) (by rfl) (fun K hK => ?_)
        go_simp
        refine (daycalm_any (a := Av.opened 0 (F + P.t)) (p := P) (m := 0) (y := (F + a2)) (c := c) (k := k) (d := d) Cys.nil (Av.opened_fine _ _) (by omega) (by show (1 : Int) ≠ 3; decide) HAT.out HP0.out.2.1 ⟨HP0.out.2.2.1.1, by have := HP0.out.2.2.1.2; omega⟩ ⟨by show (0 : Int) ≤ 0; omega, by show (0 : Int) ≤ 100000; omega⟩ (by show c ≤ 0 + 10000; omega) HCN.out ⟨HP0.out.1.1, by have := HP0.out.1.2; omega⟩).mono ?_
        rw [show (c - (Av.opened 0 (F + P.t)).ix).toNat = c.toNat from by show (c - 0).toNat = _; rw [Int.sub_zero]]
        rw [show (Av.opened 0 (F + P.t)).an = F + P.t from rfl]
        rw [HX.out]
        rintro e W4 ⟨v1, rfl, ho3, hb3⟩
        obtain ⟨A1, c1, rfl, _, _⟩ := ho3.form
        have HS4 : Hid ((fun w' : World => w'.heap[T]? = some (.cells P.arr 26 (0, 0))) W4) := (hb3.block T (by omega)).trans HS2.out
        have HS3 := HS4
        have HW4 : Hid (Below w.heap.size w W4) := HW2.out.trans (hb3.mono HW2.out.size)
        have HC4 : Hid (Cys W4 (W1.alloc (.cells #[.int .u8 0, .int .i64 0, .int .i64 0, .int .i64 0, .int .i64 0, .int .i64 0, .bool false, .slice none 0 0, .int .i64 0, .int .i64 0, .int .i64 0, .int .i64 0, .int .i64 0] 33)).heap.size W4.heap.size (.slice A1 x.l.length c1) x.l) := ho3.cys
        have hz3 : (W1.alloc (.cells #[.int .u8 0, .int .i64 0, .int .i64 0, .int .i64 0, .int .i64 0, .int .i64 0, .bool false, .slice none 0 0, .int .i64 0, .int .i64 0, .int .i64 0, .int .i64 0, .int .i64 0] 33)).heap.size ≤ W4.heap.size := hb3.size
        have HZ : Hid (W4.heap[W1.heap.size]? = some (.cells #[.int .u8 0, .int .i64 0, .int .i64 0, .int .i64 0, .int .i64 0, .int .i64 0, .bool false, .slice none 0 0, .int .i64 0, .int .i64 0, .int .i64 0, .int .i64 0, .int .i64 0] 33 (0, 0))) := (hb3.block _ (by omega)).trans hZ2
        have hzz : W1.heap.size < W4.heap.size := by omega
        clear hb3 ho3 HS2 HW2 hZ2
        refine hK _ _ HS4.out (fun _ => ?_)
        clear hK K
        (refine lane_take (v := ?_) rfl (by kernel_rfl) (by kernel_rfl) (by rfl) ?_ (by exact HS3.out) ?_; rotate_left; (focus (intro W hSw; go_simp; try (with_reducible rfl))); simp only [Act.put, List.setIfInBounds_toArray, List.set_cons_zero, List.set_cons_succ])
        (refine lane_take (v := ?_) rfl (by kernel_rfl) (by kernel_rfl) (by rfl) ?_ (by exact HS3.out) ?_; rotate_left; (focus (intro W hSw; go_simp; try (with_reducible rfl))); simp only [Act.put, List.setIfInBounds_toArray, List.set_cons_zero, List.set_cons_succ])
        (refine lane_take (v := ?_) rfl (by kernel_rfl) (by kernel_rfl) (by rfl) ?_ (by exact HS3.out) ?_; rotate_left; (focus (intro W hSw; go_simp; try (with_reducible rfl))); simp only [Act.put, List.setIfInBounds_toArray, List.set_cons_zero, List.set_cons_succ])
        refine lane_alone rfl (by kernel_rfl) (by rfl) (fun K hK => ?_)
        refine wp_store_row _ _ _ rfl W1.heap.size _ rfl rfl _ _ HZ.out (by exact info13) rfl (Av.arr_one rfl) ?_
        rw [row_boxed HZ.out]
        refine hK _ _ ((boxed_block_other (by omega)).trans HS4.out) (fun _ => ?_)
        clear hK K
        have hS5 : (fun w' : World => w'.heap[T]? = some (.cells P.arr 26 (0, 0))) (boxed W4 W1.heap.size (x.arr (.slice A1 x.l.length c1)) 33) := (boxed_block_other (by omega)).trans HS4.out
        have hZ5 : (boxed W4 W1.heap.size (x.arr (.slice A1 x.l.length c1)) 33).heap[W1.heap.size]? = some (.cells (x.arr (.slice A1 x.l.length c1)) 33 (0, 0)) := boxed_at hzz
        have hW5 : Below w.heap.size w (boxed W4 W1.heap.size (x.arr (.slice A1 x.l.length c1)) 33) := boxed_below HW4.out (by omega)
        have hC5 : Cys (boxed W4 W1.heap.size (x.arr (.slice A1 x.l.length c1)) 33) (T + 1) (boxed W4 W1.heap.size (x.arr (.slice A1 x.l.length c1)) 33).heap.size (.slice A1 x.l.length c1) x.l := (HC4.out.boxed (.inl (by omega))).more (by omega) (by simp only [boxed_size]; omega)
        have hzz5 : W1.heap.size < (boxed W4 W1.heap.size (x.arr (.slice A1 x.l.length c1)) 33).heap.size := by simp only [boxed_size]; exact hzz
        have hZT : T < W1.heap.size := by omega
        obtain ⟨W5, hW5e⟩ : ∃ W5, boxed W4 W1.heap.size (x.arr (.slice A1 x.l.length c1)) 33 = W5 := ⟨_, rfl⟩
        rw [hW5e] at hS5 hZ5 hW5 hC5 hzz5 ⊢
        obtain ⟨Z, hZe⟩ : ∃ Z, W1.heap.size = Z := ⟨_, rfl⟩
        rw [hZe] at hZ5 hzz5 hZT ⊢
        have HS5 := Lib.hid hS5
        have HZ5 := Lib.hid hZ5
        have HW5 := Lib.hid hW5
        have HC5 := Lib.hid hC5
        clear hW5e hZe hS5 hZ5 hW5 hC5 HZ HS4 HW4 HC4 hzz
        refine lane_alone rfl (by kernel_rfl) (by rfl) (fun K hK => ?_)
        go_simp
        refine hK _ _ HS5.out (fun _ => ?_)
        clear hK K
        refine lane_end (by kernel_rfl) ?_
        exact ⟨rfl, _, _, _, rfl, HW5, HS5, HZ5, HC5, hZT, hzz5⟩
    · go_simp
      have hZ0 : (W0.alloc (.cells #[.int .u8 0, .int .i64 0, .int .i64 0, .int .i64 0, .int .i64 0, .int .i64 0, .bool false, .slice none 0 0, .int .i64 0, .int .i64 0, .int .i64 0, .int .i64 0, .int .i64 0] 33)).heap[W0.heap.size]? = some (.cells #[.int .u8 0, .int .i64 0, .int .i64 0, .int .i64 0, .int .i64 0, .int .i64 0, .bool false, .slice none 0 0, .int .i64 0, .int .i64 0, .int .i64 0, .int .i64 0, .int .i64 0] 33 (0, 0)) := alloc_at rfl
      have hT00 : (W0.alloc (.cells #[.int .u8 0, .int .i64 0, .int .i64 0, .int .i64 0, .int .i64 0, .int .i64 0, .bool false, .slice none 0 0, .int .i64 0, .int .i64 0, .int .i64 0, .int .i64 0, .int .i64 0] 33)).heap[T]? = some (.cells P.arr 26 (0, 0)) := alloc_old hT1 HT.out
      have hZ1 : ((W0.alloc (.cells #[.int .u8 0, .int .i64 0, .int .i64 0, .int .i64 0, .int .i64 0, .int .i64 0, .bool false, .slice none 0 0, .int .i64 0, .int .i64 0, .int .i64 0, .int .i64 0, .int .i64 0] 33)).drew).heap[W0.heap.size]? = some (.cells #[.int .u8 0, .int .i64 0, .int .i64 0, .int .i64 0, .int .i64 0, .int .i64 0, .bool false, .slice none 0 0, .int .i64 0, .int .i64 0, .int .i64 0, .int .i64 0, .int .i64 0] 33 (0, 0)) := hZ0
      have HS1 : Hid ((fun w' : World => w'.heap[T]? = some (.cells P.arr 26 (0, 0))) ((W0.alloc (.cells #[.int .u8 0, .int .i64 0, .int .i64 0, .int .i64 0, .int .i64 0, .int .i64 0, .bool false, .slice none 0 0, .int .i64 0, .int .i64 0, .int .i64 0, .int .i64 0, .int .i64 0] 33)).drew)) := hT00
      have HW1 : Hid (Below w.heap.size w ((W0.alloc (.cells #[.int .u8 0, .int .i64 0, .int .i64 0, .int .i64 0, .int .i64 0, .int .i64 0, .bool false, .slice none 0 0, .int .i64 0, .int .i64 0, .int .i64 0, .int .i64 0, .int .i64 0] 33)).drew)) := (HW0.out.alloc HW0.out.size _).drew
      have hz1 : ((W0.alloc (.cells #[.int .u8 0, .int .i64 0, .int .i64 0, .int .i64 0, .int .i64 0, .int .i64 0, .bool false, .slice none 0 0, .int .i64 0, .int .i64 0, .int .i64 0, .int .i64 0, .int .i64 0] 33)).drew).heap.size = W0.heap.size + 1 := by show (W0.alloc _).heap.size = _; rw [World.size_alloc]
      clear hZ0 hT00
      refine hK _ _ HS1.out (fun _ => ?_)
      clear hK K
      refine lane_alone rfl (by kernel_rfl) (by rfl) (fun K hK => ?_)
      go_simp
      refine (open_any (p := P) 0 F (by have := HP0.out.2.2.2; omega)).mono ?_
      rintro e W2 ⟨rfl, hb⟩
      have hZ2 : W2.heap[W0.heap.size]? = some (.cells #[.int .u8 0, .int .i64 0, .int .i64 0, .int .i64 0, .int .i64 0, .int .i64 0, .bool false, .slice none 0 0, .int .i64 0, .int .i64 0, .int .i64 0, .int .i64 0, .int .i64 0] 33 (0, 0)) := (hb.block _ (by omega)).trans hZ1
      have HS2 : Hid ((fun w' : World => w'.heap[T]? = some (.cells P.arr 26 (0, 0))) W2) := (hb.block T (by omega)).trans HS1.out
      have HW2 : Hid (Below w.heap.size w W2) := HW1.out.trans (hb.mono HW1.out.size)
      have hz2 : W0.heap.size + 1 ≤ W2.heap.size := by have := hb.size; omega
      clear hb hZ1 HS1 HW1
      refine hK _ _ HS2.out (fun _ => ?_)
      clear hK K
      refine lane_alone rfl (by kernel_rfl) (by rfl) (fun K hK => ?_)
      go_simp
      refine (daycalm_any (a := Av.opened 0 (F + P.t)) (p := P) (m := 0) (y := (F + a2)) (c := c) (k := k) (d := d) Cys.nil (Av.opened_fine _ _) (by omega) (by show (1 : Int) ≠ 3; decide) HAT.out HP0.out.2.1 ⟨HP0.out.2.2.1.1, by have := HP0.out.2.2.1.2; omega⟩ ⟨by show (0 : Int) ≤ 0; omega, by show (0 : Int) ≤ 100000; omega⟩ (by show c ≤ 0 + 10000; omega) HCN.out ⟨HP0.out.1.1, by have := HP0.out.1.2; omega⟩).mono ?_
      rw [show (c - (Av.opened 0 (F + P.t)).ix).toNat = c.toNat from by show (c - 0).toNat = _; rw [Int.sub_zero]]
      rw [show (Av.opened 0 (F + P.t)).an = F + P.t from rfl]
      rw [HX.out]
      rintro e W4 ⟨v1, rfl, ho3, hb3⟩
      obtain ⟨A1, c1, rfl, _, _⟩ := ho3.form
      have HS4 : Hid ((fun w' : World => w'.heap[T]? = some (.cells P.arr 26 (0, 0))) W4) := (hb3.block T (by omega)).trans HS2.out
      have HS3 := HS4
      have HW4 : Hid (Below w.heap.size w W4) := HW2.out.trans (hb3.mono HW2.out.size)
      have HC4 : Hid (Cys W4 W2.heap.size W4.heap.size (.slice A1 x.l.length c1) x.l) := ho3.cys
      have hz3 : W2.heap.size ≤ W4.heap.size := hb3.size
      have HZ : Hid (W4.heap[W0.heap.size]? = some (.cells #[.int .u8 0, .int .i64 0, .int .i64 0, .int .i64 0, .int .i64 0, .int .i64 0, .bool false, .slice none 0 0, .int .i64 0, .int .i64 0, .int .i64 0, .int .i64 0, .int .i64 0] 33 (0, 0))) := (hb3.block _ (by omega)).trans hZ2
      have hzz : W0.heap.size < W4.heap.size := by omega
      clear hb3 ho3 HS2 HW2 hZ2
      refine hK _ _ HS4.out (fun _ => ?_)
      clear hK K
      (refine lane_take (v := ?_) rfl (by kernel_rfl) (by kernel_rfl) (by rfl) ?_ (by exact HS3.out) ?_; rotate_left; (focus (intro W hSw; go_simp; try (with_reducible rfl))); simp only [Act.put, List.setIfInBounds_toArray, List.set_cons_zero, List.set_cons_succ])
      (refine lane_take (v := ?_) rfl (by kernel_rfl) (by kernel_rfl) (by rfl) ?_ (by exact HS3.out) ?_; rotate_left; (focus (intro W hSw; go_simp; try (with_reducible rfl))); simp only [Act.put, List.setIfInBounds_toArray, List.set_cons_zero, List.set_cons_succ])
      (refine lane_take (v := ?_) rfl (by kernel_rfl) (by kernel_rfl) (by rfl) ?_ (by exact HS3.out) ?_; rotate_left; (focus (intro W hSw; go_simp; try (with_reducible rfl))); simp only [Act.put, List.setIfInBounds_toArray, List.set_cons_zero, List.set_cons_succ])
      refine lane_alone rfl (by kernel_rfl) (by rfl) (fun K hK => ?_)
      refine wp_store_row _ _ _ rfl W0.heap.size _ rfl rfl _ _ HZ.out (by exact info13) rfl (Av.arr_one rfl) ?_
      rw [row_boxed HZ.out]
      refine hK _ _ ((boxed_block_other (by omega)).trans HS4.out) (fun _ => ?_)
      clear hK K
      have hS5 : (fun w' : World => w'.heap[T]? = some (.cells P.arr 26 (0, 0))) (boxed W4 W0.heap.size (x.arr (.slice A1 x.l.length c1)) 33) := (boxed_block_other (by omega)).trans HS4.out
      have hZ5 : (boxed W4 W0.heap.size (x.arr (.slice A1 x.l.length c1)) 33).heap[W0.heap.size]? = some (.cells (x.arr (.slice A1 x.l.length c1)) 33 (0, 0)) := boxed_at hzz
      have hW5 : Below w.heap.size w (boxed W4 W0.heap.size (x.arr (.slice A1 x.l.length c1)) 33) := boxed_below HW4.out (by omega)
      have hC5 : Cys (boxed W4 W0.heap.size (x.arr (.slice A1 x.l.length c1)) 33) (T + 1) (boxed W4 W0.heap.size (x.arr (.slice A1 x.l.length c1)) 33).heap.size (.slice A1 x.l.length c1) x.l := (HC4.out.boxed (.inl (by omega))).more (by omega) (by simp only [boxed_size]; omega)
      have hzz5 : W0.heap.size < (boxed W4 W0.heap.size (x.arr (.slice A1 x.l.length c1)) 33).heap.size := by simp only [boxed_size]; exact hzz
      have hZT : T < W0.heap.size := by omega
      obtain ⟨W5, hW5e⟩ : ∃ W5, boxed W4 W0.heap.size (x.arr (.slice A1 x.l.length c1)) 33 = W5 := ⟨_, rfl⟩
      rw [hW5e] at hS5 hZ5 hW5 hC5 hzz5 ⊢
      obtain ⟨Z, hZe⟩ : ∃ Z, W0.heap.size = Z := ⟨_, rfl⟩
      rw [hZe] at hZ5 hzz5 hZT ⊢
      have HS5 := Lib.hid hS5
      have HZ5 := Lib.hid hZ5
      have HW5 := Lib.hid hW5
      have HC5 := Lib.hid hC5
      clear hW5e hZe hS5 hZ5 hW5 hC5 HZ HS4 HW4 HC4 hzz
      refine lane_alone rfl (by kernel_rfl) (by rfl) (fun K hK => ?_)
      go_simp
      refine hK _ _ HS5.out (fun _ => ?_)
      clear hK K
      refine lane_end (by kernel_rfl) ?_
      exact ⟨rfl, _, _, _, rfl, HW5, HS5, HZ5, HC5, hZT, hzz5⟩
  · intro Z A1 c1 W5 ⟨HW5, HS5, HZ5, HC5, hZT, hzz5⟩
    have hPl : P.l = false := by rw [← HPP.out]
    have hPa : P.a = 9 := by rw [← HPP.out]
    have hPg : P.g = true := by rw [← HPP.out]
    obtain ⟨m, hm⟩ : ∃ m : Nat, c = m := ⟨c.toNat, by omega⟩
    subst hm
    have hxe : x = ⟨1, 0, F + P.t, m, m, 0, false, (List.range m).map (dueAt (Cal.vN P.u (F + P.t) k d P.e) 9), 0, 0, 0, 0, 0⟩ := by
      rw [← HX.out, Int.toNat_natCast, dues_all hPl (by omega) hPg, hPa]
    have hxl : x.l.length = m := by rw [hxe]; simp
    have hxc : x.ct = m := by rw [hxe]
    have hxi : x.ix = m := by rw [hxe]
    have hget : ∀ j : Nat, j < m → x.l[j]? = some (dueAt (Cal.vN P.u (F + P.t) k d P.e) 9 j) := fun j hj => by
      rw [hxe]; simp [hj]
    have HGET := Lib.hid hget
    have HXL := Lib.hid hxl
    have hz := HZ5.out
    have hc5 := HC5.out
    rw [hxl] at hz hc5
    obtain ⟨_, _, _, k3, k4, _, _, k7, _, _, _, _, _⟩ := acells hz
    rw [hxc] at k4
    rw [hxi] at k3
    have HZ6 : Hid (W5.heap[Z]? = some (.cells (x.arr (.slice A1 m c1)) 33 (0, 0))) := hz
    have HC6 : Hid (Cys W5 (T + 1) W5.heap.size (.slice A1 m c1) x.l) := hc5
    have HXC := Lib.hid hxc
    have e1 : wrap64 (F + P.t) = F + P.t := by have := HP0.out.2.2.2; unfold wrap64; omega
    have e2 : wrap64 (F + a2) = F + a2 := by unfold wrap64; omega
    have hT5 : T < W5.heap.size := by omega
    have HOK : Hid (Cal.okN P.u (F + P.t) k P.e m = true) := Cal.ok_small HAT.out (by have := HP0.out.2.2.2; omega) HP0.out.2.2.1 (by omega)
    clear hPl hPa hPg hxe hxl hxc hxi hget hz hc5 HZ5 HC5 HX
    go_wp2
    go_loopw [11] (fun i wq => ∃ j : Nat, j ≤ m ∧ i = .int .i64 j ∧ Hid (Below W5.heap.size W5 wq)) (fun i _ => m - (intOf i).toNat)
    case atStart => exact ⟨0, by omega, rfl, Below.refl _ _⟩
    case round =>
      clear k3 k4 k7
      obtain ⟨j, hj, rfl, HB⟩ := hrel
      have hz2 : W5.heap.size ≤ wr.heap.size := HB.out.size
      have hZr : wr.heap[Z]? = some (.cells (x.arr (.slice A1 m c1)) 33 (0, 0)) := (HB.out.block Z (by omega)).trans HZ6.out
      have hTr : wr.heap[T]? = some (.cells P.arr 26 (0, 0)) := (HB.out.block T hT5).trans HS5.out
      obtain ⟨_, _, _, _, k4, _, _, k7, _, _, _, _, _⟩ := acells hZr
      obtain ⟨_, p1, p2, p3, _, _⟩ := pcells hTr
      rw [HXC.out] at k4
      clear hZr hTr
      by_cases hlt : j < m
      case neg =>
        obtain rfl : j = m := by omega
        have dlt : decide ((j : Int) < (j : Int)) = false := by simp
        clear hj hlt
        go_wp2_with (fail)
        refine (rnth_yes _ k d _ _ _ _ HAT.out HP0.out.2.1.1 HP0.out.2.1.2 HP0.out.2.2.1.1 (by have := HP0.out.2.2.1.2; omega) (by omega) (by omega) HOK.out).mono ?_
        have hgt := HCN.out.out HOK.out
        obtain ⟨dv, hdv⟩ : ∃ dv, Cal.vN P.u (F + P.t) k d P.e j = dv := ⟨_, rfl⟩
        rw [hdv] at hgt ⊢
        clear hdv
        have dgt : decide (dv > F + a2) = true := by simp; omega
        have dgt2 : decide (F + a2 < dv) = true := by simpa using hgt
        clear hgt
        rintro e w6 ⟨rfl, hb6⟩
        have HW6 : Hid (Below w.heap.size w w6) := HW5.out.trans (HB.out.mono HW5.out.size |>.trans (hb6.mono (by have := HW5.out.size; omega)))
        clear hb6
        go_wp2
        go_ret
        exact ⟨rfl, HW6.out⟩
      case pos =>
        have dlt : decide ((j : Int) < (m : Int)) = true := by simpa using hlt
        have j3 : j ≤ 1000 := by omega
        have k0 : (0 : Int) ≤ (j : Int) := by omega
        have j1 : (j : Int) < (m : Int) := by omega
        have j2 : (j : Int) ≤ 20000 := by omega
        obtain ⟨ok1, vy⟩ := HCN.out.all j k0 j1
        obtain ⟨g, o, cap, hv, _, _, _, _, hgl, hr⟩ := HC6.out.at_ (HGET.out j hlt)
        rw [HXL.out] at hv
        injection hv with hv1 _ hv3
        subst hv1 hv3
        have HR := Lib.hid hr
        obtain ⟨dv, hdv⟩ : ∃ dv, Cal.vN P.u (F + P.t) k d P.e j = dv := ⟨_, rfl⟩
        rw [hdv] at vy
        have HDV := Lib.hid hdv
        have HOKJ := Lib.hid ok1
        clear hr hdv ok1
        have dgt : decide (dv > F + a2) = false := by simp; omega
        have dgt2 : decide (F + a2 < dv) = false := by simp; omega
        have he9 : P.e ≤ 1000 := by have := HP0.out.2.2.1.2; omega
        have hzW : Z < W5.heap.size := hzz5
        go_wp2_with (fail)
        refine (rnth_yes _ k d _ _ _ _ HAT.out HP0.out.2.1.1 HP0.out.2.1.2 HP0.out.2.2.1.1 he9 k0 j2 HOKJ.out).mono ?_
        rw [HDV.out]
        rintro e w6 ⟨rfl, hb6⟩
        have hB6 : Below W5.heap.size W5 w6 := HB.out.trans (hb6.mono hz2)
        have hZ6 : w6.heap[Z]? = some (.cells (x.arr (.slice (some ⟨g, o, none⟩) m c1)) 33 (0, 0)) := (hB6.block Z hzW).trans HZ6.out
        obtain ⟨_, _, _, _, k4', _, _, k7', _, _, _, _, _⟩ := acells hZ6
        have q0 : w6.cell? ⟨g, o + j * 8, none⟩ = some (.int .i64 j) := (World.cell?_of_block (a := ⟨g, o + j * 8, none⟩) (hB6.block g hgl)).trans (HR.out 0 _ rfl)
        have hq1 := HR.out 1 (.int .i64 (Cal.vN P.u (F + P.t) k d P.e j)) rfl
        rw [HDV.out] at hq1
        have q1 : w6.cell? ⟨g, o + j * 8 + 1, none⟩ = some (.int .i64 dv) := (World.cell?_of_block (a := ⟨g, o + j * 8 + 1, none⟩) (hB6.block g hgl)).trans hq1
        clear hq1
        have HB6 := Lib.hid hB6
        clear hb6 hB6 hZ6 k4 k7 p1 p2 p3
        go_wp2
        clear e1 e2
        exact ⟨⟨j + 1, by omega, by go_num, HB6.out⟩, by simp [intOf]; omega⟩
end Go.Proofs.Ytcgglphphdpplaa
