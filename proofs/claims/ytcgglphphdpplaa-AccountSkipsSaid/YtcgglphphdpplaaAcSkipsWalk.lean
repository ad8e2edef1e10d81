/-
  Just the next period is passed over, when that was asked for. No conditions.
-/
import Derived.Test.YtcgglphphdpplaaAvFirst
import Derived.Test.YtcgglphphdpplaaAvPlan
import Derived.Test.YtcgglphphdpplaaRow
import Derived.Test.YtcgglphphdpplaaRefNth
import Derived.Test.YtcgglphphdpplaaAcDuesWalk
import Derived.Lib.Hide
namespace Go.Proofs.Ytcgglphphdpplaa
set_option maxRecDepth 100000
open Go.ChangeShapes Go.WideShapes Go.ChangeAt Go.RowKit

theorem Av.Fine.sk {a : Av} {m : Nat} (h : a.Fine m) (b : Bool) : ({ a with sk := b } : Av).Fine m :=
  ⟨h.calm, ⟨h.fit.d0, h.fit.d1, h.fit.n0, h.fit.n1, h.fit.r0, h.fit.r1, h.fit.s0, h.fit.s1, h.fit.c0, h.fit.c1, h.fit.p0, h.fit.p1⟩, h.len, h.ct, h.c0, h.c1⟩
/-- The first period has begun, the next one is passed over, the others begin. -/
theorem skips_all {N : Int → Int} {p : Pv} {c an : Int} (hl : p.l = false) (ha : 1 ≤ p.a) (hg : p.g = true) : ∀ f : Nat, Av.runs N p c (f + 1) ⟨1, 0, an, 1, 1, 0, true, [dueAt N p.a 0], 0, 0, 0, 0, 0⟩ = ⟨1, 0, an, f + 2, f + 2, 0, false, dueAt N p.a 0 :: (List.range f).map (fun i => dueAt N p.a (i + 2)), 0, 0, 0, 1, 0⟩ := by
  intro f
  induction f with
  | zero =>
    rw [Av.runs_next, hl]
    show Av.runs _ _ _ 0 (Av.born _ _ _ false) = _
    rw [Av.born_skip (by show (1 : Int) ≠ 2; decide) rfl]
    rfl
  | succ f ih =>
    rw [Av.runs_last, ih, hl]
    show Av.born _ _ _ false = _
    rw [Av.born_pay (by show (1 : Int) ≠ 2; decide) rfl (by dsimp only; omega)]
    dsimp only
    rw [hg, cbegin_no (by omega)]
    unfold Av.with_
    rw [if_pos (by dsimp only; omega), List.range_succ, List.map_append]
    simp [dueAt]
    rw [show (1 : Int) + ((f : Int) + 1) = (f : Int) + 2 by omega]
    exact ⟨rfl, by omega⟩
set_option maxHeartbeats 4000000 in
theorem accountSkips_walk (a0 : Int) (w0 : (Lit.int .u8 a0).wf = true) (a1 : Int) (w1 : (Lit.int .u16 a1).wf = true) (a2 : Int) (w2 : (Lit.int .u8 a2).wf = true) (w : World) :
    Calls Try.prog 10 #[.int .u8 a0, .int .u16 a1, .int .u8 a2] w fun e w' => e = .returned (.bool true) ∧ Below w.heap.size w w' := by
  obtain ⟨h00, h01⟩ := wf_u8 w0
  obtain ⟨h10, h11⟩ := wf_u16 w1
  obtain ⟨h20, h21⟩ := wf_u8 w2
  go_enter Try.func10, Try.ntmps10
  go_wp2_with (fail)
  refine (acawake_any _).mono ?_
  rintro e w1 ⟨rfl, hb1⟩
  have HW1 := Lib.hid hb1
  clear hb1
  go_wp2_with (fail)
  refine (plan12_any a0 h00 (by omega) _).mono ?_
  rintro e w2 ⟨rfl, hb2⟩
  have HW2 : Hid (Below w.heap.size w w2) := HW1.out.trans (hb2.mono HW1.out.size)
  clear HW1 hb2
  go_wp2_with (first | ((with_reducible_and_instances (show wpList _ _ _ (Oper.mk _ (Op.load 26 _) _ _ _ _ :: _) _ _)); refine wl_load Try.underlying26 rfl info6p rfl rfl rfl (by (repeat (first | assumption | (with_reducible refine alloc_at ?_; (focus (first | omega | (simp; done) | (simp; omega)))) | (with_reducible refine boxed_at ?_; (focus (first | omega | (simp; done) | (simp; omega)))) | (with_reducible refine alloc_old ?_ ?_; (focus (first | omega | (simp; done) | (simp; omega)))) | (with_reducible refine boxed_old ?_ ?_; (focus (first | omega | (simp; done) | (simp; omega)))) | (with_reducible refine drew_old ?_)))) (by rfl) ?_) | ((with_reducible_and_instances (show wpList _ _ _ (Oper.mk _ (Op.store 26 _ _) _ _ _ _ :: _) _ _)); refine wl_store info6p rfl rfl rfl rfl (by (repeat (first | assumption | (with_reducible refine alloc_at ?_; (focus (first | omega | (simp; done) | (simp; omega)))) | (with_reducible refine boxed_at ?_; (focus (first | omega | (simp; done) | (simp; omega)))) | (with_reducible refine alloc_old ?_ ?_; (focus (first | omega | (simp; done) | (simp; omega)))) | (with_reducible refine boxed_old ?_ ?_; (focus (first | omega | (simp; done) | (simp; omega)))) | (with_reducible refine drew_old ?_)))) (by rfl) (by rfl) (by first | exact Cv.arr_one _ | exact Nv.arr_one _ | exact Av.arr_one rfl | exact Pv.arr_one _ | simp [Value.oneCell']) ?_))
  obtain ⟨hof1, ⟨hof2, hof3⟩, ⟨hof4, hof5⟩, ⟨hof6, hof7⟩⟩ := Pv.of_bd a0
  obtain ⟨P, hP⟩ : ∃ P, (⟨9, (Pv.of a0).u, (Pv.of a0).e, 0, true, false⟩ : Pv) = P := ⟨_, rfl⟩
  have hP0 : (0 ≤ P.a ∧ P.a ≤ 2999) ∧ (0 ≤ P.u ∧ P.u ≤ 3) ∧ (1 ≤ P.e ∧ P.e ≤ 3) ∧ (0 ≤ P.t ∧ P.t ≤ 10) := by
    rw [← hP]
    refine ⟨?_, ⟨hof2, hof3⟩, ⟨hof4, hof5⟩, ?_⟩ <;> dsimp only <;> omega
  obtain ⟨F, hF⟩ : ∃ F, 700000 + a1 = F := ⟨_, rfl⟩
  have hF0 : 700000 ≤ F := by omega
  have hF1 : F ≤ 765535 := by omega
  have HPP := Lib.hid hP
  have HP0 := Lib.hid hP0
  have hT : (w2.alloc (.cells P.arr 26)).heap[w2.heap.size]? = some (.cells P.arr 26 (0, 0)) := alloc_at rfl
  have hW0 : Below w.heap.size w (w2.alloc (.cells P.arr 26)) := HW2.out.alloc HW2.out.size _
  have hT0 : w.heap.size ≤ w2.heap.size := HW2.out.size
  have hT1 : w2.heap.size < (w2.alloc (.cells P.arr 26)).heap.size := by simp
  rw [hP, hF]
  clear hP hP0 hof1 hof2 hof3 hof4 hof5 hof6 hof7 HW2
  obtain ⟨T, hTT⟩ : ∃ T, w2.heap.size = T := ⟨_, rfl⟩
  obtain ⟨W0, hWW⟩ : ∃ W0, w2.alloc (.cells P.arr 26) = W0 := ⟨_, rfl⟩
  rw [hWW] at hT hW0 hT1 ⊢
  rw [hTT] at hT hT0 hT1 ⊢
  have HT := Lib.hid hT
  have HW0 := Lib.hid hW0
  have HF := Lib.hid hF
  clear hTT hWW hT hW0 hF
  have hpu := HP0.out.2.1
  have hpe := HP0.out.2.2.1
  have hpt := HP0.out.2.2.2
  obtain ⟨k, d, hAt⟩ := Cal.at_of (F + P.t) (by omega) (by omega)
  obtain ⟨c, hCn⟩ := Cal.cnt_of (u := P.u) (e := P.e) (day := F) hAt hpe.1 (by omega) (by omega)
  have hc0 := hCn.nn
  have hc1 : c ≤ 1000 := by
    by_cases h : 1 ≤ c
    · have := hCn.le hAt hpe.1 h; omega
    · omega
  have HAT := Lib.hid hAt
  have HCN := Lib.hid hCn
  clear hAt hCn
  obtain ⟨x, hx⟩ : ∃ x, Av.runs (Cal.vN P.u (F + P.t) k d P.e) P c c.toNat (Av.opened 0 (F + P.t)) = x := ⟨_, rfl⟩
  have HX := Lib.hid hx
  clear hx
  have HS0 : Hid ((fun w' : World => w'.heap[T]? = some (.cells P.arr 26 (0, 0))) W0.drew) := HT.out
  apply region_frame (fun Z A1 c1 w' => Hid (Below w.heap.size w w') ∧ Hid ((fun w' : World => w'.heap[T]? = some (.cells P.arr 26 (0, 0))) w') ∧ Hid (w'.heap[Z]? = some (.cells (x.arr (.slice A1 x.l.length c1)) 33 (0, 0))) ∧ Hid (Cys w' (T + 1) w'.heap.size (.slice A1 x.l.length c1) x.l) ∧ T < Z ∧ Z < w'.heap.size)
  · refine lane_start (ord := [0, 1, 3, 4, 2, 5, 6, 7, 8, 9, 10, 11]) (S := (fun w' : World => w'.heap[T]? = some (.cells P.arr 26 (0, 0)))) rfl (by kernel_rfl) (by exact HS0.out) (fun _ => ?_)
    refine lane_take (v := .agg P.arr) rfl (by kernel_rfl) (by kernel_rfl) (by rfl) (fun W hSw => exec_load rfl rfl (run_loadAt_row W T 26 26 _ (0, 0) _ hSw Try.underlying26 rfl info6p)) (by exact HS0.out) ?_
    simp only [Act.put, List.setIfInBounds_toArray, List.set_cons_zero, List.set_cons_succ]
    (refine lane_take (v := ?_) rfl (by kernel_rfl) (by kernel_rfl) (by rfl) ?_ (by exact HS0.out) ?_; rotate_left; (focus (intro W hSw; go_simp; try (with_reducible rfl))); simp only [Act.put, List.setIfInBounds_toArray, List.set_cons_zero, List.set_cons_succ])
    refine lane_take (v := .agg P.arr) rfl (by kernel_rfl) (by kernel_rfl) (by rfl) (fun W hSw => exec_load rfl rfl (run_loadAt_row W T 26 26 _ (0, 0) _ hSw Try.underlying26 rfl info6p)) (by exact HS0.out) ?_
    simp only [Act.put, List.setIfInBounds_toArray, List.set_cons_zero, List.set_cons_succ]
    (refine lane_take (v := ?_) rfl (by kernel_rfl) (by kernel_rfl) (by rfl) ?_ (by exact HS0.out) ?_; rotate_left; (focus (intro W hSw; go_simp; try (with_reducible rfl))); simp only [Act.put, List.setIfInBounds_toArray, List.set_cons_zero, List.set_cons_succ])
    refine lane_two (i := 2) (j := 9) (ordI := [5, 6, 7, 8, 9, 10, 11]) (ordJ := [2, 5, 6, 7, 8, 10, 11]) rfl rfl (by kernel_rfl) rfl (by rfl) (by rfl) (fun K hK => ?_) (fun K hK => ?_)
    · go_simp
      refine (open_any (p := P) 0 F (by have := HP0.out.2.2.2; omega)).mono ?_
      rintro e W1 ⟨rfl, hb⟩
      have hb0 : Below W0.heap.size W0 W1 := (Below.refl _ W0).drew.trans hb
      have HS1 : Hid ((fun w' : World => w'.heap[T]? = some (.cells P.arr 26 (0, 0))) W1) := (hb0.block T hT1).trans HT.out
      have HW1 : Hid (Below w.heap.size w W1) := HW0.out.trans (hb0.mono HW0.out.size)
      have hz1 : W0.heap.size ≤ W1.heap.size := hb0.size
      clear hb hb0
      refine hK _ _ HS1.out (fun _ => ?_)
      clear hK K
      refine lane_two (i := 5) (j := 9) (ordI := [6, 7, 8, 9, 10, 11]) (ordJ := [5, 6, 7, 8, 10, 11]) rfl rfl (by kernel_rfl) rfl (by rfl) (by rfl) (fun K hK => ?_) (fun K hK => ?_)
      · go_simp
        refine (daycalm_any (a := Av.opened 0 (F + P.t)) (p := P) (m := 0) (y := F) (c := c) (k := k) (d := d) Cys.nil (Av.opened_fine _ _) (by omega) (by show (1 : Int) ≠ 3; decide) HAT.out HP0.out.2.1 ⟨HP0.out.2.2.1.1, by have := HP0.out.2.2.1.2; omega⟩ ⟨by show (0 : Int) ≤ 0; omega, by show (0 : Int) ≤ 100000; omega⟩ (by show c ≤ 0 + 10000; omega) HCN.out ⟨HP0.out.1.1, by have := HP0.out.1.2; omega⟩).mono ?_
        rw [show (c - (Av.opened 0 (F + P.t)).ix).toNat = c.toNat from by show (c - 0).toNat = _; rw [Int.sub_zero]]
        rw [show (Av.opened 0 (F + P.t)).an = F + P.t from rfl]
        rw [HX.out]
        rintro e W3 ⟨v1, rfl, ho3, hb3⟩
        obtain ⟨A1, c1, rfl, _, _⟩ := ho3.form
        have HS3 : Hid ((fun w' : World => w'.heap[T]? = some (.cells P.arr 26 (0, 0))) W3) := (hb3.block T (by omega)).trans HS1.out
        have HW3 : Hid (Below w.heap.size w W3) := HW1.out.trans (hb3.mono HW1.out.size)
        have HC3 : Hid (Cys W3 W1.heap.size W3.heap.size (.slice A1 x.l.length c1) x.l) := ho3.cys
        have hz3 : W1.heap.size ≤ W3.heap.size := hb3.size
        clear hb3 ho3 HS1 HW1
        refine hK _ _ HS3.out (fun _ => ?_)
        clear hK K
        (refine lane_take (v := ?_) rfl (by kernel_rfl) (by kernel_rfl) (by rfl) ?_ (by exact HS3.out) ?_; rotate_left; (focus (intro W hSw; go_simp; try (with_reducible rfl))); simp only [Act.put, List.setIfInBounds_toArray, List.set_cons_zero, List.set_cons_succ])
        (refine lane_take (v := ?_) rfl (by kernel_rfl) (by kernel_rfl) (by rfl) ?_ (by exact HS3.out) ?_; rotate_left; (focus (intro W hSw; go_simp; try (with_reducible rfl))); simp only [Act.put, List.setIfInBounds_toArray, List.set_cons_zero, List.set_cons_succ])
        (refine lane_take (v := ?_) rfl (by kernel_rfl) (by kernel_rfl) (by rfl) ?_ (by exact HS3.out) ?_; rotate_left; (focus (intro W hSw; go_simp; try (with_reducible rfl))); simp only [Act.put, List.setIfInBounds_toArray, List.set_cons_zero, List.set_cons_succ])
        refine lane_alone rfl (by kernel_rfl) (by rfl) (fun K hK => ?_)
        go_simp
        have HZ : Hid ((W3.alloc (.cells #[.int .u8 0, .int .i64 0, .int .i64 0, .int .i64 0, .int .i64 0, .int .i64 0, .bool false, .slice none 0 0, .int .i64 0, .int .i64 0, .int .i64 0, .int .i64 0, .int .i64 0] 33)).heap[W3.heap.size]? = some (.cells #[.int .u8 0, .int .i64 0, .int .i64 0, .int .i64 0, .int .i64 0, .int .i64 0, .bool false, .slice none 0 0, .int .i64 0, .int .i64 0, .int .i64 0, .int .i64 0, .int .i64 0] 33 (0, 0))) := alloc_at rfl
        have HS4 : Hid ((fun w' : World => w'.heap[T]? = some (.cells P.arr 26 (0, 0))) (W3.alloc (.cells #[.int .u8 0, .int .i64 0, .int .i64 0, .int .i64 0, .int .i64 0, .int .i64 0, .bool false, .slice none 0 0, .int .i64 0, .int .i64 0, .int .i64 0, .int .i64 0, .int .i64 0] 33))) := alloc_old (by omega) HS3.out
        have HW4 : Hid (Below w.heap.size w (W3.alloc (.cells #[.int .u8 0, .int .i64 0, .int .i64 0, .int .i64 0, .int .i64 0, .int .i64 0, .bool false, .slice none 0 0, .int .i64 0, .int .i64 0, .int .i64 0, .int .i64 0, .int .i64 0] 33))) := HW3.out.alloc HW3.out.size _
        have HC4 : Hid (Cys (W3.alloc (.cells #[.int .u8 0, .int .i64 0, .int .i64 0, .int .i64 0, .int .i64 0, .int .i64 0, .bool false, .slice none 0 0, .int .i64 0, .int .i64 0, .int .i64 0, .int .i64 0, .int .i64 0] 33)) W1.heap.size W3.heap.size (.slice A1 x.l.length c1) x.l) := HC3.out.below ((Below.refl _ W3).alloc (Nat.le_refl _) _)
        have hzz : W3.heap.size < (W3.alloc (.cells #[.int .u8 0, .int .i64 0, .int .i64 0, .int .i64 0, .int .i64 0, .int .i64 0, .bool false, .slice none 0 0, .int .i64 0, .int .i64 0, .int .i64 0, .int .i64 0, .int .i64 0] 33)).heap.size := by simp
        refine hK _ _ HS4.out (fun _ => ?_)
        clear hK K
        refine lane_alone rfl (by kernel_rfl) (by rfl) (fun K hK => ?_)
        refine wp_store_row _ _ _ rfl W3.heap.size _ rfl rfl _ _ HZ.out (by exact info13) rfl (Av.arr_one rfl) ?_
        rw [row_boxed HZ.out]
        refine hK _ _ ((boxed_block_other (by omega)).trans HS4.out) (fun _ => ?_)
        clear hK K
        have hS5 : (fun w' : World => w'.heap[T]? = some (.cells P.arr 26 (0, 0))) (boxed (W3.alloc (.cells #[.int .u8 0, .int .i64 0, .int .i64 0, .int .i64 0, .int .i64 0, .int .i64 0, .bool false, .slice none 0 0, .int .i64 0, .int .i64 0, .int .i64 0, .int .i64 0, .int .i64 0] 33)) W3.heap.size (x.arr (.slice A1 x.l.length c1)) 33) := (boxed_block_other (by omega)).trans HS4.out
        have hZ5 : (boxed (W3.alloc (.cells #[.int .u8 0, .int .i64 0, .int .i64 0, .int .i64 0, .int .i64 0, .int .i64 0, .bool false, .slice none 0 0, .int .i64 0, .int .i64 0, .int .i64 0, .int .i64 0, .int .i64 0] 33)) W3.heap.size (x.arr (.slice A1 x.l.length c1)) 33).heap[W3.heap.size]? = some (.cells (x.arr (.slice A1 x.l.length c1)) 33 (0, 0)) := boxed_at hzz
        have hW5 : Below w.heap.size w (boxed (W3.alloc (.cells #[.int .u8 0, .int .i64 0, .int .i64 0, .int .i64 0, .int .i64 0, .int .i64 0, .bool false, .slice none 0 0, .int .i64 0, .int .i64 0, .int .i64 0, .int .i64 0, .int .i64 0] 33)) W3.heap.size (x.arr (.slice A1 x.l.length c1)) 33) := boxed_below HW4.out (by omega)
        have hC5 : Cys (boxed (W3.alloc (.cells #[.int .u8 0, .int .i64 0, .int .i64 0, .int .i64 0, .int .i64 0, .int .i64 0, .bool false, .slice none 0 0, .int .i64 0, .int .i64 0, .int .i64 0, .int .i64 0, .int .i64 0] 33)) W3.heap.size (x.arr (.slice A1 x.l.length c1)) 33) (T + 1) (boxed (W3.alloc (.cells #[.int .u8 0, .int .i64 0, .int .i64 0, .int .i64 0, .int .i64 0, .int .i64 0, .bool false, .slice none 0 0, .int .i64 0, .int .i64 0, .int .i64 0, .int .i64 0, .int .i64 0] 33)) W3.heap.size (x.arr (.slice A1 x.l.length c1)) 33).heap.size (.slice A1 x.l.length c1) x.l := (HC4.out.boxed (.inr (Nat.le_refl _))).more (by omega) (by simp only [boxed_size]; omega)
        have hzz5 : W3.heap.size < (boxed (W3.alloc (.cells #[.int .u8 0, .int .i64 0, .int .i64 0, .int .i64 0, .int .i64 0, .int .i64 0, .bool false, .slice none 0 0, .int .i64 0, .int .i64 0, .int .i64 0, .int .i64 0, .int .i64 0] 33)) W3.heap.size (x.arr (.slice A1 x.l.length c1)) 33).heap.size := by simp only [boxed_size]; exact hzz
        have hZT : T < W3.heap.size := by omega
        obtain ⟨W5, hW5e⟩ : ∃ W5, boxed (W3.alloc (.cells #[.int .u8 0, .int .i64 0, .int .i64 0, .int .i64 0, .int .i64 0, .int .i64 0, .bool false, .slice none 0 0, .int .i64 0, .int .i64 0, .int .i64 0, .int .i64 0, .int .i64 0] 33)) W3.heap.size (x.arr (.slice A1 x.l.length c1)) 33 = W5 := ⟨_, rfl⟩
        rw [hW5e] at hS5 hZ5 hW5 hC5 hzz5 ⊢
        obtain ⟨Z, hZe⟩ : ∃ Z, W3.heap.size = Z := ⟨_, rfl⟩
        rw [hZe] at hZ5 hzz5 hZT ⊢
        have HS5 := Lib.hid hS5
        have HZ5 := Lib.hid hZ5
        have HW5 := Lib.hid hW5
        have HC5 := Lib.hid hC5
        clear hW5e hZe hS5 hZ5 hW5 hC5 HZ HS4 HW4 HC4 hzz
        refine lane_alone rfl (by kernel_rfl) (by rfl) (fun K hK => ?_)
        go_simp
        refine hK _ _ HS5.out (fun _ => ?_)
        clear hK K
        refine lane_end (by kernel_rfl) ?_
        exact ⟨rfl, _, _, _, rfl, HW5, HS5, HZ5, HC5, hZT, hzz5⟩
      · go_simp
        have hZ2 : (W1.alloc (.cells #[.int .u8 0, .int .i64 0, .int .i64 0, .int .i64 0, .int .i64 0, .int .i64 0, .bool false, .slice none 0 0, .int .i64 0, .int .i64 0, .int .i64 0, .int .i64 0, .int .i64 0] 33)).heap[W1.heap.size]? = some (.cells #[.int .u8 0, .int .i64 0, .int .i64 0, .int .i64 0, .int .i64 0, .int .i64 0, .bool false, .slice none 0 0, .int .i64 0, .int .i64 0, .int .i64 0, .int .i64 0, .int .i64 0] 33 (0, 0)) := alloc_at rfl
        have HS2 : Hid ((fun w' : World => w'.heap[T]? = some (.cells P.arr 26 (0, 0))) (W1.alloc (.cells #[.int .u8 0, .int .i64 0, .int .i64 0, .int .i64 0, .int .i64 0, .int .i64 0, .bool false, .slice none 0 0, .int .i64 0, .int .i64 0, .int .i64 0, .int .i64 0, .int .i64 0] 33))) := alloc_old (by omega) HS1.out
        have HW2 : Hid (Below w.heap.size w (W1.alloc (.cells #[.int .u8 0, .int .i64 0, .int .i64 0, .int .i64 0, .int .i64 0, .int .i64 0, .bool false, .slice none 0 0, .int .i64 0, .int .i64 0, .int .i64 0, .int .i64 0, .int .i64 0] 33))) := HW1.out.alloc HW1.out.size _
        have hz2 : (W1.alloc (.cells #[.int .u8 0, .int .i64 0, .int .i64 0, .int .i64 0, .int .i64 0, .int .i64 0, .bool false, .slice none 0 0, .int .i64 0, .int .i64 0, .int .i64 0, .int .i64 0, .int .i64 0] 33)).heap.size = W1.heap.size + 1 := by simp
        refine hK _ _ HS2.out (fun _ => ?_)
        clear hK K
        refine lane_alone rfl (by kernel_rfl) (by rfl) (fun K hK => ?_)
        go_simp
        refine (daycalm_any (a := Av.opened 0 (F + P.t)) (p := P) (m := 0) (y := F) (c := c) (k := k) (d := d) Cys.nil (Av.opened_fine _ _) (by omega) (by show (1 : Int) ≠ 3; decide) HAT.out HP0.out.2.1 ⟨HP0.out.2.2.1.1, by have := HP0.out.2.2.1.2; omega⟩ ⟨by show (0 : Int) ≤ 0; omega, by show (0 : Int) ≤ 100000; omega⟩ (by show c ≤ 0 + 10000; omega) HCN.out ⟨HP0.out.1.1, by have := HP0.out.1.2; omega⟩).mono ?_
        rw [show (c - (Av.opened 0 (F + P.t)).ix).toNat = c.toNat from by show (c - 0).toNat = _; rw [Int.sub_zero]]
        rw [show (Av.opened 0 (F + P.t)).an = F + P.t from rfl]
        rw [HX.out]
        rintro e W4 ⟨v1, rfl, ho3, hb3⟩
        obtain ⟨A1, c1, rfl, _, _⟩ := ho3.form
        have HS4 : Hid ((fun w' : World => w'.heap[T]? = some (.cells P.arr 26 (0, 0))) W4) := (hb3.block T (by omega)).trans HS2.out
        have HS3 := HS4
        have HW4 : Hid (Below w.heap.size w W4) := HW2.out.trans (hb3.mono HW2.out.size)
        have HC4 : Hid (Cys W4 (W1.alloc (.cells #[.int .u8 0, .int .i64 0, .int .i64 0, .int .i64 0, .int .i64 0, .int .i64 0, .bool false, .slice none 0 0, .int .i64 0, .int .i64 0, .int .i64 0, .int .i64 0, .int .i64 0] 33)).heap.size W4.heap.size (.slice A1 x.l.length c1) x.l) := ho3.cys
        have hz3 : (W1.alloc (.cells #[.int .u8 0, .int .i64 0, .int .i64 0, .int .i64 0, .int .i64 0, .int .i64 0, .bool false, .slice none 0 0, .int .i64 0, .int .i64 0, .int .i64 0, .int .i64 0, .int .i64 0] 33)).heap.size ≤ W4.heap.size := hb3.size
        have HZ : Hid (W4.heap[W1.heap.size]? = some (.cells #[.int .u8 0, .int .i64 0, .int .i64 0, .int .i64 0, .int .i64 0, .int .i64 0, .bool false, .slice none 0 0, .int .i64 0, .int .i64 0, .int .i64 0, .int .i64 0, .int .i64 0] 33 (0, 0))) := (hb3.block _ (by omega)).trans hZ2
        have hzz : W1.heap.size < W4.heap.size := by omega
        clear hb3 ho3 HS2 HW2 hZ2
        refine hK _ _ HS4.out (fun _ => ?_)
        clear hK K
        (refine lane_take (v := ?_) rfl (by kernel_rfl) (by kernel_rfl) (by rfl) ?_ (by exact HS3.out) ?_; rotate_left; (focus (intro W hSw; go_simp; try (with_reducible rfl))); simp only [Act.put, List.setIfInBounds_toArray, List.set_cons_zero, List.set_cons_succ])
        (refine lane_take (v := ?_) rfl (by kernel_rfl) (by kernel_rfl) (by rfl) ?_ (by exact HS3.out) ?_; rotate_left; (focus (intro W hSw; go_simp; try (with_reducible rfl))); simp only [Act.put, List.setIfInBounds_toArray, List.set_cons_zero, List.set_cons_succ])
        (refine lane_take (v := ?_) rfl (by kernel_rfl) (by kernel_rfl) (by rfl) ?_ (by exact HS3.out) ?_; rotate_left; (focus (intro W hSw; go_simp; try (with_reducible rfl))); simp only [Act.put, List.setIfInBounds_toArray, List.set_cons_zero, List.set_cons_succ])
        refine lane_alone rfl (by kernel_rfl) (by rfl) (fun K hK => ?_)
        refine wp_store_row _ _ _ rfl W1.heap.size _ rfl rfl _ _ HZ.out (by exact info13) rfl (Av.arr_one rfl) ?_
        rw [row_boxed HZ.out]
        refine hK _ _ ((boxed_block_other (by omega)).trans HS4.out) (fun _ => ?_)
        clear hK K
        have hS5 : (fun w' : World => w'.heap[T]? = some (.cells P.arr 26 (0, 0))) (boxed W4 W1.heap.size (x.arr (.slice A1 x.l.length c1)) 33) := (boxed_block_other (by omega)).trans HS4.out
        have hZ5 : (boxed W4 W1.heap.size (x.arr (.slice A1 x.l.length c1)) 33).heap[W1.heap.size]? = some (.cells (x.arr (.slice A1 x.l.length c1)) 33 (0, 0)) := boxed_at hzz
        have hW5 : Below w.heap.size w (boxed W4 W1.heap.size (x.arr (.slice A1 x.l.length c1)) 33) := boxed_below HW4.out (by omega)
        have hC5 : Cys (boxed W4 W1.heap.size (x.arr (.slice A1 x.l.length c1)) 33) (T + 1) (boxed W4 W1.heap.size (x.arr (.slice A1 x.l.length c1)) 33).heap.size (.slice A1 x.l.length c1) x.l := (HC4.out.boxed (.inl (by omega))).more (by omega) (by simp only [boxed_size]; omega)
        have hzz5 : W1.heap.size < (boxed W4 W1.heap.size (x.arr (.slice A1 x.l.length c1)) 33).heap.size := by simp only [boxed_size]; exact hzz
        have hZT : T < W1.heap.size := by omega
        obtain ⟨W5, hW5e⟩ : ∃ W5, boxed W4 W1.heap.size (x.arr (.slice A1 x.l.length c1)) 33 = W5 := ⟨_, rfl⟩
        rw [hW5e] at hS5 hZ5 hW5 hC5 hzz5 ⊢
        obtain ⟨Z, hZe⟩ : ∃ Z, W1.heap.size = Z := ⟨_, rfl⟩
        rw [hZe] at hZ5 hzz5 hZT ⊢
        have HS5 := Lib.hid hS5
        have HZ5 := Lib.hid hZ5
        have HW5 := Lib.hid hW5
        have HC5 := Lib.hid hC5
        clear hW5e hZe hS5 hZ5 hW5 hC5 HZ HS4 HW4 HC4 hzz
        refine lane_alone rfl (by kernel_rfl) (by rfl) (fun K hK => ?_)
        go_simp
        refine hK _ _ HS5.out (fun _ => ?_)
        clear hK K
        refine lane_end (by kernel_rfl) ?_
        exact ⟨rfl, _, _, _, rfl, HW5, HS5, HZ5, HC5, hZT, hzz5⟩
    · go_simp
      have hZ0 : (W0.alloc (.cells #[.int .u8 0, .int .i64 0, .int .i64 0, .int .i64 0, .int .i64 0, .int .i64 0, .bool false, .slice none 0 0, .int .i64 0, .int .i64 0, .int .i64 0, .int .i64 0, .int .i64 0] 33)).heap[W0.heap.size]? = some (.cells #[.int .u8 0, .int .i64 0, .int .i64 0, .int .i64 0, .int .i64 0, .int .i64 0, .bool false, .slice none 0 0, .int .i64 0, .int .i64 0, .int .i64 0, .int .i64 0, .int .i64 0] 33 (0, 0)) := alloc_at rfl
      have hT00 : (W0.alloc (.cells #[.int .u8 0, .int .i64 0, .int .i64 0, .int .i64 0, .int .i64 0, .int .i64 0, .bool false, .slice none 0 0, .int .i64 0, .int .i64 0, .int .i64 0, .int .i64 0, .int .i64 0] 33)).heap[T]? = some (.cells P.arr 26 (0, 0)) := alloc_old hT1 HT.out
      have hZ1 : ((W0.alloc (.cells #[.int .u8 0, .int .i64 0, .int .i64 0, .int .i64 0, .int .i64 0, .int .i64 0, .bool false, .slice none 0 0, .int .i64 0, .int .i64 0, .int .i64 0, .int .i64 0, .int .i64 0] 33)).drew).heap[W0.heap.size]? = some (.cells #[.int .u8 0, .int .i64 0, .int .i64 0, .int .i64 0, .int .i64 0, .int .i64 0, .bool false, .slice none 0 0, .int .i64 0, .int .i64 0, .int .i64 0, .int .i64 0, .int .i64 0] 33 (0, 0)) := hZ0
      have HS1 : Hid ((fun w' : World => w'.heap[T]? = some (.cells P.arr 26 (0, 0))) ((W0.alloc (.cells #[.int .u8 0, .int .i64 0, .int .i64 0, .int .i64 0, .int .i64 0, .int .i64 0, .bool false, .slice none 0 0, .int .i64 0, .int .i64 0, .int .i64 0, .int .i64 0, .int .i64 0] 33)).drew)) := hT00
      have HW1 : Hid (Below w.heap.size w ((W0.alloc (.cells #[.int .u8 0, .int .i64 0, .int .i64 0, .int .i64 0, .int .i64 0, .int .i64 0, .bool false, .slice none 0 0, .int .i64 0, .int .i64 0, .int .i64 0, .int .i64 0, .int .i64 0] 33)).drew)) := (HW0.out.alloc HW0.out.size _).drew
      have hz1 : ((W0.alloc (.cells #[.int .u8 0, .int .i64 0, .int .i64 0, .int .i64 0, .int .i64 0, .int .i64 0, .bool false, .slice none 0 0, .int .i64 0, .int .i64 0, .int .i64 0, .int .i64 0, .int .i64 0] 33)).drew).heap.size = W0.heap.size + 1 := by show (W0.alloc _).heap.size = _; rw [World.size_alloc]
      clear hZ0 hT00
      refine hK _ _ HS1.out (fun _ => ?_)
      clear hK K
      refine lane_alone rfl (by kernel_rfl) (by rfl) (fun K hK => ?_)
      go_simp
      refine (open_any (p := P) 0 F (by have := HP0.out.2.2.2; omega)).mono ?_
      rintro e W2 ⟨rfl, hb⟩
      have hZ2 : W2.heap[W0.heap.size]? = some (.cells #[.int .u8 0, .int .i64 0, .int .i64 0, .int .i64 0, .int .i64 0, .int .i64 0, .bool false, .slice none 0 0, .int .i64 0, .int .i64 0, .int .i64 0, .int .i64 0, .int .i64 0] 33 (0, 0)) := (hb.block _ (by omega)).trans hZ1
      have HS2 : Hid ((fun w' : World => w'.heap[T]? = some (.cells P.arr 26 (0, 0))) W2) := (hb.block T (by omega)).trans HS1.out
      have HW2 : Hid (Below w.heap.size w W2) := HW1.out.trans (hb.mono HW1.out.size)
      have hz2 : W0.heap.size + 1 ≤ W2.heap.size := by have := hb.size; omega
      clear hb hZ1 HS1 HW1
      refine hK _ _ HS2.out (fun _ => ?_)
      clear hK K
      refine lane_alone rfl (by kernel_rfl) (by rfl) (fun K hK => ?_)
      go_simp
      refine (daycalm_any (a := Av.opened 0 (F + P.t)) (p := P) (m := 0) (y := F) (c := c) (k := k) (d := d) Cys.nil (Av.opened_fine _ _) (by omega) (by show (1 : Int) ≠ 3; decide) HAT.out HP0.out.2.1 ⟨HP0.out.2.2.1.1, by have := HP0.out.2.2.1.2; omega⟩ ⟨by show (0 : Int) ≤ 0; omega, by show (0 : Int) ≤ 100000; omega⟩ (by show c ≤ 0 + 10000; omega) HCN.out ⟨HP0.out.1.1, by have := HP0.out.1.2; omega⟩).mono ?_
      rw [show (c - (Av.opened 0 (F + P.t)).ix).toNat = c.toNat from by show (c - 0).toNat = _; rw [Int.sub_zero]]
      rw [show (Av.opened 0 (F + P.t)).an = F + P.t from rfl]
      rw [HX.out]
      rintro e W4 ⟨v1, rfl, ho3, hb3⟩
      obtain ⟨A1, c1, rfl, _, _⟩ := ho3.form
      have HS4 : Hid ((fun w' : World => w'.heap[T]? = some (.cells P.arr 26 (0, 0))) W4) := (hb3.block T (by omega)).trans HS2.out
      have HS3 := HS4
      have HW4 : Hid (Below w.heap.size w W4) := HW2.out.trans (hb3.mono HW2.out.size)
      have HC4 : Hid (Cys W4 W2.heap.size W4.heap.size (.slice A1 x.l.length c1) x.l) := ho3.cys
      have hz3 : W2.heap.size ≤ W4.heap.size := hb3.size
      have HZ : Hid (W4.heap[W0.heap.size]? = some (.cells #[.int .u8 0, .int .i64 0, .int .i64 0, .int .i64 0, .int .i64 0, .int .i64 0, .bool false, .slice none 0 0, .int .i64 0, .int .i64 0, .int .i64 0, .int .i64 0, .int .i64 0] 33 (0, 0))) := (hb3.block _ (by omega)).trans hZ2
      have hzz : W0.heap.size < W4.heap.size := by omega
      clear hb3 ho3 HS2 HW2 hZ2
      refine hK _ _ HS4.out (fun _ => ?_)
      clear hK K
      (refine lane_take (v := ?_) rfl (by kernel_rfl) (by kernel_rfl) (by rfl) ?_ (by exact HS3.out) ?_; rotate_left; (focus (intro W hSw; go_simp; try (with_reducible rfl))); simp only [Act.put, List.setIfInBounds_toArray, List.set_cons_zero, List.set_cons_succ])
      (refine lane_take (v := ?_) rfl (by kernel_rfl) (by kernel_rfl) (by rfl) ?_ (by exact HS3.out) ?_; rotate_left; (focus (intro W hSw; go_simp; try (with_reducible rfl))); simp only [Act.put, List.setIfInBounds_toArray, List.set_cons_zero, List.set_cons_succ])
      (refine lane_take (v := ?_) rfl (by kernel_rfl) (by kernel_rfl) (by rfl) ?_ (by exact HS3.out) ?_; rotate_left; (focus (intro W hSw; go_simp; try (with_reducible rfl))); simp only [Act.put, List.setIfInBounds_toArray, List.set_cons_zero, List.set_cons_succ])
      refine lane_alone rfl (by kernel_rfl) (by rfl) (fun K hK => ?_)
      refine wp_store_row _ _ _ rfl W0.heap.size _ rfl rfl _ _ HZ.out (by exact info13) rfl (Av.arr_one rfl) ?_
      rw [row_boxed HZ.out]
      refine hK _ _ ((boxed_block_other (by omega)).trans HS4.out) (fun _ => ?_)
      clear hK K
      have hS5 : (fun w' : World => w'.heap[T]? = some (.cells P.arr 26 (0, 0))) (boxed W4 W0.heap.size (x.arr (.slice A1 x.l.length c1)) 33) := (boxed_block_other (by omega)).trans HS4.out
      have hZ5 : (boxed W4 W0.heap.size (x.arr (.slice A1 x.l.length c1)) 33).heap[W0.heap.size]? = some (.cells (x.arr (.slice A1 x.l.length c1)) 33 (0, 0)) := boxed_at hzz
      have hW5 : Below w.heap.size w (boxed W4 W0.heap.size (x.arr (.slice A1 x.l.length c1)) 33) := boxed_below HW4.out (by omega)
      have hC5 : Cys (boxed W4 W0.heap.size (x.arr (.slice A1 x.l.length c1)) 33) (T + 1) (boxed W4 W0.heap.size (x.arr (.slice A1 x.l.length c1)) 33).heap.size (.slice A1 x.l.length c1) x.l := (HC4.out.boxed (.inl (by omega))).more (by omega) (by simp only [boxed_size]; omega)
      have hzz5 : W0.heap.size < (boxed W4 W0.heap.size (x.arr (.slice A1 x.l.length c1)) 33).heap.size := by simp only [boxed_size]; exact hzz
      have hZT : T < W0.heap.size := by omega
      obtain ⟨W5, hW5e⟩ : ∃ W5, boxed W4 W0.heap.size (x.arr (.slice A1 x.l.length c1)) 33 = W5 := ⟨_, rfl⟩
      rw [hW5e] at hS5 hZ5 hW5 hC5 hzz5 ⊢
      obtain ⟨Z, hZe⟩ : ∃ Z, W0.heap.size = Z := ⟨_, rfl⟩
      rw [hZe] at hZ5 hzz5 hZT ⊢
      have HS5 := Lib.hid hS5
      have HZ5 := Lib.hid hZ5
      have HW5 := Lib.hid hW5
      have HC5 := Lib.hid hC5
      clear hW5e hZe hS5 hZ5 hW5 hC5 HZ HS4 HW4 HC4 hzz
      refine lane_alone rfl (by kernel_rfl) (by rfl) (fun K hK => ?_)
      go_simp
      refine hK _ _ HS5.out (fun _ => ?_)
      clear hK K
      refine lane_end (by kernel_rfl) ?_
      exact ⟨rfl, _, _, _, rfl, HW5, HS5, HZ5, HC5, hZT, hzz5⟩
  · intro Z A1 c1 W5 ⟨HW5, HS5, HZ5, HC5, hZT, hzz5⟩
    have hPl : P.l = false := by rw [← HPP.out]
    have hPa : P.a = 9 := by rw [← HPP.out]
    have hPg : P.g = true := by rw [← HPP.out]
    have hPt : P.t = 0 := by rw [← HPP.out]
    rw [hPt, Int.add_zero] at HAT HCN HX
    have hcl := HCN.out.le HAT.out HP0.out.2.2.1.1
    have hcp := HCN.out.pos HAT.out (Int.le_refl _)
    obtain rfl : c = 1 := by have := hcl hcp; omega
    have hxe : x = ⟨1, 0, F, 1, 1, 0, false, [dueAt (Cal.vN P.u F k d P.e) 9 0], 0, 0, 0, 0, 0⟩ := by
      rw [← HX.out, show (1 : Int).toNat = 1 from rfl, dues_all hPl (by omega) hPg, hPa]; rfl
    have HXE := Lib.hid hxe
    have hxf : x.Fine 1 := by rw [← HX.out]; exact Av.Fine.runs ⟨by omega, by omega⟩ 1 0 _ (Av.opened_fine _ _)
    have HXF := Lib.hid hxf
    clear hxf
    have hkk : ∃ f : Nat, 1 + a2 % 4 = ((f : Int) + 1) ∧ f ≤ 3 := ⟨(a2 % 4).toNat, by omega, by omega⟩
    obtain ⟨f, hf, hf3⟩ := hkk
    have hok : ∀ i : Int, 0 ≤ i → i ≤ 1001 → Cal.okN P.u F k P.e i = true := fun i h0 h1 => Cal.ok_small HAT.out (by omega) HP0.out.2.2.1 ⟨h0, h1⟩
    have HOK := Lib.hid hok
    have hcn2 : Cal.Cnt P.u F k d P.e (Cal.vN P.u F k d P.e ((f : Int) + 1)) (f + 2) := by
      refine ⟨by omega, fun n h0 h1 => ⟨hok n h0 (by omega), ?_⟩, fun _ => Cal.vN_lt HAT.out HP0.out.2.2.1.1 (by omega)⟩
      by_cases h2 : n = ((f : Int) + 1)
      · rw [h2]; exact Int.le_refl _
      · exact Int.le_of_lt (Cal.vN_lt HAT.out HP0.out.2.2.1.1 (by omega))
    have HCN2 := Lib.hid hcn2
    have hsk := skips_all (N := Cal.vN P.u F k d P.e) (p := P) (c := (f : Int) + 2) (an := F) hPl (by omega) hPg f
    rw [hPa] at hsk
    have HSK := Lib.hid hsk
    have hxl : x.l.length = 1 := by rw [hxe]; rfl
    have e4 : a2.tmod 4 = a2 % 4 := Int.tmod_eq_emod_of_nonneg h20
    have hT5 : T < W5.heap.size := by omega
    have hz := HZ5.out
    have hc5 := HC5.out
    rw [hxl] at hz hc5
    have HZ6 := Lib.hid hz
    have HC6 := Lib.hid hc5
    clear hPl hPa hPg hPt hcl hcp hxe hok hcn2 hsk hxl hc5 HZ5 HC5 HX
    have hS5 := HS5.out
    go_wp2_with (first | ((with_reducible_and_instances (show wpList _ _ _ (Oper.mk _ (Op.load 33 _) _ _ _ _ :: _) _ _)); refine wl_load Try.underlying33 rfl info13 rfl rfl rfl (by (repeat (first | assumption | (with_reducible refine alloc_at ?_; (focus (first | omega | (simp; done) | (simp; omega)))) | (with_reducible refine boxed_at ?_; (focus (first | omega | (simp; done) | (simp; omega)))) | (with_reducible refine alloc_old ?_ ?_; (focus (first | omega | (simp; done) | (simp; omega)))) | (with_reducible refine boxed_old ?_ ?_; (focus (first | omega | (simp; done) | (simp; omega)))) | (with_reducible refine drew_old ?_)))) (by rfl) ?_) | ((with_reducible_and_instances (show wpList _ _ _ (Oper.mk _ (Op.load 26 _) _ _ _ _ :: _) _ _)); refine wl_load Try.underlying26 rfl info6p rfl rfl rfl (by (repeat (first | assumption | (with_reducible refine alloc_at ?_; (focus (first | omega | (simp; done) | (simp; omega)))) | (with_reducible refine boxed_at ?_; (focus (first | omega | (simp; done) | (simp; omega)))) | (with_reducible refine alloc_old ?_ ?_; (focus (first | omega | (simp; done) | (simp; omega)))) | (with_reducible refine boxed_old ?_ ?_; (focus (first | omega | (simp; done) | (simp; omega)))) | (with_reducible refine drew_old ?_)))) (by rfl) ?_) | ((with_reducible_and_instances (show wpList _ _ _ (Oper.mk _ (Op.store 33 _ _) _ _ _ _ :: _) _ _)); refine wl_store info13 rfl rfl rfl rfl (by (repeat (first | assumption | (with_reducible refine alloc_at ?_; (focus (first | omega | (simp; done) | (simp; omega)))) | (with_reducible refine boxed_at ?_; (focus (first | omega | (simp; done) | (simp; omega)))) | (with_reducible refine alloc_old ?_ ?_; (focus (first | omega | (simp; done) | (simp; omega)))) | (with_reducible refine boxed_old ?_ ?_; (focus (first | omega | (simp; done) | (simp; omega)))) | (with_reducible refine drew_old ?_)))) (by rfl) (by rfl) (by first | exact Cv.arr_one _ | exact Nv.arr_one _ | exact Av.arr_one rfl | exact Pv.arr_one _ | simp [Value.oneCell']) ?_))
    refine (skip_yes (a := x) (by rw [HXE.out]; rfl) (by rw [HXE.out]) (HC6.out.more (Nat.zero_le _) (Nat.le_refl _)) (by rw [HXE.out]; exact (by omega : (1 : Nat) ≤ 1000000))).mono ?_
    obtain ⟨y, hy⟩ : ∃ y, ({ x with sk := true } : Av) = y := ⟨_, rfl⟩
    have hye : y = ⟨1, 0, F, 1, 1, 0, true, [dueAt (Cal.vN P.u F k d P.e) 9 0], 0, 0, 0, 0, 0⟩ := by rw [← hy, HXE.out]
    have hyf : y.Fine 1 := by rw [← hy]; exact HXF.out.sk true
    rw [hy]
    have HYE := Lib.hid hye
    have HYF := Lib.hid hyf
    clear hy hye hyf
    rintro e w6 ⟨v6, rfl, ho6, hb6⟩
    have hP6 : w6.heap[T]? = some (.cells P.arr 26 (0, 0)) := below_block hb6 HS5.out
    have hT6 : T < w6.heap.size := (Array.getElem?_eq_some_iff.1 hP6).1
    have HW6 : Hid (Below w.heap.size w w6) := HW5.out.trans (hb6.mono HW5.out.size)
    obtain ⟨A6, c6, rfl, _, _⟩ := ho6.form
    have HC7 : Hid (Cys w6 0 w6.heap.size (.slice A6 y.l.length c6) y.l) := ho6.cys.more (Nat.zero_le _) (Nat.le_refl _)
    have HP6 := Lib.hid hP6
    obtain ⟨_, p1, p2, p3, _, _⟩ := pcells hP6
    clear hb6 ho6 HC6 HZ6 hz hS5
    go_wp2_with (first | ((with_reducible_and_instances (show wpList _ _ _ (Oper.mk _ (Op.load 33 _) _ _ _ _ :: _) _ _)); refine wl_load Try.underlying33 rfl info13 rfl rfl rfl (by (repeat (first | assumption | (with_reducible refine alloc_at ?_; (focus (first | omega | (simp; done) | (simp; omega)))) | (with_reducible refine boxed_at ?_; (focus (first | omega | (simp; done) | (simp; omega)))) | (with_reducible refine alloc_old ?_ ?_; (focus (first | omega | (simp; done) | (simp; omega)))) | (with_reducible refine boxed_old ?_ ?_; (focus (first | omega | (simp; done) | (simp; omega)))) | (with_reducible refine drew_old ?_)))) (by rfl) ?_) | ((with_reducible_and_instances (show wpList _ _ _ (Oper.mk _ (Op.load 26 _) _ _ _ _ :: _) _ _)); refine wl_load Try.underlying26 rfl info6p rfl rfl rfl (by (repeat (first | assumption | (with_reducible refine alloc_at ?_; (focus (first | omega | (simp; done) | (simp; omega)))) | (with_reducible refine boxed_at ?_; (focus (first | omega | (simp; done) | (simp; omega)))) | (with_reducible refine alloc_old ?_ ?_; (focus (first | omega | (simp; done) | (simp; omega)))) | (with_reducible refine boxed_old ?_ ?_; (focus (first | omega | (simp; done) | (simp; omega)))) | (with_reducible refine drew_old ?_)))) (by rfl) ?_) | ((with_reducible_and_instances (show wpList _ _ _ (Oper.mk _ (Op.store 33 _ _) _ _ _ _ :: _) _ _)); refine wl_store info13 rfl rfl rfl rfl (by (repeat (first | assumption | (with_reducible refine alloc_at ?_; (focus (first | omega | (simp; done) | (simp; omega)))) | (with_reducible refine boxed_at ?_; (focus (first | omega | (simp; done) | (simp; omega)))) | (with_reducible refine alloc_old ?_ ?_; (focus (first | omega | (simp; done) | (simp; omega)))) | (with_reducible refine boxed_old ?_ ?_; (focus (first | omega | (simp; done) | (simp; omega)))) | (with_reducible refine drew_old ?_)))) (by rfl) (by rfl) (by first | exact Cv.arr_one _ | exact Nv.arr_one _ | exact Av.arr_one rfl | exact Pv.arr_one _ | simp [Value.oneCell']) ?_))
    refine (rnth_yes _ k d _ _ _ _ HAT.out HP0.out.2.1.1 HP0.out.2.1.2 HP0.out.2.2.1.1 (by have := HP0.out.2.2.1.2; omega) (by omega) (by omega) (HOK.out _ (by omega) (by omega))).mono ?_
    obtain ⟨dv, hdv⟩ : ∃ dv, Cal.vN P.u F k d P.e ((f : Int) + 1) = dv := ⟨_, rfl⟩
    rw [hdv]
    have hcn2 := HCN2.out
    rw [hdv] at hcn2
    have HCN3 := Lib.hid hcn2
    clear hdv hcn2 HCN2
    rintro e w7 ⟨rfl, hb7⟩
    have hP7 : w7.heap[T]? = some (.cells P.arr 26 (0, 0)) := below_block hb7 (alloc_old hT6 HP6.out)
    have hY7 : w7.heap[w6.heap.size]? = some (.cells (y.arr (.slice A6 y.l.length c6)) 33 (0, 0)) := below_block hb7 (alloc_at rfl)
    have HW7 : Hid (Below w.heap.size w w7) := (HW6.out.alloc HW6.out.size _).trans (hb7.mono (by have := HW6.out.size; simp; omega))
    have HC8 : Hid (Cys w7 0 w7.heap.size (.slice A6 y.l.length c6) y.l) := ((HC7.out.below ((Below.refl _ w6).alloc (Nat.le_refl _) _)).below (hb7.mono (by simp))).more (Nat.le_refl _) (by have := hb7.size; simp at this; omega)
    have hz7 : w6.heap.size < w7.heap.size := (Array.getElem?_eq_some_iff.1 hY7).1
    clear hb7 p1 p2 p3
    go_wp2_with (first | ((with_reducible_and_instances (show wpList _ _ _ (Oper.mk _ (Op.load 33 _) _ _ _ _ :: _) _ _)); refine wl_load Try.underlying33 rfl info13 rfl rfl rfl (by (repeat (first | assumption | (with_reducible refine alloc_at ?_; (focus (first | omega | (simp; done) | (simp; omega)))) | (with_reducible refine boxed_at ?_; (focus (first | omega | (simp; done) | (simp; omega)))) | (with_reducible refine alloc_old ?_ ?_; (focus (first | omega | (simp; done) | (simp; omega)))) | (with_reducible refine boxed_old ?_ ?_; (focus (first | omega | (simp; done) | (simp; omega)))) | (with_reducible refine drew_old ?_)))) (by rfl) ?_) | ((with_reducible_and_instances (show wpList _ _ _ (Oper.mk _ (Op.load 26 _) _ _ _ _ :: _) _ _)); refine wl_load Try.underlying26 rfl info6p rfl rfl rfl (by (repeat (first | assumption | (with_reducible refine alloc_at ?_; (focus (first | omega | (simp; done) | (simp; omega)))) | (with_reducible refine boxed_at ?_; (focus (first | omega | (simp; done) | (simp; omega)))) | (with_reducible refine alloc_old ?_ ?_; (focus (first | omega | (simp; done) | (simp; omega)))) | (with_reducible refine boxed_old ?_ ?_; (focus (first | omega | (simp; done) | (simp; omega)))) | (with_reducible refine drew_old ?_)))) (by rfl) ?_) | ((with_reducible_and_instances (show wpList _ _ _ (Oper.mk _ (Op.store 33 _ _) _ _ _ _ :: _) _ _)); refine wl_store info13 rfl rfl rfl rfl (by (repeat (first | assumption | (with_reducible refine alloc_at ?_; (focus (first | omega | (simp; done) | (simp; omega)))) | (with_reducible refine boxed_at ?_; (focus (first | omega | (simp; done) | (simp; omega)))) | (with_reducible refine alloc_old ?_ ?_; (focus (first | omega | (simp; done) | (simp; omega)))) | (with_reducible refine boxed_old ?_ ?_; (focus (first | omega | (simp; done) | (simp; omega)))) | (with_reducible refine drew_old ?_)))) (by rfl) (by rfl) (by first | exact Cv.arr_one _ | exact Nv.arr_one _ | exact Av.arr_one rfl | exact Pv.arr_one _ | simp [Value.oneCell']) ?_))
    refine (daycalm_any (a := y) (p := P) (m := 1) (y := dv) (c := (f : Int) + 2) (k := k) (d := d) HC8.out HYF.out (by omega) (by rw [HYE.out]; exact (by omega : (1 : Int) ≠ 3)) (by rw [HYE.out]; exact HAT.out) HP0.out.2.1 ⟨HP0.out.2.2.1.1, by have := HP0.out.2.2.1.2; omega⟩ (by rw [HYE.out]; exact ⟨(by omega : (0 : Int) ≤ 1), (by omega : (1 : Int) ≤ 100000)⟩) (by rw [HYE.out]; dsimp only; omega) (by rw [HYE.out]; exact HCN3.out) ⟨HP0.out.1.1, by have := HP0.out.1.2; omega⟩).mono ?_
    rw [show Av.runs (Cal.vN P.u y.an k d P.e) P ((f : Int) + 2) ((f : Int) + 2 - y.ix).toNat y = ⟨1, 0, F, (f : Int) + 2, (f : Int) + 2, 0, false, dueAt (Cal.vN P.u F k d P.e) 9 0 :: (List.range f).map (fun i => dueAt (Cal.vN P.u F k d P.e) 9 (i + 2)), 0, 0, 0, 1, 0⟩ by rw [HYE.out]; dsimp only; rw [show ((f : Int) + 2 - 1).toNat = f + 1 by omega]; exact HSK.out]
    rintro e w8 ⟨v8, rfl, ho8, hb8⟩
    have HW8 : Hid (Below w.heap.size w w8) := HW7.out.trans (hb8.mono HW7.out.size)
    obtain ⟨A8, c8, hv8, _, _⟩ := ho8.form
    have hl8 : (dueAt (Cal.vN P.u F k d P.e) 9 0 :: (List.range f).map (fun i => dueAt (Cal.vN P.u F k d P.e) 9 (i + 2))).length = f + 1 := by simp
    have HO8 := Lib.hid ho8
    have hv9 : v8 = .slice A8 (f + 1) c8 := by rw [hv8]; exact congrArg (fun n => Value.slice A8 n c8) hl8
    clear hb8 ho8 hv8 hl8 hP7 hY7
    by_cases h0 : f = 0
    · subst hv9
      subst h0
      clear hf hf3
      go_wp2_with (first | ((with_reducible_and_instances (show wpList _ _ _ (Oper.mk _ (Op.load 33 _) _ _ _ _ :: _) _ _)); refine wl_load Try.underlying33 rfl info13 rfl rfl rfl (by (repeat (first | assumption | (with_reducible refine alloc_at ?_; (focus (first | omega | (simp; done) | (simp; omega)))) | (with_reducible refine boxed_at ?_; (focus (first | omega | (simp; done) | (simp; omega)))) | (with_reducible refine alloc_old ?_ ?_; (focus (first | omega | (simp; done) | (simp; omega)))) | (with_reducible refine boxed_old ?_ ?_; (focus (first | omega | (simp; done) | (simp; omega)))) | (with_reducible refine drew_old ?_)))) (by rfl) ?_) | ((with_reducible_and_instances (show wpList _ _ _ (Oper.mk _ (Op.load 26 _) _ _ _ _ :: _) _ _)); refine wl_load Try.underlying26 rfl info6p rfl rfl rfl (by (repeat (first | assumption | (with_reducible refine alloc_at ?_; (focus (first | omega | (simp; done) | (simp; omega)))) | (with_reducible refine boxed_at ?_; (focus (first | omega | (simp; done) | (simp; omega)))) | (with_reducible refine alloc_old ?_ ?_; (focus (first | omega | (simp; done) | (simp; omega)))) | (with_reducible refine boxed_old ?_ ?_; (focus (first | omega | (simp; done) | (simp; omega)))) | (with_reducible refine drew_old ?_)))) (by rfl) ?_) | ((with_reducible_and_instances (show wpList _ _ _ (Oper.mk _ (Op.store 33 _ _) _ _ _ _ :: _) _ _)); refine wl_store info13 rfl rfl rfl rfl (by (repeat (first | assumption | (with_reducible refine alloc_at ?_; (focus (first | omega | (simp; done) | (simp; omega)))) | (with_reducible refine boxed_at ?_; (focus (first | omega | (simp; done) | (simp; omega)))) | (with_reducible refine alloc_old ?_ ?_; (focus (first | omega | (simp; done) | (simp; omega)))) | (with_reducible refine boxed_old ?_ ?_; (focus (first | omega | (simp; done) | (simp; omega)))) | (with_reducible refine drew_old ?_)))) (by rfl) (by rfl) (by first | exact Cv.arr_one _ | exact Nv.arr_one _ | exact Av.arr_one rfl | exact Pv.arr_one _ | simp [Value.oneCell']) ?_))
      go_ret
      exact ⟨rfl, HW8.out.alloc HW8.out.size _⟩
    · have hq := HO8.out.cys.at_ (k := 1) (c := dueAt (Cal.vN P.u F k d P.e) 9 2) (by
        obtain ⟨f', rfl⟩ : ∃ f', f = f' + 1 := ⟨f - 1, by omega⟩
        simp)
      obtain ⟨g, o, cap, hv, hz1, hz2, _, _, hgl, hr⟩ := hq
      rw [hv9] at hv
      injection hv with hv1 hvl hv3
      clear hvl hz1 hz2
      subst hv1 hv3 hv9
      have q0 : w8.cell? ⟨g, o + 1 * 8, none⟩ = some (.int .i64 2) := hr 0 (.int .i64 2) rfl
      rw [Nat.one_mul] at q0
      have Q0 := Lib.hid q0
      have HGL := Lib.hid hgl
      clear hr hf q0 hgl
      generalize hlz : dueAt (Cal.vN P.u F k d P.e) 9 0 :: (List.range f).map (fun i => dueAt (Cal.vN P.u F k d P.e) 9 (i + 2)) = lz
      clear hlz HO8 HSK HCN3
      have n1 : 1 < f + 1 := by omega
      have n3 : (1 : Int) < (f : Int) + 1 := by omega
      have d2 : decide ((f : Int) + 1 < 2) = false := by simp; omega
      have d3 : wrap64 ((f : Int) + 1 + 1) = (f : Int) + 2 := by unfold wrap64; omega
      clear h0 hf3
      dsimp only
      have q0 := Q0.out
      have hgl := HGL.out
      have hgn : g < w8.heap.size + 1 := by omega
      go_wp2_with (first | ((with_reducible_and_instances (show wpList _ _ _ (Oper.mk _ (Op.load 33 _) _ _ _ _ :: _) _ _)); refine wl_load Try.underlying33 rfl info13 rfl rfl rfl (by (repeat (first | assumption | (with_reducible refine alloc_at ?_; (focus (first | omega | (simp; done) | (simp; omega)))) | (with_reducible refine boxed_at ?_; (focus (first | omega | (simp; done) | (simp; omega)))) | (with_reducible refine alloc_old ?_ ?_; (focus (first | omega | (simp; done) | (simp; omega)))) | (with_reducible refine boxed_old ?_ ?_; (focus (first | omega | (simp; done) | (simp; omega)))) | (with_reducible refine drew_old ?_)))) (by rfl) ?_) | ((with_reducible_and_instances (show wpList _ _ _ (Oper.mk _ (Op.load 26 _) _ _ _ _ :: _) _ _)); refine wl_load Try.underlying26 rfl info6p rfl rfl rfl (by (repeat (first | assumption | (with_reducible refine alloc_at ?_; (focus (first | omega | (simp; done) | (simp; omega)))) | (with_reducible refine boxed_at ?_; (focus (first | omega | (simp; done) | (simp; omega)))) | (with_reducible refine alloc_old ?_ ?_; (focus (first | omega | (simp; done) | (simp; omega)))) | (with_reducible refine boxed_old ?_ ?_; (focus (first | omega | (simp; done) | (simp; omega)))) | (with_reducible refine drew_old ?_)))) (by rfl) ?_) | ((with_reducible_and_instances (show wpList _ _ _ (Oper.mk _ (Op.store 33 _ _) _ _ _ _ :: _) _ _)); refine wl_store info13 rfl rfl rfl rfl (by (repeat (first | assumption | (with_reducible refine alloc_at ?_; (focus (first | omega | (simp; done) | (simp; omega)))) | (with_reducible refine boxed_at ?_; (focus (first | omega | (simp; done) | (simp; omega)))) | (with_reducible refine alloc_old ?_ ?_; (focus (first | omega | (simp; done) | (simp; omega)))) | (with_reducible refine boxed_old ?_ ?_; (focus (first | omega | (simp; done) | (simp; omega)))) | (with_reducible refine drew_old ?_)))) (by rfl) (by rfl) (by first | exact Cv.arr_one _ | exact Nv.arr_one _ | exact Av.arr_one rfl | exact Pv.arr_one _ | simp [Value.oneCell']) ?_))
      go_ret
      exact ⟨rfl, HW8.out.alloc HW8.out.size _⟩
end Go.Proofs.Ytcgglphphdpplaa
