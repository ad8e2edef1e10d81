/-
  While it rests periods are passed over; it goes on where it stood. No conditions.
-/
import Derived.Test.YtcgglphphdpplaaAvFirst
import Derived.Test.YtcgglphphdpplaaAvPlan
import Derived.Test.YtcgglphphdpplaaRow
import Derived.Test.YtcgglphphdpplaaAvChange
import Derived.Lib.Hide
namespace Go.Proofs.Ytcgglphphdpplaa
set_option maxRecDepth 100000
open Go.ChangeShapes Go.WideShapes Go.ChangeAt Go.RowKit

theorem region_frame {P : Program} {c : Code} {Q : Exit → Act → World → Prop} {a : Act} {w : World} (Facts : Nat → Option Addr → Nat → World → Prop) (fr : Nat → Option Addr → Nat → Act)
    (h : c.wp P (fun e a' w' => e = .normal ∧ ∃ Z A1 c1, a' = fr Z A1 c1 ∧ Facts Z A1 c1 w') a w) (hk : ∀ Z A1 c1 w', Facts Z A1 c1 w' → Q .normal (fr Z A1 c1) w') : c.wp P Q a w :=
  wp_mono h (by rintro e a' w' ⟨rfl, Z, A1, c1, rfl, hf⟩; exact hk _ _ _ _ hf)
theorem acells {w : World} {b : Nat} {ty : TypeId} {fr : Nat × Nat} {a : Av} {v : Value} (h : w.heap[b]? = some (.cells (a.arr v) ty fr)) : w.cell? ⟨b, 0, none⟩ = some (.int .u8 a.st) ∧ w.cell? ⟨b, 1, none⟩ = some (.int .i64 a.pl) ∧ w.cell? ⟨b, 2, none⟩ = some (.int .i64 a.an) ∧ w.cell? ⟨b, 3, none⟩ = some (.int .i64 a.ix) ∧ w.cell? ⟨b, 4, none⟩ = some (.int .i64 a.ct) ∧ w.cell? ⟨b, 5, none⟩ = some (.int .i64 a.cr) ∧ w.cell? ⟨b, 6, none⟩ = some (.bool a.sk) ∧ w.cell? ⟨b, 7, none⟩ = some (v) ∧ w.cell? ⟨b, 8, none⟩ = some (.int .i64 a.dn) ∧ w.cell? ⟨b, 9, none⟩ = some (.int .i64 a.un) ∧ w.cell? ⟨b, 10, none⟩ = some (.int .i64 a.rf) ∧ w.cell? ⟨b, 11, none⟩ = some (.int .i64 a.sp) ∧ w.cell? ⟨b, 12, none⟩ = some (.int .i64 a.pd) := by
  refine ⟨?_, ?_, ?_, ?_, ?_, ?_, ?_, ?_, ?_, ?_, ?_, ?_, ?_⟩
  all_goals
    rw [cell_of_row _ _ _ _ _ _ h]
    rfl
theorem Av.runs_rest {N : Int → Int} {p : Pv} {c : Int} : ∀ (f : Nat) (a : Av), a.st = 2 → Av.runs N p c f a = { a with ix := a.ix + f, ct := a.ct + f, sp := a.sp + f } := by
  intro f
  induction f with
  | zero => intro a _; show a = _; simp
  | succ f ih =>
    intro a h
    rw [Av.runs_next, Av.born_pass (a := { a with ix := a.ix + 1 }) (.inl h)]
    refine (ih _ ?_).trans ?_
    · exact h
    simp only [Av.mk.injEq]
    refine ⟨trivial, trivial, trivial, by omega, by omega, trivial, trivial, trivial, trivial, trivial, trivial, by omega, trivial⟩
theorem Av.born_sk {a : Av} {p : Pv} {d : Int} {mi : Bool} (h : a.sk = false) : (a.born p d mi).sk = false := by
  unfold Av.born
  repeat' split
  all_goals rw [(Av.with_same _ _).2.2.2.2.2]
  all_goals first | exact h | rfl
theorem Av.runs_sk {N : Int → Int} {p : Pv} {c : Int} : ∀ (f : Nat) (a : Av), a.sk = false → (Av.runs N p c f a).sk = false
  | 0, _, h => h
  | f + 1, a, h => Av.runs_sk f _ (Av.born_sk (a := { a with ix := a.ix + 1 }) h)
theorem Av.Fine.st {a : Av} {m : Nat} (h : a.Fine m) (b : Int) : ({ a with st := b } : Av).Fine m :=
  ⟨h.calm, ⟨h.fit.d0, h.fit.d1, h.fit.n0, h.fit.n1, h.fit.r0, h.fit.r1, h.fit.s0, h.fit.s1, h.fit.c0, h.fit.c1, h.fit.p0, h.fit.p1⟩, h.len, h.ct, h.c0, h.c1⟩
theorem Cv.Calm.over {z : Cv} (h : z.Calm) : z.over = z := by
  obtain ⟨n, d, p, a, u, t, x, g⟩ := z
  have hp : p ≠ 2 := by have := h.p; dsimp only at this; omega
  exact over_no hp
set_option maxHeartbeats 8000000 in
theorem accountRests_walk (a0 : Int) (w0 : (Lit.int .u8 a0).wf = true) (a1 : Int) (w1 : (Lit.int .u16 a1).wf = true) (a2 : Int) (w2 : (Lit.int .u8 a2).wf = true) (a3 : Int) (w3 : (Lit.int .u8 a3).wf = true) (w : World) :
    Calls Try.prog 7 #[.int .u8 a0, .int .u16 a1, .int .u8 a2, .int .u8 a3] w fun e w' => e = .returned (.bool true) ∧ Below w.heap.size w w' := by
  obtain ⟨h00, h01⟩ := wf_u8 w0
  obtain ⟨h10, h11⟩ := wf_u16 w1
  obtain ⟨h20, h21⟩ := wf_u8 w2
  obtain ⟨h30, h31⟩ := wf_u8 w3
  go_enter Try.func7, Try.ntmps7
  go_wp2_with (fail)
  refine (acawake_any _).mono ?_
  rintro e w1 ⟨rfl, hb1⟩
  have HW1 := Lib.hid hb1
  clear hb1
  go_wp2_with (fail)
  refine (plan12_any a0 h00 (by omega) _).mono ?_
  rintro e w2 ⟨rfl, hb2⟩
  have HW2 : Hid (Below w.heap.size w w2) := HW1.out.trans (hb2.mono HW1.out.size)
  clear HW1 hb2
  go_wp2_with (first | ((with_reducible_and_instances (show wpList _ _ _ (Oper.mk _ (Op.load 26 _) _ _ _ _ :: _) _ _)); refine wl_load Try.underlying26 rfl info6p rfl rfl rfl (by (repeat (first | assumption | (with_reducible refine alloc_at ?_; (focus (first | omega | (simp; done) | (simp; omega)))) | (with_reducible refine boxed_at ?_; (focus (first | omega | (simp; done) | (simp; omega)))) | (with_reducible refine alloc_old ?_ ?_; (focus (first | omega | (simp; done) | (simp; omega)))) | (with_reducible refine boxed_old ?_ ?_; (focus (first | omega | (simp; done) | (simp; omega)))) | (with_reducible refine drew_old ?_)))) (by rfl) ?_) | ((with_reducible_and_instances (show wpList _ _ _ (Oper.mk _ (Op.store 26 _ _) _ _ _ _ :: _) _ _)); refine wl_store info6p rfl rfl rfl rfl (by (repeat (first | assumption | (with_reducible refine alloc_at ?_; (focus (first | omega | (simp; done) | (simp; omega)))) | (with_reducible refine boxed_at ?_; (focus (first | omega | (simp; done) | (simp; omega)))) | (with_reducible refine alloc_old ?_ ?_; (focus (first | omega | (simp; done) | (simp; omega)))) | (with_reducible refine boxed_old ?_ ?_; (focus (first | omega | (simp; done) | (simp; omega)))) | (with_reducible refine drew_old ?_)))) (by rfl) (by rfl) (by first | exact Cv.arr_one _ | exact Nv.arr_one _ | exact Av.arr_one rfl | exact Pv.arr_one _ | simp [Value.oneCell']) ?_))
  obtain ⟨hof1, ⟨hof2, hof3⟩, ⟨hof4, hof5⟩, ⟨hof6, hof7⟩⟩ := Pv.of_bd a0
  obtain ⟨P, hP⟩ : ∃ P, (Pv.of a0 : Pv) = P := ⟨_, rfl⟩
  have hP0 : (0 ≤ P.a ∧ P.a ≤ 2999) ∧ (0 ≤ P.u ∧ P.u ≤ 3) ∧ (1 ≤ P.e ∧ P.e ≤ 3) ∧ (0 ≤ P.t ∧ P.t ≤ 10) := by
    rw [← hP]
    refine ⟨?_, ⟨hof2, hof3⟩, ⟨hof4, hof5⟩, ?_⟩ <;> (try dsimp only) <;> omega
  obtain ⟨F, hF⟩ : ∃ F, 700000 + a1 = F := ⟨_, rfl⟩
  have hF0 : 700000 ≤ F := by omega
  have hF1 : F ≤ 765535 := by omega
  have HPP := Lib.hid hP
  have HP0 := Lib.hid hP0
  have hT : (w2.alloc (.cells P.arr 26)).heap[w2.heap.size]? = some (.cells P.arr 26 (0, 0)) := alloc_at rfl
  have hW0 : Below w.heap.size w (w2.alloc (.cells P.arr 26)) := HW2.out.alloc HW2.out.size _
  have hT0 : w.heap.size ≤ w2.heap.size := HW2.out.size
  have hT1 : w2.heap.size < (w2.alloc (.cells P.arr 26)).heap.size := by simp
  rw [hP, hF]
  clear hP hP0 hof1 hof2 hof3 hof4 hof5 hof6 hof7 HW2
  obtain ⟨T, hTT⟩ : ∃ T, w2.heap.size = T := ⟨_, rfl⟩
  obtain ⟨W0, hWW⟩ : ∃ W0, w2.alloc (.cells P.arr 26) = W0 := ⟨_, rfl⟩
  rw [hWW] at hT hW0 hT1 ⊢
  rw [hTT] at hT hT0 hT1 ⊢
  have HT := Lib.hid hT
  have HW0 := Lib.hid hW0
  have HF := Lib.hid hF
  clear hTT hWW hT hW0 hF
  have hpu := HP0.out.2.1
  have hpe := HP0.out.2.2.1
  have hpt := HP0.out.2.2.2
  obtain ⟨k, d, hAt⟩ := Cal.at_of (F + P.t) (by omega) (by omega)
  obtain ⟨c, hCn⟩ := Cal.cnt_of (u := P.u) (e := P.e) (day := F) hAt hpe.1 (by omega) (by omega)
  have hc0 := hCn.nn
  have hc1 : c ≤ 1000 := by
    by_cases h : 1 ≤ c
    · have := hCn.le hAt hpe.1 h; omega
    · omega
  have HAT := Lib.hid hAt
  have HCN := Lib.hid hCn
  clear hAt hCn
  obtain ⟨x, hx⟩ : ∃ x, Av.runs (Cal.vN P.u (F + P.t) k d P.e) P c c.toNat (Av.opened 0 (F + P.t)) = x := ⟨_, rfl⟩
  have HX := Lib.hid hx
  clear hx
  have HS0 : Hid ((fun w' : World => w'.heap[T]? = some (.cells P.arr 26 (0, 0))) W0.drew) := HT.out
  apply region_frame (fun Z A1 c1 w' => Hid (Below w.heap.size w w') ∧ Hid ((fun w' : World => w'.heap[T]? = some (.cells P.arr 26 (0, 0))) w') ∧ Hid (w'.heap[Z]? = some (.cells (x.arr (.slice A1 x.l.length c1)) 33 (0, 0))) ∧ Hid (Cys w' (T + 1) w'.heap.size (.slice A1 x.l.length c1) x.l) ∧ T < Z ∧ Z < w'.heap.size)
  · refine lane_start (ord := [0, 1, 3, 4, 2, 5, 6, 7, 8, 9, 10, 11]) (S := (fun w' : World => w'.heap[T]? = some (.cells P.arr 26 (0, 0)))) rfl (by kernel_rfl) (by exact HS0.out) (fun _ => ?_)
    refine lane_take (v := .agg P.arr) rfl (by kernel_rfl) (by kernel_rfl) (by rfl) (fun W hSw => exec_load rfl rfl (run_loadAt_row W T 26 26 _ (0, 0) _ hSw Try.underlying26 rfl info6p)) (by exact HS0.out) ?_
    simp only [Act.put, List.setIfInBounds_toArray, List.set_cons_zero, List.set_cons_succ]
    (refine lane_take (v := ?_) rfl (by kernel_rfl) (by kernel_rfl) (by rfl) ?_ (by exact HS0.out) ?_; rotate_left; (focus (intro W hSw; go_simp; try (with_reducible rfl))); simp only [Act.put, List.setIfInBounds_toArray, List.set_cons_zero, List.set_cons_succ])
    refine lane_take (v := .agg P.arr) rfl (by kernel_rfl) (by kernel_rfl) (by rfl) (fun W hSw => exec_load rfl rfl (run_loadAt_row W T 26 26 _ (0, 0) _ hSw Try.underlying26 rfl info6p)) (by exact HS0.out) ?_
    simp only [Act.put, List.setIfInBounds_toArray, List.set_cons_zero, List.set_cons_succ]
    (refine lane_take (v := ?_) rfl (by kernel_rfl) (by kernel_rfl) (by rfl) ?_ (by exact HS0.out) ?_; rotate_left; (focus (intro W hSw; go_simp; try (with_reducible rfl))); simp only [Act.put, List.setIfInBounds_toArray, List.set_cons_zero, List.set_cons_succ])
    refine lane_two (i := 2) (j := 9) (ordI := [5, 6, 7, 8, 9, 10, 11]) (ordJ := [2, 5, 6, 7, 8, 10, 11]) rfl rfl (by kernel_rfl) rfl (by rfl) (by rfl) (fun K hK => ?_) (fun K hK => ?_)
    · go_simp
      refine (open_any (p := P) 0 F (by have := HP0.out.2.2.2; omega)).mono ?_
      rintro e W1 ⟨rfl, hb⟩
      have hb0 : Below W0.heap.size W0 W1 := (Below.refl _ W0).drew.trans hb
      have HS1 : Hid ((fun w' : World => w'.heap[T]? = some (.cells P.arr 26 (0, 0))) W1) := (hb0.block T hT1).trans HT.out
      have HW1 : Hid (Below w.heap.size w W1) := HW0.out.trans (hb0.mono HW0.out.size)
      have hz1 : W0.heap.size ≤ W1.heap.size := hb0.size
      clear hb hb0
      refine hK _ _ HS1.out (fun _ => ?_)
      clear hK K
      refine lane_two (i := 5) (j := 9) (ordI := [6, 7, 8, 9, 10, 11]) (ordJ := [5, 6, 7, 8, 10, 11]) rfl rfl (by kernel_rfl) rfl (by rfl) (by rfl) (fun K hK => ?_) (fun K hK => ?_)
      · go_simp
        refine (daycalm_any (a := Av.opened 0 (F + P.t)) (p := P) (m := 0) (y := F) (c := c) (k := k) (d := d) Cys.nil (Av.opened_fine _ _) (by omega) (by show (1 : Int) ≠ 3; decide) HAT.out HP0.out.2.1 ⟨HP0.out.2.2.1.1, by have := HP0.out.2.2.1.2; omega⟩ ⟨by show (0 : Int) ≤ 0; omega, by show (0 : Int) ≤ 100000; omega⟩ (by show c ≤ 0 + 10000; omega) HCN.out ⟨HP0.out.1.1, by have := HP0.out.1.2; omega⟩).mono ?_
        rw [show (c - (Av.opened 0 (F + P.t)).ix).toNat = c.toNat from by show (c - 0).toNat = _; rw [Int.sub_zero]]
        rw [show (Av.opened 0 (F + P.t)).an = F + P.t from rfl]
        rw [HX.out]
        rintro e W3 ⟨v1, rfl, ho3, hb3⟩
        obtain ⟨A1, c1, rfl, _, _⟩ := ho3.form
        have HS3 : Hid ((fun w' : World => w'.heap[T]? = some (.cells P.arr 26 (0, 0))) W3) := (hb3.block T (by omega)).trans HS1.out
        have HW3 : Hid (Below w.heap.size w W3) := HW1.out.trans (hb3.mono HW1.out.size)
        have HC3 : Hid (Cys W3 W1.heap.size W3.heap.size (.slice A1 x.l.length c1) x.l) := ho3.cys
        have hz3 : W1.heap.size ≤ W3.heap.size := hb3.size
        clear hb3 ho3 HS1 HW1
        refine hK _ _ HS3.out (fun _ => ?_)
        clear hK K
        (refine lane_take (v := ?_) rfl (by kernel_rfl) (by kernel_rfl) (by rfl) ?_ (by exact HS3.out) ?_; rotate_left; (focus (intro W hSw; go_simp; try (with_reducible rfl))); simp only [Act.put, List.setIfInBounds_toArray, List.set_cons_zero, List.set_cons_succ])
        (refine lane_take (v := ?_) rfl (by kernel_rfl) (by kernel_rfl) (by rfl) ?_ (by exact HS3.out) ?_; rotate_left; (focus (intro W hSw; go_simp; try (with_reducible rfl))); simp only [Act.put, List.setIfInBounds_toArray, List.set_cons_zero, List.set_cons_succ])
        (refine lane_take (v := ?_) rfl (by kernel_rfl) (by kernel_rfl) (by rfl) ?_ (by exact HS3.out) ?_; rotate_left; (focus (intro W hSw; go_simp; try (with_reducible rfl))); simp only [Act.put, List.setIfInBounds_toArray, List.set_cons_zero, List.set_cons_succ])
        refine lane_alone rfl (by kernel_rfl) (by rfl) (fun K hK => ?_)
        go_simp
        have HZ : Hid ((W3.alloc (.cells #[.int .u8 0, .int .i64 0, .int .i64 0, .int .i64 0, .int .i64 0, .int .i64 0, .bool false, .slice none 0 0, .int .i64 0, .int .i64 0, .int .i64 0, .int .i64 0, .int .i64 0] 33)).heap[W3.heap.size]? = some (.cells #[.int .u8 0, .int .i64 0, .int .i64 0, .int .i64 0, .int .i64 0, .int .i64 0, .bool false, .slice none 0 0, .int .i64 0, .int .i64 0, .int .i64 0, .int .i64 0, .int .i64 0] 33 (0, 0))) := alloc_at rfl
        have HS4 : Hid ((fun w' : World => w'.heap[T]? = some (.cells P.arr 26 (0, 0))) (W3.alloc (.cells #[.int .u8 0, .int .i64 0, .int .i64 0, .int .i64 0, .int .i64 0, .int .i64 0, .bool false, .slice none 0 0, .int .i64 0, .int .i64 0, .int .i64 0, .int .i64 0, .int .i64 0] 33))) := alloc_old (by omega) HS3.out
        have HW4 : Hid (Below w.heap.size w (W3.alloc (.cells #[.int .u8 0, .int .i64 0, .int .i64 0, .int .i64 0, .int .i64 0, .int .i64 0, .bool false, .slice none 0 0, .int .i64 0, .int .i64 0, .int .i64 0, .int .i64 0, .int .i64 0] 33))) := HW3.out.alloc HW3.out.size _
        have HC4 : Hid (Cys (W3.alloc (.cells #[.int .u8 0, .int .i64 0, .int .i64 0, .int .i64 0, .int .i64 0, .int .i64 0, .bool false, .slice none 0 0, .int .i64 0, .int .i64 0, .int .i64 0, .int .i64 0, .int .i64 0] 33)) W1.heap.size W3.heap.size (.slice A1 x.l.length c1) x.l) := HC3.out.below ((Below.refl _ W3).alloc (Nat.le_refl _) _)
        have hzz : W3.heap.size < (W3.alloc (.cells #[.int .u8 0, .int .i64 0, .int .i64 0, .int .i64 0, .int .i64 0, .int .i64 0, .bool false, .slice none 0 0, .int .i64 0, .int .i64 0, .int .i64 0, .int .i64 0, .int .i64 0] 33)).heap.size := by simp
        refine hK _ _ HS4.out (fun _ => ?_)
        clear hK K
        refine lane_alone rfl (by kernel_rfl) (by rfl) (fun K hK => ?_)
        refine wp_store_row _ _ _ rfl W3.heap.size _ rfl rfl _ _ HZ.out (by exact info13) rfl (Av.arr_one rfl) ?_
        rw [row_boxed HZ.out]
        refine hK _ _ ((boxed_block_other (by omega)).trans HS4.out) (fun _ => ?_)
        clear hK K
        have hS5 : (fun w' : World => w'.heap[T]? = some (.cells P.arr 26 (0, 0))) (boxed (W3.alloc (.cells #[.int .u8 0, .int .i64 0, .int .i64 0, .int .i64 0, .int .i64 0, .int .i64 0, .bool false, .slice none 0 0, .int .i64 0, .int .i64 0, .int .i64 0, .int .i64 0, .int .i64 0] 33)) W3.heap.size (x.arr (.slice A1 x.l.length c1)) 33) := (boxed_block_other (by omega)).trans HS4.out
        have hZ5 : (boxed (W3.alloc (.cells #[.int .u8 0, .int .i64 0, .int .i64 0, .int .i64 0, .int .i64 0, .int .i64 0, .bool false, .slice none 0 0, .int .i64 0, .int .i64 0, .int .i64 0, .int .i64 0, .int .i64 0] 33)) W3.heap.size (x.arr (.slice A1 x.l.length c1)) 33).heap[W3.heap.size]? = some (.cells (x.arr (.slice A1 x.l.length c1)) 33 (0, 0)) := boxed_at hzz
        have hW5 : Below w.heap.size w (boxed (W3.alloc (.cells #[.int .u8 0, .int .i64 0, .int .i64 0, .int .i64 0, .int .i64 0, .int .i64 0, .bool false, .slice none 0 0, .int .i64 0, .int .i64 0, .int .i64 0, .int .i64 0, .int .i64 0] 33)) W3.heap.size (x.arr (.slice A1 x.l.length c1)) 33) := boxed_below HW4.out (by omega)
        have hC5 : Cys (boxed (W3.alloc (.cells #[.int .u8 0, .int .i64 0, .int .i64 0, .int .i64 0, .int .i64 0, .int .i64 0, .bool false, .slice none 0 0, .int .i64 0, .int .i64 0, .int .i64 0, .int .i64 0, .int .i64 0] 33)) W3.heap.size (x.arr (.slice A1 x.l.length c1)) 33) (T + 1) (boxed (W3.alloc (.cells #[.int .u8 0, .int .i64 0, .int .i64 0, .int .i64 0, .int .i64 0, .int .i64 0, .bool false, .slice none 0 0, .int .i64 0, .int .i64 0, .int .i64 0, .int .i64 0, .int .i64 0] 33)) W3.heap.size (x.arr (.slice A1 x.l.length c1)) 33).heap.size (.slice A1 x.l.length c1) x.l := (HC4.out.boxed (.inr (Nat.le_refl _))).more (by omega) (by simp only [boxed_size]; omega)
        have hzz5 : W3.heap.size < (boxed (W3.alloc (.cells #[.int .u8 0, .int .i64 0, .int .i64 0, .int .i64 0, .int .i64 0, .int .i64 0, .bool false, .slice none 0 0, .int .i64 0, .int .i64 0, .int .i64 0, .int .i64 0, .int .i64 0] 33)) W3.heap.size (x.arr (.slice A1 x.l.length c1)) 33).heap.size := by simp only [boxed_size]; exact hzz
        have hZT : T < W3.heap.size := by omega
        obtain ⟨W5, hW5e⟩ : ∃ W5, boxed (W3.alloc (.cells #[.int .u8 0, .int .i64 0, .int .i64 0, .int .i64 0, .int .i64 0, .int .i64 0, .bool false, .slice none 0 0, .int .i64 0, .int .i64 0, .int .i64 0, .int .i64 0, .int .i64 0] 33)) W3.heap.size (x.arr (.slice A1 x.l.length c1)) 33 = W5 := ⟨_, rfl⟩
        rw [hW5e] at hS5 hZ5 hW5 hC5 hzz5 ⊢
        obtain ⟨Z, hZe⟩ : ∃ Z, W3.heap.size = Z := ⟨_, rfl⟩
        rw [hZe] at hZ5 hzz5 hZT ⊢
        have HS5 := Lib.hid hS5
        have HZ5 := Lib.hid hZ5
        have HW5 := Lib.hid hW5
        have HC5 := Lib.hid hC5
        clear hW5e hZe hS5 hZ5 hW5 hC5 HZ HS4 HW4 HC4 hzz
        refine lane_alone rfl (by kernel_rfl) (by rfl) (fun K hK => ?_)
        go_simp
        refine hK _ _ HS5.out (fun _ => ?_)
        clear hK K
        refine lane_end (by kernel_rfl) ?_
        exact ⟨rfl, _, _, _, rfl, HW5, HS5, HZ5, HC5, hZT, hzz5⟩
      · go_simp
        have hZ2 : (W1.alloc (.cells #[.int .u8 0, .int .i64 0, .int .i64 0, .int .i64 0, .int .i64 0, .int .i64 0, .bool false, .slice none 0 0, .int .i64 0, .int .i64 0, .int .i64 0, .int .i64 0, .int .i64 0] 33)).heap[W1.heap.size]? = some (.cells #[.int .u8 0, .int .i64 0, .int .i64 0, .int .i64 0, .int .i64 0, .int .i64 0, .bool false, .slice none 0 0, .int .i64 0, .int .i64 0, .int .i64 0, .int .i64 0, .int .i64 0] 33 (0, 0)) := alloc_at rfl
        have HS2 : Hid ((fun w' : World => w'.heap[T]? = some (.cells P.arr 26 (0, 0))) (W1.alloc (.cells #[.int .u8 0, .int .i64 0, .int .i64 0, .int .i64 0, .int .i64 0, .int .i64 0, .bool false, .slice none 0 0, .int .i64 0, .int .i64 0, .int .i64 0, .int .i64 0, .int .i64 0] 33))) := alloc_old (by omega) HS1.out
        have HW2 : Hid (Below w.heap.size w (W1.alloc (.cells #[.int .u8 0, .int .i64 0, .int .i64 0, .int .i64 0, .int .i64 0, .int .i64 0, .bool false, .slice none 0 0, .int .i64 0, .int .i64 0, .int .i64 0, .int .i64 0, .int .i64 0] 33))) := HW1.out.alloc HW1.out.size _
        have hz2 : (W1.alloc (.cells #[.int .u8 0, .int .i64 0, .int .i64 0, .int .i64 0, .int .i64 0, .int .i64 0, .bool false, .slice none 0 0, .int .i64 0, .int .i64 0, .int .i64 0, .int .i64 0, .int .i64 0] 33)).heap.size = W1.heap.size + 1 := by simp
        refine hK _ _ HS2.out (fun _ => ?_)
        clear hK K
        refine lane_alone rfl (by kernel_rfl) (by rfl) (fun K hK => ?_)
        go_simp
        refine (daycalm_any (a := Av.opened 0 (F + P.t)) (p := P) (m := 0) (y := F) (c := c) (k := k) (d := d) Cys.nil (Av.opened_fine _ _) (by omega) (by show (1 : Int) ≠ 3; decide) HAT.out HP0.out.2.1 ⟨HP0.out.2.2.1.1, by have := HP0.out.2.2.1.2; omega⟩ ⟨by show (0 : Int) ≤ 0; omega, by show (0 : Int) ≤ 100000; omega⟩ (by show c ≤ 0 + 10000; omega) HCN.out ⟨HP0.out.1.1, by have := HP0.out.1.2; omega⟩).mono ?_
        rw [show (c - (Av.opened 0 (F + P.t)).ix).toNat = c.toNat from by show (c - 0).toNat = _; rw [Int.sub_zero]]
        rw [show (Av.opened 0 (F + P.t)).an = F + P.t from rfl]
        rw [HX.out]
        rintro e W4 ⟨v1, rfl, ho3, hb3⟩
        obtain ⟨A1, c1, rfl, _, _⟩ := ho3.form
        have HS4 : Hid ((fun w' : World => w'.heap[T]? = some (.cells P.arr 26 (0, 0))) W4) := (hb3.block T (by omega)).trans HS2.out
        have HS3 := HS4
        have HW4 : Hid (Below w.heap.size w W4) := HW2.out.trans (hb3.mono HW2.out.size)
        have HC4 : Hid (Cys W4 (W1.alloc (.cells #[.int .u8 0, .int .i64 0, .int .i64 0, .int .i64 0, .int .i64 0, .int .i64 0, .bool false, .slice none 0 0, .int .i64 0, .int .i64 0, .int .i64 0, .int .i64 0, .int .i64 0] 33)).heap.size W4.heap.size (.slice A1 x.l.length c1) x.l) := ho3.cys
        have hz3 : (W1.alloc (.cells #[.int .u8 0, .int .i64 0, .int .i64 0, .int .i64 0, .int .i64 0, .int .i64 0, .bool false, .slice none 0 0, .int .i64 0, .int .i64 0, .int .i64 0, .int .i64 0, .int .i64 0] 33)).heap.size ≤ W4.heap.size := hb3.size
        have HZ : Hid (W4.heap[W1.heap.size]? = some (.cells #[.int .u8 0, .int .i64 0, .int .i64 0, .int .i64 0, .int .i64 0, .int .i64 0, .bool false, .slice none 0 0, .int .i64 0, .int .i64 0, .int .i64 0, .int .i64 0, .int .i64 0] 33 (0, 0))) := (hb3.block _ (by omega)).trans hZ2
        have hzz : W1.heap.size < W4.heap.size := by omega
        clear hb3 ho3 HS2 HW2 hZ2
        refine hK _ _ HS4.out (fun _ => ?_)
        clear hK K
        (refine lane_take (v := ?_) rfl (by kernel_rfl) (by kernel_rfl) (by rfl) ?_ (by exact HS3.out) ?_; rotate_left; (focus (intro W hSw; go_simp; try (with_reducible rfl))); simp only [Act.put, List.setIfInBounds_toArray, List.set_cons_zero, List.set_cons_succ])
        (refine lane_take (v := ?_) rfl (by kernel_rfl) (by kernel_rfl) (by rfl) ?_ (by exact HS3.out) ?_; rotate_left; (focus (intro W hSw; go_simp; try (with_reducible rfl))); simp only [Act.put, List.setIfInBounds_toArray, List.set_cons_zero, List.set_cons_succ])
        (refine lane_take (v := ?_) rfl (by kernel_rfl) (by kernel_rfl) (by rfl) ?_ (by exact HS3.out) ?_; rotate_left; (focus (intro W hSw; go_simp; try (with_reducible rfl))); simp only [Act.put, List.setIfInBounds_toArray, List.set_cons_zero, List.set_cons_succ])
        refine lane_alone rfl (by kernel_rfl) (by rfl) (fun K hK => ?_)
        refine wp_store_row _ _ _ rfl W1.heap.size _ rfl rfl _ _ HZ.out (by exact info13) rfl (Av.arr_one rfl) ?_
        rw [row_boxed HZ.out]
        refine hK _ _ ((boxed_block_other (by omega)).trans HS4.out) (fun _ => ?_)
        clear hK K
        have hS5 : (fun w' : World => w'.heap[T]? = some (.cells P.arr 26 (0, 0))) (boxed W4 W1.heap.size (x.arr (.slice A1 x.l.length c1)) 33) := (boxed_block_other (by omega)).trans HS4.out
        have hZ5 : (boxed W4 W1.heap.size (x.arr (.slice A1 x.l.length c1)) 33).heap[W1.heap.size]? = some (.cells (x.arr (.slice A1 x.l.length c1)) 33 (0, 0)) := boxed_at hzz
        have hW5 : Below w.heap.size w (boxed W4 W1.heap.size (x.arr (.slice A1 x.l.length c1)) 33) := boxed_below HW4.out (by omega)
        have hC5 : Cys (boxed W4 W1.heap.size (x.arr (.slice A1 x.l.length c1)) 33) (T + 1) (boxed W4 W1.heap.size (x.arr (.slice A1 x.l.length c1)) 33).heap.size (.slice A1 x.l.length c1) x.l := (HC4.out.boxed (.inl (by omega))).more (by omega) (by simp only [boxed_size]; omega)
        have hzz5 : W1.heap.size < (boxed W4 W1.heap.size (x.arr (.slice A1 x.l.length c1)) 33).heap.size := by simp only [boxed_size]; exact hzz
        have hZT : T < W1.heap.size := by omega
        obtain ⟨W5, hW5e⟩ : ∃ W5, boxed W4 W1.heap.size (x.arr (.slice A1 x.l.length c1)) 33 = W5 := ⟨_, rfl⟩
        rw [hW5e] at hS5 hZ5 hW5 hC5 hzz5 ⊢
        obtain ⟨Z, hZe⟩ : ∃ Z, W1.heap.size = Z := ⟨_, rfl⟩
        rw [hZe] at hZ5 hzz5 hZT ⊢
        have HS5 := Lib.hid hS5
        have HZ5 := Lib.hid hZ5
        have HW5 := Lib.hid hW5
        have HC5 := Lib.hid hC5
        clear hW5e hZe hS5 hZ5 hW5 hC5 HZ HS4 HW4 HC4 hzz
        refine lane_alone rfl (by kernel_rfl) (by rfl) (fun K hK => ?_)
        go_simp
        refine hK _ _ HS5.out (fun _ => ?_)
        clear hK K
        refine lane_end (by kernel_rfl) ?_
        exact ⟨rfl, _, _, _, rfl, HW5, HS5, HZ5, HC5, hZT, hzz5⟩
    · go_simp
      have hZ0 : (W0.alloc (.cells #[.int .u8 0, .int .i64 0, .int .i64 0, .int .i64 0, .int .i64 0, .int .i64 0, .bool false, .slice none 0 0, .int .i64 0, .int .i64 0, .int .i64 0, .int .i64 0, .int .i64 0] 33)).heap[W0.heap.size]? = some (.cells #[.int .u8 0, .int .i64 0, .int .i64 0, .int .i64 0, .int .i64 0, .int .i64 0, .bool false, .slice none 0 0, .int .i64 0, .int .i64 0, .int .i64 0, .int .i64 0, .int .i64 0] 33 (0, 0)) := alloc_at rfl
      have hT00 : (W0.alloc (.cells #[.int .u8 0, .int .i64 0, .int .i64 0, .int .i64 0, .int .i64 0, .int .i64 0, .bool false, .slice none 0 0, .int .i64 0, .int .i64 0, .int .i64 0, .int .i64 0, .int .i64 0] 33)).heap[T]? = some (.cells P.arr 26 (0, 0)) := alloc_old hT1 HT.out
      have hZ1 : ((W0.alloc (.cells #[.int .u8 0, .int .i64 0, .int .i64 0, .int .i64 0, .int .i64 0, .int .i64 0, .bool false, .slice none 0 0, .int .i64 0, .int .i64 0, .int .i64 0, .int .i64 0, .int .i64 0] 33)).drew).heap[W0.heap.size]? = some (.cells #[.int .u8 0, .int .i64 0, .int .i64 0, .int .i64 0, .int .i64 0, .int .i64 0, .bool false, .slice none 0 0, .int .i64 0, .int .i64 0, .int .i64 0, .int .i64 0, .int .i64 0] 33 (0, 0)) := hZ0
      have HS1 : Hid ((fun w' : World => w'.heap[T]? = some (.cells P.arr 26 (0, 0))) ((W0.alloc (.cells #[.int .u8 0, .int .i64 0, .int .i64 0, .int .i64 0, .int .i64 0, .int .i64 0, .bool false, .slice none 0 0, .int .i64 0, .int .i64 0, .int .i64 0, .int .i64 0, .int .i64 0] 33)).drew)) := hT00
      have HW1 : Hid (Below w.heap.size w ((W0.alloc (.cells #[.int .u8 0, .int .i64 0, .int .i64 0, .int .i64 0, .int .i64 0, .int .i64 0, .bool false, .slice none 0 0, .int .i64 0, .int .i64 0, .int .i64 0, .int .i64 0, .int .i64 0] 33)).drew)) := (HW0.out.alloc HW0.out.size _).drew
      have hz1 : ((W0.alloc (.cells #[.int .u8 0, .int .i64 0, .int .i64 0, .int .i64 0, .int .i64 0, .int .i64 0, .bool false, .slice none 0 0, .int .i64 0, .int .i64 0, .int .i64 0, .int .i64 0, .int .i64 0] 33)).drew).heap.size = W0.heap.size + 1 := by show (W0.alloc _).heap.size = _; rw [World.size_alloc]
      clear hZ0 hT00
      refine hK _ _ HS1.out (fun _ => ?_)
      clear hK K
      refine lane_alone rfl (by kernel_rfl) (by rfl) (fun K hK => ?_)
      go_simp
      refine (open_any (p := P) 0 F (by have := HP0.out.2.2.2; omega)).mono ?_
      rintro e W2 ⟨rfl, hb⟩
      have hZ2 : W2.heap[W0.heap.size]? = some (.cells #[.int .u8 0, .int .i64 0, .int .i64 0, .int .i64 0, .int .i64 0, .int .i64 0, .bool false, .slice none 0 0, .int .i64 0, .int .i64 0, .int .i64 0, .int .i64 0, .int .i64 0] 33 (0, 0)) := (hb.block _ (by omega)).trans hZ1
      have HS2 : Hid ((fun w' : World => w'.heap[T]? = some (.cells P.arr 26 (0, 0))) W2) := (hb.block T (by omega)).trans HS1.out
      have HW2 : Hid (Below w.heap.size w W2) := HW1.out.trans (hb.mono HW1.out.size)
      have hz2 : W0.heap.size + 1 ≤ W2.heap.size := by have := hb.size; omega
      clear hb hZ1 HS1 HW1
      refine hK _ _ HS2.out (fun _ => ?_)
      clear hK K
      refine lane_alone rfl (by kernel_rfl) (by rfl) (fun K hK => ?_)
      go_simp
      refine (daycalm_any (a := Av.opened 0 (F + P.t)) (p := P) (m := 0) (y := F) (c := c) (k := k) (d := d) Cys.nil (Av.opened_fine _ _) (by omega) (by show (1 : Int) ≠ 3; decide) HAT.out HP0.out.2.1 ⟨HP0.out.2.2.1.1, by have := HP0.out.2.2.1.2; omega⟩ ⟨by show (0 : Int) ≤ 0; omega, by show (0 : Int) ≤ 100000; omega⟩ (by show c ≤ 0 + 10000; omega) HCN.out ⟨HP0.out.1.1, by have := HP0.out.1.2; omega⟩).mono ?_
      rw [show (c - (Av.opened 0 (F + P.t)).ix).toNat = c.toNat from by show (c - 0).toNat = _; rw [Int.sub_zero]]
      rw [show (Av.opened 0 (F + P.t)).an = F + P.t from rfl]
      rw [HX.out]
      rintro e W4 ⟨v1, rfl, ho3, hb3⟩
      obtain ⟨A1, c1, rfl, _, _⟩ := ho3.form
      have HS4 : Hid ((fun w' : World => w'.heap[T]? = some (.cells P.arr 26 (0, 0))) W4) := (hb3.block T (by omega)).trans HS2.out
      have HS3 := HS4
      have HW4 : Hid (Below w.heap.size w W4) := HW2.out.trans (hb3.mono HW2.out.size)
      have HC4 : Hid (Cys W4 W2.heap.size W4.heap.size (.slice A1 x.l.length c1) x.l) := ho3.cys
      have hz3 : W2.heap.size ≤ W4.heap.size := hb3.size
      have HZ : Hid (W4.heap[W0.heap.size]? = some (.cells #[.int .u8 0, .int .i64 0, .int .i64 0, .int .i64 0, .int .i64 0, .int .i64 0, .bool false, .slice none 0 0, .int .i64 0, .int .i64 0, .int .i64 0, .int .i64 0, .int .i64 0] 33 (0, 0))) := (hb3.block _ (by omega)).trans hZ2
      have hzz : W0.heap.size < W4.heap.size := by omega
      clear hb3 ho3 HS2 HW2 hZ2
      refine hK _ _ HS4.out (fun _ => ?_)
      clear hK K
      (refine lane_take (v := ?_) rfl (by kernel_rfl) (by kernel_rfl) (by rfl) ?_ (by exact HS3.out) ?_; rotate_left; (focus (intro W hSw; go_simp; try (with_reducible rfl))); simp only [Act.put, List.setIfInBounds_toArray, List.set_cons_zero, List.set_cons_succ])
      (refine lane_take (v := ?_) rfl (by kernel_rfl) (by kernel_rfl) (by rfl) ?_ (by exact HS3.out) ?_; rotate_left; (focus (intro W hSw; go_simp; try (with_reducible rfl))); simp only [Act.put, List.setIfInBounds_toArray, List.set_cons_zero, List.set_cons_succ])
      (refine lane_take (v := ?_) rfl (by kernel_rfl) (by kernel_rfl) (by rfl) ?_ (by exact HS3.out) ?_; rotate_left; (focus (intro W hSw; go_simp; try (with_reducible rfl))); simp only [Act.put, List.setIfInBounds_toArray, List.set_cons_zero, List.set_cons_succ])
      refine lane_alone rfl (by kernel_rfl) (by rfl) (fun K hK => ?_)
      refine wp_store_row _ _ _ rfl W0.heap.size _ rfl rfl _ _ HZ.out (by exact info13) rfl (Av.arr_one rfl) ?_
      rw [row_boxed HZ.out]
      refine hK _ _ ((boxed_block_other (by omega)).trans HS4.out) (fun _ => ?_)
      clear hK K
      have hS5 : (fun w' : World => w'.heap[T]? = some (.cells P.arr 26 (0, 0))) (boxed W4 W0.heap.size (x.arr (.slice A1 x.l.length c1)) 33) := (boxed_block_other (by omega)).trans HS4.out
      have hZ5 : (boxed W4 W0.heap.size (x.arr (.slice A1 x.l.length c1)) 33).heap[W0.heap.size]? = some (.cells (x.arr (.slice A1 x.l.length c1)) 33 (0, 0)) := boxed_at hzz
      have hW5 : Below w.heap.size w (boxed W4 W0.heap.size (x.arr (.slice A1 x.l.length c1)) 33) := boxed_below HW4.out (by omega)
      have hC5 : Cys (boxed W4 W0.heap.size (x.arr (.slice A1 x.l.length c1)) 33) (T + 1) (boxed W4 W0.heap.size (x.arr (.slice A1 x.l.length c1)) 33).heap.size (.slice A1 x.l.length c1) x.l := (HC4.out.boxed (.inl (by omega))).more (by omega) (by simp only [boxed_size]; omega)
      have hzz5 : W0.heap.size < (boxed W4 W0.heap.size (x.arr (.slice A1 x.l.length c1)) 33).heap.size := by simp only [boxed_size]; exact hzz
      have hZT : T < W0.heap.size := by omega
      obtain ⟨W5, hW5e⟩ : ∃ W5, boxed W4 W0.heap.size (x.arr (.slice A1 x.l.length c1)) 33 = W5 := ⟨_, rfl⟩
      rw [hW5e] at hS5 hZ5 hW5 hC5 hzz5 ⊢
      obtain ⟨Z, hZe⟩ : ∃ Z, W0.heap.size = Z := ⟨_, rfl⟩
      rw [hZe] at hZ5 hzz5 hZT ⊢
      have HS5 := Lib.hid hS5
      have HZ5 := Lib.hid hZ5
      have HW5 := Lib.hid hW5
      have HC5 := Lib.hid hC5
      clear hW5e hZe hS5 hZ5 hW5 hC5 HZ HS4 HW4 HC4 hzz
      refine lane_alone rfl (by kernel_rfl) (by rfl) (fun K hK => ?_)
      go_simp
      refine hK _ _ HS5.out (fun _ => ?_)
      clear hK K
      refine lane_end (by kernel_rfl) ?_
      exact ⟨rfl, _, _, _, rfl, HW5, HS5, HZ5, HC5, hZT, hzz5⟩
  · intro Z A1 c1 W5 ⟨HW5, HS5, HZ5, HC5, hZT, hzz5⟩
    have hxs := Av.runs_same (p := P) (N := Cal.vN P.u (F + P.t) k d P.e) (c := c) c.toNat (Av.opened 0 (F + P.t))
    have hxf := Av.Fine.runs (p := P) (N := Cal.vN P.u (F + P.t) k d P.e) (c := c) ⟨HP0.out.1.1, by have := HP0.out.1.2; omega⟩ c.toNat 0 _ (Av.opened_fine 0 (F + P.t))
    have hxk := Av.runs_sk (p := P) (N := Cal.vN P.u (F + P.t) k d P.e) (c := c) c.toNat (Av.opened 0 (F + P.t)) rfl
    rw [HX.out] at hxs hxf hxk
    obtain ⟨x1, x2, x3, x4, x5⟩ := hxs
    have x1 : x.st = 1 := x1
    have x2 : x.pl = 0 := x2
    have x3 : x.an = F + P.t := x3
    have x4 : x.ix = c := by rw [x4]; show 0 + (c.toNat : Int) = c; omega
    obtain ⟨c', hCn'⟩ := Cal.cnt_of (u := P.u) (e := P.e) (day := F + a2) HAT.out HP0.out.2.2.1.1 (by omega) (by omega)
    have hcc := hCn'.nn
    have hc2 : c' ≤ 1000 := by
      by_cases h : 1 ≤ c'
      · have := hCn'.le HAT.out HP0.out.2.2.1.1 h; omega
      · omega
    have hlen := hxf.len
    have hm : 0 + c.toNat ≤ 1000 := by omega
    have HCN' := Lib.hid hCn'
    have X1 := Lib.hid x1
    have X2 := Lib.hid x2
    have X3 := Lib.hid x3
    have X4 := Lib.hid x4
    have XF := Lib.hid hxf
    have XK := Lib.hid hxk
    obtain ⟨y, hy⟩ : ∃ y, ({ x with st := 2 } : Av) = y := ⟨_, rfl⟩
    have HY := Lib.hid hy
    obtain ⟨z, hz⟩ : ∃ z, Av.runs (Cal.vN P.u (F + P.t) k d P.e) P c' (c' - c).toNat y = z := ⟨_, rfl⟩
    have hzr : z = { y with ix := y.ix + (c' - c).toNat, ct := y.ct + (c' - c).toNat, sp := y.sp + (c' - c).toNat } := by rw [← hz, Av.runs_rest _ _ (by rw [← hy])]
    have HZZ := Lib.hid hz
    have HZR := Lib.hid hzr
    have ZF : Hid (z.Fine (0 + c.toNat + (c' - c).toNat)) := by
      show Av.Fine _ _
      rw [← hz]; exact Av.Fine.runs ⟨HP0.out.1.1, by have := HP0.out.1.2; omega⟩ _ _ _ (by rw [← hy]; exact hxf.st 2)
    have zst : z.st = 2 := by rw [hzr, ← hy]
    have zsk : z.sk = false := by rw [hzr, ← hy]; exact hxk
    have zan : z.an = F + P.t := by rw [hzr, ← hy]; exact x3
    have zl : z.l = x.l := by rw [hzr, ← hy]
    obtain ⟨wv, hwv⟩ : ∃ wv, ({ z with st := 1 } : Av) = wv := ⟨_, rfl⟩
    have HWV := Lib.hid hwv
    have wst : wv.st = 1 := by rw [← hwv]
    have wsk : wv.sk = false := by rw [← hwv]; exact zsk
    have wan : wv.an = F + P.t := by rw [← hwv]; exact zan
    obtain ⟨en, hen⟩ : ∃ en, ({ wv with st := 3 } : Av) = en := ⟨_, rfl⟩
    have HEN := Lib.hid hen
    have WF : Hid (wv.Fine (0 + c.toNat + (c' - c).toNat)) := by
      show Av.Fine _ _
      rw [← hwv]; exact ZF.out.st 1
    have hee : Av.each { wv with st := 3 } (fun c => Cv.over c) = en := by
      rw [← hen]; exact Av.each_id (fun q hq => ⟨(WF.out.calm q hq).over, (WF.out.calm q hq).open_⟩)
    have HEE := Lib.hid hee
    obtain ⟨sv, hsv⟩ : ∃ sv, ({ wv with sk := true } : Av) = sv := ⟨_, rfl⟩
    have HSV := Lib.hid hsv
    have ZST := Lib.hid zst
    have ZSK := Lib.hid zsk
    have ZL := Lib.hid zl
    have WST := Lib.hid wst
    have WSK := Lib.hid wsk
    have WAN := Lib.hid wan
    have hm2 : 0 + c.toNat + (c' - c).toNat ≤ 2001 := by omega
    have hS5 := HS5.out
    have hZ5 := HZ5.out
    have hT5 : T < W5.heap.size := by omega
    clear hCn' x1 x2 x3 x4 x5 hxf hxk hy hz hzr zst zsk zan zl hwv wst wsk wan hen hee hsv HX
    go_wp2_with (first | ((with_reducible_and_instances (show wpList _ _ _ (Oper.mk _ (Op.load 33 _) _ _ _ _ :: _) _ _)); refine wl_load Try.underlying33 rfl info13 rfl rfl rfl (by (repeat (first | assumption | (with_reducible refine alloc_at ?_; (focus (first | omega | (simp; done) | (simp; omega)))) | (with_reducible refine boxed_at ?_; (focus (first | omega | (simp; done) | (simp; omega)))) | (with_reducible refine alloc_old ?_ ?_; (focus (first | omega | (simp; done) | (simp; omega)))) | (with_reducible refine boxed_old ?_ ?_; (focus (first | omega | (simp; done) | (simp; omega)))) | (with_reducible refine drew_old ?_)))) (by rfl) ?_) | ((with_reducible_and_instances (show wpList _ _ _ (Oper.mk _ (Op.load 26 _) _ _ _ _ :: _) _ _)); refine wl_load Try.underlying26 rfl info6p rfl rfl rfl (by (repeat (first | assumption | (with_reducible refine alloc_at ?_; (focus (first | omega | (simp; done) | (simp; omega)))) | (with_reducible refine boxed_at ?_; (focus (first | omega | (simp; done) | (simp; omega)))) | (with_reducible refine alloc_old ?_ ?_; (focus (first | omega | (simp; done) | (simp; omega)))) | (with_reducible refine boxed_old ?_ ?_; (focus (first | omega | (simp; done) | (simp; omega)))) | (with_reducible refine drew_old ?_)))) (by rfl) ?_) | ((with_reducible_and_instances (show wpList _ _ _ (Oper.mk _ (Op.store 33 _ _) _ _ _ _ :: _) _ _)); refine wl_store info13 rfl rfl rfl rfl (by (repeat (first | assumption | (with_reducible refine alloc_at ?_; (focus (first | omega | (simp; done) | (simp; omega)))) | (with_reducible refine boxed_at ?_; (focus (first | omega | (simp; done) | (simp; omega)))) | (with_reducible refine alloc_old ?_ ?_; (focus (first | omega | (simp; done) | (simp; omega)))) | (with_reducible refine boxed_old ?_ ?_; (focus (first | omega | (simp; done) | (simp; omega)))) | (with_reducible refine drew_old ?_)))) (by rfl) (by rfl) (by first | exact Cv.arr_one _ | exact Nv.arr_one _ | exact Av.arr_one rfl | exact Pv.arr_one _ | simp [Value.oneCell']) ?_))
    refine (pause_yes (a := x) X1.out (HC5.out.more (Nat.zero_le _) (Nat.le_refl _)) (by omega)).mono ?_
    rw [HY.out]
    rintro e w6 ⟨v6, rfl, ho6, hb6⟩
    have hS6 : w6.heap[T]? = some (.cells P.arr 26 (0, 0)) := below_block hb6 hS5
    have hX6 : w6.heap[Z]? = some (.cells (x.arr (.slice A1 x.l.length c1)) 33 (0, 0)) := below_block hb6 hZ5
    have hW6 : Below w.heap.size w w6 := HW5.out.trans (hb6.mono HW5.out.size)
    obtain ⟨A6, c6, rfl, _, _⟩ := ho6.form
    have HC6 : Hid (Cys w6 0 w6.heap.size (.slice A6 y.l.length c6) y.l) := ho6.cys.more (Nat.zero_le _) (Nat.le_refl _)
    have hz6 : Z < w6.heap.size := (Array.getElem?_eq_some_iff.1 hX6).1
    have ht6 : T < w6.heap.size := (Array.getElem?_eq_some_iff.1 hS6).1
    have HW6 := Lib.hid hW6
    clear hb6 ho6 hW6 hS5 hZ5 HC5
    go_wp2_with (first | ((with_reducible_and_instances (show wpList _ _ _ (Oper.mk _ (Op.load 33 _) _ _ _ _ :: _) _ _)); refine wl_load Try.underlying33 rfl info13 rfl rfl rfl (by (repeat (first | assumption | (with_reducible refine alloc_at ?_; (focus (first | omega | (simp; done) | (simp; omega)))) | (with_reducible refine boxed_at ?_; (focus (first | omega | (simp; done) | (simp; omega)))) | (with_reducible refine alloc_old ?_ ?_; (focus (first | omega | (simp; done) | (simp; omega)))) | (with_reducible refine boxed_old ?_ ?_; (focus (first | omega | (simp; done) | (simp; omega)))) | (with_reducible refine drew_old ?_)))) (by rfl) ?_) | ((with_reducible_and_instances (show wpList _ _ _ (Oper.mk _ (Op.load 26 _) _ _ _ _ :: _) _ _)); refine wl_load Try.underlying26 rfl info6p rfl rfl rfl (by (repeat (first | assumption | (with_reducible refine alloc_at ?_; (focus (first | omega | (simp; done) | (simp; omega)))) | (with_reducible refine boxed_at ?_; (focus (first | omega | (simp; done) | (simp; omega)))) | (with_reducible refine alloc_old ?_ ?_; (focus (first | omega | (simp; done) | (simp; omega)))) | (with_reducible refine boxed_old ?_ ?_; (focus (first | omega | (simp; done) | (simp; omega)))) | (with_reducible refine drew_old ?_)))) (by rfl) ?_) | ((with_reducible_and_instances (show wpList _ _ _ (Oper.mk _ (Op.store 33 _ _) _ _ _ _ :: _) _ _)); refine wl_store info13 rfl rfl rfl rfl (by (repeat (first | assumption | (with_reducible refine alloc_at ?_; (focus (first | omega | (simp; done) | (simp; omega)))) | (with_reducible refine boxed_at ?_; (focus (first | omega | (simp; done) | (simp; omega)))) | (with_reducible refine alloc_old ?_ ?_; (focus (first | omega | (simp; done) | (simp; omega)))) | (with_reducible refine boxed_old ?_ ?_; (focus (first | omega | (simp; done) | (simp; omega)))) | (with_reducible refine drew_old ?_)))) (by rfl) (by rfl) (by first | exact Cv.arr_one _ | exact Nv.arr_one _ | exact Av.arr_one rfl | exact Pv.arr_one _ | simp [Value.oneCell']) ?_))
    refine (pause_no (a := y) (by rw [← HY.out]; exact (by omega : (2 : Int) ≠ 1))).mono ?_
    rintro e w7 ⟨rfl, hb7⟩
    have hS7 : w7.heap[T]? = some (.cells P.arr 26 (0, 0)) := below_block hb7 (alloc_old ht6 hS6)
    have hX7 : w7.heap[Z]? = some (.cells (x.arr (.slice A1 x.l.length c1)) 33 (0, 0)) := below_block hb7 (alloc_old hz6 hX6)
    have hY7 : w7.heap[w6.heap.size]? = some (.cells (y.arr (.slice A6 y.l.length c6)) 33 (0, 0)) := below_block hb7 (alloc_at rfl)
    have HW7 : Hid (Below w.heap.size w w7) := (HW6.out.alloc HW6.out.size _).trans (hb7.mono (by have := HW6.out.size; simp; omega))
    have HC7 : Hid (Cys w7 0 w7.heap.size (.slice A6 y.l.length c6) y.l) := ((HC6.out.below ((Below.refl _ w6).alloc (Nat.le_refl _) _)).below (hb7.mono (by simp))).more (Nat.le_refl _) (by have := hb7.size; simp at this; omega)
    have hy7 : w6.heap.size < w7.heap.size := (Array.getElem?_eq_some_iff.1 hY7).1
    have ht7 : T < w7.heap.size := by omega
    have hz7 : Z < w7.heap.size := by omega
    clear hb7 HC6 hS6 hX6
    go_wp2_with (first | ((with_reducible_and_instances (show wpList _ _ _ (Oper.mk _ (Op.load 33 _) _ _ _ _ :: _) _ _)); refine wl_load Try.underlying33 rfl info13 rfl rfl rfl (by (repeat (first | assumption | (with_reducible refine alloc_at ?_; (focus (first | omega | (simp; done) | (simp; omega)))) | (with_reducible refine boxed_at ?_; (focus (first | omega | (simp; done) | (simp; omega)))) | (with_reducible refine alloc_old ?_ ?_; (focus (first | omega | (simp; done) | (simp; omega)))) | (with_reducible refine boxed_old ?_ ?_; (focus (first | omega | (simp; done) | (simp; omega)))) | (with_reducible refine drew_old ?_)))) (by rfl) ?_) | ((with_reducible_and_instances (show wpList _ _ _ (Oper.mk _ (Op.load 26 _) _ _ _ _ :: _) _ _)); refine wl_load Try.underlying26 rfl info6p rfl rfl rfl (by (repeat (first | assumption | (with_reducible refine alloc_at ?_; (focus (first | omega | (simp; done) | (simp; omega)))) | (with_reducible refine boxed_at ?_; (focus (first | omega | (simp; done) | (simp; omega)))) | (with_reducible refine alloc_old ?_ ?_; (focus (first | omega | (simp; done) | (simp; omega)))) | (with_reducible refine boxed_old ?_ ?_; (focus (first | omega | (simp; done) | (simp; omega)))) | (with_reducible refine drew_old ?_)))) (by rfl) ?_) | ((with_reducible_and_instances (show wpList _ _ _ (Oper.mk _ (Op.store 33 _ _) _ _ _ _ :: _) _ _)); refine wl_store info13 rfl rfl rfl rfl (by (repeat (first | assumption | (with_reducible refine alloc_at ?_; (focus (first | omega | (simp; done) | (simp; omega)))) | (with_reducible refine boxed_at ?_; (focus (first | omega | (simp; done) | (simp; omega)))) | (with_reducible refine alloc_old ?_ ?_; (focus (first | omega | (simp; done) | (simp; omega)))) | (with_reducible refine boxed_old ?_ ?_; (focus (first | omega | (simp; done) | (simp; omega)))) | (with_reducible refine drew_old ?_)))) (by rfl) (by rfl) (by first | exact Cv.arr_one _ | exact Nv.arr_one _ | exact Av.arr_one rfl | exact Pv.arr_one _ | simp [Value.oneCell']) ?_))
    have htS : T < w7.heap.size := by omega
    have htX : Z < w7.heap.size := by omega
    have HCy7 := HC7
    refine (daycalm_any (a := y) (p := P) (m := 0 + c.toNat) (y := F + a2) (c := c') (k := k) (d := d) ((HCy7.out.below ((Below.refl _ w7).alloc (Nat.le_refl _) _)).more (Nat.le_refl _) (by simp)) (by rw [← HY.out]; exact XF.out.st 2) (by omega) (by rw [← HY.out]; exact (by omega : (2 : Int) ≠ 3)) (by rw [← HY.out]; show Cal.At x.an k d; rw [X3.out]; exact HAT.out) HP0.out.2.1 ⟨HP0.out.2.2.1.1, by omega⟩ (by rw [← HY.out]; show 0 ≤ x.ix ∧ x.ix ≤ 100000; rw [X4.out]; omega) (by rw [← HY.out]; show c' ≤ x.ix + 10000; rw [X4.out]; omega) (by rw [← HY.out]; show Cal.Cnt P.u x.an k d P.e (F + a2) c'; rw [X3.out]; exact HCN'.out) ⟨HP0.out.1.1, by have := HP0.out.1.2; omega⟩).mono ?_
    rw [show Av.runs (Cal.vN P.u y.an k d P.e) P c' (c' - y.ix).toNat y = z from by rw [show y.an = F + P.t from by rw [← HY.out]; exact X3.out, show y.ix = c from by rw [← HY.out]; exact X4.out]; exact HZZ.out]
    rintro e w8 ⟨v8, rfl, ho, hb⟩
    have hq8 : w8.heap[w7.heap.size]? = some (.cells (Av.zero.arr (.slice none 0 0)) 33 (0, 0)) := below_block hb (alloc_at rfl)
    have hl8 : w7.heap.size < w8.heap.size := (Array.getElem?_eq_some_iff.1 hq8).1
    have hS8 : w8.heap[T]? = some (.cells (P.arr) 26 (0, 0)) := below_block hb (alloc_old htS hS7)
    have hX8 : w8.heap[Z]? = some (.cells (x.arr (.slice A1 x.l.length c1)) 33 (0, 0)) := below_block hb (alloc_old htX hX7)
    have htS : T < w8.heap.size := by omega
    have htX : Z < w8.heap.size := by omega
    have HW8 : Hid (Below w.heap.size w w8) := (HW7.out.alloc HW7.out.size _).trans (hb.mono (by have := HW7.out.size; simp; omega))
    have HCy8 : Hid (Cys w8 0 w8.heap.size (.slice A6 y.l.length c6) y.l) := ((HCy7.out.below ((Below.refl _ w7).alloc (Nat.le_refl _) _)).below (hb.mono (by simp))).more (Nat.le_refl _) (by have := hb.size; simp at this; omega)
    obtain ⟨A8, c8, rfl, _, _⟩ := ho.form
    have HCz8 : Hid (Cys w8 0 w8.heap.size (.slice A8 z.l.length c8) z.l) := ho.cys.more (Nat.zero_le _) (Nat.le_refl _)
    clear hb ho hS7 hX7
    go_wp2_with (first | ((with_reducible_and_instances (show wpList _ _ _ (Oper.mk _ (Op.load 33 _) _ _ _ _ :: _) _ _)); refine wl_load Try.underlying33 rfl info13 rfl rfl rfl (by (repeat (first | assumption | (with_reducible refine alloc_at ?_; (focus (first | omega | (simp; done) | (simp; omega)))) | (with_reducible refine boxed_at ?_; (focus (first | omega | (simp; done) | (simp; omega)))) | (with_reducible refine alloc_old ?_ ?_; (focus (first | omega | (simp; done) | (simp; omega)))) | (with_reducible refine boxed_old ?_ ?_; (focus (first | omega | (simp; done) | (simp; omega)))) | (with_reducible refine drew_old ?_)))) (by rfl) ?_) | ((with_reducible_and_instances (show wpList _ _ _ (Oper.mk _ (Op.load 26 _) _ _ _ _ :: _) _ _)); refine wl_load Try.underlying26 rfl info6p rfl rfl rfl (by (repeat (first | assumption | (with_reducible refine alloc_at ?_; (focus (first | omega | (simp; done) | (simp; omega)))) | (with_reducible refine boxed_at ?_; (focus (first | omega | (simp; done) | (simp; omega)))) | (with_reducible refine alloc_old ?_ ?_; (focus (first | omega | (simp; done) | (simp; omega)))) | (with_reducible refine boxed_old ?_ ?_; (focus (first | omega | (simp; done) | (simp; omega)))) | (with_reducible refine drew_old ?_)))) (by rfl) ?_) | ((with_reducible_and_instances (show wpList _ _ _ (Oper.mk _ (Op.store 33 _ _) _ _ _ _ :: _) _ _)); refine wl_store info13 rfl rfl rfl rfl (by (repeat (first | assumption | (with_reducible refine alloc_at ?_; (focus (first | omega | (simp; done) | (simp; omega)))) | (with_reducible refine boxed_at ?_; (focus (first | omega | (simp; done) | (simp; omega)))) | (with_reducible refine alloc_old ?_ ?_; (focus (first | omega | (simp; done) | (simp; omega)))) | (with_reducible refine boxed_old ?_ ?_; (focus (first | omega | (simp; done) | (simp; omega)))) | (with_reducible refine drew_old ?_)))) (by rfl) (by rfl) (by first | exact Cv.arr_one _ | exact Nv.arr_one _ | exact Av.arr_one rfl | exact Pv.arr_one _ | simp [Value.oneCell']) ?_))
    refine (resume_yes (a := z) ZST.out ((HCz8.out.below ((Below.refl _ w8).alloc (Nat.le_refl _) _)).more (Nat.le_refl _) (by simp)) (by rw [ZL.out]; omega)).mono ?_
    rw [HWV.out]
    rintro e w9 ⟨v9, rfl, ho, hb⟩
    have hq9 : w9.heap[w8.heap.size]? = some (.cells (z.arr (.slice A8 z.l.length c8)) 33 (0, 0)) := below_block hb (alloc_at rfl)
    have hl9 : w8.heap.size < w9.heap.size := (Array.getElem?_eq_some_iff.1 hq9).1
    have hS9 : w9.heap[T]? = some (.cells (P.arr) 26 (0, 0)) := below_block hb (alloc_old htS hS8)
    have hX9 : w9.heap[Z]? = some (.cells (x.arr (.slice A1 x.l.length c1)) 33 (0, 0)) := below_block hb (alloc_old htX hX8)
    have htS : T < w9.heap.size := by omega
    have htX : Z < w9.heap.size := by omega
    have HW9 : Hid (Below w.heap.size w w9) := (HW8.out.alloc HW8.out.size _).trans (hb.mono (by have := HW8.out.size; simp; omega))
    have HCz9 : Hid (Cys w9 0 w9.heap.size (.slice A8 z.l.length c8) z.l) := ((HCz8.out.below ((Below.refl _ w8).alloc (Nat.le_refl _) _)).below (hb.mono (by simp))).more (Nat.le_refl _) (by have := hb.size; simp at this; omega)
    have hz9 := hq9
    have htz := hl9
    obtain ⟨A9, c9, rfl, _, _⟩ := ho.form
    have HCw9 : Hid (Cys w9 0 w9.heap.size (.slice A9 wv.l.length c9) wv.l) := ho.cys.more (Nat.zero_le _) (Nat.le_refl _)
    clear hb ho hS8 hX8
    go_wp2_with (first | ((with_reducible_and_instances (show wpList _ _ _ (Oper.mk _ (Op.load 33 _) _ _ _ _ :: _) _ _)); refine wl_load Try.underlying33 rfl info13 rfl rfl rfl (by (repeat (first | assumption | (with_reducible refine alloc_at ?_; (focus (first | omega | (simp; done) | (simp; omega)))) | (with_reducible refine boxed_at ?_; (focus (first | omega | (simp; done) | (simp; omega)))) | (with_reducible refine alloc_old ?_ ?_; (focus (first | omega | (simp; done) | (simp; omega)))) | (with_reducible refine boxed_old ?_ ?_; (focus (first | omega | (simp; done) | (simp; omega)))) | (with_reducible refine drew_old ?_)))) (by rfl) ?_) | ((with_reducible_and_instances (show wpList _ _ _ (Oper.mk _ (Op.load 26 _) _ _ _ _ :: _) _ _)); refine wl_load Try.underlying26 rfl info6p rfl rfl rfl (by (repeat (first | assumption | (with_reducible refine alloc_at ?_; (focus (first | omega | (simp; done) | (simp; omega)))) | (with_reducible refine boxed_at ?_; (focus (first | omega | (simp; done) | (simp; omega)))) | (with_reducible refine alloc_old ?_ ?_; (focus (first | omega | (simp; done) | (simp; omega)))) | (with_reducible refine boxed_old ?_ ?_; (focus (first | omega | (simp; done) | (simp; omega)))) | (with_reducible refine drew_old ?_)))) (by rfl) ?_) | ((with_reducible_and_instances (show wpList _ _ _ (Oper.mk _ (Op.store 33 _ _) _ _ _ _ :: _) _ _)); refine wl_store info13 rfl rfl rfl rfl (by (repeat (first | assumption | (with_reducible refine alloc_at ?_; (focus (first | omega | (simp; done) | (simp; omega)))) | (with_reducible refine boxed_at ?_; (focus (first | omega | (simp; done) | (simp; omega)))) | (with_reducible refine alloc_old ?_ ?_; (focus (first | omega | (simp; done) | (simp; omega)))) | (with_reducible refine boxed_old ?_ ?_; (focus (first | omega | (simp; done) | (simp; omega)))) | (with_reducible refine drew_old ?_)))) (by rfl) (by rfl) (by first | exact Cv.arr_one _ | exact Nv.arr_one _ | exact Av.arr_one rfl | exact Pv.arr_one _ | simp [Value.oneCell']) ?_))
    have hwl := WF.out.len
    refine (resume_no (a := wv) (by rw [WST.out]; exact (by omega : (1 : Int) ≠ 2))).mono ?_
    rintro e w10 ⟨rfl, hb⟩
    have hq10 : w10.heap[w9.heap.size]? = some (.cells (wv.arr (.slice A9 wv.l.length c9)) 33 (0, 0)) := below_block hb (alloc_at rfl)
    have hl10 : w9.heap.size < w10.heap.size := (Array.getElem?_eq_some_iff.1 hq10).1
    have hS10 : w10.heap[T]? = some (.cells (P.arr) 26 (0, 0)) := below_block hb (alloc_old htS hS9)
    have hX10 : w10.heap[Z]? = some (.cells (x.arr (.slice A1 x.l.length c1)) 33 (0, 0)) := below_block hb (alloc_old htX hX9)
    have hz10 : w10.heap[w8.heap.size]? = some (.cells (z.arr (.slice A8 z.l.length c8)) 33 (0, 0)) := below_block hb (alloc_old htz hz9)
    have htS : T < w10.heap.size := by omega
    have htX : Z < w10.heap.size := by omega
    have htz : w8.heap.size < w10.heap.size := by omega
    have HW10 : Hid (Below w.heap.size w w10) := (HW9.out.alloc HW9.out.size _).trans (hb.mono (by have := HW9.out.size; simp; omega))
    have HCw10 : Hid (Cys w10 0 w10.heap.size (.slice A9 wv.l.length c9) wv.l) := ((HCw9.out.below ((Below.refl _ w9).alloc (Nat.le_refl _) _)).below (hb.mono (by simp))).more (Nat.le_refl _) (by have := hb.size; simp at this; omega)
    have hw10 := hq10
    have htw := hl10
    clear hb hS9 hX9 hz9
    go_wp2_with (first | ((with_reducible_and_instances (show wpList _ _ _ (Oper.mk _ (Op.load 33 _) _ _ _ _ :: _) _ _)); refine wl_load Try.underlying33 rfl info13 rfl rfl rfl (by (repeat (first | assumption | (with_reducible refine alloc_at ?_; (focus (first | omega | (simp; done) | (simp; omega)))) | (with_reducible refine boxed_at ?_; (focus (first | omega | (simp; done) | (simp; omega)))) | (with_reducible refine alloc_old ?_ ?_; (focus (first | omega | (simp; done) | (simp; omega)))) | (with_reducible refine boxed_old ?_ ?_; (focus (first | omega | (simp; done) | (simp; omega)))) | (with_reducible refine drew_old ?_)))) (by rfl) ?_) | ((with_reducible_and_instances (show wpList _ _ _ (Oper.mk _ (Op.load 26 _) _ _ _ _ :: _) _ _)); refine wl_load Try.underlying26 rfl info6p rfl rfl rfl (by (repeat (first | assumption | (with_reducible refine alloc_at ?_; (focus (first | omega | (simp; done) | (simp; omega)))) | (with_reducible refine boxed_at ?_; (focus (first | omega | (simp; done) | (simp; omega)))) | (with_reducible refine alloc_old ?_ ?_; (focus (first | omega | (simp; done) | (simp; omega)))) | (with_reducible refine boxed_old ?_ ?_; (focus (first | omega | (simp; done) | (simp; omega)))) | (with_reducible refine drew_old ?_)))) (by rfl) ?_) | ((with_reducible_and_instances (show wpList _ _ _ (Oper.mk _ (Op.store 33 _ _) _ _ _ _ :: _) _ _)); refine wl_store info13 rfl rfl rfl rfl (by (repeat (first | assumption | (with_reducible refine alloc_at ?_; (focus (first | omega | (simp; done) | (simp; omega)))) | (with_reducible refine boxed_at ?_; (focus (first | omega | (simp; done) | (simp; omega)))) | (with_reducible refine alloc_old ?_ ?_; (focus (first | omega | (simp; done) | (simp; omega)))) | (with_reducible refine boxed_old ?_ ?_; (focus (first | omega | (simp; done) | (simp; omega)))) | (with_reducible refine drew_old ?_)))) (by rfl) (by rfl) (by first | exact Cv.arr_one _ | exact Nv.arr_one _ | exact Av.arr_one rfl | exact Pv.arr_one _ | simp [Value.oneCell']) ?_))
    refine (cancel_yes (a := wv) (m := 0 + c.toNat + (c' - c).toNat) (by unfold Av.live; rw [WST.out]; rfl) ((HCw10.out.below ((Below.refl _ w10).alloc (Nat.le_refl _) _)).more (Nat.le_refl _) (by simp)) (by omega) WF.out.fit (by omega) (fun q hq => (WF.out.calm q hq).fit) (fun q hq => by rw [(WF.out.calm q hq).over]; exact (WF.out.calm q hq).fit)).mono ?_
    rw [HEE.out]
    rintro e w11 ⟨v11, rfl, ho, hb⟩
    have hq11 : w11.heap[w10.heap.size]? = some (.cells (Av.zero.arr (.slice none 0 0)) 33 (0, 0)) := below_block hb (alloc_at rfl)
    have hl11 : w10.heap.size < w11.heap.size := (Array.getElem?_eq_some_iff.1 hq11).1
    have hS11 : w11.heap[T]? = some (.cells (P.arr) 26 (0, 0)) := below_block hb (alloc_old htS hS10)
    have hX11 : w11.heap[Z]? = some (.cells (x.arr (.slice A1 x.l.length c1)) 33 (0, 0)) := below_block hb (alloc_old htX hX10)
    have hz11 : w11.heap[w8.heap.size]? = some (.cells (z.arr (.slice A8 z.l.length c8)) 33 (0, 0)) := below_block hb (alloc_old htz hz10)
    have hw11 : w11.heap[w9.heap.size]? = some (.cells (wv.arr (.slice A9 wv.l.length c9)) 33 (0, 0)) := below_block hb (alloc_old htw hw10)
    have htS : T < w11.heap.size := by omega
    have htX : Z < w11.heap.size := by omega
    have htz : w8.heap.size < w11.heap.size := by omega
    have htw : w9.heap.size < w11.heap.size := by omega
    have HW11 : Hid (Below w.heap.size w w11) := (HW10.out.alloc HW10.out.size _).trans (hb.mono (by have := HW10.out.size; simp; omega))
    have HCw11 : Hid (Cys w11 0 w11.heap.size (.slice A9 wv.l.length c9) wv.l) := ((HCw10.out.below ((Below.refl _ w10).alloc (Nat.le_refl _) _)).below (hb.mono (by simp))).more (Nat.le_refl _) (by have := hb.size; simp at this; omega)
    obtain ⟨A11, c11, rfl, _, _⟩ := ho.form
    have HCe11 : Hid (Cys w11 0 w11.heap.size (.slice A11 en.l.length c11) en.l) := ho.cys.more (Nat.zero_le _) (Nat.le_refl _)
    clear hb ho hS10 hX10 hz10 hw10
    go_wp2_with (first | ((with_reducible_and_instances (show wpList _ _ _ (Oper.mk _ (Op.load 33 _) _ _ _ _ :: _) _ _)); refine wl_load Try.underlying33 rfl info13 rfl rfl rfl (by (repeat (first | assumption | (with_reducible refine alloc_at ?_; (focus (first | omega | (simp; done) | (simp; omega)))) | (with_reducible refine boxed_at ?_; (focus (first | omega | (simp; done) | (simp; omega)))) | (with_reducible refine alloc_old ?_ ?_; (focus (first | omega | (simp; done) | (simp; omega)))) | (with_reducible refine boxed_old ?_ ?_; (focus (first | omega | (simp; done) | (simp; omega)))) | (with_reducible refine drew_old ?_)))) (by rfl) ?_) | ((with_reducible_and_instances (show wpList _ _ _ (Oper.mk _ (Op.load 26 _) _ _ _ _ :: _) _ _)); refine wl_load Try.underlying26 rfl info6p rfl rfl rfl (by (repeat (first | assumption | (with_reducible refine alloc_at ?_; (focus (first | omega | (simp; done) | (simp; omega)))) | (with_reducible refine boxed_at ?_; (focus (first | omega | (simp; done) | (simp; omega)))) | (with_reducible refine alloc_old ?_ ?_; (focus (first | omega | (simp; done) | (simp; omega)))) | (with_reducible refine boxed_old ?_ ?_; (focus (first | omega | (simp; done) | (simp; omega)))) | (with_reducible refine drew_old ?_)))) (by rfl) ?_) | ((with_reducible_and_instances (show wpList _ _ _ (Oper.mk _ (Op.store 33 _ _) _ _ _ _ :: _) _ _)); refine wl_store info13 rfl rfl rfl rfl (by (repeat (first | assumption | (with_reducible refine alloc_at ?_; (focus (first | omega | (simp; done) | (simp; omega)))) | (with_reducible refine boxed_at ?_; (focus (first | omega | (simp; done) | (simp; omega)))) | (with_reducible refine alloc_old ?_ ?_; (focus (first | omega | (simp; done) | (simp; omega)))) | (with_reducible refine boxed_old ?_ ?_; (focus (first | omega | (simp; done) | (simp; omega)))) | (with_reducible refine drew_old ?_)))) (by rfl) (by rfl) (by first | exact Cv.arr_one _ | exact Nv.arr_one _ | exact Av.arr_one rfl | exact Pv.arr_one _ | simp [Value.oneCell']) ?_))
    refine (cancel_no (a := en) (by unfold Av.live; rw [← HEN.out]; rfl)).mono ?_
    rintro e w12 ⟨rfl, hb⟩
    have hq12 : w12.heap[w11.heap.size]? = some (.cells (en.arr (.slice A11 en.l.length c11)) 33 (0, 0)) := below_block hb (alloc_at rfl)
    have hl12 : w11.heap.size < w12.heap.size := (Array.getElem?_eq_some_iff.1 hq12).1
    have hS12 : w12.heap[T]? = some (.cells (P.arr) 26 (0, 0)) := below_block hb (alloc_old htS hS11)
    have hX12 : w12.heap[Z]? = some (.cells (x.arr (.slice A1 x.l.length c1)) 33 (0, 0)) := below_block hb (alloc_old htX hX11)
    have hz12 : w12.heap[w8.heap.size]? = some (.cells (z.arr (.slice A8 z.l.length c8)) 33 (0, 0)) := below_block hb (alloc_old htz hz11)
    have hw12 : w12.heap[w9.heap.size]? = some (.cells (wv.arr (.slice A9 wv.l.length c9)) 33 (0, 0)) := below_block hb (alloc_old htw hw11)
    have htS : T < w12.heap.size := by omega
    have htX : Z < w12.heap.size := by omega
    have htz : w8.heap.size < w12.heap.size := by omega
    have htw : w9.heap.size < w12.heap.size := by omega
    have HW12 : Hid (Below w.heap.size w w12) := (HW11.out.alloc HW11.out.size _).trans (hb.mono (by have := HW11.out.size; simp; omega))
    have HCw12 : Hid (Cys w12 0 w12.heap.size (.slice A9 wv.l.length c9) wv.l) := ((HCw11.out.below ((Below.refl _ w11).alloc (Nat.le_refl _) _)).below (hb.mono (by simp))).more (Nat.le_refl _) (by have := hb.size; simp at this; omega)
    have he12 := hq12
    have hte := hl12
    clear hb hS11 hX11 hz11 hw11
    go_wp2_with (first | ((with_reducible_and_instances (show wpList _ _ _ (Oper.mk _ (Op.load 33 _) _ _ _ _ :: _) _ _)); refine wl_load Try.underlying33 rfl info13 rfl rfl rfl (by (repeat (first | assumption | (with_reducible refine alloc_at ?_; (focus (first | omega | (simp; done) | (simp; omega)))) | (with_reducible refine boxed_at ?_; (focus (first | omega | (simp; done) | (simp; omega)))) | (with_reducible refine alloc_old ?_ ?_; (focus (first | omega | (simp; done) | (simp; omega)))) | (with_reducible refine boxed_old ?_ ?_; (focus (first | omega | (simp; done) | (simp; omega)))) | (with_reducible refine drew_old ?_)))) (by rfl) ?_) | ((with_reducible_and_instances (show wpList _ _ _ (Oper.mk _ (Op.load 26 _) _ _ _ _ :: _) _ _)); refine wl_load Try.underlying26 rfl info6p rfl rfl rfl (by (repeat (first | assumption | (with_reducible refine alloc_at ?_; (focus (first | omega | (simp; done) | (simp; omega)))) | (with_reducible refine boxed_at ?_; (focus (first | omega | (simp; done) | (simp; omega)))) | (with_reducible refine alloc_old ?_ ?_; (focus (first | omega | (simp; done) | (simp; omega)))) | (with_reducible refine boxed_old ?_ ?_; (focus (first | omega | (simp; done) | (simp; omega)))) | (with_reducible refine drew_old ?_)))) (by rfl) ?_) | ((with_reducible_and_instances (show wpList _ _ _ (Oper.mk _ (Op.store 33 _ _) _ _ _ _ :: _) _ _)); refine wl_store info13 rfl rfl rfl rfl (by (repeat (first | assumption | (with_reducible refine alloc_at ?_; (focus (first | omega | (simp; done) | (simp; omega)))) | (with_reducible refine boxed_at ?_; (focus (first | omega | (simp; done) | (simp; omega)))) | (with_reducible refine alloc_old ?_ ?_; (focus (first | omega | (simp; done) | (simp; omega)))) | (with_reducible refine boxed_old ?_ ?_; (focus (first | omega | (simp; done) | (simp; omega)))) | (with_reducible refine drew_old ?_)))) (by rfl) (by rfl) (by first | exact Cv.arr_one _ | exact Nv.arr_one _ | exact Av.arr_one rfl | exact Pv.arr_one _ | simp [Value.oneCell']) ?_))
    refine (skip_no (a := en) (.inl (by unfold Av.live; rw [← HEN.out]; rfl))).mono ?_
    rintro e w13 ⟨rfl, hb⟩
    have hq13 : w13.heap[w12.heap.size]? = some (.cells (Av.zero.arr (.slice none 0 0)) 33 (0, 0)) := below_block hb (alloc_at rfl)
    have hl13 : w12.heap.size < w13.heap.size := (Array.getElem?_eq_some_iff.1 hq13).1
    have hS13 : w13.heap[T]? = some (.cells (P.arr) 26 (0, 0)) := below_block hb (alloc_old htS hS12)
    have hX13 : w13.heap[Z]? = some (.cells (x.arr (.slice A1 x.l.length c1)) 33 (0, 0)) := below_block hb (alloc_old htX hX12)
    have hz13 : w13.heap[w8.heap.size]? = some (.cells (z.arr (.slice A8 z.l.length c8)) 33 (0, 0)) := below_block hb (alloc_old htz hz12)
    have hw13 : w13.heap[w9.heap.size]? = some (.cells (wv.arr (.slice A9 wv.l.length c9)) 33 (0, 0)) := below_block hb (alloc_old htw hw12)
    have he13 : w13.heap[w11.heap.size]? = some (.cells (en.arr (.slice A11 en.l.length c11)) 33 (0, 0)) := below_block hb (alloc_old hte he12)
    have htS : T < w13.heap.size := by omega
    have htX : Z < w13.heap.size := by omega
    have htz : w8.heap.size < w13.heap.size := by omega
    have htw : w9.heap.size < w13.heap.size := by omega
    have hte : w11.heap.size < w13.heap.size := by omega
    have HW13 : Hid (Below w.heap.size w w13) := (HW12.out.alloc HW12.out.size _).trans (hb.mono (by have := HW12.out.size; simp; omega))
    have HCw13 : Hid (Cys w13 0 w13.heap.size (.slice A9 wv.l.length c9) wv.l) := ((HCw12.out.below ((Below.refl _ w12).alloc (Nat.le_refl _) _)).below (hb.mono (by simp))).more (Nat.le_refl _) (by have := hb.size; simp at this; omega)
    clear hb hS12 hX12 hz12 hw12 he12
    go_wp2_with (first | ((with_reducible_and_instances (show wpList _ _ _ (Oper.mk _ (Op.load 33 _) _ _ _ _ :: _) _ _)); refine wl_load Try.underlying33 rfl info13 rfl rfl rfl (by (repeat (first | assumption | (with_reducible refine alloc_at ?_; (focus (first | omega | (simp; done) | (simp; omega)))) | (with_reducible refine boxed_at ?_; (focus (first | omega | (simp; done) | (simp; omega)))) | (with_reducible refine alloc_old ?_ ?_; (focus (first | omega | (simp; done) | (simp; omega)))) | (with_reducible refine boxed_old ?_ ?_; (focus (first | omega | (simp; done) | (simp; omega)))) | (with_reducible refine drew_old ?_)))) (by rfl) ?_) | ((with_reducible_and_instances (show wpList _ _ _ (Oper.mk _ (Op.load 26 _) _ _ _ _ :: _) _ _)); refine wl_load Try.underlying26 rfl info6p rfl rfl rfl (by (repeat (first | assumption | (with_reducible refine alloc_at ?_; (focus (first | omega | (simp; done) | (simp; omega)))) | (with_reducible refine boxed_at ?_; (focus (first | omega | (simp; done) | (simp; omega)))) | (with_reducible refine alloc_old ?_ ?_; (focus (first | omega | (simp; done) | (simp; omega)))) | (with_reducible refine boxed_old ?_ ?_; (focus (first | omega | (simp; done) | (simp; omega)))) | (with_reducible refine drew_old ?_)))) (by rfl) ?_) | ((with_reducible_and_instances (show wpList _ _ _ (Oper.mk _ (Op.store 33 _ _) _ _ _ _ :: _) _ _)); refine wl_store info13 rfl rfl rfl rfl (by (repeat (first | assumption | (with_reducible refine alloc_at ?_; (focus (first | omega | (simp; done) | (simp; omega)))) | (with_reducible refine boxed_at ?_; (focus (first | omega | (simp; done) | (simp; omega)))) | (with_reducible refine alloc_old ?_ ?_; (focus (first | omega | (simp; done) | (simp; omega)))) | (with_reducible refine boxed_old ?_ ?_; (focus (first | omega | (simp; done) | (simp; omega)))) | (with_reducible refine drew_old ?_)))) (by rfl) (by rfl) (by first | exact Cv.arr_one _ | exact Nv.arr_one _ | exact Av.arr_one rfl | exact Pv.arr_one _ | simp [Value.oneCell']) ?_))
    refine (acard_no (a := en) (by unfold Av.live; rw [← HEN.out]; rfl)).mono ?_
    rintro e w14 ⟨rfl, hb⟩
    have hq14 : w14.heap[w13.heap.size]? = some (.cells (Av.zero.arr (.slice none 0 0)) 33 (0, 0)) := below_block hb (alloc_at rfl)
    have hl14 : w13.heap.size < w14.heap.size := (Array.getElem?_eq_some_iff.1 hq14).1
    have hS14 : w14.heap[T]? = some (.cells (P.arr) 26 (0, 0)) := below_block hb (alloc_old htS hS13)
    have hX14 : w14.heap[Z]? = some (.cells (x.arr (.slice A1 x.l.length c1)) 33 (0, 0)) := below_block hb (alloc_old htX hX13)
    have hz14 : w14.heap[w8.heap.size]? = some (.cells (z.arr (.slice A8 z.l.length c8)) 33 (0, 0)) := below_block hb (alloc_old htz hz13)
    have hw14 : w14.heap[w9.heap.size]? = some (.cells (wv.arr (.slice A9 wv.l.length c9)) 33 (0, 0)) := below_block hb (alloc_old htw hw13)
    have he14 : w14.heap[w11.heap.size]? = some (.cells (en.arr (.slice A11 en.l.length c11)) 33 (0, 0)) := below_block hb (alloc_old hte he13)
    have htS : T < w14.heap.size := by omega
    have htX : Z < w14.heap.size := by omega
    have htz : w8.heap.size < w14.heap.size := by omega
    have htw : w9.heap.size < w14.heap.size := by omega
    have hte : w11.heap.size < w14.heap.size := by omega
    have HW14 : Hid (Below w.heap.size w w14) := (HW13.out.alloc HW13.out.size _).trans (hb.mono (by have := HW13.out.size; simp; omega))
    have HCw14 : Hid (Cys w14 0 w14.heap.size (.slice A9 wv.l.length c9) wv.l) := ((HCw13.out.below ((Below.refl _ w13).alloc (Nat.le_refl _) _)).below (hb.mono (by simp))).more (Nat.le_refl _) (by have := hb.size; simp at this; omega)
    clear hb hS13 hX13 hz13 hw13 he13
    go_wp2_with (first | ((with_reducible_and_instances (show wpList _ _ _ (Oper.mk _ (Op.load 33 _) _ _ _ _ :: _) _ _)); refine wl_load Try.underlying33 rfl info13 rfl rfl rfl (by (repeat (first | assumption | (with_reducible refine alloc_at ?_; (focus (first | omega | (simp; done) | (simp; omega)))) | (with_reducible refine boxed_at ?_; (focus (first | omega | (simp; done) | (simp; omega)))) | (with_reducible refine alloc_old ?_ ?_; (focus (first | omega | (simp; done) | (simp; omega)))) | (with_reducible refine boxed_old ?_ ?_; (focus (first | omega | (simp; done) | (simp; omega)))) | (with_reducible refine drew_old ?_)))) (by rfl) ?_) | ((with_reducible_and_instances (show wpList _ _ _ (Oper.mk _ (Op.load 26 _) _ _ _ _ :: _) _ _)); refine wl_load Try.underlying26 rfl info6p rfl rfl rfl (by (repeat (first | assumption | (with_reducible refine alloc_at ?_; (focus (first | omega | (simp; done) | (simp; omega)))) | (with_reducible refine boxed_at ?_; (focus (first | omega | (simp; done) | (simp; omega)))) | (with_reducible refine alloc_old ?_ ?_; (focus (first | omega | (simp; done) | (simp; omega)))) | (with_reducible refine boxed_old ?_ ?_; (focus (first | omega | (simp; done) | (simp; omega)))) | (with_reducible refine drew_old ?_)))) (by rfl) ?_) | ((with_reducible_and_instances (show wpList _ _ _ (Oper.mk _ (Op.store 33 _ _) _ _ _ _ :: _) _ _)); refine wl_store info13 rfl rfl rfl rfl (by (repeat (first | assumption | (with_reducible refine alloc_at ?_; (focus (first | omega | (simp; done) | (simp; omega)))) | (with_reducible refine boxed_at ?_; (focus (first | omega | (simp; done) | (simp; omega)))) | (with_reducible refine alloc_old ?_ ?_; (focus (first | omega | (simp; done) | (simp; omega)))) | (with_reducible refine boxed_old ?_ ?_; (focus (first | omega | (simp; done) | (simp; omega)))) | (with_reducible refine drew_old ?_)))) (by rfl) (by rfl) (by first | exact Cv.arr_one _ | exact Nv.arr_one _ | exact Av.arr_one rfl | exact Pv.arr_one _ | simp [Value.oneCell']) ?_))
    refine (change_off (a := en) (p := P) (q := P) (k := k) (d := d) 1 F (by rw [← HEN.out]; exact (by omega : (3 : Int) ≠ 1)) (by rw [← HEN.out]; show Cal.At wv.an k d; rw [WAN.out]; exact HAT.out) HP0.out.2.1 ⟨HP0.out.2.2.1.1, by omega⟩ ⟨by omega, by omega⟩).mono ?_
    rintro e w15 ⟨rfl, hb⟩
    have hq15 : w15.heap[w14.heap.size]? = some (.cells (Av.zero.arr (.slice none 0 0)) 33 (0, 0)) := below_block hb (alloc_at rfl)
    have hl15 : w14.heap.size < w15.heap.size := (Array.getElem?_eq_some_iff.1 hq15).1
    have hS15 : w15.heap[T]? = some (.cells (P.arr) 26 (0, 0)) := below_block hb (alloc_old htS hS14)
    have hX15 : w15.heap[Z]? = some (.cells (x.arr (.slice A1 x.l.length c1)) 33 (0, 0)) := below_block hb (alloc_old htX hX14)
    have hz15 : w15.heap[w8.heap.size]? = some (.cells (z.arr (.slice A8 z.l.length c8)) 33 (0, 0)) := below_block hb (alloc_old htz hz14)
    have hw15 : w15.heap[w9.heap.size]? = some (.cells (wv.arr (.slice A9 wv.l.length c9)) 33 (0, 0)) := below_block hb (alloc_old htw hw14)
    have he15 : w15.heap[w11.heap.size]? = some (.cells (en.arr (.slice A11 en.l.length c11)) 33 (0, 0)) := below_block hb (alloc_old hte he14)
    have htS : T < w15.heap.size := by omega
    have htX : Z < w15.heap.size := by omega
    have htz : w8.heap.size < w15.heap.size := by omega
    have htw : w9.heap.size < w15.heap.size := by omega
    have hte : w11.heap.size < w15.heap.size := by omega
    have HW15 : Hid (Below w.heap.size w w15) := (HW14.out.alloc HW14.out.size _).trans (hb.mono (by have := HW14.out.size; simp; omega))
    have HCw15 : Hid (Cys w15 0 w15.heap.size (.slice A9 wv.l.length c9) wv.l) := ((HCw14.out.below ((Below.refl _ w14).alloc (Nat.le_refl _) _)).below (hb.mono (by simp))).more (Nat.le_refl _) (by have := hb.size; simp at this; omega)
    clear hb hS14 hX14 hz14 hw14 he14
    go_wp2_with (first | ((with_reducible_and_instances (show wpList _ _ _ (Oper.mk _ (Op.load 33 _) _ _ _ _ :: _) _ _)); refine wl_load Try.underlying33 rfl info13 rfl rfl rfl (by (repeat (first | assumption | (with_reducible refine alloc_at ?_; (focus (first | omega | (simp; done) | (simp; omega)))) | (with_reducible refine boxed_at ?_; (focus (first | omega | (simp; done) | (simp; omega)))) | (with_reducible refine alloc_old ?_ ?_; (focus (first | omega | (simp; done) | (simp; omega)))) | (with_reducible refine boxed_old ?_ ?_; (focus (first | omega | (simp; done) | (simp; omega)))) | (with_reducible refine drew_old ?_)))) (by rfl) ?_) | ((with_reducible_and_instances (show wpList _ _ _ (Oper.mk _ (Op.load 26 _) _ _ _ _ :: _) _ _)); refine wl_load Try.underlying26 rfl info6p rfl rfl rfl (by (repeat (first | assumption | (with_reducible refine alloc_at ?_; (focus (first | omega | (simp; done) | (simp; omega)))) | (with_reducible refine boxed_at ?_; (focus (first | omega | (simp; done) | (simp; omega)))) | (with_reducible refine alloc_old ?_ ?_; (focus (first | omega | (simp; done) | (simp; omega)))) | (with_reducible refine boxed_old ?_ ?_; (focus (first | omega | (simp; done) | (simp; omega)))) | (with_reducible refine drew_old ?_)))) (by rfl) ?_) | ((with_reducible_and_instances (show wpList _ _ _ (Oper.mk _ (Op.store 33 _ _) _ _ _ _ :: _) _ _)); refine wl_store info13 rfl rfl rfl rfl (by (repeat (first | assumption | (with_reducible refine alloc_at ?_; (focus (first | omega | (simp; done) | (simp; omega)))) | (with_reducible refine boxed_at ?_; (focus (first | omega | (simp; done) | (simp; omega)))) | (with_reducible refine alloc_old ?_ ?_; (focus (first | omega | (simp; done) | (simp; omega)))) | (with_reducible refine boxed_old ?_ ?_; (focus (first | omega | (simp; done) | (simp; omega)))) | (with_reducible refine drew_old ?_)))) (by rfl) (by rfl) (by first | exact Cv.arr_one _ | exact Nv.arr_one _ | exact Av.arr_one rfl | exact Pv.arr_one _ | simp [Value.oneCell']) ?_))
    refine (pause_no (a := en) (by rw [← HEN.out]; exact (by omega : (3 : Int) ≠ 1))).mono ?_
    rintro e w16 ⟨rfl, hb⟩
    have hq16 : w16.heap[w15.heap.size]? = some (.cells (Av.zero.arr (.slice none 0 0)) 33 (0, 0)) := below_block hb (alloc_at rfl)
    have hl16 : w15.heap.size < w16.heap.size := (Array.getElem?_eq_some_iff.1 hq16).1
    have hS16 : w16.heap[T]? = some (.cells (P.arr) 26 (0, 0)) := below_block hb (alloc_old htS hS15)
    have hX16 : w16.heap[Z]? = some (.cells (x.arr (.slice A1 x.l.length c1)) 33 (0, 0)) := below_block hb (alloc_old htX hX15)
    have hz16 : w16.heap[w8.heap.size]? = some (.cells (z.arr (.slice A8 z.l.length c8)) 33 (0, 0)) := below_block hb (alloc_old htz hz15)
    have hw16 : w16.heap[w9.heap.size]? = some (.cells (wv.arr (.slice A9 wv.l.length c9)) 33 (0, 0)) := below_block hb (alloc_old htw hw15)
    have he16 : w16.heap[w11.heap.size]? = some (.cells (en.arr (.slice A11 en.l.length c11)) 33 (0, 0)) := below_block hb (alloc_old hte he15)
    have htS : T < w16.heap.size := by omega
    have htX : Z < w16.heap.size := by omega
    have htz : w8.heap.size < w16.heap.size := by omega
    have htw : w9.heap.size < w16.heap.size := by omega
    have hte : w11.heap.size < w16.heap.size := by omega
    have HW16 : Hid (Below w.heap.size w w16) := (HW15.out.alloc HW15.out.size _).trans (hb.mono (by have := HW15.out.size; simp; omega))
    have HCw16 : Hid (Cys w16 0 w16.heap.size (.slice A9 wv.l.length c9) wv.l) := ((HCw15.out.below ((Below.refl _ w15).alloc (Nat.le_refl _) _)).below (hb.mono (by simp))).more (Nat.le_refl _) (by have := hb.size; simp at this; omega)
    clear hb hS15 hX15 hz15 hw15 he15
    go_wp2_with (first | ((with_reducible_and_instances (show wpList _ _ _ (Oper.mk _ (Op.load 33 _) _ _ _ _ :: _) _ _)); refine wl_load Try.underlying33 rfl info13 rfl rfl rfl (by (repeat (first | assumption | (with_reducible refine alloc_at ?_; (focus (first | omega | (simp; done) | (simp; omega)))) | (with_reducible refine boxed_at ?_; (focus (first | omega | (simp; done) | (simp; omega)))) | (with_reducible refine alloc_old ?_ ?_; (focus (first | omega | (simp; done) | (simp; omega)))) | (with_reducible refine boxed_old ?_ ?_; (focus (first | omega | (simp; done) | (simp; omega)))) | (with_reducible refine drew_old ?_)))) (by rfl) ?_) | ((with_reducible_and_instances (show wpList _ _ _ (Oper.mk _ (Op.load 26 _) _ _ _ _ :: _) _ _)); refine wl_load Try.underlying26 rfl info6p rfl rfl rfl (by (repeat (first | assumption | (with_reducible refine alloc_at ?_; (focus (first | omega | (simp; done) | (simp; omega)))) | (with_reducible refine boxed_at ?_; (focus (first | omega | (simp; done) | (simp; omega)))) | (with_reducible refine alloc_old ?_ ?_; (focus (first | omega | (simp; done) | (simp; omega)))) | (with_reducible refine boxed_old ?_ ?_; (focus (first | omega | (simp; done) | (simp; omega)))) | (with_reducible refine drew_old ?_)))) (by rfl) ?_) | ((with_reducible_and_instances (show wpList _ _ _ (Oper.mk _ (Op.store 33 _ _) _ _ _ _ :: _) _ _)); refine wl_store info13 rfl rfl rfl rfl (by (repeat (first | assumption | (with_reducible refine alloc_at ?_; (focus (first | omega | (simp; done) | (simp; omega)))) | (with_reducible refine boxed_at ?_; (focus (first | omega | (simp; done) | (simp; omega)))) | (with_reducible refine alloc_old ?_ ?_; (focus (first | omega | (simp; done) | (simp; omega)))) | (with_reducible refine boxed_old ?_ ?_; (focus (first | omega | (simp; done) | (simp; omega)))) | (with_reducible refine drew_old ?_)))) (by rfl) (by rfl) (by first | exact Cv.arr_one _ | exact Nv.arr_one _ | exact Av.arr_one rfl | exact Pv.arr_one _ | simp [Value.oneCell']) ?_))
    refine (skip_yes (a := wv) (by unfold Av.live; rw [WST.out]; rfl) WSK.out ((HCw16.out.below ((Below.refl _ w16).alloc (Nat.le_refl _) _)).more (Nat.le_refl _) (by simp)) (by omega)).mono ?_
    rw [HSV.out]
    rintro e w17 ⟨v17, rfl, ho, hb⟩
    have hq17 : w17.heap[w16.heap.size]? = some (.cells (Av.zero.arr (.slice none 0 0)) 33 (0, 0)) := below_block hb (alloc_at rfl)
    have hl17 : w16.heap.size < w17.heap.size := (Array.getElem?_eq_some_iff.1 hq17).1
    have hS17 : w17.heap[T]? = some (.cells (P.arr) 26 (0, 0)) := below_block hb (alloc_old htS hS16)
    have hX17 : w17.heap[Z]? = some (.cells (x.arr (.slice A1 x.l.length c1)) 33 (0, 0)) := below_block hb (alloc_old htX hX16)
    have hz17 : w17.heap[w8.heap.size]? = some (.cells (z.arr (.slice A8 z.l.length c8)) 33 (0, 0)) := below_block hb (alloc_old htz hz16)
    have hw17 : w17.heap[w9.heap.size]? = some (.cells (wv.arr (.slice A9 wv.l.length c9)) 33 (0, 0)) := below_block hb (alloc_old htw hw16)
    have he17 : w17.heap[w11.heap.size]? = some (.cells (en.arr (.slice A11 en.l.length c11)) 33 (0, 0)) := below_block hb (alloc_old hte he16)
    have htS : T < w17.heap.size := by omega
    have htX : Z < w17.heap.size := by omega
    have htz : w8.heap.size < w17.heap.size := by omega
    have htw : w9.heap.size < w17.heap.size := by omega
    have hte : w11.heap.size < w17.heap.size := by omega
    have HW17 : Hid (Below w.heap.size w w17) := (HW16.out.alloc HW16.out.size _).trans (hb.mono (by have := HW16.out.size; simp; omega))
    have HCw17 : Hid (Cys w17 0 w17.heap.size (.slice A9 wv.l.length c9) wv.l) := ((HCw16.out.below ((Below.refl _ w16).alloc (Nat.le_refl _) _)).below (hb.mono (by simp))).more (Nat.le_refl _) (by have := hb.size; simp at this; omega)
    obtain ⟨A17, c17, rfl, _, _⟩ := ho.form
    have HCs17 : Hid (Cys w17 0 w17.heap.size (.slice A17 sv.l.length c17) sv.l) := ho.cys.more (Nat.zero_le _) (Nat.le_refl _)
    clear hb ho hS16 hX16 hz16 hw16 he16
    go_wp2_with (first | ((with_reducible_and_instances (show wpList _ _ _ (Oper.mk _ (Op.load 33 _) _ _ _ _ :: _) _ _)); refine wl_load Try.underlying33 rfl info13 rfl rfl rfl (by (repeat (first | assumption | (with_reducible refine alloc_at ?_; (focus (first | omega | (simp; done) | (simp; omega)))) | (with_reducible refine boxed_at ?_; (focus (first | omega | (simp; done) | (simp; omega)))) | (with_reducible refine alloc_old ?_ ?_; (focus (first | omega | (simp; done) | (simp; omega)))) | (with_reducible refine boxed_old ?_ ?_; (focus (first | omega | (simp; done) | (simp; omega)))) | (with_reducible refine drew_old ?_)))) (by rfl) ?_) | ((with_reducible_and_instances (show wpList _ _ _ (Oper.mk _ (Op.load 26 _) _ _ _ _ :: _) _ _)); refine wl_load Try.underlying26 rfl info6p rfl rfl rfl (by (repeat (first | assumption | (with_reducible refine alloc_at ?_; (focus (first | omega | (simp; done) | (simp; omega)))) | (with_reducible refine boxed_at ?_; (focus (first | omega | (simp; done) | (simp; omega)))) | (with_reducible refine alloc_old ?_ ?_; (focus (first | omega | (simp; done) | (simp; omega)))) | (with_reducible refine boxed_old ?_ ?_; (focus (first | omega | (simp; done) | (simp; omega)))) | (with_reducible refine drew_old ?_)))) (by rfl) ?_) | ((with_reducible_and_instances (show wpList _ _ _ (Oper.mk _ (Op.store 33 _ _) _ _ _ _ :: _) _ _)); refine wl_store info13 rfl rfl rfl rfl (by (repeat (first | assumption | (with_reducible refine alloc_at ?_; (focus (first | omega | (simp; done) | (simp; omega)))) | (with_reducible refine boxed_at ?_; (focus (first | omega | (simp; done) | (simp; omega)))) | (with_reducible refine alloc_old ?_ ?_; (focus (first | omega | (simp; done) | (simp; omega)))) | (with_reducible refine boxed_old ?_ ?_; (focus (first | omega | (simp; done) | (simp; omega)))) | (with_reducible refine drew_old ?_)))) (by rfl) (by rfl) (by first | exact Cv.arr_one _ | exact Nv.arr_one _ | exact Av.arr_one rfl | exact Pv.arr_one _ | simp [Value.oneCell']) ?_))
    refine (skip_no (a := sv) (.inr ⟨by rw [← HSV.out]; unfold Av.live; show (wv.st == 1 || wv.st == 2) = true; rw [WST.out]; rfl, by rw [← HSV.out]⟩)).mono ?_
    rintro e w18 ⟨rfl, hb⟩
    have hq18 : w18.heap[w17.heap.size]? = some (.cells (sv.arr (.slice A17 sv.l.length c17)) 33 (0, 0)) := below_block hb (alloc_at rfl)
    have hl18 : w17.heap.size < w18.heap.size := (Array.getElem?_eq_some_iff.1 hq18).1
    have hS18 : w18.heap[T]? = some (.cells (P.arr) 26 (0, 0)) := below_block hb (alloc_old htS hS17)
    have hX18 : w18.heap[Z]? = some (.cells (x.arr (.slice A1 x.l.length c1)) 33 (0, 0)) := below_block hb (alloc_old htX hX17)
    have hz18 : w18.heap[w8.heap.size]? = some (.cells (z.arr (.slice A8 z.l.length c8)) 33 (0, 0)) := below_block hb (alloc_old htz hz17)
    have hw18 : w18.heap[w9.heap.size]? = some (.cells (wv.arr (.slice A9 wv.l.length c9)) 33 (0, 0)) := below_block hb (alloc_old htw hw17)
    have he18 : w18.heap[w11.heap.size]? = some (.cells (en.arr (.slice A11 en.l.length c11)) 33 (0, 0)) := below_block hb (alloc_old hte he17)
    have htS : T < w18.heap.size := by omega
    have htX : Z < w18.heap.size := by omega
    have htz : w8.heap.size < w18.heap.size := by omega
    have htw : w9.heap.size < w18.heap.size := by omega
    have hte : w11.heap.size < w18.heap.size := by omega
    have HW18 : Hid (Below w.heap.size w w18) := (HW17.out.alloc HW17.out.size _).trans (hb.mono (by have := HW17.out.size; simp; omega))
    have HCw18 : Hid (Cys w18 0 w18.heap.size (.slice A9 wv.l.length c9) wv.l) := ((HCw17.out.below ((Below.refl _ w17).alloc (Nat.le_refl _) _)).below (hb.mono (by simp))).more (Nat.le_refl _) (by have := hb.size; simp at this; omega)
    have HCs18 : Hid (Cys w18 0 w18.heap.size (.slice A17 sv.l.length c17) sv.l) := ((HCs17.out.below ((Below.refl _ w17).alloc (Nat.le_refl _) _)).below (hb.mono (by simp))).more (Nat.le_refl _) (by have := hb.size; simp at this; omega)
    have hs18 := hq18
    have hts := hl18
    clear hb hS17 hX17 hz17 hw17 he17
    rw [ZL.out] at hz18
    obtain ⟨_, _, _, _, m4, _, _, m7, _, _, _, m11, _⟩ := acells hX18
    obtain ⟨_, _, _, _, n4, _, _, n7, _, _, _, n11, _⟩ := acells hz18
    have hxs0 := XF.out.fit.s0
    have hxs1 := XF.out.fit.s1
    have hxc := XF.out.ct
    have hz1 : z.sp = x.sp + (c' - c).toNat := by rw [HZR.out]; show y.sp + _ = _; rw [← HY.out]
    have hz2 : z.ct = x.ct + (c' - c).toNat := by rw [HZR.out]; show y.ct + _ = _; rw [← HY.out]
    rw [hz1] at n11
    rw [hz2] at n4
    obtain ⟨sp, hsp⟩ : ∃ sp, x.sp = sp := ⟨_, rfl⟩
    obtain ⟨ct, hct⟩ : ∃ ct, x.ct = ct := ⟨_, rfl⟩
    obtain ⟨df, hdf⟩ : ∃ df : Int, ((c' - c).toNat : Int) = df := ⟨_, rfl⟩
    have hdf0 : 0 ≤ df := by omega
    have hdf1 : df ≤ 1000 := by omega
    rw [hsp] at m11 n11 hxs0 hxs1
    rw [hct] at m4 n4 hxc
    rw [hdf] at n4 n11
    clear hsp hct hdf hz1 hz2
    have ew1 : wrap64 (sp + (ct + df)) = sp + (ct + df) := by unfold wrap64; omega
    have ew2 : wrap64 (sp + (ct + df) - ct) = sp + df := by unfold wrap64; omega
    have HWF : Hid (Below w.heap.size w (w18.alloc (.cells (Av.zero.arr (.slice none 0 0)) 33))) := HW18.out.alloc HW18.out.size _
    have hways : a3 = 0 ∨ a3 = 1 ∨ a3 = 2 ∨ a3 = 3 ∨ 3 < a3 := by omega
    clear hxs0 hxs1 hxc hdf0 hdf1 hm hm2 hlen hcc hc2 hwl
    rcases hways with rfl | rfl | rfl | rfl | h3
    · go_wp2_with (first | (go_at_call 24; refine (acname_any _ _).mono ?_; rw [show Av.name 0 = ⟨#[110, 111, 116, 104, 105, 110, 103]⟩ from rfl]; rintro e w' ⟨rfl, rfl⟩) | ((with_reducible_and_instances (show wpList _ _ _ (Oper.mk _ (Op.load 33 _) _ _ _ _ :: _) _ _)); refine wl_load Try.underlying33 rfl info13 rfl rfl rfl (by (repeat (first | assumption | (with_reducible refine alloc_at ?_; (focus (first | omega | (simp; done) | (simp; omega)))) | (with_reducible refine boxed_at ?_; (focus (first | omega | (simp; done) | (simp; omega)))) | (with_reducible refine alloc_old ?_ ?_; (focus (first | omega | (simp; done) | (simp; omega)))) | (with_reducible refine boxed_old ?_ ?_; (focus (first | omega | (simp; done) | (simp; omega)))) | (with_reducible refine drew_old ?_)))) (by rfl) ?_) | ((with_reducible_and_instances (show wpList _ _ _ (Oper.mk _ (Op.load 26 _) _ _ _ _ :: _) _ _)); refine wl_load Try.underlying26 rfl info6p rfl rfl rfl (by (repeat (first | assumption | (with_reducible refine alloc_at ?_; (focus (first | omega | (simp; done) | (simp; omega)))) | (with_reducible refine boxed_at ?_; (focus (first | omega | (simp; done) | (simp; omega)))) | (with_reducible refine alloc_old ?_ ?_; (focus (first | omega | (simp; done) | (simp; omega)))) | (with_reducible refine boxed_old ?_ ?_; (focus (first | omega | (simp; done) | (simp; omega)))) | (with_reducible refine drew_old ?_)))) (by rfl) ?_) | ((with_reducible_and_instances (show wpList _ _ _ (Oper.mk _ (Op.store 33 _ _) _ _ _ _ :: _) _ _)); refine wl_store info13 rfl rfl rfl rfl (by (repeat (first | assumption | (with_reducible refine alloc_at ?_; (focus (first | omega | (simp; done) | (simp; omega)))) | (with_reducible refine boxed_at ?_; (focus (first | omega | (simp; done) | (simp; omega)))) | (with_reducible refine alloc_old ?_ ?_; (focus (first | omega | (simp; done) | (simp; omega)))) | (with_reducible refine boxed_old ?_ ?_; (focus (first | omega | (simp; done) | (simp; omega)))) | (with_reducible refine drew_old ?_)))) (by rfl) (by rfl) (by first | exact Cv.arr_one _ | exact Nv.arr_one _ | exact Av.arr_one rfl | exact Pv.arr_one _ | simp [Value.oneCell']) ?_))
      go_ret
      exact ⟨rfl, HWF.out.alloc HWF.out.size _⟩
    · go_wp2_with (first | (go_at_call 24; refine (acname_any _ _).mono ?_; rw [show Av.name 1 = ⟨#[97, 99, 116, 105, 118, 101]⟩ from rfl]; rintro e w' ⟨rfl, rfl⟩) | ((with_reducible_and_instances (show wpList _ _ _ (Oper.mk _ (Op.load 33 _) _ _ _ _ :: _) _ _)); refine wl_load Try.underlying33 rfl info13 rfl rfl rfl (by (repeat (first | assumption | (with_reducible refine alloc_at ?_; (focus (first | omega | (simp; done) | (simp; omega)))) | (with_reducible refine boxed_at ?_; (focus (first | omega | (simp; done) | (simp; omega)))) | (with_reducible refine alloc_old ?_ ?_; (focus (first | omega | (simp; done) | (simp; omega)))) | (with_reducible refine boxed_old ?_ ?_; (focus (first | omega | (simp; done) | (simp; omega)))) | (with_reducible refine drew_old ?_)))) (by rfl) ?_) | ((with_reducible_and_instances (show wpList _ _ _ (Oper.mk _ (Op.load 26 _) _ _ _ _ :: _) _ _)); refine wl_load Try.underlying26 rfl info6p rfl rfl rfl (by (repeat (first | assumption | (with_reducible refine alloc_at ?_; (focus (first | omega | (simp; done) | (simp; omega)))) | (with_reducible refine boxed_at ?_; (focus (first | omega | (simp; done) | (simp; omega)))) | (with_reducible refine alloc_old ?_ ?_; (focus (first | omega | (simp; done) | (simp; omega)))) | (with_reducible refine boxed_old ?_ ?_; (focus (first | omega | (simp; done) | (simp; omega)))) | (with_reducible refine drew_old ?_)))) (by rfl) ?_) | ((with_reducible_and_instances (show wpList _ _ _ (Oper.mk _ (Op.store 33 _ _) _ _ _ _ :: _) _ _)); refine wl_store info13 rfl rfl rfl rfl (by (repeat (first | assumption | (with_reducible refine alloc_at ?_; (focus (first | omega | (simp; done) | (simp; omega)))) | (with_reducible refine boxed_at ?_; (focus (first | omega | (simp; done) | (simp; omega)))) | (with_reducible refine alloc_old ?_ ?_; (focus (first | omega | (simp; done) | (simp; omega)))) | (with_reducible refine boxed_old ?_ ?_; (focus (first | omega | (simp; done) | (simp; omega)))) | (with_reducible refine drew_old ?_)))) (by rfl) (by rfl) (by first | exact Cv.arr_one _ | exact Nv.arr_one _ | exact Av.arr_one rfl | exact Pv.arr_one _ | simp [Value.oneCell']) ?_))
      go_ret
      exact ⟨rfl, HWF.out.alloc HWF.out.size _⟩
    · go_wp2_with (first | (go_at_call 24; refine (acname_any _ _).mono ?_; rw [show Av.name 2 = ⟨#[112, 97, 117, 115, 101, 100]⟩ from rfl]; rintro e w' ⟨rfl, rfl⟩) | ((with_reducible_and_instances (show wpList _ _ _ (Oper.mk _ (Op.load 33 _) _ _ _ _ :: _) _ _)); refine wl_load Try.underlying33 rfl info13 rfl rfl rfl (by (repeat (first | assumption | (with_reducible refine alloc_at ?_; (focus (first | omega | (simp; done) | (simp; omega)))) | (with_reducible refine boxed_at ?_; (focus (first | omega | (simp; done) | (simp; omega)))) | (with_reducible refine alloc_old ?_ ?_; (focus (first | omega | (simp; done) | (simp; omega)))) | (with_reducible refine boxed_old ?_ ?_; (focus (first | omega | (simp; done) | (simp; omega)))) | (with_reducible refine drew_old ?_)))) (by rfl) ?_) | ((with_reducible_and_instances (show wpList _ _ _ (Oper.mk _ (Op.load 26 _) _ _ _ _ :: _) _ _)); refine wl_load Try.underlying26 rfl info6p rfl rfl rfl (by (repeat (first | assumption | (with_reducible refine alloc_at ?_; (focus (first | omega | (simp; done) | (simp; omega)))) | (with_reducible refine boxed_at ?_; (focus (first | omega | (simp; done) | (simp; omega)))) | (with_reducible refine alloc_old ?_ ?_; (focus (first | omega | (simp; done) | (simp; omega)))) | (with_reducible refine boxed_old ?_ ?_; (focus (first | omega | (simp; done) | (simp; omega)))) | (with_reducible refine drew_old ?_)))) (by rfl) ?_) | ((with_reducible_and_instances (show wpList _ _ _ (Oper.mk _ (Op.store 33 _ _) _ _ _ _ :: _) _ _)); refine wl_store info13 rfl rfl rfl rfl (by (repeat (first | assumption | (with_reducible refine alloc_at ?_; (focus (first | omega | (simp; done) | (simp; omega)))) | (with_reducible refine boxed_at ?_; (focus (first | omega | (simp; done) | (simp; omega)))) | (with_reducible refine alloc_old ?_ ?_; (focus (first | omega | (simp; done) | (simp; omega)))) | (with_reducible refine boxed_old ?_ ?_; (focus (first | omega | (simp; done) | (simp; omega)))) | (with_reducible refine drew_old ?_)))) (by rfl) (by rfl) (by first | exact Cv.arr_one _ | exact Nv.arr_one _ | exact Av.arr_one rfl | exact Pv.arr_one _ | simp [Value.oneCell']) ?_))
      go_ret
      exact ⟨rfl, HWF.out.alloc HWF.out.size _⟩
    · go_wp2_with (first | (go_at_call 24; refine (acname_any _ _).mono ?_; rw [show Av.name 3 = ⟨#[101, 110, 100, 101, 100]⟩ from rfl]; rintro e w' ⟨rfl, rfl⟩) | ((with_reducible_and_instances (show wpList _ _ _ (Oper.mk _ (Op.load 33 _) _ _ _ _ :: _) _ _)); refine wl_load Try.underlying33 rfl info13 rfl rfl rfl (by (repeat (first | assumption | (with_reducible refine alloc_at ?_; (focus (first | omega | (simp; done) | (simp; omega)))) | (with_reducible refine boxed_at ?_; (focus (first | omega | (simp; done) | (simp; omega)))) | (with_reducible refine alloc_old ?_ ?_; (focus (first | omega | (simp; done) | (simp; omega)))) | (with_reducible refine boxed_old ?_ ?_; (focus (first | omega | (simp; done) | (simp; omega)))) | (with_reducible refine drew_old ?_)))) (by rfl) ?_) | ((with_reducible_and_instances (show wpList _ _ _ (Oper.mk _ (Op.load 26 _) _ _ _ _ :: _) _ _)); refine wl_load Try.underlying26 rfl info6p rfl rfl rfl (by (repeat (first | assumption | (with_reducible refine alloc_at ?_; (focus (first | omega | (simp; done) | (simp; omega)))) | (with_reducible refine boxed_at ?_; (focus (first | omega | (simp; done) | (simp; omega)))) | (with_reducible refine alloc_old ?_ ?_; (focus (first | omega | (simp; done) | (simp; omega)))) | (with_reducible refine boxed_old ?_ ?_; (focus (first | omega | (simp; done) | (simp; omega)))) | (with_reducible refine drew_old ?_)))) (by rfl) ?_) | ((with_reducible_and_instances (show wpList _ _ _ (Oper.mk _ (Op.store 33 _ _) _ _ _ _ :: _) _ _)); refine wl_store info13 rfl rfl rfl rfl (by (repeat (first | assumption | (with_reducible refine alloc_at ?_; (focus (first | omega | (simp; done) | (simp; omega)))) | (with_reducible refine boxed_at ?_; (focus (first | omega | (simp; done) | (simp; omega)))) | (with_reducible refine alloc_old ?_ ?_; (focus (first | omega | (simp; done) | (simp; omega)))) | (with_reducible refine boxed_old ?_ ?_; (focus (first | omega | (simp; done) | (simp; omega)))) | (with_reducible refine drew_old ?_)))) (by rfl) (by rfl) (by first | exact Cv.arr_one _ | exact Nv.arr_one _ | exact Av.arr_one rfl | exact Pv.arr_one _ | simp [Value.oneCell']) ?_))
      go_ret
      exact ⟨rfl, HWF.out.alloc HWF.out.size _⟩
    · have d3 : decide (a3 ≤ 3) = false := by simp; omega
      have hn : Av.name a3 = ⟨#[]⟩ := by unfold Av.name; rw [if_neg (by omega), if_neg (by omega), if_neg (by omega), if_neg (by omega)]
      have HN := Lib.hid hn
      clear hn h3
      go_wp2_with (first | (go_at_call 24; refine (acname_any _ _).mono ?_; rw [HN.out]; rintro e w' ⟨rfl, rfl⟩) | ((with_reducible_and_instances (show wpList _ _ _ (Oper.mk _ (Op.load 33 _) _ _ _ _ :: _) _ _)); refine wl_load Try.underlying33 rfl info13 rfl rfl rfl (by (repeat (first | assumption | (with_reducible refine alloc_at ?_; (focus (first | omega | (simp; done) | (simp; omega)))) | (with_reducible refine boxed_at ?_; (focus (first | omega | (simp; done) | (simp; omega)))) | (with_reducible refine alloc_old ?_ ?_; (focus (first | omega | (simp; done) | (simp; omega)))) | (with_reducible refine boxed_old ?_ ?_; (focus (first | omega | (simp; done) | (simp; omega)))) | (with_reducible refine drew_old ?_)))) (by rfl) ?_) | ((with_reducible_and_instances (show wpList _ _ _ (Oper.mk _ (Op.load 26 _) _ _ _ _ :: _) _ _)); refine wl_load Try.underlying26 rfl info6p rfl rfl rfl (by (repeat (first | assumption | (with_reducible refine alloc_at ?_; (focus (first | omega | (simp; done) | (simp; omega)))) | (with_reducible refine boxed_at ?_; (focus (first | omega | (simp; done) | (simp; omega)))) | (with_reducible refine alloc_old ?_ ?_; (focus (first | omega | (simp; done) | (simp; omega)))) | (with_reducible refine boxed_old ?_ ?_; (focus (first | omega | (simp; done) | (simp; omega)))) | (with_reducible refine drew_old ?_)))) (by rfl) ?_) | ((with_reducible_and_instances (show wpList _ _ _ (Oper.mk _ (Op.store 33 _ _) _ _ _ _ :: _) _ _)); refine wl_store info13 rfl rfl rfl rfl (by (repeat (first | assumption | (with_reducible refine alloc_at ?_; (focus (first | omega | (simp; done) | (simp; omega)))) | (with_reducible refine boxed_at ?_; (focus (first | omega | (simp; done) | (simp; omega)))) | (with_reducible refine alloc_old ?_ ?_; (focus (first | omega | (simp; done) | (simp; omega)))) | (with_reducible refine boxed_old ?_ ?_; (focus (first | omega | (simp; done) | (simp; omega)))) | (with_reducible refine drew_old ?_)))) (by rfl) (by rfl) (by first | exact Cv.arr_one _ | exact Nv.arr_one _ | exact Av.arr_one rfl | exact Pv.arr_one _ | simp [Value.oneCell']) ?_))
      go_ret
      exact ⟨rfl, HWF.out⟩
end Go.Proofs.Ytcgglphphdpplaa
