/-
  After any outage just the periods that were missed are there: in one go, or day by day. No conditions.
-/
import Derived.Test.YtcgglphphdpplaaAvFirst
import Derived.Test.YtcgglphphdpplaaAvPlan
import Derived.Test.YtcgglphphdpplaaRow
import Derived.Lib.Hide
namespace Go.Proofs.Ytcgglphphdpplaa
set_option maxRecDepth 100000
open Go.ChangeShapes Go.WideShapes Go.ChangeAt Go.RowKit

theorem region_frame {P : Program} {c : Code} {Q : Exit → Act → World → Prop} {a : Act} {w : World} (Facts : Nat → Option Addr → Nat → World → Prop) (fr : Nat → Option Addr → Nat → Act)
    (h : c.wp P (fun e a' w' => e = .normal ∧ ∃ Z A1 c1, a' = fr Z A1 c1 ∧ Facts Z A1 c1 w') a w) (hk : ∀ Z A1 c1 w', Facts Z A1 c1 w' → Q .normal (fr Z A1 c1) w') : c.wp P Q a w :=
  wp_mono h (by rintro e a' w' ⟨rfl, Z, A1, c1, rfl, hf⟩; exact hk _ _ _ _ hf)
theorem acells {w : World} {b : Nat} {ty : TypeId} {fr : Nat × Nat} {a : Av} {v : Value} (h : w.heap[b]? = some (.cells (a.arr v) ty fr)) : w.cell? ⟨b, 0, none⟩ = some (.int .u8 a.st) ∧ w.cell? ⟨b, 1, none⟩ = some (.int .i64 a.pl) ∧ w.cell? ⟨b, 2, none⟩ = some (.int .i64 a.an) ∧ w.cell? ⟨b, 3, none⟩ = some (.int .i64 a.ix) ∧ w.cell? ⟨b, 4, none⟩ = some (.int .i64 a.ct) ∧ w.cell? ⟨b, 5, none⟩ = some (.int .i64 a.cr) ∧ w.cell? ⟨b, 6, none⟩ = some (.bool a.sk) ∧ w.cell? ⟨b, 7, none⟩ = some (v) ∧ w.cell? ⟨b, 8, none⟩ = some (.int .i64 a.dn) ∧ w.cell? ⟨b, 9, none⟩ = some (.int .i64 a.un) ∧ w.cell? ⟨b, 10, none⟩ = some (.int .i64 a.rf) ∧ w.cell? ⟨b, 11, none⟩ = some (.int .i64 a.sp) ∧ w.cell? ⟨b, 12, none⟩ = some (.int .i64 a.pd) := by
  refine ⟨?_, ?_, ?_, ?_, ?_, ?_, ?_, ?_, ?_, ?_, ?_, ?_, ?_⟩
  all_goals
    rw [cell_of_row _ _ _ _ _ _ h]
    rfl
theorem Cal.Cnt.mono {u a k d e y y' c c' : Int} (h : Cal.Cnt u a k d e y c) (h' : Cal.Cnt u a k d e y' c') (hy : y ≤ y') : c ≤ c' := by
  apply Int.le_of_not_gt
  intro hlt
  obtain ⟨h1, h2⟩ := h.all c' h'.nn hlt
  have := h'.out h1
  omega
/-- Up to each day so many periods have begun. -/
theorem cnt_fun {u a k d e F : Int} (hAt : Cal.At a k d) (he : 1 ≤ e) (hF : 0 ≤ F) (hF1 : F ≤ 800000) : ∃ f : Nat → Nat, f 0 = 0 ∧ ∀ j : Nat, 1 ≤ j → j ≤ 1000 → Cal.Cnt u a k d e (F + (j : Int) - 1) (f j) := by
  have h : ∀ j : Nat, ∃ c : Nat, (j = 0 → c = 0) ∧ (1 ≤ j → j ≤ 1000 → Cal.Cnt u a k d e (F + (j : Int) - 1) c) := by
    intro j
    by_cases hj : 1 ≤ j ∧ j ≤ 1000
    · obtain ⟨hj0, hj1⟩ := hj
      obtain ⟨c, hc⟩ := Cal.cnt_of (u := u) (e := e) (day := F + (j : Int) - 1) hAt he (by omega) (by omega)
      refine ⟨c.toNat, fun h => by omega, fun _ _ => ?_⟩
      rw [Int.toNat_of_nonneg hc.nn]; exact hc
    · exact ⟨0, fun _ => rfl, fun h1 h2 => absurd ⟨h1, h2⟩ hj⟩
  obtain ⟨f, hf⟩ := Classical.axiomOfChoice h
  exact ⟨f, (hf 0).1 rfl, fun j h1 h2 => (hf j).2 h1 h2⟩
set_option maxHeartbeats 8000000 in
theorem accountCatches_walk (a0 : Int) (w0 : (Lit.int .u8 a0).wf = true) (a1 : Int) (w1 : (Lit.int .u16 a1).wf = true) (a2 : Int) (w2 : (Lit.int .u8 a2).wf = true) (w : World) :
    Calls Try.prog 4 #[.int .u8 a0, .int .u16 a1, .int .u8 a2] w fun e w' => e = .returned (.bool true) ∧ Below w.heap.size w w' := by
  obtain ⟨h00, h01⟩ := wf_u8 w0
  obtain ⟨h10, h11⟩ := wf_u16 w1
  obtain ⟨h20, h21⟩ := wf_u8 w2
  go_enter Try.func4, Try.ntmps4
  go_wp2_with (fail)
  refine (acawake_any _).mono ?_
  rintro e w1 ⟨rfl, hb1⟩
  have HW1 := Lib.hid hb1
  clear hb1
  go_wp2_with (fail)
  refine (plan12_any a0 h00 (by omega) _).mono ?_
  rintro e w2 ⟨rfl, hb2⟩
  have HW2 : Hid (Below w.heap.size w w2) := HW1.out.trans (hb2.mono HW1.out.size)
  clear HW1 hb2
  go_wp2_with (first | ((with_reducible_and_instances (show wpList _ _ _ (Oper.mk _ (Op.load 26 _) _ _ _ _ :: _) _ _)); refine wl_load Try.underlying26 rfl info6p rfl rfl rfl (by (repeat (first | assumption | (with_reducible refine alloc_at ?_; (focus (first | omega | (simp; done) | (simp; omega)))) | (with_reducible refine boxed_at ?_; (focus (first | omega | (simp; done) | (simp; omega)))) | (with_reducible refine alloc_old ?_ ?_; (focus (first | omega | (simp; done) | (simp; omega)))) | (with_reducible refine boxed_old ?_ ?_; (focus (first | omega | (simp; done) | (simp; omega)))) | (with_reducible refine drew_old ?_)))) (by rfl) ?_) | ((with_reducible_and_instances (show wpList _ _ _ (Oper.mk _ (Op.store 26 _ _) _ _ _ _ :: _) _ _)); refine wl_store info6p rfl rfl rfl rfl (by (repeat (first | assumption | (with_reducible refine alloc_at ?_; (focus (first | omega | (simp; done) | (simp; omega)))) | (with_reducible refine boxed_at ?_; (focus (first | omega | (simp; done) | (simp; omega)))) | (with_reducible refine alloc_old ?_ ?_; (focus (first | omega | (simp; done) | (simp; omega)))) | (with_reducible refine boxed_old ?_ ?_; (focus (first | omega | (simp; done) | (simp; omega)))) | (with_reducible refine drew_old ?_)))) (by rfl) (by rfl) (by first | exact Cv.arr_one _ | exact Nv.arr_one _ | exact Av.arr_one rfl | exact Pv.arr_one _ | simp [Value.oneCell']) ?_))
  obtain ⟨hof1, ⟨hof2, hof3⟩, ⟨hof4, hof5⟩, ⟨hof6, hof7⟩⟩ := Pv.of_bd a0
  obtain ⟨P, hP⟩ : ∃ P, (⟨(Pv.of a0).a, (Pv.of a0).u, (Pv.of a0).e, (Pv.of a0).t, (Pv.of a0).g, false⟩ : Pv) = P := ⟨_, rfl⟩
  have hP0 : (0 ≤ P.a ∧ P.a ≤ 2999) ∧ (0 ≤ P.u ∧ P.u ≤ 3) ∧ (1 ≤ P.e ∧ P.e ≤ 3) ∧ (0 ≤ P.t ∧ P.t ≤ 10) := by
    rw [← hP]
    refine ⟨?_, ⟨hof2, hof3⟩, ⟨hof4, hof5⟩, ?_⟩ <;> dsimp only <;> omega
  obtain ⟨F, hF⟩ : ∃ F, 700000 + a1 = F := ⟨_, rfl⟩
  have hF0 : 700000 ≤ F := by omega
  have hF1 : F ≤ 765535 := by omega
  have HPP := Lib.hid hP
  have HP0 := Lib.hid hP0
  have hT : (w2.alloc (.cells P.arr 26)).heap[w2.heap.size]? = some (.cells P.arr 26 (0, 0)) := alloc_at rfl
  have hW0 : Below w.heap.size w (w2.alloc (.cells P.arr 26)) := HW2.out.alloc HW2.out.size _
  have hT0 : w.heap.size ≤ w2.heap.size := HW2.out.size
  have hT1 : w2.heap.size < (w2.alloc (.cells P.arr 26)).heap.size := by simp
  rw [hP, hF]
  clear hP hP0 hof1 hof2 hof3 hof4 hof5 hof6 hof7 HW2
  obtain ⟨T, hTT⟩ : ∃ T, w2.heap.size = T := ⟨_, rfl⟩
  obtain ⟨W0, hWW⟩ : ∃ W0, w2.alloc (.cells P.arr 26) = W0 := ⟨_, rfl⟩
  rw [hWW] at hT hW0 hT1 ⊢
  rw [hTT] at hT hT0 hT1 ⊢
  have HT := Lib.hid hT
  have HW0 := Lib.hid hW0
  have HF := Lib.hid hF
  clear hTT hWW hT hW0 hF
  have hpu := HP0.out.2.1
  have hpe := HP0.out.2.2.1
  have hpt := HP0.out.2.2.2
  obtain ⟨k, d, hAt⟩ := Cal.at_of (F + P.t) (by omega) (by omega)
  obtain ⟨c, hCn⟩ := Cal.cnt_of (u := P.u) (e := P.e) (day := F + a2) hAt hpe.1 (by omega) (by omega)
  have hc0 := hCn.nn
  have hc1 : c ≤ 1000 := by
    by_cases h : 1 ≤ c
    · have := hCn.le hAt hpe.1 h; omega
    · omega
  have HAT := Lib.hid hAt
  have HCN := Lib.hid hCn
  clear hAt hCn
  have hPl : P.l = false := by rw [← HPP.out]
  have HPL := Lib.hid hPl
  obtain ⟨cnt, hcnt0, hcnt⟩ := cnt_fun (u := P.u) (e := P.e) HAT.out HP0.out.2.2.1.1 (show (0 : Int) ≤ F by omega) (by omega)
  obtain ⟨D, hD⟩ : ∃ D : Nat, a2 = D := ⟨a2.toNat, by omega⟩
  subst hD
  have hDb : D ≤ 255 := by omega
  have hcD : (cnt (D + 1) : Int) = c := by
    have h1 := hcnt (D + 1) (by omega) (by omega)
    rw [show F + ((D + 1 : Nat) : Int) - 1 = F + (D : Int) by omega] at h1
    exact h1.one HCN.out
  have hcm : ∀ j : Nat, j ≤ D → cnt j ≤ cnt (j + 1) := fun j hj => by
    rcases Nat.eq_zero_or_pos j with h0 | h0
    · rw [h0, hcnt0]; exact Nat.zero_le _
    · have := (hcnt j h0 (by omega)).mono (hcnt (j + 1) (by omega) (by omega)) (by omega)
      omega
  have hcb : ∀ j : Nat, j ≤ D + 1 → cnt j ≤ 1000 := fun j hj => by
    rcases Nat.eq_zero_or_pos j with h0 | h0
    · rw [h0, hcnt0]; omega
    · have h1 := hcnt j h0 (by omega)
      by_cases h2 : (1 : Int) ≤ (cnt j : Int)
      · have := h1.le HAT.out HP0.out.2.2.1.1 h2; omega
      · omega
  have HCNT := Lib.hid hcnt
  have HCM := Lib.hid hcm
  have HCB := Lib.hid hcb
  have HCD := Lib.hid hcD
  have HC0 := Lib.hid hcnt0
  have hT := HT.out
  clear hcnt hcm hcb hcD hcnt0 hPl
  refine (open_any (p := P) 0 F (by omega)).mono ?_
  rintro e w3 ⟨rfl, hb3⟩
  obtain ⟨x0, hx0⟩ : ∃ x0, Av.opened 0 (F + P.t) = x0 := ⟨_, rfl⟩
  rw [hx0]
  have HX0 := Lib.hid hx0
  have hT3 : w3.heap[T]? = some (.cells P.arr 26 (0, 0)) := (hb3.block T hT1).trans hT
  have HW3 : Hid (Below w.heap.size w w3) := HW0.out.trans (hb3.mono HW0.out.size)
  have hz3 : T < w3.heap.size := (Array.getElem?_eq_some_iff.1 hT3).1
  clear hb3 hx0 hT
  go_wp2_with (first | ((with_reducible_and_instances (show wpList _ _ _ (Oper.mk _ (Op.load 33 _) _ _ _ _ :: _) _ _)); refine wl_load Try.underlying33 rfl info13 rfl rfl rfl (by (repeat (first | assumption | (with_reducible refine alloc_at ?_; (focus (first | omega | (simp; done) | (simp; omega)))) | (with_reducible refine boxed_at ?_; (focus (first | omega | (simp; done) | (simp; omega)))) | (with_reducible refine alloc_old ?_ ?_; (focus (first | omega | (simp; done) | (simp; omega)))) | (with_reducible refine boxed_old ?_ ?_; (focus (first | omega | (simp; done) | (simp; omega)))) | (with_reducible refine drew_old ?_)))) (by rfl) ?_) | ((with_reducible_and_instances (show wpList _ _ _ (Oper.mk _ (Op.load 26 _) _ _ _ _ :: _) _ _)); refine wl_load Try.underlying26 rfl info6p rfl rfl rfl (by (repeat (first | assumption | (with_reducible refine alloc_at ?_; (focus (first | omega | (simp; done) | (simp; omega)))) | (with_reducible refine boxed_at ?_; (focus (first | omega | (simp; done) | (simp; omega)))) | (with_reducible refine alloc_old ?_ ?_; (focus (first | omega | (simp; done) | (simp; omega)))) | (with_reducible refine boxed_old ?_ ?_; (focus (first | omega | (simp; done) | (simp; omega)))) | (with_reducible refine drew_old ?_)))) (by rfl) ?_) | ((with_reducible_and_instances (show wpList _ _ _ (Oper.mk _ (Op.store 33 _ _) _ _ _ _ :: _) _ _)); refine wl_store info13 rfl rfl rfl rfl (by (repeat (first | assumption | (with_reducible refine alloc_at ?_; (focus (first | omega | (simp; done) | (simp; omega)))) | (with_reducible refine boxed_at ?_; (focus (first | omega | (simp; done) | (simp; omega)))) | (with_reducible refine alloc_old ?_ ?_; (focus (first | omega | (simp; done) | (simp; omega)))) | (with_reducible refine boxed_old ?_ ?_; (focus (first | omega | (simp; done) | (simp; omega)))) | (with_reducible refine drew_old ?_)))) (by rfl) (by rfl) (by first | exact Cv.arr_one _ | exact Nv.arr_one _ | exact Av.arr_one rfl | exact Pv.arr_one _ | simp [Value.oneCell']) ?_))
  refine (daycalm_any (a := x0) (p := P) (m := 0) (y := F + (D : Int)) (c := c) (k := k) (d := d) (by rw [← HX0.out]; exact Cys.nil) (by rw [← HX0.out]; exact Av.opened_fine _ _) (by omega) (by rw [← HX0.out]; exact (by omega : (1 : Int) ≠ 3)) (by rw [← HX0.out]; exact HAT.out) HP0.out.2.1 ⟨HP0.out.2.2.1.1, by omega⟩ (by rw [← HX0.out]; exact ⟨(by omega : (0 : Int) ≤ 0), (by omega : (0 : Int) ≤ 100000)⟩) (by rw [← HX0.out]; show c ≤ 0 + 10000; omega) (by rw [← HX0.out]; exact HCN.out) ⟨HP0.out.1.1, by have := HP0.out.1.2; omega⟩).mono ?_
  have hX : Av.runs (Cal.vN P.u x0.an k d P.e) P c (c - x0.ix).toNat x0 = Av.runs (Cal.vN P.u (F + P.t) k d P.e) P 0 (cnt (D + 1)) x0 := by
    have h1 : x0.an = F + P.t := by rw [← HX0.out]; rfl
    have h2 : (c - x0.ix).toNat = cnt (D + 1) := by
      have h3 : x0.ix = 0 := by rw [← HX0.out]; rfl
      rw [h3, ← HCD.out]; omega
    rw [h1, h2]
    exact Av.runs_any _ _ HPL.out _ _
  rw [hX]
  obtain ⟨X, hXe⟩ : ∃ X, Av.runs (Cal.vN P.u (F + P.t) k d P.e) P 0 (cnt (D + 1)) x0 = X := ⟨_, rfl⟩
  rw [hXe]
  have HX := Lib.hid hXe
  clear hX hXe
  rintro e w4 ⟨v4, rfl, ho4, hb4⟩
  rw [World.size_alloc] at ho4
  have hT4 : w4.heap[T]? = some (.cells P.arr 26 (0, 0)) := below_block hb4 (alloc_old hz3 hT3)
  have hO4 : w4.heap[w3.heap.size]? = some (.cells (x0.arr (.slice none 0 0)) 33 (0, 0)) := below_block hb4 (alloc_at rfl)
  have HW4 : Hid (Below w.heap.size w w4) := (HW3.out.alloc HW3.out.size _).trans (hb4.mono (by have := HW3.out.size; simp; omega))
  obtain ⟨A4, c4, rfl, _, _⟩ := ho4.form
  have HC4 : Hid (Cys w4 0 w4.heap.size (.slice A4 X.l.length c4) X.l) := ho4.cys.more (Nat.zero_le _) (Nat.le_refl _)
  have hz4 : w3.heap.size < w4.heap.size := (Array.getElem?_eq_some_iff.1 hO4).1
  clear hb4 ho4 hT3
  go_wp2_with (first | ((with_reducible_and_instances (show wpList _ _ _ (Oper.mk _ (Op.load 33 _) _ _ _ _ :: _) _ _)); refine wl_load Try.underlying33 rfl info13 rfl rfl rfl (by (repeat (first | assumption | (with_reducible refine alloc_at ?_; (focus (first | omega | (simp; done) | (simp; omega)))) | (with_reducible refine boxed_at ?_; (focus (first | omega | (simp; done) | (simp; omega)))) | (with_reducible refine alloc_old ?_ ?_; (focus (first | omega | (simp; done) | (simp; omega)))) | (with_reducible refine boxed_old ?_ ?_; (focus (first | omega | (simp; done) | (simp; omega)))) | (with_reducible refine drew_old ?_)))) (by rfl) ?_) | ((with_reducible_and_instances (show wpList _ _ _ (Oper.mk _ (Op.load 26 _) _ _ _ _ :: _) _ _)); refine wl_load Try.underlying26 rfl info6p rfl rfl rfl (by (repeat (first | assumption | (with_reducible refine alloc_at ?_; (focus (first | omega | (simp; done) | (simp; omega)))) | (with_reducible refine boxed_at ?_; (focus (first | omega | (simp; done) | (simp; omega)))) | (with_reducible refine alloc_old ?_ ?_; (focus (first | omega | (simp; done) | (simp; omega)))) | (with_reducible refine boxed_old ?_ ?_; (focus (first | omega | (simp; done) | (simp; omega)))) | (with_reducible refine drew_old ?_)))) (by rfl) ?_) | ((with_reducible_and_instances (show wpList _ _ _ (Oper.mk _ (Op.store 33 _ _) _ _ _ _ :: _) _ _)); refine wl_store info13 rfl rfl rfl rfl (by (repeat (first | assumption | (with_reducible refine alloc_at ?_; (focus (first | omega | (simp; done) | (simp; omega)))) | (with_reducible refine boxed_at ?_; (focus (first | omega | (simp; done) | (simp; omega)))) | (with_reducible refine alloc_old ?_ ?_; (focus (first | omega | (simp; done) | (simp; omega)))) | (with_reducible refine boxed_old ?_ ?_; (focus (first | omega | (simp; done) | (simp; omega)))) | (with_reducible refine drew_old ?_)))) (by rfl) (by rfl) (by first | exact Cv.arr_one _ | exact Nv.arr_one _ | exact Av.arr_one rfl | exact Pv.arr_one _ | simp [Value.oneCell']) ?_))
  go_loopw [13] (fun i wq => ∃ (j : Nat) (E : Av) (v' : Value), j ≤ D + 1 ∧ i = .int .i64 j ∧ Hid (E = Av.runs (Cal.vN P.u (F + P.t) k d P.e) P 0 (cnt j) x0) ∧ Hid (Below w.heap.size w wq) ∧ Hid (wq.heap[T]? = some (.cells P.arr 26 (0, 0))) ∧ Hid (wq.heap[w4.heap.size]? = some (.cells (X.arr (.slice A4 X.l.length c4)) 33 (0, 0))) ∧ Hid (Cys wq 0 w4.heap.size (.slice A4 X.l.length c4) X.l) ∧ Hid (wq.heap[w4.heap.size + 1]? = some (.cells (E.arr v') 33 (0, 0))) ∧ Hid (Cys wq (w4.heap.size + 1 + 1) wq.heap.size v' E.l)) (fun i _ => D + 1 - (intOf i).toNat)
  case atStart =>
    refine ⟨0, x0, _, by omega, rfl, ?_, boxed_below ((HW4.out.alloc HW4.out.size _).alloc (by have := HW4.out.size; simp; omega) _) (by have := HW4.out.size; omega), boxed_old (by omega) (alloc_old (by simp; omega) (alloc_old (by omega) hT4)), boxed_old (by omega) (alloc_old (by simp) (alloc_at rfl)), ((HC4.out.below ((Below.refl _ w4).alloc (Nat.le_refl _) _)).below (((Below.refl _ _).alloc (by simp) _))).boxed (.inr (by omega)), boxed_at (by simp), ?_⟩
    · show x0 = _
      rw [HC0.out]; rfl
    · rw [← HX0.out]; exact Cys.nil
  case round =>
    obtain ⟨j, E, v', hj, rfl, HE, HW, HP1, HR, HCR, HEB, HEC⟩ := hrel
    by_cases hlt : j ≤ D
    case pos =>
      have dlt : decide ((j : Int) ≤ (D : Int)) = true := by simp; omega
      have hT5 := HP1.out
      have hE5 := HEB.out
      have hR5 := HR.out
      have hzr : w4.heap.size + 1 < wr.heap.size := (Array.getElem?_eq_some_iff.1 hE5).1
      obtain ⟨AE, cE, hvE, _⟩ := id HEC.out
      subst hvE
      have hEs := Av.runs_same (p := P) (N := Cal.vN P.u (F + P.t) k d P.e) (c := 0) (cnt j) x0
      have hEf := Av.Fine.runs (p := P) (N := Cal.vN P.u (F + P.t) k d P.e) (c := 0) ⟨HP0.out.1.1, by have := HP0.out.1.2; omega⟩ (cnt j) 0 x0 (by rw [← HX0.out]; exact Av.opened_fine _ _)
      rw [← HE.out] at hEs hEf
      obtain ⟨g1, _, g3, g4, _⟩ := hEs
      have k1 : x0.st = 1 := by rw [← HX0.out]; rfl
      have k3 : x0.an = F + P.t := by rw [← HX0.out]; rfl
      have k4 : x0.ix = 0 := by rw [← HX0.out]; rfl
      rw [k1] at g1
      rw [k3] at g3
      rw [k4, Int.zero_add] at g4
      have hb0 := HCB.out j (by omega)
      have hb1 := HCB.out (j + 1) (by omega)
      have hmono := HCM.out j hlt
      have hcn := HCNT.out (j + 1) (by omega) (by omega)
      rw [show F + ((j + 1 : Nat) : Int) - 1 = F + (j : Int) by omega] at hcn
      have HCNJ := Lib.hid hcn
      have hrun : Av.runs (Cal.vN P.u E.an k d P.e) P (cnt (j + 1) : Int) ((cnt (j + 1) : Int) - E.ix).toNat E = Av.runs (Cal.vN P.u (F + P.t) k d P.e) P 0 (cnt (j + 1)) x0 := by
        rw [g3, g4, Av.runs_any _ 0 HPL.out, show ((cnt (j + 1) : Int) - (cnt j : Int)).toNat = cnt (j + 1) - cnt j by omega, HE.out, ← Av.runs_add, show cnt j + (cnt (j + 1) - cnt j) = cnt (j + 1) by omega]
      have HRUN := Lib.hid hrun
      have G1 := Lib.hid g1
      have G3 := Lib.hid g3
      have G4 := Lib.hid g4
      have HEF := Lib.hid hEf
      have B0 := Lib.hid hb0
      have B1 := Lib.hid hb1
      clear hrun g1 g3 g4 k1 k3 k4 hb0 hb1 hmono hcn hEf HE
      go_wp2_with (first | ((with_reducible_and_instances (show wpList _ _ _ (Oper.mk _ (Op.load 33 _) _ _ _ _ :: _) _ _)); refine wl_load Try.underlying33 rfl info13 rfl rfl rfl (by (repeat (first | assumption | (with_reducible refine alloc_at ?_; (focus (first | omega | (simp; done) | (simp; omega)))) | (with_reducible refine boxed_at ?_; (focus (first | omega | (simp; done) | (simp; omega)))) | (with_reducible refine alloc_old ?_ ?_; (focus (first | omega | (simp; done) | (simp; omega)))) | (with_reducible refine boxed_old ?_ ?_; (focus (first | omega | (simp; done) | (simp; omega)))) | (with_reducible refine drew_old ?_)))) (by rfl) ?_) | ((with_reducible_and_instances (show wpList _ _ _ (Oper.mk _ (Op.load 26 _) _ _ _ _ :: _) _ _)); refine wl_load Try.underlying26 rfl info6p rfl rfl rfl (by (repeat (first | assumption | (with_reducible refine alloc_at ?_; (focus (first | omega | (simp; done) | (simp; omega)))) | (with_reducible refine boxed_at ?_; (focus (first | omega | (simp; done) | (simp; omega)))) | (with_reducible refine alloc_old ?_ ?_; (focus (first | omega | (simp; done) | (simp; omega)))) | (with_reducible refine boxed_old ?_ ?_; (focus (first | omega | (simp; done) | (simp; omega)))) | (with_reducible refine drew_old ?_)))) (by rfl) ?_) | ((with_reducible_and_instances (show wpList _ _ _ (Oper.mk _ (Op.store 33 _ _) _ _ _ _ :: _) _ _)); refine wl_store info13 rfl rfl rfl rfl (by (repeat (first | assumption | (with_reducible refine alloc_at ?_; (focus (first | omega | (simp; done) | (simp; omega)))) | (with_reducible refine boxed_at ?_; (focus (first | omega | (simp; done) | (simp; omega)))) | (with_reducible refine alloc_old ?_ ?_; (focus (first | omega | (simp; done) | (simp; omega)))) | (with_reducible refine boxed_old ?_ ?_; (focus (first | omega | (simp; done) | (simp; omega)))) | (with_reducible refine drew_old ?_)))) (by rfl) (by rfl) (by first | exact Cv.arr_one _ | exact Nv.arr_one _ | exact Av.arr_one rfl | exact Pv.arr_one _ | simp [Value.oneCell']) ?_))
      refine (daycalm_any (a := E) (p := P) (m := 0 + cnt j) (y := F + (j : Int)) (c := (cnt (j + 1) : Int)) (k := k) (d := d) (HEC.out.more (Nat.zero_le _) (Nat.le_refl _)) HEF.out (by have := B0.out; omega) (by rw [G1.out]; decide) (by rw [G3.out]; exact HAT.out) HP0.out.2.1 ⟨HP0.out.2.2.1.1, by omega⟩ (by rw [G4.out]; have := B0.out; omega) (by rw [G4.out]; have := B1.out; omega) (by rw [G3.out]; exact HCNJ.out) ⟨HP0.out.1.1, by have := HP0.out.1.2; omega⟩).mono ?_
      rw [HRUN.out]
      obtain ⟨E2, hE2⟩ : ∃ E2, Av.runs (Cal.vN P.u (F + P.t) k d P.e) P 0 (cnt (j + 1)) x0 = E2 := ⟨_, rfl⟩
      rw [hE2]
      have HE2 := Lib.hid hE2
      clear hE2 HRUN
      rintro e w5 ⟨v5, rfl, ho5, hb5⟩
      have hT6 : w5.heap[T]? = some (.cells P.arr 26 (0, 0)) := (hb5.block T (by omega)).trans hT5
      have hR6 : w5.heap[w4.heap.size]? = some (.cells (X.arr (.slice A4 X.l.length c4)) 33 (0, 0)) := (hb5.block _ (by omega)).trans hR5
      have hE6 : w5.heap[w4.heap.size + 1]? = some (.cells (E.arr (.slice AE E.l.length cE)) 33 (0, 0)) := (hb5.block _ hzr).trans hE5
      have hC6 : Cys w5 0 w4.heap.size (.slice A4 X.l.length c4) X.l := HCR.out.kept fun i _ hi => hb5.block i (by omega)
      have hW6 : Below w.heap.size w w5 := HW.out.trans (hb5.mono HW.out.size)
      have hz6 : wr.heap.size ≤ w5.heap.size := hb5.size
      obtain ⟨A5, c5, rfl, _, _⟩ := ho5.form
      have hC7 : Cys w5 (w4.heap.size + 1 + 1) w5.heap.size (.slice A5 E2.l.length c5) E2.l := ho5.cys.more (by omega) (Nat.le_refl _)
      have HT6 := Lib.hid hT6
      have HR6 := Lib.hid hR6
      have HC6 := Lib.hid hC6
      have HC7 := Lib.hid hC7
      have HW6 := Lib.hid hW6
      clear hb5 ho5 hT6 hR6 hC6 hC7 hW6 hT5 hE5 hR5
      go_wp2_with (first | ((with_reducible_and_instances (show wpList _ _ _ (Oper.mk _ (Op.load 33 _) _ _ _ _ :: _) _ _)); refine wl_load Try.underlying33 rfl info13 rfl rfl rfl (by (repeat (first | assumption | (with_reducible refine alloc_at ?_; (focus (first | omega | (simp; done) | (simp; omega)))) | (with_reducible refine boxed_at ?_; (focus (first | omega | (simp; done) | (simp; omega)))) | (with_reducible refine alloc_old ?_ ?_; (focus (first | omega | (simp; done) | (simp; omega)))) | (with_reducible refine boxed_old ?_ ?_; (focus (first | omega | (simp; done) | (simp; omega)))) | (with_reducible refine drew_old ?_)))) (by rfl) ?_) | ((with_reducible_and_instances (show wpList _ _ _ (Oper.mk _ (Op.load 26 _) _ _ _ _ :: _) _ _)); refine wl_load Try.underlying26 rfl info6p rfl rfl rfl (by (repeat (first | assumption | (with_reducible refine alloc_at ?_; (focus (first | omega | (simp; done) | (simp; omega)))) | (with_reducible refine boxed_at ?_; (focus (first | omega | (simp; done) | (simp; omega)))) | (with_reducible refine alloc_old ?_ ?_; (focus (first | omega | (simp; done) | (simp; omega)))) | (with_reducible refine boxed_old ?_ ?_; (focus (first | omega | (simp; done) | (simp; omega)))) | (with_reducible refine drew_old ?_)))) (by rfl) ?_) | ((with_reducible_and_instances (show wpList _ _ _ (Oper.mk _ (Op.store 33 _ _) _ _ _ _ :: _) _ _)); refine wl_store info13 rfl rfl rfl rfl (by (repeat (first | assumption | (with_reducible refine alloc_at ?_; (focus (first | omega | (simp; done) | (simp; omega)))) | (with_reducible refine boxed_at ?_; (focus (first | omega | (simp; done) | (simp; omega)))) | (with_reducible refine alloc_old ?_ ?_; (focus (first | omega | (simp; done) | (simp; omega)))) | (with_reducible refine boxed_old ?_ ?_; (focus (first | omega | (simp; done) | (simp; omega)))) | (with_reducible refine drew_old ?_)))) (by rfl) (by rfl) (by first | exact Cv.arr_one _ | exact Nv.arr_one _ | exact Av.arr_one rfl | exact Pv.arr_one _ | simp [Value.oneCell']) ?_))
      refine ⟨⟨j + 1, E2, .slice A5 E2.l.length c5, by omega, by go_num, HE2.out.symm, boxed_below (HW6.out.alloc HW6.out.size _) (by have := HW4.out.size; omega), boxed_old (by omega) (alloc_old (by omega) HT6.out), boxed_old (by omega) (alloc_old (by omega) HR6.out), (HC6.out.below ((Below.refl _ w5).alloc (by omega) _)).boxed (.inr (by omega)), boxed_at (by simp; omega), ?_⟩, by simp [intOf]; omega⟩
      exact ((HC7.out.below ((Below.refl _ w5).alloc (Nat.le_refl _) _)).boxed (.inl (by omega))).more (Nat.le_refl _) (by simp)
    case neg =>
      obtain rfl : j = D + 1 := by omega
      have dlt : decide (((D + 1 : Nat) : Int) ≤ (D : Int)) = false := by simp; omega
      have dlt2 : decide ((D : Int) + 1 ≤ (D : Int)) = false := by simp; omega
      obtain rfl : E = X := HE.out.trans HX.out
      obtain ⟨AE, cE, hvE, _⟩ := id HEC.out
      subst hvE
      have hzr : w4.heap.size + 1 < wr.heap.size := (Array.getElem?_eq_some_iff.1 HEB.out).1
      obtain ⟨_, _, _, m3, m4, _, _, m7, m8, m9, m10, m11, m12⟩ := acells HR.out
      obtain ⟨_, _, _, n3, n4, _, _, n7, n8, n9, n10, n11, n12⟩ := acells HEB.out
      clear HE hj hlt
      go_wp2_with (fail)
      obtain ⟨W6, rfl⟩ : ∃ q, q = wr := ⟨wr, rfl⟩
      have hlen : E.l.length ≤ 1001 := by
        have hEf := Av.Fine.runs (p := P) (N := Cal.vN P.u (F + P.t) k d P.e) (c := 0) ⟨HP0.out.1.1, by have := HP0.out.1.2; omega⟩ (cnt (D + 1)) 0 x0 (by rw [← HX0.out]; exact Av.opened_fine _ _)
        rw [HX.out] at hEf
        have h1 := hEf.len
        have h2 := HCB.out (D + 1) (Nat.le_refl _)
        omega
      clear m3 m4 m7 m8 m9 m10 m11 m12 n3 n4 n7 n8 n9 n10 n11 n12 dlt dlt2
      go_loopw [16] (fun i wq => ∃ j : Nat, j ≤ E.l.length ∧ i = .int .i64 j ∧ Hid (Below W6.heap.size W6 wq)) (fun i _ => E.l.length - (intOf i).toNat)
      case atStart => exact ⟨0, by omega, rfl, Below.refl _ _⟩
      case round =>
        obtain ⟨j, hj, rfl, HB⟩ := hrel
        have m7 : wr.cell? ⟨w4.heap.size, 7, none⟩ = some (.slice A4 E.l.length c4) := (World.cell?_of_block (a := ⟨w4.heap.size, 7, none⟩) (HB.out.block w4.heap.size (by omega))).trans (acells HR.out).2.2.2.2.2.2.2.1
        have n7 : wr.cell? ⟨w4.heap.size + 1, 7, none⟩ = some (.slice AE E.l.length cE) := (World.cell?_of_block (a := ⟨w4.heap.size + 1, 7, none⟩) (HB.out.block (w4.heap.size + 1) hzr)).trans (acells HEB.out).2.2.2.2.2.2.2.1
        by_cases hlt : j < E.l.length
        case neg =>
          obtain rfl : j = E.l.length := by omega
          have dlt : decide ((E.l.length : Int) < (E.l.length : Int)) = false := by simp
          go_wp2
          go_ret
          exact ⟨rfl, HW.out.trans (HB.out.mono HW.out.size)⟩
        case pos =>
          have dlt : decide ((j : Int) < (E.l.length : Int)) = true := by simpa using hlt
          obtain ⟨z, hz⟩ : ∃ z, E.l[j]? = some z := ⟨E.l[j], List.getElem?_eq_getElem hlt⟩
          obtain ⟨g, o, cap, hv, y1, y2, y3, _, hgl, hr⟩ := HCR.out.at_ hz
          injection hv with hv1 hvl hv3
          obtain ⟨g2, o2, cap2, hv', y4, y5, y6, _, hgl2, hr2⟩ := HEC.out.at_ hz
          injection hv' with hv1' hvl' hv3'
          clear hvl hvl' y1 y2 y3 y4 y5 y6
          subst hv1 hv3 hv1' hv3'
          have k0 : (0 : Int) ≤ (j : Int) := by omega
          have k1 : (j : Int) < (E.l.length : Int) := by omega
          have hR1 : wr.rangeAt g (o + j * 8) z.cs := fun i q hq => (World.cell?_of_block (a := ⟨g, o + j * 8 + i, none⟩) (HB.out.block g (by omega))).trans (hr i q hq)
          have hR2 : wr.rangeAt g2 (o2 + j * 8) z.cs := fun i q hq => (World.cell?_of_block (a := ⟨g2, o2 + j * 8 + i, none⟩) (HB.out.block g2 hgl2)).trans (hr2 i q hq)
          obtain ⟨n, d', p, a', u, tt, xx, gd⟩ := z
          have HR1 := Lib.hid hR1
          have HR2 := Lib.hid hR2
          clear hr hr2 hz hR1 hR2
          go_wp2_with (fail)
          have HS0 : Hid ((fun w' : World => w'.cell? ⟨w4.heap.size, 7, none⟩ = some (.slice (some ⟨g, o, none⟩) E.l.length c4) ∧ w'.cell? ⟨w4.heap.size + 1, 7, none⟩ = some (.slice (some ⟨g2, o2, none⟩) E.l.length cE) ∧ w'.rangeAt g (o + j * 8) [.int .i64 n, .int .i64 d', .int .u8 p, .int .i64 a', .int .i64 u, .int .i64 tt, .int .i64 xx, .bool gd] ∧ w'.rangeAt g2 (o2 + j * 8) [.int .i64 n, .int .i64 d', .int .u8 p, .int .i64 a', .int .i64 u, .int .i64 tt, .int .i64 xx, .bool gd]) wr.drew) := ⟨m7, n7, (World.rangeAt_drew _ _ _ _).2 HR1.out, (World.rangeAt_drew _ _ _ _).2 HR2.out⟩
          refine lane_start (ord := [0, 1, 2, 3, 4, 5, 6, 7, 8, 9, 10]) (S := (fun w' : World => w'.cell? ⟨w4.heap.size, 7, none⟩ = some (.slice (some ⟨g, o, none⟩) E.l.length c4) ∧ w'.cell? ⟨w4.heap.size + 1, 7, none⟩ = some (.slice (some ⟨g2, o2, none⟩) E.l.length cE) ∧ w'.rangeAt g (o + j * 8) [.int .i64 n, .int .i64 d', .int .u8 p, .int .i64 a', .int .i64 u, .int .i64 tt, .int .i64 xx, .bool gd] ∧ w'.rangeAt g2 (o2 + j * 8) [.int .i64 n, .int .i64 d', .int .u8 p, .int .i64 a', .int .i64 u, .int .i64 tt, .int .i64 xx, .bool gd])) rfl (by kernel_rfl) (by exact HS0.out) (fun _ => ?_)
          iterate 4 (refine lane_take (v := ?_) rfl (by kernel_rfl) (by kernel_rfl) (by rfl) ?_ (by exact HS0.out) ?_; rotate_left; (focus (intro W hSw; obtain ⟨s1, s2, _, _⟩ := hSw; go_simp; try (with_reducible rfl))); simp only [Act.put, List.setIfInBounds_toArray, List.set_cons_zero, List.set_cons_succ])
          refine lane_take (v := .agg #[.int .i64 n, .int .i64 d', .int .u8 p, .int .i64 a', .int .i64 u, .int .i64 tt, .int .i64 xx, .bool gd]) rfl (by kernel_rfl) (by kernel_rfl) (by rfl) (fun W hSw => exec_load rfl rfl (run_loadAt_mid W g (o + j * 8) 51 _ _ hSw.2.2.1 Try.underlying51 rfl info8)) (by exact HS0.out) ?_
          simp only [Act.put, List.setIfInBounds_toArray, List.set_cons_zero, List.set_cons_succ]
          iterate 4 (refine lane_take (v := ?_) rfl (by kernel_rfl) (by kernel_rfl) (by rfl) ?_ (by exact HS0.out) ?_; rotate_left; (focus (intro W hSw; obtain ⟨s1, s2, _, _⟩ := hSw; go_simp; try (with_reducible rfl))); simp only [Act.put, List.setIfInBounds_toArray, List.set_cons_zero, List.set_cons_succ])
          refine lane_take (v := .agg #[.int .i64 n, .int .i64 d', .int .u8 p, .int .i64 a', .int .i64 u, .int .i64 tt, .int .i64 xx, .bool gd]) rfl (by kernel_rfl) (by kernel_rfl) (by rfl) (fun W hSw => exec_load rfl rfl (run_loadAt_mid W g2 (o2 + j * 8) 51 _ _ hSw.2.2.2 Try.underlying51 rfl info8)) (by exact HS0.out) ?_
          simp only [Act.put, List.setIfInBounds_toArray, List.set_cons_zero, List.set_cons_succ]
          (refine lane_take (v := ?_) rfl (by kernel_rfl) (by kernel_rfl) (by rfl) ?_ (by exact HS0.out) ?_; rotate_left; (focus (intro W hSw; obtain ⟨s1, s2, _, _⟩ := hSw; go_simp; try (with_reducible rfl))); simp only [Act.put, List.setIfInBounds_toArray, List.set_cons_zero, List.set_cons_succ])
          refine lane_end (by kernel_rfl) ?_
          go_wp2
          exact ⟨⟨j + 1, by omega, by go_num, HB.out.drew⟩, by simp [intOf]; omega⟩
end Go.Proofs.Ytcgglphphdpplaa
