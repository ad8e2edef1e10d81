/-
  A day that comes: the document's own Day. No conditions but the sizes.
-/
import Derived.Deep.CutRange
import Derived.Test.YtblikgbcakgdnaaGreatBp23
set_option linter.unusedSimpArgs false
set_option linter.unusedVariables false
namespace Go.Proofs.YtblikgbcakgdnaaGreat
set_option maxRecDepth 100000
open Go.ChangeShapes Go.WideShapes Go.ChangeAt Go.RowKit

/-- A list that lies apart from what a call has boxed: in old blocks below c0, or in new ones. -/
def Cyq (b0 c0 B : Nat) (w : World) (v : Value) (l : List Cv) : Prop := ∃ b c, (b0 ≤ b ∧ c ≤ c0 ∧ c0 ≤ B ∨ B + 1 + 1 + 1 ≤ b) ∧ c ≤ w.heap.size ∧ Cys w b c v l
theorem Cyq.kept {b0 c0 B : Nat} {w w' : World} {v : Value} {l : List Cv} (h : Cyq b0 c0 B w v l) (hz : w.heap.size ≤ w'.heap.size) (hk : ∀ i, i < w.heap.size → (i < B ∨ B + 1 + 1 + 1 ≤ i) → w'.heap[i]? = w.heap[i]?) : Cyq b0 c0 B w' v l := by
  obtain ⟨b, c, hap, hc, hcys⟩ := h
  exact ⟨b, c, hap, by omega, hcys.kept fun i h1 h2 => hk i (by omega) (by omega)⟩
theorem Cyq.whole {b0 c0 B : Nat} {w : World} {v : Value} {l : List Cv} (h : Cyq b0 c0 B w v l) : Cys w 0 w.heap.size v l := by
  obtain ⟨b, c, _, hc, hcys⟩ := h
  exact hcys.more (Nat.zero_le _) hc
theorem Cyq.ways {b0 c0 B : Nat} {w : World} {v : Value} {l : List Cv} (h : Cyq b0 c0 B w v l) : Cys w b0 c0 v l ∨ Cys w B w.heap.size v l := by
  obtain ⟨b, c, hap | hap, hc, hcys⟩ := h
  · exact .inl (hcys.more hap.1 hap.2.1)
  · exact .inr (hcys.more (by omega) hc)
set_option maxHeartbeats 16000000 in
theorem refday_any {w : World} {v : Value} {s : Sv} {p : Pv} {y k d : Int} (hAt : Cal.At s.an k d) (hU : 0 ≤ p.u ∧ p.u ≤ 3) (hE : 1 ≤ p.e ∧ p.e ≤ 1000) (hix : 0 ≤ s.ix ∧ s.ix ≤ 15000) (hp : 0 ≤ p.a ∧ p.a ≤ 100000000000) {b0 c0 : Nat} (h : Cys w b0 c0 v s.l) (hc0 : c0 ≤ w.heap.size) (hs : s.l.length ≤ 500000) (hcr : -100000000000 ≤ s.cr ∧ s.cr ≤ 100000000000) (hu : ∀ c ∈ s.l, (-1000000000000 ≤ c.u ∧ c.u ≤ 1000000000000) ∧ 0 ≤ c.t ∧ c.t ≤ 1000) :
    Calls Tryz.prog 32 #[.agg (s.arr v), .agg p.arr, .int .i64 y] w fun e w' => ∃ v', e = .returned (.agg ((Sv.day (Cal.nth s.an k d p.u p.e) p y s).arr v')) ∧ (Cys w' b0 c0 v' (Sv.day (Cal.nth s.an k d p.u p.e) p y s).l ∨ Cys w' w.heap.size w'.heap.size v' (Sv.day (Cal.nth s.an k d p.u p.e) p y s).l) ∧ Below w.heap.size w w' := by
  obtain ⟨N, hN⟩ : ∃ N, Cal.nth s.an k d p.u p.e = N := ⟨_, rfl⟩
  rw [hN]
  obtain ⟨R, hR⟩ : ∃ R, Sv.day N p y s = R := ⟨_, rfl⟩
  rw [hR]
  have HRR := Lib.hid hR
  have HN := Lib.hid hN
  clear hR hN
  have H := Lib.hid h
  have HU := Lib.hid hu
  have HAT := Lib.hid hAt
  have HPU := Lib.hid hU
  have HPE := Lib.hid hE
  have HPA := Lib.hid hp
  obtain ⟨hcr0, hcr1⟩ := hcr
  obtain ⟨A, c, hv, hcap, hcm, _⟩ := h
  subst hv
  clear hu hAt hU hE hp
  go_enter Tryz.func32, Tryz.ntmps32
  go_wp2
  go_loopw [7] (fun i wq => ∃ (j : Nat) (A' : Option Addr) (c' : Nat), j ≤ s.l.length ∧ i = .int .i64 j ∧ Hid (Below w.heap.size w wq) ∧ Hid (wq.heap[w.heap.size]? = some (.cells (s.arr (.slice A' s.l.length c')) 39 (0, 0))) ∧ Hid (wq.heap[w.heap.size + 1]? = some (.cells p.arr 44 (0, 0))) ∧ Hid (wq.heap[w.heap.size + 1 + 1]? = some (.cells (Sv.zero.arr (.slice none 0 0)) 39 (0, 0))) ∧ Hid (Cyq b0 c0 w.heap.size wq (.slice A' s.l.length c') (woken s.l (fun c => c.wake y) j)) ∧ s.l.length ≤ c' ∧ c' ≤ maxLen) (fun i _ => s.l.length - (intOf i).toNat)
  case atStart =>
    refine ⟨0, A, c, by omega, rfl, (((Below.refl _ w).alloc (Nat.le_refl _) _).alloc (by simp) _).alloc (by simp; omega) _, alloc_old (by simp; omega) (alloc_old (by simp) (alloc_at rfl)), alloc_old (by simp) (alloc_at (by simp)), alloc_at (by simp), ⟨b0, c0, .inl ⟨Nat.le_refl _, Nat.le_refl _, hc0⟩, by simp; omega, ?_⟩, hcap, hcm⟩
    rw [woken_zero]
    exact H.out.below (((((Below.refl _ w).alloc (Nat.le_refl _) _).alloc (by simp) _).alloc (by simp; omega) _).mono hc0)
  case round =>
    obtain ⟨j, A', c', hj, rfl, HW, HP, HQ, HR, HL, hc1, hc2⟩ := hrel
    have hz3 : w.heap.size + 1 + 1 < wr.heap.size := (Array.getElem?_eq_some_iff.1 HR.out).1
    have hz30 : w.heap.size < wr.heap.size := by omega
    by_cases hlt : j < s.l.length
    case neg =>
      obtain rfl : j = s.l.length := by omega
      have dlt : decide ((s.l.length : Int) < (s.l.length : Int)) = false := by simp
      rw [woken_all] at HL
      obtain ⟨z, hz⟩ : ∃ z, ({ s with l := s.l.map (fun c => c.wake y) } : Sv) = z := ⟨_, rfl⟩
      have HM : Hid ((if s.st = 3 then z else Sv.days N p y 4000 z) = R) := by
        show _ = R
        rw [← HRR.out, ← hz]
        unfold Sv.day
        rfl
      have hzl : z.l = s.l.map (fun c => c.wake y) := by rw [← hz]
      have hzn : s.l.length = z.l.length := by rw [hzl, List.length_map]
      have hza : ∀ v, s.arr v = z.arr v := fun v => by rw [← hz]; rfl
      have hz1 : z.st = s.st := by rw [← hz]
      have hz2 : z.an = s.an := by rw [← hz]
      have hz3' : z.ix = s.ix := by rw [← hz]
      have hz4 : z.cr = s.cr := by rw [← hz]
      rw [← hzl] at HL
      rw [hza, hzn] at HP
      rw [hzn] at HL hc1 hs dlt hj
      rw [← hz1] at HM
      rw [← hz4] at hcr0 hcr1
      rw [← hz3'] at hix
      obtain ⟨hix0, hix1⟩ := hix
      have HA := Lib.hid hz2
      rw [hzn]
      clear hz hzl hza hz1 hz2 hz3' hz4 HRR hlt H HU
      have hP1 := HP.out
      have hQ1 := HQ.out
      have hR1 := HR.out
      by_cases h3 : z.st = 3
      · have hRe : z = R := by rw [← HM.out, if_pos h3]
        have HRE := Lib.hid hRe
        have d3 : (z.st == 3) = true := by simpa using h3
        have e := boxed_self hP1
        rw [e]
        clear e hRe h3 hP1
        go_wp2_with (first | ((with_reducible_and_instances (show wpList _ _ _ (Oper.mk _ (Op.load 39 _) _ _ _ _ :: _) _ _)); refine wl_load Tryz.underlying39 rfl info7s rfl rfl rfl (by (repeat (first | assumption | (with_reducible refine alloc_at ?_; (focus (first | omega | (simp; done) | (simp; omega)))) | (with_reducible refine boxed_at ?_; (focus (first | omega | (simp; done) | (simp; omega)))) | (with_reducible refine alloc_old ?_ ?_; (focus (first | omega | (simp; done) | (simp; omega)))) | (with_reducible refine boxed_old ?_ ?_; (focus (first | omega | (simp; done) | (simp; omega)))) | (with_reducible refine drew_old ?_)))) (by rfl) ?_) | ((with_reducible_and_instances (show wpList _ _ _ (Oper.mk _ (Op.load 44 _) _ _ _ _ :: _) _ _)); refine wl_load Tryz.underlying44 rfl info6p rfl rfl rfl (by (repeat (first | assumption | (with_reducible refine alloc_at ?_; (focus (first | omega | (simp; done) | (simp; omega)))) | (with_reducible refine boxed_at ?_; (focus (first | omega | (simp; done) | (simp; omega)))) | (with_reducible refine alloc_old ?_ ?_; (focus (first | omega | (simp; done) | (simp; omega)))) | (with_reducible refine boxed_old ?_ ?_; (focus (first | omega | (simp; done) | (simp; omega)))) | (with_reducible refine drew_old ?_)))) (by rfl) ?_) | ((with_reducible_and_instances (show wpList _ _ _ (Oper.mk _ (Op.load 90 _) _ _ _ _ :: _) _ _)); refine wl_load Tryz.underlying90 rfl info8r rfl rfl rfl (by (repeat (first | assumption | (with_reducible refine alloc_at ?_; (focus (first | omega | (simp; done) | (simp; omega)))) | (with_reducible refine boxed_at ?_; (focus (first | omega | (simp; done) | (simp; omega)))) | (with_reducible refine alloc_old ?_ ?_; (focus (first | omega | (simp; done) | (simp; omega)))) | (with_reducible refine boxed_old ?_ ?_; (focus (first | omega | (simp; done) | (simp; omega)))) | (with_reducible refine drew_old ?_)))) (by rfl) ?_) | ((with_reducible_and_instances (show wpList _ _ _ (Oper.mk _ (Op.store 39 _ _) _ _ _ _ :: _) _ _)); refine wl_store info7s rfl rfl rfl rfl (by (repeat (first | assumption | (with_reducible refine alloc_at ?_; (focus (first | omega | (simp; done) | (simp; omega)))) | (with_reducible refine boxed_at ?_; (focus (first | omega | (simp; done) | (simp; omega)))) | (with_reducible refine alloc_old ?_ ?_; (focus (first | omega | (simp; done) | (simp; omega)))) | (with_reducible refine boxed_old ?_ ?_; (focus (first | omega | (simp; done) | (simp; omega)))) | (with_reducible refine drew_old ?_)))) (by rfl) (by rfl) (by first | exact Cv.arr_one _ | exact Nv.arr_one _ | exact Av.arr_one rfl | exact Sv.arr_one rfl | exact Pv.arr_one _ | simp [Value.oneCell']) ?_) | ((with_reducible_and_instances (show wpList _ _ _ (Oper.mk _ (Op.store 90 _ _) _ _ _ _ :: _) _ _)); refine wl_store info8r rfl rfl rfl rfl (by (repeat (first | assumption | (with_reducible refine alloc_at ?_; (focus (first | omega | (simp; done) | (simp; omega)))) | (with_reducible refine boxed_at ?_; (focus (first | omega | (simp; done) | (simp; omega)))) | (with_reducible refine alloc_old ?_ ?_; (focus (first | omega | (simp; done) | (simp; omega)))) | (with_reducible refine boxed_old ?_ ?_; (focus (first | omega | (simp; done) | (simp; omega)))) | (with_reducible refine drew_old ?_)))) (by rfl) (by rfl) (by first | exact Cv.arr_one _ | exact Nv.arr_one _ | exact Av.arr_one rfl | exact Sv.arr_one rfl | exact Pv.arr_one _ | simp [Value.oneCell']) ?_))
        refine bodyPost_ret (results_cell_row rfl _ _ (w.heap.size + 1 + 1) 39 _ (0, 0) _ rfl (by (repeat (first | assumption | (with_reducible refine alloc_at ?_; (focus (first | omega | (simp; done) | (simp; omega)))) | (with_reducible refine boxed_at ?_; (focus (first | omega | (simp; done) | (simp; omega)))) | (with_reducible refine alloc_old ?_ ?_; (focus (first | omega | (simp; done) | (simp; omega)))) | (with_reducible refine boxed_old ?_ ?_; (focus (first | omega | (simp; done) | (simp; omega)))) | (with_reducible refine drew_old ?_)))) Tryz.underlying39 rfl (by exact info7s)) rfl ?_
        rw [← HRE.out]
        exact ⟨_, rfl, (HL.out.kept (by simp) fun i _ h9 => (boxed_block_other (by omega)).trans (boxed_block_other (by omega))).ways, boxed_below (boxed_below HW.out (Nat.le_refl _)) (by omega)⟩
      have hst : (z.st == 3) = false := by simpa using h3
      have hRe : Sv.days N p y 4000 z = R := by rw [← HM.out, if_neg h3]
      have HRE0 := Lib.hid hRe
      clear hRe HM h3
      have e := boxed_self hP1
      rw [e]
      clear e
      go_wp2
      go_loopw [8] (fun i wq => ∃ (j : Nat) (x : Sv) (A' : Option Addr) (c' : Nat), j ≤ 4000 ∧ i = .int .i64 j ∧ Hid (Sv.days N p y (4000 - j) x = R) ∧ (0 ≤ x.ix ∧ x.ix ≤ 15000 + j) ∧ Hid (x.an = s.an) ∧ (-100000000000 ≤ x.cr ∧ x.cr ≤ 100000000000) ∧ x.l.length ≤ 500000 + j ∧ Hid (Below w.heap.size w wq) ∧ Hid (wq.heap[w.heap.size]? = some (.cells (x.arr (.slice A' x.l.length c')) 39 (0, 0))) ∧ Hid (wq.heap[w.heap.size + 1]? = some (.cells p.arr 44 (0, 0))) ∧ Hid (wq.heap[w.heap.size + 1 + 1]? = some (.cells (Sv.zero.arr (.slice none 0 0)) 39 (0, 0))) ∧ Hid (Cyq b0 c0 w.heap.size wq (.slice A' x.l.length c') x.l) ∧ x.l.length ≤ c' ∧ c' ≤ maxLen) (fun i _ => 4000 - (intOf i).toNat)
      case atStart =>
        exact ⟨0, z, A', c', by omega, rfl, HRE0, ⟨by omega, by omega⟩, HA, ⟨hcr0, hcr1⟩, by omega, boxed_below HW.out (Nat.le_refl _), boxed_at hz30, boxed_old (by omega) HQ.out, boxed_old (by omega) HR.out, HL.out.kept (by simp) (fun i _ h9 => boxed_block_other (by omega)), by omega, hc2⟩
      case round =>
        clear HRE0 HW HP HQ HR HL hc1 hc2 hix0 hix1 hcr0 hcr1 hz3 hz30 hzn hs hst hj dlt HA hP1 hQ1 hR1
        obtain ⟨j, x, A', c', hj, rfl, HRE, ⟨hix0, hix1⟩, HA, ⟨hcr0, hcr1⟩, hl', HW, HP, HQ, HR, HL, hc1, hc2⟩ := hrel
        have hz3 : w.heap.size + 1 + 1 < wr.heap.size := (Array.getElem?_eq_some_iff.1 HR.out).1
        have hz30 : w.heap.size < wr.heap.size := by omega
        have hz31 : w.heap.size + 1 < wr.heap.size := by omega
        have hP1 := HP.out
        have hQ1 := HQ.out
        have hR1 := HR.out
        have e := boxed_self hP1
        rw [e]
        clear e hP1
        by_cases hlt : j < 4000
        case neg =>
          obtain rfl : j = 4000 := by omega
          have dl : decide (((4000 : Nat) : Int) < 4000) = false := by decide
          have HREe : Hid (x = R) := HRE.out
          clear HRE hlt
          go_wp2_with (first | ((with_reducible_and_instances (show wpList _ _ _ (Oper.mk _ (Op.load 39 _) _ _ _ _ :: _) _ _)); refine wl_load Tryz.underlying39 rfl info7s rfl rfl rfl (by (repeat (first | assumption | (with_reducible refine alloc_at ?_; (focus (first | omega | (simp; done) | (simp; omega)))) | (with_reducible refine boxed_at ?_; (focus (first | omega | (simp; done) | (simp; omega)))) | (with_reducible refine alloc_old ?_ ?_; (focus (first | omega | (simp; done) | (simp; omega)))) | (with_reducible refine boxed_old ?_ ?_; (focus (first | omega | (simp; done) | (simp; omega)))) | (with_reducible refine drew_old ?_)))) (by rfl) ?_) | ((with_reducible_and_instances (show wpList _ _ _ (Oper.mk _ (Op.load 44 _) _ _ _ _ :: _) _ _)); refine wl_load Tryz.underlying44 rfl info6p rfl rfl rfl (by (repeat (first | assumption | (with_reducible refine alloc_at ?_; (focus (first | omega | (simp; done) | (simp; omega)))) | (with_reducible refine boxed_at ?_; (focus (first | omega | (simp; done) | (simp; omega)))) | (with_reducible refine alloc_old ?_ ?_; (focus (first | omega | (simp; done) | (simp; omega)))) | (with_reducible refine boxed_old ?_ ?_; (focus (first | omega | (simp; done) | (simp; omega)))) | (with_reducible refine drew_old ?_)))) (by rfl) ?_) | ((with_reducible_and_instances (show wpList _ _ _ (Oper.mk _ (Op.load 90 _) _ _ _ _ :: _) _ _)); refine wl_load Tryz.underlying90 rfl info8r rfl rfl rfl (by (repeat (first | assumption | (with_reducible refine alloc_at ?_; (focus (first | omega | (simp; done) | (simp; omega)))) | (with_reducible refine boxed_at ?_; (focus (first | omega | (simp; done) | (simp; omega)))) | (with_reducible refine alloc_old ?_ ?_; (focus (first | omega | (simp; done) | (simp; omega)))) | (with_reducible refine boxed_old ?_ ?_; (focus (first | omega | (simp; done) | (simp; omega)))) | (with_reducible refine drew_old ?_)))) (by rfl) ?_) | ((with_reducible_and_instances (show wpList _ _ _ (Oper.mk _ (Op.store 39 _ _) _ _ _ _ :: _) _ _)); refine wl_store info7s rfl rfl rfl rfl (by (repeat (first | assumption | (with_reducible refine alloc_at ?_; (focus (first | omega | (simp; done) | (simp; omega)))) | (with_reducible refine boxed_at ?_; (focus (first | omega | (simp; done) | (simp; omega)))) | (with_reducible refine alloc_old ?_ ?_; (focus (first | omega | (simp; done) | (simp; omega)))) | (with_reducible refine boxed_old ?_ ?_; (focus (first | omega | (simp; done) | (simp; omega)))) | (with_reducible refine drew_old ?_)))) (by rfl) (by rfl) (by first | exact Cv.arr_one _ | exact Nv.arr_one _ | exact Av.arr_one rfl | exact Sv.arr_one rfl | exact Pv.arr_one _ | simp [Value.oneCell']) ?_) | ((with_reducible_and_instances (show wpList _ _ _ (Oper.mk _ (Op.store 90 _ _) _ _ _ _ :: _) _ _)); refine wl_store info8r rfl rfl rfl rfl (by (repeat (first | assumption | (with_reducible refine alloc_at ?_; (focus (first | omega | (simp; done) | (simp; omega)))) | (with_reducible refine boxed_at ?_; (focus (first | omega | (simp; done) | (simp; omega)))) | (with_reducible refine alloc_old ?_ ?_; (focus (first | omega | (simp; done) | (simp; omega)))) | (with_reducible refine boxed_old ?_ ?_; (focus (first | omega | (simp; done) | (simp; omega)))) | (with_reducible refine drew_old ?_)))) (by rfl) (by rfl) (by first | exact Cv.arr_one _ | exact Nv.arr_one _ | exact Av.arr_one rfl | exact Sv.arr_one rfl | exact Pv.arr_one _ | simp [Value.oneCell']) ?_))
          refine bodyPost_ret (results_cell_row rfl _ _ (w.heap.size + 1 + 1) 39 _ (0, 0) _ rfl (by (repeat (first | assumption | (with_reducible refine alloc_at ?_; (focus (first | omega | (simp; done) | (simp; omega)))) | (with_reducible refine boxed_at ?_; (focus (first | omega | (simp; done) | (simp; omega)))) | (with_reducible refine alloc_old ?_ ?_; (focus (first | omega | (simp; done) | (simp; omega)))) | (with_reducible refine boxed_old ?_ ?_; (focus (first | omega | (simp; done) | (simp; omega)))) | (with_reducible refine drew_old ?_)))) Tryz.underlying39 rfl (by exact info7s)) rfl ?_
          rw [← HREe.out]
          exact ⟨_, rfl, (HL.out.kept (by simp) fun i _ h9 => (boxed_block_other (by omega)).trans (boxed_block_other (by omega))).ways, boxed_below (boxed_below HW.out (Nat.le_refl _)) (by omega)⟩
        have dl : decide ((j : Int) < 4000) = true := by simp; omega
        have hf : 4000 - j = (3999 - j) + 1 := by omega
        rw [hf] at HRE
        have hAtx : Cal.At x.an k d := by rw [HA.out]; exact HAT.out
        obtain ⟨dv, ok, HN1, hn1, _⟩ := refnth_all x.an k d p.u p.e x.ix hAtx HPU.out.1 HPU.out.2 HPE.out.1 HPE.out.2 hix0 (by omega)
        rw [HA.out, HN.out] at hn1
        have HN1e := Lib.hid hn1
        obtain ⟨q0, q1, q2, q3, q4, q5⟩ := pcells hQ1
        clear hf hn1 hAtx
        go_wp2_with (fail)
        refine (HN1.out _).mono ?_
        rintro e w2 ⟨rfl, hb⟩
        have hP2 : w2.heap[w.heap.size]? = some (.cells (x.arr (.slice A' x.l.length c')) 39 (0, 0)) := below_block hb (boxed_at hz30)
        have hQ2 : w2.heap[w.heap.size + 1]? = some (.cells p.arr 44 (0, 0)) := below_block hb (boxed_old (by omega) hQ1)
        have hR2 : w2.heap[w.heap.size + 1 + 1]? = some (.cells (Sv.zero.arr (.slice none 0 0)) 39 (0, 0)) := below_block hb (boxed_old (by omega) hR1)
        have HL2 : Hid (Cyq b0 c0 w.heap.size w2 (.slice A' x.l.length c') x.l) := HL.out.kept (by have := hb.size; rw [boxed_size] at this; exact this) fun i h9 h8 => (hb.block i (by rw [boxed_size]; omega)).trans (boxed_block_other (by omega))
        have HW2 : Hid (Below w.heap.size w w2) := (boxed_below HW.out (Nat.le_refl _)).trans (hb.mono (by simp; omega))
        have hz4 : w.heap.size + 1 + 1 < w2.heap.size := (Array.getElem?_eq_some_iff.1 hR2).1
        have hz40 : w.heap.size < w2.heap.size := by omega
        have hz41 : w.heap.size + 1 < w2.heap.size := by omega
        have e := boxed_self hP2
        rw [e]
        clear e hb hP2 HW HP HQ HR HL hQ1 hR1 q0 q1 q2 q3 q4 q5 hz3 hz30 hz31
        by_cases hgo : ok = true ∧ dv ≤ y
        case neg =>
          have HREe : Hid (x = R) := by
            show _ = R
            rw [← HRE.out]
            unfold Sv.days
            rw [HN1e.out]
            cases ok
            · rfl
            · rw [if_pos rfl]
              dsimp only
              rw [if_pos (by have h9 : ¬ dv ≤ y := fun h => hgo ⟨rfl, h⟩; omega)]
          have hwy : ok = false ∨ (ok = true ∧ decide (dv > y) = true ∧ decide (y < dv) = true) := by
            cases ok
            · exact .inl rfl
            · have h9 : ¬ dv ≤ y := fun h => hgo ⟨rfl, h⟩
              refine .inr ⟨rfl, ?_, ?_⟩ <;> (simp; omega)
          clear hgo HRE
          rcases hwy with rfl | ⟨rfl, dd, dd'⟩
          all_goals
            go_wp2_with (first | ((with_reducible_and_instances (show wpList _ _ _ (Oper.mk _ (Op.load 39 _) _ _ _ _ :: _) _ _)); refine wl_load Tryz.underlying39 rfl info7s rfl rfl rfl (by (repeat (first | assumption | (with_reducible refine alloc_at ?_; (focus (first | omega | (simp; done) | (simp; omega)))) | (with_reducible refine boxed_at ?_; (focus (first | omega | (simp; done) | (simp; omega)))) | (with_reducible refine alloc_old ?_ ?_; (focus (first | omega | (simp; done) | (simp; omega)))) | (with_reducible refine boxed_old ?_ ?_; (focus (first | omega | (simp; done) | (simp; omega)))) | (with_reducible refine drew_old ?_)))) (by rfl) ?_) | ((with_reducible_and_instances (show wpList _ _ _ (Oper.mk _ (Op.load 44 _) _ _ _ _ :: _) _ _)); refine wl_load Tryz.underlying44 rfl info6p rfl rfl rfl (by (repeat (first | assumption | (with_reducible refine alloc_at ?_; (focus (first | omega | (simp; done) | (simp; omega)))) | (with_reducible refine boxed_at ?_; (focus (first | omega | (simp; done) | (simp; omega)))) | (with_reducible refine alloc_old ?_ ?_; (focus (first | omega | (simp; done) | (simp; omega)))) | (with_reducible refine boxed_old ?_ ?_; (focus (first | omega | (simp; done) | (simp; omega)))) | (with_reducible refine drew_old ?_)))) (by rfl) ?_) | ((with_reducible_and_instances (show wpList _ _ _ (Oper.mk _ (Op.load 90 _) _ _ _ _ :: _) _ _)); refine wl_load Tryz.underlying90 rfl info8r rfl rfl rfl (by (repeat (first | assumption | (with_reducible refine alloc_at ?_; (focus (first | omega | (simp; done) | (simp; omega)))) | (with_reducible refine boxed_at ?_; (focus (first | omega | (simp; done) | (simp; omega)))) | (with_reducible refine alloc_old ?_ ?_; (focus (first | omega | (simp; done) | (simp; omega)))) | (with_reducible refine boxed_old ?_ ?_; (focus (first | omega | (simp; done) | (simp; omega)))) | (with_reducible refine drew_old ?_)))) (by rfl) ?_) | ((with_reducible_and_instances (show wpList _ _ _ (Oper.mk _ (Op.store 39 _ _) _ _ _ _ :: _) _ _)); refine wl_store info7s rfl rfl rfl rfl (by (repeat (first | assumption | (with_reducible refine alloc_at ?_; (focus (first | omega | (simp; done) | (simp; omega)))) | (with_reducible refine boxed_at ?_; (focus (first | omega | (simp; done) | (simp; omega)))) | (with_reducible refine alloc_old ?_ ?_; (focus (first | omega | (simp; done) | (simp; omega)))) | (with_reducible refine boxed_old ?_ ?_; (focus (first | omega | (simp; done) | (simp; omega)))) | (with_reducible refine drew_old ?_)))) (by rfl) (by rfl) (by first | exact Cv.arr_one _ | exact Nv.arr_one _ | exact Av.arr_one rfl | exact Sv.arr_one rfl | exact Pv.arr_one _ | simp [Value.oneCell']) ?_) | ((with_reducible_and_instances (show wpList _ _ _ (Oper.mk _ (Op.store 90 _ _) _ _ _ _ :: _) _ _)); refine wl_store info8r rfl rfl rfl rfl (by (repeat (first | assumption | (with_reducible refine alloc_at ?_; (focus (first | omega | (simp; done) | (simp; omega)))) | (with_reducible refine boxed_at ?_; (focus (first | omega | (simp; done) | (simp; omega)))) | (with_reducible refine alloc_old ?_ ?_; (focus (first | omega | (simp; done) | (simp; omega)))) | (with_reducible refine boxed_old ?_ ?_; (focus (first | omega | (simp; done) | (simp; omega)))) | (with_reducible refine drew_old ?_)))) (by rfl) (by rfl) (by first | exact Cv.arr_one _ | exact Nv.arr_one _ | exact Av.arr_one rfl | exact Sv.arr_one rfl | exact Pv.arr_one _ | simp [Value.oneCell']) ?_))
            refine bodyPost_ret (results_cell_row rfl _ _ (w.heap.size + 1 + 1) 39 _ (0, 0) _ rfl (by (repeat (first | assumption | (with_reducible refine alloc_at ?_; (focus (first | omega | (simp; done) | (simp; omega)))) | (with_reducible refine boxed_at ?_; (focus (first | omega | (simp; done) | (simp; omega)))) | (with_reducible refine alloc_old ?_ ?_; (focus (first | omega | (simp; done) | (simp; omega)))) | (with_reducible refine boxed_old ?_ ?_; (focus (first | omega | (simp; done) | (simp; omega)))) | (with_reducible refine drew_old ?_)))) Tryz.underlying39 rfl (by exact info7s)) rfl ?_
            rw [← HREe.out]
            exact ⟨_, rfl, (HL2.out.kept (by simp) fun i _ h9 => (boxed_block_other (by omega)).trans (boxed_block_other (by omega))).ways, boxed_below (boxed_below HW2.out (Nat.le_refl _)) (by omega)⟩
        obtain ⟨rfl, hdy⟩ := hgo
        have dd : decide (dv > y) = false := by simp; omega
        have dd' : decide (y < dv) = false := by simp; omega
        have hAtx : Cal.At x.an k d := by rw [HA.out]; exact HAT.out
        obtain ⟨nv, mo, HN2, hn2, _⟩ := refnth_all x.an k d p.u p.e (x.ix + 1) hAtx HPU.out.1 HPU.out.2 HPE.out.1 HPE.out.2 (by omega) (by omega)
        rw [HA.out, HN.out] at hn2
        have HN2e := Lib.hid hn2
        have ei : wrap64 (x.ix + 1) = x.ix + 1 := by unfold wrap64; omega
        obtain ⟨q0, q1, q2, q3, q4, q5⟩ := pcells hQ2
        clear hn2 hAtx
        go_wp2_with (fail)
        refine (HN2.out _).mono ?_
        rintro e w3 ⟨rfl, hb⟩
        obtain ⟨x1, hx1⟩ : ∃ x1, ({ x with ix := x.ix + 1 } : Sv) = x1 := ⟨_, rfl⟩
        have hP3 : w3.heap[w.heap.size]? = some (.cells (x1.arr (.slice A' x.l.length c')) 39 (0, 0)) := by rw [← hx1]; exact below_block hb (boxed_at hz40)
        have hQ3 : w3.heap[w.heap.size + 1]? = some (.cells p.arr 44 (0, 0)) := below_block hb (boxed_old (by omega) hQ2)
        have hR3 : w3.heap[w.heap.size + 1 + 1]? = some (.cells (Sv.zero.arr (.slice none 0 0)) 39 (0, 0)) := below_block hb (boxed_old (by omega) hR2)
        have HL3 : Hid (Cyq b0 c0 w.heap.size w3 (.slice A' x.l.length c') x.l) := HL2.out.kept (by have := hb.size; rw [boxed_size] at this; exact this) fun i h9 h8 => (hb.block i (by rw [boxed_size]; omega)).trans (boxed_block_other (by omega))
        have HW3 : Hid (Below w.heap.size w w3) := (boxed_below HW2.out (Nat.le_refl _)).trans (hb.mono (by simp; omega))
        have hz5 : w.heap.size + 1 + 1 < w3.heap.size := (Array.getElem?_eq_some_iff.1 hR3).1
        have hz50 : w.heap.size < w3.heap.size := by omega
        have hz51 : w.heap.size + 1 < w3.heap.size := by omega
        have hs1 : x1.l = x.l := by rw [← hx1]
        have hs2 : x1.cr = x.cr := by rw [← hx1]
        have hs3 : x1.ix = x.ix + 1 := by rw [← hx1]
        have hs4 : x1.an = s.an := by rw [← hx1]; exact HA.out
        rw [← hs1] at HL3 hP3 hc1 hl'
        rw [← hs2] at hcr0 hcr1
        obtain ⟨ms, hms⟩ : ∃ ms, Sv.missed p y (N (x.ix + 1)) = ms := ⟨_, rfl⟩
        have HMS := Lib.hid hms
        have hborn : Sv.days N p y (3999 - j) (Sv.born x p dv ms) = R := by
          rw [← HRE.out, ← hms]
          show _ = (match N x.ix with
            | none => x
            | some d => if y < d then x else Sv.days N p y (3999 - j) (x.born p d (Sv.missed p y (N (x.ix + 1)))))
          have e9 : N x.ix = some dv := by rw [HN1e.out]; simp
          rw [e9]
          dsimp only
          rw [if_neg (by omega)]
        have hbx : Sv.born x p dv ms = if x1.st = 2 ∨ ms = true then { x1 with l := x1.l ++ [⟨x1.l.length, dv, 10, 0, 0, 0, 0, false⟩] }
            else if x1.sk = true then { x1 with sk := false, l := x1.l ++ [⟨x1.l.length, dv, 10, 0, 0, 0, 0, false⟩] }
            else if p.a - x1.cr < 0 then { x1 with cr := x1.cr - p.a, l := x1.l ++ [Cy.begin_ x1.l.length dv 0 p.a p.g] }
            else { x1 with cr := 0, l := x1.l ++ [Cy.begin_ x1.l.length dv (p.a - x1.cr) x1.cr p.g] } := by rw [← hx1]; rfl
        rw [hbx] at hborn
        have HBO := Lib.hid hborn
        have hmw : ms = (p.l && (mo && decide (nv ≤ y))) := by
          rw [← hms, HN2e.out]
          unfold Sv.missed
          cases mo <;> cases p.l <;> rfl
        have hS := Lib.hid hs4
        have e := boxed_self hP3
        rw [e]
        have HX3 : Hid (0 ≤ x1.ix ∧ x1.ix ≤ 15000 + (j + 1)) := by
          show _ ∧ _
          omega
        clear e hb hP3 HW2 HL2 hQ2 hR2 q0 q1 q2 q3 q4 q5 hz4 hz40 hz41 hborn hbx hms hs1 hs2 hs3 hs4 hx1 HRE HN1e HN2e HN1 HN2 HA hix0 hix1 ei
        obtain ⟨q0, q1, q2, q3, q4, q5⟩ := pcells hQ3
        go_upto_region 16 with fail
        go_cut [13] from 56 to 158 (fun m wc => m = .bool ms ∧ wc = boxed w3 w.heap.size (x1.arr (.slice A' x1.l.length c')) 39)
        case first =>
          obtain ⟨PL, hPL⟩ : ∃ PL, p.l = PL := ⟨_, rfl⟩
          rw [hPL] at hmw q5
          clear hPL
          cases PL
          · obtain rfl : ms = false := hmw
            go_wp2_with (fail)
            all_goals
              go_meet
              exact ⟨rfl, rfl⟩
          · cases mo
            · obtain rfl : ms = false := hmw
              go_wp2_with (fail)
              all_goals
                go_meet
                exact ⟨rfl, rfl⟩
            · by_cases hnv : nv ≤ y
              · have d1 : decide (nv ≤ y) = true := by simpa using hnv
                obtain rfl : ms = true := by rw [hmw, d1]; rfl
                clear hmw
                go_wp2_with (fail)
                all_goals
                  go_meet
                  exact ⟨rfl, rfl⟩
              · have d1 : decide (nv ≤ y) = false := by simpa using hnv
                obtain rfl : ms = false := by rw [hmw, d1]; rfl
                clear hmw
                go_wp2_with (fail)
                all_goals
                  go_meet
                  exact ⟨rfl, rfl⟩
        case rest =>
          obtain ⟨rfl, rfl⟩ := hcut
          clear hmw dd dd'
          have hz59 := HW3.out.size
          by_cases h2 : x1.st = 2 ∨ ms = true
          · have hways : (x1.st == 2) = true ∨ ((x1.st == 2) = false ∧ ms = true) := by
              by_cases e : x1.st = 2
              · exact .inl (by simpa using e)
              · exact .inr ⟨by simpa using e, by rcases h2 with h | h; exact absurd h e; exact h⟩
            rw [if_pos h2] at HBO
            clear h2
            rcases hways with e2 | ⟨e2, rfl⟩
            all_goals
              go_upto_region 31 with fail
              obtain ⟨zz, hzz⟩ : ∃ zz, x1 = zz := ⟨_, rfl⟩
              have hza : Hid (zz.an = s.an) := by rw [← hzz]; exact hS
              have hzi : 0 ≤ zz.ix ∧ zz.ix ≤ 15000 + ((j + 1 : Nat) : Int) := by rw [← hzz]; have := HX3.out; omega
              have hzc : -100000000000 ≤ zz.cr ∧ zz.cr ≤ 100000000000 := by rw [← hzz]; exact ⟨hcr0, hcr1⟩
              have HBT : Hid (Sv.days N p y (3999 - j) { zz with l := x1.l ++ [⟨(x1.l.length : Int), dv, 10, 0, 0, 0, 0, false⟩] } = R) := by rw [← hzz]; exact HBO
              have hzx : ∀ v, x1.arr v = zz.arr v := fun v => by rw [hzz]
              rw [hzx]
              clear hzz hzx HBO
              have HXL : Hid (Cyq b0 c0 w.heap.size ((boxed w3 w.heap.size (zz.arr (.slice A' x1.l.length c')) 39).alloc (.cells #[.int .i64 (x1.l.length : Int), .int .i64 dv, .int .u8 10, .int .i64 0, .int .i64 0, .int .i64 0, .int .i64 0, .bool false] 90)) (.slice A' x1.l.length c') x1.l) := HL3.out.kept (by simp) fun i h9 h8 => (alloc_block_old (by rw [boxed_size]; omega)).trans (boxed_block_other (by omega))
              have hX0 : ((boxed w3 w.heap.size (zz.arr (.slice A' x1.l.length c')) 39).alloc (.cells #[.int .i64 (x1.l.length : Int), .int .i64 dv, .int .u8 10, .int .i64 0, .int .i64 0, .int .i64 0, .int .i64 0, .bool false] 90)).heap[w.heap.size]? = some (.cells (zz.arr (.slice A' x1.l.length c')) 39 (0, 0)) := alloc_old (by rw [boxed_size]; omega) (boxed_at (by omega))
              have hX1 : ((boxed w3 w.heap.size (zz.arr (.slice A' x1.l.length c')) 39).alloc (.cells #[.int .i64 (x1.l.length : Int), .int .i64 dv, .int .u8 10, .int .i64 0, .int .i64 0, .int .i64 0, .int .i64 0, .bool false] 90)).heap[w.heap.size + 1]? = some (.cells p.arr 44 (0, 0)) := alloc_old (by rw [boxed_size]; omega) (boxed_old (by omega) hQ3)
              have hX2 : ((boxed w3 w.heap.size (zz.arr (.slice A' x1.l.length c')) 39).alloc (.cells #[.int .i64 (x1.l.length : Int), .int .i64 dv, .int .u8 10, .int .i64 0, .int .i64 0, .int .i64 0, .int .i64 0, .bool false] 90)).heap[w.heap.size + 1 + 1]? = some (.cells (Sv.zero.arr (.slice none 0 0)) 39 (0, 0)) := alloc_old (by rw [boxed_size]; omega) (boxed_old (by omega) hR3)
              have hX3 : ((boxed w3 w.heap.size (zz.arr (.slice A' x1.l.length c')) 39).alloc (.cells #[.int .i64 (x1.l.length : Int), .int .i64 dv, .int .u8 10, .int .i64 0, .int .i64 0, .int .i64 0, .int .i64 0, .bool false] 90)).heap[w3.heap.size]? = some (.cells #[.int .i64 (x1.l.length : Int), .int .i64 dv, .int .u8 10, .int .i64 0, .int .i64 0, .int .i64 0, .int .i64 0, .bool false] 90 (0, 0)) := alloc_at (by rw [boxed_size])
              have HXW : Hid (Below w.heap.size w ((boxed w3 w.heap.size (zz.arr (.slice A' x1.l.length c')) 39).alloc (.cells #[.int .i64 (x1.l.length : Int), .int .i64 dv, .int .u8 10, .int .i64 0, .int .i64 0, .int .i64 0, .int .i64 0, .bool false] 90))) := (boxed_below HW3.out (Nat.le_refl _)).alloc (by simp; omega) _
              have hXs : ((boxed w3 w.heap.size (zz.arr (.slice A' x1.l.length c')) 39).alloc (.cells #[.int .i64 (x1.l.length : Int), .int .i64 dv, .int .u8 10, .int .i64 0, .int .i64 0, .int .i64 0, .int .i64 0, .bool false] 90)).heap.size = w3.heap.size + 1 := by rw [World.size_alloc, boxed_size]
              obtain ⟨XW, hXW⟩ : ∃ XW, (boxed w3 w.heap.size (zz.arr (.slice A' x1.l.length c')) 39).alloc (.cells #[.int .i64 (x1.l.length : Int), .int .i64 dv, .int .u8 10, .int .i64 0, .int .i64 0, .int .i64 0, .int .i64 0, .bool false] 90) = XW := ⟨_, rfl⟩
              rw [hXW] at hX0 hX1 hX2 hX3 HXL HXW hXs ⊢
              clear hXW
              have hX9 := boxed_self hX0
              rw [hX9]
              clear hX9
              go_wp2_with (first
                | (at_builtin; refine wpList_append_cys cytyr rfl _ _ rfl (l0 := []) (base := XW.heap.size) rfl rfl (World.ownsRow_nil _ _ _ _) (HXL.out.kept (by simp) fun i h9 h8 => boxed_block_other (by omega)).whole (by simp; omega) (by simp) ?_; intro v5 w5 ho5 hg5 hat5; rw [List.nil_append] at ho5; obtain ⟨A5, c5, hv5, _, _⟩ := own_form ho5; subst hv5; have hb5 := grown_none hg5; have hs5 := hb5.size; rw [boxed_size] at hs5; have hP5 : w5.heap[w.heap.size]? = some (.cells (zz.arr (.slice A' x1.l.length c')) 39 (0, 0)) := below_block hb5 (boxed_at (by omega)); have HQ5 : Hid (w5.heap[w.heap.size + 1]? = some (.cells p.arr 44 (0, 0))) := below_block hb5 (boxed_old (by omega) hX1); have HR5 : Hid (w5.heap[w.heap.size + 1 + 1]? = some (.cells (Sv.zero.arr (.slice none 0 0)) 39 (0, 0))) := below_block hb5 (boxed_old (by omega) hX2); have hC5 : w5.heap[w3.heap.size]? = some (.cells #[.int .i64 (x1.l.length : Int), .int .i64 dv, .int .u8 10, .int .i64 0, .int .i64 0, .int .i64 0, .int .i64 0, .bool false] 90 (0, 0)) := below_block hb5 (boxed_old (by omega) hX3); have HO5 := Lib.hid ho5; have HW5 : Hid (Below w.heap.size w w5) := (boxed_below HXW.out (Nat.le_refl _)).trans (hb5.mono (by rw [boxed_size]; omega)); have hz55 : w.heap.size < w5.heap.size := (by omega); have e5 := boxed_self hP5; rw [e5]; clear e5 hb5 ho5 hg5 hat5 hP5)
                | ((with_reducible_and_instances (show wpList _ _ _ (Oper.mk _ (Op.load 90 _) _ _ _ _ :: _) _ _)); refine wl_load Tryz.underlying90 rfl info8r rfl rfl rfl (by (repeat (first | assumption | (with_reducible refine alloc_at ?_; (focus (first | omega | (simp; done) | (simp; omega)))) | (with_reducible refine boxed_at ?_; (focus (first | omega | (simp; done) | (simp; omega)))) | (with_reducible refine alloc_old ?_ ?_; (focus (first | omega | (simp; done) | (simp; omega)))) | (with_reducible refine boxed_old ?_ ?_; (focus (first | omega | (simp; done) | (simp; omega)))) | (with_reducible refine drew_old ?_)))) (by rfl) ?_)
                | (at_builtin; refine stop_here ?_))
              refine ⟨?_⟩
              refine wpList_append_cys cytyr rfl _ _ rfl (l0 := x1.l) (l := [⟨(x1.l.length : Int), dv, 10, 0, 0, 0, 0, false⟩]) (base := XW.heap.size) rfl rfl (own_kept HO5.out fun i hi => (alloc_block_old (by rw [boxed_size]; exact (HO5.out.lt i hi).2)).trans (boxed_block_other (by have := (HO5.out.lt i hi).1; omega))) (by have h9 := cys_one (boxed w5 (w.heap.size) (zz.arr (.slice A' x1.l.length c')) 39) ⟨(x1.l.length : Int), dv, 10, 0, 0, 0, 0, false⟩ 90; rw [boxed_size] at h9; exact h9) (by rw [List.length_singleton]; omega) (by rw [World.size_alloc, boxed_size]; omega) ?_
              intro v6 w6 ho6 hg6 hat6
              obtain ⟨L, hL⟩ : ∃ L, x1.l ++ [⟨(x1.l.length : Int), dv, 10, 0, 0, 0, 0, false⟩] = L := ⟨_, rfl⟩
              rw [hL] at ho6 HBT
              have HLL : Hid (L.length = x1.l.length + 1) := by
                show _ = _
                rw [← hL, List.length_append, List.length_singleton]
              clear hL
              obtain ⟨A6, c6, hv6, hc61, hc62⟩ := own_form ho6
              subst hv6
              have hP6 : w6.heap[w.heap.size]? = some (.cells (zz.arr (.slice A' x1.l.length c')) 39 (0, 0)) := (hg6.block w.heap.size (by rw [World.size_alloc, boxed_size]; omega) (fun e => by have := (HO5.out.lt _ e.symm).1; omega)).trans (alloc_old (by rw [boxed_size]; omega) (boxed_at hz55))
              have HG6 := Lib.hid hg6
              have HO6 := Lib.hid ho6
              have hz66 := hg6.size
              rw [World.size_alloc, boxed_size] at hz66
              have hz67 : w.heap.size < w6.heap.size := by omega
              have e6 := boxed_self hP6
              rw [e6]
              clear e6 hP6 hg6 ho6 hat6
              go_wp2_with (fail)
              go_roundw
              case rel =>
                refine ⟨j + 1, { zz with l := L }, A6, c6, by omega, by go_num, ?_, ⟨hzi.1, hzi.2⟩, hza, hzc, by show L.length ≤ _; have := HLL.out; omega, ?_, boxed_at (by omega), boxed_old (by omega) ?_, boxed_old (by omega) ?_, ?_, hc61, hc62⟩
                · show Sv.days N p y (4000 - (j + 1)) _ = R
                  rw [show 4000 - (j + 1) = 3999 - j by omega]
                  exact HBT.out
                · refine boxed_below ?_ (Nat.le_refl _)
                  have hq := HW5.out
                  refine ⟨HG6.out.os.trans hq.os, HG6.out.tape.trans hq.tape, HG6.out.output.trans hq.output, by have := hq.size; omega, fun i hi => ?_⟩
                  rw [HG6.out.block i (by rw [World.size_alloc, boxed_size]; have := hq.size; omega) (fun e => by have := (HO5.out.lt _ e.symm).1; omega), alloc_block_old (by rw [boxed_size]; have := hq.size; omega), boxed_block_other (by omega)]
                  exact hq.block i hi
                · exact (HG6.out.block _ (by rw [World.size_alloc, boxed_size]; omega) (fun e => by have := (HO5.out.lt _ e.symm).1; omega)).trans (alloc_old (by rw [boxed_size]; omega) (boxed_old (by omega) HQ5.out))
                · exact (HG6.out.block _ (by rw [World.size_alloc, boxed_size]; omega) (fun e => by have := (HO5.out.lt _ e.symm).1; omega)).trans (alloc_old (by rw [boxed_size]; omega) (boxed_old (by omega) HR5.out))
                · refine ⟨XW.heap.size, w6.heap.size, .inr (by omega), by simp, ?_⟩
                  exact (Cys.own HO6.out).kept fun i h1 _ => boxed_block_other (by omega)
              case measure => simp [intOf]; omega
          rw [if_neg h2] at HBO
          have e2 : (x1.st == 2) = false := by rw [beq_eq_false_iff_ne]; exact fun e => h2 (.inl e)
          obtain rfl : ms = false := by cases ms; rfl; exact absurd (.inr rfl) h2
          clear h2
          by_cases h4 : x1.sk = true
          · rw [if_pos h4] at HBO
            go_upto_region 31 with fail
            obtain ⟨zz, hzz⟩ : ∃ zz, ({ x1 with sk := false } : Sv) = zz := ⟨_, rfl⟩
            have hza : Hid (zz.an = s.an) := by rw [← hzz]; exact hS
            have hzi : 0 ≤ zz.ix ∧ zz.ix ≤ 15000 + ((j + 1 : Nat) : Int) := by rw [← hzz]; show 0 ≤ x1.ix ∧ x1.ix ≤ _; have := HX3.out; omega
            have hzc : -100000000000 ≤ zz.cr ∧ zz.cr ≤ 100000000000 := by rw [← hzz]; exact ⟨hcr0, hcr1⟩
            have HBT : Hid (Sv.days N p y (3999 - j) { zz with l := x1.l ++ [⟨(x1.l.length : Int), dv, 10, 0, 0, 0, 0, false⟩] } = R) := by rw [← hzz]; exact HBO
            have hzx : ∀ v, ({ x1 with sk := false } : Sv).arr v = zz.arr v := fun v => by rw [hzz]
            rw [hzx]
            clear hzz hzx HBO
            have HXL : Hid (Cyq b0 c0 w.heap.size ((boxed w3 w.heap.size (zz.arr (.slice A' x1.l.length c')) 39).alloc (.cells #[.int .i64 (x1.l.length : Int), .int .i64 dv, .int .u8 10, .int .i64 0, .int .i64 0, .int .i64 0, .int .i64 0, .bool false] 90)) (.slice A' x1.l.length c') x1.l) := HL3.out.kept (by simp) fun i h9 h8 => (alloc_block_old (by rw [boxed_size]; omega)).trans (boxed_block_other (by omega))
            have hX0 : ((boxed w3 w.heap.size (zz.arr (.slice A' x1.l.length c')) 39).alloc (.cells #[.int .i64 (x1.l.length : Int), .int .i64 dv, .int .u8 10, .int .i64 0, .int .i64 0, .int .i64 0, .int .i64 0, .bool false] 90)).heap[w.heap.size]? = some (.cells (zz.arr (.slice A' x1.l.length c')) 39 (0, 0)) := alloc_old (by rw [boxed_size]; omega) (boxed_at (by omega))
            have hX1 : ((boxed w3 w.heap.size (zz.arr (.slice A' x1.l.length c')) 39).alloc (.cells #[.int .i64 (x1.l.length : Int), .int .i64 dv, .int .u8 10, .int .i64 0, .int .i64 0, .int .i64 0, .int .i64 0, .bool false] 90)).heap[w.heap.size + 1]? = some (.cells p.arr 44 (0, 0)) := alloc_old (by rw [boxed_size]; omega) (boxed_old (by omega) hQ3)
            have hX2 : ((boxed w3 w.heap.size (zz.arr (.slice A' x1.l.length c')) 39).alloc (.cells #[.int .i64 (x1.l.length : Int), .int .i64 dv, .int .u8 10, .int .i64 0, .int .i64 0, .int .i64 0, .int .i64 0, .bool false] 90)).heap[w.heap.size + 1 + 1]? = some (.cells (Sv.zero.arr (.slice none 0 0)) 39 (0, 0)) := alloc_old (by rw [boxed_size]; omega) (boxed_old (by omega) hR3)
            have hX3 : ((boxed w3 w.heap.size (zz.arr (.slice A' x1.l.length c')) 39).alloc (.cells #[.int .i64 (x1.l.length : Int), .int .i64 dv, .int .u8 10, .int .i64 0, .int .i64 0, .int .i64 0, .int .i64 0, .bool false] 90)).heap[w3.heap.size]? = some (.cells #[.int .i64 (x1.l.length : Int), .int .i64 dv, .int .u8 10, .int .i64 0, .int .i64 0, .int .i64 0, .int .i64 0, .bool false] 90 (0, 0)) := alloc_at (by rw [boxed_size])
            have HXW : Hid (Below w.heap.size w ((boxed w3 w.heap.size (zz.arr (.slice A' x1.l.length c')) 39).alloc (.cells #[.int .i64 (x1.l.length : Int), .int .i64 dv, .int .u8 10, .int .i64 0, .int .i64 0, .int .i64 0, .int .i64 0, .bool false] 90))) := (boxed_below HW3.out (Nat.le_refl _)).alloc (by simp; omega) _
            have hXs : ((boxed w3 w.heap.size (zz.arr (.slice A' x1.l.length c')) 39).alloc (.cells #[.int .i64 (x1.l.length : Int), .int .i64 dv, .int .u8 10, .int .i64 0, .int .i64 0, .int .i64 0, .int .i64 0, .bool false] 90)).heap.size = w3.heap.size + 1 := by rw [World.size_alloc, boxed_size]
            obtain ⟨XW, hXW⟩ : ∃ XW, (boxed w3 w.heap.size (zz.arr (.slice A' x1.l.length c')) 39).alloc (.cells #[.int .i64 (x1.l.length : Int), .int .i64 dv, .int .u8 10, .int .i64 0, .int .i64 0, .int .i64 0, .int .i64 0, .bool false] 90) = XW := ⟨_, rfl⟩
            rw [hXW] at hX0 hX1 hX2 hX3 HXL HXW hXs ⊢
            clear hXW
            have hX9 := boxed_self hX0
            rw [hX9]
            clear hX9
            go_wp2_with (first
              | (at_builtin; refine wpList_append_cys cytyr rfl _ _ rfl (l0 := []) (base := XW.heap.size) rfl rfl (World.ownsRow_nil _ _ _ _) (HXL.out.kept (by simp) fun i h9 h8 => boxed_block_other (by omega)).whole (by simp; omega) (by simp) ?_; intro v5 w5 ho5 hg5 hat5; rw [List.nil_append] at ho5; obtain ⟨A5, c5, hv5, _, _⟩ := own_form ho5; subst hv5; have hb5 := grown_none hg5; have hs5 := hb5.size; rw [boxed_size] at hs5; have hP5 : w5.heap[w.heap.size]? = some (.cells (zz.arr (.slice A' x1.l.length c')) 39 (0, 0)) := below_block hb5 (boxed_at (by omega)); have HQ5 : Hid (w5.heap[w.heap.size + 1]? = some (.cells p.arr 44 (0, 0))) := below_block hb5 (boxed_old (by omega) hX1); have HR5 : Hid (w5.heap[w.heap.size + 1 + 1]? = some (.cells (Sv.zero.arr (.slice none 0 0)) 39 (0, 0))) := below_block hb5 (boxed_old (by omega) hX2); have hC5 : w5.heap[w3.heap.size]? = some (.cells #[.int .i64 (x1.l.length : Int), .int .i64 dv, .int .u8 10, .int .i64 0, .int .i64 0, .int .i64 0, .int .i64 0, .bool false] 90 (0, 0)) := below_block hb5 (boxed_old (by omega) hX3); have HO5 := Lib.hid ho5; have HW5 : Hid (Below w.heap.size w w5) := (boxed_below HXW.out (Nat.le_refl _)).trans (hb5.mono (by rw [boxed_size]; omega)); have hz55 : w.heap.size < w5.heap.size := (by omega); have e5 := boxed_self hP5; rw [e5]; clear e5 hb5 ho5 hg5 hat5 hP5)
              | ((with_reducible_and_instances (show wpList _ _ _ (Oper.mk _ (Op.load 90 _) _ _ _ _ :: _) _ _)); refine wl_load Tryz.underlying90 rfl info8r rfl rfl rfl (by (repeat (first | assumption | (with_reducible refine alloc_at ?_; (focus (first | omega | (simp; done) | (simp; omega)))) | (with_reducible refine boxed_at ?_; (focus (first | omega | (simp; done) | (simp; omega)))) | (with_reducible refine alloc_old ?_ ?_; (focus (first | omega | (simp; done) | (simp; omega)))) | (with_reducible refine boxed_old ?_ ?_; (focus (first | omega | (simp; done) | (simp; omega)))) | (with_reducible refine drew_old ?_)))) (by rfl) ?_)
              | (at_builtin; refine stop_here ?_))
            refine ⟨?_⟩
            refine wpList_append_cys cytyr rfl _ _ rfl (l0 := x1.l) (l := [⟨(x1.l.length : Int), dv, 10, 0, 0, 0, 0, false⟩]) (base := XW.heap.size) rfl rfl (own_kept HO5.out fun i hi => (alloc_block_old (by rw [boxed_size]; exact (HO5.out.lt i hi).2)).trans (boxed_block_other (by have := (HO5.out.lt i hi).1; omega))) (by have h9 := cys_one (boxed w5 (w.heap.size) (zz.arr (.slice A' x1.l.length c')) 39) ⟨(x1.l.length : Int), dv, 10, 0, 0, 0, 0, false⟩ 90; rw [boxed_size] at h9; exact h9) (by rw [List.length_singleton]; omega) (by rw [World.size_alloc, boxed_size]; omega) ?_
            intro v6 w6 ho6 hg6 hat6
            obtain ⟨L, hL⟩ : ∃ L, x1.l ++ [⟨(x1.l.length : Int), dv, 10, 0, 0, 0, 0, false⟩] = L := ⟨_, rfl⟩
            rw [hL] at ho6 HBT
            have HLL : Hid (L.length = x1.l.length + 1) := by
              show _ = _
              rw [← hL, List.length_append, List.length_singleton]
            clear hL
            obtain ⟨A6, c6, hv6, hc61, hc62⟩ := own_form ho6
            subst hv6
            have hP6 : w6.heap[w.heap.size]? = some (.cells (zz.arr (.slice A' x1.l.length c')) 39 (0, 0)) := (hg6.block w.heap.size (by rw [World.size_alloc, boxed_size]; omega) (fun e => by have := (HO5.out.lt _ e.symm).1; omega)).trans (alloc_old (by rw [boxed_size]; omega) (boxed_at hz55))
            have HG6 := Lib.hid hg6
            have HO6 := Lib.hid ho6
            have hz66 := hg6.size
            rw [World.size_alloc, boxed_size] at hz66
            have hz67 : w.heap.size < w6.heap.size := by omega
            have e6 := boxed_self hP6
            rw [e6]
            clear e6 hP6 hg6 ho6 hat6
            go_wp2_with (fail)
            go_roundw
            case rel =>
              refine ⟨j + 1, { zz with l := L }, A6, c6, by omega, by go_num, ?_, ⟨hzi.1, hzi.2⟩, hza, hzc, by show L.length ≤ _; have := HLL.out; omega, ?_, boxed_at (by omega), boxed_old (by omega) ?_, boxed_old (by omega) ?_, ?_, hc61, hc62⟩
              · show Sv.days N p y (4000 - (j + 1)) _ = R
                rw [show 4000 - (j + 1) = 3999 - j by omega]
                exact HBT.out
              · refine boxed_below ?_ (Nat.le_refl _)
                have hq := HW5.out
                refine ⟨HG6.out.os.trans hq.os, HG6.out.tape.trans hq.tape, HG6.out.output.trans hq.output, by have := hq.size; omega, fun i hi => ?_⟩
                rw [HG6.out.block i (by rw [World.size_alloc, boxed_size]; have := hq.size; omega) (fun e => by have := (HO5.out.lt _ e.symm).1; omega), alloc_block_old (by rw [boxed_size]; have := hq.size; omega), boxed_block_other (by omega)]
                exact hq.block i hi
              · exact (HG6.out.block _ (by rw [World.size_alloc, boxed_size]; omega) (fun e => by have := (HO5.out.lt _ e.symm).1; omega)).trans (alloc_old (by rw [boxed_size]; omega) (boxed_old (by omega) HQ5.out))
              · exact (HG6.out.block _ (by rw [World.size_alloc, boxed_size]; omega) (fun e => by have := (HO5.out.lt _ e.symm).1; omega)).trans (alloc_old (by rw [boxed_size]; omega) (boxed_old (by omega) HR5.out))
              · refine ⟨XW.heap.size, w6.heap.size, .inr (by omega), by simp, ?_⟩
                exact (Cys.own HO6.out).kept fun i h1 _ => boxed_block_other (by omega)
            case measure => simp [intOf]; omega
          rw [if_neg h4] at HBO
          have h4' : x1.sk = false := by cases h : x1.sk; rfl; exact absurd h h4
          have ew : wrap64 (p.a - x1.cr) = p.a - x1.cr := by have := HPA.out; unfold wrap64; omega
          have ew2 : wrap64 (-(p.a - x1.cr)) = -(p.a - x1.cr) := by have := HPA.out; unfold wrap64; omega
          by_cases h5 : p.a - x1.cr < 0
          · rw [if_pos h5] at HBO
            have d5 : decide (p.a - x1.cr < 0) = true := by simpa using h5
            have h9 := HPA.out
            obtain ⟨cy, hcy⟩ : ∃ cy, Cy.begin_ (x1.l.length : Int) dv 0 p.a p.g = cy := ⟨_, rfl⟩
            rw [hcy] at HBO
            have HCY := Lib.hid hcy
            have hbeg : Hid (∀ W : World, Calls Tryz.prog 68 #[.int .i64 (x1.l.length : Int), .int .i64 dv, .int .i64 0, .int .i64 p.a, .bool p.g] W fun e w' => e = .returned cy.val ∧ Below W.heap.size W w') := fun W => by
              have := refbegin_any (x1.l.length : Int) dv 0 p.a p.g W (by omega)
              rw [hcy] at this
              exact this
            have H5 := Lib.hid h5
            clear hcy h9 h5
            obtain ⟨n', q', f', a', u', t', x', g'⟩ := cy
            dsimp only [Cv.val, Cv.arr] at hbeg
            go_wp2_with (fail)
            refine (hbeg.out _).mono ?_
            rintro e w4 ⟨rfl, hb⟩
            obtain ⟨z8, hz8⟩ : ∃ z8, ({ x1 with cr := -(p.a - x1.cr), sk := false } : Sv) = z8 := ⟨_, rfl⟩
            have hP4 : w4.heap[w.heap.size]? = some (.cells (z8.arr (.slice A' x1.l.length c')) 39 (0, 0)) := by rw [← hz8]; exact below_block hb (alloc_old (by rw [boxed_size]; omega) (boxed_at (by omega)))
            have hQ4 : w4.heap[w.heap.size + 1]? = some (.cells p.arr 44 (0, 0)) := below_block hb (alloc_old (by rw [boxed_size]; omega) (boxed_old (by omega) hQ3))
            have hR4 : w4.heap[w.heap.size + 1 + 1]? = some (.cells (Sv.zero.arr (.slice none 0 0)) 39 (0, 0)) := below_block hb (alloc_old (by rw [boxed_size]; omega) (boxed_old (by omega) hR3))
            have hC4 : w4.heap[w3.heap.size]? = some (.cells #[.int .i64 (x1.l.length : Int), .int .i64 dv, .int .u8 10, .int .i64 0, .int .i64 0, .int .i64 0, .int .i64 0, .bool false] 90 (0, 0)) := below_block hb (alloc_at (by rw [boxed_size]))
            have hz9 : w3.heap.size + 1 ≤ w4.heap.size := by have := hb.size; rw [World.size_alloc, boxed_size] at this; exact this
            have HBK : Hid (∀ i, i < w3.heap.size → (i < w.heap.size ∨ w.heap.size + 1 + 1 + 1 ≤ i) → w4.heap[i]? = w3.heap[i]?) := fun i h9 h8 => (hb.block i (by rw [World.size_alloc, boxed_size]; omega)).trans ((alloc_block_old (by rw [boxed_size]; omega)).trans (boxed_block_other (by omega)))
            have HW4 : Hid (Below w.heap.size w w4) := ((boxed_below HW3.out (Nat.le_refl _)).alloc (by simp; omega) _).trans (hb.mono (by rw [World.size_alloc, boxed_size]; omega))
            have hP4x := boxed_self hP4
            rw [hP4x]
            clear hP4x hb hP4 q0 q1 q2 q3 q4 q5
            have hz40 : w.heap.size < w4.heap.size := by omega
            go_upto_region 31 with (first | ((with_reducible_and_instances (show wpList _ _ _ (Oper.mk _ (Op.store 90 _ _) _ _ _ _ :: _) _ _)); refine wl_store info8r rfl rfl rfl rfl (by (repeat (first | assumption | (with_reducible refine alloc_at ?_; (focus (first | omega | (simp; done) | (simp; omega)))) | (with_reducible refine boxed_at ?_; (focus (first | omega | (simp; done) | (simp; omega)))) | (with_reducible refine alloc_old ?_ ?_; (focus (first | omega | (simp; done) | (simp; omega)))) | (with_reducible refine boxed_old ?_ ?_; (focus (first | omega | (simp; done) | (simp; omega)))) | (with_reducible refine drew_old ?_)))) (by rfl) (by rfl) (by first | exact Cv.arr_one _ | exact Nv.arr_one _ | exact Av.arr_one rfl | exact Sv.arr_one rfl | exact Pv.arr_one _ | simp [Value.oneCell']) ?_))
            obtain ⟨zz, hzz⟩ : ∃ zz, ({ z8 with sk := false } : Sv) = zz := ⟨_, rfl⟩
            have hza : Hid (zz.an = s.an) := by rw [← hzz, ← hz8]; exact hS
            have hzi : 0 ≤ zz.ix ∧ zz.ix ≤ 15000 + ((j + 1 : Nat) : Int) := by rw [← hzz, ← hz8]; show 0 ≤ x1.ix ∧ x1.ix ≤ _; have := HX3.out; omega
            have hzc : -100000000000 ≤ zz.cr ∧ zz.cr ≤ 100000000000 := by rw [← hzz, ← hz8]; show -100000000000 ≤ -(p.a - x1.cr) ∧ -(p.a - x1.cr) ≤ 100000000000; have := HPA.out; have := H5.out; omega
            have HBT : Hid (Sv.days N p y (3999 - j) { zz with l := x1.l ++ [⟨n', q', f', a', u', t', x', g'⟩] } = R) := by
              show _ = R
              rw [← HBO.out, ← hzz, ← hz8]
              exact congrArg (Sv.days N p y (3999 - j)) (by rw [Sv.mk.injEq]; exact ⟨rfl, rfl, rfl, rfl, by show -(p.a - x1.cr) = x1.cr - p.a; omega, h4'.symm, rfl⟩)
            rw [hzz]
            clear hzz hz8 HBO
            have HXL : Hid (Cyq b0 c0 w.heap.size (boxed (boxed w4 w.heap.size (zz.arr (.slice A' x1.l.length c')) 39) w3.heap.size #[.int .i64 n', .int .i64 q', .int .u8 f', .int .i64 a', .int .i64 u', .int .i64 t', .int .i64 x', .bool g'] 90) (.slice A' x1.l.length c') x1.l) := by
              obtain ⟨b9, c9, hap9, hc9, hcys9⟩ := HL3.out
              refine ⟨b9, c9, hap9, by simp only [boxed_size]; omega, hcys9.kept fun i h8 h9 => ?_⟩
              rw [boxed_block_other (by omega), boxed_block_other (by omega)]
              exact HBK.out i (by omega) (by omega)
            have hX0 : (boxed (boxed w4 w.heap.size (zz.arr (.slice A' x1.l.length c')) 39) w3.heap.size #[.int .i64 n', .int .i64 q', .int .u8 f', .int .i64 a', .int .i64 u', .int .i64 t', .int .i64 x', .bool g'] 90).heap[w.heap.size]? = some (.cells (zz.arr (.slice A' x1.l.length c')) 39 (0, 0)) := boxed_old (by omega) (boxed_at (by omega))
            have hX1 : (boxed (boxed w4 w.heap.size (zz.arr (.slice A' x1.l.length c')) 39) w3.heap.size #[.int .i64 n', .int .i64 q', .int .u8 f', .int .i64 a', .int .i64 u', .int .i64 t', .int .i64 x', .bool g'] 90).heap[w.heap.size + 1]? = some (.cells p.arr 44 (0, 0)) := boxed_old (by omega) (boxed_old (by omega) hQ4)
            have hX2 : (boxed (boxed w4 w.heap.size (zz.arr (.slice A' x1.l.length c')) 39) w3.heap.size #[.int .i64 n', .int .i64 q', .int .u8 f', .int .i64 a', .int .i64 u', .int .i64 t', .int .i64 x', .bool g'] 90).heap[w.heap.size + 1 + 1]? = some (.cells (Sv.zero.arr (.slice none 0 0)) 39 (0, 0)) := boxed_old (by omega) (boxed_old (by omega) hR4)
            have hX3 : (boxed (boxed w4 w.heap.size (zz.arr (.slice A' x1.l.length c')) 39) w3.heap.size #[.int .i64 n', .int .i64 q', .int .u8 f', .int .i64 a', .int .i64 u', .int .i64 t', .int .i64 x', .bool g'] 90).heap[w3.heap.size]? = some (.cells #[.int .i64 n', .int .i64 q', .int .u8 f', .int .i64 a', .int .i64 u', .int .i64 t', .int .i64 x', .bool g'] 90 (0, 0)) := boxed_at (by rw [boxed_size]; omega)
            have HXW : Hid (Below w.heap.size w (boxed (boxed w4 w.heap.size (zz.arr (.slice A' x1.l.length c')) 39) w3.heap.size #[.int .i64 n', .int .i64 q', .int .u8 f', .int .i64 a', .int .i64 u', .int .i64 t', .int .i64 x', .bool g'] 90)) := boxed_below (boxed_below HW4.out (Nat.le_refl _)) (by omega)
            have hXs : (boxed (boxed w4 w.heap.size (zz.arr (.slice A' x1.l.length c')) 39) w3.heap.size #[.int .i64 n', .int .i64 q', .int .u8 f', .int .i64 a', .int .i64 u', .int .i64 t', .int .i64 x', .bool g'] 90).heap.size = w4.heap.size := by simp only [boxed_size]
            obtain ⟨XW, hXW⟩ : ∃ XW, boxed (boxed w4 w.heap.size (zz.arr (.slice A' x1.l.length c')) 39) w3.heap.size #[.int .i64 n', .int .i64 q', .int .u8 f', .int .i64 a', .int .i64 u', .int .i64 t', .int .i64 x', .bool g'] 90 = XW := ⟨_, rfl⟩
            rw [hXW] at hX0 hX1 hX2 hX3 HXL HXW hXs ⊢
            clear hXW
            have hX9 := boxed_self hX0
            rw [hX9]
            clear hX9
            go_wp2_with (first
              | (at_builtin; refine wpList_append_cys cytyr rfl _ _ rfl (l0 := []) (base := XW.heap.size) rfl rfl (World.ownsRow_nil _ _ _ _) (HXL.out.kept (by simp) fun i h9 h8 => boxed_block_other (by omega)).whole (by simp; omega) (by simp) ?_; intro v5 w5 ho5 hg5 hat5; rw [List.nil_append] at ho5; obtain ⟨A5, c5, hv5, _, _⟩ := own_form ho5; subst hv5; have hb5 := grown_none hg5; have hs5 := hb5.size; rw [boxed_size] at hs5; have hP5 : w5.heap[w.heap.size]? = some (.cells (zz.arr (.slice A' x1.l.length c')) 39 (0, 0)) := below_block hb5 (boxed_at (by omega)); have HQ5 : Hid (w5.heap[w.heap.size + 1]? = some (.cells p.arr 44 (0, 0))) := below_block hb5 (boxed_old (by omega) hX1); have HR5 : Hid (w5.heap[w.heap.size + 1 + 1]? = some (.cells (Sv.zero.arr (.slice none 0 0)) 39 (0, 0))) := below_block hb5 (boxed_old (by omega) hX2); have hC5 : w5.heap[w3.heap.size]? = some (.cells #[.int .i64 n', .int .i64 q', .int .u8 f', .int .i64 a', .int .i64 u', .int .i64 t', .int .i64 x', .bool g'] 90 (0, 0)) := below_block hb5 (boxed_old (by omega) hX3); have HO5 := Lib.hid ho5; have HW5 : Hid (Below w.heap.size w w5) := (boxed_below HXW.out (Nat.le_refl _)).trans (hb5.mono (by rw [boxed_size]; omega)); have hz55 : w.heap.size < w5.heap.size := (by omega); have e5 := boxed_self hP5; rw [e5]; clear e5 hb5 ho5 hg5 hat5 hP5)
              | ((with_reducible_and_instances (show wpList _ _ _ (Oper.mk _ (Op.load 90 _) _ _ _ _ :: _) _ _)); refine wl_load Tryz.underlying90 rfl info8r rfl rfl rfl (by (repeat (first | assumption | (with_reducible refine alloc_at ?_; (focus (first | omega | (simp; done) | (simp; omega)))) | (with_reducible refine boxed_at ?_; (focus (first | omega | (simp; done) | (simp; omega)))) | (with_reducible refine alloc_old ?_ ?_; (focus (first | omega | (simp; done) | (simp; omega)))) | (with_reducible refine boxed_old ?_ ?_; (focus (first | omega | (simp; done) | (simp; omega)))) | (with_reducible refine drew_old ?_)))) (by rfl) ?_)
              | (at_builtin; refine stop_here ?_))
            refine ⟨?_⟩
            refine wpList_append_cys cytyr rfl _ _ rfl (l0 := x1.l) (l := [⟨n', q', f', a', u', t', x', g'⟩]) (base := XW.heap.size) rfl rfl (own_kept HO5.out fun i hi => (alloc_block_old (by rw [boxed_size]; exact (HO5.out.lt i hi).2)).trans (boxed_block_other (by have := (HO5.out.lt i hi).1; omega))) (by have h9 := cys_one (boxed w5 (w.heap.size) (zz.arr (.slice A' x1.l.length c')) 39) ⟨n', q', f', a', u', t', x', g'⟩ 90; rw [boxed_size] at h9; exact h9) (by rw [List.length_singleton]; omega) (by rw [World.size_alloc, boxed_size]; omega) ?_
            intro v6 w6 ho6 hg6 hat6
            obtain ⟨L, hL⟩ : ∃ L, x1.l ++ [⟨n', q', f', a', u', t', x', g'⟩] = L := ⟨_, rfl⟩
            rw [hL] at ho6 HBT
            have HLL : Hid (L.length = x1.l.length + 1) := by
              show _ = _
              rw [← hL, List.length_append, List.length_singleton]
            clear hL
            obtain ⟨A6, c6, hv6, hc61, hc62⟩ := own_form ho6
            subst hv6
            have hP6 : w6.heap[w.heap.size]? = some (.cells (zz.arr (.slice A' x1.l.length c')) 39 (0, 0)) := (hg6.block w.heap.size (by rw [World.size_alloc, boxed_size]; omega) (fun e => by have := (HO5.out.lt _ e.symm).1; omega)).trans (alloc_old (by rw [boxed_size]; omega) (boxed_at hz55))
            have HG6 := Lib.hid hg6
            have HO6 := Lib.hid ho6
            have hz66 := hg6.size
            rw [World.size_alloc, boxed_size] at hz66
            have hz67 : w.heap.size < w6.heap.size := by omega
            have e6 := boxed_self hP6
            rw [e6]
            clear e6 hP6 hg6 ho6 hat6
            go_wp2_with (fail)
            go_roundw
            case rel =>
              refine ⟨j + 1, { zz with l := L }, A6, c6, by omega, by go_num, ?_, ⟨hzi.1, hzi.2⟩, hza, hzc, by show L.length ≤ _; have := HLL.out; omega, ?_, boxed_at (by omega), boxed_old (by omega) ?_, boxed_old (by omega) ?_, ?_, hc61, hc62⟩
              · show Sv.days N p y (4000 - (j + 1)) _ = R
                rw [show 4000 - (j + 1) = 3999 - j by omega]
                exact HBT.out
              · refine boxed_below ?_ (Nat.le_refl _)
                have hq := HW5.out
                refine ⟨HG6.out.os.trans hq.os, HG6.out.tape.trans hq.tape, HG6.out.output.trans hq.output, by have := hq.size; omega, fun i hi => ?_⟩
                rw [HG6.out.block i (by rw [World.size_alloc, boxed_size]; have := hq.size; omega) (fun e => by have := (HO5.out.lt _ e.symm).1; omega), alloc_block_old (by rw [boxed_size]; have := hq.size; omega), boxed_block_other (by omega)]
                exact hq.block i hi
              · exact (HG6.out.block _ (by rw [World.size_alloc, boxed_size]; omega) (fun e => by have := (HO5.out.lt _ e.symm).1; omega)).trans (alloc_old (by rw [boxed_size]; omega) (boxed_old (by omega) HQ5.out))
              · exact (HG6.out.block _ (by rw [World.size_alloc, boxed_size]; omega) (fun e => by have := (HO5.out.lt _ e.symm).1; omega)).trans (alloc_old (by rw [boxed_size]; omega) (boxed_old (by omega) HR5.out))
              · refine ⟨XW.heap.size, w6.heap.size, .inr (by omega), by simp, ?_⟩
                exact (Cys.own HO6.out).kept fun i h1 _ => boxed_block_other (by omega)
            case measure => simp [intOf]; omega
          rw [if_neg h5] at HBO
          have d5 : decide (p.a - x1.cr < 0) = false := by simpa using h5
          have h9 := HPA.out
          obtain ⟨cy, hcy⟩ : ∃ cy, Cy.begin_ (x1.l.length : Int) dv (p.a - x1.cr) x1.cr p.g = cy := ⟨_, rfl⟩
          rw [hcy] at HBO
          have HCY := Lib.hid hcy
          have hbeg : Hid (∀ W : World, Calls Tryz.prog 68 #[.int .i64 (x1.l.length : Int), .int .i64 dv, .int .i64 (p.a - x1.cr), .int .i64 x1.cr, .bool p.g] W fun e w' => e = .returned cy.val ∧ Below W.heap.size W w') := fun W => by
            have := refbegin_any (x1.l.length : Int) dv (p.a - x1.cr) x1.cr p.g W (by omega)
            rw [hcy] at this
            exact this
          have H5 := Lib.hid h5
          clear hcy h9 h5
          obtain ⟨n', q', f', a', u', t', x', g'⟩ := cy
          dsimp only [Cv.val, Cv.arr] at hbeg
          go_wp2_with (fail)
          refine (hbeg.out _).mono ?_
          rintro e w4 ⟨rfl, hb⟩
          obtain ⟨z8, hz8⟩ : ∃ z8, ({ x1 with cr := 0, sk := false } : Sv) = z8 := ⟨_, rfl⟩
          have hP4 : w4.heap[w.heap.size]? = some (.cells (z8.arr (.slice A' x1.l.length c')) 39 (0, 0)) := by rw [← hz8]; exact below_block hb (alloc_old (by rw [boxed_size]; omega) (boxed_at (by omega)))
          have hQ4 : w4.heap[w.heap.size + 1]? = some (.cells p.arr 44 (0, 0)) := below_block hb (alloc_old (by rw [boxed_size]; omega) (boxed_old (by omega) hQ3))
          have hR4 : w4.heap[w.heap.size + 1 + 1]? = some (.cells (Sv.zero.arr (.slice none 0 0)) 39 (0, 0)) := below_block hb (alloc_old (by rw [boxed_size]; omega) (boxed_old (by omega) hR3))
          have hC4 : w4.heap[w3.heap.size]? = some (.cells #[.int .i64 (x1.l.length : Int), .int .i64 dv, .int .u8 10, .int .i64 0, .int .i64 0, .int .i64 0, .int .i64 0, .bool false] 90 (0, 0)) := below_block hb (alloc_at (by rw [boxed_size]))
          have hz9 : w3.heap.size + 1 ≤ w4.heap.size := by have := hb.size; rw [World.size_alloc, boxed_size] at this; exact this
          have HBK : Hid (∀ i, i < w3.heap.size → (i < w.heap.size ∨ w.heap.size + 1 + 1 + 1 ≤ i) → w4.heap[i]? = w3.heap[i]?) := fun i h9 h8 => (hb.block i (by rw [World.size_alloc, boxed_size]; omega)).trans ((alloc_block_old (by rw [boxed_size]; omega)).trans (boxed_block_other (by omega)))
          have HW4 : Hid (Below w.heap.size w w4) := ((boxed_below HW3.out (Nat.le_refl _)).alloc (by simp; omega) _).trans (hb.mono (by rw [World.size_alloc, boxed_size]; omega))
          have hP4x := boxed_self hP4
          rw [hP4x]
          clear hP4x hb hP4 q0 q1 q2 q3 q4 q5
          have hz40 : w.heap.size < w4.heap.size := by omega
          go_upto_region 31 with (first | ((with_reducible_and_instances (show wpList _ _ _ (Oper.mk _ (Op.store 90 _ _) _ _ _ _ :: _) _ _)); refine wl_store info8r rfl rfl rfl rfl (by (repeat (first | assumption | (with_reducible refine alloc_at ?_; (focus (first | omega | (simp; done) | (simp; omega)))) | (with_reducible refine boxed_at ?_; (focus (first | omega | (simp; done) | (simp; omega)))) | (with_reducible refine alloc_old ?_ ?_; (focus (first | omega | (simp; done) | (simp; omega)))) | (with_reducible refine boxed_old ?_ ?_; (focus (first | omega | (simp; done) | (simp; omega)))) | (with_reducible refine drew_old ?_)))) (by rfl) (by rfl) (by first | exact Cv.arr_one _ | exact Nv.arr_one _ | exact Av.arr_one rfl | exact Sv.arr_one rfl | exact Pv.arr_one _ | simp [Value.oneCell']) ?_))
          obtain ⟨zz, hzz⟩ : ∃ zz, ({ z8 with sk := false } : Sv) = zz := ⟨_, rfl⟩
          have hza : Hid (zz.an = s.an) := by rw [← hzz, ← hz8]; exact hS
          have hzi : 0 ≤ zz.ix ∧ zz.ix ≤ 15000 + ((j + 1 : Nat) : Int) := by rw [← hzz, ← hz8]; show 0 ≤ x1.ix ∧ x1.ix ≤ _; have := HX3.out; omega
          have hzc : -100000000000 ≤ zz.cr ∧ zz.cr ≤ 100000000000 := by rw [← hzz, ← hz8]; show -100000000000 ≤ 0 ∧ 0 ≤ 100000000000; have := HPA.out; have := H5.out; omega
          have HBT : Hid (Sv.days N p y (3999 - j) { zz with l := x1.l ++ [⟨n', q', f', a', u', t', x', g'⟩] } = R) := by
            show _ = R
            rw [← HBO.out, ← hzz, ← hz8]
            exact congrArg (Sv.days N p y (3999 - j)) (by rw [Sv.mk.injEq]; exact ⟨rfl, rfl, rfl, rfl, by show 0 = 0; omega, h4'.symm, rfl⟩)
          rw [hzz]
          clear hzz hz8 HBO
          have HXL : Hid (Cyq b0 c0 w.heap.size (boxed (boxed w4 w.heap.size (zz.arr (.slice A' x1.l.length c')) 39) w3.heap.size #[.int .i64 n', .int .i64 q', .int .u8 f', .int .i64 a', .int .i64 u', .int .i64 t', .int .i64 x', .bool g'] 90) (.slice A' x1.l.length c') x1.l) := by
            obtain ⟨b9, c9, hap9, hc9, hcys9⟩ := HL3.out
            refine ⟨b9, c9, hap9, by simp only [boxed_size]; omega, hcys9.kept fun i h8 h9 => ?_⟩
            rw [boxed_block_other (by omega), boxed_block_other (by omega)]
            exact HBK.out i (by omega) (by omega)
          have hX0 : (boxed (boxed w4 w.heap.size (zz.arr (.slice A' x1.l.length c')) 39) w3.heap.size #[.int .i64 n', .int .i64 q', .int .u8 f', .int .i64 a', .int .i64 u', .int .i64 t', .int .i64 x', .bool g'] 90).heap[w.heap.size]? = some (.cells (zz.arr (.slice A' x1.l.length c')) 39 (0, 0)) := boxed_old (by omega) (boxed_at (by omega))
          have hX1 : (boxed (boxed w4 w.heap.size (zz.arr (.slice A' x1.l.length c')) 39) w3.heap.size #[.int .i64 n', .int .i64 q', .int .u8 f', .int .i64 a', .int .i64 u', .int .i64 t', .int .i64 x', .bool g'] 90).heap[w.heap.size + 1]? = some (.cells p.arr 44 (0, 0)) := boxed_old (by omega) (boxed_old (by omega) hQ4)
          have hX2 : (boxed (boxed w4 w.heap.size (zz.arr (.slice A' x1.l.length c')) 39) w3.heap.size #[.int .i64 n', .int .i64 q', .int .u8 f', .int .i64 a', .int .i64 u', .int .i64 t', .int .i64 x', .bool g'] 90).heap[w.heap.size + 1 + 1]? = some (.cells (Sv.zero.arr (.slice none 0 0)) 39 (0, 0)) := boxed_old (by omega) (boxed_old (by omega) hR4)
          have hX3 : (boxed (boxed w4 w.heap.size (zz.arr (.slice A' x1.l.length c')) 39) w3.heap.size #[.int .i64 n', .int .i64 q', .int .u8 f', .int .i64 a', .int .i64 u', .int .i64 t', .int .i64 x', .bool g'] 90).heap[w3.heap.size]? = some (.cells #[.int .i64 n', .int .i64 q', .int .u8 f', .int .i64 a', .int .i64 u', .int .i64 t', .int .i64 x', .bool g'] 90 (0, 0)) := boxed_at (by rw [boxed_size]; omega)
          have HXW : Hid (Below w.heap.size w (boxed (boxed w4 w.heap.size (zz.arr (.slice A' x1.l.length c')) 39) w3.heap.size #[.int .i64 n', .int .i64 q', .int .u8 f', .int .i64 a', .int .i64 u', .int .i64 t', .int .i64 x', .bool g'] 90)) := boxed_below (boxed_below HW4.out (Nat.le_refl _)) (by omega)
          have hXs : (boxed (boxed w4 w.heap.size (zz.arr (.slice A' x1.l.length c')) 39) w3.heap.size #[.int .i64 n', .int .i64 q', .int .u8 f', .int .i64 a', .int .i64 u', .int .i64 t', .int .i64 x', .bool g'] 90).heap.size = w4.heap.size := by simp only [boxed_size]
          obtain ⟨XW, hXW⟩ : ∃ XW, boxed (boxed w4 w.heap.size (zz.arr (.slice A' x1.l.length c')) 39) w3.heap.size #[.int .i64 n', .int .i64 q', .int .u8 f', .int .i64 a', .int .i64 u', .int .i64 t', .int .i64 x', .bool g'] 90 = XW := ⟨_, rfl⟩
          rw [hXW] at hX0 hX1 hX2 hX3 HXL HXW hXs ⊢
          clear hXW
          have hX9 := boxed_self hX0
          rw [hX9]
          clear hX9
          go_wp2_with (first
            | (at_builtin; refine wpList_append_cys cytyr rfl _ _ rfl (l0 := []) (base := XW.heap.size) rfl rfl (World.ownsRow_nil _ _ _ _) (HXL.out.kept (by simp) fun i h9 h8 => boxed_block_other (by omega)).whole (by simp; omega) (by simp) ?_; intro v5 w5 ho5 hg5 hat5; rw [List.nil_append] at ho5; obtain ⟨A5, c5, hv5, _, _⟩ := own_form ho5; subst hv5; have hb5 := grown_none hg5; have hs5 := hb5.size; rw [boxed_size] at hs5; have hP5 : w5.heap[w.heap.size]? = some (.cells (zz.arr (.slice A' x1.l.length c')) 39 (0, 0)) := below_block hb5 (boxed_at (by omega)); have HQ5 : Hid (w5.heap[w.heap.size + 1]? = some (.cells p.arr 44 (0, 0))) := below_block hb5 (boxed_old (by omega) hX1); have HR5 : Hid (w5.heap[w.heap.size + 1 + 1]? = some (.cells (Sv.zero.arr (.slice none 0 0)) 39 (0, 0))) := below_block hb5 (boxed_old (by omega) hX2); have hC5 : w5.heap[w3.heap.size]? = some (.cells #[.int .i64 n', .int .i64 q', .int .u8 f', .int .i64 a', .int .i64 u', .int .i64 t', .int .i64 x', .bool g'] 90 (0, 0)) := below_block hb5 (boxed_old (by omega) hX3); have HO5 := Lib.hid ho5; have HW5 : Hid (Below w.heap.size w w5) := (boxed_below HXW.out (Nat.le_refl _)).trans (hb5.mono (by rw [boxed_size]; omega)); have hz55 : w.heap.size < w5.heap.size := (by omega); have e5 := boxed_self hP5; rw [e5]; clear e5 hb5 ho5 hg5 hat5 hP5)
            | ((with_reducible_and_instances (show wpList _ _ _ (Oper.mk _ (Op.load 90 _) _ _ _ _ :: _) _ _)); refine wl_load Tryz.underlying90 rfl info8r rfl rfl rfl (by (repeat (first | assumption | (with_reducible refine alloc_at ?_; (focus (first | omega | (simp; done) | (simp; omega)))) | (with_reducible refine boxed_at ?_; (focus (first | omega | (simp; done) | (simp; omega)))) | (with_reducible refine alloc_old ?_ ?_; (focus (first | omega | (simp; done) | (simp; omega)))) | (with_reducible refine boxed_old ?_ ?_; (focus (first | omega | (simp; done) | (simp; omega)))) | (with_reducible refine drew_old ?_)))) (by rfl) ?_)
            | (at_builtin; refine stop_here ?_))
          refine ⟨?_⟩
          refine wpList_append_cys cytyr rfl _ _ rfl (l0 := x1.l) (l := [⟨n', q', f', a', u', t', x', g'⟩]) (base := XW.heap.size) rfl rfl (own_kept HO5.out fun i hi => (alloc_block_old (by rw [boxed_size]; exact (HO5.out.lt i hi).2)).trans (boxed_block_other (by have := (HO5.out.lt i hi).1; omega))) (by have h9 := cys_one (boxed w5 (w.heap.size) (zz.arr (.slice A' x1.l.length c')) 39) ⟨n', q', f', a', u', t', x', g'⟩ 90; rw [boxed_size] at h9; exact h9) (by rw [List.length_singleton]; omega) (by rw [World.size_alloc, boxed_size]; omega) ?_
          intro v6 w6 ho6 hg6 hat6
          obtain ⟨L, hL⟩ : ∃ L, x1.l ++ [⟨n', q', f', a', u', t', x', g'⟩] = L := ⟨_, rfl⟩
          rw [hL] at ho6 HBT
          have HLL : Hid (L.length = x1.l.length + 1) := by
            show _ = _
            rw [← hL, List.length_append, List.length_singleton]
          clear hL
          obtain ⟨A6, c6, hv6, hc61, hc62⟩ := own_form ho6
          subst hv6
          have hP6 : w6.heap[w.heap.size]? = some (.cells (zz.arr (.slice A' x1.l.length c')) 39 (0, 0)) := (hg6.block w.heap.size (by rw [World.size_alloc, boxed_size]; omega) (fun e => by have := (HO5.out.lt _ e.symm).1; omega)).trans (alloc_old (by rw [boxed_size]; omega) (boxed_at hz55))
          have HG6 := Lib.hid hg6
          have HO6 := Lib.hid ho6
          have hz66 := hg6.size
          rw [World.size_alloc, boxed_size] at hz66
          have hz67 : w.heap.size < w6.heap.size := by omega
          have e6 := boxed_self hP6
          rw [e6]
          clear e6 hP6 hg6 ho6 hat6
          go_wp2_with (fail)
          go_roundw
          case rel =>
            refine ⟨j + 1, { zz with l := L }, A6, c6, by omega, by go_num, ?_, ⟨hzi.1, hzi.2⟩, hza, hzc, by show L.length ≤ _; have := HLL.out; omega, ?_, boxed_at (by omega), boxed_old (by omega) ?_, boxed_old (by omega) ?_, ?_, hc61, hc62⟩
            · show Sv.days N p y (4000 - (j + 1)) _ = R
              rw [show 4000 - (j + 1) = 3999 - j by omega]
              exact HBT.out
            · refine boxed_below ?_ (Nat.le_refl _)
              have hq := HW5.out
              refine ⟨HG6.out.os.trans hq.os, HG6.out.tape.trans hq.tape, HG6.out.output.trans hq.output, by have := hq.size; omega, fun i hi => ?_⟩
              rw [HG6.out.block i (by rw [World.size_alloc, boxed_size]; have := hq.size; omega) (fun e => by have := (HO5.out.lt _ e.symm).1; omega), alloc_block_old (by rw [boxed_size]; have := hq.size; omega), boxed_block_other (by omega)]
              exact hq.block i hi
            · exact (HG6.out.block _ (by rw [World.size_alloc, boxed_size]; omega) (fun e => by have := (HO5.out.lt _ e.symm).1; omega)).trans (alloc_old (by rw [boxed_size]; omega) (boxed_old (by omega) HQ5.out))
            · exact (HG6.out.block _ (by rw [World.size_alloc, boxed_size]; omega) (fun e => by have := (HO5.out.lt _ e.symm).1; omega)).trans (alloc_old (by rw [boxed_size]; omega) (boxed_old (by omega) HR5.out))
            · refine ⟨XW.heap.size, w6.heap.size, .inr (by omega), by simp, ?_⟩
              exact (Cys.own HO6.out).kept fun i h1 _ => boxed_block_other (by omega)
          case measure => simp [intOf]; omega
    obtain ⟨z, hz⟩ : ∃ z, s.l[j]? = some z := ⟨s.l[j], List.getElem?_eq_getElem hlt⟩
    have huz := HU.out z (List.mem_of_getElem? hz)
    obtain ⟨b, cc, hap, hcc, hcys⟩ := HL.out
    have hat := woken_at (f := fun c => c.wake y) hz
    obtain ⟨gg, oo, cap, hv, hjl, _, _, hbg, hgc, hr⟩ := hcys.at_ hat
    rw [woken_len] at hv hjl
    injection hv with hA _ hcap'
    subst hA hcap'
    have k0 : (0 : Int) ≤ (j : Int) := by omega
    have k1 : (j : Int) < (s.l.length : Int) := by omega
    have HZ := Lib.hid hz
    have HY := Lib.hid hcys
    have HX := Lib.hid hap
    obtain ⟨n, q, f, a, u, t, x, g⟩ := z
    obtain ⟨⟨hu0, hu1⟩, ht0, ht1⟩ := huz
    dsimp only at hu0 hu1 ht0 ht1
    have p2 : wr.cell? ⟨gg, oo + j * 8 + 2, none⟩ = some (.int .u8 f) := hr 2 _ rfl
    have p6 : wr.cell? ⟨gg, oo + j * 8 + 6, none⟩ = some (.int .i64 x) := hr 6 _ rfl
    have HRC := Lib.hid hr
    have hP1 := HP.out
    obtain ⟨s0, s1, s2, s3, s4, s5, s6⟩ := scells hP1
    have HAT2 := Lib.hid hat
    clear hz hat hr hap hcys HL hP1
    by_cases hw : f = 2 ∧ x ≤ y
    case neg =>
      have hsame : Cv.wake ⟨n, q, f, a, u, t, x, g⟩ y = ⟨n, q, f, a, u, t, x, g⟩ := by
        unfold Cv.wake
        split
        · rfl
        · rename_i h9
          exact card_no (fun e => hw ⟨e, by dsimp only at h9; omega⟩)
      have HSM := Lib.hid hsame
      have hways : (f == 2) = false ∨ ((f == 2) = true ∧ decide (y ≥ x) = false ∧ decide (x ≤ y) = false) := by
        by_cases e : f = 2
        · exact .inr ⟨by simpa using e, by simp; omega, by simp; omega⟩
        · exact .inl (by simpa using e)
      clear hsame hw
      rcases hways with e2 | ⟨e2, ex, ex'⟩
      all_goals
        go_wp2
        go_roundw
        case rel => exact ⟨j + 1, _, c', by omega, by go_num, HW, HP, HQ, HR, by rw [woken_same (f := fun c => c.wake y) HZ.out HSM.out]; exact ⟨b, cc, HX.out, hcc, HY.out⟩, hc1, hc2⟩
        case measure => simp [intOf]; omega
    obtain ⟨rfl, hxy⟩ := hw
    have dxy : decide (y ≥ x) = true := by simpa using hxy
    have dxy' : decide (x ≤ y) = true := by simpa using hxy
    have hwk : Cv.wake ⟨n, q, 2, a, u, t, x, g⟩ y = ⟨n, q, 1, a, u, t + 1, 0, g⟩ := by
      unfold Cv.wake
      rw [if_neg (by dsimp only; omega)]
      exact card_yes
    have hset := woken_next (f := fun c => c.wake y) HZ.out
    rw [hwk] at hset
    have HCH : Hid (∀ w2 : World, Cys w2 0 w2.heap.size (.slice (some ⟨gg, oo, none⟩) s.l.length c') (woken s.l (fun c => c.wake y) j) → Calls Tryz.prog 35 #[.agg (s.arr (.slice (some ⟨gg, oo, none⟩) s.l.length c')), .int .i64 j, .agg #[.int .i64 n, .int .i64 q, .int .u8 1, .int .i64 a, .int .i64 u, .int .i64 (t + 1), .int .i64 0, .bool g]] w2 fun e w' => ∃ v', e = .returned (.agg (s.arr v')) ∧ Cys w' w2.heap.size w'.heap.size v' (woken s.l (fun c => c.wake y) (j + 1)) ∧ Below w2.heap.size w2 w') := fun w2 hq => by
      have h9 := refchange_s (s := { s with l := woken s.l (fun c => c.wake y) j }) (k := j) (c := ⟨n, q, 1, a, u, t + 1, 0, g⟩) (c0 := ⟨n, q, 2, a, u, t, x, g⟩) hq HAT2.out (by rw [woken_len]; omega) ⟨by dsimp only; omega, by dsimp only; omega⟩ ⟨by dsimp only; omega, by dsimp only; omega⟩
      rw [show Cy.gain ({ s with l := woken s.l (fun c => c.wake y) j } : Sv).cr ⟨n, q, 2, a, u, t, x, g⟩ ⟨n, q, 1, a, u, t + 1, 0, g⟩ = s.cr from if_neg (fun h => by have := h.1; dsimp only at this; omega)] at h9
      dsimp only at h9
      rw [hset] at h9
      exact h9
    have ht2 : -9223372036854775808 ≤ t := by omega
    have ht3 : t < 9223372036854775807 := by omega
    clear hwk hxy hset
    go_wp2
    have HS0 : Hid (wr.drew.heap[w.heap.size]? = some (.cells (s.arr (.slice (some ⟨gg, oo, none⟩) s.l.length c')) 39 (0, 0)) ∧ wr.drew.rangeAt gg (oo + j * 8) (⟨n, q, 2, a, u, t, x, g⟩ : Cv).cs) := ⟨HP.out, HRC.out⟩
    refine laneT_start (ord := [0, 1, 2, 3, 4, 5, 6, 7, 8, 9]) (t := 9) (S := fun w' => w'.heap[w.heap.size]? = some (.cells (s.arr (.slice (some ⟨gg, oo, none⟩) s.l.length c')) 39 (0, 0)) ∧ w'.rangeAt gg (oo + j * 8) (⟨n, q, 2, a, u, t, x, g⟩ : Cv).cs) rfl (by kernel_rfl) ?_
    refine laneT_take (v := .agg (s.arr (.slice (some ⟨gg, oo, none⟩) s.l.length c'))) rfl (by kernel_rfl) (by kernel_rfl) (by rfl) (fun W hSw => exec_load rfl rfl (run_loadAt_row W (w.heap.size) 39 39 _ (0, 0) _ hSw.1 Tryz.underlying39 rfl info7s)) (by exact HS0.out) ?_
    simp only [Act.put, List.setIfInBounds_toArray, List.set_cons_zero, List.set_cons_succ]
    iterate 5 (refine laneT_take (v := ?_) rfl (by kernel_rfl) (by kernel_rfl) (by rfl) ?_ (by exact HS0.out) ?_; rotate_left; (focus (intro W hSw; obtain ⟨hSw, hSc⟩ := hSw; obtain ⟨s0, s1, s2, s3, s4, s5, s6⟩ := scells hSw; go_simp; try (with_reducible rfl))); simp only [Act.put, List.setIfInBounds_toArray, List.set_cons_zero, List.set_cons_succ])
    refine laneT_take (v := .agg #[.int .i64 n, .int .i64 q, .int .u8 2, .int .i64 a, .int .i64 u, .int .i64 t, .int .i64 x, .bool g]) rfl (by kernel_rfl) (by kernel_rfl) (by rfl) (fun W hSw => exec_load rfl rfl (run_loadAt_mid W gg (oo + j * 8) 90 _ _ hSw.2 Tryz.underlying90 rfl info8r)) (by exact HS0.out) ?_
    simp only [Act.put, List.setIfInBounds_toArray, List.set_cons_zero, List.set_cons_succ]
    refine laneT_alone rfl (by kernel_rfl) (by rfl) (fun K hK => ?_)
    go_simp
    refine (refagain_any _ _ _ _ _ _ _ _ _ ht2 ht3).mono ?_
    rintro e w2 ⟨rfl, hb⟩
    have hb2 : Below wr.heap.size wr w2 := (Below.refl _ wr).drew.trans hb
    have hS2 : w2.heap[w.heap.size]? = some (.cells (s.arr (.slice (some ⟨gg, oo, none⟩) s.l.length c')) 39 (0, 0)) ∧ w2.rangeAt gg (oo + j * 8) (⟨n, q, 2, a, u, t, x, g⟩ : Cv).cs := ⟨below_block hb2 HP.out, fun i v9 h9 => (World.cell?_of_block (a := ⟨gg, oo + j * 8 + i, none⟩) (hb2.block gg (by omega))).trans (HRC.out i v9 h9)⟩
    refine hK _ _ (fun _ => hS2) ?_
    clear hK K
    have HB2 := Lib.hid hb2
    have HS2 := Lib.hid hS2
    have hz2 : wr.heap.size ≤ w2.heap.size := hb2.size
    have HY2 : Hid (Cys w2 0 w2.heap.size (.slice (some ⟨gg, oo, none⟩) s.l.length c') (woken s.l (fun c => c.wake y) j)) := ((HY.out.kept fun i _ hi => hb2.block i (by omega)).more (Nat.zero_le _) (by omega))
    clear hb hb2 hS2
    refine laneT_alone rfl (by kernel_rfl) (by rfl) (fun K hK => ?_)
    go_simp
    refine (HCH.out _ HY2.out).mono ?_
    rintro e w3 ⟨v3, rfl, hc3, hb3⟩
    have hS3 := below_block hb3 HS2.out.1
    have hS3r : w3.rangeAt gg (oo + j * 8) (⟨n, q, 2, a, u, t, x, g⟩ : Cv).cs := fun i v9 h9 => (World.cell?_of_block (a := ⟨gg, oo + j * 8 + i, none⟩) (hb3.block gg (by omega))).trans (HS2.out.2 i v9 h9)
    refine hK _ _ (fun _ => ⟨hS3, hS3r⟩) ?_
    clear hK K
    have hz3' : w2.heap.size ≤ w3.heap.size := hb3.size
    obtain ⟨A3, c3, hv3, hc31, hc32, _⟩ := id hc3
    rw [woken_len] at hv3 hc31
    subst hv3
    have HC3 := Lib.hid hc3
    have HB3 : Hid (Below wr.heap.size wr w3) := HB2.out.trans (hb3.mono hz2)
    have hS3b : w.heap.size < w3.heap.size := by omega
    clear hS3r hb3 hc3
    refine laneT_alone rfl (by kernel_rfl) (by rfl) (fun K hK => ?_)
    refine wp_store_row _ _ _ rfl (w.heap.size) _ rfl rfl _ _ hS3 (by exact info7s) rfl (Sv.arr_one rfl) ?_
    rw [row_boxed hS3]
    refine hK _ _ (fun h => absurd rfl h) ?_
    clear hK K
    refine laneT_end (by kernel_rfl) ?_
    go_wp2
    go_roundw
    case rel =>
      refine ⟨j + 1, A3, c3, by omega, by go_num, boxed_below (HW.out.trans (HB3.out.mono HW.out.size)) (Nat.le_refl _), boxed_at hS3b, boxed_old (by omega) ((HB3.out.block _ (by omega)).trans HQ.out), boxed_old (by omega) ((HB3.out.block _ (by omega)).trans HR.out), ⟨w2.heap.size, w3.heap.size, .inr (by omega), by simp, ?_⟩, hc31, hc32⟩
      exact HC3.out.kept fun i hi _ => boxed_block_other (by omega)
    case measure => simp [intOf]; omega
end Go.Proofs.YtblikgbcakgdnaaGreat
