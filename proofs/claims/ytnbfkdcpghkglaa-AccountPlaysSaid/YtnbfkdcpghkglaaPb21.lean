/-
  The period in which a day lies: the document's own span. No conditions but the sizes.
-/
import Derived.Test.YtnbfkdcpghkglaaPb14
import Derived.Test.YtnbfkdcpghkglaaPb20
set_option linter.unusedSimpArgs false
set_option linter.unusedVariables false
namespace Go.Proofs.Ytnbfkdcpghkglaa
set_option maxRecDepth 100000
open Go.ChangeShapes Go.WideShapes Go.ChangeAt Go.RowKit

set_option maxHeartbeats 4000000 in
theorem refspan_before {w : World} {p : Pv} (an y : Int) (h : y < an) : Calls Try.prog 64 #[.int .i64 an, .agg p.arr, .int .i64 y] w fun e w' => e = .returned (.tuple #[.int .i64 0, .int .i64 0, .bool false]) ∧ Below w.heap.size w w' := by
  have d1 : decide (y < an) = true := by simpa using h
  go_enter Try.func64, Try.ntmps64
  go_wp2
  refine bodyPost_ret (v := .tuple #[.int .i64 0, .int .i64 0, .bool false]) (by simp [results, Try.results64, go_sem]) rfl ?_
  exact ⟨rfl, (Below.refl _ w).alloc (Nat.le_refl _) _⟩
set_option maxHeartbeats 8000000 in
theorem refspan_any {w : World} {p : Pv} {an y c k d : Int} (hAt : Cal.At an k d) (hU : 0 ≤ p.u ∧ p.u ≤ 3) (hE : 1 ≤ p.e ∧ p.e ≤ 1000) (hy : an ≤ y) (hcn : Cal.Cnt p.u an k d p.e y c) (hc : c ≤ 4000) :
    Calls Try.prog 64 #[.int .i64 an, .agg p.arr, .int .i64 y] w fun e w' => (Cal.okN p.u an k p.e c = true → e = .returned (.tuple #[.int .i64 (Cal.vN p.u an k d p.e (c - 1)), .int .i64 (Cal.vN p.u an k d p.e c), .bool true])) ∧ (Cal.okN p.u an k p.e c = false → e = .returned (.tuple #[.int .i64 0, .int .i64 0, .bool true])) ∧ Below w.heap.size w w' := by
  have d1 : decide (y < an) = false := by simpa using hy
  have hc1 := hcn.pos hAt hy
  have HAT := Lib.hid hAt
  have HU := Lib.hid hU
  have HE := Lib.hid hE
  have HCN := Lib.hid hcn
  clear hAt hU hE hcn
  go_enter Try.func64, Try.ntmps64
  go_wp2
  go_loopw [9] (fun i wq => ∃ j : Nat, (j : Int) + 1 ≤ c ∧ i = .int .i64 j ∧ Hid (Below w.heap.size w wq) ∧ Hid (wq.heap[w.heap.size]? = some (.cells p.arr 26 (0, 0)))) (fun i _ => 4000 - (intOf i).toNat)
  case atStart => exact ⟨0, by omega, rfl, (Below.refl _ w).alloc (Nat.le_refl _) _, alloc_at rfl⟩
  case round =>
    obtain ⟨j, hj, rfl, HW, HP⟩ := hrel
    have hz : w.heap.size < wr.heap.size := (Array.getElem?_eq_some_iff.1 HP.out).1
    have d2 : decide ((j : Int) < 4000) = true := by simp; omega
    have ej : wrap64 ((j : Int) + 1) = (j : Int) + 1 := by unfold wrap64; omega
    have hP := HP.out
    obtain ⟨q0, q1, q2, q3, q4, q5⟩ := pcells hP
    have hj1 := (HCN.out.all (j : Int) (by omega) (by omega)).1
    go_wp2_with (fail)
    refine (rnth_yes an k d p.u p.e j _ HAT.out HU.out.1 HU.out.2 HE.out.1 HE.out.2 (by omega) (by omega) hj1).mono ?_
    rintro e w1 ⟨rfl, hb⟩
    obtain ⟨v1, hv1⟩ : ∃ v1, Cal.vN p.u an k d p.e (j : Int) = v1 := ⟨_, rfl⟩
    have HV1 := Lib.hid hv1
    rw [hv1]
    have hP1 : w1.heap[w.heap.size]? = some (.cells p.arr 26 (0, 0)) := below_block hb hP
    have HW1 : Hid (Below w.heap.size w w1) := HW.out.trans (hb.mono (by omega))
    have hz1 : w.heap.size < w1.heap.size := (Array.getElem?_eq_some_iff.1 hP1).1
    clear q0 q1 q2 q3 q4 q5 hb hP HP HW hv1 hj1
    obtain ⟨q0, q1, q2, q3, q4, q5⟩ := pcells hP1
    go_wp2_with (fail)
    by_cases hok : Cal.okN p.u an k p.e ((j : Int) + 1) = true
    case neg =>
      have hok' : Cal.okN p.u an k p.e ((j : Int) + 1) = false := by simpa using hok
      have hjc : (j : Int) + 1 = c := by
        apply Int.le_antisymm hj
        apply Int.le_of_not_gt
        intro hlt
        exact hok (HCN.out.all ((j : Int) + 1) (by omega) (by omega)).1
      refine (rnth_no an k d p.u p.e ((j : Int) + 1) _ HAT.out HU.out.1 HU.out.2 HE.out.1 HE.out.2 (by omega) (by omega) hok').mono ?_
      rw [hjc] at hok'
      have HOK := Lib.hid hok'
      rintro e w2 ⟨rfl, hb⟩
      have HW2 : Hid (Below w.heap.size w w2) := HW1.out.trans (hb.mono (by omega))
      clear hok hok' hjc hb hj
      go_wp2
      refine bodyPost_ret (v := .tuple #[.int .i64 0, .int .i64 0, .bool true]) (by simp [results, Try.results64, go_sem]) rfl ?_
      exact ⟨fun h => (by rw [HOK.out] at h; cases h), fun _ => rfl, HW2.out⟩
    case pos =>
      refine (rnth_yes an k d p.u p.e ((j : Int) + 1) _ HAT.out HU.out.1 HU.out.2 HE.out.1 HE.out.2 (by omega) (by omega) hok).mono ?_
      rintro e w2 ⟨rfl, hb⟩
      obtain ⟨v2, hv2⟩ : ∃ v2, Cal.vN p.u an k d p.e ((j : Int) + 1) = v2 := ⟨_, rfl⟩
      rw [hv2]
      have hP2 : w2.heap[w.heap.size]? = some (.cells p.arr 26 (0, 0)) := below_block hb hP1
      have HP2 := Lib.hid hP2
      have HW2 : Hid (Below w.heap.size w w2) := HW1.out.trans (hb.mono (by omega))
      by_cases hlt : (j : Int) + 1 < c
      · have hle := (HCN.out.all ((j : Int) + 1) (by omega) hlt).2
        rw [hv2] at hle
        have d3 : decide (v2 > y) = false := by simpa using hle
        have d4 : decide (y < v2) = false := by simpa using hle
        clear hle hb hv2 hok hP2 hP1 q0 q1 q2 q3 q4 q5
        go_wp2
        first
          | (go_roundw
             case rel => exact ⟨j + 1, by omega, by go_num, HW2, HP2⟩
             case measure => simp [intOf]; omega)
          | exact ⟨⟨j + 1, by omega, by go_num, HW2, HP2⟩, by simp [intOf]; omega⟩
      · have hjc : (j : Int) + 1 = c := by omega
        have hgt := HCN.out.out (by rw [← hjc]; exact hok)
        rw [← hjc, hv2] at hgt
        have d3 : decide (v2 > y) = true := by simpa using hgt
        have d4 : decide (y < v2) = true := by simpa using hgt
        have hv1' := HV1.out
        rw [hjc] at hv2
        rw [show (j : Int) = c - 1 by omega] at hv1'
        rw [hjc] at hok
        have HV2 := Lib.hid hv2
        have HV1' := Lib.hid hv1'
        have HOK := Lib.hid hok
        clear hgt hb hv2 hok hjc hlt hv1' HV1 hP2 hP1 q0 q1 q2 q3 q4 q5 hj
        go_wp2
        refine bodyPost_ret (v := .tuple #[.int .i64 v1, .int .i64 v2, .bool true]) (by simp [results, Try.results64, go_sem]) rfl ?_
        exact ⟨fun _ => (by rw [HV1'.out, HV2.out]), fun h => (by rw [HOK.out] at h; cases h), HW2.out⟩
end Go.Proofs.Ytnbfkdcpghkglaa
/-
  The document's own Step: Change. No conditions but the sizes.
-/
namespace Go.Proofs.Ytnbfkdcpghkglaa
set_option maxRecDepth 100000
open Go.ChangeShapes Go.WideShapes Go.ChangeAt Go.RowKit

/-- A slice reads as these plans, below block B. -/
def Pls (w : World) (B : Nat) (v : Value) (ps : List Pv) : Prop := ∃ A c, v = .slice A ps.length c ∧ ps.length ≤ c ∧ c ≤ maxLen ∧ ∀ k p, ps[k]? = some p → ∃ g o, A = some ⟨g, o, none⟩ ∧ g < B ∧ w.rangeAt g (o + k * 6) p.arr.toList
theorem Pls.kept {w w' : World} {B : Nat} {v : Value} {ps : List Pv} (h : Pls w B v ps) (hk : ∀ i, i < B → w'.heap[i]? = w.heap[i]?) : Pls w' B v ps := by
  obtain ⟨A, c, h1, h2, h3, h4⟩ := h
  refine ⟨A, c, h1, h2, h3, fun k p hp => ?_⟩
  obtain ⟨g, o, h5, h6, h7⟩ := h4 k p hp
  exact ⟨g, o, h5, h6, fun j u hu => (World.cell?_of_block (a := ⟨g, o + k * 6 + j, none⟩) (hk g h6)).trans (h7 j u hu)⟩
theorem Pls.more {w : World} {B B' : Nat} {v : Value} {ps : List Pv} (h : Pls w B v ps) (hb : B ≤ B') : Pls w B' v ps := by
  obtain ⟨A, c, h1, h2, h3, h4⟩ := h
  refine ⟨A, c, h1, h2, h3, fun k p hp => ?_⟩
  obtain ⟨g, o, h5, h6, h7⟩ := h4 k p hp
  exact ⟨g, o, h5, by omega, h7⟩
theorem Pls.below {w w' : World} {B : Nat} {v : Value} {ps : List Pv} (h : Pls w B v ps) (hb : Below B w w') : Pls w' B v ps := h.kept fun i hi => hb.block i hi
theorem Pv.one (p : Pv) : ∀ u ∈ p.arr.toList, u.oneCell' = true := by
  intro u hu
  simp [Pv.arr] at hu
  rcases hu with rfl | rfl | rfl | rfl | rfl | rfl <;> rfl
set_option maxHeartbeats 8000000 in
theorem step_change_free {w : World} {b : Bk} {i kp kq : Nat} {ps : List Pv} {P Q : Pv} (hi : i < 32) (hone : b.One) (hst : (b.s i).st = 1) (hpl : (b.s i).pl = (kp : Int)) (hne : kp ≠ kq) (hps : Pls w w.heap.size b.vp ps) (hP : ps[kp]? = some P) (hQ : ps[kq]? = some Q) (hay : b.td < (b.s i).an) :
    Calls Try.prog 32 #[.agg b.arr, .agg #[.int .u8 3, .int .i64 (i : Int), .int .i64 (kq : Int), .int .i64 0, .int .i64 0, .int .u8 0, .int .i64 0, .int .i64 0, .bool false, .bool false, .int .u8 0, .int .i64 0, .int .i64 0, .int .i64 0, .int .i64 0, .int .u8 0]] w (Books w (b.put i ({ b.s i with pl := (kq : Int), ix := 0 } : Sv) (b.v i)) 0) := by
  obtain ⟨pA, pc, hvp, hpc0, hpc1, hpr⟩ := hps
  obtain ⟨pg, po, hpA, hpg, hrP⟩ := hpr kp P hP
  obtain ⟨pg2, po2, hpA2, hpg2, hrQ⟩ := hpr kq Q hQ
  rw [hpA] at hpA2
  injection hpA2 with hpA3
  injection hpA3 with h1 h2
  subst h1 h2
  subst hpA
  have hkq : kq < ps.length := (List.getElem?_eq_some_iff.1 hQ).1
  have hkp : kp < ps.length := (List.getElem?_eq_some_iff.1 hP).1
  clear hpr hP hQ hpg2
  obtain ⟨s, hs⟩ : ∃ s, b.s i = s := ⟨_, rfl⟩
  obtain ⟨v, hv⟩ : ∃ v, b.v i = v := ⟨_, rfl⟩
  rw [hs] at hst hpl hay
  have hv1 : v.oneCell' = true := by rw [← hv]; exact hone.2 i hi
  have HON := Lib.hid hone
  have HS := Lib.hid hs
  have HV := Lib.hid hv
  have hi0 : (0 : Int) ≤ (i : Int) := by omega
  have hi1 : (i : Int) < 32 := by omega
  have HRG : Hid (∀ X : World, X.heap[w.heap.size]? = some (.cells b.arr 73 (0, 0)) → X.rangeAt w.heap.size (2 + i * 7) (s.arr v).toList) := fun X hX => by
    have := Bk.range hX hi
    rw [hs, hv] at this
    exact this
  clear hs hv hone
  go_enter Try.func32, Try.ntmps32
  go_upto_region 30 with fail
  obtain ⟨W0, hW0⟩ : ∃ W0, ((w.alloc (.cells b.arr 73)).alloc (.cells #[.int .u8 3, .int .i64 (i : Int), .int .i64 (kq : Int), .int .i64 0, .int .i64 0, .int .u8 0, .int .i64 0, .int .i64 0, .bool false, .bool false, .int .u8 0, .int .i64 0, .int .i64 0, .int .i64 0, .int .i64 0, .int .u8 0] 61)).alloc (.cells Try.zeroCells73 73) = W0 := ⟨_, rfl⟩
  have hB : W0.heap[w.heap.size]? = some (.cells b.arr 73 (0, 0)) := by rw [← hW0]; exact alloc_old (by simp; omega) (alloc_old (by simp) (alloc_at rfl))
  have hO : W0.heap[w.heap.size + 1]? = some (.cells #[.int .u8 3, .int .i64 (i : Int), .int .i64 (kq : Int), .int .i64 0, .int .i64 0, .int .u8 0, .int .i64 0, .int .i64 0, .bool false, .bool false, .int .u8 0, .int .i64 0, .int .i64 0, .int .i64 0, .int .i64 0, .int .u8 0] 61 (0, 0)) := by rw [← hW0]; exact alloc_old (by simp) (alloc_at (by simp))
  have hZ : W0.heap[w.heap.size + 1 + 1]? = some (.cells Try.zeroCells73 73 (0, 0)) := by rw [← hW0]; exact alloc_at (by simp)
  have hW : Below w.heap.size w W0 := by rw [← hW0]; exact (((Below.refl _ w).alloc (Nat.le_refl _) _).alloc (by simp) _).alloc (by simp; omega) _
  have hz2 : w.heap.size + 1 + 1 < W0.heap.size := (Array.getElem?_eq_some_iff.1 hZ).1
  have hz1 : w.heap.size + 1 < W0.heap.size := by omega
  have hz0 : w.heap.size < W0.heap.size := by omega
  rw [hW0]
  clear hW0
  obtain ⟨o0, o1, o2, o3, o10, o11, o12, o13, o14, o15⟩ := ocells hO
  have hO9 := hO
  have HW := Lib.hid hW
  have HB := Lib.hid hB
  have e9 := boxed_self hB
  rw [e9]
  clear e9 hW hB hO
  have dge : decide ((kq : Int) ≥ (ps.length : Int)) = false := by simp; omega
  have dge' : decide ((ps.length : Int) ≤ (kq : Int)) = false := by simp; omega
  have dne : ((kq : Int) == (kp : Int)) = false := by rw [beq_eq_false_iff_ne]; omega
  have kp0 : (0 : Int) ≤ (kp : Int) := by omega
  have kp1 : (kp : Int) < (ps.length : Int) := by omega
  have kq0 : (0 : Int) ≤ (kq : Int) := by omega
  have kq1 : (kq : Int) < (ps.length : Int) := by omega
  have HPL := Lib.hid hpl
  have HRP := Lib.hid hrP
  have HRQ := Lib.hid hrQ
  have HAY := Lib.hid hay
  clear hay
  clear hrP hrQ
  have d0 : (s.st == 0) = false := by rw [hst]; decide
  have n0 : (s.st != 0) = true := by rw [hst]; decide
  have d1 : (s.st == 1) = true := by rw [hst]; decide
  have n1 : (s.st != 1) = false := by rw [hst]; decide
  have d2 : (s.st == 2) = false := by rw [hst]; decide
  have n2 : (s.st != 2) = true := by rw [hst]; decide
  have d3 : (s.st == 3) = false := by rw [hst]; decide
  have n3 : (s.st != 3) = true := by rw [hst]; decide
  clear hst
  go_upto_region 49 with (first | ((with_reducible_and_instances (show wpList _ _ _ (Oper.mk _ (Op.load 36 _ ) _ _ _ _ :: _) _ _)); refine wpList_load_mid rfl _ _ rfl w.heap.size (2 + i * 7) rfl (s.arr v).toList _ (HRG.out _ (boxed_at hz0)) Try.underlying36 rfl info7s ?_; rw [Array.toArray_toList]) | ((with_reducible_and_instances (show wpList _ _ _ (Oper.mk _ (Op.store 36 _ _ ) _ _ _ _ :: _) _ _)); refine wl_store info7s rfl rfl rfl rfl (by (repeat (first | assumption | (with_reducible refine alloc_at ?_; (focus (first | omega | (simp; done) | (simp; omega)))) | (with_reducible refine boxed_at ?_; (focus (first | omega | (simp; done) | (simp; omega)))) | (with_reducible refine alloc_old ?_ ?_; (focus (first | omega | (simp; done) | (simp; omega)))) | (with_reducible refine boxed_old ?_ ?_; (focus (first | omega | (simp; done) | (simp; omega)))) | (with_reducible refine drew_old ?_)))) (by rfl) (by rfl) (Sv.arr_one hv1) ?_))
  obtain ⟨W1, hW1⟩ : ∃ W1, boxed ((boxed W0 w.heap.size b.arr 73).alloc (.cells #[.int .u8 0, .int .i64 0, .int .i64 0, .int .i64 0, .int .i64 0, .bool false, .slice none 0 0] 36)) W0.heap.size (s.arr v) 36 = W1 := ⟨_, rfl⟩
  have hB1 : W1.heap[w.heap.size]? = some (.cells b.arr 73 (0, 0)) := by rw [← hW1]; exact boxed_old (by omega) (alloc_old (by simp; omega) (boxed_at hz0))
  have hS1 : W1.heap[W0.heap.size]? = some (.cells (s.arr v) 36 (0, 0)) := by rw [← hW1]; exact boxed_at (by simp)
  have hZ1 : W1.heap[w.heap.size + 1 + 1]? = some (.cells Try.zeroCells73 73 (0, 0)) := by rw [← hW1]; exact boxed_old (by omega) (alloc_old (by simp; omega) (boxed_old (by omega) hZ))
  have hk1 : ∀ i, i < W0.heap.size → i ≠ w.heap.size → W1.heap[i]? = W0.heap[i]? := fun i h1 h2 => by
    rw [← hW1, boxed_block_other (by omega), alloc_block_old (by rw [boxed_size]; omega), boxed_block_other (by omega)]
  have hO1 : W1.heap[w.heap.size + 1]? = some (.cells #[.int .u8 3, .int .i64 (i : Int), .int .i64 (kq : Int), .int .i64 0, .int .i64 0, .int .u8 0, .int .i64 0, .int .i64 0, .bool false, .bool false, .int .u8 0, .int .i64 0, .int .i64 0, .int .i64 0, .int .i64 0, .int .u8 0] 61 (0, 0)) := (hk1 (w.heap.size + 1) (by omega) (by omega)).trans hO9
  have HW1 : Hid (Below w.heap.size w W1) := by
    show Below _ _ _
    rw [← hW1]; exact boxed_below ((boxed_below HW.out (Nat.le_refl _)).alloc (by simp; omega) _) (by omega)
  have hkw : ∀ i, i < w.heap.size → W1.heap[i]? = w.heap[i]? := fun i hi => HW1.out.block i hi
  have HRP1 : Hid (W1.rangeAt pg (po + kp * 6) P.arr.toList) := fun j u hu => (World.cell?_of_block (a := ⟨pg, po + kp * 6 + j, none⟩) (hkw pg hpg)).trans (HRP.out j u hu)
  have HRQ1 : Hid (W1.rangeAt pg (po + kq * 6) Q.arr.toList) := fun j u hu => (World.cell?_of_block (a := ⟨pg, po + kq * 6 + j, none⟩) (hkw pg hpg)).trans (HRQ.out j u hu)
  have hz1s : W0.heap.size < W1.heap.size := (Array.getElem?_eq_some_iff.1 hS1).1
  have hz10 : w.heap.size < W1.heap.size := by omega
  have hz11 : w.heap.size + 1 < W1.heap.size := by omega
  have hz12 : w.heap.size + 1 + 1 < W1.heap.size := by omega
  rw [hW1]
  clear hW1 hk1 hkw o0 o1 o2 o3 o10 o11 o12 o13 o14 o15 hZ
  obtain ⟨o0, o1, o2, o3, _⟩ := ocells hO1
  obtain ⟨m0, m1, m2, m3, m4, m5, m6⟩ := scells hS1
  rw [HPL.out] at m1
  have n0 : W1.cell? ⟨w.heap.size, 0, none⟩ = some (.int .i64 b.td) := (cell_of_row _ _ _ _ _ _ hB1).trans b.at0
  have n1 : W1.cell? ⟨w.heap.size, 1, none⟩ = some (.slice (some ⟨pg, po, none⟩) ps.length pc) := (cell_of_row _ _ _ _ _ _ hB1).trans (by rw [b.at1, hvp])
  clear hvp
  go_wp2_with (((with_reducible_and_instances (show wpList _ _ _ (Oper.mk _ (Op.load 26 _ ) _ _ _ _ :: _) _ _)); refine stop_here ?_))
  refine ⟨?_⟩
  refine wpList_load_mid rfl _ _ rfl pg (po + kp * 6) rfl P.arr.toList _ HRP1.out Try.underlying26 rfl info6p ?_
  rw [Array.toArray_toList]
  go_wp2_with (first | ((with_reducible_and_instances (show wpList _ _ _ (Oper.mk _ (Op.store 26 _ _) _ _ _ _ :: _) _ _)); refine wl_store info6p rfl rfl rfl rfl (by (repeat (first | assumption | (with_reducible refine alloc_at ?_; (focus (first | omega | (simp; done) | (simp; omega)))) | (with_reducible refine boxed_at ?_; (focus (first | omega | (simp; done) | (simp; omega)))) | (with_reducible refine alloc_old ?_ ?_; (focus (first | omega | (simp; done) | (simp; omega)))) | (with_reducible refine boxed_old ?_ ?_; (focus (first | omega | (simp; done) | (simp; omega)))) | (with_reducible refine drew_old ?_)))) (by rfl) (by rfl) (by first | exact Cv.arr_one _ | exact Nv.arr_one _ | exact Av.arr_one rfl | exact Sv.arr_one rfl | exact Pv.arr_one _ | simp [Value.oneCell']) ?_) | (((with_reducible_and_instances (show wpList _ _ _ (Oper.mk _ (Op.load 26 _ ) _ _ _ _ :: _) _ _)); refine stop_here ?_)))
  refine ⟨?_⟩
  refine wpList_load_mid rfl _ _ rfl pg (po + kq * 6) rfl Q.arr.toList _ (World.rangeAt_alloc HRQ1.out _) Try.underlying26 rfl info6p ?_
  rw [Array.toArray_toList]
  go_wp2_with (first | ((with_reducible_and_instances (show wpList _ _ _ (Oper.mk _ (Op.store 26 _ _) _ _ _ _ :: _) _ _)); refine wl_store info6p rfl rfl rfl rfl (by (repeat (first | assumption | (with_reducible refine alloc_at ?_; (focus (first | omega | (simp; done) | (simp; omega)))) | (with_reducible refine boxed_at ?_; (focus (first | omega | (simp; done) | (simp; omega)))) | (with_reducible refine alloc_old ?_ ?_; (focus (first | omega | (simp; done) | (simp; omega)))) | (with_reducible refine boxed_old ?_ ?_; (focus (first | omega | (simp; done) | (simp; omega)))) | (with_reducible refine drew_old ?_)))) (by rfl) (by rfl) (by first | exact Cv.arr_one _ | exact Nv.arr_one _ | exact Av.arr_one rfl | exact Sv.arr_one rfl | exact Pv.arr_one _ | simp [Value.oneCell']) ?_) | ((with_reducible_and_instances (show wpList _ _ _ (Oper.mk _ (Op.load 26 _) _ _ _ _ :: _) _ _)); refine wl_load Try.underlying26 rfl info6p rfl rfl rfl (by (repeat (first | assumption | (with_reducible refine alloc_at ?_; (focus (first | omega | (simp; done) | (simp; omega)))) | (with_reducible refine boxed_at ?_; (focus (first | omega | (simp; done) | (simp; omega)))) | (with_reducible refine alloc_old ?_ ?_; (focus (first | omega | (simp; done) | (simp; omega)))) | (with_reducible refine boxed_old ?_ ?_; (focus (first | omega | (simp; done) | (simp; omega)))) | (with_reducible refine drew_old ?_)))) (by rfl) ?_))
  refine (refspan_before _ _ HAY.out).mono ?_
  rintro e w2 ⟨rfl, hb⟩
  have hblk : ∀ i, i < W1.heap.size → w2.heap[i]? = W1.heap[i]? := fun i h9 => (hb.block i (by simp; omega)).trans ((boxed_block_other (by omega)).trans ((alloc_block_old (by simp; omega)).trans (alloc_block_old h9)))
  have hB2 : w2.heap[w.heap.size]? = some (.cells b.arr 73 (0, 0)) := (hblk _ hz10).trans hB1
  have hS2 : w2.heap[W0.heap.size]? = some (.cells (s.arr v) 36 (0, 0)) := (hblk _ hz1s).trans hS1
  have hZ2 : w2.heap[w.heap.size + 1 + 1]? = some (.cells Try.zeroCells73 73 (0, 0)) := (hblk _ hz12).trans hZ1
  have hO2 : w2.heap[w.heap.size + 1]? = some (.cells #[.int .u8 3, .int .i64 (i : Int), .int .i64 (kq : Int), .int .i64 0, .int .i64 0, .int .u8 0, .int .i64 0, .int .i64 0, .bool false, .bool false, .int .u8 0, .int .i64 0, .int .i64 0, .int .i64 0, .int .i64 0, .int .u8 0] 61 (0, 0)) := (hblk _ hz11).trans hO1
  have hPP : w2.heap[W1.heap.size]? = some (.cells P.arr 26 (0, 0)) := below_block hb (boxed_old (by omega) (alloc_old (by simp) (alloc_at rfl)))
  have hQQ : w2.heap[W1.heap.size + 1]? = some (.cells Q.arr 26 (0, 0)) := below_block hb (boxed_at (by simp))
  have HW2 : Hid (Below w.heap.size w w2) := (boxed_below ((HW1.out.alloc HW1.out.size _).alloc (by have := HW1.out.size; simp; omega) _) (by have := HW1.out.size; omega)).trans (hb.mono (by have := HW1.out.size; simp; omega))
  have hzw2 : W1.heap.size + 1 < w2.heap.size := (Array.getElem?_eq_some_iff.1 hQQ).1
  have hz2s : W0.heap.size < w2.heap.size := by omega
  clear hb o0 o1 o2 o3 m0 m1 m2 m3 m4 m5 m6 n0 n1 hblk
  obtain ⟨o0, o1, o2, o3, _⟩ := ocells hO2
  obtain ⟨qq0, qq1, qq2, qq3, qq4, qq5⟩ := pcells hPP
  obtain ⟨rr0, rr1, rr2, rr3, rr4, rr5⟩ := pcells hQQ
  have n0 : w2.cell? ⟨w.heap.size, 0, none⟩ = some (.int .i64 b.td) := (cell_of_row _ _ _ _ _ _ hB2).trans b.at0
  have e9 := boxed_self hS2
  rw [e9]
  clear e9
  go_upto_region 93 with (fail)
  obtain ⟨s2, hs2⟩ : ∃ s2, ({ s with pl := (kq : Int), ix := 0 } : Sv) = s2 := ⟨_, rfl⟩
  rw [hs2]
  obtain ⟨W9, hW9⟩ : ∃ W9, boxed w2 W0.heap.size (s2.arr v) 36 = W9 := ⟨_, rfl⟩
  have hBn : W9.heap[w.heap.size]? = some (.cells b.arr 73 (0, 0)) := by rw [← hW9]; exact boxed_old (by omega) hB2
  have hSn : W9.heap[W0.heap.size]? = some (.cells (s2.arr v) 36 (0, 0)) := by rw [← hW9]; exact boxed_at hz2s
  have hZn : W9.heap[w.heap.size + 1 + 1]? = some (.cells Try.zeroCells73 73 (0, 0)) := by rw [← hW9]; exact boxed_old (by omega) hZ2
  have hOn : W9.cell? ⟨w.heap.size + 1, 1, none⟩ = some (.int .i64 (i : Int)) := by
    rw [← hW9]; exact (World.cell?_of_block (a := ⟨w.heap.size + 1, 1, none⟩) (boxed_block_other (show w.heap.size + 1 ≠ W0.heap.size by omega))).trans o1
  have HWn : Hid (Below w.heap.size w W9) := by
    show Below _ _ _
    rw [← hW9]; exact boxed_below HW2.out (by omega)
  have HPUT : Hid (b.put i ({ b.s i with pl := (kq : Int), ix := 0 } : Sv) (b.v i) = b.put i s2 v) := by
    show _ = _
    rw [HS.out, HV.out, ← hs2]
  have hb2 : (b.put i s2 v).arr.all (·.oneCell') = true := (HON.out.put i s2 hv1).arr
  rw [hW9]
  have hz9s : W0.heap.size < W9.heap.size := (Array.getElem?_eq_some_iff.1 hSn).1
  clear hB1 hS1 hZ1 hO1 HW1 hz10 hz11 hz12 hz1s hs2 hW9 o0 o1 o2 o3 n0 qq0 qq1 qq2 qq3 qq4 qq5 rr0 rr1 rr2 rr3 rr4 rr5
  have hB1 := hBn
  have hS1 := hSn
  have hZ1 := hZn
  have hO1 := hOn
  have HW1 := HWn
  have hz10 : w.heap.size < W9.heap.size := by omega
  have hz12 : w.heap.size + 1 + 1 < W9.heap.size := by omega
  have hz1s : W0.heap.size < W9.heap.size := hz9s
  clear hBn hSn hZn hOn HWn hB2 hS2 hZ2 hO2
  have e9 := boxed_self hB1
  rw [e9]
  clear e9
  go_wp2_with (((with_reducible_and_instances (show wpList _ _ _ (Oper.mk _ (Op.load 36 _ ) _ _ _ _ :: _) _ _)); refine stop_here ?_))
  refine ⟨?_⟩
  refine wl_load (cs := s2.arr v) (fr := (0, 0)) (g := W0.heap.size) Try.underlying36 rfl info7s rfl rfl rfl (boxed_old (by omega) hS1) (by rfl) ?_
  go_wp2_with (((with_reducible_and_instances (show wpList _ _ _ (Oper.mk _ (Op.store 36 _ _ ) _ _ _ _ :: _) _ _)); refine stop_here ?_))
  refine ⟨?_⟩
  refine wpList_store_mid rfl _ _ _ rfl (w.heap.size) (2 + i * 7) (s2.arr v) rfl rfl (Bk.there (by omega) hi) info7s (Sv.arr_one hv1) ?_
  rw [Bk.store]
  go_wp2_with (((with_reducible_and_instances (show wpList _ _ _ (Oper.mk _ (Op.load 73 _ ) _ _ _ _ :: _) _ _)); refine stop_here ?_))
  refine ⟨?_⟩
  refine wl_load (cs := (b.put i s2 v).arr) (fr := (0, 0)) (g := w.heap.size) Try.underlying73 rfl Bk.info rfl rfl rfl (boxed_at (by omega)) (Bk.arr_size _) ?_
  go_wp2_with (((with_reducible_and_instances (show wpList _ _ _ (Oper.mk _ (Op.store 73 _ _ ) _ _ _ _ :: _) _ _)); refine stop_here ?_))
  refine ⟨?_⟩
  refine wl_store (g := w.heap.size + 1 + 1) Bk.info rfl rfl rfl rfl (boxed_old (by omega) hZ1) Bk.zero_size (Bk.arr_size _) hb2 ?_
  go_wp2_with (fail)
  refine bodyPost_ret (results_row_tmp rfl _ _ (w.heap.size + 1 + 1) 73 _ (0, 0) _ rfl (boxed_at (by rw [boxed_size]; omega)) Try.underlying73 rfl (by rw [Bk.arr_size]; exact Bk.info)) rfl ?_
  exact ⟨by rw [HPUT.out]; rfl, boxed_below (boxed_below HW1.out (Nat.le_refl _)) (by omega)⟩
set_option maxHeartbeats 8000000 in
theorem step_change_go {w : World} {b : Bk} {i kp kq : Nat} {ps : List Pv} {P Q : Pv} {k d : Int} (hi : i < 32) (hone : b.One) (hst : (b.s i).st = 1) (hpl : (b.s i).pl = (kp : Int)) (hne : kp ≠ kq) (hps : Pls w w.heap.size b.vp ps) (hP : ps[kp]? = some P) (hQ : ps[kq]? = some Q) (hAt : Cal.At (b.s i).an k d) (hU : 0 ≤ P.u ∧ P.u ≤ 3) (hE : 1 ≤ P.e ∧ P.e ≤ 1000) (hay : (b.s i).an ≤ b.td) (hcn : Cal.Cnt P.u (b.s i).an k d P.e b.td (b.s i).ix) (hok : Cal.okN P.u (b.s i).an k P.e (b.s i).ix = true) (hc : (b.s i).ix ≤ 4000) (hpa : 0 ≤ P.a ∧ P.a ≤ 100000000000) (hqa : 0 ≤ Q.a ∧ Q.a ≤ 100000000000) (hcr : -100000000000000000 ≤ (b.s i).cr ∧ (b.s i).cr ≤ 100000000000000000) :
    Calls Try.prog 32 #[.agg b.arr, .agg #[.int .u8 3, .int .i64 (i : Int), .int .i64 (kq : Int), .int .i64 0, .int .i64 0, .int .u8 0, .int .i64 0, .int .i64 0, .bool false, .bool false, .int .u8 0, .int .i64 0, .int .i64 0, .int .i64 0, .int .i64 0, .int .u8 0]] w (Books w (b.put i ({ b.s i with cr := (b.s i).cr + (P.a * (Cal.vN P.u (b.s i).an k d P.e (b.s i).ix - b.td) / (Cal.vN P.u (b.s i).an k d P.e (b.s i).ix - Cal.vN P.u (b.s i).an k d P.e ((b.s i).ix - 1)) - Q.a * (Cal.vN P.u (b.s i).an k d P.e (b.s i).ix - b.td) / (Cal.vN P.u (b.s i).an k d P.e (b.s i).ix - Cal.vN P.u (b.s i).an k d P.e ((b.s i).ix - 1))), an := Cal.vN P.u (b.s i).an k d P.e (b.s i).ix, pl := (kq : Int), ix := 0 } : Sv) (b.v i)) 0) := by
  obtain ⟨pA, pc, hvp, hpc0, hpc1, hpr⟩ := hps
  obtain ⟨pg, po, hpA, hpg, hrP⟩ := hpr kp P hP
  obtain ⟨pg2, po2, hpA2, hpg2, hrQ⟩ := hpr kq Q hQ
  rw [hpA] at hpA2
  injection hpA2 with hpA3
  injection hpA3 with h1 h2
  subst h1 h2
  subst hpA
  have hkq : kq < ps.length := (List.getElem?_eq_some_iff.1 hQ).1
  have hkp : kp < ps.length := (List.getElem?_eq_some_iff.1 hP).1
  clear hpr hP hQ hpg2
  obtain ⟨s, hs⟩ : ∃ s, b.s i = s := ⟨_, rfl⟩
  obtain ⟨v, hv⟩ : ∃ v, b.v i = v := ⟨_, rfl⟩
  rw [hs] at hst hpl hcn hok hay hc hAt hcr
  have hv1 : v.oneCell' = true := by rw [← hv]; exact hone.2 i hi
  have HON := Lib.hid hone
  have HS := Lib.hid hs
  have HV := Lib.hid hv
  have hi0 : (0 : Int) ≤ (i : Int) := by omega
  have hi1 : (i : Int) < 32 := by omega
  have HRG : Hid (∀ X : World, X.heap[w.heap.size]? = some (.cells b.arr 73 (0, 0)) → X.rangeAt w.heap.size (2 + i * 7) (s.arr v).toList) := fun X hX => by
    have := Bk.range hX hi
    rw [hs, hv] at this
    exact this
  clear hs hv hone
  go_enter Try.func32, Try.ntmps32
  go_upto_region 30 with fail
  obtain ⟨W0, hW0⟩ : ∃ W0, ((w.alloc (.cells b.arr 73)).alloc (.cells #[.int .u8 3, .int .i64 (i : Int), .int .i64 (kq : Int), .int .i64 0, .int .i64 0, .int .u8 0, .int .i64 0, .int .i64 0, .bool false, .bool false, .int .u8 0, .int .i64 0, .int .i64 0, .int .i64 0, .int .i64 0, .int .u8 0] 61)).alloc (.cells Try.zeroCells73 73) = W0 := ⟨_, rfl⟩
  have hB : W0.heap[w.heap.size]? = some (.cells b.arr 73 (0, 0)) := by rw [← hW0]; exact alloc_old (by simp; omega) (alloc_old (by simp) (alloc_at rfl))
  have hO : W0.heap[w.heap.size + 1]? = some (.cells #[.int .u8 3, .int .i64 (i : Int), .int .i64 (kq : Int), .int .i64 0, .int .i64 0, .int .u8 0, .int .i64 0, .int .i64 0, .bool false, .bool false, .int .u8 0, .int .i64 0, .int .i64 0, .int .i64 0, .int .i64 0, .int .u8 0] 61 (0, 0)) := by rw [← hW0]; exact alloc_old (by simp) (alloc_at (by simp))
  have hZ : W0.heap[w.heap.size + 1 + 1]? = some (.cells Try.zeroCells73 73 (0, 0)) := by rw [← hW0]; exact alloc_at (by simp)
  have hW : Below w.heap.size w W0 := by rw [← hW0]; exact (((Below.refl _ w).alloc (Nat.le_refl _) _).alloc (by simp) _).alloc (by simp; omega) _
  have hz2 : w.heap.size + 1 + 1 < W0.heap.size := (Array.getElem?_eq_some_iff.1 hZ).1
  have hz1 : w.heap.size + 1 < W0.heap.size := by omega
  have hz0 : w.heap.size < W0.heap.size := by omega
  rw [hW0]
  clear hW0
  obtain ⟨o0, o1, o2, o3, o10, o11, o12, o13, o14, o15⟩ := ocells hO
  have hO9 := hO
  have HW := Lib.hid hW
  have HB := Lib.hid hB
  have e9 := boxed_self hB
  rw [e9]
  clear e9 hW hB hO
  have dge : decide ((kq : Int) ≥ (ps.length : Int)) = false := by simp; omega
  have dge' : decide ((ps.length : Int) ≤ (kq : Int)) = false := by simp; omega
  have dne : ((kq : Int) == (kp : Int)) = false := by rw [beq_eq_false_iff_ne]; omega
  have kp0 : (0 : Int) ≤ (kp : Int) := by omega
  have kp1 : (kp : Int) < (ps.length : Int) := by omega
  have kq0 : (0 : Int) ≤ (kq : Int) := by omega
  have kq1 : (kq : Int) < (ps.length : Int) := by omega
  have HPL := Lib.hid hpl
  have HRP := Lib.hid hrP
  have HRQ := Lib.hid hrQ
  have hay0 : s.an ≤ b.td := hay
  have HCN := Lib.hid hcn
  have HOK := Lib.hid hok
  have HAY := Lib.hid hay
  have HAT := Lib.hid hAt
  have HCC := Lib.hid hc
  clear hcn hok hay hAt hc
  clear hrP hrQ
  have d0 : (s.st == 0) = false := by rw [hst]; decide
  have n0 : (s.st != 0) = true := by rw [hst]; decide
  have d1 : (s.st == 1) = true := by rw [hst]; decide
  have n1 : (s.st != 1) = false := by rw [hst]; decide
  have d2 : (s.st == 2) = false := by rw [hst]; decide
  have n2 : (s.st != 2) = true := by rw [hst]; decide
  have d3 : (s.st == 3) = false := by rw [hst]; decide
  have n3 : (s.st != 3) = true := by rw [hst]; decide
  clear hst
  go_upto_region 49 with (first | ((with_reducible_and_instances (show wpList _ _ _ (Oper.mk _ (Op.load 36 _ ) _ _ _ _ :: _) _ _)); refine wpList_load_mid rfl _ _ rfl w.heap.size (2 + i * 7) rfl (s.arr v).toList _ (HRG.out _ (boxed_at hz0)) Try.underlying36 rfl info7s ?_; rw [Array.toArray_toList]) | ((with_reducible_and_instances (show wpList _ _ _ (Oper.mk _ (Op.store 36 _ _ ) _ _ _ _ :: _) _ _)); refine wl_store info7s rfl rfl rfl rfl (by (repeat (first | assumption | (with_reducible refine alloc_at ?_; (focus (first | omega | (simp; done) | (simp; omega)))) | (with_reducible refine boxed_at ?_; (focus (first | omega | (simp; done) | (simp; omega)))) | (with_reducible refine alloc_old ?_ ?_; (focus (first | omega | (simp; done) | (simp; omega)))) | (with_reducible refine boxed_old ?_ ?_; (focus (first | omega | (simp; done) | (simp; omega)))) | (with_reducible refine drew_old ?_)))) (by rfl) (by rfl) (Sv.arr_one hv1) ?_))
  obtain ⟨W1, hW1⟩ : ∃ W1, boxed ((boxed W0 w.heap.size b.arr 73).alloc (.cells #[.int .u8 0, .int .i64 0, .int .i64 0, .int .i64 0, .int .i64 0, .bool false, .slice none 0 0] 36)) W0.heap.size (s.arr v) 36 = W1 := ⟨_, rfl⟩
  have hB1 : W1.heap[w.heap.size]? = some (.cells b.arr 73 (0, 0)) := by rw [← hW1]; exact boxed_old (by omega) (alloc_old (by simp; omega) (boxed_at hz0))
  have hS1 : W1.heap[W0.heap.size]? = some (.cells (s.arr v) 36 (0, 0)) := by rw [← hW1]; exact boxed_at (by simp)
  have hZ1 : W1.heap[w.heap.size + 1 + 1]? = some (.cells Try.zeroCells73 73 (0, 0)) := by rw [← hW1]; exact boxed_old (by omega) (alloc_old (by simp; omega) (boxed_old (by omega) hZ))
  have hk1 : ∀ i, i < W0.heap.size → i ≠ w.heap.size → W1.heap[i]? = W0.heap[i]? := fun i h1 h2 => by
    rw [← hW1, boxed_block_other (by omega), alloc_block_old (by rw [boxed_size]; omega), boxed_block_other (by omega)]
  have hO1 : W1.heap[w.heap.size + 1]? = some (.cells #[.int .u8 3, .int .i64 (i : Int), .int .i64 (kq : Int), .int .i64 0, .int .i64 0, .int .u8 0, .int .i64 0, .int .i64 0, .bool false, .bool false, .int .u8 0, .int .i64 0, .int .i64 0, .int .i64 0, .int .i64 0, .int .u8 0] 61 (0, 0)) := (hk1 (w.heap.size + 1) (by omega) (by omega)).trans hO9
  have HW1 : Hid (Below w.heap.size w W1) := by
    show Below _ _ _
    rw [← hW1]; exact boxed_below ((boxed_below HW.out (Nat.le_refl _)).alloc (by simp; omega) _) (by omega)
  have hkw : ∀ i, i < w.heap.size → W1.heap[i]? = w.heap[i]? := fun i hi => HW1.out.block i hi
  have HRP1 : Hid (W1.rangeAt pg (po + kp * 6) P.arr.toList) := fun j u hu => (World.cell?_of_block (a := ⟨pg, po + kp * 6 + j, none⟩) (hkw pg hpg)).trans (HRP.out j u hu)
  have HRQ1 : Hid (W1.rangeAt pg (po + kq * 6) Q.arr.toList) := fun j u hu => (World.cell?_of_block (a := ⟨pg, po + kq * 6 + j, none⟩) (hkw pg hpg)).trans (HRQ.out j u hu)
  have hz1s : W0.heap.size < W1.heap.size := (Array.getElem?_eq_some_iff.1 hS1).1
  have hz10 : w.heap.size < W1.heap.size := by omega
  have hz11 : w.heap.size + 1 < W1.heap.size := by omega
  have hz12 : w.heap.size + 1 + 1 < W1.heap.size := by omega
  rw [hW1]
  clear hW1 hk1 hkw o0 o1 o2 o3 o10 o11 o12 o13 o14 o15 hZ
  obtain ⟨o0, o1, o2, o3, _⟩ := ocells hO1
  obtain ⟨m0, m1, m2, m3, m4, m5, m6⟩ := scells hS1
  rw [HPL.out] at m1
  have n0 : W1.cell? ⟨w.heap.size, 0, none⟩ = some (.int .i64 b.td) := (cell_of_row _ _ _ _ _ _ hB1).trans b.at0
  have n1 : W1.cell? ⟨w.heap.size, 1, none⟩ = some (.slice (some ⟨pg, po, none⟩) ps.length pc) := (cell_of_row _ _ _ _ _ _ hB1).trans (by rw [b.at1, hvp])
  clear hvp
  go_wp2_with (((with_reducible_and_instances (show wpList _ _ _ (Oper.mk _ (Op.load 26 _ ) _ _ _ _ :: _) _ _)); refine stop_here ?_))
  refine ⟨?_⟩
  refine wpList_load_mid rfl _ _ rfl pg (po + kp * 6) rfl P.arr.toList _ HRP1.out Try.underlying26 rfl info6p ?_
  rw [Array.toArray_toList]
  go_wp2_with (first | ((with_reducible_and_instances (show wpList _ _ _ (Oper.mk _ (Op.store 26 _ _) _ _ _ _ :: _) _ _)); refine wl_store info6p rfl rfl rfl rfl (by (repeat (first | assumption | (with_reducible refine alloc_at ?_; (focus (first | omega | (simp; done) | (simp; omega)))) | (with_reducible refine boxed_at ?_; (focus (first | omega | (simp; done) | (simp; omega)))) | (with_reducible refine alloc_old ?_ ?_; (focus (first | omega | (simp; done) | (simp; omega)))) | (with_reducible refine boxed_old ?_ ?_; (focus (first | omega | (simp; done) | (simp; omega)))) | (with_reducible refine drew_old ?_)))) (by rfl) (by rfl) (by first | exact Cv.arr_one _ | exact Nv.arr_one _ | exact Av.arr_one rfl | exact Sv.arr_one rfl | exact Pv.arr_one _ | simp [Value.oneCell']) ?_) | (((with_reducible_and_instances (show wpList _ _ _ (Oper.mk _ (Op.load 26 _ ) _ _ _ _ :: _) _ _)); refine stop_here ?_)))
  refine ⟨?_⟩
  refine wpList_load_mid rfl _ _ rfl pg (po + kq * 6) rfl Q.arr.toList _ (World.rangeAt_alloc HRQ1.out _) Try.underlying26 rfl info6p ?_
  rw [Array.toArray_toList]
  go_wp2_with (first | ((with_reducible_and_instances (show wpList _ _ _ (Oper.mk _ (Op.store 26 _ _) _ _ _ _ :: _) _ _)); refine wl_store info6p rfl rfl rfl rfl (by (repeat (first | assumption | (with_reducible refine alloc_at ?_; (focus (first | omega | (simp; done) | (simp; omega)))) | (with_reducible refine boxed_at ?_; (focus (first | omega | (simp; done) | (simp; omega)))) | (with_reducible refine alloc_old ?_ ?_; (focus (first | omega | (simp; done) | (simp; omega)))) | (with_reducible refine boxed_old ?_ ?_; (focus (first | omega | (simp; done) | (simp; omega)))) | (with_reducible refine drew_old ?_)))) (by rfl) (by rfl) (by first | exact Cv.arr_one _ | exact Nv.arr_one _ | exact Av.arr_one rfl | exact Sv.arr_one rfl | exact Pv.arr_one _ | simp [Value.oneCell']) ?_) | ((with_reducible_and_instances (show wpList _ _ _ (Oper.mk _ (Op.load 26 _) _ _ _ _ :: _) _ _)); refine wl_load Try.underlying26 rfl info6p rfl rfl rfl (by (repeat (first | assumption | (with_reducible refine alloc_at ?_; (focus (first | omega | (simp; done) | (simp; omega)))) | (with_reducible refine boxed_at ?_; (focus (first | omega | (simp; done) | (simp; omega)))) | (with_reducible refine alloc_old ?_ ?_; (focus (first | omega | (simp; done) | (simp; omega)))) | (with_reducible refine boxed_old ?_ ?_; (focus (first | omega | (simp; done) | (simp; omega)))) | (with_reducible refine drew_old ?_)))) (by rfl) ?_))
  have hlast := HCN.out.all (s.ix - 1) (by have := HCN.out.pos HAT.out HAY.out; omega) (by omega)
  have hc1 := HCN.out.pos HAT.out HAY.out
  have hnext := HCN.out.out HOK.out
  have hbd := Cal.vN_bd HAT.out hE.1 (show 0 ≤ s.ix by omega) HOK.out
  have hbd2 := Cal.vN_bd HAT.out hE.1 (show 0 ≤ s.ix - 1 by omega) hlast.1
  refine (refspan_any HAT.out hU hE HAY.out HCN.out HCC.out).mono ?_
  rintro e w2 ⟨he, _, hb⟩
  obtain rfl := he HOK.out
  obtain ⟨f1, hf1⟩ : ∃ f1, Cal.vN P.u s.an k d P.e (s.ix - 1) = f1 := ⟨_, rfl⟩
  obtain ⟨f2, hf2⟩ : ∃ f2, Cal.vN P.u s.an k d P.e s.ix = f2 := ⟨_, rfl⟩
  have hl2 := hlast.2
  rw [hf1] at hl2 hbd2 ⊢
  rw [hf2] at hnext hbd ⊢
  obtain ⟨LF, hLF⟩ : ∃ LF, f2 - b.td = LF := ⟨_, rfl⟩
  obtain ⟨DY, hDY⟩ : ∃ DY, f2 - f1 = DY := ⟨_, rfl⟩
  obtain ⟨R0, hR0⟩ : ∃ R0, P.a * LF / DY = R0 := ⟨_, rfl⟩
  obtain ⟨R1, hR1⟩ : ∃ R1, Q.a * LF / DY = R1 := ⟨_, rfl⟩
  have hb0 := Dv.part_bd hpa.1 (show 0 ≤ LF by omega) (show LF ≤ DY by omega) (by omega)
  have hb1 := Dv.part_bd hqa.1 (show 0 ≤ LF by omega) (show LF ≤ DY by omega) (by omega)
  have hm0 : 0 ≤ P.a * LF ∧ P.a * LF ≤ 100000000000 * 4000000 := ⟨Int.mul_nonneg hpa.1 (by omega), Int.mul_le_mul hpa.2 (by omega) (by omega) (by omega)⟩
  have hm1 : 0 ≤ Q.a * LF ∧ Q.a * LF ≤ 100000000000 * 4000000 := ⟨Int.mul_nonneg hqa.1 (by omega), Int.mul_le_mul hqa.2 (by omega) (by omega) (by omega)⟩
  rw [hR0] at hb0
  rw [hR1] at hb1
  have HRR0 : Hid (P.a * (f2 - b.td) / (f2 - f1) = R0) := by show _ = _; rw [hLF, hDY]; exact hR0
  have HRR1 : Hid (Q.a * (f2 - b.td) / (f2 - f1) = R1) := by show _ = _; rw [hLF, hDY]; exact hR1
  have ewl : wrap64 (f2 - b.td) = LF := by rw [hLF]; unfold wrap64; omega
  have ewd : wrap64 (f2 - f1) = DY := by rw [hDY]; unfold wrap64; omega
  have ed0 : ¬ DY = 0 := by omega
  have ed1 : (DY == 0) = false := by rw [beq_eq_false_iff_ne]; omega
  obtain ⟨M0, hM0⟩ : ∃ M0, P.a * LF = M0 := ⟨_, rfl⟩
  obtain ⟨M1, hM1⟩ : ∃ M1, Q.a * LF = M1 := ⟨_, rfl⟩
  rw [hM0] at hm0 hR0
  rw [hM1] at hm1 hR1
  have ew0 : wrap64 M0 = M0 := by unfold wrap64; omega
  have ew1 : wrap64 M1 = M1 := by unfold wrap64; omega
  have et0 : M0.tdiv DY = R0 := by rw [Int.tdiv_eq_ediv_of_nonneg (by omega), hR0]
  have et1 : M1.tdiv DY = R1 := by rw [Int.tdiv_eq_ediv_of_nonneg (by omega), hR1]
  have ewr0 : wrap64 R0 = R0 := by unfold wrap64; omega
  have ewr1 : wrap64 R1 = R1 := by unfold wrap64; omega
  have ewx : wrap64 (R0 - R1) = R0 - R1 := by unfold wrap64; omega
  have ewc : wrap64 (s.cr + (R0 - R1)) = s.cr + (R0 - R1) := by unfold wrap64; omega
  have iw0 : IntKind.i64.wrap M0 = M0 := by rw [IntKind.wrap_i64]; omega
  have iw1 : IntKind.i64.wrap M1 = M1 := by rw [IntKind.wrap_i64]; omega
  have iwr0 : IntKind.i64.wrap R0 = R0 := by rw [IntKind.wrap_i64]; omega
  have iwr1 : IntKind.i64.wrap R1 = R1 := by rw [IntKind.wrap_i64]; omega
  have iwx : IntKind.i64.wrap (R0 - R1) = R0 - R1 := by rw [IntKind.wrap_i64]; omega
  have iwc : IntKind.i64.wrap (s.cr + (R0 - R1)) = s.cr + (R0 - R1) := by rw [IntKind.wrap_i64]; omega
  have ef2 : (f2 == 0) = false := by rw [beq_eq_false_iff_ne]; omega
  have dix : decide (s.ix > 0) = true := by simp; omega
  have dix' : decide (0 < s.ix) = true := by simp; omega
  have HF1 := Lib.hid hf1
  have HF2 := Lib.hid hf2
  clear he hlast hc1 hnext hbd hbd2 hl2 hb0 hb1 hm0 hm1 hR0 hR1 hf1 hf2 hLF hDY
  have hblk : ∀ i, i < W1.heap.size → w2.heap[i]? = W1.heap[i]? := fun i h9 => (hb.block i (by simp; omega)).trans ((boxed_block_other (by omega)).trans ((alloc_block_old (by simp; omega)).trans (alloc_block_old h9)))
  have hB2 : w2.heap[w.heap.size]? = some (.cells b.arr 73 (0, 0)) := (hblk _ hz10).trans hB1
  have hS2 : w2.heap[W0.heap.size]? = some (.cells (s.arr v) 36 (0, 0)) := (hblk _ hz1s).trans hS1
  have hZ2 : w2.heap[w.heap.size + 1 + 1]? = some (.cells Try.zeroCells73 73 (0, 0)) := (hblk _ hz12).trans hZ1
  have hO2 : w2.heap[w.heap.size + 1]? = some (.cells #[.int .u8 3, .int .i64 (i : Int), .int .i64 (kq : Int), .int .i64 0, .int .i64 0, .int .u8 0, .int .i64 0, .int .i64 0, .bool false, .bool false, .int .u8 0, .int .i64 0, .int .i64 0, .int .i64 0, .int .i64 0, .int .u8 0] 61 (0, 0)) := (hblk _ hz11).trans hO1
  have hPP : w2.heap[W1.heap.size]? = some (.cells P.arr 26 (0, 0)) := below_block hb (boxed_old (by omega) (alloc_old (by simp) (alloc_at rfl)))
  have hQQ : w2.heap[W1.heap.size + 1]? = some (.cells Q.arr 26 (0, 0)) := below_block hb (boxed_at (by simp))
  have HW2 : Hid (Below w.heap.size w w2) := (boxed_below ((HW1.out.alloc HW1.out.size _).alloc (by have := HW1.out.size; simp; omega) _) (by have := HW1.out.size; omega)).trans (hb.mono (by have := HW1.out.size; simp; omega))
  have hzw2 : W1.heap.size + 1 < w2.heap.size := (Array.getElem?_eq_some_iff.1 hQQ).1
  have hz2s : W0.heap.size < w2.heap.size := by omega
  clear hb o0 o1 o2 o3 m0 m1 m2 m3 m4 m5 m6 n0 n1 hblk
  obtain ⟨o0, o1, o2, o3, _⟩ := ocells hO2
  obtain ⟨qq0, qq1, qq2, qq3, qq4, qq5⟩ := pcells hPP
  obtain ⟨rr0, rr1, rr2, rr3, rr4, rr5⟩ := pcells hQQ
  have n0 : w2.cell? ⟨w.heap.size, 0, none⟩ = some (.int .i64 b.td) := (cell_of_row _ _ _ _ _ _ hB2).trans b.at0
  have e9 := boxed_self hS2
  rw [e9]
  clear e9
  go_upto_region 57 with (fail)
  go_region
  go_upto_region 93 with (fail)
  obtain ⟨s2, hs2⟩ : ∃ s2, ({ s with cr := s.cr + (R0 - R1), an := f2, pl := (kq : Int), ix := 0 } : Sv) = s2 := ⟨_, rfl⟩
  rw [hs2]
  obtain ⟨W9, hW9⟩ : ∃ W9, (boxed w2 W0.heap.size (s2.arr v) 36).drew = W9 := ⟨_, rfl⟩
  have hBn : W9.heap[w.heap.size]? = some (.cells b.arr 73 (0, 0)) := by rw [← hW9]; exact drew_old (boxed_old (by omega) hB2)
  have hSn : W9.heap[W0.heap.size]? = some (.cells (s2.arr v) 36 (0, 0)) := by rw [← hW9]; exact drew_old (boxed_at hz2s)
  have hZn : W9.heap[w.heap.size + 1 + 1]? = some (.cells Try.zeroCells73 73 (0, 0)) := by rw [← hW9]; exact drew_old (boxed_old (by omega) hZ2)
  have hOn : W9.cell? ⟨w.heap.size + 1, 1, none⟩ = some (.int .i64 (i : Int)) := by
    rw [← hW9]; exact (World.cell?_of_block (a := ⟨w.heap.size + 1, 1, none⟩) (boxed_block_other (show w.heap.size + 1 ≠ W0.heap.size by omega))).trans o1
  have HWn : Hid (Below w.heap.size w W9) := by
    show Below _ _ _
    rw [← hW9]; exact (boxed_below HW2.out (by omega)).drew
  have HPUT : Hid (b.put i ({ b.s i with cr := (b.s i).cr + (P.a * (Cal.vN P.u (b.s i).an k d P.e (b.s i).ix - b.td) / (Cal.vN P.u (b.s i).an k d P.e (b.s i).ix - Cal.vN P.u (b.s i).an k d P.e ((b.s i).ix - 1)) - Q.a * (Cal.vN P.u (b.s i).an k d P.e (b.s i).ix - b.td) / (Cal.vN P.u (b.s i).an k d P.e (b.s i).ix - Cal.vN P.u (b.s i).an k d P.e ((b.s i).ix - 1))), an := Cal.vN P.u (b.s i).an k d P.e (b.s i).ix, pl := (kq : Int), ix := 0 } : Sv) (b.v i) = b.put i s2 v) := by
    show _ = _
    rw [HS.out, HV.out, ← hs2, HF2.out, HF1.out, HRR0.out, HRR1.out]
  have hb2 : (b.put i s2 v).arr.all (·.oneCell') = true := (HON.out.put i s2 hv1).arr
  rw [hW9]
  have hz9s : W0.heap.size < W9.heap.size := (Array.getElem?_eq_some_iff.1 hSn).1
  clear hB1 hS1 hZ1 hO1 HW1 hz10 hz11 hz12 hz1s hs2 hW9 o0 o1 o2 o3 n0 qq0 qq1 qq2 qq3 qq4 qq5 rr0 rr1 rr2 rr3 rr4 rr5
  have hB1 := hBn
  have hS1 := hSn
  have hZ1 := hZn
  have hO1 := hOn
  have HW1 := HWn
  have hz10 : w.heap.size < W9.heap.size := by omega
  have hz12 : w.heap.size + 1 + 1 < W9.heap.size := by omega
  have hz1s : W0.heap.size < W9.heap.size := hz9s
  clear hBn hSn hZn hOn HWn hB2 hS2 hZ2 hO2
  have e9 := boxed_self hB1
  rw [e9]
  clear e9
  go_wp2_with (((with_reducible_and_instances (show wpList _ _ _ (Oper.mk _ (Op.load 36 _ ) _ _ _ _ :: _) _ _)); refine stop_here ?_))
  refine ⟨?_⟩
  refine wl_load (cs := s2.arr v) (fr := (0, 0)) (g := W0.heap.size) Try.underlying36 rfl info7s rfl rfl rfl (boxed_old (by omega) hS1) (by rfl) ?_
  go_wp2_with (((with_reducible_and_instances (show wpList _ _ _ (Oper.mk _ (Op.store 36 _ _ ) _ _ _ _ :: _) _ _)); refine stop_here ?_))
  refine ⟨?_⟩
  refine wpList_store_mid rfl _ _ _ rfl (w.heap.size) (2 + i * 7) (s2.arr v) rfl rfl (Bk.there (by omega) hi) info7s (Sv.arr_one hv1) ?_
  rw [Bk.store]
  go_wp2_with (((with_reducible_and_instances (show wpList _ _ _ (Oper.mk _ (Op.load 73 _ ) _ _ _ _ :: _) _ _)); refine stop_here ?_))
  refine ⟨?_⟩
  refine wl_load (cs := (b.put i s2 v).arr) (fr := (0, 0)) (g := w.heap.size) Try.underlying73 rfl Bk.info rfl rfl rfl (boxed_at (by omega)) (Bk.arr_size _) ?_
  go_wp2_with (((with_reducible_and_instances (show wpList _ _ _ (Oper.mk _ (Op.store 73 _ _ ) _ _ _ _ :: _) _ _)); refine stop_here ?_))
  refine ⟨?_⟩
  refine wl_store (g := w.heap.size + 1 + 1) Bk.info rfl rfl rfl rfl (boxed_old (by omega) hZ1) Bk.zero_size (Bk.arr_size _) hb2 ?_
  go_wp2_with (fail)
  refine bodyPost_ret (results_row_tmp rfl _ _ (w.heap.size + 1 + 1) 73 _ (0, 0) _ rfl (boxed_at (by rw [boxed_size]; omega)) Try.underlying73 rfl (by rw [Bk.arr_size]; exact Bk.info)) rfl ?_
  exact ⟨by rw [HPUT.out]; rfl, boxed_below (boxed_below HW1.out (Nat.le_refl _)) (by omega)⟩
end Go.Proofs.Ytnbfkdcpghkglaa
