/-
  AccountKeeps: what is handed in stays as it was; a copy has a list of its own. No conditions.
-/
import Derived.Test.YtnbfkdcpghkglaaPb33
set_option linter.unusedSimpArgs false
set_option linter.unusedVariables false
namespace Go.Proofs.Ytnbfkdcpghkglaa
set_option maxRecDepth 100000
open Go.ChangeShapes Go.WideShapes Go.ChangeAt Go.RowKit

theorem Wd.at7 (b : Wd) : b.arr[7]? = some b.va := b.get (by omega)
theorem Rel.later {ps : Nat → Pv} {i lo hi : Nat} {w W : World} {b : Wd} (h : Rel ps i lo hi w b) (hb : Below w.heap.size w W) : Rel ps i lo hi W b := ⟨h.p, h.a, h.td, h.va, h.vs, h.ca.below hb h.lo_le, h.cs.below hb h.lo_le, Nat.le_trans h.lo_le hb.size, Nat.le_trans h.hi_le hb.size⟩
theorem Rel.va_form {ps : Nat → Pv} {i lo hi : Nat} {w : World} {b : Wd} (h : Rel ps i lo hi w b) : ∃ A c, b.va = .slice A b.a.l.length c := by
  rcases h.ca with g | g
  · obtain ⟨A, c, he, _⟩ := g; exact ⟨A, c, he⟩
  · obtain ⟨A, c, he, _⟩ := g; exact ⟨A, c, he⟩
set_option maxHeartbeats 8000000 in
theorem accountKeeps_walk (a0 : Int) (w0 : (Lit.int .u8 a0).wf = true) (a1 : Int) (w1 : (Lit.int .u8 a1).wf = true) (a2 : Int) (w2 : (Lit.int .u16 a2).wf = true) (A3 : Option Addr) (c3 : Nat) (l : List Ac3) {w : World} (r3 : RdAc3 w w.heap.size A3 l) (w3 : ∀ p ∈ l, Ac3.Wf p) :
    Calls Try.prog 4 #[.int .u8 a0, .int .u8 a1, .int .u16 a2, .slice A3 l.length c3] w fun e w' => e = .returned (.bool true) ∧ Below w.heap.size w w' := by
  obtain ⟨h00, h01⟩ := wf_u8 w0
  obtain ⟨h10, h11⟩ := wf_u8 w1
  obtain ⟨h20, h21⟩ := wf_u16 w2
  have HRD := Lib.hid r3
  have HWF := Lib.hid w3
  obtain ⟨n, hn⟩ : ∃ n, l.length = n := ⟨_, rfl⟩
  rw [hn]
  have HN := Lib.hid hn
  clear r3 w3 hn
  go_enter Try.func4, Try.ntmps4
  go_wp2_with fail
  refine (acawake_any _).mono ?_
  rintro e w1 ⟨rfl, hb1⟩
  have HW1 := Lib.hid hb1
  clear hb1
  by_cases hlong : 20 < n
  · have d1 : decide (20 < (n : Int)) = true := by simp; omega
    have d2 : decide ((n : Int) > 20) = true := by simp; omega
    go_wp2_with fail
    refine (acawake_any _).mono ?_
    rintro e w2 ⟨rfl, hb2⟩
    go_wp2_with fail
    go_ret
    exact ⟨rfl, HW1.out.trans (hb2.mono HW1.out.size)⟩
  have d1 : decide (20 < (n : Int)) = false := by simp; omega
  have d2 : decide ((n : Int) > 20) = false := by simp; omega
  go_wp2_with fail
  refine (plans_any a0 a1 ⟨h00, by omega⟩ ⟨h10, by omega⟩ _).mono ?_
  rintro e w2 ⟨rfl, hb2⟩
  have HW2 : Hid (Below w.heap.size w w2) := HW1.out.trans (hb2.mono HW1.out.size)
  have HPS := Lib.hid (twoOf_ok a0 a1)
  have HT0 : Hid (0 ≤ (twoOf a0 a1 0).t ∧ (twoOf a0 a1 0).t ≤ 1000) := by show _ ∧ _; have := (Pv.of_bd a0).2.2.2; unfold twoOf; rw [if_pos rfl]; omega
  clear hb2 HW1
  generalize twoOf a0 a1 = ps at HPS HT0 ⊢
  go_wp2_with (((with_reducible_and_instances (show wpList _ _ _ (Oper.mk _ (Op.store 27 _ _) _ _ _ _ :: _) _ _)); refine stop_here ?_))
  refine ⟨?_⟩
  refine wl_store (g := w2.heap.size) Tw.info rfl rfl rfl rfl (alloc_at rfl) rfl (Tw.arr_size _) (Tw.arr_one _) ?_
  obtain ⟨W3, hW3⟩ : ∃ W3, boxed (w2.alloc (.cells #[.int .i64 0, .int .u8 0, .int .i64 0, .int .i64 0, .bool false, .bool false, .int .i64 0, .int .u8 0, .int .i64 0, .int .i64 0, .bool false, .bool false] 27)) w2.heap.size (Tw.arr ps) 27 = W3 := ⟨_, rfl⟩
  have p3 : W3.heap[w2.heap.size]? = some (.cells (Tw.arr ps) 27 (0, 0)) := by rw [← hW3]; exact boxed_at (by simp)
  have HW3 : Hid (Below w.heap.size w W3) := by rw [← hW3]; exact boxed_below (HW2.out.alloc HW2.out.size _) HW2.out.size
  rw [hW3]
  clear hW3
  obtain ⟨T, hT⟩ : ∃ T, w2.heap.size = T := ⟨_, rfl⟩
  rw [hT] at p3 ⊢
  clear hT HW2 w2
  have ew : wrap64 (700000 + a2) = 700000 + a2 := by unfold wrap64; omega
  go_wp2_with (((with_reducible_and_instances (show wpList _ _ _ (Oper.mk _ (Op.load 27 _) _ _ _ _ :: _) _ _)); refine stop_here ?_))
  refine ⟨?_⟩
  refine wl_load (cs := Tw.arr ps) (fr := (0, 0)) (g := T) Try.underlying27 rfl Tw.info rfl rfl rfl p3 (Tw.arr_size _) ?_
  go_wp2_with fail
  clear ew
  refine (begin_rel (HPS.out 0 (by omega)).1 HT0.out ⟨by omega, by omega⟩).mono ?_
  rintro e w4 ⟨wd0, rfl, hrel0, hb4⟩
  have p4 : w4.heap[T]? = some (.cells (Tw.arr ps) 27 (0, 0)) := below_block hb4 p3
  have HW4 : Hid (Below w.heap.size w w4) := HW3.out.trans (hb4.mono HW3.out.size)
  have hrel1 := hrel0 ((w4.alloc (.cells #[.int .u8 0, .int .i64 0, .int .i64 0, .int .i64 0, .int .i64 0, .int .i64 0, .bool false, .slice none 0 0, .int .i64 0, .int .i64 0, .int .i64 0, .int .i64 0, .int .i64 0, .int .u8 0, .int .i64 0, .int .i64 0, .int .i64 0, .int .i64 0, .bool false, .slice none 0 0, .int .i64 0, .int .i64 0] 38))) w4.heap.size (w4.heap.size + 1) ((Below.refl _ w4).alloc (Nat.le_refl _) _) rfl (by simp)
  have HREL1 : Hid (Rel ps 0 w4.heap.size (w4.heap.size + 1) (boxed (w4.alloc (.cells #[.int .u8 0, .int .i64 0, .int .i64 0, .int .i64 0, .int .i64 0, .int .i64 0, .bool false, .slice none 0 0, .int .i64 0, .int .i64 0, .int .i64 0, .int .i64 0, .int .i64 0, .int .u8 0, .int .i64 0, .int .i64 0, .int .i64 0, .int .i64 0, .bool false, .slice none 0 0, .int .i64 0, .int .i64 0] 38)) w4.heap.size wd0.arr 38) wd0) := hrel1.boxed
  have hone := Wd.arr_one hrel1.va hrel1.vs
  clear hrel0 hb4 p3 HW3 hrel1
  go_wp2_with (((with_reducible_and_instances (show wpList _ _ _ (Oper.mk _ (Op.store 38 _ _) _ _ _ _ :: _) _ _)); refine stop_here ?_))
  refine ⟨?_⟩
  refine wl_store (g := w4.heap.size) Wd.info rfl rfl rfl rfl (alloc_at rfl) rfl (Wd.arr_size _) hone ?_
  have hD0 : w.heap.size ≤ w4.heap.size := HW4.out.size
  have hT4 : T < w4.heap.size := (Array.getElem?_eq_some_iff.1 p4).1
  have p5 : (boxed (w4.alloc (.cells #[.int .u8 0, .int .i64 0, .int .i64 0, .int .i64 0, .int .i64 0, .int .i64 0, .bool false, .slice none 0 0, .int .i64 0, .int .i64 0, .int .i64 0, .int .i64 0, .int .i64 0, .int .u8 0, .int .i64 0, .int .i64 0, .int .i64 0, .int .i64 0, .bool false, .slice none 0 0, .int .i64 0, .int .i64 0] 38)) w4.heap.size wd0.arr 38).heap[T]? = some (.cells (Tw.arr ps) 27 (0, 0)) := boxed_old (by omega) (alloc_old hT4 p4)
  have q5 : (boxed (w4.alloc (.cells #[.int .u8 0, .int .i64 0, .int .i64 0, .int .i64 0, .int .i64 0, .int .i64 0, .bool false, .slice none 0 0, .int .i64 0, .int .i64 0, .int .i64 0, .int .i64 0, .int .i64 0, .int .u8 0, .int .i64 0, .int .i64 0, .int .i64 0, .int .i64 0, .bool false, .slice none 0 0, .int .i64 0, .int .i64 0] 38)) w4.heap.size wd0.arr 38).heap[w4.heap.size]? = some (.cells wd0.arr 38 (0, 0)) := boxed_at (by simp)
  have HW5 : Hid (Below w.heap.size w (boxed (w4.alloc (.cells #[.int .u8 0, .int .i64 0, .int .i64 0, .int .i64 0, .int .i64 0, .int .i64 0, .bool false, .slice none 0 0, .int .i64 0, .int .i64 0, .int .i64 0, .int .i64 0, .int .i64 0, .int .u8 0, .int .i64 0, .int .i64 0, .int .i64 0, .int .i64 0, .bool false, .slice none 0 0, .int .i64 0, .int .i64 0] 38)) w4.heap.size wd0.arr 38)) := boxed_below (HW4.out.alloc HW4.out.size _) HW4.out.size
  have hz5 : w4.heap.size < (boxed (w4.alloc (.cells #[.int .u8 0, .int .i64 0, .int .i64 0, .int .i64 0, .int .i64 0, .int .i64 0, .bool false, .slice none 0 0, .int .i64 0, .int .i64 0, .int .i64 0, .int .i64 0, .int .i64 0, .int .u8 0, .int .i64 0, .int .i64 0, .int .i64 0, .int .i64 0, .bool false, .slice none 0 0, .int .i64 0, .int .i64 0] 38)) w4.heap.size wd0.arr 38).heap.size := by simp
  have HREL5 : Hid (Rel ps 0 w4.heap.size (w4.heap.size + 1) (boxed (w4.alloc (.cells #[.int .u8 0, .int .i64 0, .int .i64 0, .int .i64 0, .int .i64 0, .int .i64 0, .bool false, .slice none 0 0, .int .i64 0, .int .i64 0, .int .i64 0, .int .i64 0, .int .i64 0, .int .u8 0, .int .i64 0, .int .i64 0, .int .i64 0, .int .i64 0, .bool false, .slice none 0 0, .int .i64 0, .int .i64 0] 38)) w4.heap.size wd0.arr 38) wd0) := HREL1.out
  obtain ⟨W5, hW5⟩ : ∃ W5, boxed (w4.alloc (.cells #[.int .u8 0, .int .i64 0, .int .i64 0, .int .i64 0, .int .i64 0, .int .i64 0, .bool false, .slice none 0 0, .int .i64 0, .int .i64 0, .int .i64 0, .int .i64 0, .int .i64 0, .int .u8 0, .int .i64 0, .int .i64 0, .int .i64 0, .int .i64 0, .bool false, .slice none 0 0, .int .i64 0, .int .i64 0] 38)) w4.heap.size wd0.arr 38 = W5 := ⟨_, rfl⟩
  rw [hW5] at p5 q5 HW5 hz5 HREL5 ⊢
  obtain ⟨D, hD⟩ : ∃ D, w4.heap.size = D := ⟨_, rfl⟩
  rw [hD] at q5 hz5 HREL5 hT4 hD0 ⊢
  have HP5 := Lib.hid p5
  have HD5 := Lib.hid q5
  clear hW5 hD p4 HW4 HREL1 hone p5 q5 w4
  go_wp2_with fail
  go_loopw [11, 12] (fun ok i wq => ∃ (j : Nat) (wd : Wd), j ≤ n ∧ ok = .bool true ∧ i = .int .i64 j ∧ Hid (Below w.heap.size w wq) ∧ Hid (wq.heap[T]? = some (.cells (Tw.arr ps) 27 (0, 0))) ∧ Hid (wq.heap[D]? = some (.cells wd.arr 38 (0, 0))) ∧ Hid (Rel ps j D (D + 1) wq wd)) (fun _ i _ => n - (intOf i).toNat)
  case atStart => exact ⟨0, wd0, by omega, rfl, rfl, HW5, HP5, HD5, HREL5⟩
  case round =>
    clear HW5 HP5 HD5 HREL5
    obtain ⟨j, wd, hj, rfl, rfl, HW, HP, HD, HREL⟩ := hrel
    by_cases hlt : j < n
    case pos =>
      have dlt : decide ((j : Int) < (n : Int)) = true := by simp; omega
      have hln := HN.out
      have hst0 := HREL.out.va_form
      obtain ⟨AV, cv, hva⟩ := hst0
      obtain ⟨n1, hn1⟩ : ∃ n1, wd.a.l.length = n1 := ⟨_, rfl⟩
      obtain ⟨ol, hol⟩ : ∃ ol, wd.a.l = ol := ⟨_, rfl⟩
      have hlen1 := (HREL.out.len (by omega)).2
      have hrone := Wd.arr_one HREL.out.va HREL.out.vs
      have hd0 := HD.out
      have hp0 := HP.out
      rw [hn1] at hva hlen1
      have HVA := Lib.hid hva
      have HOL : Hid (ol.length = n1) := by rw [← hol]; exact hn1
      have HOLE := Lib.hid hol
      clear hva hn1 hol
      go_wp2_with (((with_reducible_and_instances (show wpList _ _ _ (Oper.mk _ (Op.load 38 _) _ _ _ _ :: _) _ _)); refine stop_here ?_))
      refine ⟨?_⟩
      refine wl_load (cs := wd.arr) (fr := (0, 0)) (g := D) Try.underlying38 rfl Wd.info rfl rfl rfl hd0 (Wd.arr_size _) ?_
      go_wp2_with (((with_reducible_and_instances (show wpList _ _ _ (Oper.mk _ (Op.store 38 _ _) _ _ _ _ :: _) _ _)); refine stop_here ?_))
      refine ⟨?_⟩
      refine wl_store (g := wr.heap.size) Wd.info rfl rfl rfl rfl (alloc_at rfl) rfl (Wd.arr_size _) hrone ?_
      obtain ⟨Wa, hWa⟩ : ∃ Wa, boxed (wr.alloc (.cells #[.int .u8 0, .int .i64 0, .int .i64 0, .int .i64 0, .int .i64 0, .int .i64 0, .bool false, .slice none 0 0, .int .i64 0, .int .i64 0, .int .i64 0, .int .i64 0, .int .i64 0, .int .u8 0, .int .i64 0, .int .i64 0, .int .i64 0, .int .i64 0, .bool false, .slice none 0 0, .int .i64 0, .int .i64 0] 38)) wr.heap.size wd.arr 38 = Wa := ⟨_, rfl⟩
      have hDr : D < wr.heap.size := (Array.getElem?_eq_some_iff.1 hd0).1
      have hTr : T < wr.heap.size := (Array.getElem?_eq_some_iff.1 hp0).1
      have hbA : Below wr.heap.size wr Wa := by rw [← hWa]; exact boxed_below ((Below.refl _ wr).alloc (Nat.le_refl _) _) (Nat.le_refl _)
      have hwA : Wa.heap[wr.heap.size]? = some (.cells wd.arr 38 (0, 0)) := by rw [← hWa]; exact boxed_at (by simp)
      have hdA := below_block hbA hd0
      have c7a : Wa.cell? ⟨D, 7, none⟩ = some (.slice AV n1 cv) := by rw [cell_of_row _ _ _ _ _ _ hdA, Wd.at7, HVA.out]
      have HRELa : Hid (Rel ps j D (D + 1) Wa wd) := HREL.out.later hbA
      have HWa : Hid (Below w.heap.size w Wa) := HW.out.trans (hbA.mono HW.out.size)
      have HPa : Hid (Wa.heap[T]? = some (.cells (Tw.arr ps) 27 (0, 0))) := below_block hbA hp0
      have HDa := Lib.hid hdA
      have HWAS := Lib.hid hwA
      rw [hWa]
      obtain ⟨wb, hwb⟩ : ∃ wb, wr.heap.size = wb := ⟨_, rfl⟩
      rw [hwb] at HWAS hDr hTr ⊢
      clear hWa hbA hwA hdA hwb hrone hd0 hp0 HREL HW HP HD wr
      have hzA : wb < Wa.heap.size := (Array.getElem?_eq_some_iff.1 HWAS.out).1
      have hcA : Cys Wa 0 Wa.heap.size (.slice AV n1 cv) ol := by have := HRELa.out.ca.whole HRELa.out.lo_le; rw [HVA.out, HOLE.out] at this; exact this
      have HCA := Lib.hid hcA
      clear hcA
      have hol1 := HOL.out
      go_wp2_with (at_builtin; refine wpList_append_cys cyty rfl _ _ rfl (l0 := []) (l := ol) (base := Wa.heap.size) rfl rfl (World.ownsRow_nil _ _ _ _) (by exact HCA.out) (by simp; omega) (Nat.le_refl _) ?_; intro v1 Wb ho1 hg1 hx1; rw [List.nil_append] at ho1)
      have hbB : Below Wa.heap.size Wa Wb := grown_from (b := Wa.heap.size) hg1 (fun i hi => by cases hi) (Nat.le_refl _)
      have how : Own Wb Wa.heap.size v1 ol := ho1
      obtain ⟨A1, c1, hv1f, _, _⟩ := how.form
      rw [HOL.out] at hv1f
      subst hv1f
      have HOWb := Lib.hid how
      have HWb : Hid (Below w.heap.size w Wb) := HWa.out.trans (hbB.mono HWa.out.size)
      have HPb : Hid (Wb.heap[T]? = some (.cells (Tw.arr ps) 27 (0, 0))) := below_block hbB HPa.out
      have HDb : Hid (Wb.heap[D]? = some (.cells wd.arr 38 (0, 0))) := below_block hbB HDa.out
      have HRELb : Hid (Rel ps j D (D + 1) Wb wd) := HRELa.out.later hbB
      have HWASb : Hid (Wb.heap[wb]? = some (.cells wd.arr 38 (0, 0))) := below_block hbB HWAS.out
      have HCAb : Hid (Parted 0 D (D + 1) Wb (.slice AV n1 cv) ol) := by show Parted _ _ _ _ _ _; have := HRELb.out.ca; rw [HVA.out, HOLE.out] at this; exact this
      obtain ⟨ab0, hab0⟩ : ∃ ab0, Wa.heap.size = ab0 := ⟨_, rfl⟩
      rw [hab0] at HOWb hzA
      clear hbB how ho1 hg1 hx1 hab0 HPa HDa HRELa HWAS HWa HCA c7a hol1 Wa
      obtain ⟨⟨K, A, C⟩, hact⟩ : ∃ p, l[j]? = some p := ⟨_, List.getElem?_eq_getElem (by omega)⟩
      obtain ⟨ab, ao, hA3, hab, hrd⟩ := HRD.out j _ hact
      subst hA3
      obtain ⟨⟨hk0, hk1⟩, ⟨hq0, hq1⟩, ⟨hc0, hc1⟩⟩ := HWF.out _ (List.mem_of_getElem? hact)
      dsimp only at hk0 hk1 hq0 hq1 hc0 hc1
      have hrd2 : Wb.rangeAt ab (ao + j * 3) (Ac3.cs ⟨K, A, C⟩) := fun i v hv => (World.cell?_of_block (a := ⟨ab, ao + j * 3 + i, none⟩) (HWb.out.block _ hab)).trans (hrd i v hv)
      have hpt := HPb.out
      have hpd := HDb.out
      have HY : Hid ((fun w' : World => w'.heap[T]? = some (.cells (Tw.arr ps) 27 (0, 0)) ∧ w'.heap[D]? = some (.cells wd.arr 38 (0, 0)) ∧ w'.rangeAt ab (ao + j * 3) (Ac3.cs ⟨K, A, C⟩)) Wb.drew) := ⟨hpt, hpd, hrd2⟩
      have HRD2 := Lib.hid hrd2
      have hjI : (j : Int) < (n : Int) := by omega
      have hjJ : (0 : Int) ≤ (j : Int) := by omega
      have hzr : D < Wb.heap.size := (Array.getElem?_eq_some_iff.1 hpd).1
      clear hact hrd hrd2
      go_upto_region 10 with fail
      refine laneU_start (ord := [0, 1, 2, 3, 4, 5, 6, 7, 8, 9, 10, 11]) (t := 10) (S := (fun w' : World => w'.heap[T]? = some (.cells (Tw.arr ps) 27 (0, 0)) ∧ w'.heap[D]? = some (.cells wd.arr 38 (0, 0)) ∧ w'.rangeAt ab (ao + j * 3) (Ac3.cs ⟨K, A, C⟩))) (S2 := fun _ => True) rfl (by kernel_rfl) ?_
      refine laneU_take (v := .agg wd.arr) rfl (by kernel_rfl) (by kernel_rfl) (by rfl) (fun W hSw => exec_load rfl rfl (by
        have h9 := run_loadAt_mid (P := Try.prog) W (D) (0) 38 _ _ (Wd.range_all hSw.2.1) Try.underlying38 rfl (Wd.info_all (b := wd))
        rw [Array.toArray_toList] at h9
        exact h9)) (by exact HY.out) ?_
      simp only [Act.put, List.setIfInBounds_toArray, List.set_cons_zero, List.set_cons_succ]
      refine laneU_take (v := .agg (Tw.arr ps)) rfl (by kernel_rfl) (by kernel_rfl) (by rfl) (fun W hSw => exec_load rfl rfl (by
        have h9 := run_loadAt_mid (P := Try.prog) W (T) (0) 27 _ _ (Tw.range_all hSw.1) Try.underlying27 rfl Tw.info_all
        rw [Array.toArray_toList] at h9
        exact h9)) (by exact HY.out) ?_
      simp only [Act.put, List.setIfInBounds_toArray, List.set_cons_zero, List.set_cons_succ]
      iterate 3 (refine laneU_take (v := ?_) rfl (by kernel_rfl) (by kernel_rfl) (by rfl) ?_ (by exact HY.out) ?_; rotate_left; (focus (intro W hSw; go_simp; try (with_reducible rfl))); simp only [Act.put, List.setIfInBounds_toArray, List.set_cons_zero, List.set_cons_succ])
      refine laneU_take (v := .agg #[.int .u8 K, .int .u8 A, .int .u8 C]) rfl (by kernel_rfl) (by kernel_rfl) (by rfl) (fun W hSw => exec_load rfl rfl (by
        have h9 := run_loadAt_mid (P := Try.prog) W ab (ao + j * 3) 43 _ _ hSw.2.2 Try.underlying43 rfl info3a
        exact h9)) (by exact HY.out) ?_
      simp only [Act.put, List.setIfInBounds_toArray, List.set_cons_zero, List.set_cons_succ]
      refine laneU_alone rfl (by kernel_rfl) (by rfl) (fun KK hK => ?_)
      go_simp
      refine (rel_any (w := Wb.drew) HPS.out HRELb.out.drewn hk0 hq0 hq1 hc0 (by omega)).mono ?_
      rintro e w8 ⟨wd', rfl, hrel8, hb8⟩
      have hb8 : Below Wb.heap.size Wb w8 := (Below.refl _ Wb).drew.trans hb8
      have hpt8 : w8.heap[T]? = some (.cells (Tw.arr ps) 27 (0, 0)) := below_block hb8 hpt
      have hpd8 : w8.heap[D]? = some (.cells wd.arr 38 (0, 0)) := below_block hb8 hpd
      have hrd8 : w8.rangeAt ab (ao + j * 3) (Ac3.cs ⟨K, A, C⟩) := fun i v hv => (World.cell?_of_block (a := ⟨ab, ao + j * 3 + i, none⟩) (hb8.block ab (by have := HWb.out.size; omega))).trans (HRD2.out i v hv)
      have HW8 : Hid (Below w.heap.size w w8) := HWb.out.trans (hb8.mono HWb.out.size)
      have HREL8 := Lib.hid hrel8
      have HY8 : Hid ((fun w' : World => w'.heap[T]? = some (.cells (Tw.arr ps) 27 (0, 0)) ∧ w'.heap[D]? = some (.cells wd.arr 38 (0, 0)) ∧ w'.rangeAt ab (ao + j * 3) (Ac3.cs ⟨K, A, C⟩)) w8) := ⟨hpt8, hpd8, hrd8⟩
      have hz8 : Wb.heap.size ≤ w8.heap.size := hb8.size
      have HWAS8 : Hid (w8.heap[wb]? = some (.cells wd.arr 38 (0, 0))) := below_block hb8 HWASb.out
      have HOW8 : Hid (Own w8 ab0 (.slice A1 n1 c1) ol) := HOWb.out.below hb8
      have HCA8 : Hid (Parted 0 D (D + 1) w8 (.slice AV n1 cv) ol) := HCAb.out.below hb8 HRELb.out.lo_le
      clear HWASb HOWb HCAb
      refine hK _ _ HY8.out ?_
      clear hK KK HY hb8 hrel8
      iterate 2 (refine laneU_take (v := ?_) rfl (by kernel_rfl) (by kernel_rfl) (by rfl) ?_ (by exact HY8.out) ?_; rotate_left; (focus (intro W hSw; go_simp; try (with_reducible rfl))); simp only [Act.put, List.setIfInBounds_toArray, List.set_cons_zero, List.set_cons_succ])
      refine laneU_pair (i := 9) (ord1 := [10, 11]) (ord2 := [9, 11]) rfl rfl (by kernel_rfl) rfl (by rfl) (by rfl) (fun KK hK => ?_) (fun KK hK => ?_)
      · go_simp
        refine hK _ _ HY8.out ?_
        clear hK KK
        refine laneU_last rfl (by kernel_rfl) (by rfl) (fun KK hK => ?_)
        refine wp_store_row 38 _ _ rfl D wd'.arr rfl rfl 38 _ hpd8 (by rw [Wd.arr_size]; exact Wd.info) (by rw [Wd.arr_size, Wd.arr_size]) (Wd.arr_one HREL8.out.va HREL8.out.vs) ?_
        rw [row_boxed hpd8]
        refine hK _ _ trivial (fun _ => ?_)
        clear hK KK
        refine lane_alone rfl (by kernel_rfl) (by rfl) (fun KK hK => ?_)
        go_simp
        refine hK _ _ trivial (fun _ => ?_)
        clear hK KK
        refine lane_end (by kernel_rfl) ?_
        obtain ⟨WX, hWX⟩ : ∃ WX, boxed w8 D wd'.arr 38 = WX := ⟨_, rfl⟩
        have hzD8 : D < w8.heap.size := by omega
        have hx0 : WX.heap[wb]? = some (.cells wd.arr 38 (0, 0)) := by rw [← hWX]; exact boxed_old (by omega) HWAS8.out
        have hx7 : WX.cell? ⟨wb, 7, none⟩ = some (.slice AV n1 cv) := by rw [cell_of_row _ _ _ _ _ _ hx0, Wd.at7, HVA.out]
        have HXW : Hid (Below w.heap.size w WX) := by rw [← hWX]; exact boxed_below HW8.out (by have := HREL8.out.lo_le; have := HW8.out.size; omega)
        have HXREL : Hid (Rel ps (j + 1) D (D + 1) WX wd') := by rw [← hWX]; exact HREL8.out.boxed
        have HXT : Hid (WX.heap[T]? = some (.cells (Tw.arr ps) 27 (0, 0))) := by rw [← hWX]; exact boxed_old (by omega) hpt8
        have HXD : Hid (WX.heap[D]? = some (.cells wd'.arr 38 (0, 0))) := by rw [← hWX]; exact boxed_at (by omega)
        have HXC : Hid (Cys WX 0 WX.heap.size (.slice AV n1 cv) ol) := by rw [← hWX]; exact (HCA8.out.boxed (Nat.le_refl _) (by omega)).whole (by simp only [boxed_size]; omega)
        have HXO : Hid (Cys WX 0 WX.heap.size (.slice A1 n1 c1) ol) := by rw [← hWX]; exact (HOW8.out.boxed (by omega)).cys.more (Nat.zero_le _) (by simp)
        have hzx : wb < WX.heap.size := (Array.getElem?_eq_some_iff.1 hx0).1
        rw [hWX]
        clear hWX HW8 HREL8 hpt8 hpd8 hrd8 HY8 HCA8 HOW8 HWAS8 hz8
        go_wp2_with fail
        go_loopw [15] (fun k wq => ∃ q : Nat, q ≤ n1 ∧ k = .int .i64 q ∧ Hid (Below WX.heap.size WX wq)) (fun k _ => n1 - (intOf k).toNat)
        case atStart => exact ⟨0, by omega, rfl, Below.refl _ _⟩
        case round =>
          obtain ⟨q, hq, rfl, HB⟩ := hrel
          have m7 : wr.cell? ⟨wb, 7, none⟩ = some (.slice AV n1 cv) := (World.cell?_of_block (a := ⟨wb, 7, none⟩) (HB.out.block wb hzx)).trans hx7
          by_cases hqn : q < n1
          case neg =>
            obtain rfl : q = n1 := by omega
            have dlq : decide ((q : Int) < (q : Int)) = false := by simp
            clear m7
            go_wp2_with fail
            go_roundw
            case rel => exact ⟨j + 1, wd', by omega, rfl, by go_num, HXW.out.trans (HB.out.mono HXW.out.size), (HB.out.block T (Array.getElem?_eq_some_iff.1 HXT.out).1).trans HXT.out, (HB.out.block D (Array.getElem?_eq_some_iff.1 HXD.out).1).trans HXD.out, HXREL.out.later HB.out⟩
            case measure => simp [intOf]; omega
          case pos =>
            have dlq : decide ((q : Int) < (n1 : Int)) = true := by simpa using hqn
            have holn := HOL.out
            obtain ⟨z, hz⟩ : ∃ z, ol[q]? = some z := ⟨_, List.getElem?_eq_getElem (by omega)⟩
            rw [← holn] at HXC HXO
            obtain ⟨g, o, cap, hv, y1, y2, y3, _, hgl, hr⟩ := HXC.out.at_ hz
            injection hv with hv1 hvl hv3
            obtain ⟨g2, o2, cap2, hv', y4, y5, y6, _, hgl2, hr2⟩ := HXO.out.at_ hz
            injection hv' with hv1' hvl' hv3'
            clear hvl hvl' y1 y2 y3 y4 y5 y6
            have k0 : (0 : Int) ≤ (q : Int) := by omega
            have k1 : (q : Int) < (n1 : Int) := by omega
            have hR1 : wr.rangeAt g (o + q * 8) z.cs := fun i u hu => (World.cell?_of_block (a := ⟨g, o + q * 8 + i, none⟩) (HB.out.block g hgl)).trans (hr i u hu)
            have hR2 : wr.rangeAt g2 (o2 + q * 8) z.cs := fun i u hu => (World.cell?_of_block (a := ⟨g2, o2 + q * 8 + i, none⟩) (HB.out.block g2 hgl2)).trans (hr2 i u hu)
            rw [hv1] at m7
            rw [hv1']
            obtain ⟨zn, zd, zp, za, zu, zt, zx, zg⟩ := z
            have HR1 := Lib.hid hR1
            have HR2 := Lib.hid hR2
            clear hr hr2 hz hR1 hR2 hv1 hv3 hv1' hv3' holn
            go_wp2_with (fail)
            have HS0 : Hid ((fun w' : World => w'.cell? ⟨wb, 7, none⟩ = some (.slice (some ⟨g, o, none⟩) n1 cv) ∧ w'.rangeAt g (o + q * 8) [.int .i64 zn, .int .i64 zd, .int .u8 zp, .int .i64 za, .int .i64 zu, .int .i64 zt, .int .i64 zx, .bool zg] ∧ w'.rangeAt g2 (o2 + q * 8) [.int .i64 zn, .int .i64 zd, .int .u8 zp, .int .i64 za, .int .i64 zu, .int .i64 zt, .int .i64 zx, .bool zg]) wr.drew) := ⟨m7, (World.rangeAt_drew _ _ _ _).2 HR1.out, (World.rangeAt_drew _ _ _ _).2 HR2.out⟩
            refine lane_start (ord := [0, 1, 2, 3, 4, 5, 6, 7, 8, 9, 10]) (S := (fun w' : World => w'.cell? ⟨wb, 7, none⟩ = some (.slice (some ⟨g, o, none⟩) n1 cv) ∧ w'.rangeAt g (o + q * 8) [.int .i64 zn, .int .i64 zd, .int .u8 zp, .int .i64 za, .int .i64 zu, .int .i64 zt, .int .i64 zx, .bool zg] ∧ w'.rangeAt g2 (o2 + q * 8) [.int .i64 zn, .int .i64 zd, .int .u8 zp, .int .i64 za, .int .i64 zu, .int .i64 zt, .int .i64 zx, .bool zg])) rfl (by kernel_rfl) (by exact HS0.out) (fun _ => ?_)
            iterate 5 (refine lane_take (v := ?_) rfl (by kernel_rfl) (by kernel_rfl) (by rfl) ?_ (by exact HS0.out) ?_; rotate_left; (focus (intro W hSw; obtain ⟨s1, _, _⟩ := hSw; go_simp; try (with_reducible rfl))); simp only [Act.put, List.setIfInBounds_toArray, List.set_cons_zero, List.set_cons_succ])
            refine lane_take (v := .agg #[.int .i64 zn, .int .i64 zd, .int .u8 zp, .int .i64 za, .int .i64 zu, .int .i64 zt, .int .i64 zx, .bool zg]) rfl (by kernel_rfl) (by kernel_rfl) (by rfl) (fun W hSw => exec_load rfl rfl (run_loadAt_mid W g (o + q * 8) 46 _ _ hSw.2.1 Try.underlying46 rfl info8)) (by exact HS0.out) ?_
            simp only [Act.put, List.setIfInBounds_toArray, List.set_cons_zero, List.set_cons_succ]
            iterate 3 (refine lane_take (v := ?_) rfl (by kernel_rfl) (by kernel_rfl) (by rfl) ?_ (by exact HS0.out) ?_; rotate_left; (focus (intro W hSw; obtain ⟨s1, _, _⟩ := hSw; go_simp; try (with_reducible rfl))); simp only [Act.put, List.setIfInBounds_toArray, List.set_cons_zero, List.set_cons_succ])
            refine lane_take (v := .agg #[.int .i64 zn, .int .i64 zd, .int .u8 zp, .int .i64 za, .int .i64 zu, .int .i64 zt, .int .i64 zx, .bool zg]) rfl (by kernel_rfl) (by kernel_rfl) (by rfl) (fun W hSw => exec_load rfl rfl (run_loadAt_mid W g2 (o2 + q * 8) 46 _ _ hSw.2.2 Try.underlying46 rfl info8)) (by exact HS0.out) ?_
            simp only [Act.put, List.setIfInBounds_toArray, List.set_cons_zero, List.set_cons_succ]
            (refine lane_take (v := ?_) rfl (by kernel_rfl) (by kernel_rfl) (by rfl) ?_ (by exact HS0.out) ?_; rotate_left; (focus (intro W hSw; obtain ⟨s1, _, _⟩ := hSw; go_simp; try (with_reducible rfl))); simp only [Act.put, List.setIfInBounds_toArray, List.set_cons_zero, List.set_cons_succ])
            refine lane_end (by kernel_rfl) ?_
            go_wp2
            exact ⟨⟨q + 1, by omega, by go_num, HB.out.drew⟩, by simp [intOf]; omega⟩
      · refine wp_store_row 38 _ _ rfl D wd'.arr rfl rfl 38 _ hpd8 (by rw [Wd.arr_size]; exact Wd.info) (by rw [Wd.arr_size, Wd.arr_size]) (Wd.arr_one HREL8.out.va HREL8.out.vs) ?_
        rw [row_boxed hpd8]
        refine hK _ _ trivial (fun _ => ?_)
        clear hK KK
        refine lane_alone rfl (by kernel_rfl) (by rfl) (fun KK hK => ?_)
        go_simp
        refine hK _ _ trivial (fun _ => ?_)
        clear hK KK
        refine lane_alone rfl (by kernel_rfl) (by rfl) (fun KK hK => ?_)
        go_simp
        refine hK _ _ trivial (fun _ => ?_)
        clear hK KK
        refine lane_end (by kernel_rfl) ?_
        obtain ⟨WX, hWX⟩ : ∃ WX, boxed w8 D wd'.arr 38 = WX := ⟨_, rfl⟩
        have hzD8 : D < w8.heap.size := by omega
        have hx0 : WX.heap[wb]? = some (.cells wd.arr 38 (0, 0)) := by rw [← hWX]; exact boxed_old (by omega) HWAS8.out
        have hx7 : WX.cell? ⟨wb, 7, none⟩ = some (.slice AV n1 cv) := by rw [cell_of_row _ _ _ _ _ _ hx0, Wd.at7, HVA.out]
        have HXW : Hid (Below w.heap.size w WX) := by rw [← hWX]; exact boxed_below HW8.out (by have := HREL8.out.lo_le; have := HW8.out.size; omega)
        have HXREL : Hid (Rel ps (j + 1) D (D + 1) WX wd') := by rw [← hWX]; exact HREL8.out.boxed
        have HXT : Hid (WX.heap[T]? = some (.cells (Tw.arr ps) 27 (0, 0))) := by rw [← hWX]; exact boxed_old (by omega) hpt8
        have HXD : Hid (WX.heap[D]? = some (.cells wd'.arr 38 (0, 0))) := by rw [← hWX]; exact boxed_at (by omega)
        have HXC : Hid (Cys WX 0 WX.heap.size (.slice AV n1 cv) ol) := by rw [← hWX]; exact (HCA8.out.boxed (Nat.le_refl _) (by omega)).whole (by simp only [boxed_size]; omega)
        have HXO : Hid (Cys WX 0 WX.heap.size (.slice A1 n1 c1) ol) := by rw [← hWX]; exact (HOW8.out.boxed (by omega)).cys.more (Nat.zero_le _) (by simp)
        have hzx : wb < WX.heap.size := (Array.getElem?_eq_some_iff.1 hx0).1
        rw [hWX]
        clear hWX HW8 HREL8 hpt8 hpd8 hrd8 HY8 HCA8 HOW8 HWAS8 hz8
        go_wp2_with fail
        go_loopw [15] (fun k wq => ∃ q : Nat, q ≤ n1 ∧ k = .int .i64 q ∧ Hid (Below WX.heap.size WX wq)) (fun k _ => n1 - (intOf k).toNat)
        case atStart => exact ⟨0, by omega, rfl, Below.refl _ _⟩
        case round =>
          obtain ⟨q, hq, rfl, HB⟩ := hrel
          have m7 : wr.cell? ⟨wb, 7, none⟩ = some (.slice AV n1 cv) := (World.cell?_of_block (a := ⟨wb, 7, none⟩) (HB.out.block wb hzx)).trans hx7
          by_cases hqn : q < n1
          case neg =>
            obtain rfl : q = n1 := by omega
            have dlq : decide ((q : Int) < (q : Int)) = false := by simp
            clear m7
            go_wp2_with fail
            go_roundw
            case rel => exact ⟨j + 1, wd', by omega, rfl, by go_num, HXW.out.trans (HB.out.mono HXW.out.size), (HB.out.block T (Array.getElem?_eq_some_iff.1 HXT.out).1).trans HXT.out, (HB.out.block D (Array.getElem?_eq_some_iff.1 HXD.out).1).trans HXD.out, HXREL.out.later HB.out⟩
            case measure => simp [intOf]; omega
          case pos =>
            have dlq : decide ((q : Int) < (n1 : Int)) = true := by simpa using hqn
            have holn := HOL.out
            obtain ⟨z, hz⟩ : ∃ z, ol[q]? = some z := ⟨_, List.getElem?_eq_getElem (by omega)⟩
            rw [← holn] at HXC HXO
            obtain ⟨g, o, cap, hv, y1, y2, y3, _, hgl, hr⟩ := HXC.out.at_ hz
            injection hv with hv1 hvl hv3
            obtain ⟨g2, o2, cap2, hv', y4, y5, y6, _, hgl2, hr2⟩ := HXO.out.at_ hz
            injection hv' with hv1' hvl' hv3'
            clear hvl hvl' y1 y2 y3 y4 y5 y6
            have k0 : (0 : Int) ≤ (q : Int) := by omega
            have k1 : (q : Int) < (n1 : Int) := by omega
            have hR1 : wr.rangeAt g (o + q * 8) z.cs := fun i u hu => (World.cell?_of_block (a := ⟨g, o + q * 8 + i, none⟩) (HB.out.block g hgl)).trans (hr i u hu)
            have hR2 : wr.rangeAt g2 (o2 + q * 8) z.cs := fun i u hu => (World.cell?_of_block (a := ⟨g2, o2 + q * 8 + i, none⟩) (HB.out.block g2 hgl2)).trans (hr2 i u hu)
            rw [hv1] at m7
            rw [hv1']
            obtain ⟨zn, zd, zp, za, zu, zt, zx, zg⟩ := z
            have HR1 := Lib.hid hR1
            have HR2 := Lib.hid hR2
            clear hr hr2 hz hR1 hR2 hv1 hv3 hv1' hv3' holn
            go_wp2_with (fail)
            have HS0 : Hid ((fun w' : World => w'.cell? ⟨wb, 7, none⟩ = some (.slice (some ⟨g, o, none⟩) n1 cv) ∧ w'.rangeAt g (o + q * 8) [.int .i64 zn, .int .i64 zd, .int .u8 zp, .int .i64 za, .int .i64 zu, .int .i64 zt, .int .i64 zx, .bool zg] ∧ w'.rangeAt g2 (o2 + q * 8) [.int .i64 zn, .int .i64 zd, .int .u8 zp, .int .i64 za, .int .i64 zu, .int .i64 zt, .int .i64 zx, .bool zg]) wr.drew) := ⟨m7, (World.rangeAt_drew _ _ _ _).2 HR1.out, (World.rangeAt_drew _ _ _ _).2 HR2.out⟩
            refine lane_start (ord := [0, 1, 2, 3, 4, 5, 6, 7, 8, 9, 10]) (S := (fun w' : World => w'.cell? ⟨wb, 7, none⟩ = some (.slice (some ⟨g, o, none⟩) n1 cv) ∧ w'.rangeAt g (o + q * 8) [.int .i64 zn, .int .i64 zd, .int .u8 zp, .int .i64 za, .int .i64 zu, .int .i64 zt, .int .i64 zx, .bool zg] ∧ w'.rangeAt g2 (o2 + q * 8) [.int .i64 zn, .int .i64 zd, .int .u8 zp, .int .i64 za, .int .i64 zu, .int .i64 zt, .int .i64 zx, .bool zg])) rfl (by kernel_rfl) (by exact HS0.out) (fun _ => ?_)
            iterate 5 (refine lane_take (v := ?_) rfl (by kernel_rfl) (by kernel_rfl) (by rfl) ?_ (by exact HS0.out) ?_; rotate_left; (focus (intro W hSw; obtain ⟨s1, _, _⟩ := hSw; go_simp; try (with_reducible rfl))); simp only [Act.put, List.setIfInBounds_toArray, List.set_cons_zero, List.set_cons_succ])
            refine lane_take (v := .agg #[.int .i64 zn, .int .i64 zd, .int .u8 zp, .int .i64 za, .int .i64 zu, .int .i64 zt, .int .i64 zx, .bool zg]) rfl (by kernel_rfl) (by kernel_rfl) (by rfl) (fun W hSw => exec_load rfl rfl (run_loadAt_mid W g (o + q * 8) 46 _ _ hSw.2.1 Try.underlying46 rfl info8)) (by exact HS0.out) ?_
            simp only [Act.put, List.setIfInBounds_toArray, List.set_cons_zero, List.set_cons_succ]
            iterate 3 (refine lane_take (v := ?_) rfl (by kernel_rfl) (by kernel_rfl) (by rfl) ?_ (by exact HS0.out) ?_; rotate_left; (focus (intro W hSw; obtain ⟨s1, _, _⟩ := hSw; go_simp; try (with_reducible rfl))); simp only [Act.put, List.setIfInBounds_toArray, List.set_cons_zero, List.set_cons_succ])
            refine lane_take (v := .agg #[.int .i64 zn, .int .i64 zd, .int .u8 zp, .int .i64 za, .int .i64 zu, .int .i64 zt, .int .i64 zx, .bool zg]) rfl (by kernel_rfl) (by kernel_rfl) (by rfl) (fun W hSw => exec_load rfl rfl (run_loadAt_mid W g2 (o2 + q * 8) 46 _ _ hSw.2.2 Try.underlying46 rfl info8)) (by exact HS0.out) ?_
            simp only [Act.put, List.setIfInBounds_toArray, List.set_cons_zero, List.set_cons_succ]
            (refine lane_take (v := ?_) rfl (by kernel_rfl) (by kernel_rfl) (by rfl) ?_ (by exact HS0.out) ?_; rotate_left; (focus (intro W hSw; obtain ⟨s1, _, _⟩ := hSw; go_simp; try (with_reducible rfl))); simp only [Act.put, List.setIfInBounds_toArray, List.set_cons_zero, List.set_cons_succ])
            refine lane_end (by kernel_rfl) ?_
            go_wp2
            exact ⟨⟨q + 1, by omega, by go_num, HB.out.drew⟩, by simp [intOf]; omega⟩
    case neg =>
      obtain rfl : j = n := by omega
      have dlt : decide ((j : Int) < (j : Int)) = false := by simp
      have hd0 := HD.out
      obtain ⟨AV, cv, hva⟩ := HREL.out.va_form
      obtain ⟨ol, hol⟩ : ∃ ol, wd.a.l = ol := ⟨_, rfl⟩
      have hlen := (HREL.out.len (by omega)).2
      have hcw := HREL.out.ca.whole HREL.out.lo_le
      have hnum : ∀ z ∈ ol, z.n ≠ 99999 := by
        intro z hz
        obtain ⟨p0, _, _, _, hsta⟩ := HREL.out.p
        rw [← hol, HREL.out.a] at hz
        obtain ⟨k, hk⟩ := List.getElem?_of_mem (opn_mem hz).1
        have h1 := hsta.ok.num k z hk
        have h2 := (List.getElem?_eq_some_iff.1 hk).1
        have h3 := hsta.len
        omega
      have HNUM := Lib.hid hnum
      have HCW := Lib.hid hcw
      have HVA := Lib.hid hva
      have HOL := Lib.hid hol
      clear hva hcw hnum hol
      go_wp2_with (((with_reducible_and_instances (show wpList _ _ _ (Oper.mk _ (Op.load 33 _) _ _ _ _ :: _) _ _)); refine stop_here ?_))
      refine ⟨?_⟩
      refine wpList_load_mid rfl _ _ rfl D 0 rfl (wd.a.arr wd.va).toList _ (Wd.range_a hd0) Try.underlying33 rfl info13 ?_
      rw [Array.toArray_toList]
      go_wp2_with fail
      refine (copy_any (a := wd.a) (v := wd.va) HCW.out (by omega)).mono ?_
      rintro e W1 ⟨v', rfl, ho, hb⟩
      have hv1 := ho.one
      have HO := Lib.hid ho
      have hdb := below_block hb hd0
      have HB1 := Lib.hid hb
      have hDw : D < wr.heap.size := (Array.getElem?_eq_some_iff.1 hd0).1
      have hs1 := hb.size
      clear hb ho hd0
      go_wp2_with (((with_reducible_and_instances (show wpList _ _ _ (Oper.mk _ (Op.store 33 _ _) _ _ _ _ :: _) _ _)); refine stop_here ?_))
      refine ⟨?_⟩
      refine wl_store (g := W1.heap.size) info13 rfl rfl rfl rfl (alloc_at rfl) rfl rfl (Av.arr_one hv1) ?_
      obtain ⟨W2, hW2⟩ : ∃ W2, boxed (W1.alloc (.cells #[.int .u8 0, .int .i64 0, .int .i64 0, .int .i64 0, .int .i64 0, .int .i64 0, .bool false, .slice none 0 0, .int .i64 0, .int .i64 0, .int .i64 0, .int .i64 0, .int .i64 0] 33)) W1.heap.size (wd.a.arr v') 33 = W2 := ⟨_, rfl⟩
      have hbB : Below W1.heap.size W1 W2 := by rw [← hW2]; exact boxed_below ((Below.refl _ W1).alloc (Nat.le_refl _) _) (Nat.le_refl _)
      have hc2 : W2.heap[W1.heap.size]? = some (.cells (wd.a.arr v') 33 (0, 0)) := by rw [← hW2]; exact boxed_at (by simp)
      have hd2 := below_block hbB hdb
      have HO2 : Hid (Own W2 wr.heap.size v' wd.a.l) := HO.out.below hbB
      have hb2 : Below wr.heap.size wr W2 := HB1.out.trans (hbB.mono hs1)
      have HB2 := Lib.hid hb2
      rw [hW2]
      obtain ⟨cb, hcb⟩ : ∃ cb, W1.heap.size = cb := ⟨_, rfl⟩
      rw [hcb] at hc2 hs1 ⊢
      clear hW2 hbB hdb hcb hb2 HO HB1 W1
      have d7 : W2.cell? ⟨D, 7, none⟩ = some (.slice AV ol.length cv) := by rw [cell_of_row _ _ _ _ _ _ hd2, Wd.at7, HVA.out, HOL.out]
      have c7 : W2.cell? ⟨cb, 7, none⟩ = some v' := by rw [cell_of_row _ _ _ _ _ _ hc2]; rfl
      have hcb2 : cb < W2.heap.size := (Array.getElem?_eq_some_iff.1 hc2).1
      have hlo : wd.a.l.length = ol.length := by rw [HOL.out]
      obtain ⟨n1, hn1⟩ : ∃ n1, ol.length = n1 := ⟨_, rfl⟩
      rw [hn1] at d7 hlo
      have HN1 := Lib.hid hn1
      by_cases hz : n1 = 0
      case pos =>
        obtain ⟨A', c', hv', _, _⟩ := HO2.out.form
        rw [hlo, hz] at hv'
        rw [hz] at d7
        rw [hv'] at c7
        clear hz hlo hn1 HN1 hv' HO2
        go_wp2_with fail
        go_ret
        exact ⟨rfl, HW.out.trans (HB2.out.mono HW.out.size)⟩
      case neg =>
        have ho := HO2.out
        rcases ho.2 with ⟨_, hn⟩ | ⟨gb, cap, cur, hv', hgb, hcur, hcap1, hcap2, hcsz, hrow⟩
        · exact absurd (hlo ▸ hn) hz
        rw [hlo] at hv' hcap1
        have hv'2 : v' = .slice (some ⟨gb, 0, none⟩) n1 cap := hv'
        rw [hv'2] at c7
        have hcl : 8 ≤ cur.size := by omega
        have hgcb : gb ≠ cb := by
          rintro rfl
          rw [hcur] at hc2
          injection hc2 with hc2
          injection hc2 with _ hc2
          exact absurd hc2 (by decide)
        obtain ⟨u0, hu0⟩ : ∃ u0, cur[0]? = some u0 := ⟨_, Array.getElem?_eq_getElem (by omega)⟩
        obtain ⟨z, hz0⟩ : ∃ z, ol[0]? = some z := ⟨_, List.getElem?_eq_getElem (by omega)⟩
        have hzn := HNUM.out z (List.mem_of_getElem? hz0)
        have hcw := HCW.out
        rw [HOL.out, HVA.out] at hcw
        obtain ⟨G, o, cap0, hv, _, _, _, _, hGl, hr⟩ := hcw.at_ hz0
        injection hv with hv1 _ _
        rw [hv1] at d7
        have hz1 : wr.cell? ⟨G, o, none⟩ = some (.int .i64 z.n) := by have := hr 0 _ rfl; simpa using this
        have hz2 : W2.cell? ⟨G, o, none⟩ = some (.int .i64 z.n) := (World.cell?_of_block (a := ⟨G, o, none⟩) (HB2.out.block G hGl)).trans hz1
        have hDg : D ≠ gb := by omega
        have hGg : G ≠ gb := by omega
        have e7 : ∀ cs, (boxed W2 gb cs 46).cell? ⟨D, 7, none⟩ = some (.slice (some ⟨G, o, none⟩) n1 cv) := fun cs => (World.cell?_of_block (a := ⟨D, 7, none⟩) (boxed_block_other hDg)).trans d7
        have ez : ∀ cs, (boxed W2 gb cs 46).cell? ⟨G, o, none⟩ = some (.int .i64 z.n) := fun cs => (World.cell?_of_block (a := ⟨G, o, none⟩) (boxed_block_other hGg)).trans hz2
        have ec : ∀ cs, (boxed W2 gb cs 46).cell? ⟨cb, 7, none⟩ = some (.slice (some ⟨gb, 0, none⟩) n1 cap) := fun cs => (World.cell?_of_block (a := ⟨cb, 7, none⟩) (boxed_block_other (Ne.symm hgcb))).trans c7
        have hbe : Below w.heap.size w (boxed W2 gb (cur.setIfInBounds 0 (.int .i64 99999)) 46) := boxed_below (HW.out.trans (HB2.out.mono HW.out.size)) (by have := HW.out.size; omega)
        have HBE := Lib.hid hbe
        have hgl : gb < W2.heap.size := (Array.getElem?_eq_some_iff.1 hcur).1
        have dn1 : decide ((n1 : Int) > 0) = true := by simp; omega
        have dn2 : decide (0 < (n1 : Int)) = true := by simp; omega
        have nI : (0 : Int) < (n1 : Int) := by omega
        have hne : (z.n != 99999) = true := by simpa using hzn
        clear hz0 hzn hcw hv1 hr hz1 hz2 d7 c7 hc2 hd2 hbe hv' hv'2 ho hrow hlo HO2 hz HN1 hn1
        have eb := boxed_self hcur
        rw [eb]
        clear eb hcur
        go_wp2_with fail
        go_ret
        exact ⟨rfl, HBE.out⟩
end Go.Proofs.Ytnbfkdcpghkglaa
