/-
  An order told to a book: a new plan. No conditions but the sizes.
-/
import Derived.Test.YtblikgbcakgdnaaGreatBr21
import Derived.Test.YtblikgbcakgdnaaGreatBr29
set_option linter.unusedSimpArgs false
set_option linter.unusedVariables false
namespace Go.Proofs.YtblikgbcakgdnaaGreat
set_option linter.unusedVariables false
set_option linter.unusedSimpArgs false
set_option maxRecDepth 100000
open Go.ChangeShapes Go.WideShapes Go.ChangeAt Go.RowKit

theorem Ov.range_P {w : World} {B : Nat} {o : Ov} {t : TypeId} {fr : Nat × Nat} (h : w.heap[B]? = some (.cells o.kb t fr)) : w.rangeAt B 4 o.P.arr.toList := by
  intro j u hu
  have hj : j < 6 := (List.getElem?_eq_some_iff.1 hu).1
  rw [cell_of_row _ _ _ _ _ _ h, ← hu]
  have hj2 : j = 0 ∨ j = 1 ∨ j = 2 ∨ j = 3 ∨ j = 4 ∨ j = 5 := by omega
  rcases hj2 with rfl | rfl | rfl | rfl | rfl | rfl <;> rfl
set_option maxHeartbeats 8000000 in
theorem bkstep_def_no {w : World} {b : Kb} {ps : List Pv} {o : Ov} (hr : o.right = 0) (hk : o.k = 1) (hkm : KbM w 0 w.heap.size b ps) (hps : ps.length ≤ 1000) (hln : ∀ k, k < 32 → (b.a k).l.length ≤ 1000000) (hpr : Pn.right o.P.a o.P.u o.P.e o.P.t = 0) (hfull : 8 ≤ ps.length) : Calls Tryz.prog 14 #[.agg b.arr, .agg o.kb] w (StNo 3 w) := by
  have HR := Lib.hid hr
  have HKM := Lib.hid hkm
  have HLN := Lib.hid hln
  clear hr hkm hln
  go_enter Tryz.func14, Tryz.ntmps14
  go_wp2_with (((with_reducible_and_instances (show wpList _ _ _ (Oper.mk _ (Op.load 48 _) _ _ _ _ :: _) _ _)); refine stop_here ?_))
  refine ⟨?_⟩
  refine wl_load (cs := o.kb) (fr := (0, 0)) (g := w.heap.size + 1) Tryz.underlying48 rfl info16k rfl rfl rfl (alloc_old (by first | (simp; done) | (simp; omega)) (alloc_at (by simp))) rfl ?_
  go_wp2_with fail
  obtain ⟨W1, hW1⟩ : ∃ W1, ((w.alloc (.cells b.arr 35)).alloc (.cells o.kb 48)).alloc (.cells Tryz.zeroCells35 35) = W1 := ⟨_, rfl⟩
  have f0 : W1.heap[w.heap.size]? = some (.cells b.arr 35 (0, 0)) := by rw [← hW1]; exact alloc_old (by first | (simp; done) | (simp; omega)) (alloc_old (by first | (simp; done) | (simp; omega)) (alloc_at rfl))
  have f1 : W1.heap[w.heap.size + 1]? = some (.cells o.kb 48 (0, 0)) := by rw [← hW1]; exact alloc_old (by first | (simp; done) | (simp; omega)) (alloc_at (by simp))
  have f2 : W1.heap[w.heap.size + 1 + 1]? = some (.cells Tryz.zeroCells35 35 (0, 0)) := by rw [← hW1]; exact alloc_at (by simp)
  have hV : Below w.heap.size w W1 := by rw [← hW1]; exact (((Below.refl _ w).alloc (by first | exact Nat.le_refl _ | (simp; done) | (simp; omega)) _).alloc (by first | exact Nat.le_refl _ | (simp; done) | (simp; omega)) _).alloc (by first | exact Nat.le_refl _ | (simp; done) | (simp; omega)) _
  rw [hW1]
  clear hW1
  refine (right_kb o W1).mono ?_
  rintro e W2 ⟨rfl, hb⟩
  rw [HR.out]
  have q0 : W2.heap[w.heap.size]? = some (.cells b.arr 35 (0, 0)) := below_block hb f0
  have q1 : W2.heap[w.heap.size + 1]? = some (.cells o.kb 48 (0, 0)) := below_block hb f1
  have q2 : W2.heap[w.heap.size + 1 + 1]? = some (.cells Tryz.zeroCells35 35 (0, 0)) := below_block hb f2
  have hV2 : Below w.heap.size w W2 := hV.trans (hb.mono hV.size)
  have hz2 : w.heap.size + 1 + 1 < W2.heap.size := (Array.getElem?_eq_some_iff.1 q2).1
  clear hb f0 f1 f2 hV W1
  go_wp2_with (((with_reducible_and_instances (show wpList _ _ _ (Oper.mk _ (Op.load 35 _) _ _ _ _ :: _) _ _)); refine stop_here ?_))
  refine ⟨?_⟩
  refine wl_load (cs := b.arr) (fr := (0, 0)) (g := w.heap.size) Tryz.underlying35 rfl Kb.info rfl rfl rfl q0 (Kb.arr_size _) ?_
  go_wp2_with fail
  refine (copied_any (b := b) (ps := ps) (w := W2) ((HKM.out.kept fun i _ h2 => hV2.block i h2).more (Nat.le_refl _) hV2.size) (by omega) (fun k hk => by have := HLN.out k hk; omega)).mono ?_
  rintro e W3 ⟨vp, vv, rfl, hlp, hcy, hb⟩
  have r0 := below_block hb q0
  have r1 := below_block hb q1
  have r2 := below_block hb q2
  have hV3 : Below w.heap.size w W3 := hV2.trans (hb.mono hV2.size)
  have hs3 := hb.size
  obtain ⟨bc, hbc⟩ : ∃ bc, ({ b with vp := vp, v := vv } : Kb) = bc := ⟨_, rfl⟩
  rw [hbc]
  have hkm : KbM W3 (w.heap.size + 1 + 1 + 1) W3.heap.size bc ps := by
    rw [← hbc]
    have h9 : ∀ k, k < 32 → Cys W3 (w.heap.size + 1 + 1 + 1) W3.heap.size (vv k) (b.a k).l := fun k hk => (hcy k hk).more (by omega) (Nat.le_refl _)
    exact ⟨Kb.one_of (b := { b with vp := vp, v := vv }) hlp.pys.one h9, (hlp.more (by omega)).pys, h9⟩
  have HKC := Lib.hid hkm
  have HBC : Hid (∃ vp vv, bc = ({ b with vp := vp, v := vv } : Kb)) := ⟨vp, vv, hbc.symm⟩
  have HLS : Hid (Lst W3 (w.heap.size + 1 + 1 + 1) bc.vp ps) := by rw [← hbc]; exact hlp.more (by omega)
  have ea : bc.a = b.a := by rw [← hbc]
  have et : bc.td = b.td := by rw [← hbc]
  have EA := Lib.hid ea
  have ET := Lib.hid et
  clear hb q0 q1 q2 hV2 hlp hcy hbc ea et hkm hz2 hs3 W2
  go_wp2_with (((with_reducible_and_instances (show wpList _ _ _ (Oper.mk _ (Op.store 35 _ _) _ _ _ _ :: _) _ _)); refine stop_here ?_))
  refine ⟨?_⟩
  refine wl_store (g := w.heap.size) Kb.info rfl rfl rfl rfl r0 (Kb.arr_size _) (Kb.arr_size _) HKC.out.one.arr ?_
  obtain ⟨W4, hW4⟩ : ∃ W4, boxed W3 w.heap.size bc.arr 35 = W4 := ⟨_, rfl⟩
  have hz3 : w.heap.size + 1 + 1 < W3.heap.size := (Array.getElem?_eq_some_iff.1 r2).1
  have s0 : W4.heap[w.heap.size]? = some (.cells bc.arr 35 (0, 0)) := by rw [← hW4]; exact boxed_at (by omega)
  have s1 : W4.heap[w.heap.size + 1]? = some (.cells o.kb 48 (0, 0)) := by rw [← hW4]; exact boxed_old (by omega) r1
  have s2 : W4.heap[w.heap.size + 1 + 1]? = some (.cells Tryz.zeroCells35 35 (0, 0)) := by rw [← hW4]; exact boxed_old (by omega) r2
  have hV4 : Below w.heap.size w W4 := by rw [← hW4]; exact boxed_below hV3 (Nat.le_refl _)
  have HK4 : Hid (KbM W4 (w.heap.size + 1 + 1 + 1) W4.heap.size bc ps) := by rw [← hW4]; exact (HKC.out.boxed (.inl (by omega))).more (Nat.le_refl _) (by simp)
  have hz4 : w.heap.size + 1 + 1 < W4.heap.size := (Array.getElem?_eq_some_iff.1 s2).1
  have HL4 : Hid (Lst W4 (w.heap.size + 1 + 1 + 1) bc.vp ps) := by rw [← hW4]; exact HLS.out.boxed (by omega)
  rw [hW4]
  clear hW4 HKC HLS r0 r1 r2 hV3 hz3 W3
  have ck : W4.cell? ⟨w.heap.size + 1, 0, none⟩ = some (.int .u8 1) := by rw [cell_of_row _ _ _ _ _ _ s1, ← hk]; rfl
  obtain ⟨A0, c0, hvf, _, _⟩ := HL4.out.form
  have HVF := Lib.hid hvf
  have c01 : W4.cell? ⟨w.heap.size, 1, none⟩ = some (.slice A0 ps.length c0) := by rw [cell_of_row _ _ _ _ _ _ s0, Kb.at1, hvf]
  have HL5 : Hid (Lst W4 (w.heap.size + 1 + 1 + 1) (.slice A0 ps.length c0) ps) := by rw [← hvf]; exact HL4
  clear hvf HL4
  go_wp2_with (((with_reducible_and_instances (show wpList _ _ _ (Oper.mk _ (Op.load 44 _) _ _ _ _ :: _) _ _)); refine stop_here ?_))
  refine ⟨?_⟩
  refine wpList_load_mid rfl _ _ rfl (w.heap.size + 1) 4 rfl o.P.arr.toList _ (Ov.range_P s1) Tryz.underlying44 rfl info6p ?_
  rw [Array.toArray_toList]
  go_wp2_with fail
  refine (pladd_any W4 (w.heap.size + 1 + 1 + 1) ps.length c0 A0 ps o.P.a o.P.u o.P.e o.P.t o.P.g o.P.l HL5.out rfl hps).mono ?_
  rintro e W5 ⟨hadd, hb⟩
  have y0 := below_block hb s0
  have y2 := below_block hb s2
  have hV5 : Below w.heap.size w W5 := hV4.trans (hb.mono hV4.size)
  have hs5 := hb.size
  have hzB : w.heap.size < W5.heap.size := by omega
  have HK5 : Hid (KbM W5 (w.heap.size + 1 + 1 + 1) W4.heap.size bc ps) := HK4.out.kept fun i _ h2 => hb.block i h2
  rcases hadd with ⟨h1, _⟩ | ⟨_, _, rfl⟩ | ⟨_, h2, _⟩
  · exact absurd hpr h1
  · clear hb s0 s1 s2 HK4 HL5 ck c01 hpr
    have e9 := boxed_self y0
    rw [e9]
    clear e9
    go_wp2_with (((with_reducible_and_instances (show wpList _ _ _ (Oper.mk _ (Op.build 35 _) _ _ _ _ :: _) _ _)); refine stop_here ?_))
    refine ⟨?_⟩
    refine wpList_buildTo rfl 35 _ rfl _ rfl _ (Eq.trans (congrArg (Program.built _ _) (by simp)) Kb.zero_built) ?_
    go_wp2_with (((with_reducible_and_instances (show wpList _ _ _ (Oper.mk _ (Op.store 35 _ _) _ _ _ _ :: _) _ _)); refine stop_here ?_))
    refine ⟨?_⟩
    refine wl_store (g := w.heap.size + 1 + 1) Kb.info rfl rfl rfl rfl (boxed_old (by omega) y2) Kb.zero_size (Kb.arr_size _) Kb.zero_one.arr ?_
    go_wp2_with fail
    refine bodyPost_ret (results_row_tmp rfl _ _ (w.heap.size + 1 + 1) 35 _ (0, 0) _ rfl (boxed_at (by have := (Array.getElem?_eq_some_iff.1 y2).1; simp only [boxed_size]; omega)) Tryz.underlying35 rfl (by rw [Kb.arr_size]; exact Kb.info)) rfl ?_
    exact ⟨rfl, boxed_below (boxed_below hV5 (Nat.le_refl _)) (by omega)⟩
  · exact absurd h2 (by omega)
set_option maxHeartbeats 8000000 in
theorem bkstep_def_yes {w : World} {b : Kb} {ps : List Pv} {o : Ov} (hr : o.right = 0) (hk : o.k = 1) (hkm : KbM w 0 w.heap.size b ps) (hps : ps.length ≤ 1000) (hln : ∀ k, k < 32 → (b.a k).l.length ≤ 1000000) (hpr : Pn.right o.P.a o.P.u o.P.e o.P.t = 0) (hfull : ps.length < 8) : Calls Tryz.prog 14 #[.agg b.arr, .agg o.kb] w (StYes b.td b.a (ps ++ [o.P]) w) := by
  have HR := Lib.hid hr
  have HKM := Lib.hid hkm
  have HLN := Lib.hid hln
  clear hr hkm hln
  go_enter Tryz.func14, Tryz.ntmps14
  go_wp2_with (((with_reducible_and_instances (show wpList _ _ _ (Oper.mk _ (Op.load 48 _) _ _ _ _ :: _) _ _)); refine stop_here ?_))
  refine ⟨?_⟩
  refine wl_load (cs := o.kb) (fr := (0, 0)) (g := w.heap.size + 1) Tryz.underlying48 rfl info16k rfl rfl rfl (alloc_old (by first | (simp; done) | (simp; omega)) (alloc_at (by simp))) rfl ?_
  go_wp2_with fail
  obtain ⟨W1, hW1⟩ : ∃ W1, ((w.alloc (.cells b.arr 35)).alloc (.cells o.kb 48)).alloc (.cells Tryz.zeroCells35 35) = W1 := ⟨_, rfl⟩
  have f0 : W1.heap[w.heap.size]? = some (.cells b.arr 35 (0, 0)) := by rw [← hW1]; exact alloc_old (by first | (simp; done) | (simp; omega)) (alloc_old (by first | (simp; done) | (simp; omega)) (alloc_at rfl))
  have f1 : W1.heap[w.heap.size + 1]? = some (.cells o.kb 48 (0, 0)) := by rw [← hW1]; exact alloc_old (by first | (simp; done) | (simp; omega)) (alloc_at (by simp))
  have f2 : W1.heap[w.heap.size + 1 + 1]? = some (.cells Tryz.zeroCells35 35 (0, 0)) := by rw [← hW1]; exact alloc_at (by simp)
  have hV : Below w.heap.size w W1 := by rw [← hW1]; exact (((Below.refl _ w).alloc (by first | exact Nat.le_refl _ | (simp; done) | (simp; omega)) _).alloc (by first | exact Nat.le_refl _ | (simp; done) | (simp; omega)) _).alloc (by first | exact Nat.le_refl _ | (simp; done) | (simp; omega)) _
  rw [hW1]
  clear hW1
  refine (right_kb o W1).mono ?_
  rintro e W2 ⟨rfl, hb⟩
  rw [HR.out]
  have q0 : W2.heap[w.heap.size]? = some (.cells b.arr 35 (0, 0)) := below_block hb f0
  have q1 : W2.heap[w.heap.size + 1]? = some (.cells o.kb 48 (0, 0)) := below_block hb f1
  have q2 : W2.heap[w.heap.size + 1 + 1]? = some (.cells Tryz.zeroCells35 35 (0, 0)) := below_block hb f2
  have hV2 : Below w.heap.size w W2 := hV.trans (hb.mono hV.size)
  have hz2 : w.heap.size + 1 + 1 < W2.heap.size := (Array.getElem?_eq_some_iff.1 q2).1
  clear hb f0 f1 f2 hV W1
  go_wp2_with (((with_reducible_and_instances (show wpList _ _ _ (Oper.mk _ (Op.load 35 _) _ _ _ _ :: _) _ _)); refine stop_here ?_))
  refine ⟨?_⟩
  refine wl_load (cs := b.arr) (fr := (0, 0)) (g := w.heap.size) Tryz.underlying35 rfl Kb.info rfl rfl rfl q0 (Kb.arr_size _) ?_
  go_wp2_with fail
  refine (copied_any (b := b) (ps := ps) (w := W2) ((HKM.out.kept fun i _ h2 => hV2.block i h2).more (Nat.le_refl _) hV2.size) (by omega) (fun k hk => by have := HLN.out k hk; omega)).mono ?_
  rintro e W3 ⟨vp, vv, rfl, hlp, hcy, hb⟩
  have r0 := below_block hb q0
  have r1 := below_block hb q1
  have r2 := below_block hb q2
  have hV3 : Below w.heap.size w W3 := hV2.trans (hb.mono hV2.size)
  have hs3 := hb.size
  obtain ⟨bc, hbc⟩ : ∃ bc, ({ b with vp := vp, v := vv } : Kb) = bc := ⟨_, rfl⟩
  rw [hbc]
  have hkm : KbM W3 (w.heap.size + 1 + 1 + 1) W3.heap.size bc ps := by
    rw [← hbc]
    have h9 : ∀ k, k < 32 → Cys W3 (w.heap.size + 1 + 1 + 1) W3.heap.size (vv k) (b.a k).l := fun k hk => (hcy k hk).more (by omega) (Nat.le_refl _)
    exact ⟨Kb.one_of (b := { b with vp := vp, v := vv }) hlp.pys.one h9, (hlp.more (by omega)).pys, h9⟩
  have HKC := Lib.hid hkm
  have HBC : Hid (∃ vp vv, bc = ({ b with vp := vp, v := vv } : Kb)) := ⟨vp, vv, hbc.symm⟩
  have HLS : Hid (Lst W3 (w.heap.size + 1 + 1 + 1) bc.vp ps) := by rw [← hbc]; exact hlp.more (by omega)
  have ea : bc.a = b.a := by rw [← hbc]
  have et : bc.td = b.td := by rw [← hbc]
  have EA := Lib.hid ea
  have ET := Lib.hid et
  clear hb q0 q1 q2 hV2 hlp hcy hbc ea et hkm hz2 hs3 W2
  go_wp2_with (((with_reducible_and_instances (show wpList _ _ _ (Oper.mk _ (Op.store 35 _ _) _ _ _ _ :: _) _ _)); refine stop_here ?_))
  refine ⟨?_⟩
  refine wl_store (g := w.heap.size) Kb.info rfl rfl rfl rfl r0 (Kb.arr_size _) (Kb.arr_size _) HKC.out.one.arr ?_
  obtain ⟨W4, hW4⟩ : ∃ W4, boxed W3 w.heap.size bc.arr 35 = W4 := ⟨_, rfl⟩
  have hz3 : w.heap.size + 1 + 1 < W3.heap.size := (Array.getElem?_eq_some_iff.1 r2).1
  have s0 : W4.heap[w.heap.size]? = some (.cells bc.arr 35 (0, 0)) := by rw [← hW4]; exact boxed_at (by omega)
  have s1 : W4.heap[w.heap.size + 1]? = some (.cells o.kb 48 (0, 0)) := by rw [← hW4]; exact boxed_old (by omega) r1
  have s2 : W4.heap[w.heap.size + 1 + 1]? = some (.cells Tryz.zeroCells35 35 (0, 0)) := by rw [← hW4]; exact boxed_old (by omega) r2
  have hV4 : Below w.heap.size w W4 := by rw [← hW4]; exact boxed_below hV3 (Nat.le_refl _)
  have HK4 : Hid (KbM W4 (w.heap.size + 1 + 1 + 1) W4.heap.size bc ps) := by rw [← hW4]; exact (HKC.out.boxed (.inl (by omega))).more (Nat.le_refl _) (by simp)
  have hz4 : w.heap.size + 1 + 1 < W4.heap.size := (Array.getElem?_eq_some_iff.1 s2).1
  have HL4 : Hid (Lst W4 (w.heap.size + 1 + 1 + 1) bc.vp ps) := by rw [← hW4]; exact HLS.out.boxed (by omega)
  rw [hW4]
  clear hW4 HKC HLS r0 r1 r2 hV3 hz3 W3
  have ck : W4.cell? ⟨w.heap.size + 1, 0, none⟩ = some (.int .u8 1) := by rw [cell_of_row _ _ _ _ _ _ s1, ← hk]; rfl
  obtain ⟨A0, c0, hvf, _, _⟩ := HL4.out.form
  have HVF := Lib.hid hvf
  have c01 : W4.cell? ⟨w.heap.size, 1, none⟩ = some (.slice A0 ps.length c0) := by rw [cell_of_row _ _ _ _ _ _ s0, Kb.at1, hvf]
  have HL5 : Hid (Lst W4 (w.heap.size + 1 + 1 + 1) (.slice A0 ps.length c0) ps) := by rw [← hvf]; exact HL4
  clear hvf HL4
  go_wp2_with (((with_reducible_and_instances (show wpList _ _ _ (Oper.mk _ (Op.load 44 _) _ _ _ _ :: _) _ _)); refine stop_here ?_))
  refine ⟨?_⟩
  refine wpList_load_mid rfl _ _ rfl (w.heap.size + 1) 4 rfl o.P.arr.toList _ (Ov.range_P s1) Tryz.underlying44 rfl info6p ?_
  rw [Array.toArray_toList]
  go_wp2_with fail
  refine (pladd_any W4 (w.heap.size + 1 + 1 + 1) ps.length c0 A0 ps o.P.a o.P.u o.P.e o.P.t o.P.g o.P.l HL5.out rfl hps).mono ?_
  rintro e W5 ⟨hadd, hb⟩
  have y0 := below_block hb s0
  have y2 := below_block hb s2
  have hV5 : Below w.heap.size w W5 := hV4.trans (hb.mono hV4.size)
  have hs5 := hb.size
  have hzB : w.heap.size < W5.heap.size := by omega
  have HK5 : Hid (KbM W5 (w.heap.size + 1 + 1 + 1) W4.heap.size bc ps) := HK4.out.kept fun i _ h2 => hb.block i h2
  rcases hadd with ⟨h1, _⟩ | ⟨_, h2, _⟩ | ⟨_, _, A6, c6, rfl, hl6⟩
  · exact absurd hpr h1
  · exact absurd hfull (by omega)
  · have HL6 : Hid (Lst W5 (w.heap.size + 1 + 1 + 1) (.slice A6 (ps.length + 1) c6) (ps ++ [o.P])) := Lst.more (l := ps ++ [o.P]) hl6 (by omega)
    clear hb s0 s1 s2 HK4 HL5 ck c01 hpr hl6
    have e9 := boxed_self y0
    rw [e9]
    clear e9
    go_wp2_with (((with_reducible_and_instances (show wpList _ _ _ (Oper.mk _ (Op.load 35 _) _ _ _ _ :: _) _ _)); refine stop_here ?_))
    refine ⟨?_⟩
    obtain ⟨c5, hc5⟩ : ∃ c5, ({ bc with vp := .slice A6 (ps.length + 1) c6 } : Kb) = c5 := ⟨_, rfl⟩
    obtain ⟨W6, hW6⟩ : ∃ W6, boxed W5 (w.heap.size) ({ bc with vp := .slice A6 (ps.length + 1) c6 } : Kb).arr 35 = W6 := ⟨_, rfl⟩
    have z0 : W6.heap[w.heap.size]? = some (.cells c5.arr 35 (0, 0)) := by rw [← hW6, ← hc5]; exact boxed_at (by omega)
    have z2 : W6.heap[w.heap.size + 1 + 1]? = some (.cells Tryz.zeroCells35 35 (0, 0)) := by rw [← hW6]; exact boxed_old (by omega) y2
    have hV6 : Below w.heap.size w W6 := by rw [← hW6]; exact boxed_below hV5 (Nat.le_refl _)
    have hz6 : w.heap.size + 1 + 1 < W6.heap.size := (Array.getElem?_eq_some_iff.1 z2).1
    have HKF : Hid (KbM W6 (w.heap.size + 1 + 1 + 1) W6.heap.size c5 (ps ++ [o.P])) := by
      rw [← hW6, ← hc5]
      have h7 : ∀ k, k < 32 → Cys (boxed W5 (w.heap.size) ({ bc with vp := .slice A6 (ps.length + 1) c6 } : Kb).arr 35) (w.heap.size + 1 + 1 + 1) (boxed W5 (w.heap.size) ({ bc with vp := .slice A6 (ps.length + 1) c6 } : Kb).arr 35).heap.size (bc.v k) (bc.a k).l := fun k hk9 => (((HK5.out.cs k hk9)).boxed (.inl (by omega))).more (Nat.le_refl _) (by simp; omega)
      exact ⟨Kb.one_of rfl h7, (HL6.out.boxed (by omega)).pys, h7⟩
    have HTD : Hid (c5.td = b.td) := by rw [← hc5]; exact ET.out
    have HFA : Hid (∀ k, k < 32 → c5.a k = b.a k) := fun k _ => by rw [← hc5]; exact congrFun EA.out k
    rw [hW6]
    clear hW6 hc5 HL6 HK5 y0 y2 hV5 hs5 hzB W5
    refine wl_load (cs := c5.arr) (fr := (0, 0)) (g := w.heap.size) Tryz.underlying35 rfl Kb.info rfl rfl rfl z0 (Kb.arr_size _) ?_
    go_wp2_with (((with_reducible_and_instances (show wpList _ _ _ (Oper.mk _ (Op.store 35 _ _) _ _ _ _ :: _) _ _)); refine stop_here ?_))
    refine ⟨?_⟩
    refine wl_store (g := w.heap.size + 1 + 1) Kb.info rfl rfl rfl rfl z2 Kb.zero_size (Kb.arr_size _) HKF.out.one.arr ?_
    go_wp2_with fail
    refine bodyPost_ret (results_row_tmp rfl _ _ (w.heap.size + 1 + 1) 35 _ (0, 0) _ rfl (boxed_at (by have := (Array.getElem?_eq_some_iff.1 z2).1; omega)) Tryz.underlying35 rfl (by rw [Kb.arr_size]; exact Kb.info)) rfl ?_
    refine ⟨c5, HTD.out, HFA.out, rfl, ((HKF.out.boxed (.inl (by omega))).more (by omega) (by simp)), boxed_below hV6 (by omega)⟩
end Go.Proofs.YtblikgbcakgdnaaGreat
/-
  The document's own Step: Cancel and Card. No conditions but the sizes.
-/
namespace Go.Proofs.YtblikgbcakgdnaaGreat
set_option maxRecDepth 100000
open Go.ChangeShapes Go.WideShapes Go.ChangeAt Go.RowKit

/-- What those that come to nothing by f leave. -/
def gainOf (f : Cv → Cv) : List Cv → Int
  | [] => 0
  | c :: r => (if ((f c).p = 8 ∨ (f c).p = 9) ∧ c.p < 7 then (f c).u else 0) + gainOf f r
theorem gain_cons (f : Cv → Cv) (c : Cv) (r : List Cv) : gainOf f (c :: r) = (if ((f c).p = 8 ∨ (f c).p = 9) ∧ c.p < 7 then (f c).u else 0) + gainOf f r := rfl
theorem gain_append (f : Cv → Cv) (a b : List Cv) : gainOf f (a ++ b) = gainOf f a + gainOf f b := by
  induction a with
  | nil => simp [gainOf]
  | cons c r ih => rw [List.cons_append, gain_cons, gain_cons, ih]; omega
theorem gain_back (f : Cv → Cv) (l : List Cv) : gainOf f l = backOf ((opn l).map f) := by
  induction l with
  | nil => rfl
  | cons c r ih =>
    rw [gain_cons, ih]
    by_cases h : c.p < 7
    · rw [opn_cons_yes h, List.map_cons, back_cons]
      by_cases h2 : (f c).p = 8 ∨ (f c).p = 9
      · rw [if_pos ⟨h2, h⟩, if_pos h2]
      · rw [if_neg (fun g => h2 g.1), if_neg h2]
    · rw [opn_cons_no h, if_neg (fun g => h g.2)]; omega
/-- A list that lies apart from what a call has boxed. -/
def Cyb (b0 B S : Nat) (w : World) (v : Value) (l : List Cv) : Prop := ∃ b c, (b0 ≤ b ∧ c ≤ B ∨ S + 1 ≤ b) ∧ c ≤ w.heap.size ∧ Cys w b c v l
theorem Cyb.kept {b0 B S : Nat} {w w' : World} {v : Value} {l : List Cv} (h : Cyb b0 B S w v l) (hz : w.heap.size ≤ w'.heap.size) (hk : ∀ i, i < w.heap.size → (i < B ∨ S + 1 ≤ i) → w'.heap[i]? = w.heap[i]?) : Cyb b0 B S w' v l := by
  obtain ⟨b, c, hap, hc, hcys⟩ := h
  exact ⟨b, c, hap, by omega, hcys.kept fun i h1 h2 => hk i (by omega) (by omega)⟩
end Go.Proofs.YtblikgbcakgdnaaGreat
