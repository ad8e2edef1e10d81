/-
  An order told to a book: days go by, a new plan. No conditions but the sizes, and what the book's own functions answer.
-/
import Derived.Test.YtblikgbcakgdnaaGreatBr28
set_option linter.unusedSimpArgs false
set_option linter.unusedVariables false
namespace Go.Proofs.YtblikgbcakgdnaaGreat
set_option linter.unusedVariables false
set_option linter.unusedSimpArgs false
set_option maxRecDepth 100000
open Go.ChangeShapes Go.WideShapes Go.ChangeAt Go.RowKit

set_option maxHeartbeats 8000000 in
theorem bkstep_pass_no {w : World} {b : Kb} {ps : List Pv} {o : Ov} (hr : o.right = 0) (hk : o.k = 9) (hkm : KbM w 0 w.heap.size b ps) (hps : ps.length ≤ 1000) (hln : ∀ k, k < 32 → (b.a k).l.length ≤ 1000000) {x : Int} (hx : x ≠ 0) (HA : Hid (∀ (W : World) (c : Kb), Below w.heap.size w W → c.td = b.td → c.a = b.a → KbM W 0 W.heap.size c ps → Calls Tryz.prog 29 #[.agg c.arr, .int .i64 o.n] W fun e w' => e = .returned (.tuple #[.agg Kb.zero.arr, .int .i64 x]) ∧ Below W.heap.size W w')) : Calls Tryz.prog 14 #[.agg b.arr, .agg o.kb] w (StNo x w) := by
  have HR := Lib.hid hr
  have HKM := Lib.hid hkm
  have HLN := Lib.hid hln
  clear hr hkm hln
  go_enter Tryz.func14, Tryz.ntmps14
  go_wp2_with (((with_reducible_and_instances (show wpList _ _ _ (Oper.mk _ (Op.load 48 _) _ _ _ _ :: _) _ _)); refine stop_here ?_))
  refine ⟨?_⟩
  refine wl_load (cs := o.kb) (fr := (0, 0)) (g := w.heap.size + 1) Tryz.underlying48 rfl info16k rfl rfl rfl (alloc_old (by first | (simp; done) | (simp; omega)) (alloc_at (by simp))) rfl ?_
  go_wp2_with fail
  obtain ⟨W1, hW1⟩ : ∃ W1, ((w.alloc (.cells b.arr 35)).alloc (.cells o.kb 48)).alloc (.cells Tryz.zeroCells35 35) = W1 := ⟨_, rfl⟩
  have f0 : W1.heap[w.heap.size]? = some (.cells b.arr 35 (0, 0)) := by rw [← hW1]; exact alloc_old (by first | (simp; done) | (simp; omega)) (alloc_old (by first | (simp; done) | (simp; omega)) (alloc_at rfl))
  have f1 : W1.heap[w.heap.size + 1]? = some (.cells o.kb 48 (0, 0)) := by rw [← hW1]; exact alloc_old (by first | (simp; done) | (simp; omega)) (alloc_at (by simp))
  have f2 : W1.heap[w.heap.size + 1 + 1]? = some (.cells Tryz.zeroCells35 35 (0, 0)) := by rw [← hW1]; exact alloc_at (by simp)
  have hV : Below w.heap.size w W1 := by rw [← hW1]; exact (((Below.refl _ w).alloc (by first | exact Nat.le_refl _ | (simp; done) | (simp; omega)) _).alloc (by first | exact Nat.le_refl _ | (simp; done) | (simp; omega)) _).alloc (by first | exact Nat.le_refl _ | (simp; done) | (simp; omega)) _
  rw [hW1]
  clear hW1
  refine (right_kb o W1).mono ?_
  rintro e W2 ⟨rfl, hb⟩
  rw [HR.out]
  have q0 : W2.heap[w.heap.size]? = some (.cells b.arr 35 (0, 0)) := below_block hb f0
  have q1 : W2.heap[w.heap.size + 1]? = some (.cells o.kb 48 (0, 0)) := below_block hb f1
  have q2 : W2.heap[w.heap.size + 1 + 1]? = some (.cells Tryz.zeroCells35 35 (0, 0)) := below_block hb f2
  have hV2 : Below w.heap.size w W2 := hV.trans (hb.mono hV.size)
  have hz2 : w.heap.size + 1 + 1 < W2.heap.size := (Array.getElem?_eq_some_iff.1 q2).1
  clear hb f0 f1 f2 hV W1
  go_wp2_with (((with_reducible_and_instances (show wpList _ _ _ (Oper.mk _ (Op.load 35 _) _ _ _ _ :: _) _ _)); refine stop_here ?_))
  refine ⟨?_⟩
  refine wl_load (cs := b.arr) (fr := (0, 0)) (g := w.heap.size) Tryz.underlying35 rfl Kb.info rfl rfl rfl q0 (Kb.arr_size _) ?_
  go_wp2_with fail
  refine (copied_any (b := b) (ps := ps) (w := W2) ((HKM.out.kept fun i _ h2 => hV2.block i h2).more (Nat.le_refl _) hV2.size) (by omega) (fun k hk => by have := HLN.out k hk; omega)).mono ?_
  rintro e W3 ⟨vp, vv, rfl, hlp, hcy, hb⟩
  have r0 := below_block hb q0
  have r1 := below_block hb q1
  have r2 := below_block hb q2
  have hV3 : Below w.heap.size w W3 := hV2.trans (hb.mono hV2.size)
  have hs3 := hb.size
  obtain ⟨bc, hbc⟩ : ∃ bc, ({ b with vp := vp, v := vv } : Kb) = bc := ⟨_, rfl⟩
  rw [hbc]
  have hkm : KbM W3 (w.heap.size + 1 + 1 + 1) W3.heap.size bc ps := by
    rw [← hbc]
    have h9 : ∀ k, k < 32 → Cys W3 (w.heap.size + 1 + 1 + 1) W3.heap.size (vv k) (b.a k).l := fun k hk => (hcy k hk).more (by omega) (Nat.le_refl _)
    exact ⟨Kb.one_of (b := { b with vp := vp, v := vv }) hlp.pys.one h9, (hlp.more (by omega)).pys, h9⟩
  have HKC := Lib.hid hkm
  have HBC : Hid (∃ vp vv, bc = ({ b with vp := vp, v := vv } : Kb)) := ⟨vp, vv, hbc.symm⟩
  have HLS : Hid (Lst W3 (w.heap.size + 1 + 1 + 1) bc.vp ps) := by rw [← hbc]; exact hlp.more (by omega)
  have ea : bc.a = b.a := by rw [← hbc]
  have et : bc.td = b.td := by rw [← hbc]
  have EA := Lib.hid ea
  have ET := Lib.hid et
  clear hb q0 q1 q2 hV2 hlp hcy hbc ea et hkm hz2 hs3 W2
  go_wp2_with (((with_reducible_and_instances (show wpList _ _ _ (Oper.mk _ (Op.store 35 _ _) _ _ _ _ :: _) _ _)); refine stop_here ?_))
  refine ⟨?_⟩
  refine wl_store (g := w.heap.size) Kb.info rfl rfl rfl rfl r0 (Kb.arr_size _) (Kb.arr_size _) HKC.out.one.arr ?_
  obtain ⟨W4, hW4⟩ : ∃ W4, boxed W3 w.heap.size bc.arr 35 = W4 := ⟨_, rfl⟩
  have hz3 : w.heap.size + 1 + 1 < W3.heap.size := (Array.getElem?_eq_some_iff.1 r2).1
  have s0 : W4.heap[w.heap.size]? = some (.cells bc.arr 35 (0, 0)) := by rw [← hW4]; exact boxed_at (by omega)
  have s1 : W4.heap[w.heap.size + 1]? = some (.cells o.kb 48 (0, 0)) := by rw [← hW4]; exact boxed_old (by omega) r1
  have s2 : W4.heap[w.heap.size + 1 + 1]? = some (.cells Tryz.zeroCells35 35 (0, 0)) := by rw [← hW4]; exact boxed_old (by omega) r2
  have hV4 : Below w.heap.size w W4 := by rw [← hW4]; exact boxed_below hV3 (Nat.le_refl _)
  have HK4 : Hid (KbM W4 (w.heap.size + 1 + 1 + 1) W4.heap.size bc ps) := by rw [← hW4]; exact (HKC.out.boxed (.inl (by omega))).more (Nat.le_refl _) (by simp)
  have hz4 : w.heap.size + 1 + 1 < W4.heap.size := (Array.getElem?_eq_some_iff.1 s2).1
  have HL4 : Hid (Lst W4 (w.heap.size + 1 + 1 + 1) bc.vp ps) := by rw [← hW4]; exact HLS.out.boxed (by omega)
  rw [hW4]
  clear hW4 HKC HLS r0 r1 r2 hV3 hz3 W3
  have ck : W4.cell? ⟨w.heap.size + 1, 0, none⟩ = some (.int .u8 9) := by rw [cell_of_row _ _ _ _ _ _ s1, ← hk]; rfl
  have HCALL := Lib.hid (HA.out W4 bc hV4 ET.out EA.out (HK4.out.more (Nat.zero_le _) (Nat.le_refl _)))
  have cn : W4.cell? ⟨w.heap.size + 1, 3, none⟩ = some (.int .i64 o.n) := by rw [cell_of_row _ _ _ _ _ _ s1]; rfl
  have dx : (x != 0) = true := by simpa using hx
  have dx2 : decide (x ≠ 0) = true := by simpa using hx
  go_wp2_with (((with_reducible_and_instances (show wpList _ _ _ (Oper.mk _ (Op.load 35 _) _ _ _ _ :: _) _ _)); refine stop_here ?_))
  refine ⟨?_⟩
  refine wl_load (cs := bc.arr) (fr := (0, 0)) (g := w.heap.size) Tryz.underlying35 rfl Kb.info rfl rfl rfl s0 (Kb.arr_size _) ?_
  go_wp2_with fail
  refine HCALL.out.mono ?_
  rintro e W5 ⟨rfl, hb⟩
  have y0 := below_block hb s0
  have y2 := below_block hb s2
  have hV5 : Below w.heap.size w W5 := hV4.trans (hb.mono hV4.size)
  have hs5 := hb.size
  clear hb s0 s1 s2 HK4 HL4 HCALL ck cn
  go_wp2_with (((with_reducible_and_instances (show wpList _ _ _ (Oper.mk _ (Op.store 35 _ _) _ _ _ _ :: _) _ _)); refine stop_here ?_))
  refine ⟨?_⟩
  refine wl_store (g := w.heap.size) Kb.info rfl rfl rfl rfl y0 (Kb.arr_size _) (Kb.arr_size _) Kb.zero_one.arr ?_
  obtain ⟨W6, hW6⟩ : ∃ W6, boxed W5 w.heap.size Kb.zero.arr 35 = W6 := ⟨_, rfl⟩
  have z2 : W6.heap[w.heap.size + 1 + 1]? = some (.cells Tryz.zeroCells35 35 (0, 0)) := by rw [← hW6]; exact boxed_old (by omega) y2
  have hV6 : Below w.heap.size w W6 := by rw [← hW6]; exact boxed_below hV5 (Nat.le_refl _)
  rw [hW6]
  clear hW6 y0 y2 hV5 hs5 W5
  go_wp2_with (((with_reducible_and_instances (show wpList _ _ _ (Oper.mk _ (Op.build 35 _) _ _ _ _ :: _) _ _)); refine stop_here ?_))
  refine ⟨?_⟩
  refine wpList_buildTo rfl 35 _ rfl _ rfl _ (Eq.trans (congrArg (Program.built _ _) (by simp)) Kb.zero_built) ?_
  go_wp2_with (((with_reducible_and_instances (show wpList _ _ _ (Oper.mk _ (Op.store 35 _ _) _ _ _ _ :: _) _ _)); refine stop_here ?_))
  refine ⟨?_⟩
  refine wl_store (g := w.heap.size + 1 + 1) Kb.info rfl rfl rfl rfl z2 Kb.zero_size (Kb.arr_size _) Kb.zero_one.arr ?_
  go_wp2_with fail
  refine bodyPost_ret (results_row_tmp rfl _ _ (w.heap.size + 1 + 1) 35 _ (0, 0) _ rfl (boxed_at (by have := (Array.getElem?_eq_some_iff.1 z2).1; omega)) Tryz.underlying35 rfl (by rw [Kb.arr_size]; exact Kb.info)) rfl ?_
  exact ⟨rfl, boxed_below hV6 (by omega)⟩
set_option maxHeartbeats 8000000 in
theorem bkstep_pass_yes {w : World} {b : Kb} {ps : List Pv} {o : Ov} (hr : o.right = 0) (hk : o.k = 9) (hkm : KbM w 0 w.heap.size b ps) (hps : ps.length ≤ 1000) (hln : ∀ k, k < 32 → (b.a k).l.length ≤ 1000000) {td' : Int} {A' : Nat → Av} (HA : Hid (∀ (W : World) (c : Kb), Below w.heap.size w W → c.td = b.td → c.a = b.a → KbM W 0 W.heap.size c ps → Calls Tryz.prog 29 #[.agg c.arr, .int .i64 o.n] W fun e w' => ∃ vv, e = .returned (.tuple #[.agg (({ c with td := td' } : Kb).midA A' vv 32).arr, .int .i64 0]) ∧ (∀ k, k < 32 → (vv k = c.v k ∧ A' k = c.a k) ∨ Cys w' W.heap.size w'.heap.size (vv k) (A' k).l) ∧ Below W.heap.size W w')) : Calls Tryz.prog 14 #[.agg b.arr, .agg o.kb] w (StYes td' A' ps w) := by
  have HR := Lib.hid hr
  have HKM := Lib.hid hkm
  have HLN := Lib.hid hln
  clear hr hkm hln
  go_enter Tryz.func14, Tryz.ntmps14
  go_wp2_with (((with_reducible_and_instances (show wpList _ _ _ (Oper.mk _ (Op.load 48 _) _ _ _ _ :: _) _ _)); refine stop_here ?_))
  refine ⟨?_⟩
  refine wl_load (cs := o.kb) (fr := (0, 0)) (g := w.heap.size + 1) Tryz.underlying48 rfl info16k rfl rfl rfl (alloc_old (by first | (simp; done) | (simp; omega)) (alloc_at (by simp))) rfl ?_
  go_wp2_with fail
  obtain ⟨W1, hW1⟩ : ∃ W1, ((w.alloc (.cells b.arr 35)).alloc (.cells o.kb 48)).alloc (.cells Tryz.zeroCells35 35) = W1 := ⟨_, rfl⟩
  have f0 : W1.heap[w.heap.size]? = some (.cells b.arr 35 (0, 0)) := by rw [← hW1]; exact alloc_old (by first | (simp; done) | (simp; omega)) (alloc_old (by first | (simp; done) | (simp; omega)) (alloc_at rfl))
  have f1 : W1.heap[w.heap.size + 1]? = some (.cells o.kb 48 (0, 0)) := by rw [← hW1]; exact alloc_old (by first | (simp; done) | (simp; omega)) (alloc_at (by simp))
  have f2 : W1.heap[w.heap.size + 1 + 1]? = some (.cells Tryz.zeroCells35 35 (0, 0)) := by rw [← hW1]; exact alloc_at (by simp)
  have hV : Below w.heap.size w W1 := by rw [← hW1]; exact (((Below.refl _ w).alloc (by first | exact Nat.le_refl _ | (simp; done) | (simp; omega)) _).alloc (by first | exact Nat.le_refl _ | (simp; done) | (simp; omega)) _).alloc (by first | exact Nat.le_refl _ | (simp; done) | (simp; omega)) _
  rw [hW1]
  clear hW1
  refine (right_kb o W1).mono ?_
  rintro e W2 ⟨rfl, hb⟩
  rw [HR.out]
  have q0 : W2.heap[w.heap.size]? = some (.cells b.arr 35 (0, 0)) := below_block hb f0
  have q1 : W2.heap[w.heap.size + 1]? = some (.cells o.kb 48 (0, 0)) := below_block hb f1
  have q2 : W2.heap[w.heap.size + 1 + 1]? = some (.cells Tryz.zeroCells35 35 (0, 0)) := below_block hb f2
  have hV2 : Below w.heap.size w W2 := hV.trans (hb.mono hV.size)
  have hz2 : w.heap.size + 1 + 1 < W2.heap.size := (Array.getElem?_eq_some_iff.1 q2).1
  clear hb f0 f1 f2 hV W1
  go_wp2_with (((with_reducible_and_instances (show wpList _ _ _ (Oper.mk _ (Op.load 35 _) _ _ _ _ :: _) _ _)); refine stop_here ?_))
  refine ⟨?_⟩
  refine wl_load (cs := b.arr) (fr := (0, 0)) (g := w.heap.size) Tryz.underlying35 rfl Kb.info rfl rfl rfl q0 (Kb.arr_size _) ?_
  go_wp2_with fail
  refine (copied_any (b := b) (ps := ps) (w := W2) ((HKM.out.kept fun i _ h2 => hV2.block i h2).more (Nat.le_refl _) hV2.size) (by omega) (fun k hk => by have := HLN.out k hk; omega)).mono ?_
  rintro e W3 ⟨vp, vv, rfl, hlp, hcy, hb⟩
  have r0 := below_block hb q0
  have r1 := below_block hb q1
  have r2 := below_block hb q2
  have hV3 : Below w.heap.size w W3 := hV2.trans (hb.mono hV2.size)
  have hs3 := hb.size
  obtain ⟨bc, hbc⟩ : ∃ bc, ({ b with vp := vp, v := vv } : Kb) = bc := ⟨_, rfl⟩
  rw [hbc]
  have hkm : KbM W3 (w.heap.size + 1 + 1 + 1) W3.heap.size bc ps := by
    rw [← hbc]
    have h9 : ∀ k, k < 32 → Cys W3 (w.heap.size + 1 + 1 + 1) W3.heap.size (vv k) (b.a k).l := fun k hk => (hcy k hk).more (by omega) (Nat.le_refl _)
    exact ⟨Kb.one_of (b := { b with vp := vp, v := vv }) hlp.pys.one h9, (hlp.more (by omega)).pys, h9⟩
  have HKC := Lib.hid hkm
  have HBC : Hid (∃ vp vv, bc = ({ b with vp := vp, v := vv } : Kb)) := ⟨vp, vv, hbc.symm⟩
  have HLS : Hid (Lst W3 (w.heap.size + 1 + 1 + 1) bc.vp ps) := by rw [← hbc]; exact hlp.more (by omega)
  have ea : bc.a = b.a := by rw [← hbc]
  have et : bc.td = b.td := by rw [← hbc]
  have EA := Lib.hid ea
  have ET := Lib.hid et
  clear hb q0 q1 q2 hV2 hlp hcy hbc ea et hkm hz2 hs3 W2
  go_wp2_with (((with_reducible_and_instances (show wpList _ _ _ (Oper.mk _ (Op.store 35 _ _) _ _ _ _ :: _) _ _)); refine stop_here ?_))
  refine ⟨?_⟩
  refine wl_store (g := w.heap.size) Kb.info rfl rfl rfl rfl r0 (Kb.arr_size _) (Kb.arr_size _) HKC.out.one.arr ?_
  obtain ⟨W4, hW4⟩ : ∃ W4, boxed W3 w.heap.size bc.arr 35 = W4 := ⟨_, rfl⟩
  have hz3 : w.heap.size + 1 + 1 < W3.heap.size := (Array.getElem?_eq_some_iff.1 r2).1
  have s0 : W4.heap[w.heap.size]? = some (.cells bc.arr 35 (0, 0)) := by rw [← hW4]; exact boxed_at (by omega)
  have s1 : W4.heap[w.heap.size + 1]? = some (.cells o.kb 48 (0, 0)) := by rw [← hW4]; exact boxed_old (by omega) r1
  have s2 : W4.heap[w.heap.size + 1 + 1]? = some (.cells Tryz.zeroCells35 35 (0, 0)) := by rw [← hW4]; exact boxed_old (by omega) r2
  have hV4 : Below w.heap.size w W4 := by rw [← hW4]; exact boxed_below hV3 (Nat.le_refl _)
  have HK4 : Hid (KbM W4 (w.heap.size + 1 + 1 + 1) W4.heap.size bc ps) := by rw [← hW4]; exact (HKC.out.boxed (.inl (by omega))).more (Nat.le_refl _) (by simp)
  have hz4 : w.heap.size + 1 + 1 < W4.heap.size := (Array.getElem?_eq_some_iff.1 s2).1
  have HL4 : Hid (Lst W4 (w.heap.size + 1 + 1 + 1) bc.vp ps) := by rw [← hW4]; exact HLS.out.boxed (by omega)
  rw [hW4]
  clear hW4 HKC HLS r0 r1 r2 hV3 hz3 W3
  have ck : W4.cell? ⟨w.heap.size + 1, 0, none⟩ = some (.int .u8 9) := by rw [cell_of_row _ _ _ _ _ _ s1, ← hk]; rfl
  have HCALL := Lib.hid (HA.out W4 bc hV4 ET.out EA.out (HK4.out.more (Nat.zero_le _) (Nat.le_refl _)))
  have cn : W4.cell? ⟨w.heap.size + 1, 3, none⟩ = some (.int .i64 o.n) := by rw [cell_of_row _ _ _ _ _ _ s1]; rfl
  go_wp2_with (((with_reducible_and_instances (show wpList _ _ _ (Oper.mk _ (Op.load 35 _) _ _ _ _ :: _) _ _)); refine stop_here ?_))
  refine ⟨?_⟩
  refine wl_load (cs := bc.arr) (fr := (0, 0)) (g := w.heap.size) Tryz.underlying35 rfl Kb.info rfl rfl rfl s0 (Kb.arr_size _) ?_
  go_wp2_with fail
  refine HCALL.out.mono ?_
  rintro e W5 ⟨vv', rfl, hcs, hb⟩
  have y0 := below_block hb s0
  have y2 := below_block hb s2
  have hV5 : Below w.heap.size w W5 := hV4.trans (hb.mono hV4.size)
  have hs5 := hb.size
  obtain ⟨c5, hc5⟩ : ∃ c5, ({ bc with td := td' } : Kb).midA A' vv' 32 = c5 := ⟨_, rfl⟩
  have HKF : Hid (KbM W5 (w.heap.size + 1 + 1 + 1) W5.heap.size c5 ps) := by
    rw [← hc5]
    have h9 : ∀ k, k < 32 → Cys W5 (w.heap.size + 1 + 1 + 1) W5.heap.size (vv' k) (A' k).l := fun k hk9 => by
      rcases hcs k hk9 with h | h
      · rw [h.1, h.2]; exact ((HK4.out.cs k hk9).kept fun i _ h2 => hb.block i h2).more (Nat.le_refl _) (by omega)
      · exact h.more (by omega) (Nat.le_refl _)
    have h8 : ∀ k, k < 32 → (({ bc with td := td' } : Kb).midA A' vv' 32).v k = vv' k ∧ (({ bc with td := td' } : Kb).midA A' vv' 32).a k = A' k := fun k hk9 => ⟨if_pos hk9, if_pos hk9⟩
    have h7 : ∀ k, k < 32 → Cys W5 (w.heap.size + 1 + 1 + 1) W5.heap.size ((({ bc with td := td' } : Kb).midA A' vv' 32).v k) ((({ bc with td := td' } : Kb).midA A' vv' 32).a k).l := fun k hk9 => by rw [(h8 k hk9).1, (h8 k hk9).2]; exact h9 k hk9
    exact ⟨Kb.one_of HK4.out.one.1 h7, (HK4.out.ps.kept fun i _ h2 => hb.block i h2).more (Nat.le_refl _) (by omega), h7⟩
  have HTD : Hid (c5.td = td') := by rw [← hc5]; exact rfl
  have HFA : Hid (∀ k, k < 32 → c5.a k = A' k) := fun k hk9 => by rw [← hc5]; exact if_pos hk9
  rw [hc5]
  clear hc5 hcs hb s0 s1 s2 HK4 HL4 HCALL ck cn
  go_wp2_with (((with_reducible_and_instances (show wpList _ _ _ (Oper.mk _ (Op.store 35 _ _) _ _ _ _ :: _) _ _)); refine stop_here ?_))
  refine ⟨?_⟩
  refine wl_store (g := w.heap.size) Kb.info rfl rfl rfl rfl y0 (Kb.arr_size _) (Kb.arr_size _) HKF.out.one.arr ?_
  obtain ⟨W6, hW6⟩ : ∃ W6, boxed W5 w.heap.size c5.arr 35 = W6 := ⟨_, rfl⟩
  have z0 : W6.heap[w.heap.size]? = some (.cells c5.arr 35 (0, 0)) := by rw [← hW6]; exact boxed_at (by omega)
  have z2 : W6.heap[w.heap.size + 1 + 1]? = some (.cells Tryz.zeroCells35 35 (0, 0)) := by rw [← hW6]; exact boxed_old (by omega) y2
  have hV6 : Below w.heap.size w W6 := by rw [← hW6]; exact boxed_below hV5 (Nat.le_refl _)
  have HKG : Hid (KbM W6 (w.heap.size + 1 + 1 + 1) W6.heap.size c5 ps) := by rw [← hW6]; exact (HKF.out.boxed (.inl (by omega))).more (Nat.le_refl _) (by simp)
  have hz6 : w.heap.size + 1 + 1 < W6.heap.size := (Array.getElem?_eq_some_iff.1 z2).1
  rw [hW6]
  clear hW6 y0 y2 hV5 hs5 HKF W5
  go_wp2_with (((with_reducible_and_instances (show wpList _ _ _ (Oper.mk _ (Op.load 35 _) _ _ _ _ :: _) _ _)); refine stop_here ?_))
  refine ⟨?_⟩
  refine wl_load (cs := c5.arr) (fr := (0, 0)) (g := w.heap.size) Tryz.underlying35 rfl Kb.info rfl rfl rfl z0 (Kb.arr_size _) ?_
  go_wp2_with (((with_reducible_and_instances (show wpList _ _ _ (Oper.mk _ (Op.store 35 _ _) _ _ _ _ :: _) _ _)); refine stop_here ?_))
  refine ⟨?_⟩
  refine wl_store (g := w.heap.size + 1 + 1) Kb.info rfl rfl rfl rfl z2 Kb.zero_size (Kb.arr_size _) HKG.out.one.arr ?_
  go_wp2_with fail
  refine bodyPost_ret (results_row_tmp rfl _ _ (w.heap.size + 1 + 1) 35 _ (0, 0) _ rfl (boxed_at (by have := (Array.getElem?_eq_some_iff.1 z2).1; omega)) Tryz.underlying35 rfl (by rw [Kb.arr_size]; exact Kb.info)) rfl ?_
  refine ⟨c5, HTD.out, HFA.out, rfl, ((HKG.out.boxed (.inl (by omega))).more (by omega) (by simp)), boxed_below hV6 (by omega)⟩
end Go.Proofs.YtblikgbcakgdnaaGreat
