/-
  An order told to a book: package book's Step. No conditions but the sizes, and what the kinds' own functions answer.
-/
import Derived.Test.YtblikgbcakgdnaaGreatBr23
import Derived.Test.YtblikgbcakgdnaaGreatBr24
import Derived.Test.YtblikgbcakgdnaaGreatBr27
set_option linter.unusedSimpArgs false
set_option linter.unusedVariables false
namespace Go.Proofs.YtblikgbcakgdnaaGreat
set_option linter.unusedVariables false
set_option linter.unusedSimpArgs false
set_option maxRecDepth 100000
open Go.ChangeShapes Go.WideShapes Go.ChangeAt Go.RowKit

/-- An order's cells. -/
def Ov.kb (o : Ov) : Array Value := #[.int .u8 o.k, .int .i64 o.s, .int .i64 o.p, .int .i64 o.n, .int .i64 o.P.a, .int .u8 o.P.u, .int .i64 o.P.e, .int .i64 o.P.t, .bool o.P.g, .bool o.P.l, .int .u8 o.A.k, .int .i64 o.A.s, .int .i64 o.A.c, .int .i64 o.A.t, .int .i64 o.A.a, .int .u8 o.A.v]
theorem right_kb (o : Ov) (w : World) : Calls Tryz.prog 13 #[.agg o.kb] w fun x w' => x = .returned (.int .i64 o.right) ∧ Below w.heap.size w w' := by
  obtain ⟨k, s, p, n, ⟨a, u, e, t, g, l⟩, ⟨K, S, C, T, M, V⟩⟩ := o
  exact oright_any k s p n a u e t g l K S C T M V w
/-- What a step that is refused answers. -/
def StNo (x : Int) (W : World) (e : Ending) (w' : World) : Prop := e = .returned (.tuple #[.agg Kb.zero.arr, .int .i64 x]) ∧ Below W.heap.size W w'
/-- What a step that goes well answers: a book in new blocks. -/
def StYes (td' : Int) (a' : Nat → Av) (ps' : List Pv) (W : World) (e : Ending) (w' : World) : Prop := ∃ c : Kb, c.td = td' ∧ (∀ k, k < 32 → c.a k = a' k) ∧ e = .returned (.tuple #[.agg c.arr, .int .i64 0]) ∧ KbM w' W.heap.size w'.heap.size c ps' ∧ Below W.heap.size W w'
def StAns (x td' : Int) (a' : Nat → Av) (ps' : List Pv) (W : World) (e : Ending) (w' : World) : Prop := (x ≠ 0 → StNo x W e w') ∧ (x = 0 → StYes td' a' ps' W e w')
set_option maxHeartbeats 4000000 in
theorem bkstep_wrong {w : World} {b : Kb} {o : Ov} {x : Int} (hr : o.right = x) (hx : x ≠ 0) : Calls Tryz.prog 14 #[.agg b.arr, .agg o.kb] w (StNo x w) := by
  have HR := Lib.hid hr
  have dx : (x != 0) = true := by simpa using hx
  have dx2 : decide (x ≠ 0) = true := by simpa using hx
  go_enter Tryz.func14, Tryz.ntmps14
  go_wp2_with (((with_reducible_and_instances (show wpList _ _ _ (Oper.mk _ (Op.load 48 _) _ _ _ _ :: _) _ _)); refine stop_here ?_))
  refine ⟨?_⟩
  refine wl_load (cs := o.kb) (fr := (0, 0)) (g := w.heap.size + 1) Tryz.underlying48 rfl info16k rfl rfl rfl (alloc_old (by first | (simp; done) | (simp; omega)) (alloc_at (by simp))) rfl ?_
  go_wp2_with fail
  obtain ⟨W1, hW1⟩ : ∃ W1, ((w.alloc (.cells b.arr 35)).alloc (.cells o.kb 48)).alloc (.cells Tryz.zeroCells35 35) = W1 := ⟨_, rfl⟩
  have f0 : W1.heap[w.heap.size]? = some (.cells b.arr 35 (0, 0)) := by rw [← hW1]; exact alloc_old (by first | (simp; done) | (simp; omega)) (alloc_old (by first | (simp; done) | (simp; omega)) (alloc_at rfl))
  have f1 : W1.heap[w.heap.size + 1]? = some (.cells o.kb 48 (0, 0)) := by rw [← hW1]; exact alloc_old (by first | (simp; done) | (simp; omega)) (alloc_at (by simp))
  have f2 : W1.heap[w.heap.size + 1 + 1]? = some (.cells Tryz.zeroCells35 35 (0, 0)) := by rw [← hW1]; exact alloc_at (by simp)
  have hV : Below w.heap.size w W1 := by rw [← hW1]; exact (((Below.refl _ w).alloc (by first | exact Nat.le_refl _ | (simp; done) | (simp; omega)) _).alloc (by first | exact Nat.le_refl _ | (simp; done) | (simp; omega)) _).alloc (by first | exact Nat.le_refl _ | (simp; done) | (simp; omega)) _
  rw [hW1]
  clear hW1
  refine (right_kb o W1).mono ?_
  rintro e W2 ⟨rfl, hb⟩
  rw [HR.out]
  have q0 : W2.heap[w.heap.size]? = some (.cells b.arr 35 (0, 0)) := below_block hb f0
  have q1 : W2.heap[w.heap.size + 1]? = some (.cells o.kb 48 (0, 0)) := below_block hb f1
  have q2 : W2.heap[w.heap.size + 1 + 1]? = some (.cells Tryz.zeroCells35 35 (0, 0)) := below_block hb f2
  have hV2 : Below w.heap.size w W2 := hV.trans (hb.mono hV.size)
  have hz2 : w.heap.size + 1 + 1 < W2.heap.size := (Array.getElem?_eq_some_iff.1 q2).1
  clear hb f0 f1 f2 hV W1
  go_wp2_with (((with_reducible_and_instances (show wpList _ _ _ (Oper.mk _ (Op.build 35 _) _ _ _ _ :: _) _ _)); refine stop_here ?_))
  refine ⟨?_⟩
  refine wpList_buildTo rfl 35 _ rfl _ rfl _ (Eq.trans (congrArg (Program.built _ _) (by simp)) Kb.zero_built) ?_
  go_wp2_with (((with_reducible_and_instances (show wpList _ _ _ (Oper.mk _ (Op.store 35 _ _) _ _ _ _ :: _) _ _)); refine stop_here ?_))
  refine ⟨?_⟩
  refine wl_store (g := w.heap.size + 1 + 1) Kb.info rfl rfl rfl rfl q2 Kb.zero_size (Kb.arr_size _) Kb.zero_one.arr ?_
  go_wp2_with fail
  refine bodyPost_ret (results_row_tmp rfl _ _ (w.heap.size + 1 + 1) 35 _ (0, 0) _ rfl (boxed_at (by have := (Array.getElem?_eq_some_iff.1 q2).1; omega)) Tryz.underlying35 rfl (by rw [Kb.arr_size]; exact Kb.info)) rfl ?_
  exact ⟨rfl, boxed_below hV2 (by omega)⟩
set_option maxHeartbeats 8000000 in
theorem bkstep_open {w : World} {b : Kb} {ps : List Pv} {o : Ov} (hr : o.right = 0) (hk : o.k = 2) (hkm : KbM w 0 w.heap.size b ps) (hps : ps.length ≤ 1000) (hln : ∀ k, k < 32 → (b.a k).l.length ≤ 1000000) {x : Int} {A' : Av} {i : Nat} (hi : i < 32) (hs : o.s = (i : Int)) (HA : Hid (∀ (W : World) (c : Kb), Below w.heap.size w W → c.td = b.td → c.a = b.a → KbM W 0 W.heap.size c ps → Calls Tryz.prog 28 #[.agg c.arr, .int .i64 (i : Int), .int .i64 o.p] W (Ansk x A' W))) : Calls Tryz.prog 14 #[.agg b.arr, .agg o.kb] w (StAns x b.td (fun k => if k = i then A' else b.a k) ps w) := by
  have HR := Lib.hid hr
  have HKM := Lib.hid hkm
  have HLN := Lib.hid hln
  clear hr hkm hln
  go_enter Tryz.func14, Tryz.ntmps14
  go_wp2_with (((with_reducible_and_instances (show wpList _ _ _ (Oper.mk _ (Op.load 48 _) _ _ _ _ :: _) _ _)); refine stop_here ?_))
  refine ⟨?_⟩
  refine wl_load (cs := o.kb) (fr := (0, 0)) (g := w.heap.size + 1) Tryz.underlying48 rfl info16k rfl rfl rfl (alloc_old (by first | (simp; done) | (simp; omega)) (alloc_at (by simp))) rfl ?_
  go_wp2_with fail
  obtain ⟨W1, hW1⟩ : ∃ W1, ((w.alloc (.cells b.arr 35)).alloc (.cells o.kb 48)).alloc (.cells Tryz.zeroCells35 35) = W1 := ⟨_, rfl⟩
  have f0 : W1.heap[w.heap.size]? = some (.cells b.arr 35 (0, 0)) := by rw [← hW1]; exact alloc_old (by first | (simp; done) | (simp; omega)) (alloc_old (by first | (simp; done) | (simp; omega)) (alloc_at rfl))
  have f1 : W1.heap[w.heap.size + 1]? = some (.cells o.kb 48 (0, 0)) := by rw [← hW1]; exact alloc_old (by first | (simp; done) | (simp; omega)) (alloc_at (by simp))
  have f2 : W1.heap[w.heap.size + 1 + 1]? = some (.cells Tryz.zeroCells35 35 (0, 0)) := by rw [← hW1]; exact alloc_at (by simp)
  have hV : Below w.heap.size w W1 := by rw [← hW1]; exact (((Below.refl _ w).alloc (by first | exact Nat.le_refl _ | (simp; done) | (simp; omega)) _).alloc (by first | exact Nat.le_refl _ | (simp; done) | (simp; omega)) _).alloc (by first | exact Nat.le_refl _ | (simp; done) | (simp; omega)) _
  rw [hW1]
  clear hW1
  refine (right_kb o W1).mono ?_
  rintro e W2 ⟨rfl, hb⟩
  rw [HR.out]
  have q0 : W2.heap[w.heap.size]? = some (.cells b.arr 35 (0, 0)) := below_block hb f0
  have q1 : W2.heap[w.heap.size + 1]? = some (.cells o.kb 48 (0, 0)) := below_block hb f1
  have q2 : W2.heap[w.heap.size + 1 + 1]? = some (.cells Tryz.zeroCells35 35 (0, 0)) := below_block hb f2
  have hV2 : Below w.heap.size w W2 := hV.trans (hb.mono hV.size)
  have hz2 : w.heap.size + 1 + 1 < W2.heap.size := (Array.getElem?_eq_some_iff.1 q2).1
  clear hb f0 f1 f2 hV W1
  go_wp2_with (((with_reducible_and_instances (show wpList _ _ _ (Oper.mk _ (Op.load 35 _) _ _ _ _ :: _) _ _)); refine stop_here ?_))
  refine ⟨?_⟩
  refine wl_load (cs := b.arr) (fr := (0, 0)) (g := w.heap.size) Tryz.underlying35 rfl Kb.info rfl rfl rfl q0 (Kb.arr_size _) ?_
  go_wp2_with fail
  refine (copied_any (b := b) (ps := ps) (w := W2) ((HKM.out.kept fun i _ h2 => hV2.block i h2).more (Nat.le_refl _) hV2.size) (by omega) (fun k hk => by have := HLN.out k hk; omega)).mono ?_
  rintro e W3 ⟨vp, vv, rfl, hlp, hcy, hb⟩
  have r0 := below_block hb q0
  have r1 := below_block hb q1
  have r2 := below_block hb q2
  have hV3 : Below w.heap.size w W3 := hV2.trans (hb.mono hV2.size)
  have hs3 := hb.size
  obtain ⟨bc, hbc⟩ : ∃ bc, ({ b with vp := vp, v := vv } : Kb) = bc := ⟨_, rfl⟩
  rw [hbc]
  have hkm : KbM W3 (w.heap.size + 1 + 1 + 1) W3.heap.size bc ps := by
    rw [← hbc]
    have h9 : ∀ k, k < 32 → Cys W3 (w.heap.size + 1 + 1 + 1) W3.heap.size (vv k) (b.a k).l := fun k hk => (hcy k hk).more (by omega) (Nat.le_refl _)
    exact ⟨Kb.one_of (b := { b with vp := vp, v := vv }) hlp.pys.one h9, (hlp.more (by omega)).pys, h9⟩
  have HKC := Lib.hid hkm
  have HBC : Hid (∃ vp vv, bc = ({ b with vp := vp, v := vv } : Kb)) := ⟨vp, vv, hbc.symm⟩
  have HLS : Hid (Lst W3 (w.heap.size + 1 + 1 + 1) bc.vp ps) := by rw [← hbc]; exact hlp.more (by omega)
  have ea : bc.a = b.a := by rw [← hbc]
  have et : bc.td = b.td := by rw [← hbc]
  have EA := Lib.hid ea
  have ET := Lib.hid et
  clear hb q0 q1 q2 hV2 hlp hcy hbc ea et hkm hz2 hs3 W2
  go_wp2_with (((with_reducible_and_instances (show wpList _ _ _ (Oper.mk _ (Op.store 35 _ _) _ _ _ _ :: _) _ _)); refine stop_here ?_))
  refine ⟨?_⟩
  refine wl_store (g := w.heap.size) Kb.info rfl rfl rfl rfl r0 (Kb.arr_size _) (Kb.arr_size _) HKC.out.one.arr ?_
  obtain ⟨W4, hW4⟩ : ∃ W4, boxed W3 w.heap.size bc.arr 35 = W4 := ⟨_, rfl⟩
  have hz3 : w.heap.size + 1 + 1 < W3.heap.size := (Array.getElem?_eq_some_iff.1 r2).1
  have s0 : W4.heap[w.heap.size]? = some (.cells bc.arr 35 (0, 0)) := by rw [← hW4]; exact boxed_at (by omega)
  have s1 : W4.heap[w.heap.size + 1]? = some (.cells o.kb 48 (0, 0)) := by rw [← hW4]; exact boxed_old (by omega) r1
  have s2 : W4.heap[w.heap.size + 1 + 1]? = some (.cells Tryz.zeroCells35 35 (0, 0)) := by rw [← hW4]; exact boxed_old (by omega) r2
  have hV4 : Below w.heap.size w W4 := by rw [← hW4]; exact boxed_below hV3 (Nat.le_refl _)
  have HK4 : Hid (KbM W4 (w.heap.size + 1 + 1 + 1) W4.heap.size bc ps) := by rw [← hW4]; exact (HKC.out.boxed (.inl (by omega))).more (Nat.le_refl _) (by simp)
  have hz4 : w.heap.size + 1 + 1 < W4.heap.size := (Array.getElem?_eq_some_iff.1 s2).1
  have HL4 : Hid (Lst W4 (w.heap.size + 1 + 1 + 1) bc.vp ps) := by rw [← hW4]; exact HLS.out.boxed (by omega)
  rw [hW4]
  clear hW4 HKC HLS r0 r1 r2 hV3 hz3 W3
  have ck : W4.cell? ⟨w.heap.size + 1, 0, none⟩ = some (.int .u8 2) := by rw [cell_of_row _ _ _ _ _ _ s1, ← hk]; rfl
  have hiI : (i : Int) < 32 := by omega
  have hiJ : (0 : Int) ≤ (i : Int) := by omega
  have HSS := Lib.hid hs
  have HCF : Hid (∀ W : World, (fun w' : World => w'.heap[w.heap.size + 1]? = some (.cells o.kb 48 (0, 0))) W → W.cell? ⟨w.heap.size + 1, 1, none⟩ = some (.int .i64 (i : Int))) := fun W hS => by rw [cell_of_row _ _ _ _ _ _ hS, ← HSS.out]; rfl
  have HCG : Hid (∀ W : World, (fun w' : World => w'.heap[w.heap.size + 1]? = some (.cells o.kb 48 (0, 0))) W → W.cell? ⟨w.heap.size + 1, 2, none⟩ = some (.int .i64 o.p)) := fun W hS => by rw [cell_of_row _ _ _ _ _ _ hS]; rfl
  have HCALL := Lib.hid (HA.out W4.drew bc (hV4.drew) ET.out EA.out ((HK4.out.kept (w' := W4.drew) fun _ _ _ => rfl).more (Nat.zero_le _) (Nat.le_refl _)))
  go_upto_region 10 with fail
  have HS0 : Hid ((fun w' : World => w'.heap[w.heap.size + 1]? = some (.cells o.kb 48 (0, 0))) W4.drew) := s1
  have D0 : W4.drew.heap[w.heap.size]? = some (.cells bc.arr 35 (0, 0)) := s0
  refine laneT_start (ord := [0, 1, 3, 4, 5, 6, 11, 2, 7, 8, 9, 10, 12, 13, 14]) (t := 14) (S := (fun w' : World => w'.heap[w.heap.size + 1]? = some (.cells o.kb 48 (0, 0)))) rfl (by kernel_rfl) ?_
  iterate 1 (refine laneT_take1 (v := ?_) rfl (by kernel_rfl) (by kernel_rfl) (by rfl) ?_ (by exact HS0.out) ?_; rotate_left; (focus (intro W hSw; have x0 := HCF.out W hSw; have x1 := HCG.out W hSw; go_simp; try (with_reducible rfl))); simp only [Act.put, List.setIfInBounds_toArray, List.set_cons_zero, List.set_cons_succ])
  iterate 1 (refine laneT_take1 (v := ?_) rfl (by kernel_rfl) (by kernel_rfl) (by rfl) ?_ (by exact HS0.out) ?_; rotate_left; (focus (intro W hSw; have x0 := HCF.out W hSw; have x1 := HCG.out W hSw; go_simp; try (with_reducible rfl))); simp only [Act.put, List.setIfInBounds_toArray, List.set_cons_zero, List.set_cons_succ])
  iterate 1 (refine laneT_take1 (v := ?_) rfl (by kernel_rfl) (by kernel_rfl) (by rfl) ?_ (by exact HS0.out) ?_; rotate_left; (focus (intro W hSw; have x0 := HCF.out W hSw; have x1 := HCG.out W hSw; go_simp; try (with_reducible rfl))); simp only [Act.put, List.setIfInBounds_toArray, List.set_cons_zero, List.set_cons_succ])
  iterate 1 (refine laneT_take1 (v := ?_) rfl (by kernel_rfl) (by kernel_rfl) (by rfl) ?_ (by exact HS0.out) ?_; rotate_left; (focus (intro W hSw; have x0 := HCF.out W hSw; have x1 := HCG.out W hSw; go_simp; try (with_reducible rfl))); simp only [Act.put, List.setIfInBounds_toArray, List.set_cons_zero, List.set_cons_succ])
  iterate 1 (refine laneT_take1 (v := ?_) rfl (by kernel_rfl) (by kernel_rfl) (by rfl) ?_ (by exact HS0.out) ?_; rotate_left; (focus (intro W hSw; have x0 := HCF.out W hSw; have x1 := HCG.out W hSw; go_simp; try (with_reducible rfl))); simp only [Act.put, List.setIfInBounds_toArray, List.set_cons_zero, List.set_cons_succ])
  iterate 1 (refine laneT_take1 (v := ?_) rfl (by kernel_rfl) (by kernel_rfl) (by rfl) ?_ (by exact HS0.out) ?_; rotate_left; (focus (intro W hSw; have x0 := HCF.out W hSw; have x1 := HCG.out W hSw; go_simp; try (with_reducible rfl))); simp only [Act.put, List.setIfInBounds_toArray, List.set_cons_zero, List.set_cons_succ])
  iterate 1 (refine laneT_take1 (v := ?_) rfl (by kernel_rfl) (by kernel_rfl) (by rfl) ?_ (by exact HS0.out) ?_; rotate_left; (focus (intro W hSw; have x0 := HCF.out W hSw; have x1 := HCG.out W hSw; go_simp; try (with_reducible rfl))); simp only [Act.put, List.setIfInBounds_toArray, List.set_cons_zero, List.set_cons_succ])
  refine laneT_alone rfl (by kernel_rfl) (by rfl) (fun KK hK => ?_)
  refine wp_load_row 35 _ rfl (w.heap.size) rfl 35 bc.arr (0, 0) _ D0 Tryz.underlying35 rfl (by rw [Kb.arr_size]; exact Kb.info) ?_
  refine hK _ _ (fun _ => HS0.out) ?_
  clear hK KK
  simp only [Act.put, List.setIfInBounds_toArray, List.set_cons_zero, List.set_cons_succ]
  refine laneT_alone rfl (by kernel_rfl) (by rfl) (fun KK hK => ?_)
  go_simp
  refine (HCALL.out).mono ?_
  rintro e W5 ⟨a5, v5, rfl, hv1, hok, hb⟩
  have hb2 : Below W4.heap.size W4 W5 := (Below.refl _ W4).drew.trans hb
  have HS5 : Hid ((fun w' : World => w'.heap[w.heap.size + 1]? = some (.cells o.kb 48 (0, 0))) W5) := below_block hb2 s1
  have y0 := below_block hb2 s0
  have y2 := below_block hb2 s2
  have hV5 : Below w.heap.size w W5 := hV4.trans (hb2.mono hV4.size)
  have hs5 := hb2.size
  have HK5 : Hid (KbM W5 (w.heap.size + 1 + 1 + 1) W4.heap.size bc ps) := HK4.out.kept fun i _ h2 => hb2.block i h2
  refine hK _ _ (fun _ => HS5.out) ?_
  clear hK KK hb hb2 HS0 D0 s0 s1 s2 HK4 HCALL
  refine laneT_alone rfl (by kernel_rfl) (by rfl) (fun KK hK => ?_)
  go_simp
  refine hK _ _ (fun _ => HS5.out) ?_
  clear hK KK
  iterate 2 (refine laneT_take1 (v := ?_) rfl (by kernel_rfl) (by kernel_rfl) (by rfl) ?_ (by exact HS5.out) ?_; rotate_left; (focus (intro W hSw; go_simp; try (with_reducible rfl))); simp only [Act.put, List.setIfInBounds_toArray, List.set_cons_zero, List.set_cons_succ])
  refine laneT_alone rfl (by kernel_rfl) (by rfl) (fun KK hK => ?_)
  go_simp
  refine hK _ _ (fun _ => HS5.out) ?_
  clear hK KK
  refine laneT_alone rfl (by kernel_rfl) (by rfl) (fun KK hK => ?_)
  have e9 := boxed_self y0
  rw [e9]
  refine wp_store_mid _ _ _ rfl (w.heap.size) (2 + i * 13) (a5.arr v5) rfl rfl (Kb.there (by omega) (by rw [Av.arr_size]; omega)) info13 (Av.arr_one hv1) ?_
  rw [Kb.store]
  refine hK _ _ (fun _ => boxed_old (by omega) HS5.out) ?_
  clear hK KK e9
  refine laneT_alone rfl (by kernel_rfl) (by rfl) (fun KK hK => ?_)
  go_simp
  refine hK _ _ (fun h => absurd rfl h) ?_
  clear hK KK
  refine laneT_end (by kernel_rfl) ?_
  obtain ⟨W6, hW6⟩ : ∃ W6, boxed W5 (w.heap.size) (bc.put i a5 v5).arr 35 = W6 := ⟨_, rfl⟩
  have z0 : W6.heap[w.heap.size]? = some (.cells (bc.put i a5 v5).arr 35 (0, 0)) := by rw [← hW6]; exact boxed_at (by omega)
  have z2 : W6.heap[w.heap.size + 1 + 1]? = some (.cells Tryz.zeroCells35 35 (0, 0)) := by rw [← hW6]; exact boxed_old (by omega) y2
  have hV6 : Below w.heap.size w W6 := by rw [← hW6]; exact boxed_below hV5 (Nat.le_refl _)
  have hz6 : w.heap.size + 1 + 1 < W6.heap.size := (Array.getElem?_eq_some_iff.1 z2).1
  have HC6 : Hid (x = 0 → a5 = A' ∧ Cys W6 (w.heap.size + 1 + 1 + 1) W6.heap.size v5 A'.l) := fun h => ⟨(hok h).1, by rw [← hW6]; exact ((hok h).2.boxed (.inl (by have := hz4; show w.heap.size < W4.drew.heap.size; simp; omega))).more (by show w.heap.size + 1 + 1 + 1 ≤ W4.drew.heap.size; simp; omega) (by simp)⟩
  have HK6 : Hid (KbM W6 (w.heap.size + 1 + 1 + 1) W6.heap.size bc ps) := by rw [← hW6]; exact (HK5.out.boxed (.inl (by omega))).more (Nat.le_refl _) (by simp; omega)
  rw [hW6]
  clear hW6 y0 y2 hV5 hs5 HK5 HS5 hok W5
  by_cases hx : x = 0
  case neg =>
    have dx : (x != 0) = true := by simpa using hx
    have dx2 : decide (x ≠ 0) = true := by simpa using hx
    go_wp2_with (((with_reducible_and_instances (show wpList _ _ _ (Oper.mk _ (Op.build 35 _) _ _ _ _ :: _) _ _)); refine stop_here ?_))
    refine ⟨?_⟩
    refine wpList_buildTo rfl 35 _ rfl _ rfl _ (Eq.trans (congrArg (Program.built _ _) (by simp)) Kb.zero_built) ?_
    go_wp2_with (((with_reducible_and_instances (show wpList _ _ _ (Oper.mk _ (Op.store 35 _ _) _ _ _ _ :: _) _ _)); refine stop_here ?_))
    refine ⟨?_⟩
    refine wl_store (g := w.heap.size + 1 + 1) Kb.info rfl rfl rfl rfl z2 Kb.zero_size (Kb.arr_size _) Kb.zero_one.arr ?_
    go_wp2_with fail
    refine bodyPost_ret (results_row_tmp rfl _ _ (w.heap.size + 1 + 1) 35 _ (0, 0) _ rfl (boxed_at (by have := (Array.getElem?_eq_some_iff.1 z2).1; omega)) Tryz.underlying35 rfl (by rw [Kb.arr_size]; exact Kb.info)) rfl ?_
    exact ⟨fun _ => ⟨rfl, boxed_below hV6 (by omega)⟩, fun h => absurd h hx⟩
  case pos =>
    subst hx
    obtain ⟨rfl, hcy6⟩ := HC6.out rfl
    obtain ⟨c5, hc5⟩ : ∃ c5, bc.put i a5 v5 = c5 := ⟨_, rfl⟩
    have HKF : Hid (KbM W6 (w.heap.size + 1 + 1 + 1) W6.heap.size c5 ps) := by
      rw [← hc5]
      refine ⟨HK6.out.one.put i a5 hv1, HK6.out.ps, fun k hk9 => ?_⟩
      by_cases e : k = i
      · subst e; rw [(bc.put_same k a5 v5).1, (bc.put_same k a5 v5).2]; exact hcy6
      · rw [(bc.put_other a5 v5 e).1, (bc.put_other a5 v5 e).2]; exact HK6.out.cs k hk9
    have HTD : Hid (c5.td = b.td) := by rw [← hc5]; exact ET.out
    have HFA : Hid (∀ k, k < 32 → c5.a k = if k = i then a5 else b.a k) := fun k _ => by
      rw [← hc5]
      show (if k = i then a5 else bc.a k) = _
      rw [EA.out]
    rw [hc5] at z0
    clear hc5 HC6 HK6 hcy6
    go_wp2_with (((with_reducible_and_instances (show wpList _ _ _ (Oper.mk _ (Op.load 35 _) _ _ _ _ :: _) _ _)); refine stop_here ?_))
    refine ⟨?_⟩
    refine wl_load (cs := c5.arr) (fr := (0, 0)) (g := w.heap.size) Tryz.underlying35 rfl Kb.info rfl rfl rfl z0 (Kb.arr_size _) ?_
    go_wp2_with (((with_reducible_and_instances (show wpList _ _ _ (Oper.mk _ (Op.store 35 _ _) _ _ _ _ :: _) _ _)); refine stop_here ?_))
    refine ⟨?_⟩
    refine wl_store (g := w.heap.size + 1 + 1) Kb.info rfl rfl rfl rfl z2 Kb.zero_size (Kb.arr_size _) HKF.out.one.arr ?_
    go_wp2_with fail
    refine bodyPost_ret (results_row_tmp rfl _ _ (w.heap.size + 1 + 1) 35 _ (0, 0) _ rfl (boxed_at (by have := (Array.getElem?_eq_some_iff.1 z2).1; omega)) Tryz.underlying35 rfl (by rw [Kb.arr_size]; exact Kb.info)) rfl ?_
    refine ⟨fun h => absurd rfl h, fun _ => ⟨c5, HTD.out, HFA.out, rfl, ((HKF.out.boxed (.inl (by omega))).more (by omega) (by simp)), boxed_below hV6 (by omega)⟩⟩
theorem Ov.range_A {w : World} {B : Nat} {o : Ov} {t : TypeId} {fr : Nat × Nat} (h : w.heap[B]? = some (.cells o.kb t fr)) : w.rangeAt B 10 o.A.arr.toList := by
  intro j u hu
  have hj : j < 6 := (List.getElem?_eq_some_iff.1 hu).1
  rw [cell_of_row _ _ _ _ _ _ h, ← hu]
  have hj2 : j = 0 ∨ j = 1 ∨ j = 2 ∨ j = 3 ∨ j = 4 ∨ j = 5 := by omega
  rcases hj2 with rfl | rfl | rfl | rfl | rfl | rfl <;> rfl
theorem info6nk : (Tryz.prog.info? 46).map (·.size) = some 6 := by kernel_rfl
set_option maxHeartbeats 8000000 in
theorem bkstep_hear {w : World} {b : Kb} {ps : List Pv} {o : Ov} (hr : o.right = 0) (hk : o.k = 10) (hkm : KbM w 0 w.heap.size b ps) (hps : ps.length ≤ 1000) (hln : ∀ k, k < 32 → (b.a k).l.length ≤ 1000000) {x : Int} {A' : Av} {i : Nat} (hi : i < 32) (hs : o.A.s = (i : Int)) (HA : Hid (∀ (W : World) (c : Kb), Below w.heap.size w W → c.td = b.td → c.a = b.a → KbM W 0 W.heap.size c ps → Calls Tryz.prog 30 #[.agg c.arr, .agg o.A.arr] W (Ansk x A' W))) : Calls Tryz.prog 14 #[.agg b.arr, .agg o.kb] w (StAns x b.td (fun k => if k = i then A' else b.a k) ps w) := by
  have HR := Lib.hid hr
  have HKM := Lib.hid hkm
  have HLN := Lib.hid hln
  clear hr hkm hln
  go_enter Tryz.func14, Tryz.ntmps14
  go_wp2_with (((with_reducible_and_instances (show wpList _ _ _ (Oper.mk _ (Op.load 48 _) _ _ _ _ :: _) _ _)); refine stop_here ?_))
  refine ⟨?_⟩
  refine wl_load (cs := o.kb) (fr := (0, 0)) (g := w.heap.size + 1) Tryz.underlying48 rfl info16k rfl rfl rfl (alloc_old (by first | (simp; done) | (simp; omega)) (alloc_at (by simp))) rfl ?_
  go_wp2_with fail
  obtain ⟨W1, hW1⟩ : ∃ W1, ((w.alloc (.cells b.arr 35)).alloc (.cells o.kb 48)).alloc (.cells Tryz.zeroCells35 35) = W1 := ⟨_, rfl⟩
  have f0 : W1.heap[w.heap.size]? = some (.cells b.arr 35 (0, 0)) := by rw [← hW1]; exact alloc_old (by first | (simp; done) | (simp; omega)) (alloc_old (by first | (simp; done) | (simp; omega)) (alloc_at rfl))
  have f1 : W1.heap[w.heap.size + 1]? = some (.cells o.kb 48 (0, 0)) := by rw [← hW1]; exact alloc_old (by first | (simp; done) | (simp; omega)) (alloc_at (by simp))
  have f2 : W1.heap[w.heap.size + 1 + 1]? = some (.cells Tryz.zeroCells35 35 (0, 0)) := by rw [← hW1]; exact alloc_at (by simp)
  have hV : Below w.heap.size w W1 := by rw [← hW1]; exact (((Below.refl _ w).alloc (by first | exact Nat.le_refl _ | (simp; done) | (simp; omega)) _).alloc (by first | exact Nat.le_refl _ | (simp; done) | (simp; omega)) _).alloc (by first | exact Nat.le_refl _ | (simp; done) | (simp; omega)) _
  rw [hW1]
  clear hW1
  refine (right_kb o W1).mono ?_
  rintro e W2 ⟨rfl, hb⟩
  rw [HR.out]
  have q0 : W2.heap[w.heap.size]? = some (.cells b.arr 35 (0, 0)) := below_block hb f0
  have q1 : W2.heap[w.heap.size + 1]? = some (.cells o.kb 48 (0, 0)) := below_block hb f1
  have q2 : W2.heap[w.heap.size + 1 + 1]? = some (.cells Tryz.zeroCells35 35 (0, 0)) := below_block hb f2
  have hV2 : Below w.heap.size w W2 := hV.trans (hb.mono hV.size)
  have hz2 : w.heap.size + 1 + 1 < W2.heap.size := (Array.getElem?_eq_some_iff.1 q2).1
  clear hb f0 f1 f2 hV W1
  go_wp2_with (((with_reducible_and_instances (show wpList _ _ _ (Oper.mk _ (Op.load 35 _) _ _ _ _ :: _) _ _)); refine stop_here ?_))
  refine ⟨?_⟩
  refine wl_load (cs := b.arr) (fr := (0, 0)) (g := w.heap.size) Tryz.underlying35 rfl Kb.info rfl rfl rfl q0 (Kb.arr_size _) ?_
  go_wp2_with fail
  refine (copied_any (b := b) (ps := ps) (w := W2) ((HKM.out.kept fun i _ h2 => hV2.block i h2).more (Nat.le_refl _) hV2.size) (by omega) (fun k hk => by have := HLN.out k hk; omega)).mono ?_
  rintro e W3 ⟨vp, vv, rfl, hlp, hcy, hb⟩
  have r0 := below_block hb q0
  have r1 := below_block hb q1
  have r2 := below_block hb q2
  have hV3 : Below w.heap.size w W3 := hV2.trans (hb.mono hV2.size)
  have hs3 := hb.size
  obtain ⟨bc, hbc⟩ : ∃ bc, ({ b with vp := vp, v := vv } : Kb) = bc := ⟨_, rfl⟩
  rw [hbc]
  have hkm : KbM W3 (w.heap.size + 1 + 1 + 1) W3.heap.size bc ps := by
    rw [← hbc]
    have h9 : ∀ k, k < 32 → Cys W3 (w.heap.size + 1 + 1 + 1) W3.heap.size (vv k) (b.a k).l := fun k hk => (hcy k hk).more (by omega) (Nat.le_refl _)
    exact ⟨Kb.one_of (b := { b with vp := vp, v := vv }) hlp.pys.one h9, (hlp.more (by omega)).pys, h9⟩
  have HKC := Lib.hid hkm
  have HBC : Hid (∃ vp vv, bc = ({ b with vp := vp, v := vv } : Kb)) := ⟨vp, vv, hbc.symm⟩
  have HLS : Hid (Lst W3 (w.heap.size + 1 + 1 + 1) bc.vp ps) := by rw [← hbc]; exact hlp.more (by omega)
  have ea : bc.a = b.a := by rw [← hbc]
  have et : bc.td = b.td := by rw [← hbc]
  have EA := Lib.hid ea
  have ET := Lib.hid et
  clear hb q0 q1 q2 hV2 hlp hcy hbc ea et hkm hz2 hs3 W2
  go_wp2_with (((with_reducible_and_instances (show wpList _ _ _ (Oper.mk _ (Op.store 35 _ _) _ _ _ _ :: _) _ _)); refine stop_here ?_))
  refine ⟨?_⟩
  refine wl_store (g := w.heap.size) Kb.info rfl rfl rfl rfl r0 (Kb.arr_size _) (Kb.arr_size _) HKC.out.one.arr ?_
  obtain ⟨W4, hW4⟩ : ∃ W4, boxed W3 w.heap.size bc.arr 35 = W4 := ⟨_, rfl⟩
  have hz3 : w.heap.size + 1 + 1 < W3.heap.size := (Array.getElem?_eq_some_iff.1 r2).1
  have s0 : W4.heap[w.heap.size]? = some (.cells bc.arr 35 (0, 0)) := by rw [← hW4]; exact boxed_at (by omega)
  have s1 : W4.heap[w.heap.size + 1]? = some (.cells o.kb 48 (0, 0)) := by rw [← hW4]; exact boxed_old (by omega) r1
  have s2 : W4.heap[w.heap.size + 1 + 1]? = some (.cells Tryz.zeroCells35 35 (0, 0)) := by rw [← hW4]; exact boxed_old (by omega) r2
  have hV4 : Below w.heap.size w W4 := by rw [← hW4]; exact boxed_below hV3 (Nat.le_refl _)
  have HK4 : Hid (KbM W4 (w.heap.size + 1 + 1 + 1) W4.heap.size bc ps) := by rw [← hW4]; exact (HKC.out.boxed (.inl (by omega))).more (Nat.le_refl _) (by simp)
  have hz4 : w.heap.size + 1 + 1 < W4.heap.size := (Array.getElem?_eq_some_iff.1 s2).1
  have HL4 : Hid (Lst W4 (w.heap.size + 1 + 1 + 1) bc.vp ps) := by rw [← hW4]; exact HLS.out.boxed (by omega)
  rw [hW4]
  clear hW4 HKC HLS r0 r1 r2 hV3 hz3 W3
  have ck : W4.cell? ⟨w.heap.size + 1, 0, none⟩ = some (.int .u8 10) := by rw [cell_of_row _ _ _ _ _ _ s1, ← hk]; rfl
  have hiI : (i : Int) < 32 := by omega
  have hiJ : (0 : Int) ≤ (i : Int) := by omega
  have HSS := Lib.hid hs
  have HCF : Hid (∀ W : World, (fun w' : World => w'.heap[w.heap.size + 1]? = some (.cells o.kb 48 (0, 0))) W → W.cell? ⟨w.heap.size + 1, 11, none⟩ = some (.int .i64 (i : Int))) := fun W hS => by rw [cell_of_row _ _ _ _ _ _ hS, ← HSS.out]; rfl
  have HCALL := Lib.hid (HA.out W4.drew bc (hV4.drew) ET.out EA.out ((HK4.out.kept (w' := W4.drew) fun _ _ _ => rfl).more (Nat.zero_le _) (Nat.le_refl _)))
  go_upto_region 14 with fail
  have HS0 : Hid ((fun w' : World => w'.heap[w.heap.size + 1]? = some (.cells o.kb 48 (0, 0))) W4.drew) := s1
  have D0 : W4.drew.heap[w.heap.size]? = some (.cells bc.arr 35 (0, 0)) := s0
  refine laneT_start (ord := [0, 1, 2, 4, 5, 10, 3, 6, 7, 8, 9, 11, 12, 13]) (t := 13) (S := (fun w' : World => w'.heap[w.heap.size + 1]? = some (.cells o.kb 48 (0, 0)))) rfl (by kernel_rfl) ?_
  iterate 1 (refine laneT_take1 (v := ?_) rfl (by kernel_rfl) (by kernel_rfl) (by rfl) ?_ (by exact HS0.out) ?_; rotate_left; (focus (intro W hSw; have x0 := HCF.out W hSw; go_simp; try (with_reducible rfl))); simp only [Act.put, List.setIfInBounds_toArray, List.set_cons_zero, List.set_cons_succ])
  iterate 1 (refine laneT_take1 (v := ?_) rfl (by kernel_rfl) (by kernel_rfl) (by rfl) ?_ (by exact HS0.out) ?_; rotate_left; (focus (intro W hSw; have x0 := HCF.out W hSw; go_simp; try (with_reducible rfl))); simp only [Act.put, List.setIfInBounds_toArray, List.set_cons_zero, List.set_cons_succ])
  iterate 1 (refine laneT_take1 (v := ?_) rfl (by kernel_rfl) (by kernel_rfl) (by rfl) ?_ (by exact HS0.out) ?_; rotate_left; (focus (intro W hSw; have x0 := HCF.out W hSw; go_simp; try (with_reducible rfl))); simp only [Act.put, List.setIfInBounds_toArray, List.set_cons_zero, List.set_cons_succ])
  iterate 1 (refine laneT_take1 (v := ?_) rfl (by kernel_rfl) (by kernel_rfl) (by rfl) ?_ (by exact HS0.out) ?_; rotate_left; (focus (intro W hSw; have x0 := HCF.out W hSw; go_simp; try (with_reducible rfl))); simp only [Act.put, List.setIfInBounds_toArray, List.set_cons_zero, List.set_cons_succ])
  refine laneT_take1 (v := .agg o.A.arr) rfl (by kernel_rfl) (by kernel_rfl) (by rfl) (fun W hSw => exec_load rfl rfl (by
    have h9 := run_loadAt_mid (P := Tryz.prog) W (w.heap.size + 1) 10 46 _ _ (Ov.range_A hSw) Tryz.underlying46 rfl info6nk
    rw [Array.toArray_toList] at h9
    exact h9)) (by exact HS0.out) ?_
  simp only [Act.put, List.setIfInBounds_toArray, List.set_cons_zero, List.set_cons_succ]
  iterate 1 (refine laneT_take1 (v := ?_) rfl (by kernel_rfl) (by kernel_rfl) (by rfl) ?_ (by exact HS0.out) ?_; rotate_left; (focus (intro W hSw; have x0 := HCF.out W hSw; go_simp; try (with_reducible rfl))); simp only [Act.put, List.setIfInBounds_toArray, List.set_cons_zero, List.set_cons_succ])
  refine laneT_alone rfl (by kernel_rfl) (by rfl) (fun KK hK => ?_)
  refine wp_load_row 35 _ rfl (w.heap.size) rfl 35 bc.arr (0, 0) _ D0 Tryz.underlying35 rfl (by rw [Kb.arr_size]; exact Kb.info) ?_
  refine hK _ _ (fun _ => HS0.out) ?_
  clear hK KK
  simp only [Act.put, List.setIfInBounds_toArray, List.set_cons_zero, List.set_cons_succ]
  refine laneT_alone rfl (by kernel_rfl) (by rfl) (fun KK hK => ?_)
  go_simp
  refine (HCALL.out).mono ?_
  rintro e W5 ⟨a5, v5, rfl, hv1, hok, hb⟩
  have hb2 : Below W4.heap.size W4 W5 := (Below.refl _ W4).drew.trans hb
  have HS5 : Hid ((fun w' : World => w'.heap[w.heap.size + 1]? = some (.cells o.kb 48 (0, 0))) W5) := below_block hb2 s1
  have y0 := below_block hb2 s0
  have y2 := below_block hb2 s2
  have hV5 : Below w.heap.size w W5 := hV4.trans (hb2.mono hV4.size)
  have hs5 := hb2.size
  have HK5 : Hid (KbM W5 (w.heap.size + 1 + 1 + 1) W4.heap.size bc ps) := HK4.out.kept fun i _ h2 => hb2.block i h2
  refine hK _ _ (fun _ => HS5.out) ?_
  clear hK KK hb hb2 HS0 D0 s0 s1 s2 HK4 HCALL
  refine laneT_alone rfl (by kernel_rfl) (by rfl) (fun KK hK => ?_)
  go_simp
  refine hK _ _ (fun _ => HS5.out) ?_
  clear hK KK
  iterate 2 (refine laneT_take1 (v := ?_) rfl (by kernel_rfl) (by kernel_rfl) (by rfl) ?_ (by exact HS5.out) ?_; rotate_left; (focus (intro W hSw; go_simp; try (with_reducible rfl))); simp only [Act.put, List.setIfInBounds_toArray, List.set_cons_zero, List.set_cons_succ])
  refine laneT_alone rfl (by kernel_rfl) (by rfl) (fun KK hK => ?_)
  go_simp
  refine hK _ _ (fun _ => HS5.out) ?_
  clear hK KK
  refine laneT_alone rfl (by kernel_rfl) (by rfl) (fun KK hK => ?_)
  have e9 := boxed_self y0
  rw [e9]
  refine wp_store_mid _ _ _ rfl (w.heap.size) (2 + i * 13) (a5.arr v5) rfl rfl (Kb.there (by omega) (by rw [Av.arr_size]; omega)) info13 (Av.arr_one hv1) ?_
  rw [Kb.store]
  refine hK _ _ (fun _ => boxed_old (by omega) HS5.out) ?_
  clear hK KK e9
  refine laneT_alone rfl (by kernel_rfl) (by rfl) (fun KK hK => ?_)
  go_simp
  refine hK _ _ (fun h => absurd rfl h) ?_
  clear hK KK
  refine laneT_end (by kernel_rfl) ?_
  obtain ⟨W6, hW6⟩ : ∃ W6, boxed W5 (w.heap.size) (bc.put i a5 v5).arr 35 = W6 := ⟨_, rfl⟩
  have z0 : W6.heap[w.heap.size]? = some (.cells (bc.put i a5 v5).arr 35 (0, 0)) := by rw [← hW6]; exact boxed_at (by omega)
  have z2 : W6.heap[w.heap.size + 1 + 1]? = some (.cells Tryz.zeroCells35 35 (0, 0)) := by rw [← hW6]; exact boxed_old (by omega) y2
  have hV6 : Below w.heap.size w W6 := by rw [← hW6]; exact boxed_below hV5 (Nat.le_refl _)
  have hz6 : w.heap.size + 1 + 1 < W6.heap.size := (Array.getElem?_eq_some_iff.1 z2).1
  have HC6 : Hid (x = 0 → a5 = A' ∧ Cys W6 (w.heap.size + 1 + 1 + 1) W6.heap.size v5 A'.l) := fun h => ⟨(hok h).1, by rw [← hW6]; exact ((hok h).2.boxed (.inl (by have := hz4; show w.heap.size < W4.drew.heap.size; simp; omega))).more (by show w.heap.size + 1 + 1 + 1 ≤ W4.drew.heap.size; simp; omega) (by simp)⟩
  have HK6 : Hid (KbM W6 (w.heap.size + 1 + 1 + 1) W6.heap.size bc ps) := by rw [← hW6]; exact (HK5.out.boxed (.inl (by omega))).more (Nat.le_refl _) (by simp; omega)
  rw [hW6]
  clear hW6 y0 y2 hV5 hs5 HK5 HS5 hok W5
  by_cases hx : x = 0
  case neg =>
    have dx : (x != 0) = true := by simpa using hx
    have dx2 : decide (x ≠ 0) = true := by simpa using hx
    go_wp2_with (((with_reducible_and_instances (show wpList _ _ _ (Oper.mk _ (Op.build 35 _) _ _ _ _ :: _) _ _)); refine stop_here ?_))
    refine ⟨?_⟩
    refine wpList_buildTo rfl 35 _ rfl _ rfl _ (Eq.trans (congrArg (Program.built _ _) (by simp)) Kb.zero_built) ?_
    go_wp2_with (((with_reducible_and_instances (show wpList _ _ _ (Oper.mk _ (Op.store 35 _ _) _ _ _ _ :: _) _ _)); refine stop_here ?_))
    refine ⟨?_⟩
    refine wl_store (g := w.heap.size + 1 + 1) Kb.info rfl rfl rfl rfl z2 Kb.zero_size (Kb.arr_size _) Kb.zero_one.arr ?_
    go_wp2_with fail
    refine bodyPost_ret (results_row_tmp rfl _ _ (w.heap.size + 1 + 1) 35 _ (0, 0) _ rfl (boxed_at (by have := (Array.getElem?_eq_some_iff.1 z2).1; omega)) Tryz.underlying35 rfl (by rw [Kb.arr_size]; exact Kb.info)) rfl ?_
    exact ⟨fun _ => ⟨rfl, boxed_below hV6 (by omega)⟩, fun h => absurd h hx⟩
  case pos =>
    subst hx
    obtain ⟨rfl, hcy6⟩ := HC6.out rfl
    obtain ⟨c5, hc5⟩ : ∃ c5, bc.put i a5 v5 = c5 := ⟨_, rfl⟩
    have HKF : Hid (KbM W6 (w.heap.size + 1 + 1 + 1) W6.heap.size c5 ps) := by
      rw [← hc5]
      refine ⟨HK6.out.one.put i a5 hv1, HK6.out.ps, fun k hk9 => ?_⟩
      by_cases e : k = i
      · subst e; rw [(bc.put_same k a5 v5).1, (bc.put_same k a5 v5).2]; exact hcy6
      · rw [(bc.put_other a5 v5 e).1, (bc.put_other a5 v5 e).2]; exact HK6.out.cs k hk9
    have HTD : Hid (c5.td = b.td) := by rw [← hc5]; exact ET.out
    have HFA : Hid (∀ k, k < 32 → c5.a k = if k = i then a5 else b.a k) := fun k _ => by
      rw [← hc5]
      show (if k = i then a5 else bc.a k) = _
      rw [EA.out]
    rw [hc5] at z0
    clear hc5 HC6 HK6 hcy6
    go_wp2_with (((with_reducible_and_instances (show wpList _ _ _ (Oper.mk _ (Op.load 35 _) _ _ _ _ :: _) _ _)); refine stop_here ?_))
    refine ⟨?_⟩
    refine wl_load (cs := c5.arr) (fr := (0, 0)) (g := w.heap.size) Tryz.underlying35 rfl Kb.info rfl rfl rfl z0 (Kb.arr_size _) ?_
    go_wp2_with (((with_reducible_and_instances (show wpList _ _ _ (Oper.mk _ (Op.store 35 _ _) _ _ _ _ :: _) _ _)); refine stop_here ?_))
    refine ⟨?_⟩
    refine wl_store (g := w.heap.size + 1 + 1) Kb.info rfl rfl rfl rfl z2 Kb.zero_size (Kb.arr_size _) HKF.out.one.arr ?_
    go_wp2_with fail
    refine bodyPost_ret (results_row_tmp rfl _ _ (w.heap.size + 1 + 1) 35 _ (0, 0) _ rfl (boxed_at (by have := (Array.getElem?_eq_some_iff.1 z2).1; omega)) Tryz.underlying35 rfl (by rw [Kb.arr_size]; exact Kb.info)) rfl ?_
    refine ⟨fun h => absurd rfl h, fun _ => ⟨c5, HTD.out, HFA.out, rfl, ((HKF.out.boxed (.inl (by omega))).more (by omega) (by simp)), boxed_below hV6 (by omega)⟩⟩
set_option maxHeartbeats 8000000 in
theorem bkstep_other {w : World} {b : Kb} {ps : List Pv} {o : Ov} (hr : o.right = 0) (hk : 3 ≤ o.k ∧ o.k ≤ 8) (hkm : KbM w 0 w.heap.size b ps) (hps : ps.length ≤ 1000) (hln : ∀ k, k < 32 → (b.a k).l.length ≤ 1000000) {x : Int} {A' : Av} {i : Nat} (hi : i < 32) (hs : o.s = (i : Int)) (HA : Hid (∀ (W : World) (c : Kb), Below w.heap.size w W → c.td = b.td → c.a = b.a → KbM W 0 W.heap.size c ps → Calls Tryz.prog 31 #[.agg c.arr, .agg o.kb] W (Ansk x A' W))) : Calls Tryz.prog 14 #[.agg b.arr, .agg o.kb] w (StAns x b.td (fun k => if k = i then A' else b.a k) ps w) := by
  have HR := Lib.hid hr
  have HKM := Lib.hid hkm
  have HLN := Lib.hid hln
  clear hr hkm hln
  go_enter Tryz.func14, Tryz.ntmps14
  go_wp2_with (((with_reducible_and_instances (show wpList _ _ _ (Oper.mk _ (Op.load 48 _) _ _ _ _ :: _) _ _)); refine stop_here ?_))
  refine ⟨?_⟩
  refine wl_load (cs := o.kb) (fr := (0, 0)) (g := w.heap.size + 1) Tryz.underlying48 rfl info16k rfl rfl rfl (alloc_old (by first | (simp; done) | (simp; omega)) (alloc_at (by simp))) rfl ?_
  go_wp2_with fail
  obtain ⟨W1, hW1⟩ : ∃ W1, ((w.alloc (.cells b.arr 35)).alloc (.cells o.kb 48)).alloc (.cells Tryz.zeroCells35 35) = W1 := ⟨_, rfl⟩
  have f0 : W1.heap[w.heap.size]? = some (.cells b.arr 35 (0, 0)) := by rw [← hW1]; exact alloc_old (by first | (simp; done) | (simp; omega)) (alloc_old (by first | (simp; done) | (simp; omega)) (alloc_at rfl))
  have f1 : W1.heap[w.heap.size + 1]? = some (.cells o.kb 48 (0, 0)) := by rw [← hW1]; exact alloc_old (by first | (simp; done) | (simp; omega)) (alloc_at (by simp))
  have f2 : W1.heap[w.heap.size + 1 + 1]? = some (.cells Tryz.zeroCells35 35 (0, 0)) := by rw [← hW1]; exact alloc_at (by simp)
  have hV : Below w.heap.size w W1 := by rw [← hW1]; exact (((Below.refl _ w).alloc (by first | exact Nat.le_refl _ | (simp; done) | (simp; omega)) _).alloc (by first | exact Nat.le_refl _ | (simp; done) | (simp; omega)) _).alloc (by first | exact Nat.le_refl _ | (simp; done) | (simp; omega)) _
  rw [hW1]
  clear hW1
  refine (right_kb o W1).mono ?_
  rintro e W2 ⟨rfl, hb⟩
  rw [HR.out]
  have q0 : W2.heap[w.heap.size]? = some (.cells b.arr 35 (0, 0)) := below_block hb f0
  have q1 : W2.heap[w.heap.size + 1]? = some (.cells o.kb 48 (0, 0)) := below_block hb f1
  have q2 : W2.heap[w.heap.size + 1 + 1]? = some (.cells Tryz.zeroCells35 35 (0, 0)) := below_block hb f2
  have hV2 : Below w.heap.size w W2 := hV.trans (hb.mono hV.size)
  have hz2 : w.heap.size + 1 + 1 < W2.heap.size := (Array.getElem?_eq_some_iff.1 q2).1
  clear hb f0 f1 f2 hV W1
  go_wp2_with (((with_reducible_and_instances (show wpList _ _ _ (Oper.mk _ (Op.load 35 _) _ _ _ _ :: _) _ _)); refine stop_here ?_))
  refine ⟨?_⟩
  refine wl_load (cs := b.arr) (fr := (0, 0)) (g := w.heap.size) Tryz.underlying35 rfl Kb.info rfl rfl rfl q0 (Kb.arr_size _) ?_
  go_wp2_with fail
  refine (copied_any (b := b) (ps := ps) (w := W2) ((HKM.out.kept fun i _ h2 => hV2.block i h2).more (Nat.le_refl _) hV2.size) (by omega) (fun k hk => by have := HLN.out k hk; omega)).mono ?_
  rintro e W3 ⟨vp, vv, rfl, hlp, hcy, hb⟩
  have r0 := below_block hb q0
  have r1 := below_block hb q1
  have r2 := below_block hb q2
  have hV3 : Below w.heap.size w W3 := hV2.trans (hb.mono hV2.size)
  have hs3 := hb.size
  obtain ⟨bc, hbc⟩ : ∃ bc, ({ b with vp := vp, v := vv } : Kb) = bc := ⟨_, rfl⟩
  rw [hbc]
  have hkm : KbM W3 (w.heap.size + 1 + 1 + 1) W3.heap.size bc ps := by
    rw [← hbc]
    have h9 : ∀ k, k < 32 → Cys W3 (w.heap.size + 1 + 1 + 1) W3.heap.size (vv k) (b.a k).l := fun k hk => (hcy k hk).more (by omega) (Nat.le_refl _)
    exact ⟨Kb.one_of (b := { b with vp := vp, v := vv }) hlp.pys.one h9, (hlp.more (by omega)).pys, h9⟩
  have HKC := Lib.hid hkm
  have HBC : Hid (∃ vp vv, bc = ({ b with vp := vp, v := vv } : Kb)) := ⟨vp, vv, hbc.symm⟩
  have HLS : Hid (Lst W3 (w.heap.size + 1 + 1 + 1) bc.vp ps) := by rw [← hbc]; exact hlp.more (by omega)
  have ea : bc.a = b.a := by rw [← hbc]
  have et : bc.td = b.td := by rw [← hbc]
  have EA := Lib.hid ea
  have ET := Lib.hid et
  clear hb q0 q1 q2 hV2 hlp hcy hbc ea et hkm hz2 hs3 W2
  go_wp2_with (((with_reducible_and_instances (show wpList _ _ _ (Oper.mk _ (Op.store 35 _ _) _ _ _ _ :: _) _ _)); refine stop_here ?_))
  refine ⟨?_⟩
  refine wl_store (g := w.heap.size) Kb.info rfl rfl rfl rfl r0 (Kb.arr_size _) (Kb.arr_size _) HKC.out.one.arr ?_
  obtain ⟨W4, hW4⟩ : ∃ W4, boxed W3 w.heap.size bc.arr 35 = W4 := ⟨_, rfl⟩
  have hz3 : w.heap.size + 1 + 1 < W3.heap.size := (Array.getElem?_eq_some_iff.1 r2).1
  have s0 : W4.heap[w.heap.size]? = some (.cells bc.arr 35 (0, 0)) := by rw [← hW4]; exact boxed_at (by omega)
  have s1 : W4.heap[w.heap.size + 1]? = some (.cells o.kb 48 (0, 0)) := by rw [← hW4]; exact boxed_old (by omega) r1
  have s2 : W4.heap[w.heap.size + 1 + 1]? = some (.cells Tryz.zeroCells35 35 (0, 0)) := by rw [← hW4]; exact boxed_old (by omega) r2
  have hV4 : Below w.heap.size w W4 := by rw [← hW4]; exact boxed_below hV3 (Nat.le_refl _)
  have HK4 : Hid (KbM W4 (w.heap.size + 1 + 1 + 1) W4.heap.size bc ps) := by rw [← hW4]; exact (HKC.out.boxed (.inl (by omega))).more (Nat.le_refl _) (by simp)
  have hz4 : w.heap.size + 1 + 1 < W4.heap.size := (Array.getElem?_eq_some_iff.1 s2).1
  have HL4 : Hid (Lst W4 (w.heap.size + 1 + 1 + 1) bc.vp ps) := by rw [← hW4]; exact HLS.out.boxed (by omega)
  rw [hW4]
  clear hW4 HKC HLS r0 r1 r2 hV3 hz3 W3
  have ck : W4.cell? ⟨w.heap.size + 1, 0, none⟩ = some (.int .u8 o.k) := by rw [cell_of_row _ _ _ _ _ _ s1]; rfl
  have hiI : (i : Int) < 32 := by omega
  have hiJ : (0 : Int) ≤ (i : Int) := by omega
  have k1 : (o.k == 1) = false := by simp; omega
  have k2 : (o.k == 2) = false := by simp; omega
  have k9 : (o.k == 9) = false := by simp; omega
  have k10 : (o.k == 10) = false := by simp; omega
  have HSS := Lib.hid hs
  have HCF : Hid (∀ W : World, (fun w' : World => w'.heap[w.heap.size + 1]? = some (.cells o.kb 48 (0, 0))) W → W.cell? ⟨w.heap.size + 1, 1, none⟩ = some (.int .i64 (i : Int))) := fun W hS => by rw [cell_of_row _ _ _ _ _ _ hS, ← HSS.out]; rfl
  have HCALL := Lib.hid (HA.out W4.drew bc (hV4.drew) ET.out EA.out ((HK4.out.kept (w' := W4.drew) fun _ _ _ => rfl).more (Nat.zero_le _) (Nat.le_refl _)))
  go_upto_region 6 with fail
  have HS0 : Hid ((fun w' : World => w'.heap[w.heap.size + 1]? = some (.cells o.kb 48 (0, 0))) W4.drew) := s1
  have D0 : W4.drew.heap[w.heap.size]? = some (.cells bc.arr 35 (0, 0)) := s0
  refine laneT_start (ord := [0, 1, 3, 8, 2, 4, 5, 6, 7, 9, 10, 11]) (t := 11) (S := (fun w' : World => w'.heap[w.heap.size + 1]? = some (.cells o.kb 48 (0, 0)))) rfl (by kernel_rfl) ?_
  iterate 1 (refine laneT_take1 (v := ?_) rfl (by kernel_rfl) (by kernel_rfl) (by rfl) ?_ (by exact HS0.out) ?_; rotate_left; (focus (intro W hSw; have x0 := HCF.out W hSw; go_simp; try (with_reducible rfl))); simp only [Act.put, List.setIfInBounds_toArray, List.set_cons_zero, List.set_cons_succ])
  iterate 1 (refine laneT_take1 (v := ?_) rfl (by kernel_rfl) (by kernel_rfl) (by rfl) ?_ (by exact HS0.out) ?_; rotate_left; (focus (intro W hSw; have x0 := HCF.out W hSw; go_simp; try (with_reducible rfl))); simp only [Act.put, List.setIfInBounds_toArray, List.set_cons_zero, List.set_cons_succ])
  refine laneT_take1 (v := .agg o.kb) rfl (by kernel_rfl) (by kernel_rfl) (by rfl) (fun W hSw => exec_load rfl rfl (run_loadAt_row W (w.heap.size + 1) 48 48 _ (0, 0) _ hSw Tryz.underlying48 rfl info16k)) (by exact HS0.out) ?_
  simp only [Act.put, List.setIfInBounds_toArray, List.set_cons_zero, List.set_cons_succ]
  iterate 1 (refine laneT_take1 (v := ?_) rfl (by kernel_rfl) (by kernel_rfl) (by rfl) ?_ (by exact HS0.out) ?_; rotate_left; (focus (intro W hSw; have x0 := HCF.out W hSw; go_simp; try (with_reducible rfl))); simp only [Act.put, List.setIfInBounds_toArray, List.set_cons_zero, List.set_cons_succ])
  refine laneT_alone rfl (by kernel_rfl) (by rfl) (fun KK hK => ?_)
  refine wp_load_row 35 _ rfl (w.heap.size) rfl 35 bc.arr (0, 0) _ D0 Tryz.underlying35 rfl (by rw [Kb.arr_size]; exact Kb.info) ?_
  refine hK _ _ (fun _ => HS0.out) ?_
  clear hK KK
  simp only [Act.put, List.setIfInBounds_toArray, List.set_cons_zero, List.set_cons_succ]
  refine laneT_alone rfl (by kernel_rfl) (by rfl) (fun KK hK => ?_)
  go_simp
  refine (HCALL.out).mono ?_
  rintro e W5 ⟨a5, v5, rfl, hv1, hok, hb⟩
  have hb2 : Below W4.heap.size W4 W5 := (Below.refl _ W4).drew.trans hb
  have HS5 : Hid ((fun w' : World => w'.heap[w.heap.size + 1]? = some (.cells o.kb 48 (0, 0))) W5) := below_block hb2 s1
  have y0 := below_block hb2 s0
  have y2 := below_block hb2 s2
  have hV5 : Below w.heap.size w W5 := hV4.trans (hb2.mono hV4.size)
  have hs5 := hb2.size
  have HK5 : Hid (KbM W5 (w.heap.size + 1 + 1 + 1) W4.heap.size bc ps) := HK4.out.kept fun i _ h2 => hb2.block i h2
  refine hK _ _ (fun _ => HS5.out) ?_
  clear hK KK hb hb2 HS0 D0 s0 s1 s2 HK4 HCALL
  refine laneT_alone rfl (by kernel_rfl) (by rfl) (fun KK hK => ?_)
  go_simp
  refine hK _ _ (fun _ => HS5.out) ?_
  clear hK KK
  iterate 2 (refine laneT_take1 (v := ?_) rfl (by kernel_rfl) (by kernel_rfl) (by rfl) ?_ (by exact HS5.out) ?_; rotate_left; (focus (intro W hSw; go_simp; try (with_reducible rfl))); simp only [Act.put, List.setIfInBounds_toArray, List.set_cons_zero, List.set_cons_succ])
  refine laneT_alone rfl (by kernel_rfl) (by rfl) (fun KK hK => ?_)
  go_simp
  refine hK _ _ (fun _ => HS5.out) ?_
  clear hK KK
  refine laneT_alone rfl (by kernel_rfl) (by rfl) (fun KK hK => ?_)
  have e9 := boxed_self y0
  rw [e9]
  refine wp_store_mid _ _ _ rfl (w.heap.size) (2 + i * 13) (a5.arr v5) rfl rfl (Kb.there (by omega) (by rw [Av.arr_size]; omega)) info13 (Av.arr_one hv1) ?_
  rw [Kb.store]
  refine hK _ _ (fun _ => boxed_old (by omega) HS5.out) ?_
  clear hK KK e9
  refine laneT_alone rfl (by kernel_rfl) (by rfl) (fun KK hK => ?_)
  go_simp
  refine hK _ _ (fun h => absurd rfl h) ?_
  clear hK KK
  refine laneT_end (by kernel_rfl) ?_
  obtain ⟨W6, hW6⟩ : ∃ W6, boxed W5 (w.heap.size) (bc.put i a5 v5).arr 35 = W6 := ⟨_, rfl⟩
  have z0 : W6.heap[w.heap.size]? = some (.cells (bc.put i a5 v5).arr 35 (0, 0)) := by rw [← hW6]; exact boxed_at (by omega)
  have z2 : W6.heap[w.heap.size + 1 + 1]? = some (.cells Tryz.zeroCells35 35 (0, 0)) := by rw [← hW6]; exact boxed_old (by omega) y2
  have hV6 : Below w.heap.size w W6 := by rw [← hW6]; exact boxed_below hV5 (Nat.le_refl _)
  have hz6 : w.heap.size + 1 + 1 < W6.heap.size := (Array.getElem?_eq_some_iff.1 z2).1
  have HC6 : Hid (x = 0 → a5 = A' ∧ Cys W6 (w.heap.size + 1 + 1 + 1) W6.heap.size v5 A'.l) := fun h => ⟨(hok h).1, by rw [← hW6]; exact ((hok h).2.boxed (.inl (by have := hz4; show w.heap.size < W4.drew.heap.size; simp; omega))).more (by show w.heap.size + 1 + 1 + 1 ≤ W4.drew.heap.size; simp; omega) (by simp)⟩
  have HK6 : Hid (KbM W6 (w.heap.size + 1 + 1 + 1) W6.heap.size bc ps) := by rw [← hW6]; exact (HK5.out.boxed (.inl (by omega))).more (Nat.le_refl _) (by simp; omega)
  rw [hW6]
  clear hW6 y0 y2 hV5 hs5 HK5 HS5 hok W5
  by_cases hx : x = 0
  case neg =>
    have dx : (x != 0) = true := by simpa using hx
    have dx2 : decide (x ≠ 0) = true := by simpa using hx
    go_wp2_with (((with_reducible_and_instances (show wpList _ _ _ (Oper.mk _ (Op.build 35 _) _ _ _ _ :: _) _ _)); refine stop_here ?_))
    refine ⟨?_⟩
    refine wpList_buildTo rfl 35 _ rfl _ rfl _ (Eq.trans (congrArg (Program.built _ _) (by simp)) Kb.zero_built) ?_
    go_wp2_with (((with_reducible_and_instances (show wpList _ _ _ (Oper.mk _ (Op.store 35 _ _) _ _ _ _ :: _) _ _)); refine stop_here ?_))
    refine ⟨?_⟩
    refine wl_store (g := w.heap.size + 1 + 1) Kb.info rfl rfl rfl rfl z2 Kb.zero_size (Kb.arr_size _) Kb.zero_one.arr ?_
    go_wp2_with fail
    refine bodyPost_ret (results_row_tmp rfl _ _ (w.heap.size + 1 + 1) 35 _ (0, 0) _ rfl (boxed_at (by have := (Array.getElem?_eq_some_iff.1 z2).1; omega)) Tryz.underlying35 rfl (by rw [Kb.arr_size]; exact Kb.info)) rfl ?_
    exact ⟨fun _ => ⟨rfl, boxed_below hV6 (by omega)⟩, fun h => absurd h hx⟩
  case pos =>
    subst hx
    obtain ⟨rfl, hcy6⟩ := HC6.out rfl
    obtain ⟨c5, hc5⟩ : ∃ c5, bc.put i a5 v5 = c5 := ⟨_, rfl⟩
    have HKF : Hid (KbM W6 (w.heap.size + 1 + 1 + 1) W6.heap.size c5 ps) := by
      rw [← hc5]
      refine ⟨HK6.out.one.put i a5 hv1, HK6.out.ps, fun k hk9 => ?_⟩
      by_cases e : k = i
      · subst e; rw [(bc.put_same k a5 v5).1, (bc.put_same k a5 v5).2]; exact hcy6
      · rw [(bc.put_other a5 v5 e).1, (bc.put_other a5 v5 e).2]; exact HK6.out.cs k hk9
    have HTD : Hid (c5.td = b.td) := by rw [← hc5]; exact ET.out
    have HFA : Hid (∀ k, k < 32 → c5.a k = if k = i then a5 else b.a k) := fun k _ => by
      rw [← hc5]
      show (if k = i then a5 else bc.a k) = _
      rw [EA.out]
    rw [hc5] at z0
    clear hc5 HC6 HK6 hcy6
    go_wp2_with (((with_reducible_and_instances (show wpList _ _ _ (Oper.mk _ (Op.load 35 _) _ _ _ _ :: _) _ _)); refine stop_here ?_))
    refine ⟨?_⟩
    refine wl_load (cs := c5.arr) (fr := (0, 0)) (g := w.heap.size) Tryz.underlying35 rfl Kb.info rfl rfl rfl z0 (Kb.arr_size _) ?_
    go_wp2_with (((with_reducible_and_instances (show wpList _ _ _ (Oper.mk _ (Op.store 35 _ _) _ _ _ _ :: _) _ _)); refine stop_here ?_))
    refine ⟨?_⟩
    refine wl_store (g := w.heap.size + 1 + 1) Kb.info rfl rfl rfl rfl z2 Kb.zero_size (Kb.arr_size _) HKF.out.one.arr ?_
    go_wp2_with fail
    refine bodyPost_ret (results_row_tmp rfl _ _ (w.heap.size + 1 + 1) 35 _ (0, 0) _ rfl (boxed_at (by have := (Array.getElem?_eq_some_iff.1 z2).1; omega)) Tryz.underlying35 rfl (by rw [Kb.arr_size]; exact Kb.info)) rfl ?_
    refine ⟨fun h => absurd rfl h, fun _ => ⟨c5, HTD.out, HFA.out, rfl, ((HKF.out.boxed (.inl (by omega))).more (by omega) (by simp)), boxed_below hV6 (by omega)⟩⟩
end Go.Proofs.YtblikgbcakgdnaaGreat
