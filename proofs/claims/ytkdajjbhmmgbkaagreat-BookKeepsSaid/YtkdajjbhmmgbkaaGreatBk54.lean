/-
  BookKeeps: a book stays as it was. No conditions.
-/
import Derived.Test.YtkdajjbhmmgbkaaGreatBk53
set_option linter.unusedSimpArgs false
set_option linter.unusedVariables false
namespace Go.Proofs.YtkdajjbhmmgbkaaGreat
set_option linter.unusedVariables false
set_option linter.unusedSimpArgs false
set_option maxRecDepth 100000
open Go.ChangeShapes Go.WideShapes Go.ChangeAt Go.RowKit

set_option maxHeartbeats 16000000 in
theorem bookKeeps_walk {w : World} (a0 : Int) (w0 : (Lit.int .u16 a0).wf = true) (A1 : Option Addr) (c1 : Nat) (l : List Ac4) (r1 : RdAc4 w w.heap.size A1 l) (w1 : ∀ p ∈ l, Ac4.Wf p) (Kx Ax Bx Cx : Int) (hx : Ac4.Wf ⟨Kx, Ax, Bx, Cx⟩) (Ky Ay By Cy : Int) (hy : Ac4.Wf ⟨Ky, Ay, By, Cy⟩) :
    Calls Tryz.prog 6 #[.int .u16 a0, .slice A1 l.length c1, .agg #[.int .u8 Kx, .int .u8 Ax, .int .u8 Bx, .int .u8 Cx], .agg #[.int .u8 Ky, .int .u8 Ay, .int .u8 By, .int .u8 Cy]] w fun e w' => e = .returned (.bool true) ∧ Below w.heap.size w w' := by
  obtain ⟨h00, h01⟩ := wf_u16 w0
  obtain ⟨⟨x00, x01⟩, ⟨x10, x11⟩, ⟨x20, x21⟩, ⟨x30, x31⟩⟩ := hx
  obtain ⟨⟨y00, y01⟩, ⟨y10, y11⟩, ⟨y20, y21⟩, ⟨y30, y31⟩⟩ := hy
  dsimp only at x00 x01 x10 x11 x20 x21 x30 x31 y00 y01 y10 y11 y20 y21 y30 y31
  have HRD := Lib.hid r1
  have HWF := Lib.hid w1
  obtain ⟨n, hn⟩ : ∃ n, l.length = n := ⟨_, rfl⟩
  rw [hn]
  have HN0 := Lib.hid hn
  clear r1 w1 hn
  go_enter Tryz.func6, Tryz.ntmps6
  go_wp2_with fail
  have fX0 : ((w.alloc (.cells #[.int .u8 Kx, .int .u8 Ax, .int .u8 Bx, .int .u8 Cx] 51)).alloc (.cells #[.int .u8 Ky, .int .u8 Ay, .int .u8 By, .int .u8 Cy] 51)).heap[w.heap.size]? = some (.cells #[.int .u8 Kx, .int .u8 Ax, .int .u8 Bx, .int .u8 Cx] 51 (0, 0)) := alloc_old (by simp) (alloc_at rfl)
  have fY0 : ((w.alloc (.cells #[.int .u8 Kx, .int .u8 Ax, .int .u8 Bx, .int .u8 Cx] 51)).alloc (.cells #[.int .u8 Ky, .int .u8 Ay, .int .u8 By, .int .u8 Cy] 51)).heap[w.heap.size + 1]? = some (.cells #[.int .u8 Ky, .int .u8 Ay, .int .u8 By, .int .u8 Cy] 51 (0, 0)) := alloc_at (by simp)
  have HWB : Hid (Below w.heap.size w ((w.alloc (.cells #[.int .u8 Kx, .int .u8 Ax, .int .u8 Bx, .int .u8 Cx] 51)).alloc (.cells #[.int .u8 Ky, .int .u8 Ay, .int .u8 By, .int .u8 Cy] 51))) := ((Below.refl _ w).alloc (Nat.le_refl _) _).alloc (by simp) _
  refine (bkawake_any _).mono ?_
  rintro e u1 ⟨rfl, hb1⟩
  have HW1 : Hid (Below w.heap.size w u1) := HWB.out.trans (hb1.mono HWB.out.size)
  have fX1 := below_block hb1 fX0
  have fY1 := below_block hb1 fY0
  clear fX0 fY0
  clear hb1 HWB
  by_cases hlong : 30 < n
  · have d1 : decide (30 < (n : Int)) = true := by simp; omega
    have d2 : decide ((n : Int) > 30) = true := by simp; omega
    go_wp2_with fail
    refine (bkawake_any _).mono ?_
    rintro e u2 ⟨rfl, hb2⟩
    go_wp2_with fail
    go_ret
    exact ⟨rfl, HW1.out.trans (hb2.mono HW1.out.size)⟩
  have d1 : decide (30 < (n : Int)) = false := by simp; omega
  have d2 : decide ((n : Int) > 30) = false := by simp; omega
  go_wp2_with fail
  refine (bknew_any (700000 + a0) _).mono ?_
  rintro e u2 ⟨rfl, hb2⟩
  have HW2 : Hid (Below w.heap.size w u2) := HW1.out.trans (hb2.mono HW1.out.size)
  have fX2 := below_block hb2 fX1
  have fY2 := below_block hb2 fY1
  clear fX1 fY1
  clear hb2 HW1
  go_wp2_with (((with_reducible_and_instances (show wpList _ _ _ (Oper.mk _ (Op.store 35 _ _) _ _ _ _ :: _) _ _)); refine stop_here ?_))
  refine ⟨?_⟩
  refine wl_store (g := u2.heap.size) Kb.info rfl rfl rfl rfl (alloc_at rfl) Kb.zero_size (Kb.arr_size _) (Kb.new_one _).arr ?_
  obtain ⟨U1, hU1⟩ : ∃ U1, boxed (u2.alloc (.cells Tryz.zeroCells35 35)) u2.heap.size (Kb.new (700000 + a0)).arr 35 = U1 := ⟨_, rfl⟩
  have HD5 : Hid (U1.heap[u2.heap.size]? = some (.cells (Kb.new (700000 + a0)).arr 35 (0, 0))) := by rw [← hU1]; exact boxed_at (by simp)
  have HW5 : Hid (Below w.heap.size w U1) := by rw [← hU1]; exact boxed_below (HW2.out.alloc HW2.out.size _) HW2.out.size
  have HX5 : Hid (U1.heap[w.heap.size]? = some (.cells #[.int .u8 Kx, .int .u8 Ax, .int .u8 Bx, .int .u8 Cx] 51 (0, 0))) := by rw [← hU1]; exact boxed_old (by have := (Array.getElem?_eq_some_iff.1 fX2).1; omega) (alloc_old (Array.getElem?_eq_some_iff.1 fX2).1 fX2)
  have HY5 : Hid (U1.heap[w.heap.size + 1]? = some (.cells #[.int .u8 Ky, .int .u8 Ay, .int .u8 By, .int .u8 Cy] 51 (0, 0))) := by rw [← hU1]; exact boxed_old (by have := (Array.getElem?_eq_some_iff.1 fY2).1; omega) (alloc_old (Array.getElem?_eq_some_iff.1 fY2).1 fY2)
  have hX5 : w.heap.size + 1 < u2.heap.size := (Array.getElem?_eq_some_iff.1 fY2).1
  clear fX2 fY2
  have hwD : w.heap.size ≤ u2.heap.size := HW2.out.size
  rw [hU1]
  clear hU1 HW2
  generalize u2.heap.size = D at *
  go_wp2_with fail
  go_loopw [10] (fun i wq => ∃ (j : Nat) (b : Kb) (ps : List Pv), j ≤ n ∧ i = .int .i64 j ∧ Hid (Below w.heap.size w wq) ∧ Hid (wq.heap[D]? = some (.cells b.arr 35 (0, 0))) ∧ Hid (KbM wq (D + 1) wq.heap.size b ps) ∧ Hid (PBok (1100000000 * (j : Int)) (40 * (j : Int) + 1) b.td b.a ps) ∧ b.td ≤ 800000 + 40 * (j : Int) ∧ Hid (wq.heap[w.heap.size]? = some (.cells #[.int .u8 Kx, .int .u8 Ax, .int .u8 Bx, .int .u8 Cx] 51 (0, 0))) ∧ Hid (wq.heap[w.heap.size + 1]? = some (.cells #[.int .u8 Ky, .int .u8 Ay, .int .u8 By, .int .u8 Cy] 51 (0, 0)))) (fun i _ => n - (intOf i).toNat)
  case atStart => exact ⟨0, Kb.new (700000 + a0), [], by omega, rfl, HW5, HD5, new_km _ _ _ _, (new_ok (by omega)).more (by omega) (by omega), by show 700000 + a0 ≤ _; omega, HX5, HY5⟩
  case round =>
    clear HW5 HD5 HX5 HY5
    obtain ⟨j, b, ps, hj, rfl, HW, HD, HK, HP, htd, HX, HY⟩ := hrel
    by_cases hlt : j < n
    case pos =>
      have dlt : decide ((j : Int) < (n : Int)) = true := by simp; omega
      have hln := HN0.out
      obtain ⟨⟨K, A, B, C⟩, hact⟩ : ∃ p, l[j]? = some p := ⟨_, List.getElem?_eq_getElem (by omega)⟩
      obtain ⟨ab, ao, hAd, hab, hrd⟩ := HRD.out j _ hact
      subst hAd
      obtain ⟨⟨hk0, hk1⟩, ⟨hA0, hA1⟩, ⟨hB0, hB1⟩, ⟨hC0, hC1⟩⟩ := HWF.out _ (List.mem_of_getElem? hact)
      dsimp only at hk0 hk1 hA0 hA1 hB0 hB1 hC0 hC1
      have hzr : D < wr.heap.size := (Array.getElem?_eq_some_iff.1 HD.out).1
      have HS : Hid (∀ V, Below wr.heap.size wr V → (fun w' : World => w'.heap[D]? = some (.cells b.arr 35 (0, 0)) ∧ w'.rangeAt ab (ao + j * 4) (Ac4.cs ⟨K, A, B, C⟩)) V) := fun V hV => ⟨(hV.block D hzr).trans HD.out, fun i v hv => (World.cell?_of_block (a := ⟨ab, ao + j * 4 + i, none⟩) ((hV.block ab (by have := HW.out.size; omega)).trans (HW.out.block _ hab))).trans (hrd i v hv)⟩
      have hjI : (j : Int) < (n : Int) := by omega
      have hjJ : (0 : Int) ≤ (j : Int) := by omega
      clear hact hrd
      have HLN : Hid (∀ k, k < 32 → (b.a k).l.length ≤ 9000) := HP.out.lens (by omega)
      have HLE : Hid ((asksK b.a 32).length ≤ 100000000) := Nat.le_trans (asksK_len (m := 9000) HLN.out 32 (Nat.le_refl _)) (by omega)
      have HASK : Hid (∀ m ∈ asksK b.a 32, (∃ j : Nat, j < 32 ∧ m.s = (j : Int)) ∧ 0 ≤ m.t ∧ m.t ≤ 1000000) := HP.out.asked (by omega)
      go_upto_region 7 with fail
      apply region_frame5 (fun Z c x v o w' => Hid (Below wr.heap.size wr w') ∧ Hid (w'.heap[Z]? = some (.cells c.arr 35 (0, 0))) ∧ wr.heap.size ≤ Z ∧ Z < w'.heap.size ∧ Hid (x = 0 → ∃ ps', KbM w' (D + 1) w'.heap.size c ps' ∧ PBok ((1100000000 * (j : Int)) + 1100000000) ((40 * (j : Int) + 1) + 40) c.td c.a ps' ∧ Apart o b.td b.a c.td c.a) ∧ Hid (OForm o))
      · skip
        refine lane_start (ord := [0, 1, 2, 3, 4, 5, 6, 7, 8, 9, 10, 11, 12, 13, 14]) (S := (fun w' : World => w'.heap[D]? = some (.cells b.arr 35 (0, 0)) ∧ w'.rangeAt ab (ao + j * 4) (Ac4.cs ⟨K, A, B, C⟩))) rfl (by kernel_rfl) (by exact HS.out _ (Below.refl _ wr).drew) (fun _ => ?_)
        obtain ⟨V0, hV0⟩ : ∃ V0, wr.drew = V0 := ⟨_, rfl⟩
        have HB0 : Hid (Below wr.heap.size wr V0) := by rw [← hV0]; exact (Below.refl _ wr).drew
        rw [hV0]
        clear hV0
        refine lane_take (v := .agg b.arr) rfl (by kernel_rfl) (by kernel_rfl) (by rfl) (fun W hSw => exec_load rfl rfl (by
          have h9 := run_loadAt_mid (P := Tryz.prog) W D 0 35 _ _ (Kb.range_all hSw.1) Tryz.underlying35 rfl Kb.info_all
          (try rw [Array.toArray_toList] at h9)
          exact h9)) (by exact HS.out _ HB0.out) ?_
        simp only [Act.put, List.setIfInBounds_toArray, List.set_cons_zero, List.set_cons_succ]
        iterate 1 (refine lane_take (v := ?_) rfl (by kernel_rfl) (by kernel_rfl) (by rfl) ?_ (by exact HS.out _ HB0.out) ?_; rotate_left; (focus (intro W hSw; go_simp; try (with_reducible rfl))); simp only [Act.put, List.setIfInBounds_toArray, List.set_cons_zero, List.set_cons_succ])
        iterate 1 (refine lane_take (v := ?_) rfl (by kernel_rfl) (by kernel_rfl) (by rfl) ?_ (by exact HS.out _ HB0.out) ?_; rotate_left; (focus (intro W hSw; go_simp; try (with_reducible rfl))); simp only [Act.put, List.setIfInBounds_toArray, List.set_cons_zero, List.set_cons_succ])
        iterate 1 (refine lane_take (v := ?_) rfl (by kernel_rfl) (by kernel_rfl) (by rfl) ?_ (by exact HS.out _ HB0.out) ?_; rotate_left; (focus (intro W hSw; go_simp; try (with_reducible rfl))); simp only [Act.put, List.setIfInBounds_toArray, List.set_cons_zero, List.set_cons_succ])
        refine lane_take (v := .agg #[.int .u8 K, .int .u8 A, .int .u8 B, .int .u8 C]) rfl (by kernel_rfl) (by kernel_rfl) (by rfl) (fun W hSw => exec_load rfl rfl (by
          have h9 := run_loadAt_mid (P := Tryz.prog) W ab (ao + j * 4) 51 _ _ (hSw.2) Tryz.underlying51 rfl info4a
          (try rw [Array.toArray_toList] at h9)
          exact h9)) (by exact HS.out _ HB0.out) ?_
        simp only [Act.put, List.setIfInBounds_toArray, List.set_cons_zero, List.set_cons_succ]
        refine lane_take (v := .agg b.arr) rfl (by kernel_rfl) (by kernel_rfl) (by rfl) (fun W hSw => exec_load rfl rfl (by
          have h9 := run_loadAt_mid (P := Tryz.prog) W D 0 35 _ _ (Kb.range_all hSw.1) Tryz.underlying35 rfl Kb.info_all
          (try rw [Array.toArray_toList] at h9)
          exact h9)) (by exact HS.out _ HB0.out) ?_
        simp only [Act.put, List.setIfInBounds_toArray, List.set_cons_zero, List.set_cons_succ]
        refine lane_two (i := 6) (j := 12) (ordI := [7, 8, 9, 10, 11, 12, 13, 14]) (ordJ := [6, 7, 8, 9, 10, 11, 13, 14]) rfl rfl (by kernel_rfl) rfl (by rfl) (by rfl) (fun KK hK => ?_) (fun KK hK => ?_)
        · skip
          go_simp
          refine (bkasks_any ((HK.out.below HB0.out).more (Nat.zero_le _) HB0.out.size) (fun k hk => by have := HLN.out k hk; omega)).mono ?_
          rintro e V1 ⟨v1, rfl, ho1, hb1⟩
          have HB1 : Hid (Below wr.heap.size wr V1) := HB0.out.trans (hb1.mono HB0.out.size)
          have HN : Hid (Nvs V1 0 V1.heap.size v1 (asksK b.a 32)) := (Nvs.own ho1).more (Nat.zero_le _) (Nat.le_refl _)
          clear ho1 hb1
          refine hK _ _ (HS.out _ HB1.out) (fun _ => ?_)
          clear hK KK
          refine lane_two (i := 7) (j := 12) (ordI := [8, 9, 10, 11, 12, 13, 14]) (ordJ := [7, 8, 9, 10, 11, 13, 14]) rfl rfl (by kernel_rfl) rfl (by rfl) (by rfl) (fun KK hK => ?_) (fun KK hK => ?_)
          · skip
            go_simp
            refine (order_any K A B C hk0 ⟨hA0, hA1⟩ ⟨hB0, hB1⟩ ⟨hC0, hC1⟩ HN.out HLE.out HASK.out).mono ?_
            rintro e V2 ⟨o, rfl, ho, hb2⟩
            have HO := Lib.hid ho
            have HB2 : Hid (Below wr.heap.size wr V2) := HB1.out.trans (hb2.mono HB1.out.size)
            clear ho hb2
            refine hK _ _ (HS.out _ HB2.out) (fun _ => ?_)
            clear hK KK
            refine lane_two (i := 8) (j := 12) (ordI := [9, 10, 11, 12, 13, 14]) (ordJ := [8, 9, 10, 11, 13, 14]) rfl rfl (by kernel_rfl) rfl (by rfl) (by rfl) (fun KK hK => ?_) (fun KK hK => ?_)
            · skip
              go_simp
              refine (step_all HP.out ((HK.out.below HB2.out).more (Nat.zero_le _) HB2.out.size) (by omega) (by omega) (by omega) HO.out).mono ?_
              rintro e V3 ⟨c, x, rfl, hone, hc, hb3⟩
              have HB3 : Hid (Below wr.heap.size wr V3) := HB2.out.trans (hb3.mono HB2.out.size)
              have hD3 : D + 1 ≤ V2.heap.size := by have := HB2.out.size; omega
              clear hb3
              refine hK _ _ (HS.out _ HB3.out) (fun _ => ?_)
              clear hK KK
              iterate 3 (refine lane_take (v := ?_) rfl (by kernel_rfl) (by kernel_rfl) (by rfl) ?_ (by exact HS.out _ HB3.out) ?_; rotate_left; (focus (intro W hSw; go_simp; try (with_reducible rfl))); simp only [Act.put, List.setIfInBounds_toArray, List.set_cons_zero, List.set_cons_succ])
              refine lane_alone rfl (by kernel_rfl) (by rfl) (fun KK hK => ?_)
              go_simp
              obtain ⟨A4, hA4⟩ : ∃ A, V3.alloc (.cells Tryz.zeroCells35 35) = A := ⟨_, rfl⟩
              have HA4 : Hid (Below wr.heap.size wr A4) := by rw [← hA4]; exact HB3.out.alloc HB3.out.size _
              have HZ : Hid (A4.heap[V3.heap.size]? = some (.cells Tryz.zeroCells35 35 (0, 0))) := by rw [← hA4]; exact alloc_at rfl
              have hZl : V3.heap.size < A4.heap.size := by rw [← hA4]; simp
              have hZg : wr.heap.size ≤ V3.heap.size := HB3.out.size
              have hbA : Below V3.heap.size V3 A4 := by rw [← hA4]; exact (Below.refl _ _).alloc (Nat.le_refl _) _
              rw [hA4]
              have HC : Hid (Came (1100000000 * (j : Int)) (40 * (j : Int) + 1) b o D V3.heap.size c x A4) := (Stepd.came hc hD3 (.inr (Nat.le_refl _))).below hbA
              clear hc
              obtain ⟨Z, hZe⟩ : ∃ Z, V3.heap.size = Z := ⟨_, rfl⟩
              rw [hZe] at HZ hZl hZg HC ⊢
              clear hA4 hbA hZe
              refine hK _ _ (HS.out _ HA4.out) (fun _ => ?_)
              clear hK KK
              refine lane_alone rfl (by kernel_rfl) (by rfl) (fun KK hK => ?_)
              refine wp_store_row 35 _ _ rfl Z c.arr rfl rfl 35 _ HZ.out (by rw [Kb.arr_size]; exact Kb.info) (by rw [Kb.arr_size]; exact Kb.zero_size) hone.arr ?_
              rw [row_boxed HZ.out]
              have HB9 : Hid (Below wr.heap.size wr (boxed A4 Z c.arr 35)) := boxed_below HA4.out hZg
              refine hK _ _ (HS.out _ HB9.out) (fun _ => ?_)
              clear hK KK
              iterate 1 (refine lane_take (v := ?_) rfl (by kernel_rfl) (by kernel_rfl) (by rfl) ?_ (by exact HS.out _ HB9.out) ?_; rotate_left; (focus (intro W hSw; go_simp; try (with_reducible rfl))); simp only [Act.put, List.setIfInBounds_toArray, List.set_cons_zero, List.set_cons_succ])
              refine lane_end (by kernel_rfl) ?_
              exact ⟨rfl, Z, c, x, v1, o, rfl, HB9, boxed_at hZl, hZg, by rw [boxed_size]; exact hZl, HC.out.boxed, HO⟩
            · skip
              go_simp
              obtain ⟨A5, hA5⟩ : ∃ A, V2.alloc (.cells Tryz.zeroCells35 35) = A := ⟨_, rfl⟩
              have HA5 : Hid (Below wr.heap.size wr A5) := by rw [← hA5]; exact HB2.out.alloc HB2.out.size _
              have HZ : Hid (A5.heap[V2.heap.size]? = some (.cells Tryz.zeroCells35 35 (0, 0))) := by rw [← hA5]; exact alloc_at rfl
              have hZl : V2.heap.size < A5.heap.size := by rw [← hA5]; simp
              have hZg : wr.heap.size ≤ V2.heap.size := HB2.out.size
              have hbA : Below V2.heap.size V2 A5 := by rw [← hA5]; exact (Below.refl _ _).alloc (Nat.le_refl _) _
              rw [hA5]
              obtain ⟨Z, hZe⟩ : ∃ Z, V2.heap.size = Z := ⟨_, rfl⟩
              rw [hZe] at HZ hZl hZg ⊢
              clear hA5 hbA hZe
              refine hK _ _ (HS.out _ HA5.out) (fun _ => ?_)
              clear hK KK
              refine lane_alone rfl (by kernel_rfl) (by rfl) (fun KK hK => ?_)
              go_simp
              refine (step_all HP.out ((HK.out.below HA5.out).more (Nat.zero_le _) HA5.out.size) (by omega) (by omega) (by omega) HO.out).mono ?_
              rintro e V6 ⟨c, x, rfl, hone, hc, hb6⟩
              have HB6 : Hid (Below wr.heap.size wr V6) := HA5.out.trans (hb6.mono HA5.out.size)
              have hD6 : D + 1 ≤ A5.heap.size := by have := HA5.out.size; omega
              have HC : Hid (Came (1100000000 * (j : Int)) (40 * (j : Int) + 1) b o D Z c x V6) := Stepd.came hc hD6 (.inl hZl)
              clear hc
              have HZ : Hid (V6.heap[Z]? = _) := (hb6.block Z (by omega)).trans HZ.out
              have hZl : Z < V6.heap.size := by have := hb6.size; omega
              clear hb6
              refine hK _ _ (HS.out _ HB6.out) (fun _ => ?_)
              clear hK KK
              iterate 3 (refine lane_take (v := ?_) rfl (by kernel_rfl) (by kernel_rfl) (by rfl) ?_ (by exact HS.out _ HB6.out) ?_; rotate_left; (focus (intro W hSw; go_simp; try (with_reducible rfl))); simp only [Act.put, List.setIfInBounds_toArray, List.set_cons_zero, List.set_cons_succ])
              refine lane_alone rfl (by kernel_rfl) (by rfl) (fun KK hK => ?_)
              refine wp_store_row 35 _ _ rfl Z c.arr rfl rfl 35 _ HZ.out (by rw [Kb.arr_size]; exact Kb.info) (by rw [Kb.arr_size]; exact Kb.zero_size) hone.arr ?_
              rw [row_boxed HZ.out]
              have HB9 : Hid (Below wr.heap.size wr (boxed V6 Z c.arr 35)) := boxed_below HB6.out hZg
              refine hK _ _ (HS.out _ HB9.out) (fun _ => ?_)
              clear hK KK
              iterate 1 (refine lane_take (v := ?_) rfl (by kernel_rfl) (by kernel_rfl) (by rfl) ?_ (by exact HS.out _ HB9.out) ?_; rotate_left; (focus (intro W hSw; go_simp; try (with_reducible rfl))); simp only [Act.put, List.setIfInBounds_toArray, List.set_cons_zero, List.set_cons_succ])
              refine lane_end (by kernel_rfl) ?_
              exact ⟨rfl, Z, c, x, v1, o, rfl, HB9, boxed_at hZl, hZg, by rw [boxed_size]; exact hZl, HC.out.boxed, HO⟩
          · skip
            go_simp
            obtain ⟨A8, hA8⟩ : ∃ A, V1.alloc (.cells Tryz.zeroCells35 35) = A := ⟨_, rfl⟩
            have HA8 : Hid (Below wr.heap.size wr A8) := by rw [← hA8]; exact HB1.out.alloc HB1.out.size _
            have HZ : Hid (A8.heap[V1.heap.size]? = some (.cells Tryz.zeroCells35 35 (0, 0))) := by rw [← hA8]; exact alloc_at rfl
            have hZl : V1.heap.size < A8.heap.size := by rw [← hA8]; simp
            have hZg : wr.heap.size ≤ V1.heap.size := HB1.out.size
            have hbA : Below V1.heap.size V1 A8 := by rw [← hA8]; exact (Below.refl _ _).alloc (Nat.le_refl _) _
            rw [hA8]
            have HN : Hid (Nvs A8 0 A8.heap.size v1 (asksK b.a 32)) := (HN.out.below hbA).more (Nat.zero_le _) hbA.size
            obtain ⟨Z, hZe⟩ : ∃ Z, V1.heap.size = Z := ⟨_, rfl⟩
            rw [hZe] at HZ hZl hZg ⊢
            clear hA8 hbA hZe
            refine hK _ _ (HS.out _ HA8.out) (fun _ => ?_)
            clear hK KK
            refine lane_alone rfl (by kernel_rfl) (by rfl) (fun KK hK => ?_)
            go_simp
            refine (order_any K A B C hk0 ⟨hA0, hA1⟩ ⟨hB0, hB1⟩ ⟨hC0, hC1⟩ HN.out HLE.out HASK.out).mono ?_
            rintro e V9 ⟨o, rfl, ho, hb9⟩
            have HO := Lib.hid ho
            have HB9 : Hid (Below wr.heap.size wr V9) := HA8.out.trans (hb9.mono HA8.out.size)
            have HZ : Hid (V9.heap[Z]? = _) := (hb9.block Z (by omega)).trans HZ.out
            have hZl : Z < V9.heap.size := by have := hb9.size; omega
            clear ho hb9
            refine hK _ _ (HS.out _ HB9.out) (fun _ => ?_)
            clear hK KK
            refine lane_alone rfl (by kernel_rfl) (by rfl) (fun KK hK => ?_)
            go_simp
            refine (step_all HP.out ((HK.out.below HB9.out).more (Nat.zero_le _) HB9.out.size) (by omega) (by omega) (by omega) HO.out).mono ?_
            rintro e V10 ⟨c, x, rfl, hone, hc, hb10⟩
            have HB10 : Hid (Below wr.heap.size wr V10) := HB9.out.trans (hb10.mono HB9.out.size)
            have hD10 : D + 1 ≤ V9.heap.size := by have := HB9.out.size; omega
            have HC : Hid (Came (1100000000 * (j : Int)) (40 * (j : Int) + 1) b o D Z c x V10) := Stepd.came hc hD10 (.inl hZl)
            clear hc
            have HZ : Hid (V10.heap[Z]? = _) := (hb10.block Z (by omega)).trans HZ.out
            have hZl : Z < V10.heap.size := by have := hb10.size; omega
            clear hb10
            refine hK _ _ (HS.out _ HB10.out) (fun _ => ?_)
            clear hK KK
            iterate 3 (refine lane_take (v := ?_) rfl (by kernel_rfl) (by kernel_rfl) (by rfl) ?_ (by exact HS.out _ HB10.out) ?_; rotate_left; (focus (intro W hSw; go_simp; try (with_reducible rfl))); simp only [Act.put, List.setIfInBounds_toArray, List.set_cons_zero, List.set_cons_succ])
            refine lane_alone rfl (by kernel_rfl) (by rfl) (fun KK hK => ?_)
            refine wp_store_row 35 _ _ rfl Z c.arr rfl rfl 35 _ HZ.out (by rw [Kb.arr_size]; exact Kb.info) (by rw [Kb.arr_size]; exact Kb.zero_size) hone.arr ?_
            rw [row_boxed HZ.out]
            have HB9 : Hid (Below wr.heap.size wr (boxed V10 Z c.arr 35)) := boxed_below HB10.out hZg
            refine hK _ _ (HS.out _ HB9.out) (fun _ => ?_)
            clear hK KK
            iterate 1 (refine lane_take (v := ?_) rfl (by kernel_rfl) (by kernel_rfl) (by rfl) ?_ (by exact HS.out _ HB9.out) ?_; rotate_left; (focus (intro W hSw; go_simp; try (with_reducible rfl))); simp only [Act.put, List.setIfInBounds_toArray, List.set_cons_zero, List.set_cons_succ])
            refine lane_end (by kernel_rfl) ?_
            exact ⟨rfl, Z, c, x, v1, o, rfl, HB9, boxed_at hZl, hZg, by rw [boxed_size]; exact hZl, HC.out.boxed, HO⟩
        · skip
          go_simp
          obtain ⟨A12, hA12⟩ : ∃ A, V0.alloc (.cells Tryz.zeroCells35 35) = A := ⟨_, rfl⟩
          have HA12 : Hid (Below wr.heap.size wr A12) := by rw [← hA12]; exact HB0.out.alloc HB0.out.size _
          have HZ : Hid (A12.heap[V0.heap.size]? = some (.cells Tryz.zeroCells35 35 (0, 0))) := by rw [← hA12]; exact alloc_at rfl
          have hZl : V0.heap.size < A12.heap.size := by rw [← hA12]; simp
          have hZg : wr.heap.size ≤ V0.heap.size := HB0.out.size
          have hbA : Below V0.heap.size V0 A12 := by rw [← hA12]; exact (Below.refl _ _).alloc (Nat.le_refl _) _
          rw [hA12]
          obtain ⟨Z, hZe⟩ : ∃ Z, V0.heap.size = Z := ⟨_, rfl⟩
          rw [hZe] at HZ hZl hZg ⊢
          clear hA12 hbA hZe
          refine hK _ _ (HS.out _ HA12.out) (fun _ => ?_)
          clear hK KK
          refine lane_alone rfl (by kernel_rfl) (by rfl) (fun KK hK => ?_)
          go_simp
          refine (bkasks_any ((HK.out.below HA12.out).more (Nat.zero_le _) HA12.out.size) (fun k hk => by have := HLN.out k hk; omega)).mono ?_
          rintro e V13 ⟨v1, rfl, ho13, hb13⟩
          have HB13 : Hid (Below wr.heap.size wr V13) := HA12.out.trans (hb13.mono HA12.out.size)
          have HN : Hid (Nvs V13 0 V13.heap.size v1 (asksK b.a 32)) := (Nvs.own ho13).more (Nat.zero_le _) (Nat.le_refl _)
          have HZ : Hid (V13.heap[Z]? = _) := (hb13.block Z (by omega)).trans HZ.out
          have hZl : Z < V13.heap.size := by have := hb13.size; omega
          clear ho13 hb13
          refine hK _ _ (HS.out _ HB13.out) (fun _ => ?_)
          clear hK KK
          refine lane_alone rfl (by kernel_rfl) (by rfl) (fun KK hK => ?_)
          go_simp
          refine (order_any K A B C hk0 ⟨hA0, hA1⟩ ⟨hB0, hB1⟩ ⟨hC0, hC1⟩ HN.out HLE.out HASK.out).mono ?_
          rintro e V14 ⟨o, rfl, ho, hb14⟩
          have HO := Lib.hid ho
          have HB14 : Hid (Below wr.heap.size wr V14) := HB13.out.trans (hb14.mono HB13.out.size)
          have HZ : Hid (V14.heap[Z]? = _) := (hb14.block Z (by omega)).trans HZ.out
          have hZl : Z < V14.heap.size := by have := hb14.size; omega
          clear ho hb14
          refine hK _ _ (HS.out _ HB14.out) (fun _ => ?_)
          clear hK KK
          refine lane_alone rfl (by kernel_rfl) (by rfl) (fun KK hK => ?_)
          go_simp
          refine (step_all HP.out ((HK.out.below HB14.out).more (Nat.zero_le _) HB14.out.size) (by omega) (by omega) (by omega) HO.out).mono ?_
          rintro e V15 ⟨c, x, rfl, hone, hc, hb15⟩
          have HB15 : Hid (Below wr.heap.size wr V15) := HB14.out.trans (hb15.mono HB14.out.size)
          have hD15 : D + 1 ≤ V14.heap.size := by have := HB14.out.size; omega
          have HC : Hid (Came (1100000000 * (j : Int)) (40 * (j : Int) + 1) b o D Z c x V15) := Stepd.came hc hD15 (.inl hZl)
          clear hc
          have HZ : Hid (V15.heap[Z]? = _) := (hb15.block Z (by omega)).trans HZ.out
          have hZl : Z < V15.heap.size := by have := hb15.size; omega
          clear hb15
          refine hK _ _ (HS.out _ HB15.out) (fun _ => ?_)
          clear hK KK
          iterate 3 (refine lane_take (v := ?_) rfl (by kernel_rfl) (by kernel_rfl) (by rfl) ?_ (by exact HS.out _ HB15.out) ?_; rotate_left; (focus (intro W hSw; go_simp; try (with_reducible rfl))); simp only [Act.put, List.setIfInBounds_toArray, List.set_cons_zero, List.set_cons_succ])
          refine lane_alone rfl (by kernel_rfl) (by rfl) (fun KK hK => ?_)
          refine wp_store_row 35 _ _ rfl Z c.arr rfl rfl 35 _ HZ.out (by rw [Kb.arr_size]; exact Kb.info) (by rw [Kb.arr_size]; exact Kb.zero_size) hone.arr ?_
          rw [row_boxed HZ.out]
          have HB9 : Hid (Below wr.heap.size wr (boxed V15 Z c.arr 35)) := boxed_below HB15.out hZg
          refine hK _ _ (HS.out _ HB9.out) (fun _ => ?_)
          clear hK KK
          iterate 1 (refine lane_take (v := ?_) rfl (by kernel_rfl) (by kernel_rfl) (by rfl) ?_ (by exact HS.out _ HB9.out) ?_; rotate_left; (focus (intro W hSw; go_simp; try (with_reducible rfl))); simp only [Act.put, List.setIfInBounds_toArray, List.set_cons_zero, List.set_cons_succ])
          refine lane_end (by kernel_rfl) ?_
          exact ⟨rfl, Z, c, x, v1, o, rfl, HB9, boxed_at hZl, hZg, by rw [boxed_size]; exact hZl, HC.out.boxed, HO⟩
      rintro Z c x v o w9 ⟨HB9, HZ9, hz1, hz2, HC9, HO⟩
      have HW9 : Hid (Below w.heap.size w w9) := HW.out.trans (HB9.out.mono HW.out.size)
      have HD9 : Hid (w9.heap[D]? = some (.cells b.arr 35 (0, 0))) := (HB9.out.block D hzr).trans HD.out
      have hz9 : D < w9.heap.size := (Array.getElem?_eq_some_iff.1 HD9.out).1
      have hsz9 : wr.heap.size ≤ w9.heap.size := HB9.out.size
      by_cases hx : x = 0
      · subst hx
        obtain ⟨ps', hk9, hp9, hap9⟩ := HC9.out rfl
        have HK9 := Lib.hid hk9
        have HP9 := Lib.hid hp9
        have htd9 := hap9.1
        have hone9 := hk9.one.arr
        clear hk9 hp9 hap9 HC9
        go_wp2_with (((with_reducible_and_instances (show wpList _ _ _ (Oper.mk _ (Op.load 35 _) _ _ _ _ :: _) _ _)); refine stop_here ?_))
        refine ⟨?_⟩
        refine wl_load (cs := c.arr) (fr := (0, 0)) (g := Z) Tryz.underlying35 rfl Kb.info rfl rfl rfl HZ9.out (Kb.arr_size _) ?_
        go_wp2_with (((with_reducible_and_instances (show wpList _ _ _ (Oper.mk _ (Op.store 35 _ _) _ _ _ _ :: _) _ _)); refine stop_here ?_))
        refine ⟨?_⟩
        refine wl_store (g := D) Kb.info rfl rfl rfl rfl HD9.out (Kb.arr_size _) (Kb.arr_size _) hone9 ?_
        go_wp2_with fail
        go_roundw
        case rel => exact ⟨j + 1, c, ps', by omega, by go_num, boxed_below HW9.out (by omega), boxed_at hz9, ((HK9.out.boxed (.inl (Nat.lt_succ_self _))).more (Nat.le_refl _) (by rw [boxed_size]; exact Nat.le_refl _)), HP9.out.more (by omega) (by omega), by omega, boxed_old (by omega) ((HB9.out.block _ (by omega)).trans HX.out), boxed_old (by omega) ((HB9.out.block _ (by omega)).trans HY.out)⟩
        case measure => simp [intOf]; omega
      · have dx : (x == 0) = false := by simpa using hx
        go_wp2_with fail
        go_roundw
        case rel => exact ⟨j + 1, b, ps, by omega, by go_num, HW9.out, HD9.out, (HK.out.below HB9.out).more (Nat.le_refl _) HB9.out.size, HP.out.more (by omega) (by omega), by omega, (HB9.out.block _ (by omega)).trans HX.out, (HB9.out.block _ (by omega)).trans HY.out⟩
        case measure => simp [intOf]; omega
    case neg =>
      obtain rfl : j = n := by omega
      have dlt : decide ((j : Int) < (j : Int)) = false := by simp
      have hzr : D < wr.heap.size := (Array.getElem?_eq_some_iff.1 HD.out).1
      have hzy : w.heap.size + 1 < wr.heap.size := (Array.getElem?_eq_some_iff.1 HY.out).1
      have HLN : Hid (∀ k, k < 32 → (b.a k).l.length ≤ 9000) := HP.out.lens (by omega)
      have HLE : Hid ((asksK b.a 32).length ≤ 100000000) := Nat.le_trans (asksK_len (m := 9000) HLN.out 32 (Nat.le_refl _)) (by omega)
      have HASK : Hid (∀ m ∈ asksK b.a 32, (∃ j : Nat, j < 32 ∧ m.s = (j : Int)) ∧ 0 ≤ m.t ∧ m.t ≤ 1000000) := HP.out.asked (by omega)
      have HBS : Hid (Kbe.BSm b.td ps b.a) := HP.out.bsm (by omega) (by omega)
      go_wp2_with (((with_reducible_and_instances (show wpList _ _ _ (Oper.mk _ (Op.load 35 _) _ _ _ _ :: _) _ _)); refine stop_here ?_))
      refine ⟨?_⟩
      refine wl_load (cs := b.arr) (fr := (0, 0)) (g := D) Tryz.underlying35 rfl Kb.info rfl rfl rfl HD.out (Kb.arr_size _) ?_
      go_wp2_with fail
      refine (encode_any (HK.out.more (Nat.zero_le _) (Nat.le_refl _)) HBS.out).mono ?_
      rintro e w9 hO
      obtain ⟨A9, n9, c9, rfl, HN9, _, HB9, HR9, _, _⟩ := hO.open_
      have hcv := conv_len w9 A9 _ c9 n9 _ HR9.out HN9.out
      have HW9 : Hid (Below w.heap.size w w9) := HW.out.trans (HB9.out.mono HW.out.size)
      have HD9 : Hid (w9.heap[D]? = some (.cells b.arr 35 (0, 0))) := (HB9.out.block D hzr).trans HD.out
      have HX9 : Hid (w9.heap[w.heap.size]? = some (.cells #[.int .u8 Kx, .int .u8 Ax, .int .u8 Bx, .int .u8 Cx] 51 (0, 0))) := (HB9.out.block _ (by omega)).trans HX.out
      have HY9 : Hid (w9.heap[w.heap.size + 1]? = some (.cells #[.int .u8 Ky, .int .u8 Ay, .int .u8 By, .int .u8 Cy] 51 (0, 0))) := (HB9.out.block _ hzy).trans HY.out
      have HK9 : Hid (KbM w9 (D + 1) w9.heap.size b ps) := (HK.out.below HB9.out).more (Nat.le_refl _) HB9.out.size
      have hz9 : D < w9.heap.size := (Array.getElem?_eq_some_iff.1 HD9.out).1
      have hz9y : w.heap.size + 1 < w9.heap.size := (Array.getElem?_eq_some_iff.1 HY9.out).1
      clear hO HB9 HR9 HN9 HW HD HX HY HK hzr hzy
      rename Hid (KbM w9 (D + 1) w9.heap.size b ps) => HK
      obtain ⟨EB, hEB⟩ : ∃ EB, bst (Pk.encs (Kbe.book b.td ps b.a)) = EB := ⟨_, rfl⟩
      rw [hEB] at hcv
      have HEB := Lib.hid hEB
      clear hEB
      have HS : Hid (∀ V, Below w9.heap.size w9 V → (fun w' : World => w'.heap[D]? = some (.cells b.arr 35 (0, 0)) ∧ w'.rangeAt (w.heap.size) 0 (Ac4.cs ⟨Kx, Ax, Bx, Cx⟩)) V) := fun V hV => ⟨(hV.block D hz9).trans HD9.out, fun i v hv => by rw [cell_of_row _ _ _ _ _ _ ((hV.block _ (by omega)).trans HX9.out), Nat.zero_add, ← Array.getElem?_toList]; exact hv⟩
      go_upto_region 11 with fail
      clear hcv
      apply region_frame5 (fun Z c x v o w' => Hid (Below w9.heap.size w9 w') ∧ Hid (w'.heap[Z]? = some (.cells c.arr 35 (0, 0))) ∧ w9.heap.size ≤ Z ∧ Z < w'.heap.size ∧ Hid (∃ ps', KbM w' (D + 1) w'.heap.size c ps' ∧ PBok ((1100000000 * (j : Int)) + 1100000000) ((40 * (j : Int) + 1) + 40) c.td c.a ps' ∧ c.td ≤ b.td + 40) ∧ Hid (OForm o))
      · skip
        refine lane_start (ord := [0, 1, 2, 3, 4, 5, 6, 7, 8, 9, 10, 11]) (S := (fun w' : World => w'.heap[D]? = some (.cells b.arr 35 (0, 0)) ∧ w'.rangeAt (w.heap.size) 0 (Ac4.cs ⟨Kx, Ax, Bx, Cx⟩))) rfl (by kernel_rfl) (by exact HS.out _ (Below.refl _ w9).drew) (fun _ => ?_)
        obtain ⟨V0, hV0⟩ : ∃ V0, w9.drew = V0 := ⟨_, rfl⟩
        have HB0 : Hid (Below w9.heap.size w9 V0) := by rw [← hV0]; exact (Below.refl _ w9).drew
        rw [hV0]
        clear hV0
        refine lane_take (v := .agg b.arr) rfl (by kernel_rfl) (by kernel_rfl) (by rfl) (fun W hSw => exec_load rfl rfl (by
          have h9 := run_loadAt_mid (P := Tryz.prog) W D 0 35 _ _ (Kb.range_all hSw.1) Tryz.underlying35 rfl Kb.info_all
          (try rw [Array.toArray_toList] at h9)
          exact h9)) (by exact HS.out _ HB0.out) ?_
        simp only [Act.put, List.setIfInBounds_toArray, List.set_cons_zero, List.set_cons_succ]
        refine lane_take (v := .agg #[.int .u8 Kx, .int .u8 Ax, .int .u8 Bx, .int .u8 Cx]) rfl (by kernel_rfl) (by kernel_rfl) (by rfl) (fun W hSw => exec_load rfl rfl (by
          have h9 := run_loadAt_mid (P := Tryz.prog) W w.heap.size 0 51 _ _ (hSw.2) Tryz.underlying51 rfl info4a
          (try rw [Array.toArray_toList] at h9)
          exact h9)) (by exact HS.out _ HB0.out) ?_
        simp only [Act.put, List.setIfInBounds_toArray, List.set_cons_zero, List.set_cons_succ]
        refine lane_take (v := .agg b.arr) rfl (by kernel_rfl) (by kernel_rfl) (by rfl) (fun W hSw => exec_load rfl rfl (by
          have h9 := run_loadAt_mid (P := Tryz.prog) W D 0 35 _ _ (Kb.range_all hSw.1) Tryz.underlying35 rfl Kb.info_all
          (try rw [Array.toArray_toList] at h9)
          exact h9)) (by exact HS.out _ HB0.out) ?_
        simp only [Act.put, List.setIfInBounds_toArray, List.set_cons_zero, List.set_cons_succ]
        refine lane_two (i := 3) (j := 9) (ordI := [4, 5, 6, 7, 8, 9, 10, 11]) (ordJ := [3, 4, 5, 6, 7, 8, 10, 11]) rfl rfl (by kernel_rfl) rfl (by rfl) (by rfl) (fun KK hK => ?_) (fun KK hK => ?_)
        · skip
          go_simp
          refine (bkasks_any ((HK.out.below HB0.out).more (Nat.zero_le _) HB0.out.size) (fun k hk => by have := HLN.out k hk; omega)).mono ?_
          rintro e V1 ⟨v1, rfl, ho1, hb1⟩
          have HB1 : Hid (Below w9.heap.size w9 V1) := HB0.out.trans (hb1.mono HB0.out.size)
          have HN : Hid (Nvs V1 0 V1.heap.size v1 (asksK b.a 32)) := (Nvs.own ho1).more (Nat.zero_le _) (Nat.le_refl _)
          clear ho1 hb1
          refine hK _ _ (HS.out _ HB1.out) (fun _ => ?_)
          clear hK KK
          refine lane_two (i := 4) (j := 9) (ordI := [5, 6, 7, 8, 9, 10, 11]) (ordJ := [4, 5, 6, 7, 8, 10, 11]) rfl rfl (by kernel_rfl) rfl (by rfl) (by rfl) (fun KK hK => ?_) (fun KK hK => ?_)
          · skip
            go_simp
            refine (order_any Kx Ax Bx Cx x00 ⟨x10, x11⟩ ⟨x20, x21⟩ ⟨x30, x31⟩ HN.out HLE.out HASK.out).mono ?_
            rintro e V2 ⟨o, rfl, ho, hb2⟩
            have HO := Lib.hid ho
            have HB2 : Hid (Below w9.heap.size w9 V2) := HB1.out.trans (hb2.mono HB1.out.size)
            clear ho hb2
            refine hK _ _ (HS.out _ HB2.out) (fun _ => ?_)
            clear hK KK
            refine lane_two (i := 5) (j := 9) (ordI := [6, 7, 8, 9, 10, 11]) (ordJ := [5, 6, 7, 8, 10, 11]) rfl rfl (by kernel_rfl) rfl (by rfl) (by rfl) (fun KK hK => ?_) (fun KK hK => ?_)
            · skip
              go_simp
              refine (step_allz HP.out ((HK.out.below HB2.out).more (Nat.zero_le _) HB2.out.size) (by omega) (by omega) (by omega) HO.out).mono ?_
              rintro e V3 ⟨c, x, rfl, hone, hc, hb3⟩
              have HB3 : Hid (Below w9.heap.size w9 V3) := HB2.out.trans (hb3.mono HB2.out.size)
              have hD3 : D + 1 ≤ V2.heap.size := by have := HB2.out.size; omega
              clear hb3
              refine hK _ _ (HS.out _ HB3.out) (fun _ => ?_)
              clear hK KK
              iterate 3 (refine lane_take (v := ?_) rfl (by kernel_rfl) (by kernel_rfl) (by rfl) ?_ (by exact HS.out _ HB3.out) ?_; rotate_left; (focus (intro W hSw; go_simp; try (with_reducible rfl))); simp only [Act.put, List.setIfInBounds_toArray, List.set_cons_zero, List.set_cons_succ])
              refine lane_alone rfl (by kernel_rfl) (by rfl) (fun KK hK => ?_)
              go_simp
              obtain ⟨A4, hA4⟩ : ∃ A, V3.alloc (.cells Tryz.zeroCells35 35) = A := ⟨_, rfl⟩
              have HA4 : Hid (Below w9.heap.size w9 A4) := by rw [← hA4]; exact HB3.out.alloc HB3.out.size _
              have HZ : Hid (A4.heap[V3.heap.size]? = some (.cells Tryz.zeroCells35 35 (0, 0))) := by rw [← hA4]; exact alloc_at rfl
              have hZl : V3.heap.size < A4.heap.size := by rw [← hA4]; simp
              have hZg : w9.heap.size ≤ V3.heap.size := HB3.out.size
              have hbA : Below V3.heap.size V3 A4 := by rw [← hA4]; exact (Below.refl _ _).alloc (Nat.le_refl _) _
              rw [hA4]
              have HC : Hid (Camz (1100000000 * (j : Int)) (40 * (j : Int) + 1) b o D V3.heap.size c x A4) := (Stepz.camz hc hD3 (.inr (Nat.le_refl _))).below hbA
              clear hc
              obtain ⟨Z, hZe⟩ : ∃ Z, V3.heap.size = Z := ⟨_, rfl⟩
              rw [hZe] at HZ hZl hZg HC ⊢
              clear hA4 hbA hZe
              refine hK _ _ (HS.out _ HA4.out) (fun _ => ?_)
              clear hK KK
              refine lane_alone rfl (by kernel_rfl) (by rfl) (fun KK hK => ?_)
              refine wp_store_row 35 _ _ rfl Z c.arr rfl rfl 35 _ HZ.out (by rw [Kb.arr_size]; exact Kb.info) (by rw [Kb.arr_size]; exact Kb.zero_size) hone.arr ?_
              rw [row_boxed HZ.out]
              have HB9 : Hid (Below w9.heap.size w9 (boxed A4 Z c.arr 35)) := boxed_below HA4.out hZg
              refine hK _ _ (HS.out _ HB9.out) (fun _ => ?_)
              clear hK KK
              iterate 1 (refine lane_take (v := ?_) rfl (by kernel_rfl) (by kernel_rfl) (by rfl) ?_ (by exact HS.out _ HB9.out) ?_; rotate_left; (focus (intro W hSw; go_simp; try (with_reducible rfl))); simp only [Act.put, List.setIfInBounds_toArray, List.set_cons_zero, List.set_cons_succ])
              refine lane_end (by kernel_rfl) ?_
              exact ⟨rfl, Z, c, x, v1, o, rfl, HB9, boxed_at hZl, hZg, by rw [boxed_size]; exact hZl, HC.out.boxed, HO⟩
            · skip
              go_simp
              obtain ⟨A5, hA5⟩ : ∃ A, V2.alloc (.cells Tryz.zeroCells35 35) = A := ⟨_, rfl⟩
              have HA5 : Hid (Below w9.heap.size w9 A5) := by rw [← hA5]; exact HB2.out.alloc HB2.out.size _
              have HZ : Hid (A5.heap[V2.heap.size]? = some (.cells Tryz.zeroCells35 35 (0, 0))) := by rw [← hA5]; exact alloc_at rfl
              have hZl : V2.heap.size < A5.heap.size := by rw [← hA5]; simp
              have hZg : w9.heap.size ≤ V2.heap.size := HB2.out.size
              have hbA : Below V2.heap.size V2 A5 := by rw [← hA5]; exact (Below.refl _ _).alloc (Nat.le_refl _) _
              rw [hA5]
              obtain ⟨Z, hZe⟩ : ∃ Z, V2.heap.size = Z := ⟨_, rfl⟩
              rw [hZe] at HZ hZl hZg ⊢
              clear hA5 hbA hZe
              refine hK _ _ (HS.out _ HA5.out) (fun _ => ?_)
              clear hK KK
              refine lane_alone rfl (by kernel_rfl) (by rfl) (fun KK hK => ?_)
              go_simp
              refine (step_allz HP.out ((HK.out.below HA5.out).more (Nat.zero_le _) HA5.out.size) (by omega) (by omega) (by omega) HO.out).mono ?_
              rintro e V6 ⟨c, x, rfl, hone, hc, hb6⟩
              have HB6 : Hid (Below w9.heap.size w9 V6) := HA5.out.trans (hb6.mono HA5.out.size)
              have hD6 : D + 1 ≤ A5.heap.size := by have := HA5.out.size; omega
              have HC : Hid (Camz (1100000000 * (j : Int)) (40 * (j : Int) + 1) b o D Z c x V6) := Stepz.camz hc hD6 (.inl hZl)
              clear hc
              have HZ : Hid (V6.heap[Z]? = _) := (hb6.block Z (by omega)).trans HZ.out
              have hZl : Z < V6.heap.size := by have := hb6.size; omega
              clear hb6
              refine hK _ _ (HS.out _ HB6.out) (fun _ => ?_)
              clear hK KK
              iterate 3 (refine lane_take (v := ?_) rfl (by kernel_rfl) (by kernel_rfl) (by rfl) ?_ (by exact HS.out _ HB6.out) ?_; rotate_left; (focus (intro W hSw; go_simp; try (with_reducible rfl))); simp only [Act.put, List.setIfInBounds_toArray, List.set_cons_zero, List.set_cons_succ])
              refine lane_alone rfl (by kernel_rfl) (by rfl) (fun KK hK => ?_)
              refine wp_store_row 35 _ _ rfl Z c.arr rfl rfl 35 _ HZ.out (by rw [Kb.arr_size]; exact Kb.info) (by rw [Kb.arr_size]; exact Kb.zero_size) hone.arr ?_
              rw [row_boxed HZ.out]
              have HB9 : Hid (Below w9.heap.size w9 (boxed V6 Z c.arr 35)) := boxed_below HB6.out hZg
              refine hK _ _ (HS.out _ HB9.out) (fun _ => ?_)
              clear hK KK
              iterate 1 (refine lane_take (v := ?_) rfl (by kernel_rfl) (by kernel_rfl) (by rfl) ?_ (by exact HS.out _ HB9.out) ?_; rotate_left; (focus (intro W hSw; go_simp; try (with_reducible rfl))); simp only [Act.put, List.setIfInBounds_toArray, List.set_cons_zero, List.set_cons_succ])
              refine lane_end (by kernel_rfl) ?_
              exact ⟨rfl, Z, c, x, v1, o, rfl, HB9, boxed_at hZl, hZg, by rw [boxed_size]; exact hZl, HC.out.boxed, HO⟩
          · skip
            go_simp
            obtain ⟨A8, hA8⟩ : ∃ A, V1.alloc (.cells Tryz.zeroCells35 35) = A := ⟨_, rfl⟩
            have HA8 : Hid (Below w9.heap.size w9 A8) := by rw [← hA8]; exact HB1.out.alloc HB1.out.size _
            have HZ : Hid (A8.heap[V1.heap.size]? = some (.cells Tryz.zeroCells35 35 (0, 0))) := by rw [← hA8]; exact alloc_at rfl
            have hZl : V1.heap.size < A8.heap.size := by rw [← hA8]; simp
            have hZg : w9.heap.size ≤ V1.heap.size := HB1.out.size
            have hbA : Below V1.heap.size V1 A8 := by rw [← hA8]; exact (Below.refl _ _).alloc (Nat.le_refl _) _
            rw [hA8]
            have HN : Hid (Nvs A8 0 A8.heap.size v1 (asksK b.a 32)) := (HN.out.below hbA).more (Nat.zero_le _) hbA.size
            obtain ⟨Z, hZe⟩ : ∃ Z, V1.heap.size = Z := ⟨_, rfl⟩
            rw [hZe] at HZ hZl hZg ⊢
            clear hA8 hbA hZe
            refine hK _ _ (HS.out _ HA8.out) (fun _ => ?_)
            clear hK KK
            refine lane_alone rfl (by kernel_rfl) (by rfl) (fun KK hK => ?_)
            go_simp
            refine (order_any Kx Ax Bx Cx x00 ⟨x10, x11⟩ ⟨x20, x21⟩ ⟨x30, x31⟩ HN.out HLE.out HASK.out).mono ?_
            rintro e V9 ⟨o, rfl, ho, hb9⟩
            have HO := Lib.hid ho
            have HB9 : Hid (Below w9.heap.size w9 V9) := HA8.out.trans (hb9.mono HA8.out.size)
            have HZ : Hid (V9.heap[Z]? = _) := (hb9.block Z (by omega)).trans HZ.out
            have hZl : Z < V9.heap.size := by have := hb9.size; omega
            clear ho hb9
            refine hK _ _ (HS.out _ HB9.out) (fun _ => ?_)
            clear hK KK
            refine lane_alone rfl (by kernel_rfl) (by rfl) (fun KK hK => ?_)
            go_simp
            refine (step_allz HP.out ((HK.out.below HB9.out).more (Nat.zero_le _) HB9.out.size) (by omega) (by omega) (by omega) HO.out).mono ?_
            rintro e V10 ⟨c, x, rfl, hone, hc, hb10⟩
            have HB10 : Hid (Below w9.heap.size w9 V10) := HB9.out.trans (hb10.mono HB9.out.size)
            have hD10 : D + 1 ≤ V9.heap.size := by have := HB9.out.size; omega
            have HC : Hid (Camz (1100000000 * (j : Int)) (40 * (j : Int) + 1) b o D Z c x V10) := Stepz.camz hc hD10 (.inl hZl)
            clear hc
            have HZ : Hid (V10.heap[Z]? = _) := (hb10.block Z (by omega)).trans HZ.out
            have hZl : Z < V10.heap.size := by have := hb10.size; omega
            clear hb10
            refine hK _ _ (HS.out _ HB10.out) (fun _ => ?_)
            clear hK KK
            iterate 3 (refine lane_take (v := ?_) rfl (by kernel_rfl) (by kernel_rfl) (by rfl) ?_ (by exact HS.out _ HB10.out) ?_; rotate_left; (focus (intro W hSw; go_simp; try (with_reducible rfl))); simp only [Act.put, List.setIfInBounds_toArray, List.set_cons_zero, List.set_cons_succ])
            refine lane_alone rfl (by kernel_rfl) (by rfl) (fun KK hK => ?_)
            refine wp_store_row 35 _ _ rfl Z c.arr rfl rfl 35 _ HZ.out (by rw [Kb.arr_size]; exact Kb.info) (by rw [Kb.arr_size]; exact Kb.zero_size) hone.arr ?_
            rw [row_boxed HZ.out]
            have HB9 : Hid (Below w9.heap.size w9 (boxed V10 Z c.arr 35)) := boxed_below HB10.out hZg
            refine hK _ _ (HS.out _ HB9.out) (fun _ => ?_)
            clear hK KK
            iterate 1 (refine lane_take (v := ?_) rfl (by kernel_rfl) (by kernel_rfl) (by rfl) ?_ (by exact HS.out _ HB9.out) ?_; rotate_left; (focus (intro W hSw; go_simp; try (with_reducible rfl))); simp only [Act.put, List.setIfInBounds_toArray, List.set_cons_zero, List.set_cons_succ])
            refine lane_end (by kernel_rfl) ?_
            exact ⟨rfl, Z, c, x, v1, o, rfl, HB9, boxed_at hZl, hZg, by rw [boxed_size]; exact hZl, HC.out.boxed, HO⟩
        · skip
          go_simp
          obtain ⟨A12, hA12⟩ : ∃ A, V0.alloc (.cells Tryz.zeroCells35 35) = A := ⟨_, rfl⟩
          have HA12 : Hid (Below w9.heap.size w9 A12) := by rw [← hA12]; exact HB0.out.alloc HB0.out.size _
          have HZ : Hid (A12.heap[V0.heap.size]? = some (.cells Tryz.zeroCells35 35 (0, 0))) := by rw [← hA12]; exact alloc_at rfl
          have hZl : V0.heap.size < A12.heap.size := by rw [← hA12]; simp
          have hZg : w9.heap.size ≤ V0.heap.size := HB0.out.size
          have hbA : Below V0.heap.size V0 A12 := by rw [← hA12]; exact (Below.refl _ _).alloc (Nat.le_refl _) _
          rw [hA12]
          obtain ⟨Z, hZe⟩ : ∃ Z, V0.heap.size = Z := ⟨_, rfl⟩
          rw [hZe] at HZ hZl hZg ⊢
          clear hA12 hbA hZe
          refine hK _ _ (HS.out _ HA12.out) (fun _ => ?_)
          clear hK KK
          refine lane_alone rfl (by kernel_rfl) (by rfl) (fun KK hK => ?_)
          go_simp
          refine (bkasks_any ((HK.out.below HA12.out).more (Nat.zero_le _) HA12.out.size) (fun k hk => by have := HLN.out k hk; omega)).mono ?_
          rintro e V13 ⟨v1, rfl, ho13, hb13⟩
          have HB13 : Hid (Below w9.heap.size w9 V13) := HA12.out.trans (hb13.mono HA12.out.size)
          have HN : Hid (Nvs V13 0 V13.heap.size v1 (asksK b.a 32)) := (Nvs.own ho13).more (Nat.zero_le _) (Nat.le_refl _)
          have HZ : Hid (V13.heap[Z]? = _) := (hb13.block Z (by omega)).trans HZ.out
          have hZl : Z < V13.heap.size := by have := hb13.size; omega
          clear ho13 hb13
          refine hK _ _ (HS.out _ HB13.out) (fun _ => ?_)
          clear hK KK
          refine lane_alone rfl (by kernel_rfl) (by rfl) (fun KK hK => ?_)
          go_simp
          refine (order_any Kx Ax Bx Cx x00 ⟨x10, x11⟩ ⟨x20, x21⟩ ⟨x30, x31⟩ HN.out HLE.out HASK.out).mono ?_
          rintro e V14 ⟨o, rfl, ho, hb14⟩
          have HO := Lib.hid ho
          have HB14 : Hid (Below w9.heap.size w9 V14) := HB13.out.trans (hb14.mono HB13.out.size)
          have HZ : Hid (V14.heap[Z]? = _) := (hb14.block Z (by omega)).trans HZ.out
          have hZl : Z < V14.heap.size := by have := hb14.size; omega
          clear ho hb14
          refine hK _ _ (HS.out _ HB14.out) (fun _ => ?_)
          clear hK KK
          refine lane_alone rfl (by kernel_rfl) (by rfl) (fun KK hK => ?_)
          go_simp
          refine (step_allz HP.out ((HK.out.below HB14.out).more (Nat.zero_le _) HB14.out.size) (by omega) (by omega) (by omega) HO.out).mono ?_
          rintro e V15 ⟨c, x, rfl, hone, hc, hb15⟩
          have HB15 : Hid (Below w9.heap.size w9 V15) := HB14.out.trans (hb15.mono HB14.out.size)
          have hD15 : D + 1 ≤ V14.heap.size := by have := HB14.out.size; omega
          have HC : Hid (Camz (1100000000 * (j : Int)) (40 * (j : Int) + 1) b o D Z c x V15) := Stepz.camz hc hD15 (.inl hZl)
          clear hc
          have HZ : Hid (V15.heap[Z]? = _) := (hb15.block Z (by omega)).trans HZ.out
          have hZl : Z < V15.heap.size := by have := hb15.size; omega
          clear hb15
          refine hK _ _ (HS.out _ HB15.out) (fun _ => ?_)
          clear hK KK
          iterate 3 (refine lane_take (v := ?_) rfl (by kernel_rfl) (by kernel_rfl) (by rfl) ?_ (by exact HS.out _ HB15.out) ?_; rotate_left; (focus (intro W hSw; go_simp; try (with_reducible rfl))); simp only [Act.put, List.setIfInBounds_toArray, List.set_cons_zero, List.set_cons_succ])
          refine lane_alone rfl (by kernel_rfl) (by rfl) (fun KK hK => ?_)
          refine wp_store_row 35 _ _ rfl Z c.arr rfl rfl 35 _ HZ.out (by rw [Kb.arr_size]; exact Kb.info) (by rw [Kb.arr_size]; exact Kb.zero_size) hone.arr ?_
          rw [row_boxed HZ.out]
          have HB9 : Hid (Below w9.heap.size w9 (boxed V15 Z c.arr 35)) := boxed_below HB15.out hZg
          refine hK _ _ (HS.out _ HB9.out) (fun _ => ?_)
          clear hK KK
          iterate 1 (refine lane_take (v := ?_) rfl (by kernel_rfl) (by kernel_rfl) (by rfl) ?_ (by exact HS.out _ HB9.out) ?_; rotate_left; (focus (intro W hSw; go_simp; try (with_reducible rfl))); simp only [Act.put, List.setIfInBounds_toArray, List.set_cons_zero, List.set_cons_succ])
          refine lane_end (by kernel_rfl) ?_
          exact ⟨rfl, Z, c, x, v1, o, rfl, HB9, boxed_at hZl, hZg, by rw [boxed_size]; exact hZl, HC.out.boxed, HO⟩
      rintro Z c x v o w10 ⟨HB10, HZ10, hz1, hz2, HC10, _⟩
      clear HS
      obtain ⟨pc, hkc, hpc, htc⟩ := HC10.out
      have HKC := Lib.hid hkc
      have HPC := Lib.hid hpc
      clear hkc hpc HC10
      have HLNC : Hid (∀ k, k < 32 → (c.a k).l.length ≤ 9000) := HPC.out.lens (by omega)
      have HLEC : Hid ((asksK c.a 32).length ≤ 100000000) := Nat.le_trans (asksK_len (m := 9000) HLNC.out 32 (Nat.le_refl _)) (by omega)
      have HASKC : Hid (∀ m ∈ asksK c.a 32, (∃ j : Nat, j < 32 ∧ m.s = (j : Int)) ∧ 0 ≤ m.t ∧ m.t ≤ 1000000) := HPC.out.asked (by omega)
      have HW10 : Hid (Below w.heap.size w w10) := HW9.out.trans (HB10.out.mono HW9.out.size)
      have HD10 : Hid (w10.heap[D]? = some (.cells b.arr 35 (0, 0))) := (HB10.out.block D hz9).trans HD9.out
      have HY10 : Hid (w10.heap[w.heap.size + 1]? = some (.cells #[.int .u8 Ky, .int .u8 Ay, .int .u8 By, .int .u8 Cy] 51 (0, 0))) := (HB10.out.block _ hz9y).trans HY9.out
      have HKB : Hid (KbM w10 (D + 1) w10.heap.size b ps) := (HK.out.below HB10.out).more (Nat.le_refl _) HB10.out.size
      have hz10 : D < w10.heap.size := (Array.getElem?_eq_some_iff.1 HD10.out).1
      have hz10y : w.heap.size + 1 < w10.heap.size := (Array.getElem?_eq_some_iff.1 HY10.out).1
      have hs9 : w9.heap.size ≤ w10.heap.size := HB10.out.size
      clear HK HD9 HX9 HY9 HW9 HB10 hz9 hz9y
      have HS : Hid (∀ V, Below w10.heap.size w10 V → (fun w' : World => w'.heap[Z]? = some (.cells c.arr 35 (0, 0)) ∧ w'.rangeAt (w.heap.size + 1) 0 (Ac4.cs ⟨Ky, Ay, By, Cy⟩)) V) := fun V hV => ⟨(hV.block Z hz2).trans HZ10.out, fun i v hv => by rw [cell_of_row _ _ _ _ _ _ ((hV.block _ hz10y).trans HY10.out), Nat.zero_add, ← Array.getElem?_toList]; exact hv⟩
      go_upto_region 12 with fail
      apply region_frame4z (fun w' => Hid (Below w10.heap.size w10 w'))
      · skip
        refine lane_start (ord := [0, 1, 2, 3, 4, 5]) (S := (fun w' : World => w'.heap[Z]? = some (.cells c.arr 35 (0, 0)) ∧ w'.rangeAt (w.heap.size + 1) 0 (Ac4.cs ⟨Ky, Ay, By, Cy⟩))) rfl (by kernel_rfl) (by exact HS.out _ (Below.refl _ w10).drew) (fun _ => ?_)
        obtain ⟨V0, hV0⟩ : ∃ V0, w10.drew = V0 := ⟨_, rfl⟩
        have HB0 : Hid (Below w10.heap.size w10 V0) := by rw [← hV0]; exact (Below.refl _ w10).drew
        rw [hV0]
        clear hV0
        refine lane_take (v := .agg c.arr) rfl (by kernel_rfl) (by kernel_rfl) (by rfl) (fun W hSw => exec_load rfl rfl (by
          have h9 := run_loadAt_mid (P := Tryz.prog) W Z 0 35 _ _ (Kb.range_all hSw.1) Tryz.underlying35 rfl Kb.info_all
          (try rw [Array.toArray_toList] at h9)
          exact h9)) (by exact HS.out _ HB0.out) ?_
        simp only [Act.put, List.setIfInBounds_toArray, List.set_cons_zero, List.set_cons_succ]
        refine lane_take (v := .agg #[.int .u8 Ky, .int .u8 Ay, .int .u8 By, .int .u8 Cy]) rfl (by kernel_rfl) (by kernel_rfl) (by rfl) (fun W hSw => exec_load rfl rfl (by
          have h9 := run_loadAt_mid (P := Tryz.prog) W (w.heap.size + 1) 0 51 _ _ (hSw.2) Tryz.underlying51 rfl info4a
          (try rw [Array.toArray_toList] at h9)
          exact h9)) (by exact HS.out _ HB0.out) ?_
        simp only [Act.put, List.setIfInBounds_toArray, List.set_cons_zero, List.set_cons_succ]
        refine lane_take (v := .agg c.arr) rfl (by kernel_rfl) (by kernel_rfl) (by rfl) (fun W hSw => exec_load rfl rfl (by
          have h9 := run_loadAt_mid (P := Tryz.prog) W Z 0 35 _ _ (Kb.range_all hSw.1) Tryz.underlying35 rfl Kb.info_all
          (try rw [Array.toArray_toList] at h9)
          exact h9)) (by exact HS.out _ HB0.out) ?_
        simp only [Act.put, List.setIfInBounds_toArray, List.set_cons_zero, List.set_cons_succ]
        refine lane_alone rfl (by kernel_rfl) (by rfl) (fun KK hK => ?_)
        go_simp
        refine (bkasks_any ((HKC.out.below HB0.out).more (Nat.zero_le _) HB0.out.size) (fun k hk => by have := HLNC.out k hk; omega)).mono ?_
        rintro e V1 ⟨v1, rfl, ho1, hb1⟩
        have HB1 : Hid (Below w10.heap.size w10 V1) := HB0.out.trans (hb1.mono HB0.out.size)
        have HN : Hid (Nvs V1 0 V1.heap.size v1 (asksK c.a 32)) := (Nvs.own ho1).more (Nat.zero_le _) (Nat.le_refl _)
        clear ho1 hb1
        refine hK _ _ (HS.out _ HB1.out) (fun _ => ?_)
        clear hK KK
        refine lane_alone rfl (by kernel_rfl) (by rfl) (fun KK hK => ?_)
        go_simp
        refine (order_any Ky Ay By Cy y00 ⟨y10, y11⟩ ⟨y20, y21⟩ ⟨y30, y31⟩ HN.out HLEC.out HASKC.out).mono ?_
        rintro e V2 ⟨o, rfl, ho, hb2⟩
        have HO := Lib.hid ho
        have HB2 : Hid (Below w10.heap.size w10 V2) := HB1.out.trans (hb2.mono HB1.out.size)
        clear ho hb2
        refine hK _ _ (HS.out _ HB2.out) (fun _ => ?_)
        clear hK KK
        refine lane_alone rfl (by kernel_rfl) (by rfl) (fun KK hK => ?_)
        go_simp
        refine (step_allz HPC.out ((HKC.out.below HB2.out).more (Nat.zero_le _) HB2.out.size) (by omega) (by omega) (by omega) HO.out).mono ?_
        rintro e V3 ⟨c2, x2, rfl, hone, hc, hb3⟩
        have HB3 : Hid (Below w10.heap.size w10 V3) := HB2.out.trans (hb3.mono HB2.out.size)
        clear hb3 hc
        refine hK _ _ (HS.out _ HB3.out) (fun _ => ?_)
        clear hK KK
        refine lane_end (by kernel_rfl) ?_
        exact ⟨rfl, v1, o, c2, x2, rfl, HB3⟩
      rintro v2 o2 c2 x2 w11 HB11
      have HW11 : Hid (Below w.heap.size w w11) := HW10.out.trans (HB11.out.mono HW10.out.size)
      have HD11 : Hid (w11.heap[D]? = some (.cells b.arr 35 (0, 0))) := (HB11.out.block D hz10).trans HD10.out
      have HY11 : Hid (w11.heap[w.heap.size + 1]? = some (.cells #[.int .u8 Ky, .int .u8 Ay, .int .u8 By, .int .u8 Cy] 51 (0, 0))) := (HB11.out.block _ hz10y).trans HY10.out
      have HKB1 : Hid (KbM w11 (D + 1) w11.heap.size b ps) := (HKB.out.below HB11.out).more (Nat.le_refl _) HB11.out.size
      have hz11 : D < w11.heap.size := (Array.getElem?_eq_some_iff.1 HD11.out).1
      have hz11y : w.heap.size + 1 < w11.heap.size := (Array.getElem?_eq_some_iff.1 HY11.out).1
      clear HS HKB HD10 HY10 HW10 HB11 hz10 hz10y HZ10 HKC HPC HLNC HLEC HASKC
      have HS : Hid (∀ V, Below w11.heap.size w11 V → (fun w' : World => w'.heap[D]? = some (.cells b.arr 35 (0, 0)) ∧ w'.rangeAt (w.heap.size + 1) 0 (Ac4.cs ⟨Ky, Ay, By, Cy⟩)) V) := fun V hV => ⟨(hV.block D hz11).trans HD11.out, fun i v hv => by rw [cell_of_row _ _ _ _ _ _ ((hV.block _ hz11y).trans HY11.out), Nat.zero_add, ← Array.getElem?_toList]; exact hv⟩
      go_upto_region 13 with fail
      apply region_frame4z (fun w' => Hid (Below w11.heap.size w11 w'))
      · skip
        refine lane_start (ord := [0, 1, 2, 3, 4, 5]) (S := (fun w' : World => w'.heap[D]? = some (.cells b.arr 35 (0, 0)) ∧ w'.rangeAt (w.heap.size + 1) 0 (Ac4.cs ⟨Ky, Ay, By, Cy⟩))) rfl (by kernel_rfl) (by exact HS.out _ (Below.refl _ w11).drew) (fun _ => ?_)
        obtain ⟨V0, hV0⟩ : ∃ V0, w11.drew = V0 := ⟨_, rfl⟩
        have HB0 : Hid (Below w11.heap.size w11 V0) := by rw [← hV0]; exact (Below.refl _ w11).drew
        rw [hV0]
        clear hV0
        refine lane_take (v := .agg b.arr) rfl (by kernel_rfl) (by kernel_rfl) (by rfl) (fun W hSw => exec_load rfl rfl (by
          have h9 := run_loadAt_mid (P := Tryz.prog) W D 0 35 _ _ (Kb.range_all hSw.1) Tryz.underlying35 rfl Kb.info_all
          (try rw [Array.toArray_toList] at h9)
          exact h9)) (by exact HS.out _ HB0.out) ?_
        simp only [Act.put, List.setIfInBounds_toArray, List.set_cons_zero, List.set_cons_succ]
        refine lane_take (v := .agg #[.int .u8 Ky, .int .u8 Ay, .int .u8 By, .int .u8 Cy]) rfl (by kernel_rfl) (by kernel_rfl) (by rfl) (fun W hSw => exec_load rfl rfl (by
          have h9 := run_loadAt_mid (P := Tryz.prog) W (w.heap.size + 1) 0 51 _ _ (hSw.2) Tryz.underlying51 rfl info4a
          (try rw [Array.toArray_toList] at h9)
          exact h9)) (by exact HS.out _ HB0.out) ?_
        simp only [Act.put, List.setIfInBounds_toArray, List.set_cons_zero, List.set_cons_succ]
        refine lane_take (v := .agg b.arr) rfl (by kernel_rfl) (by kernel_rfl) (by rfl) (fun W hSw => exec_load rfl rfl (by
          have h9 := run_loadAt_mid (P := Tryz.prog) W D 0 35 _ _ (Kb.range_all hSw.1) Tryz.underlying35 rfl Kb.info_all
          (try rw [Array.toArray_toList] at h9)
          exact h9)) (by exact HS.out _ HB0.out) ?_
        simp only [Act.put, List.setIfInBounds_toArray, List.set_cons_zero, List.set_cons_succ]
        refine lane_alone rfl (by kernel_rfl) (by rfl) (fun KK hK => ?_)
        go_simp
        refine (bkasks_any ((HKB1.out.below HB0.out).more (Nat.zero_le _) HB0.out.size) (fun k hk => by have := HLN.out k hk; omega)).mono ?_
        rintro e V1 ⟨v1, rfl, ho1, hb1⟩
        have HB1 : Hid (Below w11.heap.size w11 V1) := HB0.out.trans (hb1.mono HB0.out.size)
        have HN : Hid (Nvs V1 0 V1.heap.size v1 (asksK b.a 32)) := (Nvs.own ho1).more (Nat.zero_le _) (Nat.le_refl _)
        clear ho1 hb1
        refine hK _ _ (HS.out _ HB1.out) (fun _ => ?_)
        clear hK KK
        refine lane_alone rfl (by kernel_rfl) (by rfl) (fun KK hK => ?_)
        go_simp
        refine (order_any Ky Ay By Cy y00 ⟨y10, y11⟩ ⟨y20, y21⟩ ⟨y30, y31⟩ HN.out HLE.out HASK.out).mono ?_
        rintro e V2 ⟨o, rfl, ho, hb2⟩
        have HO := Lib.hid ho
        have HB2 : Hid (Below w11.heap.size w11 V2) := HB1.out.trans (hb2.mono HB1.out.size)
        clear ho hb2
        refine hK _ _ (HS.out _ HB2.out) (fun _ => ?_)
        clear hK KK
        refine lane_alone rfl (by kernel_rfl) (by rfl) (fun KK hK => ?_)
        go_simp
        refine (step_allz HP.out ((HKB1.out.below HB2.out).more (Nat.zero_le _) HB2.out.size) (by omega) (by omega) (by omega) HO.out).mono ?_
        rintro e V3 ⟨c2, x2, rfl, hone, hc, hb3⟩
        have HB3 : Hid (Below w11.heap.size w11 V3) := HB2.out.trans (hb3.mono HB2.out.size)
        clear hb3 hc
        refine hK _ _ (HS.out _ HB3.out) (fun _ => ?_)
        clear hK KK
        refine lane_end (by kernel_rfl) ?_
        exact ⟨rfl, v1, o, c2, x2, rfl, HB3⟩
      rintro v3 o3 c3 x3 w12 HB12
      have HW12 : Hid (Below w.heap.size w w12) := HW11.out.trans (HB12.out.mono HW11.out.size)
      have HD12 : Hid (w12.heap[D]? = some (.cells b.arr 35 (0, 0))) := (HB12.out.block D hz11).trans HD11.out
      have HKB2 : Hid (KbM w12 0 w12.heap.size b ps) := (HKB1.out.below HB12.out).more (Nat.zero_le _) HB12.out.size
      clear HS HKB1 HD11 HY11 HW11 HB12
      go_wp2_with (((with_reducible_and_instances (show wpList _ _ _ (Oper.mk _ (Op.load 35 _) _ _ _ _ :: _) _ _)); refine stop_here ?_))
      refine ⟨?_⟩
      refine wl_load (cs := b.arr) (fr := (0, 0)) (g := D) Tryz.underlying35 rfl Kb.info rfl rfl rfl HD12.out (Kb.arr_size _) ?_
      go_wp2_with fail
      refine (encode_any HKB2.out HBS.out).mono ?_
      rintro e w13 hO
      obtain ⟨A13, n13, c13, rfl, HN13, _, HB13, HR13, _, _⟩ := hO.open_
      have hcv := conv_len w13 A13 _ c13 n13 _ HR13.out HN13.out
      rw [HEB.out] at hcv
      clear hO
      go_wp2
      go_ret
      exact ⟨rfl, HW12.out.trans (HB13.out.mono HW12.out.size)⟩
end Go.Proofs.YtkdajjbhmmgbkaaGreat
