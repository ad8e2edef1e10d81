/-
  BookAsks: what all cycles ask; each of it is answered once. No conditions.
-/
import Derived.Test.YtkdajjbhmmgbkaaBa51
import Derived.Test.YtkdajjbhmmgbkaaBa52
set_option linter.unusedSimpArgs false
set_option linter.unusedVariables false
namespace Go.Proofs.Ytkdajjbhmmgbkaa
set_option linter.unusedVariables false
set_option linter.unusedSimpArgs false
set_option maxRecDepth 100000
open Go.ChangeShapes Go.WideShapes Go.ChangeAt Go.RowKit

theorem info6n : (Try.prog.info? 59).map (·.size) = some 6 := by kernel_rfl
theorem info8c : (Try.prog.info? 46).map (·.size) = some 8 := by kernel_rfl
set_option maxHeartbeats 16000000 in
theorem bookAsks_walk {w : World} (a0 : Int) (w0 : (Lit.int .u16 a0).wf = true) (A1 : Option Addr) (c1 : Nat) (l : List Ac4) (r1 : RdAc4 w w.heap.size A1 l) (w1 : ∀ p ∈ l, Ac4.Wf p) :
    Calls Try.prog 5 #[.int .u16 a0, .slice A1 l.length c1] w fun e w' => e = .returned (.bool true) ∧ Below w.heap.size w w' := by
  obtain ⟨h00, h01⟩ := wf_u16 w0
  have HRD := Lib.hid r1
  have HWF := Lib.hid w1
  obtain ⟨n, hn⟩ : ∃ n, l.length = n := ⟨_, rfl⟩
  rw [hn]
  have HN0 := Lib.hid hn
  clear r1 w1 hn
  go_enter Try.func5, Try.ntmps5
  go_wp2_with fail
  have HWB : Hid (Below w.heap.size w w) := Below.refl _ _
  refine (bkawake_any _).mono ?_
  rintro e u1 ⟨rfl, hb1⟩
  have HW1 : Hid (Below w.heap.size w u1) := HWB.out.trans (hb1.mono HWB.out.size)
  clear hb1 HWB
  by_cases hlong : 40 < n
  · have d1 : decide (40 < (n : Int)) = true := by simp; omega
    have d2 : decide ((n : Int) > 40) = true := by simp; omega
    go_wp2_with fail
    refine (bkawake_any _).mono ?_
    rintro e u2 ⟨rfl, hb2⟩
    go_wp2_with fail
    go_ret
    exact ⟨rfl, HW1.out.trans (hb2.mono HW1.out.size)⟩
  have d1 : decide (40 < (n : Int)) = false := by simp; omega
  have d2 : decide ((n : Int) > 40) = false := by simp; omega
  go_wp2_with fail
  refine (new_any (700000 + a0) _).mono ?_
  rintro e u2 ⟨rfl, hb2⟩
  have HW2 : Hid (Below w.heap.size w u2) := HW1.out.trans (hb2.mono HW1.out.size)
  clear hb2 HW1
  go_wp2_with (((with_reducible_and_instances (show wpList _ _ _ (Oper.mk _ (Op.store 53 _ _) _ _ _ _ :: _) _ _)); refine stop_here ?_))
  refine ⟨?_⟩
  refine wl_store (g := u2.heap.size) Kb.info rfl rfl rfl rfl (alloc_at rfl) Kb.zero_size (Kb.arr_size _) (Kb.new_one _).arr ?_
  obtain ⟨U1, hU1⟩ : ∃ U1, boxed (u2.alloc (.cells Try.zeroCells53 53)) u2.heap.size (Kb.new (700000 + a0)).arr 53 = U1 := ⟨_, rfl⟩
  have HD5 : Hid (U1.heap[u2.heap.size]? = some (.cells (Kb.new (700000 + a0)).arr 53 (0, 0))) := by rw [← hU1]; exact boxed_at (by simp)
  have HW5 : Hid (Below w.heap.size w U1) := by rw [← hU1]; exact boxed_below (HW2.out.alloc HW2.out.size _) HW2.out.size
  have hwD : w.heap.size ≤ u2.heap.size := HW2.out.size
  rw [hU1]
  clear hU1 HW2
  generalize u2.heap.size = D at *
  go_wp2_with fail
  go_loopw [6] (fun i wq => ∃ (j : Nat) (b : Kb) (ps : List Pv), j ≤ n ∧ i = .int .i64 j ∧ Hid (Below w.heap.size w wq) ∧ Hid (wq.heap[D]? = some (.cells b.arr 53 (0, 0))) ∧ Hid (KbM wq (D + 1) wq.heap.size b ps) ∧ Hid (PBok (1100000000 * (j : Int)) (40 * (j : Int) + 1) b.td b.a ps) ∧ b.td ≤ 800000 + 40 * (j : Int)) (fun i _ => n - (intOf i).toNat)
  case atStart => exact ⟨0, Kb.new (700000 + a0), [], by omega, rfl, HW5, HD5, new_km _ _ _ _, (new_ok (by omega)).more (by omega) (by omega), by show 700000 + a0 ≤ _; omega⟩
  case round =>
    clear HW5 HD5
    obtain ⟨j, b, ps, hj, rfl, HW, HD, HK, HP, htd⟩ := hrel
    by_cases hlt : j < n
    case pos =>
      have dlt : decide ((j : Int) < (n : Int)) = true := by simp; omega
      have hln := HN0.out
      obtain ⟨⟨K, A, B, C⟩, hact⟩ : ∃ p, l[j]? = some p := ⟨_, List.getElem?_eq_getElem (by omega)⟩
      obtain ⟨ab, ao, hAd, hab, hrd⟩ := HRD.out j _ hact
      subst hAd
      obtain ⟨⟨hk0, hk1⟩, ⟨hA0, hA1⟩, ⟨hB0, hB1⟩, ⟨hC0, hC1⟩⟩ := HWF.out _ (List.mem_of_getElem? hact)
      dsimp only at hk0 hk1 hA0 hA1 hB0 hB1 hC0 hC1
      have hzr : D < wr.heap.size := (Array.getElem?_eq_some_iff.1 HD.out).1
      have HS : Hid (∀ V, Below wr.heap.size wr V → (fun w' : World => w'.heap[D]? = some (.cells b.arr 53 (0, 0)) ∧ w'.rangeAt ab (ao + j * 4) (Ac4.cs ⟨K, A, B, C⟩)) V) := fun V hV => ⟨(hV.block D hzr).trans HD.out, fun i v hv => (World.cell?_of_block (a := ⟨ab, ao + j * 4 + i, none⟩) ((hV.block ab (by have := HW.out.size; omega)).trans (HW.out.block _ hab))).trans (hrd i v hv)⟩
      have hjI : (j : Int) < (n : Int) := by omega
      have hjJ : (0 : Int) ≤ (j : Int) := by omega
      clear hact hrd
      have HLN : Hid (∀ k, k < 32 → (b.a k).l.length ≤ 9000) := HP.out.lens (by omega)
      have HLE : Hid ((asksK b.a 32).length ≤ 100000000) := Nat.le_trans (asksK_len (m := 9000) HLN.out 32 (Nat.le_refl _)) (by omega)
      have HASK : Hid (∀ m ∈ asksK b.a 32, (∃ j : Nat, j < 32 ∧ m.s = (j : Int)) ∧ 0 ≤ m.t ∧ m.t ≤ 1000000) := HP.out.asked (by omega)
      go_upto_region 7 with fail
      apply region_frame5 (fun Z c x v o w' => Hid (Below wr.heap.size wr w') ∧ Hid (w'.heap[Z]? = some (.cells c.arr 53 (0, 0))) ∧ wr.heap.size ≤ Z ∧ Z < w'.heap.size ∧ Hid (x = 0 → ∃ ps', KbM w' (D + 1) w'.heap.size c ps' ∧ PBok ((1100000000 * (j : Int)) + 1100000000) ((40 * (j : Int) + 1) + 40) c.td c.a ps' ∧ Apart o b.td b.a c.td c.a) ∧ Hid (OForm o))
      · skip
        refine lane_start (ord := [0, 1, 2, 3, 4, 5, 6, 7, 8, 9, 10, 11, 12, 13, 14]) (S := (fun w' : World => w'.heap[D]? = some (.cells b.arr 53 (0, 0)) ∧ w'.rangeAt ab (ao + j * 4) (Ac4.cs ⟨K, A, B, C⟩))) rfl (by kernel_rfl) (by exact HS.out _ (Below.refl _ wr).drew) (fun _ => ?_)
        obtain ⟨V0, hV0⟩ : ∃ V0, wr.drew = V0 := ⟨_, rfl⟩
        have HB0 : Hid (Below wr.heap.size wr V0) := by rw [← hV0]; exact (Below.refl _ wr).drew
        rw [hV0]
        clear hV0
        refine lane_take (v := .agg b.arr) rfl (by kernel_rfl) (by kernel_rfl) (by rfl) (fun W hSw => exec_load rfl rfl (by
          have h9 := run_loadAt_mid (P := Try.prog) W D 0 53 _ _ (Kb.range_all hSw.1) Try.underlying53 rfl Kb.info_all
          (try rw [Array.toArray_toList] at h9)
          exact h9)) (by exact HS.out _ HB0.out) ?_
        simp only [Act.put, List.setIfInBounds_toArray, List.set_cons_zero, List.set_cons_succ]
        iterate 1 (refine lane_take (v := ?_) rfl (by kernel_rfl) (by kernel_rfl) (by rfl) ?_ (by exact HS.out _ HB0.out) ?_; rotate_left; (focus (intro W hSw; go_simp; try (with_reducible rfl))); simp only [Act.put, List.setIfInBounds_toArray, List.set_cons_zero, List.set_cons_succ])
        iterate 1 (refine lane_take (v := ?_) rfl (by kernel_rfl) (by kernel_rfl) (by rfl) ?_ (by exact HS.out _ HB0.out) ?_; rotate_left; (focus (intro W hSw; go_simp; try (with_reducible rfl))); simp only [Act.put, List.setIfInBounds_toArray, List.set_cons_zero, List.set_cons_succ])
        iterate 1 (refine lane_take (v := ?_) rfl (by kernel_rfl) (by kernel_rfl) (by rfl) ?_ (by exact HS.out _ HB0.out) ?_; rotate_left; (focus (intro W hSw; go_simp; try (with_reducible rfl))); simp only [Act.put, List.setIfInBounds_toArray, List.set_cons_zero, List.set_cons_succ])
        refine lane_take (v := .agg #[.int .u8 K, .int .u8 A, .int .u8 B, .int .u8 C]) rfl (by kernel_rfl) (by kernel_rfl) (by rfl) (fun W hSw => exec_load rfl rfl (by
          have h9 := run_loadAt_mid (P := Try.prog) W ab (ao + j * 4) 64 _ _ (hSw.2) Try.underlying64 rfl info4a
          (try rw [Array.toArray_toList] at h9)
          exact h9)) (by exact HS.out _ HB0.out) ?_
        simp only [Act.put, List.setIfInBounds_toArray, List.set_cons_zero, List.set_cons_succ]
        refine lane_take (v := .agg b.arr) rfl (by kernel_rfl) (by kernel_rfl) (by rfl) (fun W hSw => exec_load rfl rfl (by
          have h9 := run_loadAt_mid (P := Try.prog) W D 0 53 _ _ (Kb.range_all hSw.1) Try.underlying53 rfl Kb.info_all
          (try rw [Array.toArray_toList] at h9)
          exact h9)) (by exact HS.out _ HB0.out) ?_
        simp only [Act.put, List.setIfInBounds_toArray, List.set_cons_zero, List.set_cons_succ]
        refine lane_two (i := 6) (j := 12) (ordI := [7, 8, 9, 10, 11, 12, 13, 14]) (ordJ := [6, 7, 8, 9, 10, 11, 13, 14]) rfl rfl (by kernel_rfl) rfl (by rfl) (by rfl) (fun KK hK => ?_) (fun KK hK => ?_)
        · skip
          go_simp
          refine (bkasks_any ((HK.out.below HB0.out).more (Nat.zero_le _) HB0.out.size) (fun k hk => by have := HLN.out k hk; omega)).mono ?_
          rintro e V1 ⟨v1, rfl, ho1, hb1⟩
          have HB1 : Hid (Below wr.heap.size wr V1) := HB0.out.trans (hb1.mono HB0.out.size)
          have HN : Hid (Nvs V1 0 V1.heap.size v1 (asksK b.a 32)) := (Nvs.own ho1).more (Nat.zero_le _) (Nat.le_refl _)
          clear ho1 hb1
          refine hK _ _ (HS.out _ HB1.out) (fun _ => ?_)
          clear hK KK
          refine lane_two (i := 7) (j := 12) (ordI := [8, 9, 10, 11, 12, 13, 14]) (ordJ := [7, 8, 9, 10, 11, 13, 14]) rfl rfl (by kernel_rfl) rfl (by rfl) (by rfl) (fun KK hK => ?_) (fun KK hK => ?_)
          · skip
            go_simp
            refine (order_any K A B C hk0 ⟨hA0, hA1⟩ ⟨hB0, hB1⟩ ⟨hC0, hC1⟩ HN.out HLE.out HASK.out).mono ?_
            rintro e V2 ⟨o, rfl, ho, hb2⟩
            have HO := Lib.hid ho
            have HB2 : Hid (Below wr.heap.size wr V2) := HB1.out.trans (hb2.mono HB1.out.size)
            clear ho hb2
            refine hK _ _ (HS.out _ HB2.out) (fun _ => ?_)
            clear hK KK
            refine lane_two (i := 8) (j := 12) (ordI := [9, 10, 11, 12, 13, 14]) (ordJ := [8, 9, 10, 11, 13, 14]) rfl rfl (by kernel_rfl) rfl (by rfl) (by rfl) (fun KK hK => ?_) (fun KK hK => ?_)
            · skip
              go_simp
              refine (step_all HP.out ((HK.out.below HB2.out).more (Nat.zero_le _) HB2.out.size) (by omega) (by omega) (by omega) HO.out).mono ?_
              rintro e V3 ⟨c, x, rfl, hone, hc, hb3⟩
              have HB3 : Hid (Below wr.heap.size wr V3) := HB2.out.trans (hb3.mono HB2.out.size)
              have hD3 : D + 1 ≤ V2.heap.size := by have := HB2.out.size; omega
              clear hb3
              refine hK _ _ (HS.out _ HB3.out) (fun _ => ?_)
              clear hK KK
              iterate 3 (refine lane_take (v := ?_) rfl (by kernel_rfl) (by kernel_rfl) (by rfl) ?_ (by exact HS.out _ HB3.out) ?_; rotate_left; (focus (intro W hSw; go_simp; try (with_reducible rfl))); simp only [Act.put, List.setIfInBounds_toArray, List.set_cons_zero, List.set_cons_succ])
              refine lane_alone rfl (by kernel_rfl) (by rfl) (fun KK hK => ?_)
              go_simp
              obtain ⟨A4, hA4⟩ : ∃ A, V3.alloc (.cells Try.zeroCells53 53) = A := ⟨_, rfl⟩
              have HA4 : Hid (Below wr.heap.size wr A4) := by rw [← hA4]; exact HB3.out.alloc HB3.out.size _
              have HZ : Hid (A4.heap[V3.heap.size]? = some (.cells Try.zeroCells53 53 (0, 0))) := by rw [← hA4]; exact alloc_at rfl
              have hZl : V3.heap.size < A4.heap.size := by rw [← hA4]; simp
              have hZg : wr.heap.size ≤ V3.heap.size := HB3.out.size
              have hbA : Below V3.heap.size V3 A4 := by rw [← hA4]; exact (Below.refl _ _).alloc (Nat.le_refl _) _
              rw [hA4]
              have HC : Hid (Came (1100000000 * (j : Int)) (40 * (j : Int) + 1) b o D V3.heap.size c x A4) := (Stepd.came hc hD3 (.inr (Nat.le_refl _))).below hbA
              clear hc
              obtain ⟨Z, hZe⟩ : ∃ Z, V3.heap.size = Z := ⟨_, rfl⟩
              rw [hZe] at HZ hZl hZg HC ⊢
              clear hA4 hbA hZe
              refine hK _ _ (HS.out _ HA4.out) (fun _ => ?_)
              clear hK KK
              refine lane_alone rfl (by kernel_rfl) (by rfl) (fun KK hK => ?_)
              refine wp_store_row 53 _ _ rfl Z c.arr rfl rfl 53 _ HZ.out (by rw [Kb.arr_size]; exact Kb.info) (by rw [Kb.arr_size]; exact Kb.zero_size) hone.arr ?_
              rw [row_boxed HZ.out]
              have HB9 : Hid (Below wr.heap.size wr (boxed A4 Z c.arr 53)) := boxed_below HA4.out hZg
              refine hK _ _ (HS.out _ HB9.out) (fun _ => ?_)
              clear hK KK
              iterate 1 (refine lane_take (v := ?_) rfl (by kernel_rfl) (by kernel_rfl) (by rfl) ?_ (by exact HS.out _ HB9.out) ?_; rotate_left; (focus (intro W hSw; go_simp; try (with_reducible rfl))); simp only [Act.put, List.setIfInBounds_toArray, List.set_cons_zero, List.set_cons_succ])
              refine lane_end (by kernel_rfl) ?_
              exact ⟨rfl, Z, c, x, v1, o, rfl, HB9, boxed_at hZl, hZg, by rw [boxed_size]; exact hZl, HC.out.boxed, HO⟩
            · skip
              go_simp
              obtain ⟨A5, hA5⟩ : ∃ A, V2.alloc (.cells Try.zeroCells53 53) = A := ⟨_, rfl⟩
              have HA5 : Hid (Below wr.heap.size wr A5) := by rw [← hA5]; exact HB2.out.alloc HB2.out.size _
              have HZ : Hid (A5.heap[V2.heap.size]? = some (.cells Try.zeroCells53 53 (0, 0))) := by rw [← hA5]; exact alloc_at rfl
              have hZl : V2.heap.size < A5.heap.size := by rw [← hA5]; simp
              have hZg : wr.heap.size ≤ V2.heap.size := HB2.out.size
              have hbA : Below V2.heap.size V2 A5 := by rw [← hA5]; exact (Below.refl _ _).alloc (Nat.le_refl _) _
              rw [hA5]
              obtain ⟨Z, hZe⟩ : ∃ Z, V2.heap.size = Z := ⟨_, rfl⟩
              rw [hZe] at HZ hZl hZg ⊢
              clear hA5 hbA hZe
              refine hK _ _ (HS.out _ HA5.out) (fun _ => ?_)
              clear hK KK
              refine lane_alone rfl (by kernel_rfl) (by rfl) (fun KK hK => ?_)
              go_simp
              refine (step_all HP.out ((HK.out.below HA5.out).more (Nat.zero_le _) HA5.out.size) (by omega) (by omega) (by omega) HO.out).mono ?_
              rintro e V6 ⟨c, x, rfl, hone, hc, hb6⟩
              have HB6 : Hid (Below wr.heap.size wr V6) := HA5.out.trans (hb6.mono HA5.out.size)
              have hD6 : D + 1 ≤ A5.heap.size := by have := HA5.out.size; omega
              have HC : Hid (Came (1100000000 * (j : Int)) (40 * (j : Int) + 1) b o D Z c x V6) := Stepd.came hc hD6 (.inl hZl)
              clear hc
              have HZ : Hid (V6.heap[Z]? = _) := (hb6.block Z (by omega)).trans HZ.out
              have hZl : Z < V6.heap.size := by have := hb6.size; omega
              clear hb6
              refine hK _ _ (HS.out _ HB6.out) (fun _ => ?_)
              clear hK KK
              iterate 3 (refine lane_take (v := ?_) rfl (by kernel_rfl) (by kernel_rfl) (by rfl) ?_ (by exact HS.out _ HB6.out) ?_; rotate_left; (focus (intro W hSw; go_simp; try (with_reducible rfl))); simp only [Act.put, List.setIfInBounds_toArray, List.set_cons_zero, List.set_cons_succ])
              refine lane_alone rfl (by kernel_rfl) (by rfl) (fun KK hK => ?_)
              refine wp_store_row 53 _ _ rfl Z c.arr rfl rfl 53 _ HZ.out (by rw [Kb.arr_size]; exact Kb.info) (by rw [Kb.arr_size]; exact Kb.zero_size) hone.arr ?_
              rw [row_boxed HZ.out]
              have HB9 : Hid (Below wr.heap.size wr (boxed V6 Z c.arr 53)) := boxed_below HB6.out hZg
              refine hK _ _ (HS.out _ HB9.out) (fun _ => ?_)
              clear hK KK
              iterate 1 (refine lane_take (v := ?_) rfl (by kernel_rfl) (by kernel_rfl) (by rfl) ?_ (by exact HS.out _ HB9.out) ?_; rotate_left; (focus (intro W hSw; go_simp; try (with_reducible rfl))); simp only [Act.put, List.setIfInBounds_toArray, List.set_cons_zero, List.set_cons_succ])
              refine lane_end (by kernel_rfl) ?_
              exact ⟨rfl, Z, c, x, v1, o, rfl, HB9, boxed_at hZl, hZg, by rw [boxed_size]; exact hZl, HC.out.boxed, HO⟩
          · skip
            go_simp
            obtain ⟨A8, hA8⟩ : ∃ A, V1.alloc (.cells Try.zeroCells53 53) = A := ⟨_, rfl⟩
            have HA8 : Hid (Below wr.heap.size wr A8) := by rw [← hA8]; exact HB1.out.alloc HB1.out.size _
            have HZ : Hid (A8.heap[V1.heap.size]? = some (.cells Try.zeroCells53 53 (0, 0))) := by rw [← hA8]; exact alloc_at rfl
            have hZl : V1.heap.size < A8.heap.size := by rw [← hA8]; simp
            have hZg : wr.heap.size ≤ V1.heap.size := HB1.out.size
            have hbA : Below V1.heap.size V1 A8 := by rw [← hA8]; exact (Below.refl _ _).alloc (Nat.le_refl _) _
            rw [hA8]
            have HN : Hid (Nvs A8 0 A8.heap.size v1 (asksK b.a 32)) := (HN.out.below hbA).more (Nat.zero_le _) hbA.size
            obtain ⟨Z, hZe⟩ : ∃ Z, V1.heap.size = Z := ⟨_, rfl⟩
            rw [hZe] at HZ hZl hZg ⊢
            clear hA8 hbA hZe
            refine hK _ _ (HS.out _ HA8.out) (fun _ => ?_)
            clear hK KK
            refine lane_alone rfl (by kernel_rfl) (by rfl) (fun KK hK => ?_)
            go_simp
            refine (order_any K A B C hk0 ⟨hA0, hA1⟩ ⟨hB0, hB1⟩ ⟨hC0, hC1⟩ HN.out HLE.out HASK.out).mono ?_
            rintro e V9 ⟨o, rfl, ho, hb9⟩
            have HO := Lib.hid ho
            have HB9 : Hid (Below wr.heap.size wr V9) := HA8.out.trans (hb9.mono HA8.out.size)
            have HZ : Hid (V9.heap[Z]? = _) := (hb9.block Z (by omega)).trans HZ.out
            have hZl : Z < V9.heap.size := by have := hb9.size; omega
            clear ho hb9
            refine hK _ _ (HS.out _ HB9.out) (fun _ => ?_)
            clear hK KK
            refine lane_alone rfl (by kernel_rfl) (by rfl) (fun KK hK => ?_)
            go_simp
            refine (step_all HP.out ((HK.out.below HB9.out).more (Nat.zero_le _) HB9.out.size) (by omega) (by omega) (by omega) HO.out).mono ?_
            rintro e V10 ⟨c, x, rfl, hone, hc, hb10⟩
            have HB10 : Hid (Below wr.heap.size wr V10) := HB9.out.trans (hb10.mono HB9.out.size)
            have hD10 : D + 1 ≤ V9.heap.size := by have := HB9.out.size; omega
            have HC : Hid (Came (1100000000 * (j : Int)) (40 * (j : Int) + 1) b o D Z c x V10) := Stepd.came hc hD10 (.inl hZl)
            clear hc
            have HZ : Hid (V10.heap[Z]? = _) := (hb10.block Z (by omega)).trans HZ.out
            have hZl : Z < V10.heap.size := by have := hb10.size; omega
            clear hb10
            refine hK _ _ (HS.out _ HB10.out) (fun _ => ?_)
            clear hK KK
            iterate 3 (refine lane_take (v := ?_) rfl (by kernel_rfl) (by kernel_rfl) (by rfl) ?_ (by exact HS.out _ HB10.out) ?_; rotate_left; (focus (intro W hSw; go_simp; try (with_reducible rfl))); simp only [Act.put, List.setIfInBounds_toArray, List.set_cons_zero, List.set_cons_succ])
            refine lane_alone rfl (by kernel_rfl) (by rfl) (fun KK hK => ?_)
            refine wp_store_row 53 _ _ rfl Z c.arr rfl rfl 53 _ HZ.out (by rw [Kb.arr_size]; exact Kb.info) (by rw [Kb.arr_size]; exact Kb.zero_size) hone.arr ?_
            rw [row_boxed HZ.out]
            have HB9 : Hid (Below wr.heap.size wr (boxed V10 Z c.arr 53)) := boxed_below HB10.out hZg
            refine hK _ _ (HS.out _ HB9.out) (fun _ => ?_)
            clear hK KK
            iterate 1 (refine lane_take (v := ?_) rfl (by kernel_rfl) (by kernel_rfl) (by rfl) ?_ (by exact HS.out _ HB9.out) ?_; rotate_left; (focus (intro W hSw; go_simp; try (with_reducible rfl))); simp only [Act.put, List.setIfInBounds_toArray, List.set_cons_zero, List.set_cons_succ])
            refine lane_end (by kernel_rfl) ?_
            exact ⟨rfl, Z, c, x, v1, o, rfl, HB9, boxed_at hZl, hZg, by rw [boxed_size]; exact hZl, HC.out.boxed, HO⟩
        · skip
          go_simp
          obtain ⟨A12, hA12⟩ : ∃ A, V0.alloc (.cells Try.zeroCells53 53) = A := ⟨_, rfl⟩
          have HA12 : Hid (Below wr.heap.size wr A12) := by rw [← hA12]; exact HB0.out.alloc HB0.out.size _
          have HZ : Hid (A12.heap[V0.heap.size]? = some (.cells Try.zeroCells53 53 (0, 0))) := by rw [← hA12]; exact alloc_at rfl
          have hZl : V0.heap.size < A12.heap.size := by rw [← hA12]; simp
          have hZg : wr.heap.size ≤ V0.heap.size := HB0.out.size
          have hbA : Below V0.heap.size V0 A12 := by rw [← hA12]; exact (Below.refl _ _).alloc (Nat.le_refl _) _
          rw [hA12]
          obtain ⟨Z, hZe⟩ : ∃ Z, V0.heap.size = Z := ⟨_, rfl⟩
          rw [hZe] at HZ hZl hZg ⊢
          clear hA12 hbA hZe
          refine hK _ _ (HS.out _ HA12.out) (fun _ => ?_)
          clear hK KK
          refine lane_alone rfl (by kernel_rfl) (by rfl) (fun KK hK => ?_)
          go_simp
          refine (bkasks_any ((HK.out.below HA12.out).more (Nat.zero_le _) HA12.out.size) (fun k hk => by have := HLN.out k hk; omega)).mono ?_
          rintro e V13 ⟨v1, rfl, ho13, hb13⟩
          have HB13 : Hid (Below wr.heap.size wr V13) := HA12.out.trans (hb13.mono HA12.out.size)
          have HN : Hid (Nvs V13 0 V13.heap.size v1 (asksK b.a 32)) := (Nvs.own ho13).more (Nat.zero_le _) (Nat.le_refl _)
          have HZ : Hid (V13.heap[Z]? = _) := (hb13.block Z (by omega)).trans HZ.out
          have hZl : Z < V13.heap.size := by have := hb13.size; omega
          clear ho13 hb13
          refine hK _ _ (HS.out _ HB13.out) (fun _ => ?_)
          clear hK KK
          refine lane_alone rfl (by kernel_rfl) (by rfl) (fun KK hK => ?_)
          go_simp
          refine (order_any K A B C hk0 ⟨hA0, hA1⟩ ⟨hB0, hB1⟩ ⟨hC0, hC1⟩ HN.out HLE.out HASK.out).mono ?_
          rintro e V14 ⟨o, rfl, ho, hb14⟩
          have HO := Lib.hid ho
          have HB14 : Hid (Below wr.heap.size wr V14) := HB13.out.trans (hb14.mono HB13.out.size)
          have HZ : Hid (V14.heap[Z]? = _) := (hb14.block Z (by omega)).trans HZ.out
          have hZl : Z < V14.heap.size := by have := hb14.size; omega
          clear ho hb14
          refine hK _ _ (HS.out _ HB14.out) (fun _ => ?_)
          clear hK KK
          refine lane_alone rfl (by kernel_rfl) (by rfl) (fun KK hK => ?_)
          go_simp
          refine (step_all HP.out ((HK.out.below HB14.out).more (Nat.zero_le _) HB14.out.size) (by omega) (by omega) (by omega) HO.out).mono ?_
          rintro e V15 ⟨c, x, rfl, hone, hc, hb15⟩
          have HB15 : Hid (Below wr.heap.size wr V15) := HB14.out.trans (hb15.mono HB14.out.size)
          have hD15 : D + 1 ≤ V14.heap.size := by have := HB14.out.size; omega
          have HC : Hid (Came (1100000000 * (j : Int)) (40 * (j : Int) + 1) b o D Z c x V15) := Stepd.came hc hD15 (.inl hZl)
          clear hc
          have HZ : Hid (V15.heap[Z]? = _) := (hb15.block Z (by omega)).trans HZ.out
          have hZl : Z < V15.heap.size := by have := hb15.size; omega
          clear hb15
          refine hK _ _ (HS.out _ HB15.out) (fun _ => ?_)
          clear hK KK
          iterate 3 (refine lane_take (v := ?_) rfl (by kernel_rfl) (by kernel_rfl) (by rfl) ?_ (by exact HS.out _ HB15.out) ?_; rotate_left; (focus (intro W hSw; go_simp; try (with_reducible rfl))); simp only [Act.put, List.setIfInBounds_toArray, List.set_cons_zero, List.set_cons_succ])
          refine lane_alone rfl (by kernel_rfl) (by rfl) (fun KK hK => ?_)
          refine wp_store_row 53 _ _ rfl Z c.arr rfl rfl 53 _ HZ.out (by rw [Kb.arr_size]; exact Kb.info) (by rw [Kb.arr_size]; exact Kb.zero_size) hone.arr ?_
          rw [row_boxed HZ.out]
          have HB9 : Hid (Below wr.heap.size wr (boxed V15 Z c.arr 53)) := boxed_below HB15.out hZg
          refine hK _ _ (HS.out _ HB9.out) (fun _ => ?_)
          clear hK KK
          iterate 1 (refine lane_take (v := ?_) rfl (by kernel_rfl) (by kernel_rfl) (by rfl) ?_ (by exact HS.out _ HB9.out) ?_; rotate_left; (focus (intro W hSw; go_simp; try (with_reducible rfl))); simp only [Act.put, List.setIfInBounds_toArray, List.set_cons_zero, List.set_cons_succ])
          refine lane_end (by kernel_rfl) ?_
          exact ⟨rfl, Z, c, x, v1, o, rfl, HB9, boxed_at hZl, hZg, by rw [boxed_size]; exact hZl, HC.out.boxed, HO⟩
      rintro Z c x v o w9 ⟨HB9, HZ9, hz1, hz2, HC9, HO⟩
      have HW9 : Hid (Below w.heap.size w w9) := HW.out.trans (HB9.out.mono HW.out.size)
      have HD9 : Hid (w9.heap[D]? = some (.cells b.arr 53 (0, 0))) := (HB9.out.block D hzr).trans HD.out
      have hz9 : D < w9.heap.size := (Array.getElem?_eq_some_iff.1 HD9.out).1
      have hsz9 : wr.heap.size ≤ w9.heap.size := HB9.out.size
      by_cases hx : x = 0
      · subst hx
        obtain ⟨ps', hk9, hp9, hap9⟩ := HC9.out rfl
        have HK9 := Lib.hid hk9
        have HP9 := Lib.hid hp9
        have htd9 := hap9.1
        have hone9 := hk9.one.arr
        clear hk9 hp9 hap9 HC9
        go_wp2_with (((with_reducible_and_instances (show wpList _ _ _ (Oper.mk _ (Op.load 53 _) _ _ _ _ :: _) _ _)); refine stop_here ?_))
        refine ⟨?_⟩
        refine wl_load (cs := c.arr) (fr := (0, 0)) (g := Z) Try.underlying53 rfl Kb.info rfl rfl rfl HZ9.out (Kb.arr_size _) ?_
        go_wp2_with (((with_reducible_and_instances (show wpList _ _ _ (Oper.mk _ (Op.store 53 _ _) _ _ _ _ :: _) _ _)); refine stop_here ?_))
        refine ⟨?_⟩
        refine wl_store (g := D) Kb.info rfl rfl rfl rfl HD9.out (Kb.arr_size _) (Kb.arr_size _) hone9 ?_
        go_wp2_with fail
        go_roundw
        case rel => exact ⟨j + 1, c, ps', by omega, by go_num, boxed_below HW9.out (by omega), boxed_at hz9, ((HK9.out.boxed (.inl (Nat.lt_succ_self _))).more (Nat.le_refl _) (by rw [boxed_size]; exact Nat.le_refl _)), HP9.out.more (by omega) (by omega), by omega⟩
        case measure => simp [intOf]; omega
      · have dx : (x == 0) = false := by simpa using hx
        go_wp2_with fail
        go_roundw
        case rel => exact ⟨j + 1, b, ps, by omega, by go_num, HW9.out, HD9.out, (HK.out.below HB9.out).more (Nat.le_refl _) HB9.out.size, HP.out.more (by omega) (by omega), by omega⟩
        case measure => simp [intOf]; omega
    case neg =>
      obtain rfl : j = n := by omega
      have dlt : decide ((j : Int) < (j : Int)) = false := by simp
      have hzr : D < wr.heap.size := (Array.getElem?_eq_some_iff.1 HD.out).1
      have HLN : Hid (∀ k, k < 32 → (b.a k).l.length ≤ 9000) := HP.out.lens (by omega)
      have HLE : Hid ((asksK b.a 32).length ≤ 100000000) := Nat.le_trans (asksK_len (m := 9000) HLN.out 32 (Nat.le_refl _)) (by omega)
      have HASK : Hid (∀ m ∈ asksK b.a 32, (∃ j : Nat, j < 32 ∧ m.s = (j : Int)) ∧ 0 ≤ m.t ∧ m.t ≤ 1000000) := HP.out.asked (by omega)
      go_wp2_with (((with_reducible_and_instances (show wpList _ _ _ (Oper.mk _ (Op.load 53 _) _ _ _ _ :: _) _ _)); refine stop_here ?_))
      refine ⟨?_⟩
      refine wl_load (cs := b.arr) (fr := (0, 0)) (g := D) Try.underlying53 rfl Kb.info rfl rfl rfl HD.out (Kb.arr_size _) ?_
      go_wp2_with fail
      refine (bkasks_any (HK.out.more (Nat.zero_le _) (Nat.le_refl _)) (fun k hk => by have := HLN.out k hk; omega)).mono ?_
      rintro e w9 ⟨v9, rfl, ho9, hb9⟩
      have HW9 : Hid (Below w.heap.size w w9) := HW.out.trans (hb9.mono HW.out.size)
      have HD9 : Hid (w9.heap[D]? = some (.cells b.arr 53 (0, 0))) := below_block hb9 HD.out
      have hz9 : D < w9.heap.size := (Array.getElem?_eq_some_iff.1 HD9.out).1
      have HK9 : Hid (KbM w9 0 w9.heap.size b ps) := (HK.out.below hb9).more (Nat.zero_le _) hb9.size
      have HN9 : Hid (Nvs w9 0 w9.heap.size v9 (asksK b.a 32)) := (Nvs.own ho9).more (Nat.zero_le _) (Nat.le_refl _)
      obtain ⟨A9, c9, hv9, _⟩ := HN9.out
      subst hv9
      clear ho9 hb9 HW HD HK HASK
      go_wp2_with fail
      go_loopw [10, 11] (fun nn i wq => ∃ s : Nat, s ≤ 32 ∧ nn = .int .i64 ((asksK b.a s).length : Nat) ∧ i = .int .i64 s ∧ Hid (Below w9.heap.size w9 wq)) (fun _ i _ => 32 - (intOf i).toNat)
      case atStart => exact ⟨0, by omega, rfl, rfl, Below.refl _ _⟩
      case round =>
        obtain ⟨s, hs, rfl, rfl, HB⟩ := hrel
        by_cases hst : s < 32
        case pos =>
          have ds : decide ((s : Int) < 32) = true := by simp; omega
          have hs0 : (0 : Int) ≤ (s : Int) := by omega
          have hs32 : (s : Int) < 32 := by omega
          obtain ⟨av, hav⟩ : ∃ av, b.a s = av := ⟨_, rfl⟩
          have HAV := Lib.hid hav
          obtain ⟨Ab, cb, hvb, _⟩ := HK9.out.cs s hst
          rw [hav] at hvb
          have HVB := Lib.hid hvb
          have hll := HLN.out s hst
          rw [hav] at hll
          have hsl : (asksK b.a s).length ≤ s * 9000 := asksK_len (m := 9000) HLN.out s hs
          obtain ⟨N0, hN0⟩ : ∃ N0, (asksK b.a s).length = N0 := ⟨_, rfl⟩
          have HN0' := Lib.hid hN0
          rw [hN0] at hsl ⊢
          clear hav hvb hN0
          go_wp2_with fail
          go_loopw [10, 12] (fun nn i wq => ∃ k m : Nat, k ≤ av.l.length ∧ Hid (m = N0 + (asksOf (s : Int) (av.l.take k)).length) ∧ nn = .int .i64 m ∧ i = .int .i64 k ∧ Hid (Below w9.heap.size w9 wq)) (fun _ i _ => av.l.length - (intOf i).toNat)
          case atStart => exact ⟨0, N0, by omega, rfl, rfl, rfl, HB⟩
          case round =>
            clear HB
            obtain ⟨k, m, hk, HM, rfl, rfl, HB⟩ := hrel
            have hbD : wr.heap[D]? = some (.cells b.arr 53 (0, 0)) := (HB.out.block D hz9).trans HD9.out
            have e7 : wr.cell? ⟨D, 2 + s * 13 + 7, none⟩ = some (.slice Ab av.l.length cb) := Kb.cell (j := 7) hbD hst (by omega) (by rw [HAV.out, HVB.out]; rfl)
            have hzw : D < wr.heap.size := (Array.getElem?_eq_some_iff.1 hbD).1
            have hkI : (0 : Int) ≤ (k : Int) := by omega
            by_cases hkt : k < av.l.length
            case pos =>
              have dk : decide ((k : Int) < (av.l.length : Int)) = true := by simp; omega
              have hkJ : (k : Int) < (av.l.length : Int) := by omega
              obtain ⟨c, hc⟩ : ∃ c, av.l[k]? = some c := ⟨_, List.getElem?_eq_getElem hkt⟩
              have hcs : Cys w9 0 w9.heap.size (b.v s) (b.a s).l := HK9.out.cs s hst
              rw [HVB.out, HAV.out] at hcs
              obtain ⟨g, o, cap, hvg, _, hcap1, hcap2, _, hgl, hr⟩ := hcs.at_ hc
              injection hvg with hA _ hC
              subst hA
              have hr2 : wr.rangeAt g (o + k * 8) c.cs := fun i v hv => (World.cell?_of_block (a := ⟨g, o + k * 8 + i, none⟩) (HB.out.block g hgl)).trans (hr i v hv)
              have HR2 := Lib.hid hr2
              have HC := Lib.hid hc
              have hle := asksOf_len (s : Int) (av.l.take k)
              rw [List.length_take] at hle
              have hnx := asksOf_next (s := (s : Int)) hc
              have HNX := Lib.hid hnx
              have hml : m ≤ N0 + 9000 := by have := HM.out; omega
              clear hcs hr hr2 hc hnx hle hC
              obtain ⟨cn, cd, cp, ca, cu, ct, cx, cg⟩ := c
              go_wp2_with (((with_reducible_and_instances (show wpList _ _ _ (Oper.mk _ (Op.load 46 _) _ _ _ _ :: _) _ _)); refine stop_here ?_))
              refine ⟨?_⟩
              refine wpList_load_mid rfl _ _ rfl g (o + k * 8) rfl [.int .i64 cn, .int .i64 cd, .int .u8 cp, .int .i64 ca, .int .i64 cu, .int .i64 ct, .int .i64 cx, .bool cg] _ HR2.out Try.underlying46 rfl info8c ?_
              go_wp2_with fail
              refine (refasks_any (s : Int) cn cd cp ca cu ct cx cg _).mono ?_
              rintro e w10 ⟨rfl, hb10⟩
              have HB10 : Hid (Below w9.heap.size w9 w10) := HB.out.trans (hb10.mono HB.out.size)
              obtain ⟨q, hq⟩ : ∃ q, Cv.ask (s : Int) ⟨cn, cd, cp, ca, cu, ct, cx, cg⟩ = q := ⟨_, rfl⟩
              have HQ := Lib.hid hq
              rw [hq]
              obtain ⟨qk, qs, qc, qt, qa, qv⟩ := q
              clear hb10 hq e7 hbD hzw HB
              obtain ⟨qb, hqb⟩ : ∃ qb, Cv.asks ⟨cn, cd, cp, ca, cu, ct, cx, cg⟩ = qb := ⟨_, rfl⟩
              have HQB := Lib.hid hqb
              rw [hqb]
              clear hqb
              dsimp only [Nv.arr]
              cases qb
              · go_wp2_with fail
                go_roundw
                case rel => exact ⟨k + 1, m, by omega, HM.out.trans (by rw [HNX.out, HQB.out, List.length_append]; rfl), by go_num, by go_num, HB10.out.alloc HB10.out.size _⟩
                case measure => simp [intOf]; omega
              · have hgt : (asksK b.a 32)[m]? = some ⟨qk, qs, qc, qt, qa, qv⟩ := by
                  have h9 := asksK_get (a := b.a) (s := s) (k := k) (c := ⟨cn, cd, cp, ca, cu, ct, cx, cg⟩) hst (by rw [HAV.out]; exact HC.out) HQB.out
                  rw [HN0'.out, HAV.out, ← HM.out, HQ.out] at h9; exact h9
                obtain ⟨g9, o9, cap9, hvg9, hlt9, hd1, hd2, _, hgl9, hr9⟩ := HN9.out.at_ hgt
                injection hvg9 with hA9 _ hC9
                subst hA9
                have HR9 := Lib.hid hr9
                have dge : decide (((asksK b.a 32).length : Int) ≤ (m : Int)) = false := by simp; omega
                have dge2 : decide ((m : Int) ≥ ((asksK b.a 32).length : Int)) = false := by simp; omega
                have dge3 : decide ((asksK b.a 32).length ≤ m) = false := by simp; omega
                have dge4 : decide (m ≥ (asksK b.a 32).length) = false := by simp; omega
                clear hgt hr9 hC9
                go_upto_region 20 with fail
                obtain ⟨W, hW⟩ : ∃ W, w10.alloc (.cells #[.int .u8 qk, .int .i64 qs, .int .i64 qc, .int .i64 qt, .int .i64 qa, .int .u8 qv] 59) = W := ⟨_, rfl⟩
                have HBW : Hid (Below w9.heap.size w9 W) := by rw [← hW]; exact HB10.out.alloc HB10.out.size _
                have hx : W.heap[w10.heap.size]? = some (.cells #[.int .u8 qk, .int .i64 qs, .int .i64 qc, .int .i64 qt, .int .i64 qa, .int .u8 qv] 59 (0, 0)) := by rw [← hW]; exact alloc_at rfl
                rw [hW]
                clear hW
                generalize w10.heap.size = X at *
                clear HB10 w10
                have x0 : W.cell? ⟨X, 0, none⟩ = some (.int .u8 qk) := by rw [cell_of_row _ _ _ _ _ _ hx]; rfl
                have x1 : W.cell? ⟨X, 1, none⟩ = some (.int .i64 qs) := by rw [cell_of_row _ _ _ _ _ _ hx]; rfl
                have x2 : W.cell? ⟨X, 2, none⟩ = some (.int .i64 qc) := by rw [cell_of_row _ _ _ _ _ _ hx]; rfl
                have x3 : W.cell? ⟨X, 3, none⟩ = some (.int .i64 qt) := by rw [cell_of_row _ _ _ _ _ _ hx]; rfl
                have x4 : W.cell? ⟨X, 4, none⟩ = some (.int .i64 qa) := by rw [cell_of_row _ _ _ _ _ _ hx]; rfl
                have x5 : W.cell? ⟨X, 5, none⟩ = some (.int .u8 qv) := by rw [cell_of_row _ _ _ _ _ _ hx]; rfl
                have HXB := Lib.hid hx
                have hr8 : ∀ i v, (Nv.cs ⟨qk, qs, qc, qt, qa, qv⟩)[i]? = some v → W.cell? ⟨g9, o9 + m * 6 + i, none⟩ = some v := fun i v hv => (World.cell?_of_block (a := ⟨g9, o9 + m * 6 + i, none⟩) (HBW.out.block g9 hgl9)).trans (HR9.out i v hv)
                have y0 : W.cell? ⟨g9, o9 + m * 6, none⟩ = some (.int .u8 qk) := hr8 0 _ rfl
                have y1 : W.cell? ⟨g9, o9 + m * 6 + 1, none⟩ = some (.int .i64 qs) := hr8 1 _ rfl
                have y2 : W.cell? ⟨g9, o9 + m * 6 + 2, none⟩ = some (.int .i64 qc) := hr8 2 _ rfl
                have y3 : W.cell? ⟨g9, o9 + m * 6 + 3, none⟩ = some (.int .i64 qt) := hr8 3 _ rfl
                have y4 : W.cell? ⟨g9, o9 + m * 6 + 4, none⟩ = some (.int .i64 qa) := hr8 4 _ rfl
                have y5 : W.cell? ⟨g9, o9 + m * 6 + 5, none⟩ = some (.int .u8 qv) := hr8 5 _ rfl
                have hXl : X < W.heap.size := (Array.getElem?_eq_some_iff.1 hx).1
                have hgW : g9 < W.heap.size := by have := HBW.out.size; omega
                clear hx hr8
                go_quiet (fail)
                clear x0 x1 x2 x3 x4 x5 y0 y1 y2 y3 y4 y5
                go_wp2_with fail
                go_roundw
                case rel => exact ⟨k + 1, m + 1, by omega, (congrArg (· + 1) HM.out).trans (by rw [HNX.out, HQB.out, List.length_append]; rfl), by go_num, by go_num, Below.drewN' HBW.out _⟩
                case measure => simp [intOf]; omega
            case neg =>
              obtain rfl : k = av.l.length := by omega
              have dk : decide ((av.l.length : Int) < (av.l.length : Int)) = false := by simp
              go_wp2_with fail
              go_roundw
              case rel => exact ⟨s + 1, by omega, by rw [asksK, List.length_append, HN0'.out, HAV.out]; have h9 := HM.out; rw [asksOf_all (Nat.le_refl _)] at h9; rw [h9], by go_num, HB⟩
              case measure => simp [intOf]; omega
        case neg =>
          obtain rfl : s = 32 := by omega
          have ds : decide ((32 : Int) < 32) = false := by decide
          rw [show ((32 : Nat) : Int) = 32 from rfl]
          obtain ⟨L, hL⟩ : ∃ L, asksK b.a 32 = L := ⟨_, rfl⟩
          have HL := Lib.hid hL
          obtain ⟨N, hN⟩ : ∃ N, L.length = N := ⟨_, rfl⟩
          have HNL := Lib.hid hN
          have hNb : N ≤ 32 * 9000 := by
            have h9 := asksK_len (m := 9000) HLN.out 32 (Nat.le_refl _)
            rw [hL, hN] at h9
            exact h9
          rw [hL] at HN9 ⊢
          rw [hN]
          clear hL hN
          go_wp2_with fail
          go_loopw [15] (fun i wq => ∃ k : Nat, k ≤ N ∧ i = .int .i64 k ∧ Hid (Below w9.heap.size w9 wq)) (fun i _ => N - (intOf i).toNat)
          case atStart => exact ⟨0, by omega, rfl, HB⟩
          case round =>
            clear HB
            obtain ⟨k, hk, rfl, HB⟩ := hrel
            by_cases hkt : k < N
            case neg =>
              obtain rfl : k = N := by omega
              have dk : decide ((k : Int) < (k : Int)) = false := by simp
              go_wp2_with fail
              go_ret
              exact ⟨rfl, HW9.out.trans (HB.out.mono HW9.out.size)⟩
            case pos =>
              have dk : decide ((k : Int) < (N : Int)) = true := by simp; omega
              have hk0 : (0 : Int) ≤ (k : Int) := by omega
              have hkJ : (k : Int) < (N : Int) := by omega
              obtain ⟨q, hq⟩ : ∃ q, L[k]? = some q := ⟨_, List.getElem?_eq_getElem (by rw [HNL.out]; exact hkt)⟩
              obtain ⟨g9, o9, cap9, hvg9, hlt9, hd1, hd2, _, hgl9, hr9⟩ := HN9.out.at_ hq
              injection hvg9 with hA9 _ hC9
              subst hA9
              have HQM := Lib.hid (List.mem_of_getElem? hq)
              have HR9 : Hid (wr.rangeAt g9 (o9 + k * 6) q.cs) := fun i v hv => (World.cell?_of_block (a := ⟨g9, o9 + k * 6 + i, none⟩) (HB.out.block g9 hgl9)).trans (hr9 i v hv)
              have hgw : g9 < wr.heap.size := by have := HB.out.size; omega
              clear hq hr9 hC9
              obtain ⟨qk, qs, qc, qt, qa, qv⟩ := q
              go_wp2_with (((with_reducible_and_instances (show wpList _ _ _ (Oper.mk _ (Op.load 59 _) _ _ _ _ :: _) _ _)); refine stop_here ?_))
              refine ⟨?_⟩
              refine wpList_load_mid rfl _ _ rfl g9 (o9 + k * 6) rfl [.int .u8 qk, .int .i64 qs, .int .i64 qc, .int .i64 qt, .int .i64 qa, .int .u8 qv] _ HR9.out Try.underlying59 rfl info6n ?_
              go_wp2_with (((with_reducible_and_instances (show wpList _ _ _ (Oper.mk _ (Op.load 53 _) _ _ _ _ :: _) _ _)); refine stop_here ?_))
              refine ⟨?_⟩
              obtain ⟨X, hX⟩ : ∃ X, wr.alloc (.cells #[.int .u8 qk, .int .i64 qs, .int .i64 qc, .int .i64 qt, .int .i64 qa, .int .u8 1] 59) = X := ⟨_, rfl⟩
              have HBX : Hid (Below w9.heap.size w9 X) := by rw [← hX]; exact HB.out.alloc HB.out.size _
              have HXN : Hid (X.heap[wr.heap.size]? = some (.cells #[.int .u8 qk, .int .i64 qs, .int .i64 qc, .int .i64 qt, .int .i64 qa, .int .u8 1] 59 (0, 0))) := by rw [← hX]; exact alloc_at rfl
              rw [hX]
              clear hX
              obtain ⟨x, hx⟩ : ∃ x, wr.heap.size = x := ⟨_, rfl⟩
              rw [hx] at HXN ⊢
              clear hx HB HR9
              have HXD : Hid (X.heap[D]? = some (.cells b.arr 53 (0, 0))) := below_block HBX.out HD9.out
              refine wl_load (cs := b.arr) (fr := (0, 0)) (g := D) Try.underlying53 rfl Kb.info rfl rfl rfl HXD.out (Kb.arr_size _) ?_
              go_wp2_with (((with_reducible_and_instances (show wpList _ _ _ (Oper.mk _ (Op.load 59 _) _ _ _ _ :: _) _ _)); refine stop_here ?_))
              refine ⟨?_⟩
              refine wl_load (cs := #[.int .u8 qk, .int .i64 qs, .int .i64 qc, .int .i64 qt, .int .i64 qa, .int .u8 1]) (fr := (0, 0)) (g := x) Try.underlying59 rfl info6n rfl rfl rfl HXN.out rfl ?_
              go_wp2_with fail
              refine (step_asked (nv := ⟨qk, qs, qc, qt, qa, qv⟩) HP.out ((HK9.out.below HBX.out).more (Nat.zero_le _) HBX.out.size) (by omega) (by omega) (by rw [HL.out]; exact HQM.out)).mono ?_
              rintro e w11 ⟨c, rfl, hone, hb11, hno⟩
              have HNO := Lib.hid hno
              have HB11 : Hid (Below w9.heap.size w9 w11) := HBX.out.trans (hb11.mono HBX.out.size)
              have HN11 : Hid (w11.heap[x]? = some (.cells #[.int .u8 qk, .int .i64 qs, .int .i64 qc, .int .i64 qt, .int .i64 qa, .int .u8 1] 59 (0, 0))) := below_block hb11 HXN.out
              have hxl : x < w11.heap.size := (Array.getElem?_eq_some_iff.1 HN11.out).1
              clear hb11 hno HXD HXN HBX
              go_wp2_with (((with_reducible_and_instances (show wpList _ _ _ (Oper.mk _ (Op.store 53 _ _) _ _ _ _ :: _) _ _)); refine stop_here ?_))
              refine ⟨?_⟩
              refine wl_store (g := w11.heap.size) Kb.info rfl rfl rfl rfl (alloc_at rfl) Kb.zero_size (Kb.arr_size _) hone.arr ?_
              obtain ⟨Y, hY⟩ : ∃ Y, boxed (w11.alloc (.cells Try.zeroCells53 53)) w11.heap.size c.arr 53 = Y := ⟨_, rfl⟩
              have HBY : Hid (Below w11.heap.size w11 Y) := by rw [← hY]; exact boxed_below ((Below.refl _ _).alloc (Nat.le_refl _) _) (Nat.le_refl _)
              have HYC : Hid (Y.heap[w11.heap.size]? = some (.cells c.arr 53 (0, 0))) := by rw [← hY]; exact boxed_at (by simp)
              have HYN : Hid (Y.heap[x]? = some (.cells #[.int .u8 qk, .int .i64 qs, .int .i64 qc, .int .i64 qt, .int .i64 qa, .int .u8 1] 59 (0, 0))) := below_block HBY.out HN11.out
              rw [hY]
              clear hY HN11
              go_wp2_with (((with_reducible_and_instances (show wpList _ _ _ (Oper.mk _ (Op.load 53 _) _ _ _ _ :: _) _ _)); refine stop_here ?_))
              refine ⟨?_⟩
              refine wl_load (cs := c.arr) (fr := (0, 0)) (g := w11.heap.size) Try.underlying53 rfl Kb.info rfl rfl rfl HYC.out (Kb.arr_size _) ?_
              go_wp2_with (((with_reducible_and_instances (show wpList _ _ _ (Oper.mk _ (Op.load 59 _) _ _ _ _ :: _) _ _)); refine stop_here ?_))
              refine ⟨?_⟩
              refine wl_load (cs := #[.int .u8 qk, .int .i64 qs, .int .i64 qc, .int .i64 qt, .int .i64 qa, .int .u8 1]) (fr := (0, 0)) (g := x) Try.underlying59 rfl info6n rfl rfl rfl HYN.out rfl ?_
              go_wp2_with fail
              refine (HNO.out Y HBY.out).mono ?_
              rintro e w12 ⟨rfl, hb12⟩
              have HB12 : Hid (Below w9.heap.size w9 w12) := (HB11.out.trans (HBY.out.mono HB11.out.size)).trans (hb12.mono (Nat.le_trans HB11.out.size HBY.out.size))
              clear hb12 HYC HYN HBY HNO HB11
              go_wp2_with (((with_reducible_and_instances (show wpList _ _ _ (Oper.mk _ (Op.store 53 _ _) _ _ _ _ :: _) _ _)); refine stop_here ?_))
              refine ⟨?_⟩
              refine wl_store (g := w12.heap.size) Kb.info rfl rfl rfl rfl (alloc_at rfl) Kb.zero_size (Kb.arr_size _) Kb.zero_one.arr ?_
              go_wp2_with fail
              go_roundw
              case rel => exact ⟨k + 1, by omega, by go_num, HB12.out.alloc HB12.out.size _⟩
              case measure => simp [intOf]; omega
end Go.Proofs.Ytkdajjbhmmgbkaa
