/-
  BookBytes: a book's bytes are read back as the book, which goes on as it would have. No conditions.
-/
import Derived.Deep.CutRange
import Derived.Test.YtblikgbcakgdnaaGreatBb49
set_option linter.unusedSimpArgs false
set_option linter.unusedVariables false
namespace Go.Proofs.YtblikgbcakgdnaaGreat
set_option linter.unusedVariables false
set_option linter.unusedSimpArgs false
set_option maxRecDepth 100000
open Go.ChangeShapes Go.WideShapes Go.ChangeAt Go.RowKit

set_option maxHeartbeats 16000000 in
theorem bookBytes_walk {w : World} (a0 : Int) (w0 : (Lit.int .u16 a0).wf = true) (A1 : Option Addr) (c1 : Nat) (l : List Ac4) (r1 : RdAc4 w w.heap.size A1 l) (w1 : ∀ p ∈ l, Ac4.Wf p) (A2 : Option Addr) (c2 : Nat) (l2 : List Ac4) (r2 : RdAc4 w w.heap.size A2 l2) (w2 : ∀ p ∈ l2, Ac4.Wf p) :
    Calls Tryz.prog 4 #[.int .u16 a0, .slice A1 l.length c1, .slice A2 l2.length c2] w fun e w' => e = .returned (.bool true) ∧ Below w.heap.size w w' := by
  obtain ⟨h00, h01⟩ := wf_u16 w0
  have HRD := Lib.hid r1
  have HWF := Lib.hid w1
  have HRD2 := Lib.hid r2
  have HWF2 := Lib.hid w2
  obtain ⟨n, hn⟩ : ∃ n, l.length = n := ⟨_, rfl⟩
  obtain ⟨m, hm⟩ : ∃ m, l2.length = m := ⟨_, rfl⟩
  rw [hn, hm]
  have HN0 := Lib.hid hn
  have HM0 := Lib.hid hm
  clear r1 w1 r2 w2 hn hm
  go_enter Tryz.func4, Tryz.ntmps4
  go_wp2_with fail
  refine (bkawake_any _).mono ?_
  rintro e u1 ⟨rfl, hb1⟩
  have HW1 : Hid (Below w.heap.size w u1) := hb1
  clear hb1
  by_cases hlong : 40 < n ∨ 10 < m
  · have hd : (decide (40 < (n : Int)) = true ∧ decide ((n : Int) > 40) = true) ∨ (decide (40 < (n : Int)) = false ∧ decide ((n : Int) > 40) = false ∧ decide (10 < (m : Int)) = true ∧ decide ((m : Int) > 10) = true) := by
      by_cases h : 40 < n
      · exact .inl ⟨by simp; omega, by simp; omega⟩
      · exact .inr ⟨by simp; omega, by simp; omega, by simp; omega, by simp; omega⟩
    rcases hd with ⟨d1, d2⟩ | ⟨d1, d2, d3, d4⟩
    all_goals
      go_wp2_with fail
      refine (bkawake_any _).mono ?_
      rintro e u2 ⟨rfl, hb2⟩
      go_wp2_with fail
      go_ret
      exact ⟨rfl, HW1.out.trans (hb2.mono HW1.out.size)⟩
  have d1 : decide (40 < (n : Int)) = false := by simp; omega
  have d2 : decide ((n : Int) > 40) = false := by simp; omega
  have d3 : decide (10 < (m : Int)) = false := by simp; omega
  have d4 : decide ((m : Int) > 10) = false := by simp; omega
  go_wp2_with fail
  refine (bknew_any (700000 + a0) _).mono ?_
  rintro e u2 ⟨rfl, hb2⟩
  have HW2 : Hid (Below w.heap.size w u2) := HW1.out.trans (hb2.mono HW1.out.size)
  clear hb2 HW1
  go_wp2_with (((with_reducible_and_instances (show wpList _ _ _ (Oper.mk _ (Op.store 35 _ _) _ _ _ _ :: _) _ _)); refine stop_here ?_))
  refine ⟨?_⟩
  refine wl_store (g := u2.heap.size) Kb.info rfl rfl rfl rfl (alloc_at rfl) Kb.zero_size (Kb.arr_size _) (Kb.new_one _).arr ?_
  obtain ⟨U1, hU1⟩ : ∃ U1, boxed (u2.alloc (.cells Tryz.zeroCells35 35)) u2.heap.size (Kb.new (700000 + a0)).arr 35 = U1 := ⟨_, rfl⟩
  have HD5 : Hid (U1.heap[u2.heap.size]? = some (.cells (Kb.new (700000 + a0)).arr 35 (0, 0))) := by rw [← hU1]; exact boxed_at (by simp)
  have HW5 : Hid (Below w.heap.size w U1) := by rw [← hU1]; exact boxed_below (HW2.out.alloc HW2.out.size _) HW2.out.size
  have hwD : w.heap.size ≤ u2.heap.size := HW2.out.size
  rw [hU1]
  clear hU1 HW2
  generalize u2.heap.size = D at *
  go_wp2_with fail
  go_loopw [8] (fun i wq => ∃ (j : Nat) (b : Kb) (B : Bs), j ≤ n ∧ i = .int .i64 j ∧ Hid (Below w.heap.size w wq) ∧ Hid (wq.heap[D]? = some (.cells b.arr 35 (0, 0))) ∧ Hid (KbR wq (D + 1) wq.heap.size b B) ∧ Hid (Goes (j : Int) B)) (fun i _ => n - (intOf i).toNat)
  case atStart => exact ⟨0, Kb.new (700000 + a0), Bs.new (700000 + a0), by omega, rfl, HW5, HD5, new_kr _ _ _ _, Goes.new (by omega)⟩
  case round =>
    clear HW5 HD5
    obtain ⟨j, b, B, hj, rfl, HW, HD, HK, HP⟩ := hrel
    by_cases hlt : j < n
    case pos =>
      have dlt : decide ((j : Int) < (n : Int)) = true := by simp; omega
      have hln := HN0.out
      obtain ⟨⟨K, A, B1, C⟩, hact⟩ : ∃ p, l[j]? = some p := ⟨_, List.getElem?_eq_getElem (by omega)⟩
      obtain ⟨ab, ao, hAd, hab, hrd⟩ := HRD.out j _ hact
      subst hAd
      obtain ⟨⟨hk0, hk1⟩, ⟨hA0, hA1⟩, ⟨hB0, hB1⟩, ⟨hC0, hC1⟩⟩ := HWF.out _ (List.mem_of_getElem? hact)
      dsimp only at hk0 hk1 hA0 hA1 hB0 hB1 hC0 hC1
      have hzr : D < wr.heap.size := (Array.getElem?_eq_some_iff.1 HD.out).1
      have HS : Hid (∀ V, Below wr.heap.size wr V → (fun w' : World => w'.heap[D]? = some (.cells b.arr 35 (0, 0)) ∧ w'.rangeAt ab (ao + j * 4) (Ac4.cs ⟨K, A, B1, C⟩)) V) := fun V hV => ⟨(hV.block D hzr).trans HD.out, fun i v hv => (World.cell?_of_block (a := ⟨ab, ao + j * 4 + i, none⟩) ((hV.block ab (by have := HW.out.size; omega)).trans (HW.out.block _ hab))).trans (hrd i v hv)⟩
      have hjI : (j : Int) < (n : Int) := by omega
      have hjJ : (0 : Int) ≤ (j : Int) := by omega
      clear hact hrd
      have HLN : Hid (∀ k, k < 32 → (b.a k).l.length ≤ 9000) := HK.out.lens HP.out.ok (by omega)
      have HLE : Hid ((asksK b.a 32).length ≤ 100000000) := Nat.le_trans (asksK_len (m := 9000) HLN.out 32 (Nat.le_refl _)) (by omega)
      have HASK : Hid (∀ m ∈ asksK b.a 32, (∃ j : Nat, j < 32 ∧ m.s = (j : Int)) ∧ 0 ≤ m.t ∧ m.t ≤ 1000000) := HP.out.ok.asked HK.out.a (by omega)
      go_upto_region 7 with fail
      apply region_frame5 (fun Z c x v o w' => Hid (Below wr.heap.size wr w') ∧ Hid (w'.heap[Z]? = some (.cells c.arr 35 (0, 0))) ∧ wr.heap.size ≤ Z ∧ Z < w'.heap.size ∧ Hid (∃ B', Did (1100000000 * (j : Int)) (40 * (j : Int) + 1) 40 B o x B' ∧ (x = 0 → KbR w' (D + 1) w'.heap.size c B')) ∧ Hid (OForm o))
      · skip
        refine lane_start (ord := [0, 1, 2, 3, 4, 5, 6, 7, 8, 9, 10, 11, 12, 13, 14]) (S := (fun w' : World => w'.heap[D]? = some (.cells b.arr 35 (0, 0)) ∧ w'.rangeAt ab (ao + j * 4) (Ac4.cs ⟨K, A, B1, C⟩))) rfl (by kernel_rfl) (by exact HS.out _ (Below.refl _ wr).drew) (fun _ => ?_)
        obtain ⟨V0, hV0⟩ : ∃ V0, wr.drew = V0 := ⟨_, rfl⟩
        have HB0 : Hid (Below wr.heap.size wr V0) := by rw [← hV0]; exact (Below.refl _ wr).drew
        rw [hV0]
        clear hV0
        refine lane_take (v := .agg b.arr) rfl (by kernel_rfl) (by kernel_rfl) (by rfl) (fun W hSw => exec_load rfl rfl (by
          have h9 := run_loadAt_mid (P := Tryz.prog) W D 0 35 _ _ (Kb.range_all hSw.1) Tryz.underlying35 rfl Kb.info_all
          (try rw [Array.toArray_toList] at h9)
          exact h9)) (by exact HS.out _ HB0.out) ?_
        simp only [Act.put, List.setIfInBounds_toArray, List.set_cons_zero, List.set_cons_succ]
        iterate 1 (refine lane_take (v := ?_) rfl (by kernel_rfl) (by kernel_rfl) (by rfl) ?_ (by exact HS.out _ HB0.out) ?_; rotate_left; (focus (intro W hSw; go_simp; try (with_reducible rfl))); simp only [Act.put, List.setIfInBounds_toArray, List.set_cons_zero, List.set_cons_succ])
        iterate 1 (refine lane_take (v := ?_) rfl (by kernel_rfl) (by kernel_rfl) (by rfl) ?_ (by exact HS.out _ HB0.out) ?_; rotate_left; (focus (intro W hSw; go_simp; try (with_reducible rfl))); simp only [Act.put, List.setIfInBounds_toArray, List.set_cons_zero, List.set_cons_succ])
        iterate 1 (refine lane_take (v := ?_) rfl (by kernel_rfl) (by kernel_rfl) (by rfl) ?_ (by exact HS.out _ HB0.out) ?_; rotate_left; (focus (intro W hSw; go_simp; try (with_reducible rfl))); simp only [Act.put, List.setIfInBounds_toArray, List.set_cons_zero, List.set_cons_succ])
        refine lane_take (v := .agg #[.int .u8 K, .int .u8 A, .int .u8 B1, .int .u8 C]) rfl (by kernel_rfl) (by kernel_rfl) (by rfl) (fun W hSw => exec_load rfl rfl (by
          have h9 := run_loadAt_mid (P := Tryz.prog) W ab (ao + j * 4) 51 _ _ (hSw.2) Tryz.underlying51 rfl info4a
          (try rw [Array.toArray_toList] at h9)
          exact h9)) (by exact HS.out _ HB0.out) ?_
        simp only [Act.put, List.setIfInBounds_toArray, List.set_cons_zero, List.set_cons_succ]
        refine lane_take (v := .agg b.arr) rfl (by kernel_rfl) (by kernel_rfl) (by rfl) (fun W hSw => exec_load rfl rfl (by
          have h9 := run_loadAt_mid (P := Tryz.prog) W D 0 35 _ _ (Kb.range_all hSw.1) Tryz.underlying35 rfl Kb.info_all
          (try rw [Array.toArray_toList] at h9)
          exact h9)) (by exact HS.out _ HB0.out) ?_
        simp only [Act.put, List.setIfInBounds_toArray, List.set_cons_zero, List.set_cons_succ]
        refine lane_two (i := 6) (j := 12) (ordI := [7, 8, 9, 10, 11, 12, 13, 14]) (ordJ := [6, 7, 8, 9, 10, 11, 13, 14]) rfl rfl (by kernel_rfl) rfl (by rfl) (by rfl) (fun KK hK => ?_) (fun KK hK => ?_)
        · skip
          go_simp
          refine (bkasks_any ((HK.out.km.below HB0.out).more (Nat.zero_le _) HB0.out.size) (fun k hk => by have := HLN.out k hk; omega)).mono ?_
          rintro e V1 ⟨v1, rfl, ho1, hb1⟩
          have HB1 : Hid (Below wr.heap.size wr V1) := HB0.out.trans (hb1.mono HB0.out.size)
          have HN : Hid (Nvs V1 0 V1.heap.size v1 (asksK b.a 32)) := (Nvs.own ho1).more (Nat.zero_le _) (Nat.le_refl _)
          clear ho1 hb1
          refine hK _ _ (HS.out _ HB1.out) (fun _ => ?_)
          clear hK KK
          refine lane_two (i := 7) (j := 12) (ordI := [8, 9, 10, 11, 12, 13, 14]) (ordJ := [7, 8, 9, 10, 11, 13, 14]) rfl rfl (by kernel_rfl) rfl (by rfl) (by rfl) (fun KK hK => ?_) (fun KK hK => ?_)
          · skip
            go_simp
            refine (order_any K A B1 C hk0 ⟨hA0, hA1⟩ ⟨hB0, hB1⟩ ⟨hC0, hC1⟩ HN.out HLE.out HASK.out).mono ?_
            rintro e V2 ⟨o, rfl, ho, hb2⟩
            have HO := Lib.hid ho
            have HB2 : Hid (Below wr.heap.size wr V2) := HB1.out.trans (hb2.mono HB1.out.size)
            clear ho hb2
            refine hK _ _ (HS.out _ HB2.out) (fun _ => ?_)
            clear hK KK
            refine lane_two (i := 8) (j := 12) (ordI := [9, 10, 11, 12, 13, 14]) (ordJ := [8, 9, 10, 11, 13, 14]) rfl rfl (by kernel_rfl) rfl (by rfl) (by rfl) (fun KK hK => ?_) (fun KK hK => ?_)
            · skip
              go_simp
              refine (step_allb HP.out.ok ((HK.out.below HB2.out).more (Nat.zero_le _) HB2.out.size) (by omega) (by omega) HO.out).mono ?_
              rintro e V3 ⟨c, x, rfl, hone, hc, hb3⟩
              have HB3 : Hid (Below wr.heap.size wr V3) := HB2.out.trans (hb3.mono HB2.out.size)
              have hD3 : D + 1 ≤ V2.heap.size := by have := HB2.out.size; omega
              clear hb3
              refine hK _ _ (HS.out _ HB3.out) (fun _ => ?_)
              clear hK KK
              iterate 3 (refine lane_take (v := ?_) rfl (by kernel_rfl) (by kernel_rfl) (by rfl) ?_ (by exact HS.out _ HB3.out) ?_; rotate_left; (focus (intro W hSw; go_simp; try (with_reducible rfl))); simp only [Act.put, List.setIfInBounds_toArray, List.set_cons_zero, List.set_cons_succ])
              refine lane_alone rfl (by kernel_rfl) (by rfl) (fun KK hK => ?_)
              go_simp
              obtain ⟨A4, hA4⟩ : ∃ A, V3.alloc (.cells Tryz.zeroCells35 35) = A := ⟨_, rfl⟩
              have HA4 : Hid (Below wr.heap.size wr A4) := by rw [← hA4]; exact HB3.out.alloc HB3.out.size _
              have HZ : Hid (A4.heap[V3.heap.size]? = some (.cells Tryz.zeroCells35 35 (0, 0))) := by rw [← hA4]; exact alloc_at rfl
              have hZl : V3.heap.size < A4.heap.size := by rw [← hA4]; simp
              have hZg : wr.heap.size ≤ V3.heap.size := HB3.out.size
              have hbA : Below V3.heap.size V3 A4 := by rw [← hA4]; exact (Below.refl _ _).alloc (Nat.le_refl _) _
              rw [hA4]
              have HC : Hid (CamB (1100000000 * (j : Int)) (40 * (j : Int) + 1) B o D V3.heap.size c x A4) := (Stepb.camb hc hD3 (.inr (Nat.le_refl _))).below hbA
              clear hc
              obtain ⟨Z, hZe⟩ : ∃ Z, V3.heap.size = Z := ⟨_, rfl⟩
              rw [hZe] at HZ hZl hZg HC ⊢
              clear hA4 hbA hZe
              refine hK _ _ (HS.out _ HA4.out) (fun _ => ?_)
              clear hK KK
              refine lane_alone rfl (by kernel_rfl) (by rfl) (fun KK hK => ?_)
              refine wp_store_row 35 _ _ rfl Z c.arr rfl rfl 35 _ HZ.out (by rw [Kb.arr_size]; exact Kb.info) (by rw [Kb.arr_size]; exact Kb.zero_size) hone.arr ?_
              rw [row_boxed HZ.out]
              have HB9 : Hid (Below wr.heap.size wr (boxed A4 Z c.arr 35)) := boxed_below HA4.out hZg
              refine hK _ _ (HS.out _ HB9.out) (fun _ => ?_)
              clear hK KK
              iterate 1 (refine lane_take (v := ?_) rfl (by kernel_rfl) (by kernel_rfl) (by rfl) ?_ (by exact HS.out _ HB9.out) ?_; rotate_left; (focus (intro W hSw; go_simp; try (with_reducible rfl))); simp only [Act.put, List.setIfInBounds_toArray, List.set_cons_zero, List.set_cons_succ])
              refine lane_end (by kernel_rfl) ?_
              exact ⟨rfl, Z, c, x, v1, o, rfl, HB9, boxed_at hZl, hZg, by rw [boxed_size]; exact hZl, HC.out.boxed, HO⟩
            · skip
              go_simp
              obtain ⟨A5, hA5⟩ : ∃ A, V2.alloc (.cells Tryz.zeroCells35 35) = A := ⟨_, rfl⟩
              have HA5 : Hid (Below wr.heap.size wr A5) := by rw [← hA5]; exact HB2.out.alloc HB2.out.size _
              have HZ : Hid (A5.heap[V2.heap.size]? = some (.cells Tryz.zeroCells35 35 (0, 0))) := by rw [← hA5]; exact alloc_at rfl
              have hZl : V2.heap.size < A5.heap.size := by rw [← hA5]; simp
              have hZg : wr.heap.size ≤ V2.heap.size := HB2.out.size
              have hbA : Below V2.heap.size V2 A5 := by rw [← hA5]; exact (Below.refl _ _).alloc (Nat.le_refl _) _
              rw [hA5]
              obtain ⟨Z, hZe⟩ : ∃ Z, V2.heap.size = Z := ⟨_, rfl⟩
              rw [hZe] at HZ hZl hZg ⊢
              clear hA5 hbA hZe
              refine hK _ _ (HS.out _ HA5.out) (fun _ => ?_)
              clear hK KK
              refine lane_alone rfl (by kernel_rfl) (by rfl) (fun KK hK => ?_)
              go_simp
              refine (step_allb HP.out.ok ((HK.out.below HA5.out).more (Nat.zero_le _) HA5.out.size) (by omega) (by omega) HO.out).mono ?_
              rintro e V6 ⟨c, x, rfl, hone, hc, hb6⟩
              have HB6 : Hid (Below wr.heap.size wr V6) := HA5.out.trans (hb6.mono HA5.out.size)
              have hD6 : D + 1 ≤ A5.heap.size := by have := HA5.out.size; omega
              have HC : Hid (CamB (1100000000 * (j : Int)) (40 * (j : Int) + 1) B o D Z c x V6) := Stepb.camb hc hD6 (.inl hZl)
              clear hc
              have HZ : Hid (V6.heap[Z]? = _) := (hb6.block Z (by omega)).trans HZ.out
              have hZl : Z < V6.heap.size := by have := hb6.size; omega
              clear hb6
              refine hK _ _ (HS.out _ HB6.out) (fun _ => ?_)
              clear hK KK
              iterate 3 (refine lane_take (v := ?_) rfl (by kernel_rfl) (by kernel_rfl) (by rfl) ?_ (by exact HS.out _ HB6.out) ?_; rotate_left; (focus (intro W hSw; go_simp; try (with_reducible rfl))); simp only [Act.put, List.setIfInBounds_toArray, List.set_cons_zero, List.set_cons_succ])
              refine lane_alone rfl (by kernel_rfl) (by rfl) (fun KK hK => ?_)
              refine wp_store_row 35 _ _ rfl Z c.arr rfl rfl 35 _ HZ.out (by rw [Kb.arr_size]; exact Kb.info) (by rw [Kb.arr_size]; exact Kb.zero_size) hone.arr ?_
              rw [row_boxed HZ.out]
              have HB9 : Hid (Below wr.heap.size wr (boxed V6 Z c.arr 35)) := boxed_below HB6.out hZg
              refine hK _ _ (HS.out _ HB9.out) (fun _ => ?_)
              clear hK KK
              iterate 1 (refine lane_take (v := ?_) rfl (by kernel_rfl) (by kernel_rfl) (by rfl) ?_ (by exact HS.out _ HB9.out) ?_; rotate_left; (focus (intro W hSw; go_simp; try (with_reducible rfl))); simp only [Act.put, List.setIfInBounds_toArray, List.set_cons_zero, List.set_cons_succ])
              refine lane_end (by kernel_rfl) ?_
              exact ⟨rfl, Z, c, x, v1, o, rfl, HB9, boxed_at hZl, hZg, by rw [boxed_size]; exact hZl, HC.out.boxed, HO⟩
          · skip
            go_simp
            obtain ⟨A8, hA8⟩ : ∃ A, V1.alloc (.cells Tryz.zeroCells35 35) = A := ⟨_, rfl⟩
            have HA8 : Hid (Below wr.heap.size wr A8) := by rw [← hA8]; exact HB1.out.alloc HB1.out.size _
            have HZ : Hid (A8.heap[V1.heap.size]? = some (.cells Tryz.zeroCells35 35 (0, 0))) := by rw [← hA8]; exact alloc_at rfl
            have hZl : V1.heap.size < A8.heap.size := by rw [← hA8]; simp
            have hZg : wr.heap.size ≤ V1.heap.size := HB1.out.size
            have hbA : Below V1.heap.size V1 A8 := by rw [← hA8]; exact (Below.refl _ _).alloc (Nat.le_refl _) _
            rw [hA8]
            have HN : Hid (Nvs A8 0 A8.heap.size v1 (asksK b.a 32)) := (HN.out.below hbA).more (Nat.zero_le _) hbA.size
            obtain ⟨Z, hZe⟩ : ∃ Z, V1.heap.size = Z := ⟨_, rfl⟩
            rw [hZe] at HZ hZl hZg ⊢
            clear hA8 hbA hZe
            refine hK _ _ (HS.out _ HA8.out) (fun _ => ?_)
            clear hK KK
            refine lane_alone rfl (by kernel_rfl) (by rfl) (fun KK hK => ?_)
            go_simp
            refine (order_any K A B1 C hk0 ⟨hA0, hA1⟩ ⟨hB0, hB1⟩ ⟨hC0, hC1⟩ HN.out HLE.out HASK.out).mono ?_
            rintro e V9 ⟨o, rfl, ho, hb9⟩
            have HO := Lib.hid ho
            have HB9 : Hid (Below wr.heap.size wr V9) := HA8.out.trans (hb9.mono HA8.out.size)
            have HZ : Hid (V9.heap[Z]? = _) := (hb9.block Z (by omega)).trans HZ.out
            have hZl : Z < V9.heap.size := by have := hb9.size; omega
            clear ho hb9
            refine hK _ _ (HS.out _ HB9.out) (fun _ => ?_)
            clear hK KK
            refine lane_alone rfl (by kernel_rfl) (by rfl) (fun KK hK => ?_)
            go_simp
            refine (step_allb HP.out.ok ((HK.out.below HB9.out).more (Nat.zero_le _) HB9.out.size) (by omega) (by omega) HO.out).mono ?_
            rintro e V10 ⟨c, x, rfl, hone, hc, hb10⟩
            have HB10 : Hid (Below wr.heap.size wr V10) := HB9.out.trans (hb10.mono HB9.out.size)
            have hD10 : D + 1 ≤ V9.heap.size := by have := HB9.out.size; omega
            have HC : Hid (CamB (1100000000 * (j : Int)) (40 * (j : Int) + 1) B o D Z c x V10) := Stepb.camb hc hD10 (.inl hZl)
            clear hc
            have HZ : Hid (V10.heap[Z]? = _) := (hb10.block Z (by omega)).trans HZ.out
            have hZl : Z < V10.heap.size := by have := hb10.size; omega
            clear hb10
            refine hK _ _ (HS.out _ HB10.out) (fun _ => ?_)
            clear hK KK
            iterate 3 (refine lane_take (v := ?_) rfl (by kernel_rfl) (by kernel_rfl) (by rfl) ?_ (by exact HS.out _ HB10.out) ?_; rotate_left; (focus (intro W hSw; go_simp; try (with_reducible rfl))); simp only [Act.put, List.setIfInBounds_toArray, List.set_cons_zero, List.set_cons_succ])
            refine lane_alone rfl (by kernel_rfl) (by rfl) (fun KK hK => ?_)
            refine wp_store_row 35 _ _ rfl Z c.arr rfl rfl 35 _ HZ.out (by rw [Kb.arr_size]; exact Kb.info) (by rw [Kb.arr_size]; exact Kb.zero_size) hone.arr ?_
            rw [row_boxed HZ.out]
            have HB9 : Hid (Below wr.heap.size wr (boxed V10 Z c.arr 35)) := boxed_below HB10.out hZg
            refine hK _ _ (HS.out _ HB9.out) (fun _ => ?_)
            clear hK KK
            iterate 1 (refine lane_take (v := ?_) rfl (by kernel_rfl) (by kernel_rfl) (by rfl) ?_ (by exact HS.out _ HB9.out) ?_; rotate_left; (focus (intro W hSw; go_simp; try (with_reducible rfl))); simp only [Act.put, List.setIfInBounds_toArray, List.set_cons_zero, List.set_cons_succ])
            refine lane_end (by kernel_rfl) ?_
            exact ⟨rfl, Z, c, x, v1, o, rfl, HB9, boxed_at hZl, hZg, by rw [boxed_size]; exact hZl, HC.out.boxed, HO⟩
        · skip
          go_simp
          obtain ⟨A12, hA12⟩ : ∃ A, V0.alloc (.cells Tryz.zeroCells35 35) = A := ⟨_, rfl⟩
          have HA12 : Hid (Below wr.heap.size wr A12) := by rw [← hA12]; exact HB0.out.alloc HB0.out.size _
          have HZ : Hid (A12.heap[V0.heap.size]? = some (.cells Tryz.zeroCells35 35 (0, 0))) := by rw [← hA12]; exact alloc_at rfl
          have hZl : V0.heap.size < A12.heap.size := by rw [← hA12]; simp
          have hZg : wr.heap.size ≤ V0.heap.size := HB0.out.size
          have hbA : Below V0.heap.size V0 A12 := by rw [← hA12]; exact (Below.refl _ _).alloc (Nat.le_refl _) _
          rw [hA12]
          obtain ⟨Z, hZe⟩ : ∃ Z, V0.heap.size = Z := ⟨_, rfl⟩
          rw [hZe] at HZ hZl hZg ⊢
          clear hA12 hbA hZe
          refine hK _ _ (HS.out _ HA12.out) (fun _ => ?_)
          clear hK KK
          refine lane_alone rfl (by kernel_rfl) (by rfl) (fun KK hK => ?_)
          go_simp
          refine (bkasks_any ((HK.out.km.below HA12.out).more (Nat.zero_le _) HA12.out.size) (fun k hk => by have := HLN.out k hk; omega)).mono ?_
          rintro e V13 ⟨v1, rfl, ho13, hb13⟩
          have HB13 : Hid (Below wr.heap.size wr V13) := HA12.out.trans (hb13.mono HA12.out.size)
          have HN : Hid (Nvs V13 0 V13.heap.size v1 (asksK b.a 32)) := (Nvs.own ho13).more (Nat.zero_le _) (Nat.le_refl _)
          have HZ : Hid (V13.heap[Z]? = _) := (hb13.block Z (by omega)).trans HZ.out
          have hZl : Z < V13.heap.size := by have := hb13.size; omega
          clear ho13 hb13
          refine hK _ _ (HS.out _ HB13.out) (fun _ => ?_)
          clear hK KK
          refine lane_alone rfl (by kernel_rfl) (by rfl) (fun KK hK => ?_)
          go_simp
          refine (order_any K A B1 C hk0 ⟨hA0, hA1⟩ ⟨hB0, hB1⟩ ⟨hC0, hC1⟩ HN.out HLE.out HASK.out).mono ?_
          rintro e V14 ⟨o, rfl, ho, hb14⟩
          have HO := Lib.hid ho
          have HB14 : Hid (Below wr.heap.size wr V14) := HB13.out.trans (hb14.mono HB13.out.size)
          have HZ : Hid (V14.heap[Z]? = _) := (hb14.block Z (by omega)).trans HZ.out
          have hZl : Z < V14.heap.size := by have := hb14.size; omega
          clear ho hb14
          refine hK _ _ (HS.out _ HB14.out) (fun _ => ?_)
          clear hK KK
          refine lane_alone rfl (by kernel_rfl) (by rfl) (fun KK hK => ?_)
          go_simp
          refine (step_allb HP.out.ok ((HK.out.below HB14.out).more (Nat.zero_le _) HB14.out.size) (by omega) (by omega) HO.out).mono ?_
          rintro e V15 ⟨c, x, rfl, hone, hc, hb15⟩
          have HB15 : Hid (Below wr.heap.size wr V15) := HB14.out.trans (hb15.mono HB14.out.size)
          have hD15 : D + 1 ≤ V14.heap.size := by have := HB14.out.size; omega
          have HC : Hid (CamB (1100000000 * (j : Int)) (40 * (j : Int) + 1) B o D Z c x V15) := Stepb.camb hc hD15 (.inl hZl)
          clear hc
          have HZ : Hid (V15.heap[Z]? = _) := (hb15.block Z (by omega)).trans HZ.out
          have hZl : Z < V15.heap.size := by have := hb15.size; omega
          clear hb15
          refine hK _ _ (HS.out _ HB15.out) (fun _ => ?_)
          clear hK KK
          iterate 3 (refine lane_take (v := ?_) rfl (by kernel_rfl) (by kernel_rfl) (by rfl) ?_ (by exact HS.out _ HB15.out) ?_; rotate_left; (focus (intro W hSw; go_simp; try (with_reducible rfl))); simp only [Act.put, List.setIfInBounds_toArray, List.set_cons_zero, List.set_cons_succ])
          refine lane_alone rfl (by kernel_rfl) (by rfl) (fun KK hK => ?_)
          refine wp_store_row 35 _ _ rfl Z c.arr rfl rfl 35 _ HZ.out (by rw [Kb.arr_size]; exact Kb.info) (by rw [Kb.arr_size]; exact Kb.zero_size) hone.arr ?_
          rw [row_boxed HZ.out]
          have HB9 : Hid (Below wr.heap.size wr (boxed V15 Z c.arr 35)) := boxed_below HB15.out hZg
          refine hK _ _ (HS.out _ HB9.out) (fun _ => ?_)
          clear hK KK
          iterate 1 (refine lane_take (v := ?_) rfl (by kernel_rfl) (by kernel_rfl) (by rfl) ?_ (by exact HS.out _ HB9.out) ?_; rotate_left; (focus (intro W hSw; go_simp; try (with_reducible rfl))); simp only [Act.put, List.setIfInBounds_toArray, List.set_cons_zero, List.set_cons_succ])
          refine lane_end (by kernel_rfl) ?_
          exact ⟨rfl, Z, c, x, v1, o, rfl, HB9, boxed_at hZl, hZg, by rw [boxed_size]; exact hZl, HC.out.boxed, HO⟩
      rintro Z c x v o w9 ⟨HB9, HZ9, hz1, hz2, HC9, HO⟩
      have HW9 : Hid (Below w.heap.size w w9) := HW.out.trans (HB9.out.mono HW.out.size)
      have HD9 : Hid (w9.heap[D]? = some (.cells b.arr 35 (0, 0))) := (HB9.out.block D hzr).trans HD.out
      have hz9 : D < w9.heap.size := (Array.getElem?_eq_some_iff.1 HD9.out).1
      have hsz9 : wr.heap.size ≤ w9.heap.size := HB9.out.size
      obtain ⟨B9, hdid, hkr⟩ := HC9.out
      have HGO : Hid (Goes ((j : Int) + 1) B9) := HP.out.next hdid HO.out
      have HKR := Lib.hid hkr
      clear hdid hkr HC9
      by_cases hx : x = 0
      · subst hx
        have hk9 := HKR.out rfl
        have HK9 := Lib.hid hk9
        have hone9 := hk9.km.one.arr
        clear hk9 HKR
        go_wp2_with (((with_reducible_and_instances (show wpList _ _ _ (Oper.mk _ (Op.load 35 _) _ _ _ _ :: _) _ _)); refine stop_here ?_))
        refine ⟨?_⟩
        refine wl_load (cs := c.arr) (fr := (0, 0)) (g := Z) Tryz.underlying35 rfl Kb.info rfl rfl rfl HZ9.out (Kb.arr_size _) ?_
        go_wp2_with (((with_reducible_and_instances (show wpList _ _ _ (Oper.mk _ (Op.store 35 _ _) _ _ _ _ :: _) _ _)); refine stop_here ?_))
        refine ⟨?_⟩
        refine wl_store (g := D) Kb.info rfl rfl rfl rfl HD9.out (Kb.arr_size _) (Kb.arr_size _) hone9 ?_
        go_wp2_with fail
        go_roundw
        case rel => exact ⟨j + 1, c, B9, by omega, by go_num, boxed_below HW9.out (by omega), boxed_at hz9, ((HK9.out.boxed (.inl (Nat.lt_succ_self _))).more (Nat.le_refl _) (by rw [boxed_size]; exact Nat.le_refl _)), HGO⟩
        case measure => simp [intOf]; omega
      · have dx : (x == 0) = false := by simpa using hx
        go_wp2_with fail
        go_roundw
        case rel => exact ⟨j + 1, b, B, by omega, by go_num, HW9.out, HD9.out, (HK.out.below HB9.out).more (Nat.le_refl _) HB9.out.size, HP.out.stay⟩
        case measure => simp [intOf]; omega
    case neg =>
      obtain rfl : j = n := by omega
      have dlt : decide ((j : Int) < (j : Int)) = false := by simp
      have hzr : D < wr.heap.size := (Array.getElem?_eq_some_iff.1 HD.out).1
      go_wp2_with (((with_reducible_and_instances (show wpList _ _ _ (Oper.mk _ (Op.load 35 _) _ _ _ _ :: _) _ _)); refine stop_here ?_))
      refine ⟨?_⟩
      refine wl_load (cs := b.arr) (fr := (0, 0)) (g := D) Tryz.underlying35 rfl Kb.info rfl rfl rfl HD.out (Kb.arr_size _) ?_
      go_wp2_with fail
      refine (encode_go (HK.out.more (Nat.zero_le _) (Nat.le_refl _)) HP.out (by omega)).mono ?_
      rintro e w9 hO
      obtain ⟨A9, n9, c9, rfl, HN9, _, HB9, HR9, _, _⟩ := hO.open_
      have HW9 : Hid (Below w.heap.size w w9) := HW.out.trans (HB9.out.mono HW.out.size)
      have HD9 : Hid (w9.heap[D]? = some (.cells b.arr 35 (0, 0))) := (HB9.out.block D hzr).trans HD.out
      have HK9 : Hid (KbR w9 (D + 1) w9.heap.size b B) := (HK.out.below HB9.out).more (Nat.le_refl _) HB9.out.size
      have hz9 : D < w9.heap.size := (Array.getElem?_eq_some_iff.1 HD9.out).1
      clear hO HB9 HW HD HK hzr hlt
      go_wp2_with fail
      refine (decode_back HR9.out HN9.out HP.out (by omega)).mono ?_
      rintro e w10 ⟨d, rfl, hkd, hb10⟩
      have HB10 := Lib.hid hb10
      have HW10 : Hid (Below w.heap.size w w10) := HW9.out.trans (hb10.mono HW9.out.size)
      have HD10 : Hid (w10.heap[D]? = some (.cells b.arr 35 (0, 0))) := (hb10.block D hz9).trans HD9.out
      have hz10 : w9.heap.size ≤ w10.heap.size := hb10.size
      have hdone := hkd.km.one.arr
      have HKD := Lib.hid hkd
      clear hb10 hkd
      go_wp2_with (((with_reducible_and_instances (show wpList _ _ _ (Oper.mk _ (Op.store 35 _ _) _ _ _ _ :: _) _ _)); refine stop_here ?_))
      refine ⟨?_⟩
      refine wl_store (g := w10.heap.size) Kb.info rfl rfl rfl rfl (alloc_at rfl) Kb.zero_size (Kb.arr_size _) hdone ?_
      obtain ⟨U, hU⟩ : ∃ U, boxed (w10.alloc (.cells Tryz.zeroCells35 35)) w10.heap.size d.arr 35 = U := ⟨_, rfl⟩
      obtain ⟨E, hE⟩ : ∃ E, w10.heap.size = E := ⟨_, rfl⟩
      have hbU : Below w10.heap.size w10 U := by rw [← hU]; exact boxed_below ((Below.refl _ w10).alloc (Nat.le_refl _) _) (Nat.le_refl _)
      have HEU : Hid (U.heap[E]? = some (.cells d.arr 35 (0, 0))) := Lib.hid (by rw [← hU, ← hE]; exact boxed_at (by simp))
      have HDU : Hid (U.heap[D]? = some (.cells b.arr 35 (0, 0))) := Lib.hid (below_block hbU HD10.out)
      have HWU : Hid (Below w.heap.size w U) := Lib.hid (HW10.out.trans (hbU.mono HW10.out.size))
      have hDE : D < E := by omega
      have HPB : Hid (KbP D E U b B) := Lib.hid (KbP.below ⟨D + 1, w9.heap.size, Nat.le_refl _, hz10, .inr (by omega), HK9.out.below HB10.out⟩ hbU)
      have HPD : Hid (KbP D E U d B) := Lib.hid (KbP.below ⟨w9.heap.size, w10.heap.size, by omega, Nat.le_refl _, .inr (by omega), HKD.out⟩ hbU)
      have HRU : Hid (Rd U .u8 U.heap.size A9 B.bytes) := Lib.hid (((HR9.out.below HB10.out).more hz10).below hbU |>.more hbU.size)
      rw [hU, hE]
      clear hU hE hbU HD9 HD10 HW9 HW10 HK9 HKD HB10 HR9 hz10 hz9
      obtain ⟨EB, hEB⟩ : ∃ EB, bst B.bytes = EB := ⟨_, rfl⟩
      have HEB := Lib.hid hEB
      clear hEB
      have hzE : E < U.heap.size := (Array.getElem?_eq_some_iff.1 HEU.out).1
      go_upto_region 12 with fail
      apply region_frame1v (fun w' => Hid (Below U.heap.size U w'))
      · skip
        refine lane_start (ord := [0, 1, 2, 3, 6, 7, 4, 5, 8, 9]) (S := fun w' => Below U.heap.size U w') rfl (by kernel_rfl) (by exact (Below.refl _ U).drew) (fun _ => ?_)
        obtain ⟨V0, hV0⟩ : ∃ V0, U.drew = V0 := ⟨_, rfl⟩
        have HB0 : Hid (Below U.heap.size U V0) := by rw [← hV0]; exact (Below.refl _ U).drew
        rw [hV0]
        clear hV0
        iterate 3 (refine lane_take (v := ?_) rfl (by kernel_rfl) (by kernel_rfl) (by rfl) ?_ (by exact HB0.out) ?_; rotate_left; (focus (intro W hSw; go_simp; try (with_reducible rfl))); (try simp only [Act.put, List.setIfInBounds_toArray, List.set_cons_zero, List.set_cons_succ]))
        refine lane_take (v := .agg d.arr) rfl (by kernel_rfl) (by kernel_rfl) (by rfl) (fun W hSw => exec_load rfl rfl (by
          have h9 := run_loadAt_mid (P := Tryz.prog) W E 0 35 _ _ (Kb.range_all ((hSw.block E hzE).trans HEU.out)) Tryz.underlying35 rfl Kb.info_all
          (try rw [Array.toArray_toList] at h9)
          exact h9)) (by exact HB0.out) ?_
        (try simp only [Act.put, List.setIfInBounds_toArray, List.set_cons_zero, List.set_cons_succ])
        iterate 1 (refine lane_take (v := ?_) rfl (by kernel_rfl) (by kernel_rfl) (by rfl) ?_ (by exact HB0.out) ?_; rotate_left; (focus (intro W hSw; go_simp; try (with_reducible rfl))); (try simp only [Act.put, List.setIfInBounds_toArray, List.set_cons_zero, List.set_cons_succ]))
        iterate 1 (refine lane_take (v := .string EB) rfl (by kernel_rfl) (by kernel_rfl) (by rfl) ?_ (by exact HB0.out) ?_; (focus (intro W hSw; have q := conv_len W A9 _ c9 n9 _ ((HRU.out.below hSw).more hSw.size) HN9.out; rw [HEB.out] at q; go_simp; try (with_reducible rfl))); (try simp only [Act.put, List.setIfInBounds_toArray, List.set_cons_zero, List.set_cons_succ]))
        refine lane_alone rfl (by kernel_rfl) (by rfl) (fun KK hK => ?_)
        go_simp
        refine (encode_gs (HPD.out.below HB0.out).whole HP.out (by omega) HEB.out).mono ?_
        rintro e V1 ⟨v1, rfl, hcx, hb1⟩
        have HB1 : Hid (Below U.heap.size U V1) := HB0.out.trans (hb1.mono HB0.out.size)
        refine hK _ _ HB1.out (fun _ => ?_)
        clear hK KK hb1
        (try simp only [Act.put, List.setIfInBounds_toArray, List.set_cons_zero, List.set_cons_succ])
        refine lane_into (S' := fun w' => Below V1.heap.size V1 w') (fun w' h => HB1.out.trans (h.mono HB1.out.size)) (Below.refl _ V1) (fun _ => ?_)
        iterate 1 (refine lane_take (v := ?_) rfl (by kernel_rfl) (by kernel_rfl) (by rfl) ?_ (by exact Below.refl _ V1) ?_; rotate_left; (focus (intro W hSw; have q := hcx.out W hSw; go_simp; try (with_reducible rfl))); (try simp only [Act.put, List.setIfInBounds_toArray, List.set_cons_zero, List.set_cons_succ]))
        refine lane_take (v := .bool false) rfl (by kernel_rfl) (by kernel_rfl) (by rfl) (fun W hSw => ?_) (by exact Below.refl _ V1) ?_
        · go_simp
          try rfl
        (try simp only [Act.put, List.setIfInBounds_toArray, List.set_cons_zero, List.set_cons_succ])
        iterate 1 (refine lane_take (v := ?_) rfl (by kernel_rfl) (by kernel_rfl) (by rfl) ?_ (by exact Below.refl _ V1) ?_; rotate_left; (focus (intro W hSw; go_simp; try (with_reducible rfl))); (try simp only [Act.put, List.setIfInBounds_toArray, List.set_cons_zero, List.set_cons_succ]))
        refine lane_end (by kernel_rfl) ?_
        exact ⟨rfl, v1, rfl, HB1⟩
      rintro v1 U1 HBU1
      have HWV : Hid (Below w.heap.size w U1) := HWU.out.trans (HBU1.out.mono HWU.out.size)
      have HDV : Hid (U1.heap[D]? = some (.cells b.arr 35 (0, 0))) := (HBU1.out.block D (by omega)).trans HDU.out
      have HEV : Hid (U1.heap[E]? = some (.cells d.arr 35 (0, 0))) := (HBU1.out.block E hzE).trans HEU.out
      have HPBV : Hid (KbP D E U1 b B) := HPB.out.below HBU1.out
      have HPDV : Hid (KbP D E U1 d B) := HPD.out.below HBU1.out
      clear HWU HDU HEU HPB HPD HBU1 HRU hzE HEB
      go_wp2_with fail
      go_loopw [14] (fun i wq => ∃ (k : Nat) (b d : Kb) (B : Bs), k ≤ m ∧ i = .int .i64 k ∧ Hid (Below w.heap.size w wq) ∧ Hid (wq.heap[D]? = some (.cells b.arr 35 (0, 0))) ∧ Hid (wq.heap[E]? = some (.cells d.arr 35 (0, 0))) ∧ Hid (KbP D E wq b B) ∧ Hid (KbP D E wq d B) ∧ Hid (Goes ((j + k : Nat) : Int) B)) (fun i _ => m - (intOf i).toNat)
      case atStart => exact ⟨0, b, d, B, by omega, rfl, HWV, HDV, HEV, HPBV, HPDV, HP⟩
      case round =>
        clear HWV HDV HEV HPBV HPDV HP
        obtain ⟨k, b, d, B, hk, rfl, HW, HD, HE, HPB, HPD, HP⟩ := hrel
        have hzr : D < wr.heap.size := (Array.getElem?_eq_some_iff.1 HD.out).1
        have hzE : E < wr.heap.size := (Array.getElem?_eq_some_iff.1 HE.out).1
        by_cases hlt : k < m
        case pos =>
          have dlt : decide ((k : Int) < (m : Int)) = true := by simp; omega
          have hln2 := HM0.out
          obtain ⟨⟨K, A, B1, C⟩, hact⟩ : ∃ p, l2[k]? = some p := ⟨_, List.getElem?_eq_getElem (by omega)⟩
          obtain ⟨ab, ao, hAd, hab, hrd⟩ := HRD2.out k _ hact
          subst hAd
          obtain ⟨⟨hk0, hk1⟩, ⟨hA0, hA1⟩, ⟨hB0, hB1⟩, ⟨hC0, hC1⟩⟩ := HWF2.out _ (List.mem_of_getElem? hact)
          dsimp only at hk0 hk1 hA0 hA1 hB0 hB1 hC0 hC1
          have hzr : D < wr.heap.size := (Array.getElem?_eq_some_iff.1 HD.out).1
          have HS : Hid (∀ V, Below wr.heap.size wr V → (fun w' : World => w'.heap[D]? = some (.cells b.arr 35 (0, 0)) ∧ w'.rangeAt ab (ao + k * 4) (Ac4.cs ⟨K, A, B1, C⟩)) V) := fun V hV => ⟨(hV.block D hzr).trans HD.out, fun i v hv => (World.cell?_of_block (a := ⟨ab, ao + k * 4 + i, none⟩) ((hV.block ab (by have := HW.out.size; omega)).trans (HW.out.block _ hab))).trans (hrd i v hv)⟩
          have hkI : (k : Int) < (m : Int) := by omega
          have hkJ : (0 : Int) ≤ (k : Int) := by omega
          clear hact hrd
          have HLN : Hid (∀ k, k < 32 → (b.a k).l.length ≤ 9000) := HPB.out.whole.lens HP.out.ok (by omega)
          have HLE : Hid ((asksK b.a 32).length ≤ 100000000) := Nat.le_trans (asksK_len (m := 9000) HLN.out 32 (Nat.le_refl _)) (by omega)
          have HASK : Hid (∀ m ∈ asksK b.a 32, (∃ j : Nat, j < 32 ∧ m.s = (j : Int)) ∧ 0 ≤ m.t ∧ m.t ≤ 1000000) := HP.out.ok.asked HPB.out.whole.a (by omega)
          go_upto_region 17 with fail
          apply region_frame3 (fun Z v o w' => Hid (Below wr.heap.size wr w') ∧ Hid (w'.heap[Z]? = some (.cells o.kb 48 (0, 0))) ∧ wr.heap.size ≤ Z ∧ Z < w'.heap.size ∧ Hid (OForm o))
          · skip
            refine lane_start (ord := [0, 1, 2, 3, 4, 5, 6, 7, 8]) (S := (fun w' : World => w'.heap[D]? = some (.cells b.arr 35 (0, 0)) ∧ w'.rangeAt ab (ao + k * 4) (Ac4.cs ⟨K, A, B1, C⟩))) rfl (by kernel_rfl) (by exact HS.out _ (Below.refl _ wr).drew) (fun _ => ?_)
            obtain ⟨V0, hV0⟩ : ∃ V0, wr.drew = V0 := ⟨_, rfl⟩
            have HB0 : Hid (Below wr.heap.size wr V0) := by rw [← hV0]; exact (Below.refl _ wr).drew
            rw [hV0]
            clear hV0
            iterate 1 (refine lane_take (v := ?_) rfl (by kernel_rfl) (by kernel_rfl) (by rfl) ?_ (by exact HS.out _ HB0.out) ?_; rotate_left; (focus (intro W hSw; go_simp; try (with_reducible rfl))); simp only [Act.put, List.setIfInBounds_toArray, List.set_cons_zero, List.set_cons_succ])
            iterate 1 (refine lane_take (v := ?_) rfl (by kernel_rfl) (by kernel_rfl) (by rfl) ?_ (by exact HS.out _ HB0.out) ?_; rotate_left; (focus (intro W hSw; go_simp; try (with_reducible rfl))); simp only [Act.put, List.setIfInBounds_toArray, List.set_cons_zero, List.set_cons_succ])
            iterate 1 (refine lane_take (v := ?_) rfl (by kernel_rfl) (by kernel_rfl) (by rfl) ?_ (by exact HS.out _ HB0.out) ?_; rotate_left; (focus (intro W hSw; go_simp; try (with_reducible rfl))); simp only [Act.put, List.setIfInBounds_toArray, List.set_cons_zero, List.set_cons_succ])
            refine lane_take (v := .agg #[.int .u8 K, .int .u8 A, .int .u8 B1, .int .u8 C]) rfl (by kernel_rfl) (by kernel_rfl) (by rfl) (fun W hSw => exec_load rfl rfl (by
              have h9 := run_loadAt_mid (P := Tryz.prog) W ab (ao + k * 4) 51 _ _ (hSw.2) Tryz.underlying51 rfl info4a
              (try rw [Array.toArray_toList] at h9)
              exact h9)) (by exact HS.out _ HB0.out) ?_
            simp only [Act.put, List.setIfInBounds_toArray, List.set_cons_zero, List.set_cons_succ]
            refine lane_take (v := .agg b.arr) rfl (by kernel_rfl) (by kernel_rfl) (by rfl) (fun W hSw => exec_load rfl rfl (by
              have h9 := run_loadAt_mid (P := Tryz.prog) W D 0 35 _ _ (Kb.range_all hSw.1) Tryz.underlying35 rfl Kb.info_all
              (try rw [Array.toArray_toList] at h9)
              exact h9)) (by exact HS.out _ HB0.out) ?_
            simp only [Act.put, List.setIfInBounds_toArray, List.set_cons_zero, List.set_cons_succ]
            refine lane_two (i := 5) (j := 7) (ordI := [6, 7, 8]) (ordJ := [5, 6, 8]) rfl rfl (by kernel_rfl) rfl (by rfl) (by rfl) (fun KK hK => ?_) (fun KK hK => ?_)
            · skip
              go_simp
              refine (bkasks_any (HPB.out.below HB0.out).whole.km (fun k hk => by have := HLN.out k hk; omega)).mono ?_
              rintro e V1 ⟨v1, rfl, ho1, hb1⟩
              have HB1 : Hid (Below wr.heap.size wr V1) := HB0.out.trans (hb1.mono HB0.out.size)
              have HN : Hid (Nvs V1 0 V1.heap.size v1 (asksK b.a 32)) := (Nvs.own ho1).more (Nat.zero_le _) (Nat.le_refl _)
              clear ho1 hb1
              refine hK _ _ (HS.out _ HB1.out) (fun _ => ?_)
              clear hK KK
              refine lane_two (i := 6) (j := 7) (ordI := [7, 8]) (ordJ := [6, 8]) rfl rfl (by kernel_rfl) rfl (by rfl) (by rfl) (fun KK hK => ?_) (fun KK hK => ?_)
              · skip
                go_simp
                refine (order_any K A B1 C hk0 ⟨hA0, hA1⟩ ⟨hB0, hB1⟩ ⟨hC0, hC1⟩ HN.out HLE.out HASK.out).mono ?_
                rintro e V2 ⟨o, rfl, ho, hb2⟩
                have HO := Lib.hid ho
                have HB2 : Hid (Below wr.heap.size wr V2) := HB1.out.trans (hb2.mono HB1.out.size)
                clear ho hb2
                refine hK _ _ (HS.out _ HB2.out) (fun _ => ?_)
                clear hK KK
                refine lane_alone rfl (by kernel_rfl) (by rfl) (fun KK hK => ?_)
                go_simp
                obtain ⟨A3, hA3⟩ : ∃ A, V2.alloc (.cells #[.int .u8 0, .int .i64 0, .int .i64 0, .int .i64 0, .int .i64 0, .int .u8 0, .int .i64 0, .int .i64 0, .bool false, .bool false, .int .u8 0, .int .i64 0, .int .i64 0, .int .i64 0, .int .i64 0, .int .u8 0] 48) = A := ⟨_, rfl⟩
                have HA3 : Hid (Below wr.heap.size wr A3) := by rw [← hA3]; exact HB2.out.alloc HB2.out.size _
                have HZ : Hid (A3.heap[V2.heap.size]? = some (.cells #[.int .u8 0, .int .i64 0, .int .i64 0, .int .i64 0, .int .i64 0, .int .u8 0, .int .i64 0, .int .i64 0, .bool false, .bool false, .int .u8 0, .int .i64 0, .int .i64 0, .int .i64 0, .int .i64 0, .int .u8 0] 48 (0, 0))) := by rw [← hA3]; exact alloc_at rfl
                have hZl : V2.heap.size < A3.heap.size := by rw [← hA3]; simp
                have hZg : wr.heap.size ≤ V2.heap.size := HB2.out.size
                have hbA : Below V2.heap.size V2 A3 := by rw [← hA3]; exact (Below.refl _ _).alloc (Nat.le_refl _) _
                rw [hA3]
                obtain ⟨Z, hZe⟩ : ∃ Z, V2.heap.size = Z := ⟨_, rfl⟩
                rw [hZe] at HZ hZl hZg ⊢
                clear hA3 hbA hZe
                refine hK _ _ (HS.out _ HA3.out) (fun _ => ?_)
                clear hK KK
                refine lane_alone rfl (by kernel_rfl) (by rfl) (fun KK hK => ?_)
                refine wp_store_row 48 _ _ rfl Z o.kb rfl rfl 48 _ HZ.out (by exact info16k) rfl (by simp [Ov.kb, Value.oneCell']) ?_
                rw [row_boxed HZ.out]
                have HB9 : Hid (Below wr.heap.size wr (boxed A3 Z o.kb 48)) := boxed_below HA3.out hZg
                refine hK _ _ (HS.out _ HB9.out) (fun _ => ?_)
                clear hK KK
                refine lane_end (by kernel_rfl) ?_
                exact ⟨rfl, Z, v1, o, rfl, HB9, boxed_at hZl, hZg, by rw [boxed_size]; exact hZl, HO⟩
              · skip
                go_simp
                obtain ⟨A4, hA4⟩ : ∃ A, V1.alloc (.cells #[.int .u8 0, .int .i64 0, .int .i64 0, .int .i64 0, .int .i64 0, .int .u8 0, .int .i64 0, .int .i64 0, .bool false, .bool false, .int .u8 0, .int .i64 0, .int .i64 0, .int .i64 0, .int .i64 0, .int .u8 0] 48) = A := ⟨_, rfl⟩
                have HA4 : Hid (Below wr.heap.size wr A4) := by rw [← hA4]; exact HB1.out.alloc HB1.out.size _
                have HZ : Hid (A4.heap[V1.heap.size]? = some (.cells #[.int .u8 0, .int .i64 0, .int .i64 0, .int .i64 0, .int .i64 0, .int .u8 0, .int .i64 0, .int .i64 0, .bool false, .bool false, .int .u8 0, .int .i64 0, .int .i64 0, .int .i64 0, .int .i64 0, .int .u8 0] 48 (0, 0))) := by rw [← hA4]; exact alloc_at rfl
                have hZl : V1.heap.size < A4.heap.size := by rw [← hA4]; simp
                have hZg : wr.heap.size ≤ V1.heap.size := HB1.out.size
                have hbA : Below V1.heap.size V1 A4 := by rw [← hA4]; exact (Below.refl _ _).alloc (Nat.le_refl _) _
                rw [hA4]
                have HN : Hid (Nvs A4 0 A4.heap.size v1 (asksK b.a 32)) := (HN.out.below hbA).more (Nat.zero_le _) hbA.size
                obtain ⟨Z, hZe⟩ : ∃ Z, V1.heap.size = Z := ⟨_, rfl⟩
                rw [hZe] at HZ hZl hZg ⊢
                clear hA4 hbA hZe
                refine hK _ _ (HS.out _ HA4.out) (fun _ => ?_)
                clear hK KK
                refine lane_alone rfl (by kernel_rfl) (by rfl) (fun KK hK => ?_)
                go_simp
                refine (order_any K A B1 C hk0 ⟨hA0, hA1⟩ ⟨hB0, hB1⟩ ⟨hC0, hC1⟩ HN.out HLE.out HASK.out).mono ?_
                rintro e V5 ⟨o, rfl, ho, hb5⟩
                have HO := Lib.hid ho
                have HB5 : Hid (Below wr.heap.size wr V5) := HA4.out.trans (hb5.mono HA4.out.size)
                have HZ : Hid (V5.heap[Z]? = _) := (hb5.block Z (by omega)).trans HZ.out
                have hZl : Z < V5.heap.size := by have := hb5.size; omega
                clear ho hb5
                refine hK _ _ (HS.out _ HB5.out) (fun _ => ?_)
                clear hK KK
                refine lane_alone rfl (by kernel_rfl) (by rfl) (fun KK hK => ?_)
                refine wp_store_row 48 _ _ rfl Z o.kb rfl rfl 48 _ HZ.out (by exact info16k) rfl (by simp [Ov.kb, Value.oneCell']) ?_
                rw [row_boxed HZ.out]
                have HB9 : Hid (Below wr.heap.size wr (boxed V5 Z o.kb 48)) := boxed_below HB5.out hZg
                refine hK _ _ (HS.out _ HB9.out) (fun _ => ?_)
                clear hK KK
                refine lane_end (by kernel_rfl) ?_
                exact ⟨rfl, Z, v1, o, rfl, HB9, boxed_at hZl, hZg, by rw [boxed_size]; exact hZl, HO⟩
            · skip
              go_simp
              obtain ⟨A7, hA7⟩ : ∃ A, V0.alloc (.cells #[.int .u8 0, .int .i64 0, .int .i64 0, .int .i64 0, .int .i64 0, .int .u8 0, .int .i64 0, .int .i64 0, .bool false, .bool false, .int .u8 0, .int .i64 0, .int .i64 0, .int .i64 0, .int .i64 0, .int .u8 0] 48) = A := ⟨_, rfl⟩
              have HA7 : Hid (Below wr.heap.size wr A7) := by rw [← hA7]; exact HB0.out.alloc HB0.out.size _
              have HZ : Hid (A7.heap[V0.heap.size]? = some (.cells #[.int .u8 0, .int .i64 0, .int .i64 0, .int .i64 0, .int .i64 0, .int .u8 0, .int .i64 0, .int .i64 0, .bool false, .bool false, .int .u8 0, .int .i64 0, .int .i64 0, .int .i64 0, .int .i64 0, .int .u8 0] 48 (0, 0))) := by rw [← hA7]; exact alloc_at rfl
              have hZl : V0.heap.size < A7.heap.size := by rw [← hA7]; simp
              have hZg : wr.heap.size ≤ V0.heap.size := HB0.out.size
              have hbA : Below V0.heap.size V0 A7 := by rw [← hA7]; exact (Below.refl _ _).alloc (Nat.le_refl _) _
              rw [hA7]
              obtain ⟨Z, hZe⟩ : ∃ Z, V0.heap.size = Z := ⟨_, rfl⟩
              rw [hZe] at HZ hZl hZg ⊢
              clear hA7 hbA hZe
              refine hK _ _ (HS.out _ HA7.out) (fun _ => ?_)
              clear hK KK
              refine lane_alone rfl (by kernel_rfl) (by rfl) (fun KK hK => ?_)
              go_simp
              refine (bkasks_any (HPB.out.below HA7.out).whole.km (fun k hk => by have := HLN.out k hk; omega)).mono ?_
              rintro e V8 ⟨v1, rfl, ho8, hb8⟩
              have HB8 : Hid (Below wr.heap.size wr V8) := HA7.out.trans (hb8.mono HA7.out.size)
              have HN : Hid (Nvs V8 0 V8.heap.size v1 (asksK b.a 32)) := (Nvs.own ho8).more (Nat.zero_le _) (Nat.le_refl _)
              have HZ : Hid (V8.heap[Z]? = _) := (hb8.block Z (by omega)).trans HZ.out
              have hZl : Z < V8.heap.size := by have := hb8.size; omega
              clear ho8 hb8
              refine hK _ _ (HS.out _ HB8.out) (fun _ => ?_)
              clear hK KK
              refine lane_alone rfl (by kernel_rfl) (by rfl) (fun KK hK => ?_)
              go_simp
              refine (order_any K A B1 C hk0 ⟨hA0, hA1⟩ ⟨hB0, hB1⟩ ⟨hC0, hC1⟩ HN.out HLE.out HASK.out).mono ?_
              rintro e V9 ⟨o, rfl, ho, hb9⟩
              have HO := Lib.hid ho
              have HB9 : Hid (Below wr.heap.size wr V9) := HB8.out.trans (hb9.mono HB8.out.size)
              have HZ : Hid (V9.heap[Z]? = _) := (hb9.block Z (by omega)).trans HZ.out
              have hZl : Z < V9.heap.size := by have := hb9.size; omega
              clear ho hb9
              refine hK _ _ (HS.out _ HB9.out) (fun _ => ?_)
              clear hK KK
              refine lane_alone rfl (by kernel_rfl) (by rfl) (fun KK hK => ?_)
              refine wp_store_row 48 _ _ rfl Z o.kb rfl rfl 48 _ HZ.out (by exact info16k) rfl (by simp [Ov.kb, Value.oneCell']) ?_
              rw [row_boxed HZ.out]
              have HB9 : Hid (Below wr.heap.size wr (boxed V9 Z o.kb 48)) := boxed_below HB9.out hZg
              refine hK _ _ (HS.out _ HB9.out) (fun _ => ?_)
              clear hK KK
              refine lane_end (by kernel_rfl) ?_
              exact ⟨rfl, Z, v1, o, rfl, HB9, boxed_at hZl, hZg, by rw [boxed_size]; exact hZl, HO⟩
          rintro Z v o w9 ⟨HB9, HZ9, hz1, hz2, HO⟩
          have HW9 : Hid (Below w.heap.size w w9) := HW.out.trans (HB9.out.mono HW.out.size)
          have HD9 : Hid (w9.heap[D]? = some (.cells b.arr 35 (0, 0))) := (HB9.out.block D hzr).trans HD.out
          have HE9 : Hid (w9.heap[E]? = some (.cells d.arr 35 (0, 0))) := (HB9.out.block E hzE).trans HE.out
          have HPB9 : Hid (KbP D E w9 b B) := HPB.out.below HB9.out
          have HPD9 : Hid (KbP D E w9 d B) := HPD.out.below HB9.out
          obtain ⟨n1, n2, n3⟩ := HO.out.num
          obtain ⟨x, B9, hdid⟩ := Did.total (G := 40) HP.out.ok (by omega) (by omega) (by omega) n1 n2
          have HDID := Lib.hid hdid
          have HGO : Hid (Goes (((j + k : Nat) : Int) + 1) B9) := HP.out.next hdid HO.out
          clear hdid n1 n2 n3 HW HD HE HPB HPD HB9 HS HLN HLE HASK
          go_wp2_with (((with_reducible_and_instances (show wpList _ _ _ (Oper.mk _ (Op.load 35 _) _ _ _ _ :: _) _ _)); refine stop_here ?_))
          refine ⟨?_⟩
          refine wl_load (cs := b.arr) (fr := (0, 0)) (g := D) Tryz.underlying35 rfl Kb.info rfl rfl rfl HD9.out (Kb.arr_size _) ?_
          go_wp2_with (((with_reducible_and_instances (show wpList _ _ _ (Oper.mk _ (Op.load 48 _) _ _ _ _ :: _) _ _)); refine stop_here ?_))
          refine ⟨?_⟩
          refine wl_load (cs := o.kb) (fr := (0, 0)) (g := Z) Tryz.underlying48 rfl info16k rfl rfl rfl HZ9.out rfl ?_
          go_wp2_with fail
          refine (did_prog HP.out.ok (by omega) (by omega) HDID.out HPB9.out.whole).mono ?_
          rintro e w10 ⟨c, rfl, hone, hck, _, hb10⟩
          have HCK := Lib.hid hck
          have HB10 := Lib.hid hb10
          have hs10 : w9.heap.size ≤ w10.heap.size := hb10.size
          clear hb10 hck
          go_wp2_with (((with_reducible_and_instances (show wpList _ _ _ (Oper.mk _ (Op.store 35 _ _) _ _ _ _ :: _) _ _)); refine stop_here ?_))
          refine ⟨?_⟩
          refine wl_store (g := w10.heap.size) Kb.info rfl rfl rfl rfl (alloc_at rfl) Kb.zero_size (Kb.arr_size _) hone.arr ?_
          obtain ⟨U, hU⟩ : ∃ U, boxed (w10.alloc (.cells Tryz.zeroCells35 35)) w10.heap.size c.arr 35 = U := ⟨_, rfl⟩
          obtain ⟨Y, hY⟩ : ∃ Y, w10.heap.size = Y := ⟨_, rfl⟩
          have hbU : Below w10.heap.size w10 U := by rw [← hU]; exact boxed_below ((Below.refl _ w10).alloc (Nat.le_refl _) _) (Nat.le_refl _)
          have hbb : Below w9.heap.size w9 U := HB10.out.trans (hbU.mono HB10.out.size)
          have HYU : Hid (U.heap[Y]? = some (.cells c.arr 35 (0, 0))) := Lib.hid (by rw [← hU, ← hY]; exact boxed_at (by simp))
          have HDU : Hid (U.heap[D]? = some (.cells b.arr 35 (0, 0))) := Lib.hid ((hbb.block D (by omega)).trans HD9.out)
          have HEU : Hid (U.heap[E]? = some (.cells d.arr 35 (0, 0))) := Lib.hid ((hbb.block E (by omega)).trans HE9.out)
          have HZU : Hid (U.heap[Z]? = some (.cells o.kb 48 (0, 0))) := Lib.hid ((hbb.block Z hz2).trans HZ9.out)
          have HWU : Hid (Below w.heap.size w U) := Lib.hid (HW9.out.trans (hbb.mono HW9.out.size))
          have HPBU : Hid (KbP D E U b B) := Lib.hid (HPB9.out.below hbb)
          have HPDU : Hid (KbP D E U d B) := Lib.hid (HPD9.out.below hbb)
          have HPC : Hid (x = 0 → KbP D E U c B9) := Lib.hid fun hx => ((HCK.out hx).p (E := E) (D := D) (by omega) (by omega)).below hbU
          have hYU : Y < U.heap.size := (Array.getElem?_eq_some_iff.1 HYU.out).1
          have hsU : w9.heap.size ≤ U.heap.size := hbb.size
          rw [hU, hY]
          clear hU hY hbU hbb HD9 HE9 HZ9 HW9 HPB9 HPD9 HCK HB10 hs10
          go_wp2_with (((with_reducible_and_instances (show wpList _ _ _ (Oper.mk _ (Op.load 35 _) _ _ _ _ :: _) _ _)); refine stop_here ?_))
          refine ⟨?_⟩
          refine wl_load (cs := d.arr) (fr := (0, 0)) (g := E) Tryz.underlying35 rfl Kb.info rfl rfl rfl HEU.out (Kb.arr_size _) ?_
          go_wp2_with (((with_reducible_and_instances (show wpList _ _ _ (Oper.mk _ (Op.load 48 _) _ _ _ _ :: _) _ _)); refine stop_here ?_))
          refine ⟨?_⟩
          refine wl_load (cs := o.kb) (fr := (0, 0)) (g := Z) Tryz.underlying48 rfl info16k rfl rfl rfl HZU.out rfl ?_
          go_wp2_with fail
          refine (did_prog HP.out.ok (by omega) (by omega) HDID.out HPDU.out.whole).mono ?_
          rintro e w11 ⟨c2, rfl, hone2, hck, _, hb11⟩
          have HCK := Lib.hid hck
          have HB11 := Lib.hid hb11
          have hs11 : U.heap.size ≤ w11.heap.size := hb11.size
          clear hb11 hck
          go_wp2_with (((with_reducible_and_instances (show wpList _ _ _ (Oper.mk _ (Op.store 35 _ _) _ _ _ _ :: _) _ _)); refine stop_here ?_))
          refine ⟨?_⟩
          refine wl_store (g := w11.heap.size) Kb.info rfl rfl rfl rfl (alloc_at rfl) Kb.zero_size (Kb.arr_size _) hone2.arr ?_
          obtain ⟨V, hV⟩ : ∃ V, boxed (w11.alloc (.cells Tryz.zeroCells35 35)) w11.heap.size c2.arr 35 = V := ⟨_, rfl⟩
          obtain ⟨X, hX⟩ : ∃ X, w11.heap.size = X := ⟨_, rfl⟩
          have hbV : Below w11.heap.size w11 V := by rw [← hV]; exact boxed_below ((Below.refl _ w11).alloc (Nat.le_refl _) _) (Nat.le_refl _)
          have hbb : Below U.heap.size U V := HB11.out.trans (hbV.mono HB11.out.size)
          have HXV : Hid (V.heap[X]? = some (.cells c2.arr 35 (0, 0))) := Lib.hid (by rw [← hV, ← hX]; exact boxed_at (by simp))
          have HYV : Hid (V.heap[Y]? = some (.cells c.arr 35 (0, 0))) := Lib.hid ((hbb.block Y hYU).trans HYU.out)
          have HDV : Hid (V.heap[D]? = some (.cells b.arr 35 (0, 0))) := Lib.hid ((hbb.block D (by omega)).trans HDU.out)
          have HEV : Hid (V.heap[E]? = some (.cells d.arr 35 (0, 0))) := Lib.hid ((hbb.block E (by omega)).trans HEU.out)
          have HWV : Hid (Below w.heap.size w V) := Lib.hid (HWU.out.trans (hbb.mono HWU.out.size))
          have HPBV : Hid (KbP D E V b B) := Lib.hid (HPBU.out.below hbb)
          have HPDV : Hid (KbP D E V d B) := Lib.hid (HPDU.out.below hbb)
          have HPCV : Hid (x = 0 → KbP D E V c B9) := Lib.hid fun hx => (HPC.out hx).below hbb
          have HPC2 : Hid (x = 0 → KbP D E V c2 B9) := Lib.hid fun hx => ((HCK.out hx).p (E := E) (D := D) (by omega) (by omega)).below hbV
          have hXV : X < V.heap.size := (Array.getElem?_eq_some_iff.1 HXV.out).1
          have hsV : U.heap.size ≤ V.heap.size := hbb.size
          have hUX : U.heap.size ≤ X := by omega
          have hone9 := hone.arr
          have hone29 := hone2.arr
          rw [hV, hX]
          clear hV hX hbV hbb HDU HEU HZU HWU HPBU HPDU HPC HCK HB11 hs11 HYU hone hone2
          by_cases hx : x = 0
          · subst hx
            have HPCD := Lib.hid (HPCV.out rfl)
            have HPCE := Lib.hid (HPC2.out rfl)
            clear HPCV HPC2
            go_wp2_with (((with_reducible_and_instances (show wpList _ _ _ (Oper.mk _ (Op.load 35 _) _ _ _ _ :: _) _ _)); refine stop_here ?_))
            refine ⟨?_⟩
            refine wl_load (cs := c.arr) (fr := (0, 0)) (g := Y) Tryz.underlying35 rfl Kb.info rfl rfl rfl HYV.out (Kb.arr_size _) ?_
            go_wp2_with (((with_reducible_and_instances (show wpList _ _ _ (Oper.mk _ (Op.store 35 _ _) _ _ _ _ :: _) _ _)); refine stop_here ?_))
            refine ⟨?_⟩
            refine wl_store (g := D) Kb.info rfl rfl rfl rfl HDV.out (Kb.arr_size _) (Kb.arr_size _) hone9 ?_
            go_wp2_with (((with_reducible_and_instances (show wpList _ _ _ (Oper.mk _ (Op.load 35 _) _ _ _ _ :: _) _ _)); refine stop_here ?_))
            refine ⟨?_⟩
            refine wl_load (cs := c2.arr) (fr := (0, 0)) (g := X) Tryz.underlying35 rfl Kb.info rfl rfl rfl (boxed_old (by omega) HXV.out) (Kb.arr_size _) ?_
            go_wp2_with (((with_reducible_and_instances (show wpList _ _ _ (Oper.mk _ (Op.store 35 _ _) _ _ _ _ :: _) _ _)); refine stop_here ?_))
            refine ⟨?_⟩
            refine wl_store (g := E) Kb.info rfl rfl rfl rfl (boxed_old (by omega) HEV.out) (Kb.arr_size _) (Kb.arr_size _) hone29 ?_
            go_wp2_with fail
            go_roundw
            case rel => exact ⟨k + 1, c, c2, B9, by omega, by go_num, boxed_below (boxed_below HWV.out (by omega)) (by omega), boxed_old (by omega) (boxed_at (by omega)), boxed_at (by rw [boxed_size]; omega), Lib.hid HPCD.out.boxD.boxE, Lib.hid HPCE.out.boxD.boxE, HGO⟩
            case measure => simp [intOf]; omega
          · have dx : (x == 0) = false := by simpa using hx
            clear HPCV HPC2
            go_wp2_with fail
            go_roundw
            case rel => exact ⟨k + 1, b, d, B, by omega, by go_num, HWV, HDV, HEV, HPBV, HPDV, HP.out.stay⟩
            case measure => simp [intOf]; omega
        case neg =>
          obtain rfl : k = m := by omega
          have dlt : decide ((k : Int) < (k : Int)) = false := by simp
          obtain ⟨EB, hEB⟩ : ∃ EB, bst B.bytes = EB := ⟨_, rfl⟩
          have HEB := Lib.hid hEB
          clear hEB hlt
          go_upto_region 25 with fail
          apply region_frame2v (fun w' => Hid (Below wr.heap.size wr w'))
          · skip
            refine lane_start (ord := [0, 3, 1, 2, 4, 5, 6, 7]) (S := fun w' => Below wr.heap.size wr w') rfl (by kernel_rfl) (by exact (Below.refl _ wr).drew) (fun _ => ?_)
            obtain ⟨V0, hV0⟩ : ∃ V0, wr.drew = V0 := ⟨_, rfl⟩
            have HB0 : Hid (Below wr.heap.size wr V0) := by rw [← hV0]; exact (Below.refl _ wr).drew
            rw [hV0]
            clear hV0
            refine lane_take (v := .agg b.arr) rfl (by kernel_rfl) (by kernel_rfl) (by rfl) (fun W hSw => exec_load rfl rfl (by
              have h9 := run_loadAt_mid (P := Tryz.prog) W D 0 35 _ _ (Kb.range_all ((hSw.block D hzr).trans HD.out)) Tryz.underlying35 rfl Kb.info_all
              (try rw [Array.toArray_toList] at h9)
              exact h9)) (by exact HB0.out) ?_
            (try simp only [Act.put, List.setIfInBounds_toArray, List.set_cons_zero, List.set_cons_succ])
            refine lane_take (v := .agg d.arr) rfl (by kernel_rfl) (by kernel_rfl) (by rfl) (fun W hSw => exec_load rfl rfl (by
              have h9 := run_loadAt_mid (P := Tryz.prog) W E 0 35 _ _ (Kb.range_all ((hSw.block E hzE).trans HE.out)) Tryz.underlying35 rfl Kb.info_all
              (try rw [Array.toArray_toList] at h9)
              exact h9)) (by exact HB0.out) ?_
            (try simp only [Act.put, List.setIfInBounds_toArray, List.set_cons_zero, List.set_cons_succ])
            refine lane_alone rfl (by kernel_rfl) (by rfl) (fun KK hK => ?_)
            go_simp
            refine (encode_gs (HPB.out.below HB0.out).whole HP.out (by omega) HEB.out).mono ?_
            rintro e V1 ⟨v1, rfl, hcx, hb1⟩
            have HB1 : Hid (Below wr.heap.size wr V1) := HB0.out.trans (hb1.mono HB0.out.size)
            refine hK _ _ HB1.out (fun _ => ?_)
            clear hK KK hb1
            (try simp only [Act.put, List.setIfInBounds_toArray, List.set_cons_zero, List.set_cons_succ])
            refine lane_into (S' := fun w' => Below V1.heap.size V1 w') (fun w' h => HB1.out.trans (h.mono HB1.out.size)) (Below.refl _ V1) (fun _ => ?_)
            iterate 1 (refine lane_take (v := ?_) rfl (by kernel_rfl) (by kernel_rfl) (by rfl) ?_ (by exact Below.refl _ V1) ?_; rotate_left; (focus (intro W hSw; have q := hcx.out W hSw; go_simp; try (with_reducible rfl))); (try simp only [Act.put, List.setIfInBounds_toArray, List.set_cons_zero, List.set_cons_succ]))
            refine lane_alone rfl (by kernel_rfl) (by rfl) (fun KK hK => ?_)
            go_simp
            refine (encode_gs (HPD.out.below HB1.out).whole HP.out (by omega) HEB.out).mono ?_
            rintro e V2 ⟨v2, rfl, hcy, hb2⟩
            have HB2 : Hid (Below wr.heap.size wr V2) := HB1.out.trans (hb2.mono HB1.out.size)
            refine hK _ _ hb2 (fun _ => ?_)
            clear hK KK
            (try simp only [Act.put, List.setIfInBounds_toArray, List.set_cons_zero, List.set_cons_succ])
            refine lane_into (S' := fun w' => Below V2.heap.size V2 w') (fun w' h => hb2.trans (h.mono hb2.size)) (Below.refl _ V2) (fun _ => ?_)
            iterate 1 (refine lane_take (v := ?_) rfl (by kernel_rfl) (by kernel_rfl) (by rfl) ?_ (by exact Below.refl _ V2) ?_; rotate_left; (focus (intro W hSw; have q := hcy.out W hSw; go_simp; try (with_reducible rfl))); (try simp only [Act.put, List.setIfInBounds_toArray, List.set_cons_zero, List.set_cons_succ]))
            refine lane_take (v := .bool true) rfl (by kernel_rfl) (by kernel_rfl) (by rfl) (fun W hSw => ?_) (by exact Below.refl _ V2) ?_
            · go_simp
              try rfl
            (try simp only [Act.put, List.setIfInBounds_toArray, List.set_cons_zero, List.set_cons_succ])
            iterate 1 (refine lane_take (v := ?_) rfl (by kernel_rfl) (by kernel_rfl) (by rfl) ?_ (by exact Below.refl _ V2) ?_; rotate_left; (focus (intro W hSw; go_simp; try (with_reducible rfl))); (try simp only [Act.put, List.setIfInBounds_toArray, List.set_cons_zero, List.set_cons_succ]))
            refine lane_end (by kernel_rfl) ?_
            exact ⟨rfl, v1, v2, rfl, HB2⟩
          rintro v1 v2 w10 HB10
          go_wp2
          go_ret
          exact ⟨rfl, HW.out.trans (HB10.out.mono HW.out.size)⟩
end Go.Proofs.YtblikgbcakgdnaaGreat
