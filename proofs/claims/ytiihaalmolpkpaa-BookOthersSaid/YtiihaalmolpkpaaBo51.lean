/-
  BookOthers: an order of one subscription changes no other one. No conditions.
-/
import Derived.Deep.CutRange
import Derived.Test.YtiihaalmolpkpaaBo50
set_option linter.unusedSimpArgs false
set_option linter.unusedVariables false
namespace Go.Proofs.Ytiihaalmolpkpaa
set_option linter.unusedVariables false
set_option linter.unusedSimpArgs false
set_option maxRecDepth 100000
open Go.ChangeShapes Go.WideShapes Go.ChangeAt Go.RowKit

/-- The document's book with nothing in it. -/
def Bk.nil : Bk := ⟨0, .slice none 0 0, fun _ => ⟨0, 0, 0, 0, 0, false, []⟩, fun _ => .slice none 0 0⟩
theorem row226b (f : Nat → Value) : (Array.ofFn (n := 226) fun k => f k.val) = ((List.range 226).map f).toArray := by
  apply Array.ext_getElem?
  intro k
  rw [Array.getElem?_ofFn]
  by_cases h : k < 226
  · simp [h]
  · simp [h]
theorem Bk.zero_built : Try.prog.built 73 [] = some Bk.nil.arr := by
  rw [Bk.arr_row]
  unfold Bk.row
  rw [row226b]
  kernel_rfl
theorem Bk.nil_one : Bk.nil.arr.all (·.oneCell') = true := Bk.One.arr ⟨rfl, fun _ _ => rfl⟩
/-- Five fields of a book's subscription. -/
theorem Kb.five {w : World} {B k : Nat} {b : Kb} {t : TypeId} {fr : Nat × Nat} {av : Av} {A : Option Addr} {n c : Nat} (h : w.heap[B]? = some (.cells b.arr t fr)) (hk : k < 32) (ha : b.a k = av) (hv : b.v k = .slice A n c) :
    w.cell? ⟨B, 2 + k * 13, none⟩ = some (.int .u8 av.st) ∧ w.cell? ⟨B, 2 + k * 13 + 4, none⟩ = some (.int .i64 av.ct) ∧ w.cell? ⟨B, 2 + k * 13 + 5, none⟩ = some (.int .i64 av.cr) ∧ w.cell? ⟨B, 2 + k * 13 + 7, none⟩ = some (.slice A n c) ∧ w.rangeAt B (2 + k * 13 + 8) [.int .i64 av.dn, .int .i64 av.un, .int .i64 av.rf, .int .i64 av.sp, .int .i64 av.pd] := by
  subst ha
  refine ⟨Kb.cell (j := 0) h hk (by omega) rfl, Kb.cell (j := 4) h hk (by omega) rfl, Kb.cell (j := 5) h hk (by omega) rfl, Kb.cell (j := 7) h hk (by omega) (by rw [hv]; rfl), fun j u hu => ?_⟩
  have hj : j < 5 := (List.getElem?_eq_some_iff.1 hu).1
  have := Kb.cell (j := 8 + j) (u := u) h hk (by omega) (by match j, hj with | 0, _ | 1, _ | 2, _ | 3, _ | 4, _ => exact hu)
  rw [show 2 + k * 13 + 8 + j = 2 + k * 13 + (8 + j) by omega]
  exact this
set_option maxHeartbeats 16000000 in
theorem bookOthers_walk {w : World} (a0 : Int) (w0 : (Lit.int .u16 a0).wf = true) (A1 : Option Addr) (c1 : Nat) (l : List Ac4) (r1 : RdAc4 w w.heap.size A1 l) (w1 : ∀ p ∈ l, Ac4.Wf p) (K0 A0 B0 C0 : Int) (hk : Ac4.Wf ⟨K0, A0, B0, C0⟩) :
    Calls Try.prog 6 #[.int .u16 a0, .slice A1 l.length c1, .agg #[.int .u8 K0, .int .u8 A0, .int .u8 B0, .int .u8 C0]] w fun e w' => e = .returned (.bool true) ∧ Below w.heap.size w w' := by
  obtain ⟨h00, h01⟩ := wf_u16 w0
  obtain ⟨⟨k00, k01⟩, ⟨k10, k11⟩, ⟨k20, k21⟩, ⟨k30, k31⟩⟩ := hk
  dsimp only at k00 k01 k10 k11 k20 k21 k30 k31
  have HRD := Lib.hid r1
  have HWF := Lib.hid w1
  obtain ⟨n, hn⟩ : ∃ n, l.length = n := ⟨_, rfl⟩
  rw [hn]
  have HN0 := Lib.hid hn
  clear r1 w1 hn
  go_enter Try.func6, Try.ntmps6
  go_wp2_with fail
  have fX0 : (w.alloc (.cells #[.int .u8 K0, .int .u8 A0, .int .u8 B0, .int .u8 C0] 64)).heap[w.heap.size]? = some (.cells #[.int .u8 K0, .int .u8 A0, .int .u8 B0, .int .u8 C0] 64 (0, 0)) := alloc_at rfl
  have HWB : Hid (Below w.heap.size w (w.alloc (.cells #[.int .u8 K0, .int .u8 A0, .int .u8 B0, .int .u8 C0] 64))) := (Below.refl _ w).alloc (Nat.le_refl _) _
  refine (bkawake_any _).mono ?_
  rintro e u1 ⟨rfl, hb1⟩
  have HW1 : Hid (Below w.heap.size w u1) := HWB.out.trans (hb1.mono HWB.out.size)
  have fX1 := below_block hb1 fX0
  clear fX0
  clear hb1 HWB
  by_cases hlong : 30 < n
  · have d1 : decide (30 < (n : Int)) = true := by simp; omega
    have d2 : decide ((n : Int) > 30) = true := by simp; omega
    go_wp2_with fail
    refine (bkawake_any _).mono ?_
    rintro e u2 ⟨rfl, hb2⟩
    go_wp2_with fail
    go_ret
    exact ⟨rfl, HW1.out.trans (hb2.mono HW1.out.size)⟩
  have d1 : decide (30 < (n : Int)) = false := by simp; omega
  have d2 : decide ((n : Int) > 30) = false := by simp; omega
  go_wp2_with fail
  refine (new_any (700000 + a0) _).mono ?_
  rintro e u2 ⟨rfl, hb2⟩
  have HW2 : Hid (Below w.heap.size w u2) := HW1.out.trans (hb2.mono HW1.out.size)
  have fX2 := below_block hb2 fX1
  clear fX1
  clear hb2 HW1
  go_wp2_with (((with_reducible_and_instances (show wpList _ _ _ (Oper.mk _ (Op.store 53 _ _) _ _ _ _ :: _) _ _)); refine stop_here ?_))
  refine ⟨?_⟩
  refine wl_store (g := u2.heap.size) Kb.info rfl rfl rfl rfl (alloc_at rfl) Kb.zero_size (Kb.arr_size _) (Kb.new_one _).arr ?_
  obtain ⟨U1, hU1⟩ : ∃ U1, boxed (u2.alloc (.cells Try.zeroCells53 53)) u2.heap.size (Kb.new (700000 + a0)).arr 53 = U1 := ⟨_, rfl⟩
  have HD5 : Hid (U1.heap[u2.heap.size]? = some (.cells (Kb.new (700000 + a0)).arr 53 (0, 0))) := by rw [← hU1]; exact boxed_at (by simp)
  have HW5 : Hid (Below w.heap.size w U1) := by rw [← hU1]; exact boxed_below (HW2.out.alloc HW2.out.size _) HW2.out.size
  have HX5 : Hid (U1.heap[w.heap.size]? = some (.cells #[.int .u8 K0, .int .u8 A0, .int .u8 B0, .int .u8 C0] 64 (0, 0))) := by rw [← hU1]; exact boxed_old (by have := (Array.getElem?_eq_some_iff.1 fX2).1; omega) (alloc_old (Array.getElem?_eq_some_iff.1 fX2).1 fX2)
  have hX5 : w.heap.size < u2.heap.size := (Array.getElem?_eq_some_iff.1 fX2).1
  clear fX2
  have hwD : w.heap.size ≤ u2.heap.size := HW2.out.size
  rw [hU1]
  clear hU1 HW2
  generalize u2.heap.size = D at *
  go_wp2_with fail
  go_loopw [8] (fun i wq => ∃ (j : Nat) (b : Kb) (ps : List Pv), j ≤ n ∧ i = .int .i64 j ∧ Hid (Below w.heap.size w wq) ∧ Hid (wq.heap[D]? = some (.cells b.arr 53 (0, 0))) ∧ Hid (KbM wq (D + 1) wq.heap.size b ps) ∧ Hid (PBok (1100000000 * (j : Int)) (40 * (j : Int) + 1) b.td b.a ps) ∧ b.td ≤ 800000 + 40 * (j : Int) ∧ Hid (wq.heap[w.heap.size]? = some (.cells #[.int .u8 K0, .int .u8 A0, .int .u8 B0, .int .u8 C0] 64 (0, 0)))) (fun i _ => n - (intOf i).toNat)
  case atStart => exact ⟨0, Kb.new (700000 + a0), [], by omega, rfl, HW5, HD5, new_km _ _ _ _, (new_ok (by omega)).more (by omega) (by omega), by show 700000 + a0 ≤ _; omega, HX5⟩
  case round =>
    clear HW5 HD5 HX5
    obtain ⟨j, b, ps, hj, rfl, HW, HD, HK, HP, htd, HX⟩ := hrel
    by_cases hlt : j < n
    case pos =>
      have dlt : decide ((j : Int) < (n : Int)) = true := by simp; omega
      have hln := HN0.out
      obtain ⟨⟨K, A, B, C⟩, hact⟩ : ∃ p, l[j]? = some p := ⟨_, List.getElem?_eq_getElem (by omega)⟩
      obtain ⟨ab, ao, hAd, hab, hrd⟩ := HRD.out j _ hact
      subst hAd
      obtain ⟨⟨hk0, hk1⟩, ⟨hA0, hA1⟩, ⟨hB0, hB1⟩, ⟨hC0, hC1⟩⟩ := HWF.out _ (List.mem_of_getElem? hact)
      dsimp only at hk0 hk1 hA0 hA1 hB0 hB1 hC0 hC1
      have hzr : D < wr.heap.size := (Array.getElem?_eq_some_iff.1 HD.out).1
      have HS : Hid (∀ V, Below wr.heap.size wr V → (fun w' : World => w'.heap[D]? = some (.cells b.arr 53 (0, 0)) ∧ w'.rangeAt ab (ao + j * 4) (Ac4.cs ⟨K, A, B, C⟩)) V) := fun V hV => ⟨(hV.block D hzr).trans HD.out, fun i v hv => (World.cell?_of_block (a := ⟨ab, ao + j * 4 + i, none⟩) ((hV.block ab (by have := HW.out.size; omega)).trans (HW.out.block _ hab))).trans (hrd i v hv)⟩
      have hjI : (j : Int) < (n : Int) := by omega
      have hjJ : (0 : Int) ≤ (j : Int) := by omega
      clear hact hrd
      have HLN : Hid (∀ k, k < 32 → (b.a k).l.length ≤ 9000) := HP.out.lens (by omega)
      have HLE : Hid ((asksK b.a 32).length ≤ 100000000) := Nat.le_trans (asksK_len (m := 9000) HLN.out 32 (Nat.le_refl _)) (by omega)
      have HASK : Hid (∀ m ∈ asksK b.a 32, (∃ j : Nat, j < 32 ∧ m.s = (j : Int)) ∧ 0 ≤ m.t ∧ m.t ≤ 1000000) := HP.out.asked (by omega)
      go_upto_region 7 with fail
      apply region_frame5 (fun Z c x v o w' => Hid (Below wr.heap.size wr w') ∧ Hid (w'.heap[Z]? = some (.cells c.arr 53 (0, 0))) ∧ wr.heap.size ≤ Z ∧ Z < w'.heap.size ∧ Hid (x = 0 → ∃ ps', KbM w' (D + 1) w'.heap.size c ps' ∧ PBok ((1100000000 * (j : Int)) + 1100000000) ((40 * (j : Int) + 1) + 40) c.td c.a ps' ∧ Apart o b.td b.a c.td c.a) ∧ Hid (OForm o))
      · skip
        refine lane_start (ord := [0, 1, 2, 3, 4, 5, 6, 7, 8, 9, 10, 11, 12, 13, 14]) (S := (fun w' : World => w'.heap[D]? = some (.cells b.arr 53 (0, 0)) ∧ w'.rangeAt ab (ao + j * 4) (Ac4.cs ⟨K, A, B, C⟩))) rfl (by kernel_rfl) (by exact HS.out _ (Below.refl _ wr).drew) (fun _ => ?_)
        obtain ⟨V0, hV0⟩ : ∃ V0, wr.drew = V0 := ⟨_, rfl⟩
        have HB0 : Hid (Below wr.heap.size wr V0) := by rw [← hV0]; exact (Below.refl _ wr).drew
        rw [hV0]
        clear hV0
        refine lane_take (v := .agg b.arr) rfl (by kernel_rfl) (by kernel_rfl) (by rfl) (fun W hSw => exec_load rfl rfl (by
          have h9 := run_loadAt_mid (P := Try.prog) W D 0 53 _ _ (Kb.range_all hSw.1) Try.underlying53 rfl Kb.info_all
          (try rw [Array.toArray_toList] at h9)
          exact h9)) (by exact HS.out _ HB0.out) ?_
        simp only [Act.put, List.setIfInBounds_toArray, List.set_cons_zero, List.set_cons_succ]
        iterate 1 (refine lane_take (v := ?_) rfl (by kernel_rfl) (by kernel_rfl) (by rfl) ?_ (by exact HS.out _ HB0.out) ?_; rotate_left; (focus (intro W hSw; go_simp; try (with_reducible rfl))); simp only [Act.put, List.setIfInBounds_toArray, List.set_cons_zero, List.set_cons_succ])
        iterate 1 (refine lane_take (v := ?_) rfl (by kernel_rfl) (by kernel_rfl) (by rfl) ?_ (by exact HS.out _ HB0.out) ?_; rotate_left; (focus (intro W hSw; go_simp; try (with_reducible rfl))); simp only [Act.put, List.setIfInBounds_toArray, List.set_cons_zero, List.set_cons_succ])
        iterate 1 (refine lane_take (v := ?_) rfl (by kernel_rfl) (by kernel_rfl) (by rfl) ?_ (by exact HS.out _ HB0.out) ?_; rotate_left; (focus (intro W hSw; go_simp; try (with_reducible rfl))); simp only [Act.put, List.setIfInBounds_toArray, List.set_cons_zero, List.set_cons_succ])
        refine lane_take (v := .agg #[.int .u8 K, .int .u8 A, .int .u8 B, .int .u8 C]) rfl (by kernel_rfl) (by kernel_rfl) (by rfl) (fun W hSw => exec_load rfl rfl (by
          have h9 := run_loadAt_mid (P := Try.prog) W ab (ao + j * 4) 64 _ _ (hSw.2) Try.underlying64 rfl info4a
          (try rw [Array.toArray_toList] at h9)
          exact h9)) (by exact HS.out _ HB0.out) ?_
        simp only [Act.put, List.setIfInBounds_toArray, List.set_cons_zero, List.set_cons_succ]
        refine lane_take (v := .agg b.arr) rfl (by kernel_rfl) (by kernel_rfl) (by rfl) (fun W hSw => exec_load rfl rfl (by
          have h9 := run_loadAt_mid (P := Try.prog) W D 0 53 _ _ (Kb.range_all hSw.1) Try.underlying53 rfl Kb.info_all
          (try rw [Array.toArray_toList] at h9)
          exact h9)) (by exact HS.out _ HB0.out) ?_
        simp only [Act.put, List.setIfInBounds_toArray, List.set_cons_zero, List.set_cons_succ]
        refine lane_two (i := 6) (j := 12) (ordI := [7, 8, 9, 10, 11, 12, 13, 14]) (ordJ := [6, 7, 8, 9, 10, 11, 13, 14]) rfl rfl (by kernel_rfl) rfl (by rfl) (by rfl) (fun KK hK => ?_) (fun KK hK => ?_)
        · skip
          go_simp
          refine (bkasks_any ((HK.out.below HB0.out).more (Nat.zero_le _) HB0.out.size) (fun k hk => by have := HLN.out k hk; omega)).mono ?_
          rintro e V1 ⟨v1, rfl, ho1, hb1⟩
          have HB1 : Hid (Below wr.heap.size wr V1) := HB0.out.trans (hb1.mono HB0.out.size)
          have HN : Hid (Nvs V1 0 V1.heap.size v1 (asksK b.a 32)) := (Nvs.own ho1).more (Nat.zero_le _) (Nat.le_refl _)
          clear ho1 hb1
          refine hK _ _ (HS.out _ HB1.out) (fun _ => ?_)
          clear hK KK
          refine lane_two (i := 7) (j := 12) (ordI := [8, 9, 10, 11, 12, 13, 14]) (ordJ := [7, 8, 9, 10, 11, 13, 14]) rfl rfl (by kernel_rfl) rfl (by rfl) (by rfl) (fun KK hK => ?_) (fun KK hK => ?_)
          · skip
            go_simp
            refine (order_any K A B C hk0 ⟨hA0, hA1⟩ ⟨hB0, hB1⟩ ⟨hC0, hC1⟩ HN.out HLE.out HASK.out).mono ?_
            rintro e V2 ⟨o, rfl, ho, hb2⟩
            have HO := Lib.hid ho
            have HB2 : Hid (Below wr.heap.size wr V2) := HB1.out.trans (hb2.mono HB1.out.size)
            clear ho hb2
            refine hK _ _ (HS.out _ HB2.out) (fun _ => ?_)
            clear hK KK
            refine lane_two (i := 8) (j := 12) (ordI := [9, 10, 11, 12, 13, 14]) (ordJ := [8, 9, 10, 11, 13, 14]) rfl rfl (by kernel_rfl) rfl (by rfl) (by rfl) (fun KK hK => ?_) (fun KK hK => ?_)
            · skip
              go_simp
              refine (step_all HP.out ((HK.out.below HB2.out).more (Nat.zero_le _) HB2.out.size) (by omega) (by omega) (by omega) HO.out).mono ?_
              rintro e V3 ⟨c, x, rfl, hone, hc, hb3⟩
              have HB3 : Hid (Below wr.heap.size wr V3) := HB2.out.trans (hb3.mono HB2.out.size)
              have hD3 : D + 1 ≤ V2.heap.size := by have := HB2.out.size; omega
              clear hb3
              refine hK _ _ (HS.out _ HB3.out) (fun _ => ?_)
              clear hK KK
              iterate 3 (refine lane_take (v := ?_) rfl (by kernel_rfl) (by kernel_rfl) (by rfl) ?_ (by exact HS.out _ HB3.out) ?_; rotate_left; (focus (intro W hSw; go_simp; try (with_reducible rfl))); simp only [Act.put, List.setIfInBounds_toArray, List.set_cons_zero, List.set_cons_succ])
              refine lane_alone rfl (by kernel_rfl) (by rfl) (fun KK hK => ?_)
              go_simp
              obtain ⟨A4, hA4⟩ : ∃ A, V3.alloc (.cells Try.zeroCells53 53) = A := ⟨_, rfl⟩
              have HA4 : Hid (Below wr.heap.size wr A4) := by rw [← hA4]; exact HB3.out.alloc HB3.out.size _
              have HZ : Hid (A4.heap[V3.heap.size]? = some (.cells Try.zeroCells53 53 (0, 0))) := by rw [← hA4]; exact alloc_at rfl
              have hZl : V3.heap.size < A4.heap.size := by rw [← hA4]; simp
              have hZg : wr.heap.size ≤ V3.heap.size := HB3.out.size
              have hbA : Below V3.heap.size V3 A4 := by rw [← hA4]; exact (Below.refl _ _).alloc (Nat.le_refl _) _
              rw [hA4]
              have HC : Hid (Came (1100000000 * (j : Int)) (40 * (j : Int) + 1) b o D V3.heap.size c x A4) := (Stepd.came hc hD3 (.inr (Nat.le_refl _))).below hbA
              clear hc
              obtain ⟨Z, hZe⟩ : ∃ Z, V3.heap.size = Z := ⟨_, rfl⟩
              rw [hZe] at HZ hZl hZg HC ⊢
              clear hA4 hbA hZe
              refine hK _ _ (HS.out _ HA4.out) (fun _ => ?_)
              clear hK KK
              refine lane_alone rfl (by kernel_rfl) (by rfl) (fun KK hK => ?_)
              refine wp_store_row 53 _ _ rfl Z c.arr rfl rfl 53 _ HZ.out (by rw [Kb.arr_size]; exact Kb.info) (by rw [Kb.arr_size]; exact Kb.zero_size) hone.arr ?_
              rw [row_boxed HZ.out]
              have HB9 : Hid (Below wr.heap.size wr (boxed A4 Z c.arr 53)) := boxed_below HA4.out hZg
              refine hK _ _ (HS.out _ HB9.out) (fun _ => ?_)
              clear hK KK
              iterate 1 (refine lane_take (v := ?_) rfl (by kernel_rfl) (by kernel_rfl) (by rfl) ?_ (by exact HS.out _ HB9.out) ?_; rotate_left; (focus (intro W hSw; go_simp; try (with_reducible rfl))); simp only [Act.put, List.setIfInBounds_toArray, List.set_cons_zero, List.set_cons_succ])
              refine lane_end (by kernel_rfl) ?_
              exact ⟨rfl, Z, c, x, v1, o, rfl, HB9, boxed_at hZl, hZg, by rw [boxed_size]; exact hZl, HC.out.boxed, HO⟩
            · skip
              go_simp
              obtain ⟨A5, hA5⟩ : ∃ A, V2.alloc (.cells Try.zeroCells53 53) = A := ⟨_, rfl⟩
              have HA5 : Hid (Below wr.heap.size wr A5) := by rw [← hA5]; exact HB2.out.alloc HB2.out.size _
              have HZ : Hid (A5.heap[V2.heap.size]? = some (.cells Try.zeroCells53 53 (0, 0))) := by rw [← hA5]; exact alloc_at rfl
              have hZl : V2.heap.size < A5.heap.size := by rw [← hA5]; simp
              have hZg : wr.heap.size ≤ V2.heap.size := HB2.out.size
              have hbA : Below V2.heap.size V2 A5 := by rw [← hA5]; exact (Below.refl _ _).alloc (Nat.le_refl _) _
              rw [hA5]
              obtain ⟨Z, hZe⟩ : ∃ Z, V2.heap.size = Z := ⟨_, rfl⟩
              rw [hZe] at HZ hZl hZg ⊢
              clear hA5 hbA hZe
              refine hK _ _ (HS.out _ HA5.out) (fun _ => ?_)
              clear hK KK
              refine lane_alone rfl (by kernel_rfl) (by rfl) (fun KK hK => ?_)
              go_simp
              refine (step_all HP.out ((HK.out.below HA5.out).more (Nat.zero_le _) HA5.out.size) (by omega) (by omega) (by omega) HO.out).mono ?_
              rintro e V6 ⟨c, x, rfl, hone, hc, hb6⟩
              have HB6 : Hid (Below wr.heap.size wr V6) := HA5.out.trans (hb6.mono HA5.out.size)
              have hD6 : D + 1 ≤ A5.heap.size := by have := HA5.out.size; omega
              have HC : Hid (Came (1100000000 * (j : Int)) (40 * (j : Int) + 1) b o D Z c x V6) := Stepd.came hc hD6 (.inl hZl)
              clear hc
              have HZ : Hid (V6.heap[Z]? = _) := (hb6.block Z (by omega)).trans HZ.out
              have hZl : Z < V6.heap.size := by have := hb6.size; omega
              clear hb6
              refine hK _ _ (HS.out _ HB6.out) (fun _ => ?_)
              clear hK KK
              iterate 3 (refine lane_take (v := ?_) rfl (by kernel_rfl) (by kernel_rfl) (by rfl) ?_ (by exact HS.out _ HB6.out) ?_; rotate_left; (focus (intro W hSw; go_simp; try (with_reducible rfl))); simp only [Act.put, List.setIfInBounds_toArray, List.set_cons_zero, List.set_cons_succ])
              refine lane_alone rfl (by kernel_rfl) (by rfl) (fun KK hK => ?_)
              refine wp_store_row 53 _ _ rfl Z c.arr rfl rfl 53 _ HZ.out (by rw [Kb.arr_size]; exact Kb.info) (by rw [Kb.arr_size]; exact Kb.zero_size) hone.arr ?_
              rw [row_boxed HZ.out]
              have HB9 : Hid (Below wr.heap.size wr (boxed V6 Z c.arr 53)) := boxed_below HB6.out hZg
              refine hK _ _ (HS.out _ HB9.out) (fun _ => ?_)
              clear hK KK
              iterate 1 (refine lane_take (v := ?_) rfl (by kernel_rfl) (by kernel_rfl) (by rfl) ?_ (by exact HS.out _ HB9.out) ?_; rotate_left; (focus (intro W hSw; go_simp; try (with_reducible rfl))); simp only [Act.put, List.setIfInBounds_toArray, List.set_cons_zero, List.set_cons_succ])
              refine lane_end (by kernel_rfl) ?_
              exact ⟨rfl, Z, c, x, v1, o, rfl, HB9, boxed_at hZl, hZg, by rw [boxed_size]; exact hZl, HC.out.boxed, HO⟩
          · skip
            go_simp
            obtain ⟨A8, hA8⟩ : ∃ A, V1.alloc (.cells Try.zeroCells53 53) = A := ⟨_, rfl⟩
            have HA8 : Hid (Below wr.heap.size wr A8) := by rw [← hA8]; exact HB1.out.alloc HB1.out.size _
            have HZ : Hid (A8.heap[V1.heap.size]? = some (.cells Try.zeroCells53 53 (0, 0))) := by rw [← hA8]; exact alloc_at rfl
            have hZl : V1.heap.size < A8.heap.size := by rw [← hA8]; simp
            have hZg : wr.heap.size ≤ V1.heap.size := HB1.out.size
            have hbA : Below V1.heap.size V1 A8 := by rw [← hA8]; exact (Below.refl _ _).alloc (Nat.le_refl _) _
            rw [hA8]
            have HN : Hid (Nvs A8 0 A8.heap.size v1 (asksK b.a 32)) := (HN.out.below hbA).more (Nat.zero_le _) hbA.size
            obtain ⟨Z, hZe⟩ : ∃ Z, V1.heap.size = Z := ⟨_, rfl⟩
            rw [hZe] at HZ hZl hZg ⊢
            clear hA8 hbA hZe
            refine hK _ _ (HS.out _ HA8.out) (fun _ => ?_)
            clear hK KK
            refine lane_alone rfl (by kernel_rfl) (by rfl) (fun KK hK => ?_)
            go_simp
            refine (order_any K A B C hk0 ⟨hA0, hA1⟩ ⟨hB0, hB1⟩ ⟨hC0, hC1⟩ HN.out HLE.out HASK.out).mono ?_
            rintro e V9 ⟨o, rfl, ho, hb9⟩
            have HO := Lib.hid ho
            have HB9 : Hid (Below wr.heap.size wr V9) := HA8.out.trans (hb9.mono HA8.out.size)
            have HZ : Hid (V9.heap[Z]? = _) := (hb9.block Z (by omega)).trans HZ.out
            have hZl : Z < V9.heap.size := by have := hb9.size; omega
            clear ho hb9
            refine hK _ _ (HS.out _ HB9.out) (fun _ => ?_)
            clear hK KK
            refine lane_alone rfl (by kernel_rfl) (by rfl) (fun KK hK => ?_)
            go_simp
            refine (step_all HP.out ((HK.out.below HB9.out).more (Nat.zero_le _) HB9.out.size) (by omega) (by omega) (by omega) HO.out).mono ?_
            rintro e V10 ⟨c, x, rfl, hone, hc, hb10⟩
            have HB10 : Hid (Below wr.heap.size wr V10) := HB9.out.trans (hb10.mono HB9.out.size)
            have hD10 : D + 1 ≤ V9.heap.size := by have := HB9.out.size; omega
            have HC : Hid (Came (1100000000 * (j : Int)) (40 * (j : Int) + 1) b o D Z c x V10) := Stepd.came hc hD10 (.inl hZl)
            clear hc
            have HZ : Hid (V10.heap[Z]? = _) := (hb10.block Z (by omega)).trans HZ.out
            have hZl : Z < V10.heap.size := by have := hb10.size; omega
            clear hb10
            refine hK _ _ (HS.out _ HB10.out) (fun _ => ?_)
            clear hK KK
            iterate 3 (refine lane_take (v := ?_) rfl (by kernel_rfl) (by kernel_rfl) (by rfl) ?_ (by exact HS.out _ HB10.out) ?_; rotate_left; (focus (intro W hSw; go_simp; try (with_reducible rfl))); simp only [Act.put, List.setIfInBounds_toArray, List.set_cons_zero, List.set_cons_succ])
            refine lane_alone rfl (by kernel_rfl) (by rfl) (fun KK hK => ?_)
            refine wp_store_row 53 _ _ rfl Z c.arr rfl rfl 53 _ HZ.out (by rw [Kb.arr_size]; exact Kb.info) (by rw [Kb.arr_size]; exact Kb.zero_size) hone.arr ?_
            rw [row_boxed HZ.out]
            have HB9 : Hid (Below wr.heap.size wr (boxed V10 Z c.arr 53)) := boxed_below HB10.out hZg
            refine hK _ _ (HS.out _ HB9.out) (fun _ => ?_)
            clear hK KK
            iterate 1 (refine lane_take (v := ?_) rfl (by kernel_rfl) (by kernel_rfl) (by rfl) ?_ (by exact HS.out _ HB9.out) ?_; rotate_left; (focus (intro W hSw; go_simp; try (with_reducible rfl))); simp only [Act.put, List.setIfInBounds_toArray, List.set_cons_zero, List.set_cons_succ])
            refine lane_end (by kernel_rfl) ?_
            exact ⟨rfl, Z, c, x, v1, o, rfl, HB9, boxed_at hZl, hZg, by rw [boxed_size]; exact hZl, HC.out.boxed, HO⟩
        · skip
          go_simp
          obtain ⟨A12, hA12⟩ : ∃ A, V0.alloc (.cells Try.zeroCells53 53) = A := ⟨_, rfl⟩
          have HA12 : Hid (Below wr.heap.size wr A12) := by rw [← hA12]; exact HB0.out.alloc HB0.out.size _
          have HZ : Hid (A12.heap[V0.heap.size]? = some (.cells Try.zeroCells53 53 (0, 0))) := by rw [← hA12]; exact alloc_at rfl
          have hZl : V0.heap.size < A12.heap.size := by rw [← hA12]; simp
          have hZg : wr.heap.size ≤ V0.heap.size := HB0.out.size
          have hbA : Below V0.heap.size V0 A12 := by rw [← hA12]; exact (Below.refl _ _).alloc (Nat.le_refl _) _
          rw [hA12]
          obtain ⟨Z, hZe⟩ : ∃ Z, V0.heap.size = Z := ⟨_, rfl⟩
          rw [hZe] at HZ hZl hZg ⊢
          clear hA12 hbA hZe
          refine hK _ _ (HS.out _ HA12.out) (fun _ => ?_)
          clear hK KK
          refine lane_alone rfl (by kernel_rfl) (by rfl) (fun KK hK => ?_)
          go_simp
          refine (bkasks_any ((HK.out.below HA12.out).more (Nat.zero_le _) HA12.out.size) (fun k hk => by have := HLN.out k hk; omega)).mono ?_
          rintro e V13 ⟨v1, rfl, ho13, hb13⟩
          have HB13 : Hid (Below wr.heap.size wr V13) := HA12.out.trans (hb13.mono HA12.out.size)
          have HN : Hid (Nvs V13 0 V13.heap.size v1 (asksK b.a 32)) := (Nvs.own ho13).more (Nat.zero_le _) (Nat.le_refl _)
          have HZ : Hid (V13.heap[Z]? = _) := (hb13.block Z (by omega)).trans HZ.out
          have hZl : Z < V13.heap.size := by have := hb13.size; omega
          clear ho13 hb13
          refine hK _ _ (HS.out _ HB13.out) (fun _ => ?_)
          clear hK KK
          refine lane_alone rfl (by kernel_rfl) (by rfl) (fun KK hK => ?_)
          go_simp
          refine (order_any K A B C hk0 ⟨hA0, hA1⟩ ⟨hB0, hB1⟩ ⟨hC0, hC1⟩ HN.out HLE.out HASK.out).mono ?_
          rintro e V14 ⟨o, rfl, ho, hb14⟩
          have HO := Lib.hid ho
          have HB14 : Hid (Below wr.heap.size wr V14) := HB13.out.trans (hb14.mono HB13.out.size)
          have HZ : Hid (V14.heap[Z]? = _) := (hb14.block Z (by omega)).trans HZ.out
          have hZl : Z < V14.heap.size := by have := hb14.size; omega
          clear ho hb14
          refine hK _ _ (HS.out _ HB14.out) (fun _ => ?_)
          clear hK KK
          refine lane_alone rfl (by kernel_rfl) (by rfl) (fun KK hK => ?_)
          go_simp
          refine (step_all HP.out ((HK.out.below HB14.out).more (Nat.zero_le _) HB14.out.size) (by omega) (by omega) (by omega) HO.out).mono ?_
          rintro e V15 ⟨c, x, rfl, hone, hc, hb15⟩
          have HB15 : Hid (Below wr.heap.size wr V15) := HB14.out.trans (hb15.mono HB14.out.size)
          have hD15 : D + 1 ≤ V14.heap.size := by have := HB14.out.size; omega
          have HC : Hid (Came (1100000000 * (j : Int)) (40 * (j : Int) + 1) b o D Z c x V15) := Stepd.came hc hD15 (.inl hZl)
          clear hc
          have HZ : Hid (V15.heap[Z]? = _) := (hb15.block Z (by omega)).trans HZ.out
          have hZl : Z < V15.heap.size := by have := hb15.size; omega
          clear hb15
          refine hK _ _ (HS.out _ HB15.out) (fun _ => ?_)
          clear hK KK
          iterate 3 (refine lane_take (v := ?_) rfl (by kernel_rfl) (by kernel_rfl) (by rfl) ?_ (by exact HS.out _ HB15.out) ?_; rotate_left; (focus (intro W hSw; go_simp; try (with_reducible rfl))); simp only [Act.put, List.setIfInBounds_toArray, List.set_cons_zero, List.set_cons_succ])
          refine lane_alone rfl (by kernel_rfl) (by rfl) (fun KK hK => ?_)
          refine wp_store_row 53 _ _ rfl Z c.arr rfl rfl 53 _ HZ.out (by rw [Kb.arr_size]; exact Kb.info) (by rw [Kb.arr_size]; exact Kb.zero_size) hone.arr ?_
          rw [row_boxed HZ.out]
          have HB9 : Hid (Below wr.heap.size wr (boxed V15 Z c.arr 53)) := boxed_below HB15.out hZg
          refine hK _ _ (HS.out _ HB9.out) (fun _ => ?_)
          clear hK KK
          iterate 1 (refine lane_take (v := ?_) rfl (by kernel_rfl) (by kernel_rfl) (by rfl) ?_ (by exact HS.out _ HB9.out) ?_; rotate_left; (focus (intro W hSw; go_simp; try (with_reducible rfl))); simp only [Act.put, List.setIfInBounds_toArray, List.set_cons_zero, List.set_cons_succ])
          refine lane_end (by kernel_rfl) ?_
          exact ⟨rfl, Z, c, x, v1, o, rfl, HB9, boxed_at hZl, hZg, by rw [boxed_size]; exact hZl, HC.out.boxed, HO⟩
      rintro Z c x v o w9 ⟨HB9, HZ9, hz1, hz2, HC9, HO⟩
      have HW9 : Hid (Below w.heap.size w w9) := HW.out.trans (HB9.out.mono HW.out.size)
      have HD9 : Hid (w9.heap[D]? = some (.cells b.arr 53 (0, 0))) := (HB9.out.block D hzr).trans HD.out
      have hz9 : D < w9.heap.size := (Array.getElem?_eq_some_iff.1 HD9.out).1
      have hsz9 : wr.heap.size ≤ w9.heap.size := HB9.out.size
      by_cases hx : x = 0
      · subst hx
        obtain ⟨ps', hk9, hp9, hap9⟩ := HC9.out rfl
        have HK9 := Lib.hid hk9
        have HP9 := Lib.hid hp9
        have htd9 := hap9.1
        have hone9 := hk9.one.arr
        clear hk9 hp9 hap9 HC9
        go_wp2_with (((with_reducible_and_instances (show wpList _ _ _ (Oper.mk _ (Op.load 53 _) _ _ _ _ :: _) _ _)); refine stop_here ?_))
        refine ⟨?_⟩
        refine wl_load (cs := c.arr) (fr := (0, 0)) (g := Z) Try.underlying53 rfl Kb.info rfl rfl rfl HZ9.out (Kb.arr_size _) ?_
        go_wp2_with (((with_reducible_and_instances (show wpList _ _ _ (Oper.mk _ (Op.store 53 _ _) _ _ _ _ :: _) _ _)); refine stop_here ?_))
        refine ⟨?_⟩
        refine wl_store (g := D) Kb.info rfl rfl rfl rfl HD9.out (Kb.arr_size _) (Kb.arr_size _) hone9 ?_
        go_wp2_with fail
        go_roundw
        case rel => exact ⟨j + 1, c, ps', by omega, by go_num, boxed_below HW9.out (by omega), boxed_at hz9, ((HK9.out.boxed (.inl (Nat.lt_succ_self _))).more (Nat.le_refl _) (by rw [boxed_size]; exact Nat.le_refl _)), HP9.out.more (by omega) (by omega), by omega, boxed_old (by omega) ((HB9.out.block _ (by omega)).trans HX.out)⟩
        case measure => simp [intOf]; omega
      · have dx : (x == 0) = false := by simpa using hx
        go_wp2_with fail
        go_roundw
        case rel => exact ⟨j + 1, b, ps, by omega, by go_num, HW9.out, HD9.out, (HK.out.below HB9.out).more (Nat.le_refl _) HB9.out.size, HP.out.more (by omega) (by omega), by omega, (HB9.out.block _ (by omega)).trans HX.out⟩
        case measure => simp [intOf]; omega
    case neg =>
      obtain rfl : j = n := by omega
      have dlt : decide ((j : Int) < (j : Int)) = false := by simp
      have hzr : D < wr.heap.size := (Array.getElem?_eq_some_iff.1 HD.out).1
      have hzw : w.heap.size < wr.heap.size := (Array.getElem?_eq_some_iff.1 HX.out).1
      have HS : Hid (∀ V, Below wr.heap.size wr V → (fun w' : World => w'.heap[D]? = some (.cells b.arr 53 (0, 0)) ∧ w'.rangeAt w.heap.size 0 (Ac4.cs ⟨K0, A0, B0, C0⟩)) V) := fun V hV => ⟨(hV.block D hzr).trans HD.out, fun i v hv => by rw [cell_of_row _ _ _ _ _ _ ((hV.block _ hzw).trans HX.out), Nat.zero_add, ← Array.getElem?_toList]; exact hv⟩
      have HLN : Hid (∀ k, k < 32 → (b.a k).l.length ≤ 9000) := HP.out.lens (by omega)
      have HLE : Hid ((asksK b.a 32).length ≤ 100000000) := Nat.le_trans (asksK_len (m := 9000) HLN.out 32 (Nat.le_refl _)) (by omega)
      have HASK : Hid (∀ m ∈ asksK b.a 32, (∃ j : Nat, j < 32 ∧ m.s = (j : Int)) ∧ 0 ≤ m.t ∧ m.t ≤ 1000000) := HP.out.asked (by omega)
      go_upto_region 10 with fail
      apply region_frame3 (fun Z v o w' => Hid (Below wr.heap.size wr w') ∧ Hid (w'.heap[Z]? = some (.cells o.kb 61 (0, 0))) ∧ wr.heap.size ≤ Z ∧ Z < w'.heap.size ∧ Hid (OForm o))
      · skip
        refine lane_start (ord := [0, 1, 2, 3, 4, 5]) (S := (fun w' : World => w'.heap[D]? = some (.cells b.arr 53 (0, 0)) ∧ w'.rangeAt w.heap.size 0 (Ac4.cs ⟨K0, A0, B0, C0⟩))) rfl (by kernel_rfl) (by exact HS.out _ (Below.refl _ wr).drew) (fun _ => ?_)
        obtain ⟨V0, hV0⟩ : ∃ V0, wr.drew = V0 := ⟨_, rfl⟩
        have HB0 : Hid (Below wr.heap.size wr V0) := by rw [← hV0]; exact (Below.refl _ wr).drew
        rw [hV0]
        clear hV0
        refine lane_take (v := .agg #[.int .u8 K0, .int .u8 A0, .int .u8 B0, .int .u8 C0]) rfl (by kernel_rfl) (by kernel_rfl) (by rfl) (fun W hSw => exec_load rfl rfl (by
          have h9 := run_loadAt_mid (P := Try.prog) W w.heap.size 0 64 _ _ (hSw.2) Try.underlying64 rfl info4a
          (try rw [Array.toArray_toList] at h9)
          exact h9)) (by exact HS.out _ HB0.out) ?_
        simp only [Act.put, List.setIfInBounds_toArray, List.set_cons_zero, List.set_cons_succ]
        refine lane_take (v := .agg b.arr) rfl (by kernel_rfl) (by kernel_rfl) (by rfl) (fun W hSw => exec_load rfl rfl (by
          have h9 := run_loadAt_mid (P := Try.prog) W D 0 53 _ _ (Kb.range_all hSw.1) Try.underlying53 rfl Kb.info_all
          (try rw [Array.toArray_toList] at h9)
          exact h9)) (by exact HS.out _ HB0.out) ?_
        simp only [Act.put, List.setIfInBounds_toArray, List.set_cons_zero, List.set_cons_succ]
        refine lane_two (i := 2) (j := 4) (ordI := [3, 4, 5]) (ordJ := [2, 3, 5]) rfl rfl (by kernel_rfl) rfl (by rfl) (by rfl) (fun KK hK => ?_) (fun KK hK => ?_)
        · skip
          go_simp
          refine (bkasks_any ((HK.out.below HB0.out).more (Nat.zero_le _) HB0.out.size) (fun k hk => by have := HLN.out k hk; omega)).mono ?_
          rintro e V1 ⟨v1, rfl, ho1, hb1⟩
          have HB1 : Hid (Below wr.heap.size wr V1) := HB0.out.trans (hb1.mono HB0.out.size)
          have HN : Hid (Nvs V1 0 V1.heap.size v1 (asksK b.a 32)) := (Nvs.own ho1).more (Nat.zero_le _) (Nat.le_refl _)
          clear ho1 hb1
          refine hK _ _ (HS.out _ HB1.out) (fun _ => ?_)
          clear hK KK
          refine lane_two (i := 3) (j := 4) (ordI := [4, 5]) (ordJ := [3, 5]) rfl rfl (by kernel_rfl) rfl (by rfl) (by rfl) (fun KK hK => ?_) (fun KK hK => ?_)
          · skip
            go_simp
            refine (order_any K0 A0 B0 C0 k00 ⟨k10, k11⟩ ⟨k20, k21⟩ ⟨k30, k31⟩ HN.out HLE.out HASK.out).mono ?_
            rintro e V2 ⟨o, rfl, ho, hb2⟩
            have HO := Lib.hid ho
            have HB2 : Hid (Below wr.heap.size wr V2) := HB1.out.trans (hb2.mono HB1.out.size)
            clear ho hb2
            refine hK _ _ (HS.out _ HB2.out) (fun _ => ?_)
            clear hK KK
            refine lane_alone rfl (by kernel_rfl) (by rfl) (fun KK hK => ?_)
            go_simp
            obtain ⟨A3, hA3⟩ : ∃ A, V2.alloc (.cells #[.int .u8 0, .int .i64 0, .int .i64 0, .int .i64 0, .int .i64 0, .int .u8 0, .int .i64 0, .int .i64 0, .bool false, .bool false, .int .u8 0, .int .i64 0, .int .i64 0, .int .i64 0, .int .i64 0, .int .u8 0] 61) = A := ⟨_, rfl⟩
            have HA3 : Hid (Below wr.heap.size wr A3) := by rw [← hA3]; exact HB2.out.alloc HB2.out.size _
            have HZ : Hid (A3.heap[V2.heap.size]? = some (.cells #[.int .u8 0, .int .i64 0, .int .i64 0, .int .i64 0, .int .i64 0, .int .u8 0, .int .i64 0, .int .i64 0, .bool false, .bool false, .int .u8 0, .int .i64 0, .int .i64 0, .int .i64 0, .int .i64 0, .int .u8 0] 61 (0, 0))) := by rw [← hA3]; exact alloc_at rfl
            have hZl : V2.heap.size < A3.heap.size := by rw [← hA3]; simp
            have hZg : wr.heap.size ≤ V2.heap.size := HB2.out.size
            have hbA : Below V2.heap.size V2 A3 := by rw [← hA3]; exact (Below.refl _ _).alloc (Nat.le_refl _) _
            rw [hA3]
            obtain ⟨Z, hZe⟩ : ∃ Z, V2.heap.size = Z := ⟨_, rfl⟩
            rw [hZe] at HZ hZl hZg ⊢
            clear hA3 hbA hZe
            refine hK _ _ (HS.out _ HA3.out) (fun _ => ?_)
            clear hK KK
            refine lane_alone rfl (by kernel_rfl) (by rfl) (fun KK hK => ?_)
            refine wp_store_row 61 _ _ rfl Z o.kb rfl rfl 61 _ HZ.out (by exact info16k) rfl (by simp [Ov.kb, Value.oneCell']) ?_
            rw [row_boxed HZ.out]
            have HB9 : Hid (Below wr.heap.size wr (boxed A3 Z o.kb 61)) := boxed_below HA3.out hZg
            refine hK _ _ (HS.out _ HB9.out) (fun _ => ?_)
            clear hK KK
            refine lane_end (by kernel_rfl) ?_
            exact ⟨rfl, Z, v1, o, rfl, HB9, boxed_at hZl, hZg, by rw [boxed_size]; exact hZl, HO⟩
          · skip
            go_simp
            obtain ⟨A4, hA4⟩ : ∃ A, V1.alloc (.cells #[.int .u8 0, .int .i64 0, .int .i64 0, .int .i64 0, .int .i64 0, .int .u8 0, .int .i64 0, .int .i64 0, .bool false, .bool false, .int .u8 0, .int .i64 0, .int .i64 0, .int .i64 0, .int .i64 0, .int .u8 0] 61) = A := ⟨_, rfl⟩
            have HA4 : Hid (Below wr.heap.size wr A4) := by rw [← hA4]; exact HB1.out.alloc HB1.out.size _
            have HZ : Hid (A4.heap[V1.heap.size]? = some (.cells #[.int .u8 0, .int .i64 0, .int .i64 0, .int .i64 0, .int .i64 0, .int .u8 0, .int .i64 0, .int .i64 0, .bool false, .bool false, .int .u8 0, .int .i64 0, .int .i64 0, .int .i64 0, .int .i64 0, .int .u8 0] 61 (0, 0))) := by rw [← hA4]; exact alloc_at rfl
            have hZl : V1.heap.size < A4.heap.size := by rw [← hA4]; simp
            have hZg : wr.heap.size ≤ V1.heap.size := HB1.out.size
            have hbA : Below V1.heap.size V1 A4 := by rw [← hA4]; exact (Below.refl _ _).alloc (Nat.le_refl _) _
            rw [hA4]
            have HN : Hid (Nvs A4 0 A4.heap.size v1 (asksK b.a 32)) := (HN.out.below hbA).more (Nat.zero_le _) hbA.size
            obtain ⟨Z, hZe⟩ : ∃ Z, V1.heap.size = Z := ⟨_, rfl⟩
            rw [hZe] at HZ hZl hZg ⊢
            clear hA4 hbA hZe
            refine hK _ _ (HS.out _ HA4.out) (fun _ => ?_)
            clear hK KK
            refine lane_alone rfl (by kernel_rfl) (by rfl) (fun KK hK => ?_)
            go_simp
            refine (order_any K0 A0 B0 C0 k00 ⟨k10, k11⟩ ⟨k20, k21⟩ ⟨k30, k31⟩ HN.out HLE.out HASK.out).mono ?_
            rintro e V5 ⟨o, rfl, ho, hb5⟩
            have HO := Lib.hid ho
            have HB5 : Hid (Below wr.heap.size wr V5) := HA4.out.trans (hb5.mono HA4.out.size)
            have HZ : Hid (V5.heap[Z]? = _) := (hb5.block Z (by omega)).trans HZ.out
            have hZl : Z < V5.heap.size := by have := hb5.size; omega
            clear ho hb5
            refine hK _ _ (HS.out _ HB5.out) (fun _ => ?_)
            clear hK KK
            refine lane_alone rfl (by kernel_rfl) (by rfl) (fun KK hK => ?_)
            refine wp_store_row 61 _ _ rfl Z o.kb rfl rfl 61 _ HZ.out (by exact info16k) rfl (by simp [Ov.kb, Value.oneCell']) ?_
            rw [row_boxed HZ.out]
            have HB9 : Hid (Below wr.heap.size wr (boxed V5 Z o.kb 61)) := boxed_below HB5.out hZg
            refine hK _ _ (HS.out _ HB9.out) (fun _ => ?_)
            clear hK KK
            refine lane_end (by kernel_rfl) ?_
            exact ⟨rfl, Z, v1, o, rfl, HB9, boxed_at hZl, hZg, by rw [boxed_size]; exact hZl, HO⟩
        · skip
          go_simp
          obtain ⟨A7, hA7⟩ : ∃ A, V0.alloc (.cells #[.int .u8 0, .int .i64 0, .int .i64 0, .int .i64 0, .int .i64 0, .int .u8 0, .int .i64 0, .int .i64 0, .bool false, .bool false, .int .u8 0, .int .i64 0, .int .i64 0, .int .i64 0, .int .i64 0, .int .u8 0] 61) = A := ⟨_, rfl⟩
          have HA7 : Hid (Below wr.heap.size wr A7) := by rw [← hA7]; exact HB0.out.alloc HB0.out.size _
          have HZ : Hid (A7.heap[V0.heap.size]? = some (.cells #[.int .u8 0, .int .i64 0, .int .i64 0, .int .i64 0, .int .i64 0, .int .u8 0, .int .i64 0, .int .i64 0, .bool false, .bool false, .int .u8 0, .int .i64 0, .int .i64 0, .int .i64 0, .int .i64 0, .int .u8 0] 61 (0, 0))) := by rw [← hA7]; exact alloc_at rfl
          have hZl : V0.heap.size < A7.heap.size := by rw [← hA7]; simp
          have hZg : wr.heap.size ≤ V0.heap.size := HB0.out.size
          have hbA : Below V0.heap.size V0 A7 := by rw [← hA7]; exact (Below.refl _ _).alloc (Nat.le_refl _) _
          rw [hA7]
          obtain ⟨Z, hZe⟩ : ∃ Z, V0.heap.size = Z := ⟨_, rfl⟩
          rw [hZe] at HZ hZl hZg ⊢
          clear hA7 hbA hZe
          refine hK _ _ (HS.out _ HA7.out) (fun _ => ?_)
          clear hK KK
          refine lane_alone rfl (by kernel_rfl) (by rfl) (fun KK hK => ?_)
          go_simp
          refine (bkasks_any ((HK.out.below HA7.out).more (Nat.zero_le _) HA7.out.size) (fun k hk => by have := HLN.out k hk; omega)).mono ?_
          rintro e V8 ⟨v1, rfl, ho8, hb8⟩
          have HB8 : Hid (Below wr.heap.size wr V8) := HA7.out.trans (hb8.mono HA7.out.size)
          have HN : Hid (Nvs V8 0 V8.heap.size v1 (asksK b.a 32)) := (Nvs.own ho8).more (Nat.zero_le _) (Nat.le_refl _)
          have HZ : Hid (V8.heap[Z]? = _) := (hb8.block Z (by omega)).trans HZ.out
          have hZl : Z < V8.heap.size := by have := hb8.size; omega
          clear ho8 hb8
          refine hK _ _ (HS.out _ HB8.out) (fun _ => ?_)
          clear hK KK
          refine lane_alone rfl (by kernel_rfl) (by rfl) (fun KK hK => ?_)
          go_simp
          refine (order_any K0 A0 B0 C0 k00 ⟨k10, k11⟩ ⟨k20, k21⟩ ⟨k30, k31⟩ HN.out HLE.out HASK.out).mono ?_
          rintro e V9 ⟨o, rfl, ho, hb9⟩
          have HO := Lib.hid ho
          have HB9 : Hid (Below wr.heap.size wr V9) := HB8.out.trans (hb9.mono HB8.out.size)
          have HZ : Hid (V9.heap[Z]? = _) := (hb9.block Z (by omega)).trans HZ.out
          have hZl : Z < V9.heap.size := by have := hb9.size; omega
          clear ho hb9
          refine hK _ _ (HS.out _ HB9.out) (fun _ => ?_)
          clear hK KK
          refine lane_alone rfl (by kernel_rfl) (by rfl) (fun KK hK => ?_)
          refine wp_store_row 61 _ _ rfl Z o.kb rfl rfl 61 _ HZ.out (by exact info16k) rfl (by simp [Ov.kb, Value.oneCell']) ?_
          rw [row_boxed HZ.out]
          have HB9 : Hid (Below wr.heap.size wr (boxed V9 Z o.kb 61)) := boxed_below HB9.out hZg
          refine hK _ _ (HS.out _ HB9.out) (fun _ => ?_)
          clear hK KK
          refine lane_end (by kernel_rfl) ?_
          exact ⟨rfl, Z, v1, o, rfl, HB9, boxed_at hZl, hZg, by rw [boxed_size]; exact hZl, HO⟩
      rintro Z v1 o w9 ⟨HB9, HZ9, hz1, hz2, HO⟩
      have HW9 : Hid (Below w.heap.size w w9) := HW.out.trans (HB9.out.mono HW.out.size)
      have HD9 : Hid (w9.heap[D]? = some (.cells b.arr 53 (0, 0))) := (HB9.out.block D hzr).trans HD.out
      have hz9 : D < w9.heap.size := (Array.getElem?_eq_some_iff.1 HD9.out).1
      have HK9 : Hid (KbM w9 0 w9.heap.size b ps) := (HK.out.below HB9.out).more (Nat.zero_le _) HB9.out.size
      have hDZ : D < Z := by omega
      clear HK HD HW HB9 HX HS HASK HLE
      go_wp2_with (((with_reducible_and_instances (show wpList _ _ _ (Oper.mk _ (Op.load 53 _) _ _ _ _ :: _) _ _)); refine stop_here ?_))
      refine ⟨?_⟩
      refine wl_load (cs := b.arr) (fr := (0, 0)) (g := D) Try.underlying53 rfl Kb.info rfl rfl rfl HD9.out (Kb.arr_size _) ?_
      go_wp2_with (((with_reducible_and_instances (show wpList _ _ _ (Oper.mk _ (Op.load 61 _) _ _ _ _ :: _) _ _)); refine stop_here ?_))
      refine ⟨?_⟩
      refine wl_load (cs := o.kb) (fr := (0, 0)) (g := Z) Try.underlying61 rfl info16k rfl rfl rfl HZ9.out rfl ?_
      go_wp2_with fail
      refine (step_all HP.out HK9.out (by omega) (by omega) (by omega) HO.out).mono ?_
      rintro e w10 ⟨c, x, rfl, hone, hc, hb10⟩
      have HC := Lib.hid hc
      have fZ := below_block hb10 HZ9.out
      have fD := below_block hb10 HD9.out
      have HW10 : Hid (Below w.heap.size w w10) := HW9.out.trans (hb10.mono HW9.out.size)
      have hzZ : Z < w10.heap.size := (Array.getElem?_eq_some_iff.1 fZ).1
      have HCS : Hid (x = 0 → ∃ ps', KbM w10 0 w10.heap.size c ps' ∧ Apart o b.td b.a c.td c.a) := fun hx => by
        obtain ⟨ps', h1, _, h3⟩ := HC.out hx
        exact ⟨ps', h1.more (Nat.zero_le _) (Nat.le_refl _), h3⟩
      have HBS : Hid (∀ k, k < 32 → ∃ A c', b.v k = .slice A (b.a k).l.length c') := fun k hk => by obtain ⟨A, c', h1, _⟩ := HK9.out.cs k hk; exact ⟨A, c', h1⟩
      clear hb10 hc HC HW9 HZ9 HD9 HK9 hz1 hz2 hz9
      go_wp2_with (((with_reducible_and_instances (show wpList _ _ _ (Oper.mk _ (Op.store 53 _ _) _ _ _ _ :: _) _ _)); refine stop_here ?_))
      refine ⟨?_⟩
      refine wl_store (g := w10.heap.size) Kb.info rfl rfl rfl rfl (alloc_at rfl) Kb.zero_size (Kb.arr_size _) hone.arr ?_
      obtain ⟨U2, hU2⟩ : ∃ U2, boxed (w10.alloc (.cells Try.zeroCells53 53)) w10.heap.size c.arr 53 = U2 := ⟨_, rfl⟩
      have gZ : U2.heap[Z]? = some (.cells o.kb 61 (0, 0)) := by rw [← hU2]; exact boxed_old (by omega) (alloc_old hzZ fZ)
      have gD : U2.heap[D]? = some (.cells b.arr 53 (0, 0)) := by rw [← hU2]; exact boxed_old (by omega) (alloc_old (by omega) fD)
      have gC : U2.heap[w10.heap.size]? = some (.cells c.arr 53 (0, 0)) := by rw [← hU2]; exact boxed_at (by simp)
      have HU2 : Hid (Below w.heap.size w U2) := by rw [← hU2]; exact boxed_below (HW10.out.alloc HW10.out.size _) HW10.out.size
      have hZC : Z < w10.heap.size := hzZ
      rw [hU2]
      clear hU2 fZ fD HW10
      have HCF : Hid (x = 0 → Apart o b.td b.a c.td c.a ∧ ∀ k, k < 32 → ∃ A c', c.v k = .slice A (c.a k).l.length c') := fun hx => by
        obtain ⟨ps', h1, h3⟩ := HCS.out hx
        exact ⟨h3, fun k hk => by obtain ⟨A, c', h2, _⟩ := h1.cs k hk; exact ⟨A, c', h2⟩⟩
      clear HCS
      generalize w10.heap.size = CB at *
      clear hzZ w10
      have gZ0 : U2.cell? ⟨Z, 0, none⟩ = some (.int .u8 o.k) := by rw [cell_of_row _ _ _ _ _ _ gZ]; rfl
      have gZ1 : U2.cell? ⟨Z, 1, none⟩ = some (.int .i64 o.s) := by rw [cell_of_row _ _ _ _ _ _ gZ]; rfl
      have gZ11 : U2.cell? ⟨Z, 11, none⟩ = some (.int .i64 o.A.s) := by rw [cell_of_row _ _ _ _ _ _ gZ]; rfl
      have gC0 : U2.cell? ⟨CB, 0, none⟩ = some (.int .i64 c.td) := by rw [cell_of_row _ _ _ _ _ _ gC]; exact c.at0
      have gD0 : U2.cell? ⟨D, 0, none⟩ = some (.int .i64 b.td) := by rw [cell_of_row _ _ _ _ _ _ gD]; exact b.at0
      have hzD : D < U2.heap.size := (Array.getElem?_eq_some_iff.1 gD).1
      have hzZ : Z < U2.heap.size := (Array.getElem?_eq_some_iff.1 gZ).1
      have hzC : CB < U2.heap.size := (Array.getElem?_eq_some_iff.1 gC).1
      by_cases hx : x = 0
      case neg =>
        have dx : (x != 0) = true := by simpa using hx
        go_wp2_with fail
        go_ret
        exact ⟨rfl, HU2.out⟩
      case pos =>
        subst hx
        obtain ⟨hap, hcs⟩ := HCF.out rfl
        have HCV := Lib.hid hcs
        by_cases h9 : o.k = 9
        · have d9 : (o.k == 9) = true := by simpa using h9
          go_wp2_with fail
          go_ret
          exact ⟨rfl, HU2.out⟩
        have d9 : (o.k == 9) = false := by simpa using h9
        obtain ⟨htd9, happ⟩ := hap.2 h9
        have HAP := Lib.hid happ
        have HTD := Lib.hid htd9
        clear hap hcs happ HCF htd9 h9
        go_wp2_with (((with_reducible_and_instances (show wpList _ _ _ (Oper.mk _ (Op.build 73 _) _ _ _ _ :: _) _ _)); refine stop_here ?_))
        refine ⟨?_⟩
        refine wpList_buildTo rfl 73 _ rfl _ rfl _ (Eq.trans (congrArg (Program.built _ _) (by simp)) Bk.zero_built) ?_
        go_wp2_with (((with_reducible_and_instances (show wpList _ _ _ (Oper.mk _ (Op.store 73 _ _) _ _ _ _ :: _) _ _)); refine stop_here ?_))
        refine ⟨?_⟩
        refine wl_store (g := U2.heap.size) Bk.info rfl rfl rfl rfl (alloc_at rfl) Bk.zero_size (Bk.arr_size _) Bk.nil_one ?_
        obtain ⟨U3, hU3⟩ : ∃ U3, boxed (U2.alloc (.cells Try.zeroCells73 73)) U2.heap.size Bk.nil.arr 73 = U3 := ⟨_, rfl⟩
        have hc9 : ∀ (n i : Nat) (v : Value), n < U2.heap.size → U2.cell? ⟨n, i, none⟩ = some v → U3.cell? ⟨n, i, none⟩ = some v := fun n i v hn hv => by
          have hb : U3.heap[n]? = U2.heap[n]? := by rw [← hU3, boxed_block_other (by omega), alloc_block_old hn]
          exact (World.cell?_of_block (a := ⟨n, i, none⟩) hb).trans hv
        have e0 := hc9 _ _ _ hzZ gZ0
        have e1 := hc9 _ _ _ hzZ gZ1
        have e11 := hc9 _ _ _ hzZ gZ11
        have eC0 := hc9 _ _ _ hzC gC0
        have eD0 := hc9 _ _ _ hzD gD0
        have ey : U3.cell? ⟨U2.heap.size, 0, none⟩ = some (.int .i64 0) := by rw [cell_of_row _ _ _ _ _ _ (show U3.heap[U2.heap.size]? = some (.cells Bk.nil.arr 73 (0, 0)) by rw [← hU3]; exact boxed_at (by simp))]; exact Bk.at0 _
        have HEC : Hid (U3.heap[CB]? = some (.cells c.arr 53 (0, 0))) := by rw [← hU3]; exact boxed_old (by omega) (alloc_old hzC gC)
        have HED : Hid (U3.heap[D]? = some (.cells b.arr 53 (0, 0))) := by rw [← hU3]; exact boxed_old (by omega) (alloc_old hzD gD)
        have HU3 : Hid (Below w.heap.size w U3) := by rw [← hU3]; exact boxed_below (HU2.out.alloc HU2.out.size _) HU2.out.size
        have hy3 : U2.heap.size < U3.heap.size := by rw [← hU3]; simp
        rw [hU3]
        clear hU3 hc9 HU2 gZ gD gC gZ0 gZ1 gZ11 gC0 gD0
        generalize U2.heap.size = Y at *
        clear U2
        go_wp2_with fail
        go_loopw [15] (fun i wq => ∃ k : Nat, k ≤ 32 ∧ i = .int .i64 k ∧ Hid (Below U3.heap.size U3 wq)) (fun i _ => 32 - (intOf i).toNat)
        case atStart => exact ⟨0, by omega, rfl, Below.refl _ _⟩
        case round =>
          obtain ⟨k, hk, rfl, HB⟩ := hrel
          have hc8 : ∀ (n i : Nat) (v : Value), n < U3.heap.size → U3.cell? ⟨n, i, none⟩ = some v → wr.cell? ⟨n, i, none⟩ = some v := fun n i v hn hv => (World.cell?_of_block (a := ⟨n, i, none⟩) (HB.out.block n hn)).trans hv
          have hzC : CB < U3.heap.size := (Array.getElem?_eq_some_iff.1 HEC.out).1
          have hzD : D < U3.heap.size := (Array.getElem?_eq_some_iff.1 HED.out).1
          have e0 := hc8 _ _ _ (by omega) e0
          have e1 := hc8 _ _ _ (by omega) e1
          have e11 := hc8 _ _ _ (by omega) e11
          have eC0 := hc8 _ _ _ hzC eC0
          have eD0 := hc8 _ _ _ hzD eD0
          have ey := hc8 _ _ _ hy3 ey
          clear hc8
          by_cases hlt : k < 32
          case neg =>
            obtain rfl : k = 32 := by omega
            have dk : decide (((32 : Nat) : Int) < 32) = false := by decide
            rw [HTD.out] at eC0
            go_wp2
            go_ret
            exact ⟨rfl, HU3.out.trans (HB.out.mono HU3.out.size)⟩
          case pos =>
            have dk : decide ((k : Int) < 32) = true := by simp; omega
            have hk0 : (0 : Int) ≤ (k : Int) := by omega
            have hkt : (k : Int) < 32 := by omega
            go_upto_region 18 with fail
            go_cut [96] from 67 to 161 (fun s wc => (∃ q : Bool, s = .bool q ∧ (q = false → c.a k = b.a k)) ∧ wc = wr)
            case first =>
              by_cases hs : (k : Int) = o.s
              · skip
                by_cases hk10 : o.k = 10
                · by_cases ha : (k : Int) = o.A.s
                  · skip
                    have ps : ((k : Int) == o.s) = true := by simpa using hs
                    have p10 : (o.k != 10) = false := by simpa using hk10
                    have p10b : (o.k == 10) = true := by simpa using hk10
                    have pa : ((k : Int) == o.A.s) = true := by simpa using ha
                    have HHS := Lib.hid hs
                    have HH10 := Lib.hid hk10
                    have HHA := Lib.hid ha
                    clear hs hk10 ha
                    go_wp2_with fail
                    go_meet
                    exact ⟨⟨true, rfl, fun h => absurd h (by decide)⟩, rfl⟩
                  · skip
                    have ps : ((k : Int) == o.s) = true := by simpa using hs
                    have p10 : (o.k != 10) = false := by simpa using hk10
                    have p10b : (o.k == 10) = true := by simpa using hk10
                    have pa : ((k : Int) == o.A.s) = false := by simpa using ha
                    have HHS := Lib.hid hs
                    have HH10 := Lib.hid hk10
                    have HHA := Lib.hid ha
                    clear hs hk10 ha
                    go_wp2_with fail
                    go_meet
                    exact ⟨⟨false, rfl, fun _ => HAP.out k hlt (.inr (.inl ⟨HH10.out, HHA.out⟩))⟩, rfl⟩
                · by_cases hk1 : o.k = 1
                  · by_cases ha : (k : Int) = o.A.s
                    · skip
                      have ps : ((k : Int) == o.s) = true := by simpa using hs
                      have p10 : (o.k != 10) = true := by simpa using hk10
                      have p10b : (o.k == 10) = false := by simpa using hk10
                      have p1 : (o.k != 1) = false := by simpa using hk1
                      have pa : ((k : Int) == o.A.s) = true := by simpa using ha
                      have HHS := Lib.hid hs
                      have HH10 := Lib.hid hk10
                      have HH1 := Lib.hid hk1
                      have HHA := Lib.hid ha
                      clear hs hk10 hk1 ha
                      go_wp2_with fail
                      go_meet
                      exact ⟨⟨false, rfl, fun _ => HAP.out k hlt (.inl HH1.out)⟩, rfl⟩
                    · skip
                      have ps : ((k : Int) == o.s) = true := by simpa using hs
                      have p10 : (o.k != 10) = true := by simpa using hk10
                      have p10b : (o.k == 10) = false := by simpa using hk10
                      have p1 : (o.k != 1) = false := by simpa using hk1
                      have pa : ((k : Int) == o.A.s) = false := by simpa using ha
                      have HHS := Lib.hid hs
                      have HH10 := Lib.hid hk10
                      have HH1 := Lib.hid hk1
                      have HHA := Lib.hid ha
                      clear hs hk10 hk1 ha
                      go_wp2_with fail
                      go_meet
                      exact ⟨⟨false, rfl, fun _ => HAP.out k hlt (.inl HH1.out)⟩, rfl⟩
                  · skip
                    have ps : ((k : Int) == o.s) = true := by simpa using hs
                    have p10 : (o.k != 10) = true := by simpa using hk10
                    have p10b : (o.k == 10) = false := by simpa using hk10
                    have p1 : (o.k != 1) = true := by simpa using hk1
                    have HHS := Lib.hid hs
                    have HH10 := Lib.hid hk10
                    have HH1 := Lib.hid hk1
                    clear hs hk10 hk1
                    go_wp2_with fail
                    go_meet
                    exact ⟨⟨true, rfl, fun h => absurd h (by decide)⟩, rfl⟩
              · skip
                by_cases hk10 : o.k = 10
                · by_cases ha : (k : Int) = o.A.s
                  · skip
                    have ps : ((k : Int) == o.s) = false := by simpa using hs
                    have p10 : (o.k != 10) = false := by simpa using hk10
                    have p10b : (o.k == 10) = true := by simpa using hk10
                    have pa : ((k : Int) == o.A.s) = true := by simpa using ha
                    have HHS := Lib.hid hs
                    have HH10 := Lib.hid hk10
                    have HHA := Lib.hid ha
                    clear hs hk10 ha
                    go_wp2_with fail
                    go_meet
                    exact ⟨⟨true, rfl, fun h => absurd h (by decide)⟩, rfl⟩
                  · skip
                    have ps : ((k : Int) == o.s) = false := by simpa using hs
                    have p10 : (o.k != 10) = false := by simpa using hk10
                    have p10b : (o.k == 10) = true := by simpa using hk10
                    have pa : ((k : Int) == o.A.s) = false := by simpa using ha
                    have HHS := Lib.hid hs
                    have HH10 := Lib.hid hk10
                    have HHA := Lib.hid ha
                    clear hs hk10 ha
                    go_wp2_with fail
                    go_meet
                    exact ⟨⟨false, rfl, fun _ => HAP.out k hlt (.inr (.inl ⟨HH10.out, HHA.out⟩))⟩, rfl⟩
                · by_cases hk1 : o.k = 1
                  · by_cases ha : (k : Int) = o.A.s
                    · skip
                      have ps : ((k : Int) == o.s) = false := by simpa using hs
                      have p10 : (o.k != 10) = true := by simpa using hk10
                      have p10b : (o.k == 10) = false := by simpa using hk10
                      have p1 : (o.k != 1) = false := by simpa using hk1
                      have pa : ((k : Int) == o.A.s) = true := by simpa using ha
                      have HHS := Lib.hid hs
                      have HH10 := Lib.hid hk10
                      have HH1 := Lib.hid hk1
                      have HHA := Lib.hid ha
                      clear hs hk10 hk1 ha
                      go_wp2_with fail
                      go_meet
                      exact ⟨⟨false, rfl, fun _ => HAP.out k hlt (.inl HH1.out)⟩, rfl⟩
                    · skip
                      have ps : ((k : Int) == o.s) = false := by simpa using hs
                      have p10 : (o.k != 10) = true := by simpa using hk10
                      have p10b : (o.k == 10) = false := by simpa using hk10
                      have p1 : (o.k != 1) = false := by simpa using hk1
                      have pa : ((k : Int) == o.A.s) = false := by simpa using ha
                      have HHS := Lib.hid hs
                      have HH10 := Lib.hid hk10
                      have HH1 := Lib.hid hk1
                      have HHA := Lib.hid ha
                      clear hs hk10 hk1 ha
                      go_wp2_with fail
                      go_meet
                      exact ⟨⟨false, rfl, fun _ => HAP.out k hlt (.inl HH1.out)⟩, rfl⟩
                  · by_cases ha : (k : Int) = o.A.s
                    · skip
                      have ps : ((k : Int) == o.s) = false := by simpa using hs
                      have p10 : (o.k != 10) = true := by simpa using hk10
                      have p10b : (o.k == 10) = false := by simpa using hk10
                      have p1 : (o.k != 1) = true := by simpa using hk1
                      have pa : ((k : Int) == o.A.s) = true := by simpa using ha
                      have HHS := Lib.hid hs
                      have HH10 := Lib.hid hk10
                      have HH1 := Lib.hid hk1
                      have HHA := Lib.hid ha
                      clear hs hk10 hk1 ha
                      go_wp2_with fail
                      go_meet
                      exact ⟨⟨false, rfl, fun _ => HAP.out k hlt (.inr (.inr ⟨HH10.out, HHS.out⟩))⟩, rfl⟩
                    · skip
                      have ps : ((k : Int) == o.s) = false := by simpa using hs
                      have p10 : (o.k != 10) = true := by simpa using hk10
                      have p10b : (o.k == 10) = false := by simpa using hk10
                      have p1 : (o.k != 1) = true := by simpa using hk1
                      have pa : ((k : Int) == o.A.s) = false := by simpa using ha
                      have HHS := Lib.hid hs
                      have HH10 := Lib.hid hk10
                      have HH1 := Lib.hid hk1
                      have HHA := Lib.hid ha
                      clear hs hk10 hk1 ha
                      go_wp2_with fail
                      go_meet
                      exact ⟨⟨false, rfl, fun _ => HAP.out k hlt (.inr (.inr ⟨HH10.out, HHS.out⟩))⟩, rfl⟩
            case rest =>
              obtain ⟨⟨q, rfl, hE9⟩, hwc⟩ := hcut
              subst hwc
              rename World => wr
              cases q
              · have HE : c.a k = b.a k := hE9 rfl
                clear hE9
                obtain ⟨Ab, cb, hvb⟩ := HBS.out k hlt
                obtain ⟨Ac, cc, hvc⟩ := HCV.out k hlt
                rw [HE] at hvc
                obtain ⟨av, hav⟩ : ∃ av, b.a k = av := ⟨_, rfl⟩
                rw [hav] at HE hvb hvc
                have HFV : Hid (b.a k = av ∧ b.v k = .slice Ab av.l.length cb ∧ c.a k = av ∧ c.v k = .slice Ac av.l.length cc) := ⟨hav, hvb, HE, hvc⟩
                clear HE hvb hvc hav
                have FC := Kb.five ((HB.out.block CB hzC).trans HEC.out) hlt HFV.out.2.2.1 HFV.out.2.2.2
                have FB := Kb.five ((HB.out.block D hzD).trans HED.out) hlt HFV.out.1 HFV.out.2.1
                obtain ⟨f0, f4, f5, f7, f9⟩ := FC
                obtain ⟨g0, g4, g5, g7, g9⟩ := FB
                have fc0 : wr.cell? ⟨CB, 2 + k * 13 + 8, none⟩ = some (.int .i64 av.dn) := f9 0 _ rfl
                have fc1 : wr.cell? ⟨CB, 2 + k * 13 + 8 + 1, none⟩ = some (.int .i64 av.un) := f9 1 _ rfl
                have fd1 : wr.cell? ⟨CB, 2 + k * 13 + 9, none⟩ = some (.int .i64 av.un) := f9 1 _ rfl
                have fc2 : wr.cell? ⟨CB, 2 + k * 13 + 8 + 2, none⟩ = some (.int .i64 av.rf) := f9 2 _ rfl
                have fd2 : wr.cell? ⟨CB, 2 + k * 13 + 10, none⟩ = some (.int .i64 av.rf) := f9 2 _ rfl
                have fc3 : wr.cell? ⟨CB, 2 + k * 13 + 8 + 3, none⟩ = some (.int .i64 av.sp) := f9 3 _ rfl
                have fd3 : wr.cell? ⟨CB, 2 + k * 13 + 11, none⟩ = some (.int .i64 av.sp) := f9 3 _ rfl
                have fc4 : wr.cell? ⟨CB, 2 + k * 13 + 8 + 4, none⟩ = some (.int .i64 av.pd) := f9 4 _ rfl
                have fd4 : wr.cell? ⟨CB, 2 + k * 13 + 12, none⟩ = some (.int .i64 av.pd) := f9 4 _ rfl
                have gc0 : wr.cell? ⟨D, 2 + k * 13 + 8, none⟩ = some (.int .i64 av.dn) := g9 0 _ rfl
                have gc1 : wr.cell? ⟨D, 2 + k * 13 + 8 + 1, none⟩ = some (.int .i64 av.un) := g9 1 _ rfl
                have gd1 : wr.cell? ⟨D, 2 + k * 13 + 9, none⟩ = some (.int .i64 av.un) := g9 1 _ rfl
                have gc2 : wr.cell? ⟨D, 2 + k * 13 + 8 + 2, none⟩ = some (.int .i64 av.rf) := g9 2 _ rfl
                have gd2 : wr.cell? ⟨D, 2 + k * 13 + 10, none⟩ = some (.int .i64 av.rf) := g9 2 _ rfl
                have gc3 : wr.cell? ⟨D, 2 + k * 13 + 8 + 3, none⟩ = some (.int .i64 av.sp) := g9 3 _ rfl
                have gd3 : wr.cell? ⟨D, 2 + k * 13 + 11, none⟩ = some (.int .i64 av.sp) := g9 3 _ rfl
                have gc4 : wr.cell? ⟨D, 2 + k * 13 + 8 + 4, none⟩ = some (.int .i64 av.pd) := g9 4 _ rfl
                have gd4 : wr.cell? ⟨D, 2 + k * 13 + 12, none⟩ = some (.int .i64 av.pd) := g9 4 _ rfl
                clear f9 g9
                go_wp2_with fail
                go_quiet (fail)
                clear f0 f4 f5 f7 g0 g4 g5 g7 fc0 fc1 fc2 fc3 fc4 gc0 gc1 gc2 gc3 gc4 fd1 fd2 fd3 fd4 gd1 gd2 gd3 gd4
                go_wp2
                go_roundw
                case rel => exact ⟨k + 1, by omega, by go_num, Below.drewN' HB.out _⟩
                case measure => simp [intOf]; omega
              · clear hE9
                go_wp2_with fail
                go_roundw
                case rel => exact ⟨k + 1, by omega, by go_num, HB⟩
                case measure => simp [intOf]; omega
end Go.Proofs.Ytiihaalmolpkpaa
