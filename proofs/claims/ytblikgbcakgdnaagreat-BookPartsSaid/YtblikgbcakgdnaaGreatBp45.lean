/-
  BookParts: two days one behind the other are the later one. No conditions.
-/
import Derived.Test.YtblikgbcakgdnaaGreatBp44
set_option linter.unusedSimpArgs false
set_option linter.unusedVariables false
namespace Go.Proofs.YtblikgbcakgdnaaGreat
set_option linter.unusedVariables false
set_option linter.unusedSimpArgs false
set_option maxRecDepth 100000
open Go.ChangeShapes Go.WideShapes Go.ChangeAt Go.RowKit

set_option maxHeartbeats 16000000 in
theorem bookParts_walk {w : World} (a0 : Int) (w0 : (Lit.int .u16 a0).wf = true) (a1 : Int) (w1 : (Lit.int .u8 a1).wf = true) (a2 : Int) (w2 : (Lit.int .u8 a2).wf = true) (a3 : Int) (w3 : (Lit.int .u8 a3).wf = true) (a4 : Int) (w4 : (Lit.int .u8 a4).wf = true) (a5 : Int) (w5 : (Lit.int .u8 a5).wf = true) :
    Calls Tryz.prog 8 #[.int .u16 a0, .int .u8 a1, .int .u8 a2, .int .u8 a3, .int .u8 a4, .int .u8 a5] w fun e w' => e = .returned (.bool true) ∧ Below w.heap.size w w' := by
  obtain ⟨h00, h01⟩ := wf_u16 w0
  obtain ⟨h10, h11⟩ : 0 ≤ a1 ∧ a1 < 256 := wf_u8 w1
  obtain ⟨h20, h21⟩ : 0 ≤ a2 ∧ a2 < 256 := wf_u8 w2
  obtain ⟨h30, h31⟩ : 0 ≤ a3 ∧ a3 < 256 := wf_u8 w3
  obtain ⟨h40, h41⟩ : 0 ≤ a4 ∧ a4 < 256 := wf_u8 w4
  obtain ⟨h50, h51⟩ : 0 ≤ a5 ∧ a5 < 256 := wf_u8 w5
  clear w0 w1 w2 w3 w4 w5
  go_enter Tryz.func8, Tryz.ntmps8
  go_wp2_with fail
  refine (bkawake_any _).mono ?_
  rintro e u1 ⟨rfl, hb1⟩
  have HW1 : Hid (Below w.heap.size w u1) := hb1
  clear hb1
  go_wp2_with fail
  refine (bknew_any (700000 + a0) _).mono ?_
  rintro e u2 ⟨rfl, hb2⟩
  have HW2 : Hid (Below w.heap.size w u2) := HW1.out.trans (hb2.mono HW1.out.size)
  clear hb2 HW1
  go_wp2_with (((with_reducible_and_instances (show wpList _ _ _ (Oper.mk _ (Op.store 35 _ _) _ _ _ _ :: _) _ _)); refine stop_here ?_))
  refine ⟨?_⟩
  refine wl_store (g := u2.heap.size) Kb.info rfl rfl rfl rfl (alloc_at rfl) Kb.zero_size (Kb.arr_size _) (Kb.new_one _).arr ?_
  obtain ⟨U1, hU1⟩ : ∃ U1, boxed (u2.alloc (.cells Tryz.zeroCells35 35)) u2.heap.size (Kb.new (700000 + a0)).arr 35 = U1 := ⟨_, rfl⟩
  have HD5 : Hid (U1.heap[u2.heap.size]? = some (.cells (Kb.new (700000 + a0)).arr 35 (0, 0))) := by rw [← hU1]; exact boxed_at (by simp)
  have HW5 : Hid (Below w.heap.size w U1) := by rw [← hU1]; exact boxed_below (HW2.out.alloc HW2.out.size _) HW2.out.size
  have hwD : w.heap.size ≤ u2.heap.size := HW2.out.size
  rw [hU1]
  clear hU1 HW2
  generalize u2.heap.size = D at *
  have hDU : D < U1.heap.size := (Array.getElem?_eq_some_iff.1 HD5.out).1
  go_upto_region 5 with fail
  have HW6 : Hid (Below w.heap.size w (U1.alloc (.cells #[.int .u8 a1, .int .u8 a2, .int .u8 a3] 5))) := HW5.out.alloc HW5.out.size _
  have HD6 : Hid ((U1.alloc (.cells #[.int .u8 a1, .int .u8 a2, .int .u8 a3] 5)).heap[D]? = some (.cells (Kb.new (700000 + a0)).arr 35 (0, 0))) := alloc_old hDU HD5.out
  have HZ6 : Hid ((U1.alloc (.cells #[.int .u8 a1, .int .u8 a2, .int .u8 a3] 5)).heap[U1.heap.size]? = some (.cells #[.int .u8 a1, .int .u8 a2, .int .u8 a3] 5 (0, 0))) := alloc_at rfl
  clear HW5 HD5
  generalize U1.alloc (.cells #[.int .u8 a1, .int .u8 a2, .int .u8 a3] 5) = U2 at *
  generalize U1.heap.size = Z at *
  go_wp2_with fail
  go_loopw [15] (fun i wq => ∃ (j : Nat) (b : Kb) (ps : List Pv), j ≤ 3 ∧ i = .int .i64 j ∧ Hid (Below w.heap.size w wq) ∧ Hid (wq.heap[D]? = some (.cells b.arr 35 (0, 0))) ∧ Hid (wq.heap[Z]? = some (.cells #[.int .u8 a1, .int .u8 a2, .int .u8 a3] 5 (0, 0))) ∧ Hid (KbM wq (D + 1) wq.heap.size b ps) ∧ Hid (Pq j j b.td b.a ps)) (fun i _ => 3 - (intOf i).toNat)
  case atStart => exact ⟨0, Kb.new (700000 + a0), [], by omega, rfl, HW6, HD6, HZ6, new_km _ _ _ _, ⟨⟨by show 700000 ≤ 700000 + a0; omega, by show 700000 + a0 ≤ 800000; omega⟩, rfl, fun P hP => (nomatch hP), fun _ _ _ => rfl, fun k hk => absurd hk (by omega)⟩⟩
  case round =>
    clear HW6 HD6 HZ6
    obtain ⟨j, b, ps, hj, rfl, HW, HD, HZ, HK, HP⟩ := hrel
    by_cases hlt : j < 3
    case pos =>
      have dlt : decide ((j : Int) < 3) = true := by simp; omega
      obtain ⟨x, hx0, hx1, hxc⟩ : ∃ x : Int, 0 ≤ x ∧ x < 256 ∧ wr.cell? ⟨Z, j, none⟩ = some (.int .u8 x) := by
        rcases (by omega : j = 0 ∨ j = 1 ∨ j = 2) with rfl | rfl | rfl
        · exact ⟨a1, h10, h11, by rw [cell_of_row _ _ _ _ _ _ HZ.out]; rfl⟩
        · exact ⟨a2, h20, h21, by rw [cell_of_row _ _ _ _ _ _ HZ.out]; rfl⟩
        · exact ⟨a3, h30, h31, by rw [cell_of_row _ _ _ _ _ _ HZ.out]; rfl⟩
      have hjI : (j : Int) < 3 := by omega
      have hjJ : (0 : Int) ≤ (j : Int) := by omega
      have hzr : D < wr.heap.size := (Array.getElem?_eq_some_iff.1 HD.out).1
      have hzz : Z < wr.heap.size := (Array.getElem?_eq_some_iff.1 HZ.out).1
      go_wp2_with fail
      clear hxc
      refine (plan12_any x hx0 hx1 _).mono ?_
      rintro e w2 ⟨rfl, hb2⟩
      have hok : ((Pv.of x).Ok ∧ (Pv.of x).e ≤ 12 ∧ 0 ≤ (Pv.of x).t ∧ (Pv.of x).t ≤ 1000) := Pv.of_ok x
      have hpr := Pv.of_right x
      obtain ⟨P, hP⟩ : ∃ P, Pv.of x = P := ⟨_, rfl⟩
      rw [hP] at hok hpr ⊢
      clear hP
      obtain ⟨pa, pu, pe, pt, pg, pl⟩ := P
      have HOK : Hid (((⟨pa, pu, pe, pt, pg, false⟩ : Pv).Ok ∧ pe ≤ 12 ∧ 0 ≤ pt ∧ pt ≤ 1000) ∧ (⟨pa, pu, pe, pt, pg, false⟩ : Pv).l = false) := Lib.hid ⟨⟨⟨hok.1.u, hok.1.e, hok.1.a⟩, hok.2⟩, rfl⟩
      have HPR : Hid (Pn.right pa pu pe pt = 0) := Lib.hid hpr
      clear hok hpr
      have HW2 : Hid (Below w.heap.size w w2) := HW.out.trans (hb2.mono HW.out.size)
      have HD2 : Hid (w2.heap[D]? = some (.cells b.arr 35 (0, 0))) := (hb2.block D hzr).trans HD.out
      have HZ2 : Hid (w2.heap[Z]? = some (.cells #[.int .u8 a1, .int .u8 a2, .int .u8 a3] 5 (0, 0))) := (hb2.block Z hzz).trans HZ.out
      have HK2 : Hid (KbM w2 (D + 1) w2.heap.size b ps) := (HK.out.below hb2).more (Nat.le_refl _) hb2.size
      have hz2 : D < w2.heap.size := (Array.getElem?_eq_some_iff.1 HD2.out).1
      have hz2z : Z < w2.heap.size := (Array.getElem?_eq_some_iff.1 HZ2.out).1
      clear hb2 HW HD HZ HK hzr hzz
      dsimp only [Pv.arr]
      go_wp2_with (((with_reducible_and_instances (show wpList _ _ _ (Oper.mk _ (Op.load 35 _) _ _ _ _ :: _) _ _)); refine stop_here ?_))
      refine ⟨?_⟩
      have HW3 : Hid (Below w.heap.size w (w2.alloc (.cells #[.int .i64 pa, .int .u8 pu, .int .i64 pe, .int .i64 pt, .bool pg, .bool false] 44))) := HW2.out.alloc HW2.out.size _
      have HD3 : Hid ((w2.alloc (.cells #[.int .i64 pa, .int .u8 pu, .int .i64 pe, .int .i64 pt, .bool pg, .bool false] 44)).heap[D]? = some (.cells b.arr 35 (0, 0))) := alloc_old hz2 HD2.out
      have HZ3 : Hid ((w2.alloc (.cells #[.int .i64 pa, .int .u8 pu, .int .i64 pe, .int .i64 pt, .bool pg, .bool false] 44)).heap[Z]? = some (.cells #[.int .u8 a1, .int .u8 a2, .int .u8 a3] 5 (0, 0))) := alloc_old hz2z HZ2.out
      have HP3 : Hid ((w2.alloc (.cells #[.int .i64 pa, .int .u8 pu, .int .i64 pe, .int .i64 pt, .bool pg, .bool false] 44)).heap[w2.heap.size]? = some (.cells #[.int .i64 pa, .int .u8 pu, .int .i64 pe, .int .i64 pt, .bool pg, .bool false] 44 (0, 0))) := alloc_at rfl
      have HK3 : Hid (KbM (w2.alloc (.cells #[.int .i64 pa, .int .u8 pu, .int .i64 pe, .int .i64 pt, .bool pg, .bool false] 44)) (D + 1) (w2.alloc (.cells #[.int .i64 pa, .int .u8 pu, .int .i64 pe, .int .i64 pt, .bool pg, .bool false] 44)).heap.size b ps) := (HK2.out.below ((Below.refl _ w2).alloc (Nat.le_refl _) _)).more (Nat.le_refl _) (by simp)
      clear HW2 HD2 HZ2 HK2 hz2 hz2z
      generalize w2.alloc (.cells #[.int .i64 pa, .int .u8 pu, .int .i64 pe, .int .i64 pt, .bool pg, .bool false] 44) = W3 at *
      generalize w2.heap.size = PB at *
      have hz3 : D < W3.heap.size := (Array.getElem?_eq_some_iff.1 HD3.out).1
      have hz3z : Z < W3.heap.size := (Array.getElem?_eq_some_iff.1 HZ3.out).1
      refine wl_load (cs := b.arr) (fr := (0, 0)) (g := D) Tryz.underlying35 rfl Kb.info rfl rfl rfl HD3.out (Kb.arr_size _) ?_
      go_wp2_with (((with_reducible_and_instances (show wpList _ _ _ (Oper.mk _ (Op.load 44 _) _ _ _ _ :: _) _ _)); refine stop_here ?_))
      refine ⟨?_⟩
      refine wl_load (cs := #[.int .i64 pa, .int .u8 pu, .int .i64 pe, .int .i64 pt, .bool pg, .bool false]) (fr := (0, 0)) (g := PB) Tryz.underlying44 rfl info6k rfl rfl rfl HP3.out rfl ?_
      go_wp2_with (((with_reducible_and_instances (show wpList _ _ _ (Oper.mk _ (Op.build 48 _) _ _ _ _ :: _) _ _)); refine stop_here ?_))
      refine ⟨?_⟩
      refine wpList_buildTo rfl 48 _ rfl _ rfl _ (Eq.trans (congrArg (Program.built _ _) (by simp [Act.eval])) (built_def pa pu pe pt pg false)) ?_
      go_wp2_with fail
      refine (parts_def (P := ⟨pa, pu, pe, pt, pg, false⟩) HP.out hlt (HK3.out.more (Nat.zero_le _) (Nat.le_refl _)) HPR.out).mono ?_
      rintro e w4 ⟨c, hct, hca, rfl, hk, hb⟩
      have HQ : Hid (Pq (j + 1) j c.td c.a (ps ++ [⟨pa, pu, pe, pt, pg, false⟩])) := Lib.hid ((HP.out.def_ ⟨HOK.out.1, rfl⟩).congr (by omega) hct hca)
      have HW4 : Hid (Below w.heap.size w w4) := HW3.out.trans (hb.mono HW3.out.size)
      have HD4 : Hid (w4.heap[D]? = some (.cells b.arr 35 (0, 0))) := (hb.block D hz3).trans HD3.out
      have HZ4 : Hid (w4.heap[Z]? = some (.cells #[.int .u8 a1, .int .u8 a2, .int .u8 a3] 5 (0, 0))) := (hb.block Z hz3z).trans HZ3.out
      have HK4 : Hid (KbM w4 (D + 1) w4.heap.size c (ps ++ [⟨pa, pu, pe, pt, pg, false⟩])) := Lib.hid (hk.more (by omega) (Nat.le_refl _))
      have hz4 : D < w4.heap.size := (Array.getElem?_eq_some_iff.1 HD4.out).1
      have hz4z : Z < w4.heap.size := (Array.getElem?_eq_some_iff.1 HZ4.out).1
      clear hct hca hk hb HW3 HD3 HZ3 HP3 HK3 HP HOK HPR hz3 hz3z
      go_wp2_with (((with_reducible_and_instances (show wpList _ _ _ (Oper.mk _ (Op.store 35 _ _) _ _ _ _ :: _) _ _)); refine stop_here ?_))
      refine ⟨?_⟩
      refine wl_store (g := D) Kb.info rfl rfl rfl rfl HD4.out (Kb.arr_size _) (Kb.arr_size _) HK4.out.one.arr ?_
      have HW5 : Hid (Below w.heap.size w (boxed w4 D c.arr 35)) := boxed_below HW4.out hwD
      have HD5 : Hid ((boxed w4 D c.arr 35).heap[D]? = some (.cells c.arr 35 (0, 0))) := boxed_at hz4
      have HZ5 : Hid ((boxed w4 D c.arr 35).heap[Z]? = some (.cells #[.int .u8 a1, .int .u8 a2, .int .u8 a3] 5 (0, 0))) := boxed_old (by omega) HZ4.out
      have HK5 : Hid (KbM (boxed w4 D c.arr 35) (D + 1) (boxed w4 D c.arr 35).heap.size c (ps ++ [⟨pa, pu, pe, pt, pg, false⟩])) := (HK4.out.boxed (.inl (Nat.lt_succ_self _))).more (Nat.le_refl _) (by rw [boxed_size]; exact Nat.le_refl _)
      clear HW4 HD4 HZ4 HK4 hz4 hz4z
      generalize boxed w4 D c.arr 35 = W5 at *
      generalize ps ++ [⟨pa, pu, pe, pt, pg, false⟩] = ps5 at *
      have hz5 : D < W5.heap.size := (Array.getElem?_eq_some_iff.1 HD5.out).1
      have hz5z : Z < W5.heap.size := (Array.getElem?_eq_some_iff.1 HZ5.out).1
      obtain ⟨s', hq, hcall⟩ := parts_open HQ.out hlt (HK5.out.more (Nat.zero_le _) (Nat.le_refl _))
      have HQ5 := Lib.hid hq
      have HCALL := Lib.hid hcall
      clear hq hcall
      go_wp2_with (((with_reducible_and_instances (show wpList _ _ _ (Oper.mk _ (Op.load 35 _) _ _ _ _ :: _) _ _)); refine stop_here ?_))
      refine ⟨?_⟩
      refine wl_load (cs := c.arr) (fr := (0, 0)) (g := D) Tryz.underlying35 rfl Kb.info rfl rfl rfl HD5.out (Kb.arr_size _) ?_
      go_wp2_with (((with_reducible_and_instances (show wpList _ _ _ (Oper.mk _ (Op.build 48 _) _ _ _ _ :: _) _ _)); refine stop_here ?_))
      refine ⟨?_⟩
      refine wpList_buildTo rfl 48 _ rfl _ rfl _ (Eq.trans (congrArg (Program.built _ _) (by simp [Act.eval])) (built_opn (j : Int) (j : Int))) ?_
      go_wp2_with fail
      refine HCALL.out.mono ?_
      rintro e w6 ⟨c6, hct, hca, rfl, hk, hb⟩
      have HQ6 : Hid (Pq (j + 1) (j + 1) c6.td c6.a ps5) := Lib.hid (HQ5.out.congr (by omega) hct hca)
      have HW6 : Hid (Below w.heap.size w w6) := HW5.out.trans (hb.mono HW5.out.size)
      have HD6 : Hid (w6.heap[D]? = some (.cells c.arr 35 (0, 0))) := (hb.block D hz5).trans HD5.out
      have HZ6 : Hid (w6.heap[Z]? = some (.cells #[.int .u8 a1, .int .u8 a2, .int .u8 a3] 5 (0, 0))) := (hb.block Z hz5z).trans HZ5.out
      have HK6 : Hid (KbM w6 (D + 1) w6.heap.size c6 ps5) := Lib.hid (hk.more (by omega) (Nat.le_refl _))
      have hz6 : D < w6.heap.size := (Array.getElem?_eq_some_iff.1 HD6.out).1
      clear hct hca hk hb HW5 HD5 HZ5 HK5 HQ HQ5 HCALL hz5 hz5z
      go_wp2_with (((with_reducible_and_instances (show wpList _ _ _ (Oper.mk _ (Op.store 35 _ _) _ _ _ _ :: _) _ _)); refine stop_here ?_))
      refine ⟨?_⟩
      refine wl_store (g := D) Kb.info rfl rfl rfl rfl HD6.out (Kb.arr_size _) (Kb.arr_size _) HK6.out.one.arr ?_
      go_wp2_with fail
      go_roundw
      case rel => exact ⟨j + 1, c6, ps5, by omega, by go_num, boxed_below HW6.out hwD, boxed_at hz6, boxed_old (by omega) HZ6.out, (HK6.out.boxed (.inl (Nat.lt_succ_self _))).more (Nat.le_refl _) (by rw [boxed_size]; exact Nat.le_refl _), HQ6⟩
      case measure => simp [intOf]; omega
    case neg =>
      obtain rfl : j = 3 := by omega
      have dlt : decide (((3 : Nat) : Int) < 3) = false := by decide
      obtain ⟨J, hJ⟩ : ∃ J, a4 % 30 = J := ⟨_, rfl⟩
      obtain ⟨K, hK⟩ : ∃ K, a5 % 30 = K := ⟨_, rfl⟩
      have tJ : a4.tmod 30 = J := by rw [← hJ]; exact Int.tmod_eq_emod_of_nonneg h40
      have tK : a5.tmod 30 = K := by rw [← hK]; exact Int.tmod_eq_emod_of_nonneg h50
      have J0 : 0 ≤ J ∧ J ≤ 29 := by omega
      have K0 : 0 ≤ K ∧ K ≤ 29 := by omega
      clear hJ hK
      have bJ : IntKind.u8.wrap J = J := by show _ = _; simp [IntKind.wrap, IntKind.bits, IntKind.signed]; omega
      have bK : IntKind.u8.wrap K = K := by show _ = _; simp [IntKind.wrap, IntKind.bits, IntKind.signed]; omega
      have cJ : IntKind.i64.wrap J = J := by rw [IntKind.wrap_i64]; omega
      have cK : IntKind.i64.wrap K = K := by rw [IntKind.wrap_i64]; omega
      have dJ : wrap64 (1 + J) = 1 + J := by unfold wrap64; omega
      have dK : wrap64 (1 + K) = 1 + K := by unfold wrap64; omega
      have HN : Hid (wrap64 (1 + J + (1 + K)) = 1 + J + (1 + K)) := Lib.hid (by unfold wrap64; omega)
      have htd := HP.out.day
      have hlen := HP.out.len
      have hpk := fun P hP => (HP.out.pok P hP).1
      have HLN := Lib.hid HP.out.lens
      have HPK := Lib.hid hpk
      obtain ⟨A1, A2, A3, p1, p2, p3, h23⟩ := HP.out.parts (j := 1 + J) (k := 1 + K) (by omega) (by omega)
      have P1 := Lib.hid p1
      have P2 := Lib.hid p2
      have P3 := Lib.hid p3
      have H23 := Lib.hid h23
      have eN := HN.out
      have hzr : D < wr.heap.size := (Array.getElem?_eq_some_iff.1 HD.out).1
      clear hpk p1 p2 p3 h23
      go_wp2_with (((with_reducible_and_instances (show wpList _ _ _ (Oper.mk _ (Op.load 35 _) _ _ _ _ :: _) _ _)); refine stop_here ?_))
      refine ⟨?_⟩
      refine wl_load (cs := b.arr) (fr := (0, 0)) (g := D) Tryz.underlying35 rfl Kb.info rfl rfl rfl HD.out (Kb.arr_size _) ?_
      go_wp2_with (((with_reducible_and_instances (show wpList _ _ _ (Oper.mk _ (Op.build 48 _) _ _ _ _ :: _) _ _)); refine stop_here ?_))
      refine ⟨?_⟩
      refine wpList_buildTo rfl 48 _ rfl _ rfl _ (Eq.trans (congrArg (Program.built _ _) (by simp [Act.eval])) (built_pas (1 + J))) ?_
      go_wp2_with fail
      refine (pass_det (HK.out.more (Nat.zero_le _) (Nat.le_refl _)) (by omega) HLN.out (by omega) (by omega) P1.out).mono ?_
      rintro e w4 ⟨c, hct, hca, rfl, hk, hb⟩
      have HP2 : Hid (Psd 1100000000 (1 + (1 + J) + (1 + K)) (c.td + (1 + K)) ps c.a A2) := Lib.hid (by rw [hct]; exact P2.out.from_ hca)
      have HL2 : Hid (∀ k, k < 32 → (c.a k).l.length ≤ 9000) := Lib.hid (P1.out.lens_to (by omega) hca)
      have HCT : Hid (c.td = b.td + (1 + J)) := Lib.hid hct
      have HW4 : Hid (Below w.heap.size w w4) := HW.out.trans (hb.mono HW.out.size)
      have HD4 : Hid (w4.heap[D]? = some (.cells b.arr 35 (0, 0))) := (hb.block D hzr).trans HD.out
      have HK4 : Hid (KbM w4 (D + 1) w4.heap.size b ps) := (HK.out.below hb).more (Nat.le_refl _) hb.size
      have HC4 : Hid (KbM w4 (D + 1) w4.heap.size c ps) := Lib.hid (hk.more (by omega) (Nat.le_refl _))
      have hz4 : D < w4.heap.size := (Array.getElem?_eq_some_iff.1 HD4.out).1
      clear hct hca hk hb HW HD HK HZ hzr P1 P2
      go_wp2_with (((with_reducible_and_instances (show wpList _ _ _ (Oper.mk _ (Op.store 35 _ _) _ _ _ _ :: _) _ _)); refine stop_here ?_))
      refine ⟨?_⟩
      refine wl_store (g := w4.heap.size) Kb.info rfl rfl rfl rfl (alloc_at rfl) Kb.zero_size (Kb.arr_size _) HC4.out.one.arr ?_
      obtain ⟨W5, hW5⟩ : ∃ W5, boxed (w4.alloc (.cells Tryz.zeroCells35 35)) w4.heap.size c.arr 35 = W5 := ⟨_, rfl⟩
      have HW5 : Hid (Below w.heap.size w W5) := by rw [← hW5]; exact boxed_below (HW4.out.alloc HW4.out.size _) HW4.out.size
      have hb5 : Below w4.heap.size w4 W5 := by rw [← hW5]; exact boxed_below ((Below.refl _ w4).alloc (Nat.le_refl _) _) (Nat.le_refl _)
      have HD5 : Hid (W5.heap[D]? = some (.cells b.arr 35 (0, 0))) := (hb5.block D hz4).trans HD4.out
      have HY5 : Hid (W5.heap[w4.heap.size]? = some (.cells c.arr 35 (0, 0))) := by rw [← hW5]; exact boxed_at (by simp)
      have HK5 : Hid (KbM W5 (D + 1) w4.heap.size b ps) := HK4.out.below hb5
      have HC5 : Hid (KbM W5 0 W5.heap.size c ps) := (HC4.out.below hb5).more (Nat.zero_le _) hb5.size
      have hzY : w4.heap.size < W5.heap.size := (Array.getElem?_eq_some_iff.1 HY5.out).1
      have hwY : w.heap.size ≤ w4.heap.size := HW4.out.size
      rw [hW5]
      clear hW5 hb5 HW4 HD4 HK4 HC4
      generalize w4.heap.size = Y at *
      go_wp2_with (((with_reducible_and_instances (show wpList _ _ _ (Oper.mk _ (Op.load 35 _) _ _ _ _ :: _) _ _)); refine stop_here ?_))
      refine ⟨?_⟩
      refine wl_load (cs := c.arr) (fr := (0, 0)) (g := Y) Tryz.underlying35 rfl Kb.info rfl rfl rfl HY5.out (Kb.arr_size _) ?_
      go_wp2_with (((with_reducible_and_instances (show wpList _ _ _ (Oper.mk _ (Op.build 48 _) _ _ _ _ :: _) _ _)); refine stop_here ?_))
      refine ⟨?_⟩
      refine wpList_buildTo rfl 48 _ rfl _ rfl _ (Eq.trans (congrArg (Program.built _ _) (by simp [Act.eval])) (built_pas (1 + K))) ?_
      go_wp2_with fail
      refine (pass_det HC5.out (by omega) HL2.out (by have := HCT.out; omega) (by omega) HP2.out).mono ?_
      rintro e w6 ⟨c6, hct, hca, rfl, hk, hb⟩
      have HB6 : Hid (PBok 1100000000 (1 + (1 + J) + (1 + K)) c6.td c6.a ps) := Lib.hid (((HP2.out.bok (by omega) HPK.out (by have := HCT.out; omega)).congr hca).day_ hct)
      have HA6 : Hid (c6.td = b.td + (1 + J + (1 + K)) ∧ ∀ k, k < 32 → c6.a k = A3 k) := Lib.hid ⟨by have := HCT.out; omega, fun k hk => (hca k hk).trans (H23.out k hk)⟩
      have HW6 : Hid (Below w.heap.size w w6) := HW5.out.trans (hb.mono HW5.out.size)
      have HD6 : Hid (w6.heap[D]? = some (.cells b.arr 35 (0, 0))) := (hb.block D (by omega)).trans HD5.out
      have HY6 : Hid (w6.heap[Y]? = some (.cells c.arr 35 (0, 0))) := (hb.block Y hzY).trans HY5.out
      have HK6 : Hid (KbM w6 (D + 1) Y b ps) := HK5.out.below (hb.mono (Nat.le_of_lt hzY))
      have HC6 : Hid (KbM w6 (Y + 1) w6.heap.size c6 ps) := Lib.hid (hk.more (by omega) (Nat.le_refl _))
      have hz6 : Y < w6.heap.size := (Array.getElem?_eq_some_iff.1 HY6.out).1
      clear hct hca hk hb HW5 HD5 HY5 HK5 HC5 HP2 HL2 HCT hzY H23
      go_wp2_with (((with_reducible_and_instances (show wpList _ _ _ (Oper.mk _ (Op.store 35 _ _) _ _ _ _ :: _) _ _)); refine stop_here ?_))
      refine ⟨?_⟩
      refine wl_store (g := Y) Kb.info rfl rfl rfl rfl HY6.out (Kb.arr_size _) (Kb.arr_size _) HC6.out.one.arr ?_
      have HW7 : Hid (Below w.heap.size w (boxed w6 Y c6.arr 35)) := boxed_below HW6.out hwY
      have HD7 : Hid ((boxed w6 Y c6.arr 35).heap[D]? = some (.cells b.arr 35 (0, 0))) := boxed_old (by omega) HD6.out
      have HY7 : Hid ((boxed w6 Y c6.arr 35).heap[Y]? = some (.cells c6.arr 35 (0, 0))) := boxed_at hz6
      have HC7 : Hid (KbM (boxed w6 Y c6.arr 35) 0 (boxed w6 Y c6.arr 35).heap.size c6 ps) := (HC6.out.boxed (.inl (Nat.lt_succ_self _))).more (Nat.zero_le _) (by rw [boxed_size]; exact Nat.le_refl _)
      have HK7 : Hid (KbM (boxed w6 Y c6.arr 35) (D + 1) Y b ps) := HK6.out.boxed (.inr (Nat.le_refl _))
      have hz7 : Y < (boxed w6 Y c6.arr 35).heap.size := by rw [boxed_size]; exact hz6
      clear HW6 HD6 HY6 HK6 HC6 hz6
      generalize boxed w6 Y c6.arr 35 = W7 at *
      go_wp2_with (((with_reducible_and_instances (show wpList _ _ _ (Oper.mk _ (Op.load 35 _) _ _ _ _ :: _) _ _)); refine stop_here ?_))
      refine ⟨?_⟩
      refine wl_load (cs := b.arr) (fr := (0, 0)) (g := D) Tryz.underlying35 rfl Kb.info rfl rfl rfl HD7.out (Kb.arr_size _) ?_
      go_wp2_with (((with_reducible_and_instances (show wpList _ _ _ (Oper.mk _ (Op.build 48 _) _ _ _ _ :: _) _ _)); refine stop_here ?_))
      refine ⟨?_⟩
      refine wpList_buildTo rfl 48 _ rfl _ rfl _ (Eq.trans (congrArg (Program.built _ _) (by simp [Act.eval])) (built_pas (1 + J + (1 + K)))) ?_
      go_wp2_with fail
      refine (pass_det (HK7.out.more (Nat.zero_le _) (Nat.le_of_lt hz7)) (by omega) HLN.out (by omega) (by omega) P3.out).mono ?_
      rintro e w8 ⟨c8, hct, hca, rfl, hk, hb⟩
      have HB8 : Hid (PBok 1100000000 (1 + (1 + J + (1 + K))) c8.td c8.a ps) := Lib.hid (((P3.out.bok (by omega) HPK.out (by omega)).congr hca).day_ hct)
      have HE8 : Hid (Kbe.book c8.td ps c8.a = Kbe.book c6.td ps c6.a) := Lib.hid (by rw [hct, HA6.out.1]; exact Kbe.book_congr fun k hk => (hca k hk).trans (HA6.out.2 k hk).symm)
      have HW8 : Hid (Below w.heap.size w w8) := HW7.out.trans (hb.mono HW7.out.size)
      have HY8 : Hid (w8.heap[Y]? = some (.cells c6.arr 35 (0, 0))) := (hb.block Y hz7).trans HY7.out
      have HC8 : Hid (KbM w8 0 w8.heap.size c6 ps) := (HC7.out.below hb).more (Nat.zero_le _) hb.size
      have HD8 : Hid (KbM w8 0 w8.heap.size c8 ps) := Lib.hid (hk.more (Nat.zero_le _) (Nat.le_refl _))
      have hz8 : Y < w8.heap.size := (Array.getElem?_eq_some_iff.1 HY8.out).1
      clear hct hca hk hb HW7 HD7 HY7 HK7 HC7 hz7 P3 HA6
      go_wp2_with (((with_reducible_and_instances (show wpList _ _ _ (Oper.mk _ (Op.store 35 _ _) _ _ _ _ :: _) _ _)); refine stop_here ?_))
      refine ⟨?_⟩
      refine wl_store (g := w8.heap.size) Kb.info rfl rfl rfl rfl (alloc_at rfl) Kb.zero_size (Kb.arr_size _) HD8.out.one.arr ?_
      obtain ⟨W9, hW9⟩ : ∃ W9, boxed (w8.alloc (.cells Tryz.zeroCells35 35)) w8.heap.size c8.arr 35 = W9 := ⟨_, rfl⟩
      have HW9 : Hid (Below w.heap.size w W9) := by rw [← hW9]; exact boxed_below (HW8.out.alloc HW8.out.size _) HW8.out.size
      have hb9 : Below w8.heap.size w8 W9 := by rw [← hW9]; exact boxed_below ((Below.refl _ w8).alloc (Nat.le_refl _) _) (Nat.le_refl _)
      have HY9 : Hid (W9.heap[Y]? = some (.cells c6.arr 35 (0, 0))) := (hb9.block Y hz8).trans HY8.out
      have HV9 : Hid (W9.heap[w8.heap.size]? = some (.cells c8.arr 35 (0, 0))) := by rw [← hW9]; exact boxed_at (by simp)
      have HC9 : Hid (KbM W9 0 W9.heap.size c6 ps) := (HC8.out.below hb9).more (Nat.zero_le _) hb9.size
      have HD9 : Hid (KbM W9 0 W9.heap.size c8 ps) := (HD8.out.below hb9).more (Nat.zero_le _) hb9.size
      rw [hW9]
      clear hW9 hb9 HW8 HY8 HC8 HD8
      generalize w8.heap.size = V at *
      have hzY : Y < W9.heap.size := (Array.getElem?_eq_some_iff.1 HY9.out).1
      have hzV : V < W9.heap.size := (Array.getElem?_eq_some_iff.1 HV9.out).1
      have HS6 : Hid (Kbe.BSm c6.td ps c6.a) := HB6.out.bsm (by omega) (by omega)
      have HS8 : Hid (Kbe.BSm c8.td ps c8.a) := HB8.out.bsm (by omega) (by omega)
      obtain ⟨EB, hEB⟩ : ∃ EB, bst (Pk.encs (Kbe.book c6.td ps c6.a)) = EB := ⟨_, rfl⟩
      have HE6 : Hid (bst (Pk.encs (Kbe.book c6.td ps c6.a)) = EB) := hEB
      have HE9 : Hid (bst (Pk.encs (Kbe.book c8.td ps c8.a)) = EB) := by rw [HE8.out]; exact hEB
      clear hEB HB6 HB8 HE8
      have HS : Hid (∀ U, Below W9.heap.size W9 U → Below W9.heap.size W9 U) := fun _ h => h
      go_upto_region 17 with fail
      apply region_frame2v (fun w' => Hid (Below W9.heap.size W9 w'))
      · skip
        refine lane_start (ord := [0, 1, 2, 3, 4, 5, 6, 7, 8, 9, 10, 11, 14, 12, 13, 15, 16, 17, 18, 19]) (S := fun w' => Below W9.heap.size W9 w') rfl (by kernel_rfl) (by exact (Below.refl _ W9).drew) (fun _ => ?_)
        obtain ⟨V0, hV0⟩ : ∃ V0, W9.drew = V0 := ⟨_, rfl⟩
        have HB0 : Hid (Below W9.heap.size W9 V0) := by rw [← hV0]; exact (Below.refl _ W9).drew
        rw [hV0]
        clear hV0
        iterate 11 (refine lane_take (v := ?_) rfl (by kernel_rfl) (by kernel_rfl) (by rfl) ?_ (by exact HB0.out) ?_; rotate_left; (focus (intro W hSw; go_simp; try (with_reducible rfl))); simp only [Act.put, List.setIfInBounds_toArray, List.set_cons_zero, List.set_cons_succ])
        refine lane_take (v := .agg c6.arr) rfl (by kernel_rfl) (by kernel_rfl) (by rfl) (fun W hSw => exec_load rfl rfl (by
          have h9 := run_loadAt_mid (P := Tryz.prog) W Y 0 35 _ _ (Kb.range_all ((hSw.block Y hzY).trans HY9.out)) Tryz.underlying35 rfl Kb.info_all
          (try rw [Array.toArray_toList] at h9)
          exact h9)) (by exact HS.out _ HB0.out) ?_
        simp only [Act.put, List.setIfInBounds_toArray, List.set_cons_zero, List.set_cons_succ]
        refine lane_take (v := .agg c8.arr) rfl (by kernel_rfl) (by kernel_rfl) (by rfl) (fun W hSw => exec_load rfl rfl (by
          have h9 := run_loadAt_mid (P := Tryz.prog) W V 0 35 _ _ (Kb.range_all ((hSw.block V hzV).trans HV9.out)) Tryz.underlying35 rfl Kb.info_all
          (try rw [Array.toArray_toList] at h9)
          exact h9)) (by exact HS.out _ HB0.out) ?_
        simp only [Act.put, List.setIfInBounds_toArray, List.set_cons_zero, List.set_cons_succ]
        refine lane_alone rfl (by kernel_rfl) (by rfl) (fun KK hK => ?_)
        · go_simp
          refine (encode_str ((HC9.out.below HB0.out).more (Nat.zero_le _) HB0.out.size) HS6.out HE6.out).mono ?_
          rintro e V1 ⟨v1, rfl, hcx, hb1⟩
          have HB1 : Hid (Below W9.heap.size W9 V1) := HB0.out.trans (hb1.mono HB0.out.size)
          refine hK _ _ HB1.out (fun _ => ?_)
          clear hK KK hb1
          (try simp only [Act.put, List.setIfInBounds_toArray, List.set_cons_zero, List.set_cons_succ])
          refine lane_into (S' := fun w' => Below V1.heap.size V1 w') (fun w' h => HB1.out.trans (h.mono HB1.out.size)) (Below.refl _ V1) (fun _ => ?_)
          iterate 1 (refine lane_take (v := ?_) rfl (by kernel_rfl) (by kernel_rfl) (by rfl) ?_ (by exact Below.refl _ V1) ?_; rotate_left; (focus (intro W hSw; have q := hcx.out W hSw; go_simp; try (with_reducible rfl))); simp only [Act.put, List.setIfInBounds_toArray, List.set_cons_zero, List.set_cons_succ])
          refine lane_alone rfl (by kernel_rfl) (by rfl) (fun KK hK => ?_)
          go_simp
          refine (encode_str ((HD9.out.below HB1.out).more (Nat.zero_le _) HB1.out.size) HS8.out HE9.out).mono ?_
          rintro e V2 ⟨v2, rfl, hcy, hb2⟩
          have HB2 : Hid (Below W9.heap.size W9 V2) := HB1.out.trans (hb2.mono HB1.out.size)
          refine hK _ _ hb2 (fun _ => ?_)
          clear hK KK
          (try simp only [Act.put, List.setIfInBounds_toArray, List.set_cons_zero, List.set_cons_succ])
          refine lane_into (S' := fun w' => Below V2.heap.size V2 w') (fun w' h => hb2.trans (h.mono hb2.size)) (Below.refl _ V2) (fun _ => ?_)
          iterate 1 (refine lane_take (v := ?_) rfl (by kernel_rfl) (by kernel_rfl) (by rfl) ?_ (by exact Below.refl _ V2) ?_; rotate_left; (focus (intro W hSw; have q := hcy.out W hSw; go_simp; try (with_reducible rfl))); simp only [Act.put, List.setIfInBounds_toArray, List.set_cons_zero, List.set_cons_succ])
          refine lane_take (v := .bool true) rfl (by kernel_rfl) (by kernel_rfl) (by rfl) (fun W hSw => ?_) (by exact Below.refl _ V2) ?_
          · go_simp
            try rfl
          simp only [Act.put, List.setIfInBounds_toArray, List.set_cons_zero, List.set_cons_succ]
          iterate 2 (refine lane_take (v := ?_) rfl (by kernel_rfl) (by kernel_rfl) (by rfl) ?_ (by exact Below.refl _ V2) ?_; rotate_left; (focus (intro W hSw; go_simp; try (with_reducible rfl))); simp only [Act.put, List.setIfInBounds_toArray, List.set_cons_zero, List.set_cons_succ])
          refine lane_end (by kernel_rfl) ?_
          exact ⟨rfl, v1, v2, rfl, HB2⟩
      rintro v1 v2 w10 HB10
      go_wp2
      go_ret
      exact ⟨rfl, HW9.out.trans (HB10.out.mono HW9.out.size)⟩
end Go.Proofs.YtblikgbcakgdnaaGreat
