/-
  The walk of the law NoticeReads: it returns true, whatever the input, and makes new blocks alone. Condition: the table holds what the program's text lays.
-/
import Derived.Test.YtambppcnmggocaaDoorDnBytes
import Derived.Laws.BitsAllLaws
namespace Go.Proofs.YtambppcnmggocaaDoor
set_option maxRecDepth 20000
open Go.ChangeShapes Go.WideShapes Go.ChangeAt Go.RowKit

set_option maxHeartbeats 1000000 in
theorem noticeReads_long (A : Option Addr) (n c : Nat) (hn : 40 < n) (nn : Nv) (at_ turn age place : Int) (w : World) :
    Calls Tryd.prog 5 #[.slice A n c, .agg nn.arr, .int .u8 at_, .int .u8 turn, .int .u8 age, .int .u8 place] w fun e w' => e = .returned (.bool true) ∧ Below w.heap.size w w' := by
  have t : decide ((40 : Int) < (n : Int)) = true := by simp; omega
  clear hn
  go_enter Tryd.func5, Tryd.ntmps5
  go_wp2_with (fail)
  refine (ntawake_any _).mono ?_
  rintro e w1 ⟨rfl, hb1⟩
  go_wp2_with (fail)
  refine (ntawake_any _).mono ?_
  rintro e w2 ⟨rfl, hb2⟩
  go_wp2
  go_ret
  exact ⟨rfl, ((Below.refl _ w).alloc (Nat.le_refl _) _).trans ((hb1.trans (hb2.mono hb1.size)).mono (by simp))⟩

set_option maxHeartbeats 4000000 in
theorem noticeReads_in (w : World) (A : Option Addr) (n c : Nat) (p : List Int) (hr : Rd w .u8 w.heap.size A p) (hb : BytesOk p) (hm : p.length = n) (hc : n ≤ c) (hn : n ≤ 40) (nn : Nv) (hw : nn.Wf) (at_ age place : Nat) (turn : Int) (ht : Lines w) (hat : at_ < 256) (hag : age < 256) (hpl : place < 256) (t0 : 0 ≤ turn) (t1 : turn < 256) :
    Calls Tryd.prog 5 #[.slice A n c, .agg nn.arr, .int .u8 at_, .int .u8 turn, .int .u8 age, .int .u8 place] w fun e w' => e = .returned (.bool true) ∧ Below w.heap.size w w' := by
  have t : decide ((40 : Int) < (n : Int)) = false := by simp; omega
  have HT := Lib.hid ht
  have HRP := Lib.hid hr
  have HBP := Lib.hid hb
  have HMP := Lib.hid hm
  have HCP := Lib.hid hc
  have HNA := Lib.hid (near_n nn hw)
  have hx := nn.nearA_ok
  generalize nn.nearA = x at *
  have HXO := Lib.hid hx
  have hle := x.len hx
  obtain ⟨b, hb'⟩ : ∃ b, x.bytes.length = b := ⟨_, rfl⟩
  rw [hb'] at hle
  obtain ⟨hb1, hb20⟩ := hle
  have hk : at_ % b < x.bytes.length := by rw [hb']; exact Nat.mod_lt _ (by omega)
  have hkx : (at_ : Int).tmod (b : Int) = ((at_ % b : Nat) : Int) := by rw [Int.tmod_eq_emod_of_nonneg (by omega)]; simp
  have hxb := x.bytes_ok _ (List.getElem_mem hk)
  have HXB := u8_xor x.bytes[at_ % b] turn hxb.1 hxb.2 t0 t1
  have hxv : x.bytes[at_ % b].toNat ^^^ turn.toNat < 256 := Nat.xor_lt_two_pow (n := 8) (by omega) (by omega)
  have hax : (age : Int).tmod 2 = ((age % 2 : Nat) : Int) := by rw [Int.tmod_eq_emod_of_nonneg (by omega)]; simp
  have hpx : (place : Int).tmod 2 = ((place % 2 : Nat) : Int) := by rw [Int.tmod_eq_emod_of_nonneg (by omega)]; simp
  have hag2 : age % 2 < 2 := Nat.mod_lt _ (by omega)
  have hpl2 : place % 2 < 2 := Nat.mod_lt _ (by omega)
  have HG : Hid (x.bytes[at_ % b]? = some x.bytes[at_ % b]) := List.getElem?_eq_getElem hk
  have HM := Lib.hid hb'
  have HBQ := Lib.hid x.bytes_ok
  have HI := Lib.hid hx.i64
  have HLX := Lib.hid (show Pk.encs [x.k, x.s, x.c, x.t, x.a, x.v] = x.bytes from rfl)
  rw [hb'] at hk
  clear hb' hx hw hr hb hc ht
  generalize x.bytes[at_ % b] = y at *
  generalize x.bytes = L at *
  generalize at_ % b = k at *
  generalize y.toNat ^^^ turn.toNat = v at *
  generalize age % 2 = a2 at *
  generalize place % 2 = p2 at *
  have ha32 : IntKind.u32.wrap (a2 : Int) = (a2 : Int) := by simp [IntKind.wrap, IntKind.bits, IntKind.signed]; omega
  have hp32 : IntKind.u32.wrap (p2 : Int) = (p2 : Int) := by simp [IntKind.wrap, IntKind.bits, IntKind.signed]; omega
  go_enter Tryd.func5, Tryd.ntmps5
  go_wp2_with (fail)
  refine (ntawake_any _).mono ?_
  rintro e w1 ⟨rfl, hb1⟩
  have h1 : w1.heap[w.heap.size]? = some (.cells nn.arr 23 (0, 0)) := (hb1.block _ (by simp)).trans alloc_block
  have H1 : Hid (Below w.heap.size w w1) := Lib.hid (((Below.refl _ w).alloc (Nat.le_refl _) _).trans (hb1.mono (by simp)))
  have s1 : w.heap.size < w1.heap.size := by have := hb1.size; simp at this; omega
  clear hb1
  go_wp2_with (fail)
  refine (new_any _).mono ?_
  rintro e w2 ⟨rfl, rfl⟩
  have HPB := Lib.hid (pb_new w1 w1.heap.size (Nat.le_refl _))
  go_wp2_with (first | ((with_reducible_and_instances (show wpList _ _ _ (Oper.mk _ (Op.load 23 _) _ _ _ _ :: _) _ _)); refine wl_load Tryd.underlying23 rfl info6 rfl rfl rfl (by (repeat (first | assumption | (with_reducible refine alloc_at ?_; (focus (first | omega | (simp; done) | (simp; omega)))) | (with_reducible refine boxed_at ?_; (focus (first | omega | (simp; done) | (simp; omega)))) | (with_reducible refine alloc_old ?_ ?_; (focus (first | omega | (simp; done) | (simp; omega)))) | (with_reducible refine boxed_old ?_ ?_; (focus (first | omega | (simp; done) | (simp; omega)))) | (with_reducible refine drew_old ?_)))) (by rfl) ?_) | ((with_reducible_and_instances (show wpList _ _ _ (Oper.mk _ (Op.store 23 _ _) _ _ _ _ :: _) _ _)); refine wl_store info6 rfl rfl rfl rfl (by (repeat (first | assumption | (with_reducible refine alloc_at ?_; (focus (first | omega | (simp; done) | (simp; omega)))) | (with_reducible refine boxed_at ?_; (focus (first | omega | (simp; done) | (simp; omega)))) | (with_reducible refine alloc_old ?_ ?_; (focus (first | omega | (simp; done) | (simp; omega)))) | (with_reducible refine boxed_old ?_ ?_; (focus (first | omega | (simp; done) | (simp; omega)))) | (with_reducible refine drew_old ?_)))) (by rfl) (by rfl) (by first | exact Nv.arr_one _ | simp [Value.oneCell']) ?_))
  refine (HNA.out _).mono ?_
  rintro e w3 ⟨rfl, hb3⟩
  have HPB3 := Lib.hid (HPB.out.below hb3)
  have H13 : Hid (Below w1.heap.size w1 w3) := Lib.hid (((Below.refl _ w1).alloc (Nat.le_refl _) _).trans (hb3.mono (by simp)))
  clear hb3 HPB h1
  go_wp2_with (fail)
  refine (oput_any w3 w1.heap.size w1.heap.size [] x.k x.s x.c x.t x.a x.v HPB3.out (by simp) HI.out).mono ?_
  rintro e w4 ⟨rfl, hp⟩
  rw [List.nil_append, HLX.out] at hp
  have HP4 := Lib.hid hp.box
  have H14 : Hid (Below w1.heap.size w1 w4) := Lib.hid (H13.out.trans hp.below)
  clear hp HPB3 H13
  go_wp2_with (fail)
  refine (done_put _ _ _ _ HP4.out (by rw [HM.out]; omega)).mono ?_
  intro e w5 hO
  obtain ⟨A5, c5, rfl, HO5, HB5, _, _, _⟩ := hO.open_n b HM.out
  obtain ⟨g, cap, cur, hA, hgb, hw5, hbcap, _, _, htk⟩ := own_some (w := w5) (base := w4.heap.size) (l := L) (v := .slice A5 b c5) (by rw [HM.out]; exact HO5.out) b HM.out (by omega)
  injection hA with hA _ hcc
  subst hA hcc
  have hck := cur_at htk HG.out
  have hgs : g < w5.heap.size := (Array.getElem?_eq_some_iff.1 hw5).1
  have H5 : Hid (Below w.heap.size w w5) := Lib.hid (H1.out.trans ((H14.out.trans (HB5.out.mono H14.out.size)).mono H1.out.size))
  have hg0 : w.heap.size ≤ g := by have := H14.out.size; omega
  clear hO HB5 HO5 HP4 H14
  obtain ⟨w0, rfl, hgw⟩ : ∃ w0, w5 = boxed w0 g cur 5 ∧ g < w0.heap.size := ⟨w5, boxed_self hw5, hgs⟩
  clear hw5 hgs
  have H7 : Hid (Below w.heap.size w (boxed w0 g (cur.setIfInBounds k (.int .u8 v)) 5)) := Lib.hid (boxed_below (below_boxed H5.out hg0) hg0)
  have R7 : Hid (Rd (boxed w0 g (cur.setIfInBounds k (.int .u8 v)) 5) .u8 (boxed w0 g (cur.setIfInBounds k (.int .u8 v)) 5).heap.size (some ⟨g, 0, none⟩) (L.set k v)) := Lib.hid (rd_set hgw htk)
  have L7 : Hid ((L.set k v).length = b) := Lib.hid (by rw [List.length_set, HM.out])
  have HB7 : Hid (BytesOk (L.set k v)) := Lib.hid (fun z hz => by
    rcases List.mem_or_eq_of_mem_set hz with h | h
    · exact HBQ.out z h
    · rw [h]; omega)
  have hb8 : Below (boxed w0 g (cur.setIfInBounds k (.int .u8 v)) 5).heap.size (boxed w0 g (cur.setIfInBounds k (.int .u8 v)) 5) ((boxed w0 g (cur.setIfInBounds k (.int .u8 v)) 5).alloc (.cells #[.slice A n c, .slice (some ⟨g, 0, none⟩) b c5] 25)) := (Below.refl _ _).alloc (Nat.le_refl _) _
  have hx8 : ((boxed w0 g (cur.setIfInBounds k (.int .u8 v)) 5).alloc (.cells #[.slice A n c, .slice (some ⟨g, 0, none⟩) b c5] 25)).heap[w0.heap.size]? = some (.cells #[.slice A n c, .slice (some ⟨g, 0, none⟩) b c5] 25 (0, 0)) := alloc_at (by simp)
  have z8 : w0.heap.size < ((boxed w0 g (cur.setIfInBounds k (.int .u8 v)) 5).alloc (.cells #[.slice A n c, .slice (some ⟨g, 0, none⟩) b c5] 25)).heap.size := by simp
  obtain ⟨w8, hw8⟩ : ∃ w8, w8 = (boxed w0 g (cur.setIfInBounds k (.int .u8 v)) 5).alloc (.cells #[.slice A n c, .slice (some ⟨g, 0, none⟩) b c5] 25) := ⟨_, rfl⟩
  rw [← hw8] at hb8 hx8 z8
  have HF : Hid (∀ q : Nat, q < 2 → ∃ A n c l, w8.cell? ⟨w0.heap.size, q, none⟩ = some (.slice A n c) ∧ l.length = n ∧ n ≤ 1000 ∧ BytesOk l ∧ Rd w8 .u8 w8.heap.size A l) := Lib.hid fun q hq => by
    rcases q with _ | _ | q
    · exact ⟨A, n, c, p, cell_of_row _ _ 0 _ _ _ hx8, HMP.out, by omega, HBP.out, (HRP.out.below (H7.out.trans (hb8.mono H7.out.size))).more (H7.out.trans (hb8.mono H7.out.size)).size⟩
    · exact ⟨_, b, c5, L.set k v, cell_of_row _ _ 1 _ _ _ hx8, L7.out, by omega, HB7.out, (R7.out.below hb8).more hb8.size⟩
    · omega
  have HW8 : Hid (Below w.heap.size w w8) := Lib.hid (H7.out.trans (hb8.mono H7.out.size))
  have HW8E := Lib.hid hw8
  clear hw8 hb8 hx8 R7 L7 HB7 H7 H5 htk HRP HBP HMP HCP HBQ HNA
  go_wp2_with (rw [hkx])
  rw [← HW8E.out]
  clear HW8E
  go_loopw [50] (fun t wr => ∃ q : Nat, q ≤ 2 ∧ t = .int .i64 q ∧ Hid (Below w8.heap.size w8 wr)) (fun t _ => 2 - (intOf t).toNat)
  case atStart => exact ⟨0, by omega, rfl, Below.refl _ _⟩
  case round =>
    obtain ⟨q, hq, rfl, HW⟩ := hrel
    by_cases hlt : q < 2
    · have d1 : decide ((q : Int) < 2) = true := by simp; omega
      obtain ⟨Ai, ni, ci, l, hci, hli, hni, hbi, hri⟩ := HF.out q hlt
      have hcw : wr.cell? ⟨w0.heap.size, q, none⟩ = some (.slice Ai ni ci) := (World.cell?_of_block (a := ⟨w0.heap.size, q, none⟩) (HW.out.block _ z8)).trans hci
      have HRI := Lib.hid hri
      have HLI := Lib.hid hli
      have HBI := Lib.hid hbi
      clear hci hri hli hbi
      go_wp2_with (first | (rw [hax]) | (rw [hpx]))
      refine (refClose_eq a2 p2 _ _ Ai w8.heap.size ci ni l wr rfl rfl (by omega) (by omega) (HRI.out.below HW.out) HW.out.size HBI.out HLI.out hni).mono ?_
      intro e wc hO
      have hcl : (Sl.closed a2 p2 l).length = 16 + ni := by rw [Sl.closed_len, HLI.out]
      have HCB : Hid (BytesOk (Sl.closed a2 p2 l)) := Lib.hid (closed_ok HBI.out)
      obtain ⟨As, cs, rfl, _, HBC, HRS, hsc, _⟩ := hO.open_n _ hcl
      have HNS := Lib.hid hcl
      have HWC : Hid (Below w8.heap.size w8 wc) := Lib.hid (HW.out.trans (HBC.out.mono HW.out.size))
      have HTC := Lib.hid (HT.out.below (HW8.out.trans (HWC.out.mono HW8.out.size)))
      clear hO hcl HBC
      generalize Sl.closed a2 p2 l = sb at *
      obtain ⟨ns, hns⟩ : ∃ ns, ns = 16 + ni := ⟨_, rfl⟩
      rw [← hns] at HNS hsc ⊢
      have hn5 : ns ≤ 5000 := by omega
      clear hns
      go_wp2_with (fail)
      refine (ndec_n wc As ns cs sb HTC.out HRS.out hn5 HCB.out HNS.out hsc).mono ?_
      rintro e wd ⟨m, e', rfl, hd, hcd⟩
      refine hd.ways (fun he hmo hl => ?_) (fun he hmz => ?_)
      · subst he hl
        have HRT : Hid (∀ w, Calls Tryd.prog 15 #[.agg m.arr] w fun x w' => x = .returned (.bool true) ∧ Below w.heap.size w w') := Lib.hid (fun w => by
          have := right_n m (by have := hmo.2.2.1; omega) w
          rwa [decide_eq_true hmo] at this)
        have HEX := Lib.hid (fun w ht => nenc_n m hmo w ht)
        clear hmo hd
        go_wp2_with (first | ((with_reducible_and_instances (show wpList _ _ _ (Oper.mk _ (Op.store 23 _ _) _ _ _ _ :: _) _ _)); refine wl_store info6 rfl rfl rfl rfl (by (repeat (first | assumption | (with_reducible refine alloc_at ?_; (focus (first | omega | (simp; done) | (simp; omega)))) | (with_reducible refine boxed_at ?_; (focus (first | omega | (simp; done) | (simp; omega)))) | (with_reducible refine alloc_old ?_ ?_; (focus (first | omega | (simp; done) | (simp; omega)))) | (with_reducible refine boxed_old ?_ ?_; (focus (first | omega | (simp; done) | (simp; omega)))) | (with_reducible refine drew_old ?_)))) (by rfl) (by rfl) (by first | exact Nv.arr_one _ | simp [Value.oneCell']) ?_))
        have hbx : (boxed (wd.alloc (.cells #[.int .u8 0, .int .i64 0, .int .i64 0, .int .i64 0, .int .i64 0, .int .u8 0] 23)) wd.heap.size m.arr 23).heap[wd.heap.size]? = some (.cells m.arr 23 (0, 0)) := by (repeat (first | assumption | (with_reducible refine alloc_at ?_; (focus (first | omega | (simp; done) | (simp; omega)))) | (with_reducible refine boxed_at ?_; (focus (first | omega | (simp; done) | (simp; omega)))) | (with_reducible refine alloc_old ?_ ?_; (focus (first | omega | (simp; done) | (simp; omega)))) | (with_reducible refine boxed_old ?_ ?_; (focus (first | omega | (simp; done) | (simp; omega)))) | (with_reducible refine drew_old ?_)))
        have hcx : Below wc.heap.size wc (boxed (wd.alloc (.cells #[.int .u8 0, .int .i64 0, .int .i64 0, .int .i64 0, .int .i64 0, .int .u8 0] 23)) wd.heap.size m.arr 23) := hcd.trans ((boxed_below ((Below.refl _ _).alloc (Nat.le_refl _) _) (Nat.le_refl _)).mono hcd.size)
        have HCX := Lib.hid hcx
        have zx : wd.heap.size < (boxed (wd.alloc (.cells #[.int .u8 0, .int .i64 0, .int .i64 0, .int .i64 0, .int .i64 0, .int .u8 0] 23)) wd.heap.size m.arr 23).heap.size := by simp
        clear hcx
        generalize (boxed (wd.alloc (.cells #[.int .u8 0, .int .i64 0, .int .i64 0, .int .i64 0, .int .i64 0, .int .u8 0] 23)) wd.heap.size m.arr 23) = wx at *
        have HCV : Hid (∀ w', Below wc.heap.size wc w' → (convert 25 9 (.slice As ns cs)).run Tryd.prog w' = .ok (.string (bst m.seal)) w') := Lib.hid (fun w' hw => conv_len w' As _ cs ns _ (HRS.out.below hw) HNS.out)
        refine lane_start (ord := [0, 1, 2, 3, 4, 5, 6, 7, 10, 11, 8, 9, 12, 13, 14, 15, 16, 17, 18, 19, 20, 21, 22]) (S := fun w' => w'.heap[wd.heap.size]? = some (.cells m.arr 23 (0, 0)) ∧ (convert 25 9 (.slice As ns cs)).run Tryd.prog w' = .ok (.string (bst m.seal)) w') rfl (by kernel_rfl) ⟨hbx, HCV.out _ HCX.out.drew⟩ (fun hHeld => ?_)
        refine lane_take (v := ?_) rfl (by kernel_rfl) (by kernel_rfl) (by rfl) ?_ (by assumption) ?_
        rotate_left
        · intro w' hSw
          obtain ⟨_, hc⟩ := hSw
          go_simp
          try (with_reducible rfl)
        simp only [Act.put, List.setIfInBounds_toArray, List.set_cons_zero, List.set_cons_succ]
        refine lane_take (v := ?_) rfl (by kernel_rfl) (by kernel_rfl) (by rfl) ?_ (by assumption) ?_
        rotate_left
        · intro w' hSw
          obtain ⟨_, hc⟩ := hSw
          go_simp
          try (with_reducible rfl)
        simp only [Act.put, List.setIfInBounds_toArray, List.set_cons_zero, List.set_cons_succ]
        refine lane_take (v := ?_) rfl (by kernel_rfl) (by kernel_rfl) (by rfl) ?_ (by assumption) ?_
        rotate_left
        · intro w' hSw
          obtain ⟨_, hc⟩ := hSw
          go_simp
          try (with_reducible rfl)
        simp only [Act.put, List.setIfInBounds_toArray, List.set_cons_zero, List.set_cons_succ]
        refine lane_take rfl (by kernel_rfl) (by kernel_rfl) (by rfl) (fun w' hS => exec_load rfl rfl (ldn hS.1 rfl)) (by assumption) ?_
        simp only [Act.put, List.setIfInBounds_toArray, List.set_cons_zero, List.set_cons_succ]
        refine lane_alone rfl (by kernel_rfl) (by rfl) (fun K hK => ?_)
        go_simp
        refine (HRT.out _).mono ?_
        rintro e w9 ⟨rfl, hb9⟩
        have hb9 : Below wx.heap.size wx w9 := ((Below.refl _ _).drew).trans hb9
        have h9 := (hb9.block _ zx).trans hbx
        have hc9 := HCX.out.trans (hb9.mono HCX.out.size)
        refine hK _ _ ⟨h9, HCV.out _ hc9⟩ (fun hHeld => ?_)
        clear hK K
        refine lane_take (v := ?_) rfl (by kernel_rfl) (by kernel_rfl) (by rfl) ?_ (by assumption) ?_
        rotate_left
        · intro w' hSw
          obtain ⟨_, hc⟩ := hSw
          go_simp
          try (with_reducible rfl)
        simp only [Act.put, List.setIfInBounds_toArray, List.set_cons_zero, List.set_cons_succ]
        refine lane_take (v := ?_) rfl (by kernel_rfl) (by kernel_rfl) (by rfl) ?_ (by assumption) ?_
        rotate_left
        · intro w' hSw
          obtain ⟨_, hc⟩ := hSw
          go_simp
          try (with_reducible rfl)
        simp only [Act.put, List.setIfInBounds_toArray, List.set_cons_zero, List.set_cons_succ]
        refine lane_take rfl (by kernel_rfl) (by kernel_rfl) (by rfl) (fun w' hS => exec_load rfl rfl (ldn hS.1 rfl)) (by assumption) ?_
        simp only [Act.put, List.setIfInBounds_toArray, List.set_cons_zero, List.set_cons_succ]
        refine lane_take (v := ?_) rfl (by kernel_rfl) (by kernel_rfl) (by rfl) ?_ (by assumption) ?_
        rotate_left
        · intro w' hSw
          obtain ⟨_, hc⟩ := hSw
          go_simp
          try (with_reducible rfl)
        simp only [Act.put, List.setIfInBounds_toArray, List.set_cons_zero, List.set_cons_succ]
        refine lane_take (v := ?_) rfl (by kernel_rfl) (by kernel_rfl) (by rfl) ?_ (by assumption) ?_
        rotate_left
        · intro w' hSw
          obtain ⟨_, hc⟩ := hSw
          go_simp
          try (with_reducible rfl)
        simp only [Act.put, List.setIfInBounds_toArray, List.set_cons_zero, List.set_cons_succ]
        refine lane_alone rfl (by kernel_rfl) (by rfl) (fun K hK => ?_)
        go_simp
        refine (HEX.out _ (HTC.out.below hc9)).mono ?_
        intro e wa hO
        obtain ⟨Aa, na, ca, rfl, HNa, _, HBa, HRa, _, _⟩ := hO.open_
        have hba := hb9.trans (HBa.out.mono hb9.size)
        have ha := (hba.block _ zx).trans hbx
        have hca := HCX.out.trans (hba.mono HCX.out.size)
        have hcva := conv_len wa Aa _ ca na _ HRa.out HNa.out
        refine hK _ _ ⟨ha, HCV.out _ hca⟩ (fun hHeld => ?_)
        clear hK K
        refine lane_alone rfl (by kernel_rfl) (by rfl) (fun K hK => ?_)
        go_simp
        refine hK _ _ hHeld (fun hHeld => ?_)
        clear hK K hcva
        repeat (first
          | (refine lane_skip rfl (by kernel_rfl) (by kernel_rfl) (by rfl) (by assumption) ?_; simp only [Act.put, List.setIfInBounds_toArray, List.set_cons_zero, List.set_cons_succ])
          | (refine lane_take (v := ?_) rfl (by kernel_rfl) (by kernel_rfl) (by rfl) ?_ (by assumption) ?_; rotate_left; (focus (intro w' hSw; go_simp; try (with_reducible rfl))); simp only [Act.put, List.setIfInBounds_toArray, List.set_cons_zero, List.set_cons_succ]))
        refine lane_end (by kernel_rfl) ?_
        have HF := Lib.hid (hca)
        clear hHeld
        clear hbx h9 ha hb9 hba hc9 hca
        have HWF : Hid (Below w8.heap.size w8 _) := Lib.hid (HWC.out.trans (HF.out.mono HWC.out.size))
        go_wp2
        go_roundw
        case rel => exact ⟨q + 1, by omega, by go_num, HWF⟩
        case measure => simp [intOf]; omega
      · subst he hmz
        clear hd
        go_wp2_with (first | ((with_reducible_and_instances (show wpList _ _ _ (Oper.mk _ (Op.store 23 _ _) _ _ _ _ :: _) _ _)); refine wl_store info6 rfl rfl rfl rfl (by (repeat (first | assumption | (with_reducible refine alloc_at ?_; (focus (first | omega | (simp; done) | (simp; omega)))) | (with_reducible refine boxed_at ?_; (focus (first | omega | (simp; done) | (simp; omega)))) | (with_reducible refine alloc_old ?_ ?_; (focus (first | omega | (simp; done) | (simp; omega)))) | (with_reducible refine boxed_old ?_ ?_; (focus (first | omega | (simp; done) | (simp; omega)))) | (with_reducible refine drew_old ?_)))) (by rfl) (by rfl) (by first | exact Nv.arr_one _ | simp [Value.oneCell']) ?_))
        have hbx : (boxed (wd.alloc (.cells #[.int .u8 0, .int .i64 0, .int .i64 0, .int .i64 0, .int .i64 0, .int .u8 0] 23)) wd.heap.size Nv.zero.arr 23).heap[wd.heap.size]? = some (.cells Nv.zero.arr 23 (0, 0)) := by (repeat (first | assumption | (with_reducible refine alloc_at ?_; (focus (first | omega | (simp; done) | (simp; omega)))) | (with_reducible refine boxed_at ?_; (focus (first | omega | (simp; done) | (simp; omega)))) | (with_reducible refine alloc_old ?_ ?_; (focus (first | omega | (simp; done) | (simp; omega)))) | (with_reducible refine boxed_old ?_ ?_; (focus (first | omega | (simp; done) | (simp; omega)))) | (with_reducible refine drew_old ?_)))
        have hcx : Below wc.heap.size wc (boxed (wd.alloc (.cells #[.int .u8 0, .int .i64 0, .int .i64 0, .int .i64 0, .int .i64 0, .int .u8 0] 23)) wd.heap.size Nv.zero.arr 23) := hcd.trans ((boxed_below ((Below.refl _ _).alloc (Nat.le_refl _) _) (Nat.le_refl _)).mono hcd.size)
        have HCX := Lib.hid hcx
        have zx : wd.heap.size < (boxed (wd.alloc (.cells #[.int .u8 0, .int .i64 0, .int .i64 0, .int .i64 0, .int .i64 0, .int .u8 0] 23)) wd.heap.size Nv.zero.arr 23).heap.size := by simp
        clear hcx
        generalize (boxed (wd.alloc (.cells #[.int .u8 0, .int .i64 0, .int .i64 0, .int .i64 0, .int .i64 0, .int .u8 0] 23)) wd.heap.size Nv.zero.arr 23) = wx at *
        refine lane_start (ord := [0, 1, 2, 3, 4, 5, 6, 7, 8, 9, 10, 11, 12, 13, 14, 15, 16, 17, 18, 19, 20, 21, 22]) (S := fun _ => True) rfl (by kernel_rfl) trivial (fun hHeld => ?_)
        repeat (first
          | (refine lane_skip rfl (by kernel_rfl) (by kernel_rfl) (by rfl) (by assumption) ?_; simp only [Act.put, List.setIfInBounds_toArray, List.set_cons_zero, List.set_cons_succ])
          | (refine lane_take (v := ?_) rfl (by kernel_rfl) (by kernel_rfl) (by rfl) ?_ (by assumption) ?_; rotate_left; (focus (intro w' hSw; go_simp; try (with_reducible rfl))); simp only [Act.put, List.setIfInBounds_toArray, List.set_cons_zero, List.set_cons_succ]))
        refine lane_end (by kernel_rfl) ?_
        have HF := Lib.hid (HCX.out.drew)
        clear hHeld
        clear hbx 
        have HWF : Hid (Below w8.heap.size w8 _) := Lib.hid (HWC.out.trans (HF.out.mono HWC.out.size))
        go_wp2
        go_roundw
        case rel => exact ⟨q + 1, by omega, by go_num, HWF⟩
        case measure => simp [intOf]; omega
    · obtain rfl : q = 2 := by omega
      have HWW : Hid (Below w.heap.size w wr) := Lib.hid (HW8.out.trans (HW.out.mono HW8.out.size))
      go_wp2
      go_ret
      exact ⟨rfl, HWW.out⟩
theorem noticeReads_walk (w : World) (A : Option Addr) (c : Nat) (p : List Int) (hc : p.length ≤ c) (hr : Rd w .u8 w.heap.size A p) (hb : ∀ x ∈ p, (Lit.int .u8 x).wf = true) (K S C T M V : Int) (h : (⟨K, S, C, T, M, V⟩ : Nv).Wf) (at_ : Int) (wa : (Lit.int .u8 at_).wf = true) (turn : Int) (wt : (Lit.int .u8 turn).wf = true) (age : Int) (wg : (Lit.int .u8 age).wf = true) (place : Int) (wl : (Lit.int .u8 place).wf = true) (ht : Lines w) :
    Calls Tryd.prog 5 #[.slice A p.length c, .agg #[.int .u8 K, .int .i64 S, .int .i64 C, .int .i64 T, .int .i64 M, .int .u8 V], .int .u8 at_, .int .u8 turn, .int .u8 age, .int .u8 place] w fun e w' => e = .returned (.bool true) ∧ Below w.heap.size w w' := by
  by_cases hn : 40 < p.length
  · exact noticeReads_long A p.length c hn ⟨K, S, C, T, M, V⟩ at_ turn age place w
  · obtain ⟨a0, a1⟩ := wf_u8 wa
    obtain ⟨t0, t1⟩ := wf_u8 wt
    obtain ⟨g0, g1⟩ := wf_u8 wg
    obtain ⟨l0, l1⟩ := wf_u8 wl
    obtain ⟨a, rfl⟩ := Int.eq_ofNat_of_zero_le a0
    obtain ⟨g, rfl⟩ := Int.eq_ofNat_of_zero_le g0
    obtain ⟨l, rfl⟩ := Int.eq_ofNat_of_zero_le l0
    exact noticeReads_in w A p.length c p hr (fun x hx => wf_u8 (hb x hx)) rfl hc (by omega) ⟨K, S, C, T, M, V⟩ h a g l turn ht (by omega) (by omega) (by omega) t0 t1
end Go.Proofs.YtambppcnmggocaaDoor
