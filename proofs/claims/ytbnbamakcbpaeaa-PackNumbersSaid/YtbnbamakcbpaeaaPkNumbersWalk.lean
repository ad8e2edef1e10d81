/-
  The walk of the law PackNumbers: it returns true, whatever the input, and makes new blocks alone. No conditions.
-/
import Derived.Test.YtbnbamakcbpaeaaPkAwake
import Derived.Test.YtbnbamakcbpaeaaPkRow
import Derived.Test.YtbnbamakcbpaeaaLane
namespace Go.Proofs.Ytbnbamakcbpaeaa
open Go.ChangeShapes Go.WideShapes Go.ChangeAt Go.RowKit

theorem Rd.drew {w : World} {k : IntKind} {B : Nat} {A : Option Addr} {l : List Int} (h : Rd w k B A l) : Rd w.drew k B A l := h.kept fun _ _ => rfl
theorem GB.drew {w : World} {g : Nat} {l : List Int} {f : Int} (h : GB w g l f) : GB w.drew g l f := h.kept fun _ _ => rfl
theorem GB.grownLow {w w' : World} {g g' : Nat} {l : List Int} {f : Int} (h : GB w g l f) (hg : w.grownBy w' (some g')) (hlt : g < g') : GB w' g l f :=
  h.kept fun i hi => hg.block i (by have := h.lt; omega) fun e => by injection e; omega
theorem encs_drop {ns : List Int} {k : Nat} (h : k < ns.length) : Pk.encs (ns.drop k) = Pk.enc (Pk.zig ns[k]) ++ Pk.encs (ns.drop (k + 1)) := by
  rw [List.drop_eq_getElem_cons h, Pk.encs_cons]
theorem dec_drop {ns : List Int} (hi : I64 ns) {k : Nat} (h : k < ns.length) : Pk.dec 0 0 (Pk.encs (ns.drop k)) = (ns[k], (Pk.enc (Pk.zig ns[k])).length, 0) := by
  have := hi _ (List.getElem_mem h)
  rw [encs_drop h]
  exact Pk.dec_zig _ _ this.1 this.2
theorem drop_drop' {ns : List Int} {k : Nat} (h : k < ns.length) : (Pk.encs (ns.drop k)).drop (Pk.enc (Pk.zig ns[k])).length = Pk.encs (ns.drop (k + 1)) := by
  rw [encs_drop h, List.drop_left]

theorem PB.grownOther {w w' : World} {R g g' : Nat} {l : List Int} {u : Value} {f : Int} (h : PB w R g l) (hx : Bx w g' u f) (hg : w.grownBy w' (some g')) (hne : g ≠ g') : PB w' R g l := by
  obtain ⟨v, hv, ho, hR, h3⟩ := h
  refine ⟨v, hv.kept (hg.block g hv.lt fun e => by injection e with e; exact hne e), own_kept ho fun i hi => hg.block i (ho.lt i hi).2 fun e => ?_, hR, h3⟩
  injection e with e
  subst e
  exact own_ne ho hx (by decide) hi

set_option maxHeartbeats 1000000 in
theorem packNumbers_long (A : Option Addr) (c : Nat) (ns : List Int) (w : World) (hl : 50 < ns.length) :
    Calls Try.prog 3 #[.slice A ns.length c] w fun e w' => e = .returned (.bool true) ∧ Below w.heap.size w w' := by
  have t : decide ((50 : Int) < (ns.length : Int)) = true := by simp; omega
  clear hl
  go_enter Try.func3, Try.ntmps3
  go_wp2_with (fail)
  refine (awake_any _).mono ?_
  rintro e w1 ⟨rfl, hb1⟩
  go_wp2_with (fail)
  refine (awake_any _).mono ?_
  rintro e w2 ⟨rfl, hb2⟩
  go_wp2
  go_ret
  exact ⟨rfl, hb1.trans (hb2.mono hb1.size)⟩

set_option maxHeartbeats 4000000 in
theorem packNumbers_short (A : Option Addr) (c : Nat) (ns : List Int) (w : World) (hr : Rd w .i64 w.heap.size A ns) (hi : I64 ns) (hl : ns.length ≤ 50) :
    Calls Try.prog 3 #[.slice A ns.length c] w fun e w' => e = .returned (.bool true) ∧ Below w.heap.size w w' := by
  have t : decide ((50 : Int) < (ns.length : Int)) = false := by simp; omega
  have HR := Lib.hid hr
  have HI := Lib.hid hi
  have hsh : (Pk.encs ns).length ≤ 11000 := by have := encs_short hi ns.length (by omega); rwa [List.take_length] at this
  have HS := Lib.hid hsh
  clear hr hi hsh
  go_enter Try.func3, Try.ntmps3
  go_wp2_with (fail)
  refine (awake_any _).mono ?_
  rintro e1 w1 ⟨rfl, hb1⟩
  have H1 := Lib.hid hb1
  clear hb1
  go_wp2_with (fail)
  refine (new_any _).mono ?_
  rintro e2 w2 ⟨rfl, rfl⟩
  go_wp2_with (fail)
  refine (put_new w1 A w.heap.size c ns.length ns (HR.out.below H1.out) H1.out.size rfl (by omega) HI.out).mono ?_
  rintro e3 w3 ⟨rfl, hp, hb3⟩
  have HP := Lib.hid hp
  have H3 := Lib.hid hb3
  clear hp hb3
  go_wp2_with (fail)
  refine (done_put _ _ _ _ HP.out (by have := HS.out; omega)).mono ?_
  intro e4 w4 hO
  obtain ⟨Ap, n, cp, rfl, HN, HO, H4, HRp, hp1, hp2⟩ := hO.open_
  clear hO
  go_wp2_with (fail)
  refine (of_len _ _ _ _ _ _ HRp.out (Nat.le_refl _) (by have := HS.out; omega) (fun x hx => by have := Pk.encs_range ns x hx; omega) HN.out).mono ?_
  rintro e5 w5 ⟨g, rfl, hg, hb5, hlt⟩
  have HG := Lib.hid hg
  have H5 := Lib.hid hb5
  clear hg hb5
  have HX : Hid (Below w.heap.size w w5) := ((H1.out.trans (H3.out.mono H1.out.size)).trans (H4.out.mono (Nat.le_trans H1.out.size H3.out.size))).trans (H5.out.mono (Nat.le_trans (Nat.le_trans H1.out.size H3.out.size) H4.out.size))
  have hgw : w.heap.size ≤ g := Nat.le_trans (Nat.le_trans (Nat.le_trans H1.out.size H3.out.size) H4.out.size) hlt
  have hg1 : w1.heap.size < g := by have := HP.out.lt; have := H4.out.size; omega
  have HXP : Hid (Rd w5 .u8 w4.heap.size Ap (Pk.encs ns)) := HRp.out.below H5.out
  have HP5 : Hid (PB w5 w1.heap.size w1.heap.size (Pk.encs ns)) := (HP.out.below H4.out).below H5.out
  clear H1 H3 HO HRp HP
  go_wp2
  go_loopw [6] (fun t wr => ∃ k : Nat, k ≤ ns.length ∧ t = .int .i64 k ∧ GB wr g (Pk.encs (ns.drop k)) 0 ∧ w5.grownBy wr (some g)) (fun t _ => ns.length - (intOf t).toNat)
  case atStart => exact ⟨0, by omega, rfl, by rw [List.drop_zero]; exact HG.out, grown_refl _ _⟩
  case round =>
    obtain ⟨k, hk, rfl, hgk, hgr⟩ := hrel
    have HGK := Lib.hid hgk
    have HGR := Lib.hid hgr
    clear hgk hgr
    by_cases hlt2 : k < ns.length
    · have hbw : Below w.heap.size w wr := HX.out.trans (grown_below HGR.out hgw HX.out.size)
      obtain ⟨a, rfl, hab, hc⟩ := (HR.out.below hbw).at_ hlt2
      clear hbw
      have HD := Lib.hid (dec_drop HI.out hlt2)
      have HW := Lib.hid (drop_drop' hlt2)
      have hx := HI.out _ (List.getElem_mem hlt2)
      generalize ns[k] = x at *
      obtain ⟨x0, x1⟩ := hx
      have k0 : (0 : Int) ≤ (k : Int) := by omega
      have k1 : (k : Int) < (ns.length : Int) := by omega
      have ha : a.block ≠ g := by omega
      go_wp2
      refine lane_start (ord := [0, 2, 3, 4, 5, 1, 6]) (S := fun w' => w'.cell? (a.add k) = some (.int .i64 x)) rfl (by kernel_rfl) hc (fun hHeld => ?_)
      repeat (first
        | (refine lane_take (v := ?_) rfl (by kernel_rfl) (by kernel_rfl) (by rfl) ?_ (by assumption) ?_; rotate_left; (focus (intro w hSw; (try dsimp only at hSw); go_simp; try (with_reducible rfl))); simp only [Act.put, List.setIfInBounds_toArray, List.set_cons_zero, List.set_cons_succ]))
      refine lane_alone rfl (by kernel_rfl) (by rfl) (fun K hK => ?_)
      go_simp
      refine (get_ok' _ g _ _ _ _ _ _ HGK.out.drew HD.out x0 x1 HW.out).mono ?_
      rintro e6 w6 ⟨rfl, hgr6, hg6⟩
      have HR6 := Lib.hid hgr6
      have HG6 := Lib.hid hg6
      have hc6 : w6.cell? (a.add k) = some (.int .i64 x) := (World.cell?_of_block (hgr6.block _ (World.block_lt_of_cell? wr _ hc) (by rw [ad_block]; intro e; injection e with e; exact ha e))).trans hc
      clear hgr6 hg6
      refine hK _ _ hc6 (fun hHeld => ?_)
      clear hK K
      repeat (first
        | (refine lane_take (v := ?_) rfl (by kernel_rfl) (by kernel_rfl) (by rfl) ?_ (by assumption) ?_; rotate_left; (focus (intro w hSw; (try dsimp only at hSw); go_simp; try (with_reducible rfl))); simp only [Act.put, List.setIfInBounds_toArray, List.set_cons_zero, List.set_cons_succ]))
      refine lane_end (by kernel_rfl) ?_
      go_wp2
      go_roundw
      case rel => exact ⟨k + 1, by omega, by go_num, HG6.out, HGR.out.trans ⟨HR6.out.os, HR6.out.tape, HR6.out.output, HR6.out.size, HR6.out.block⟩⟩
      case measure => simp [intOf]; omega
    · obtain rfl : k = ns.length := by omega
      have hb5 : Below w4.heap.size w5 wr := grown_below HGR.out hlt H5.out.size
      have hbw : Below w.heap.size w wr := HX.out.trans (grown_below HGR.out hgw HX.out.size)
      have hge : GB wr g [] 0 := by have := HGK.out; rwa [List.drop_length] at this
      obtain ⟨Ag, cg, hxg, -⟩ := hge
      obtain ⟨A5, c5, hx5, -⟩ := HG.out
      have hpb : PB wr w1.heap.size w1.heap.size (Pk.encs ns) := HP5.out.grownOther hx5 HGR.out (by omega)
      obtain ⟨Ab, cb, hxb, -⟩ := hpb.form
      rw [HN.out] at hxb
      have HB := Lib.hid hxb
      have HGX := Lib.hid hxg
      have HRw : Hid (Rd wr .u8 w4.heap.size Ap (Pk.encs ns)) := HXP.out.below hb5
      have HRn : Hid (Rd wr .i64 w.heap.size A ns) := HR.out.below hbw
      have HW := Lib.hid hbw
      have h4r : w4.heap.size ≤ wr.heap.size := Nat.le_trans H5.out.size hb5.size
      clear hb5 hbw hxg hpb hxb HGK
      clear hx5
      go_wp2
      refine lane_start (ord := [0, 1, 2, 3, 4, 5, 6, 7, 8, 9, 10, 11, 12, 14, 15, 13, 16, 17, 18]) (S := fun w' => (convert 27 9 (.slice Ap n cp)).run Try.prog w' = .ok (.string (bst (Pk.encs ns))) w') rfl (by kernel_rfl) (conv_len _ Ap _ cp n _ HRw.out HN.out) (fun hHeld => ?_)
      repeat (first
        | (refine lane_take (v := ?_) rfl (by kernel_rfl) (by kernel_rfl) (by rfl) ?_ (by assumption) ?_; rotate_left; (focus (intro w hSw; (try dsimp only at hSw); go_simp; try (with_reducible rfl))); simp only [Act.put, List.setIfInBounds_toArray, List.set_cons_zero, List.set_cons_succ]))
      refine lane_alone rfl (by kernel_rfl) (by rfl) (fun K hK => ?_)
      go_simp
      refine (packs_any _ w.heap.size _ _ _ HRn.out.drew HW.out.size (by omega) HI.out).mono ?_
      intro e6 w6 hO
      obtain ⟨A6, n6, c6, rfl, HN6, HO6, HB6', HR6, h61, h62⟩ := hO.open_
      have HB6 : Hid (Below wr.heap.size wr w6) := ((Below.refl _ wr).drew).trans HB6'.out
      have hcv := conv_len w6 Ap _ cp n _ (HRw.out.below (HB6.out.mono h4r)) HN.out
      have hcv6 := conv_len w6 A6 _ c6 n6 _ HR6.out HN6.out
      have HX6 : Hid (Bx w6 g (.slice Ag ([] : List Int).length cg) 0) := HGX.out.below HB6.out HGX.out.lt
      have HX7 : Hid (Bx w6 w1.heap.size (.slice Ab n cb) 0) := HB.out.below HB6.out HB.out.lt
      clear hO HB6' HO6
      refine hK _ _ hcv (fun hHeld => ?_)
      clear hK K
      refine lane_alone rfl (by kernel_rfl) (by rfl) (fun K hK => ?_)
      go_simp
      refine hK _ _ hcv (fun hHeld => ?_)
      clear hK K
      repeat (first
        | (refine lane_take (v := ?_) rfl (by kernel_rfl) (by kernel_rfl) (by rfl) ?_ (by assumption) ?_; rotate_left; (focus (intro w hSw; (try dsimp only at hSw); go_simp; try (with_reducible rfl))); simp only [Act.put, List.setIfInBounds_toArray, List.set_cons_zero, List.set_cons_succ]))
      refine lane_alone rfl (by kernel_rfl) (by rfl) (fun K hK => ?_)
      go_simp
      refine (end_ok _ _ _ _ _ HX6.out).mono ?_
      rintro e7 w7 ⟨rfl, rfl⟩
      refine hK _ _ hcv (fun hHeld => ?_)
      clear hK K
      repeat (first
        | (refine lane_take (v := ?_) rfl (by kernel_rfl) (by kernel_rfl) (by rfl) ?_ (by assumption) ?_; rotate_left; (focus (intro w hSw; (try dsimp only at hSw); go_simp; try (with_reducible rfl))); simp only [Act.put, List.setIfInBounds_toArray, List.set_cons_zero, List.set_cons_succ]))
      refine lane_alone rfl (by kernel_rfl) (by rfl) (fun K hK => ?_)
      go_simp
      refine (left_box _ _ _ _ _ _ HX7.out).mono ?_
      rintro e8 w8 ⟨rfl, rfl⟩
      refine hK _ _ hcv (fun hHeld => ?_)
      clear hK K
      repeat (first
        | (refine lane_take (v := ?_) rfl (by kernel_rfl) (by kernel_rfl) (by rfl) ?_ (by assumption) ?_; rotate_left; (focus (intro w hSw; (try dsimp only at hSw); go_simp; try (with_reducible rfl))); simp only [Act.put, List.setIfInBounds_toArray, List.set_cons_zero, List.set_cons_succ]))
      refine lane_end (by kernel_rfl) ?_
      go_wp2
      go_ret
      exact ⟨rfl, HW.out.trans (HB6.out.mono HW.out.size)⟩

theorem packNumbers_walk (A : Option Addr) (c : Nat) (ns : List Int) (w : World) (hr : Rd w .i64 w.heap.size A ns) (hb : ∀ x ∈ ns, (Lit.int .i64 x).wf = true) :
    Calls Try.prog 3 #[.slice A ns.length c] w fun e w' => e = .returned (.bool true) ∧ Below w.heap.size w w' := by
  by_cases hl : 50 < ns.length
  · exact packNumbers_long A c ns w hl
  · exact packNumbers_short A c ns w hr (fun x hx => wf_i64 (hb x hx)) (by omega)
end Go.Proofs.Ytbnbamakcbpaeaa
