/-
  The law's walk: any acts, of a plate and of one of the document's own: they are one. No conditions but those of the law.
-/
import Derived.Test.YtlbodpffkdfllaaPlLoop
import Derived.Test.YtlbodpffkdfllaaPlEven
namespace Go.Proofs.Ytlbodpffkdfllaa
open Go.ChangeShapes Go.WideShapes Go.ChangeAt Go.RowKit
open Rf (sl ys rv)

theorem SR.below {w : World} {X g j : Nat} {wr wr' : World} {v1 v2 : Value} {r : Rf.R} {st : Pl.St} {bs : List Nat} {ps : List (Int × Nat)} {N G : Nat → Prop} (h : SR w X g j wr v1 v2 r st bs ps N G) (hb : Below wr.heap.size wr wr') : SR w X g j wr' v1 v2 r st bs ps N G :=
  ⟨h.live.below hb, h.mem.below hb, h.sub, fun i hi => Nat.lt_of_lt_of_le (h.nlt i hi) hb.size, h.nx, h.gx, h.wx, (hb.block X h.lt).trans h.blk, h.acts, h.wet⟩

set_option maxRecDepth 20000 in
set_option maxHeartbeats 3200000 in
theorem platePlays_far (A1 : Option Addr) (n1 c1 : Nat) (k : Int) (w : World) (h : 50 < n1) :
    Calls Try.prog 3 #[.int .u8 k, .slice A1 n1 c1] w fun e w' => e = .returned (.bool true) ∧ Below w.heap.size w w' := by
  have d2 : decide ((50 : Int) < (n1 : Int)) = true := by simp; omega
  go_enter Try.func3, Try.ntmps3
  go_wp2_with (fail)
  refine (awake_any _).mono ?_
  rintro e w1 ⟨rfl, hb1⟩
  go_wp2_with (fail)
  refine (awake_any _).mono ?_
  rintro e w2 ⟨rfl, hb2⟩
  go_wp2
  go_ret
  exact ⟨rfl, hb1.trans (hb2.mono hb1.size)⟩

set_option maxRecDepth 20000 in
set_option maxHeartbeats 3200000 in
theorem platePlays_in (A1 : Option Addr) (c1 n1 nn : Nat) (l : List Ac) (w : World) (hr1 : RdActs w w.heap.size A1 l) (hw1 : ∀ a ∈ l, a.Wf) (hn1 : l.length = n1) (h1 : n1 ≤ 50) (hnn : nn < 256) :
    Calls Try.prog 3 #[.int .u8 nn, .slice A1 n1 c1] w fun e w' => e = .returned (.bool true) ∧ Below w.heap.size w w' := by
  have d2 : decide ((50 : Int) < (n1 : Int)) = false := by simp; omega
  have HR1 := Lib.hid hr1
  have HW1 := Lib.hid hw1
  have HN1 := Lib.hid hn1
  clear hr1 hw1 hn1
  go_enter Try.func3, Try.ntmps3
  go_wp2_with (fail)
  refine (awake_any _).mono ?_
  rintro e w1 ⟨rfl, hb1⟩
  have HB1 := Lib.hid hb1
  clear hb1
  go_wp2_with (fail)
  refine (new_live (w0 := w) (N := fun _ => False) w1 ((nn : Int) % 6) (by omega) HB1.out (fun _ h => h.elim)).mono ?_
  rintro e w2 ⟨rfl, h4, _⟩
  generalize w1.heap.size + 2 = g at *
  go_wp2_with (fail)
  have hcn := refNew_any w2 (nn % 6) (by omega)
  have e6 : ((nn % 6 : Nat) : Int) = (nn : Int) % 6 := by omega
  rw [e6] at hcn
  refine hcn.mono ?_
  clear hcn e6
  rintro e w5 ⟨v1, v2, bs, ps, rfl, hm5, hb5⟩
  have h5 := (h4.more hb5).mono (m' := 3) (by omega) (by omega)
  obtain ⟨A2, c2, rfl, _, _⟩ := own_form hm5.own1
  obtain ⟨A3, c3, rfl, _, _⟩ := own_form hm5.own2
  have hs5 := hb5.size
  have HSR := Lib.hid (SR.start h5 hm5 (fun i hi => hi) (fun i hi => by rcases hi with h' | h'; exact h'.elim; exact h'.2) (Int.le_refl _) rfl)
  have HREL := Lib.hid (rel_new ((nn : Int) % 6))
  clear h4 hm5 h5 hb5
  generalize Rf.R.new ((nn : Int) % 6) = r0 at *
  generalize Pl.St.new ((nn : Int) % 6) = st0 at *
  unfold rv
  go_wp2_with (fail)
  generalize w5.heap.size = X at *
  go_loopw [7] (fun t wr => ∃ (j : Nat) (v1 v2 : Value) (r : Rf.R) (st : Pl.St) (bs : List Nat) (ps : List (Int × Nat)) (N G : Nat → Prop), j ≤ n1 ∧ t = .int .i64 j ∧ SR w X g j wr v1 v2 r st bs ps N G ∧ Rel st r) (fun t _ => n1 - (intOf t).toNat)
  case atStart => exact ⟨0, _, _, _, _, _, _, _, _, by omega, rfl, HSR.out, HREL.out⟩
  case round =>
    obtain ⟨j, v1, v2, r, st, bs, ps, N, G, hj, rfl, hsr, hin⟩ := hrel
    clear HSR HREL
    have HS := Lib.hid hsr
    have HREL := Lib.hid hin
    obtain ⟨A4, c4, rfl, _, _⟩ := own_form hsr.mem.own1
    obtain ⟨A5, c5, rfl, _, _⟩ := own_form hsr.mem.own2
    clear hsr hin
    by_cases hlt : j < n1
    · have hjl : j < l.length := by rw [HN1.out]; exact hlt
      have hwf := HW1.out _ (List.getElem_mem hjl)
      obtain ⟨b', o, A', c', hA1, hb', q0, q1, q2, q3, hrw⟩ := HR1.out j _ (List.getElem?_eq_getElem hjl)
      have kw : ∀ x, wr.cell? ⟨b', x, none⟩ = w.cell? ⟨b', x, none⟩ := fun x => World.cell?_of_block (HS.out.live.old.block b' hb')
      rw [← kw] at q0 q1 q2 q3
      generalize l[j] = a at *
      obtain ⟨ak, at_, an, p⟩ := a
      obtain ⟨⟨hk0, hk1⟩, hpw⟩ := hwf
      simp only at q0 q1 q2 q3 hrw hk0 hk1 hpw
      obtain ⟨kk, rfl⟩ : ∃ m : Nat, ak = m := ⟨ak.toNat, by omega⟩
      subst hA1
      have HPW := Lib.hid hpw
      have HRW := Lib.hid hrw
      clear hrw hpw kw
      cases d3 : decide ((80 : Int) < (p.length : Int))
      · skip
        have x0 : wr.cell? ⟨X, 0, none⟩ = some (.slice A4 r.safe.length c4) := by rw [cell_of_row _ _ _ _ _ _ HS.out.blk]; rfl
        have x1 : wr.cell? ⟨X, 1, none⟩ = some (.slice A5 r.wet.length c5) := by rw [cell_of_row _ _ _ _ _ _ HS.out.blk]; rfl
        have x2 : wr.cell? ⟨X, 2, none⟩ = some (.int .i64 r.left) := by rw [cell_of_row _ _ _ _ _ _ HS.out.blk]; rfl
        have x3 : wr.cell? ⟨X, 3, none⟩ = some (.int .i64 r.spare) := by rw [cell_of_row _ _ _ _ _ _ HS.out.blk]; rfl
        have x4 : wr.cell? ⟨X, 4, none⟩ = some (.bool r.off) := by rw [cell_of_row _ _ _ _ _ _ HS.out.blk]; rfl
        have x5 : wr.cell? ⟨X, 5, none⟩ = some (.int .i64 r.acts) := by rw [cell_of_row _ _ _ _ _ _ HS.out.blk]; rfl
        go_wp2
        refine lane_start (ord := [0, 2, 3, 4, 5, 1, 6, 7, 8, 9, 10, 11]) (S := fun w' => w'.cell? ⟨b', o + j * 4, none⟩ = some (.int .u8 (kk : Int)) ∧ w'.cell? ⟨b', o + j * 4 + 1, none⟩ = some (.int .i64 at_) ∧ w'.cell? ⟨b', o + j * 4 + 2, none⟩ = some (.int .i64 an) ∧ w'.cell? ⟨b', o + j * 4 + 3, none⟩ = some (.slice A' p.length c')) rfl (by kernel_rfl) ⟨q0, q1, q2, q3⟩ (fun hHeld => ?_)
        iterate 5 (refine lane_take (v := ?_) rfl (by kernel_rfl) (by kernel_rfl) (by rfl) ?_ (by assumption) ?_; rotate_left; (focus (intro W hSw; obtain ⟨hS0, hS1, hS2, hS3⟩ := hSw; go_simp; try (with_reducible rfl))); simp only [Act.put, List.setIfInBounds_toArray, List.set_cons_zero, List.set_cons_succ])
        refine lane_alone rfl (by kernel_rfl) (by rfl) (fun K hK => ?_)
        go_simp
        refine hK _ _ ⟨q0, q1, q2, q3⟩ (fun _ => ?_)
        clear hK K
        refine lane_alone rfl (by kernel_rfl) (by rfl) (fun K hK => ?_)
        go_simp
        go_wp2_with (fail)
        have hd := HS.out.drew
        have hwt : r.wet.length < 1000 := by have := HS.out.wet; omega
        have hac : r.acts < 1000 := by have := hd.acts; omega
        have hcall := do_any w N wr.drew g st (3 + 2 * j) G _ _ r bs ps ⟨kk, at_, an, p⟩ A' c' hd.live (by omega) hd.mem hd.sub hd.nlt hac hwt ⟨hk0, hk1⟩ HRW.out (bytesOk_of_wf HPW.out)
        unfold rv Ac.v at hcall
        simp only at hcall
        refine hcall.mono ?_
        rintro e w4 ⟨v1', v2', bs', ps', N', G', rfl, hl', hm', hN', hG', hlt', hk', hg'⟩
        obtain ⟨A6, c6, rfl, _, _⟩ := own_form hm'.own1
        obtain ⟨A7, c7, rfl, _, _⟩ := own_form hm'.own2
        have kq : ∀ x, w4.cell? ⟨b', x, none⟩ = wr.cell? ⟨b', x, none⟩ := fun x => World.cell?_of_block (hk'.old b' hb')
        have hsz := rf_size ⟨kk, at_, an, p⟩ r
        obtain ⟨w6, rfl, hX6, hsr'⟩ := hd.next hl' hm' hN' hG' hlt' hk' hg' hsz.1 hsz.2 (by omega)
        have HSR2 := Lib.hid hsr'
        have hok := (HREL.out.ac ⟨kk, at_, an, p⟩).2
        have HREL2 := Lib.hid (HREL.out.ac ⟨kk, at_, an, p⟩).1
        have hbX : b' ≠ X := by have := HS.out.wx; omega
        have q0' := (kq _).trans q0
        have q1' := (kq _).trans q1
        have q2' := (kq _).trans q2
        have q3' := (kq _).trans q3
        rw [hok]
        clear hd hl' hm' hN' hG' hlt' hk' hg' hsr' hsz kq hok
        generalize Ac.rf ⟨kk, at_, an, p⟩ r = r' at *
        generalize Ac.st ⟨kk, at_, an, p⟩ st = st' at *
        refine hK _ _ ⟨q0', q1', q2', q3'⟩ (fun _ => ?_)
        clear hK K
        unfold rv
        iterate 3 (refine lane_take (v := ?_) rfl (by kernel_rfl) (by kernel_rfl) (by rfl) ?_ (by exact ⟨q0', q1', q2', q3'⟩) ?_; rotate_left; (focus (intro W hSw; go_simp; try (with_reducible rfl))); simp only [Act.put, List.setIfInBounds_toArray, List.set_cons_zero, List.set_cons_succ])
        refine lane_alone rfl (by kernel_rfl) (by rfl) (fun K hK => ?_)
        go_simp
        rw [boxed_cell_other hbX] at q0' q1' q2' q3'
        refine hK _ _ ⟨by rw [boxed_cell_other hbX]; exact q0', by rw [boxed_cell_other hbX]; exact q1', by rw [boxed_cell_other hbX]; exact q2', by rw [boxed_cell_other hbX]; exact q3'⟩ (fun hH2 => ?_)
        clear hK K
        refine lane_take (v := ?_) rfl (by kernel_rfl) (by kernel_rfl) (by rfl) ?_ hH2 ?_; rotate_left; (focus (intro W hSw; go_simp; try (with_reducible rfl))); simp only [Act.put, List.setIfInBounds_toArray, List.set_cons_zero, List.set_cons_succ]
        refine lane_end (by kernel_rfl) ?_
        clear q0' q1' q2' q3' x0 x1 x2 x3 x4 x5 q0 q1 q2 q3 hHeld hH2
        have HSX := HSR2.out.blk
        generalize boxed w6 X _ _ = wb at *
        have x0 : wb.cell? ⟨X, 0, none⟩ = some (.slice A6 r'.safe.length c6) := by rw [cell_of_row _ _ _ _ _ _ HSX]; rfl
        have x1 : wb.cell? ⟨X, 1, none⟩ = some (.slice A7 r'.wet.length c7) := by rw [cell_of_row _ _ _ _ _ _ HSX]; rfl
        have x2 : wb.cell? ⟨X, 2, none⟩ = some (.int .i64 r'.left) := by rw [cell_of_row _ _ _ _ _ _ HSX]; rfl
        have x3 : wb.cell? ⟨X, 3, none⟩ = some (.int .i64 r'.spare) := by rw [cell_of_row _ _ _ _ _ _ HSX]; rfl
        have x4 : wb.cell? ⟨X, 4, none⟩ = some (.bool r'.off) := by rw [cell_of_row _ _ _ _ _ _ HSX]; rfl
        have x5 : wb.cell? ⟨X, 5, none⟩ = some (.int .i64 r'.acts) := by rw [cell_of_row _ _ _ _ _ _ HSX]; rfl
        clear HSX
        go_wp2_with (fail)
        refine (same_any w _ wb g st' _ _ _ _ r' _ _ HSR2.out.live HSR2.out.mem HREL2.out).mono ?_
        rintro e w8 ⟨rfl, hb8⟩
        have HS8 := Lib.hid (HSR2.out.below hb8)
        clear hb8 x0 x1 x2 x3 x4 x5
        go_wp2
        go_roundw
        case rel => exact ⟨j + 1, _, _, _, _, _, _, _, _, by omega, by go_num, HS8.out, HREL2.out⟩
        case measure => simp [intOf]; omega
      · go_wp2
        go_ret
        exact ⟨rfl, HS.out.live.old⟩
    · have e0 : decide ((j : Int) < (n1 : Int)) = false := by simp; omega
      go_wp2
      go_ret
      exact ⟨rfl, HS.out.live.old⟩
theorem platePlays_walk {w : World} (k : Int) (hk : (Lit.int .u8 k).wf = true) (A1 : Option Addr) (c1 : Nat) (l : List Ac) (hr1 : RdActs w w.heap.size A1 l) (hw1 : ∀ a ∈ l, a.Wf) :
    Calls Try.prog 3 #[.int .u8 k, .slice A1 l.length c1] w fun e w' => e = .returned (.bool true) ∧ Below w.heap.size w w' := by
  obtain ⟨h0, h1⟩ := wf_u8 hk
  obtain ⟨nn, rfl⟩ : ∃ m : Nat, k = m := ⟨k.toNat, by omega⟩
  by_cases h : 50 < l.length
  · exact platePlays_far _ _ _ _ _ h
  · exact platePlays_in A1 c1 _ nn l w hr1 hw1 rfl (by omega) (by omega)
end Go.Proofs.Ytlbodpffkdfllaa
