/-
  The law's 'same': a plate and one of the document's own that are one are found so. No conditions but the sizes.
-/
import Derived.Test.YtlbodpffkdfllaaPlRel
import Derived.Test.YtlbodpffkdfllaaPlMake
namespace Go.Proofs.Ytlbodpffkdfllaa
open Go.ChangeShapes Go.WideShapes Go.ChangeAt Go.RowKit
open Rf (sl ys rv)

set_option maxRecDepth 20000 in
set_option maxHeartbeats 3200000 in
theorem same_any (w0 : World) (N : Nat → Prop) (w : World) (g : Nat) (st : Pl.St) (m : Nat) (G : Nat → Prop) (v1 v2 : Value) (r : Rf.R) (bs : List Nat) (ps : List (Int × Nat)) (hl : Live w0 N w g st m) (h : Rf.M w G v1 v2 r bs ps) (hrel : Rel st r) :
    Calls Try.prog 8 #[.pointer (some ⟨g, 0, none⟩), rv v1 v2 r] w fun e w' => e = .returned (.bool true) ∧ Below w.heap.size w w' := by
  obtain ⟨A, c, rfl, _, _⟩ := own_form h.own1
  obtain ⟨A2, c2, rfl, _, _⟩ := own_form h.own2
  have HL := Lib.hid hl
  have H := Lib.hid h
  have HREL := Lib.hid hrel
  have hsz := h.ok.size
  have e1 := congrArg List.length hrel.safe
  have e2 := congrArg List.length hrel.wet
  unfold rv
  rw [hrel.off, hrel.acts, e1, e2]
  rw [e1] at hsz
  clear hl h hrel e1 e2
  go_enter Try.func8, Try.ntmps8
  go_wp2
  have hB : Below w.heap.size w (w.alloc (.cells #[.slice A st.safe.length c, .slice A2 st.wet.length c2, .int .i64 r.left, .int .i64 r.spare, .bool st.off, .int .i64 st.acts] 29)) := (Below.refl _ _).alloc (Nat.le_refl _) _
  have HB := Lib.hid hB
  have HL1 := Lib.hid (HL.out.below hB)
  have HM1 := Lib.hid (H.out.below hB)
  have hblk : (w.alloc (.cells #[.slice A st.safe.length c, .slice A2 st.wet.length c2, .int .i64 r.left, .int .i64 r.spare, .bool st.off, .int .i64 st.acts] 29)).heap[w.heap.size]? = some (.cells #[.slice A st.safe.length c, .slice A2 st.wet.length c2, .int .i64 r.left, .int .i64 r.spare, .bool st.off, .int .i64 st.acts] 29 (0, 0)) := alloc_block
  have HBLK := Lib.hid hblk
  clear hB hblk
  generalize w.alloc (.cells #[.slice A st.safe.length c, .slice A2 st.wet.length c2, .int .i64 r.left, .int .i64 r.spare, .bool st.off, .int .i64 st.acts] 29) = W at *
  generalize hBe : w.heap.size = B at *
  have hBW : B < W.heap.size := (Array.getElem?_eq_some_iff.1 HBLK.out).1
  have x0 : W.cell? ⟨B, 0, none⟩ = some (.slice A st.safe.length c) := by rw [cell_of_row _ _ _ _ _ _ HBLK.out]; rfl
  have x1 : W.cell? ⟨B, 1, none⟩ = some (.slice A2 st.wet.length c2) := by rw [cell_of_row _ _ _ _ _ _ HBLK.out]; rfl
  have x4 : W.cell? ⟨B, 4, none⟩ = some (.bool st.off) := by rw [cell_of_row _ _ _ _ _ _ HBLK.out]; rfl
  have x5 : W.cell? ⟨B, 5, none⟩ = some (.int .i64 st.acts) := by rw [cell_of_row _ _ _ _ _ _ HBLK.out]; rfl
  have HEV : Hid (∀ x : Later W, Live w0 N (over W x) g st m) := fun x => HL1.out.below (over_below W x)
  have x2 : W.cell? ⟨B, 2, none⟩ = some (.int .i64 r.left) := by rw [cell_of_row _ _ _ _ _ _ HBLK.out]; rfl
  have x3 : W.cell? ⟨B, 3, none⟩ = some (.int .i64 r.spare) := by rw [cell_of_row _ _ _ _ _ _ HBLK.out]; rfl
  cases ho : st.off
  · skip
    rw [ho] at x4
    refine region_over (by kernel_rfl) (by kernel_rfl) ?_
    repeat (go_big_quiet_step ((first | (go_at_call 17; exact over_same ((on_live (HEV.out _)).mono fun e w' hh => by rw [ho] at hh; exact (show e = .returned (.bool true) ∧ _ = w' from hh))) | (go_at_call 18; exact over_same (acts_live (HEV.out _))) | (go_at_call 19; exact over_same (wet_live (HEV.out _))) | (go_at_call 20; exact over_same (size_live (HEV.out _))))))
    refine wpQuiet_nil ?_
    rintro w' ⟨x, rfl⟩
    have H5 : Hid (Below W.heap.size W (over W x)) := over_below _ _
    generalize over W x = w5 at *
    go_wp2
    go_loopw [5] (fun t wr => ∃ j : Nat, j ≤ st.safe.length ∧ t = .int .i64 j ∧ Below W.heap.size W wr) (fun t _ => st.safe.length - (intOf t).toNat)
    case atStart => exact ⟨0, by omega, rfl, H5.out⟩
    case round =>
      obtain ⟨j, hj, rfl, hbr⟩ := hrel
      have kb : ∀ o, wr.cell? ⟨B, o, none⟩ = W.cell? ⟨B, o, none⟩ := fun o => World.cell?_of_block (hbr.block B hBW)
      have y0 := (kb 0).trans x0
      have y1 := (kb 1).trans x1
      have y2 := (kb 2).trans x2
      have y3 := (kb 3).trans x3
      have y4 := (kb 4).trans x4
      have y5 := (kb 5).trans x5
      have HBR := Lib.hid hbr
      clear hbr kb
      by_cases hlt : j < st.safe.length
      · go_wp2_with (fail)
        refine (read_live (HL1.out.below HBR.out) ho (by omega) (by omega)).mono ?_
        intro e w6 ht
        obtain ⟨A8, c8, rfl, HR8, HB8, hc1, hc2, HO8⟩ := ht.open_
        have HLT : Hid (B < wr.heap.size) := by have := HBR.out.size; show B < wr.heap.size; omega
        have kz : ∀ o, w6.cell? ⟨B, o, none⟩ = wr.cell? ⟨B, o, none⟩ := fun o => World.cell?_of_block (HB8.out.block B HLT.out)
        have z0 := (kz 0).trans y0
        have z1 := (kz 1).trans y1
        have z2 := (kz 2).trans y2
        have z3 := (kz 3).trans y3
        have z4 := (kz 4).trans y4
        have z5 := (kz 5).trans y5
        have hsl : (st.read j).length = 64 := ((HL1.out.ok).read j).1
        have cv : (convert 31 9 (.slice A8 64 c8)).run Try.prog w6 = .ok (.string (bst (st.read j))) w6 := conv_len w6 A8 _ c8 64 _ HR8.out hsl
        clear kz ht y0 y1 y2 y3 y4 y5
        go_wp2
        have HWL : Hid (st.wet.length = r.wet.length) := by rw [HREL.out.wet]; rfl
        have HSL : Hid (st.safe.length = r.safe.length) := by rw [HREL.out.safe]; rfl
        have H68 : Hid (Below W.heap.size W w6) := HBR.out.trans (HB8.out.mono HBR.out.size)
        refine lane_start (ord := [0, 1, 2, 3, 4, 5, 6, 7, 8, 9, 10]) (S := fun w' => (convert 31 9 (.slice A8 64 c8)).run Try.prog w' = .ok (.string (bst (st.read j))) w' ∧ w'.cell? ⟨B, 0, none⟩ = some (.slice A st.safe.length c) ∧ w'.cell? ⟨B, 1, none⟩ = some (.slice A2 st.wet.length c2) ∧ w'.cell? ⟨B, 2, none⟩ = some (.int .i64 r.left) ∧ w'.cell? ⟨B, 3, none⟩ = some (.int .i64 r.spare) ∧ w'.cell? ⟨B, 4, none⟩ = some (.bool false) ∧ w'.cell? ⟨B, 5, none⟩ = some (.int .i64 st.acts)) rfl (by kernel_rfl) ⟨conv_len w6.drew A8 _ c8 64 _ (HR8.out.kept fun _ _ => rfl) hsl, z0, z1, z2, z3, z4, z5⟩ (fun hHeld => ?_)
        iterate 7 (refine lane_take (v := ?_) rfl (by kernel_rfl) (by kernel_rfl) (by rfl) ?_ (by assumption) ?_; rotate_left; (focus (intro W' hSw; obtain ⟨hS0, hS1, hS2, hS3, hS4, hS5, hS6⟩ := hSw; go_simp; try (with_reducible rfl))); simp only [Act.put, List.setIfInBounds_toArray, List.set_cons_zero, List.set_cons_succ])
        refine lane_alone rfl (by kernel_rfl) (by rfl) (fun K hK => ?_)
        go_simp
        go_wp2_with (fail)
        have hm := HM1.out.below (H68.out.drew)
        rw [← HSL.out, ← HWL.out] at hm
        have hcall := refRead_any w6.drew G _ _ r bs ps j hm (by omega) (by have := HSL.out; omega)
        rw [HREL.out.read] at hcall
        unfold rv at hcall
        rw [HREL.out.off, ho, HREL.out.acts] at hcall
        refine hcall.mono ?_
        clear hcall hm
        rintro e w7 ⟨b, rfl, hGb, hbb, hB7⟩
        have hbl := (Array.getElem?_eq_some_iff.1 hbb).1
        have hb7 := (hB7.block b hbl).trans hbb
        have kz : ∀ o, w7.cell? ⟨B, o, none⟩ = w6.cell? ⟨B, o, none⟩ := fun o => World.cell?_of_block (hB7.block B (Nat.lt_of_lt_of_le HLT.out HB8.out.size))
        have z0' := (kz 0).trans z0
        have z1' := (kz 1).trans z1
        have z2' := (kz 2).trans z2
        have z3' := (kz 3).trans z3
        have z4' := (kz 4).trans z4
        have z5' := (kz 5).trans z5
        have cv1 : (convert 31 9 (.slice A8 64 c8)).run Try.prog w7 = .ok (.string (bst (st.read j))) w7 := conv_len w7 A8 _ c8 64 _ ((HR8.out.kept (w' := w6.drew) fun _ _ => rfl).below hB7) hsl
        have cv2 : (convert 31 9 (.slice (some ⟨b, 0, none⟩) 64 64)).run Try.prog w7 = .ok (.string (bst (st.read j))) w7 := conv_len w7 _ _ 64 64 _ (rd_block hb7) hsl
        have HE : Hid (Below W.heap.size W w7) := H68.out.drew.trans (hB7.mono H68.out.size)
        clear kz hbb hB7 hb7 hbl z0 z1 z2 z3 z4 z5 cv
        refine hK _ _ ⟨cv1, z0', z1', z2', z3', z4', z5'⟩ (fun _ => ?_)
        clear hK K
        unfold sl
        refine lane_alone rfl (by kernel_rfl) (by rfl) (fun K hK => ?_)
        go_simp
        refine hK _ _ ⟨cv1, z0', z1', z2', z3', z4', z5'⟩ (fun _ => ?_)
        clear hK K
        iterate 2 (refine lane_take (v := ?_) rfl (by kernel_rfl) (by kernel_rfl) (by rfl) ?_ (by exact ⟨cv1, z0', z1', z2', z3', z4', z5'⟩) ?_; rotate_left; (focus (intro W' hSw; go_simp; try (with_reducible rfl))); simp only [Act.put, List.setIfInBounds_toArray, List.set_cons_zero, List.set_cons_succ])
        refine lane_end (by kernel_rfl) ?_
        clear hHeld cv1 cv2
        go_wp2
        go_roundw
        case rel => exact ⟨j + 1, by omega, by go_num, HE.out⟩
        case measure => simp [intOf]; omega
      · have e0 : decide ((j : Int) < (st.safe.length : Int)) = false := by simp; omega
        go_wp2
        go_ret
        exact ⟨rfl, by rw [hBe]; exact HB.out.trans (HBR.out.mono (Nat.le_of_lt hBW))⟩
  · skip
    rw [ho] at x4
    refine region_over (by kernel_rfl) (by kernel_rfl) ?_
    repeat (go_big_quiet_step ((first | (go_at_call 17; exact over_same ((on_live (HEV.out _)).mono fun e w' hh => by rw [ho] at hh; exact (show e = .returned (.bool false) ∧ _ = w' from hh))) | (go_at_call 18; exact over_same (acts_live (HEV.out _))) | (go_at_call 19; exact over_same (wet_live (HEV.out _))) | (go_at_call 20; exact over_same (size_live (HEV.out _))))))
    refine wpQuiet_nil ?_
    rintro w' ⟨x, rfl⟩
    have H5 : Hid (Below W.heap.size W (over W x)) := over_below _ _
    generalize over W x = w5 at *
    go_wp2
    go_loopw [5] (fun t wr => ∃ j : Nat, j ≤ st.safe.length ∧ t = .int .i64 j ∧ Below W.heap.size W wr) (fun t _ => st.safe.length - (intOf t).toNat)
    case atStart => exact ⟨0, by omega, rfl, H5.out⟩
    case round =>
      obtain ⟨j, hj, rfl, hbr⟩ := hrel
      have kb : ∀ o, wr.cell? ⟨B, o, none⟩ = W.cell? ⟨B, o, none⟩ := fun o => World.cell?_of_block (hbr.block B hBW)
      have y0 := (kb 0).trans x0
      have y1 := (kb 1).trans x1
      have y2 := (kb 2).trans x2
      have y3 := (kb 3).trans x3
      have y4 := (kb 4).trans x4
      have y5 := (kb 5).trans x5
      have HBR := Lib.hid hbr
      clear hbr kb
      by_cases hlt : j < st.safe.length
      · have hlv := HL1.out.below HBR.out
        go_wp2_with (fail)
        refine (readoff_live hlv ho).mono ?_
        rintro e w' ⟨rfl, rfl⟩
        go_wp2
        go_roundw
        case rel => exact ⟨j + 1, by omega, by go_num, HBR.out⟩
        case measure => simp [intOf]; omega
      · have e0 : decide ((j : Int) < (st.safe.length : Int)) = false := by simp; omega
        go_wp2
        go_ret
        exact ⟨rfl, by rw [hBe]; exact HB.out.trans (HBR.out.mono (Nat.le_of_lt hBW))⟩
end Go.Proofs.Ytlbodpffkdfllaa
