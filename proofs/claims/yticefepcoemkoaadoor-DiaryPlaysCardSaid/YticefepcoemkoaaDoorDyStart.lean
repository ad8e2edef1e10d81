/-
  A diary begins anew in its other half. No conditions but the sizes.
-/
import Derived.Test.YticefepcoemkoaaDoorDyAdd
import Derived.Test.YticefepcoemkoaaDoorLaneT
namespace Go.Proofs.YticefepcoemkoaaDoor
set_option maxRecDepth 20000
open Go.ChangeShapes Go.WideShapes Go.ChangeAt Go.RowKit

/-- A whole struct is stored into a block of its own. -/
theorem exec_store_block {P : Program} {o : Oper} {a : Act} {w : World} {t : TypeId} {x y : Operand} {d : Nat} {cs cs' : Array Value} (ho : o.op = .store t x y) (hx : a.eval x = .pointer (some ⟨d, 0, none⟩)) (hy : a.eval y = .agg cs')
    (hb : w.heap[d]? = some (.cells cs t (0, 0))) (hi : (P.info? t).map (·.size) = some cs'.size) (hc : cs.size = cs'.size) (h1 : cs'.all (·.oneCell') = true) : (execOp a.eval o).run P w = .ok .skip (boxed w d cs' t) := by
  have hrun := run_storeVar_row (P := P) w d t t cs cs' hb hi hc h1
  rw [setRow_boxed hb] at hrun
  unfold execOp
  simp only [ho, hx, hy, Instr.storeAt, Instr.sureAddr, Sem.run_bind, Sem.run_pure, Result.andThen_ok, hrun]
theorem diaryinfo : (Tryd.prog.info? 56).map (·.size) = some 10 := by kernel_rfl

theorem start_fin {w0 : World} {M : Nat → Prop} {w w2 w3 w4 : World} {d g m S n p1 p2 age nb c4 : Nat} {b lo1 lo2 : List Int} {f : Nat → List Int} {st3 : Pl.St} {N : Nat → Prop} {A4 : Option Addr}
    (hlt : ∀ i, N i → i < w.heap.size) (hNd : N d ∧ w0.heap.size ≤ d) (hM : ∀ i, M i → N i ∧ i ≠ d)
    (h1 : Pl.Half f p1 n (Pl.full n lo1)) (hl1 : lo1.length ≤ n * 64) (h2 : Pl.Half f p2 n (Pl.full n lo2)) (hfi : p1 + n ≤ S ∧ p2 + n ≤ S ∧ (p1 + n ≤ p2 ∨ p2 + n ≤ p1) ∧ n ≤ 70) (ha : age + 1 < 1000000)
    (hb : BytesOk b) (hn : b.length = nb) (hfit : 16 + nb ≤ n * 64) (hm : m + 600 ≤ 40000) (hz2 : w.heap.size ≤ w2.heap.size) (hz3 : w2.heap.size ≤ w3.heap.size)
    (hl3 : Live w0 (fun i => N i ∨ (w.heap.size ≤ i ∧ i < w2.heap.size)) w3 g st3 (m + 600)) (hs3 : Pl.Sees st3 S (beginF f p2 n (Sl.closed (age + 1) 0 b))) (hw3 : st3.wet = [])
    (hk3 : ∀ i, N i → w3.heap[i]? = w.heap[i]?) (hk3o : ∀ i, i < w0.heap.size → w3.heap[i]? = w.heap[i]?)
    (hb4 : Below w3.heap.size w3 w4) (ho4 : w4.ownsRow w3.heap.size 5 1 (.slice A4 nb c4) nb (cl .u8 b)) (hc4 : nb ≤ c4) :
    Kept w0 M w (boxed w4 d (dcl g p2 p1 n (age + 1) (.slice A4 nb c4) (.slice none 0 0) (16 + nb)) 56) ∧ ∃ f' st' N' I' E', DyM w0 M (boxed w4 d (dcl g p2 p1 n (age + 1) (.slice A4 nb c4) (.slice none 0 0) (16 + nb)) 56) d g (m + 600) S n p2 p1 (age + 1) b [] lo1 f' st' N' I' E' := by
  have hdw : d < w.heap.size := hlt d hNd.1
  have hz4 := hb4.size
  have hd4 : d < w4.heap.size := by omega
  have hsz : (boxed w4 d (dcl g p2 p1 n (age + 1) (.slice A4 nb c4) (.slice none 0 0) (16 + nb)) 56).heap.size = w4.heap.size := boxed_size
  have kd : ∀ i, i ≠ d → (boxed w4 d (dcl g p2 p1 n (age + 1) (.slice A4 nb c4) (.slice none 0 0) (16 + nb)) 56).heap[i]? = w4.heap[i]? := fun i hi => boxed_block_other hi
  have hblk : (boxed w4 d (dcl g p2 p1 n (age + 1) (.slice A4 nb c4) (.slice none 0 0) (16 + nb)) 56).heap[d]? = some (.cells (dcl g p2 p1 n (age + 1) (.slice A4 nb c4) (.slice none 0 0) (16 + nb)) 56 (0, 0)) := boxed_block hd4
  have hos : (boxed w4 d (dcl g p2 p1 n (age + 1) (.slice A4 nb c4) (.slice none 0 0) (16 + nb)) 56).os = w3.os ∧ (boxed w4 d (dcl g p2 p1 n (age + 1) (.slice A4 nb c4) (.slice none 0 0) (16 + nb)) 56).tape = w3.tape ∧ (boxed w4 d (dcl g p2 p1 n (age + 1) (.slice A4 nb c4) (.slice none 0 0) (16 + nb)) 56).output = w3.output := ⟨hb4.os, hb4.tape, hb4.output⟩
  generalize (boxed w4 d (dcl g p2 p1 n (age + 1) (.slice A4 nb c4) (.slice none 0 0) (16 + nb)) 56) = W at *
  subst hn
  have k3 : ∀ i, i < w3.heap.size → i ≠ d → W.heap[i]? = w3.heap[i]? := fun i hi hne => (kd i hne).trans (hb4.block i hi)
  have ht : Turn (fun i => i = d) w3 W := ⟨hos.1, hos.2.1, hos.2.2, by omega, fun i hi hn => k3 i hi hn⟩
  have hl := hl3.turnMore ht (fun i _ hi => .inl (hi ▸ hNd.1)) (fun i hi => hi ▸ hNd.2)
  have hlog : Sl.log (age + 1) 0 [b] = Sl.closed (age + 1) 0 b := by simp [Sl.log]
  have hlen : (Sl.closed (age + 1) 0 b).length = 16 + b.length := Sl.closed_len _ _ _
  refine ⟨⟨by omega, fun i hi => (k3 i (by have := hlt i (hM i hi).1; omega) (hM i hi).2).trans (hk3 i (hM i hi).1), fun i hi => (k3 i (by omega) (by have := hNd.2; omega)).trans (hk3o i hi)⟩, _, st3, _, (fun i => w3.heap.size ≤ i ∧ i < w4.heap.size), (fun _ => False), hl, hs3, hw3, fun i hi => ?_, ⟨⟨A4, c4, .slice none 0 0, [], ?_, ?_, hc4, World.ownsRow_nil _ _ _ _, Ents.nil _ _, fun i hi => by simp [Value.ownBlock] at hi⟩, fun i hi => ⟨by omega, fun h => h, by omega⟩⟩, ⟨.inl (.inl hNd.1), hNd.2⟩, fun i hi => .inr (by rcases hi with h' | h'; omega; exact h'.elim), fun i hi => hi.elim, fun i hi => ⟨.inl (.inl (hM i hi).1), (hM i hi).2, fun h => h, fun h => by have := hlt i (hM i hi).1; omega⟩, ⟨?_, ?_, ?_, hl1, ⟨hfi.2.1, hfi.1, hfi.2.2.1.symm, hfi.2.2.2⟩, ha, fun e he => ?_⟩, hm⟩
  · rcases hi with (h' | h') | h'
    · have := hlt i h'; omega
    · omega
    · omega
  · rw [hlog, hlen]; exact hblk
  · exact (RdI.own (I := fun i => w3.heap.size ≤ i ∧ i < w4.heap.size) ho4 fun i h3 h4 => ⟨h3, h4⟩).kept (fun i hi _ => kd i (by omega)) (by omega)
  · rw [hlog]; exact begin_half h2 (by omega)
  · rw [hlog, hlen]; exact hfit
  · exact begin_other h1 (by omega) (by omega) (by omega)
  · rw [List.mem_singleton] at he; subst he; exact hb

set_option maxHeartbeats 4000000 in
theorem dStart_any (w0 : World) (M : Nat → Prop) (w : World) (d g m S n p1 p2 age q : Nat) (vf ve : Value) (lo1 lo2 : List Int) (f : Nat → List Int) (st : Pl.St) (N : Nat → Prop) (A : Option Addr) (nb c : Nat) (b : List Int)
    (h : Live w0 N w g st m) (hs : Pl.Sees st S f) (hlt : ∀ i, N i → i < w.heap.size) (hd : w.heap[d]? = some (.cells (dcl g p1 p2 n age vf ve q) 56 (0, 0))) (hNd : N d ∧ w0.heap.size ≤ d) (hM : ∀ i, M i → N i ∧ i ≠ d)
    (h1 : Pl.Half f p1 n (Pl.full n lo1)) (hl1 : lo1.length ≤ n * 64) (h2 : Pl.Half f p2 n (Pl.full n lo2)) (hfi : p1 + n ≤ S ∧ p2 + n ≤ S ∧ (p1 + n ≤ p2 ∨ p2 + n ≤ p1) ∧ n ≤ 70) (ha : age + 1 < 1000000)
    (hr : RdK w0 M w A b) (hb : BytesOk b) (hn : b.length = nb) (hb0 : nb ≤ 1000) (ht : Lines w0) (hm : m + 600 ≤ 40000) :
    Calls Tryd.prog 10 #[.pointer (some ⟨d, 0, none⟩), .slice A nb c] w fun e w' => Kept w0 M w w' ∧
      ((16 + nb ≤ n * 64 ∧ e = .returned (.int .i64 0) ∧ ∃ f' st' N' I' E', DyM w0 M w' d g (m + 600) S n p2 p1 (age + 1) b [] lo1 f' st' N' I' E') ∨
       (n * 64 < 16 + nb ∧ e = .returned (.int .i64 3) ∧ Below w.heap.size w w')) := by
  have hdl := (Array.getElem?_eq_some_iff.1 hd).1
  have hnz := hfi.2.2.2
  have hw0 := h.old.size
  have HL := Lib.hid h
  have HS := Lib.hid hs
  have HD := Lib.hid hd
  have HR := Lib.hid hr
  have HB := Lib.hid hb
  have H1 := Lib.hid h1
  have H2 := Lib.hid h2
  have HM := Lib.hid hM
  have HLT := Lib.hid hlt
  have HND := Lib.hid hNd
  have HFI := Lib.hid hfi
  clear h hs hd hr hb h1 h2 hM hlt hNd hfi
  have hlen : decide ((nb : Int) > 1048576) = false := by simp; omega
  have hwa : (age : Int) + 1 = ((age + 1 : Nat) : Int) := by omega
  have HWA : Hid (IntKind.u32.wrap ((age : Int) + 1) = ((age + 1 : Nat) : Int)) := by show _ = _; rw [IntKind.wrap_u32']; omega
  have HWC := Lib.hid hwa
  clear hwa
  go_enter Tryd.func10, Tryd.ntmps10
  go_wp2_with (fail)
  refine lane_start (ord := [0, 1, 2, 3, 4, 5, 7, 8, 9, 10, 6, 11, 12, 13]) (S := fun w' => w'.heap[d]? = some (.cells (dcl g p1 p2 n age vf ve q) 56 (0, 0))) rfl (by kernel_rfl) HD.out (fun hHeld => ?_)
  iterate 9 (refine lane_take (v := ?_) rfl (by kernel_rfl) (by kernel_rfl) (by rfl) ?_ (by assumption) ?_; rotate_left; (focus (intro W hSw;  go_simp; try (with_reducible rfl))); simp only [Act.put, List.setIfInBounds_toArray, List.set_cons_zero, List.set_cons_succ])
  refine lane_take (v := halfV g p2 n) rfl (by kernel_rfl) (by kernel_rfl) (by rfl) (fun W hSw => exec_load rfl rfl (run_load_half (dcl_range hSw).2)) (by assumption) ?_
  unfold halfV
  simp only [Act.put, List.setIfInBounds_toArray, List.set_cons_zero, List.set_cons_succ]
  refine lane_alone rfl (by kernel_rfl) (by rfl) (fun K hK => ?_)
  go_simp
  go_wp2_with (fail)
  refine (size_any nb w.drew (by omega)).mono ?_
  rintro e w1 ⟨rfl, rfl⟩
  refine hK _ _ HD.out (fun _ => ?_)
  clear hK K
  refine lane_alone rfl (by kernel_rfl) (by rfl) (fun K hK => ?_)
  go_simp
  go_wp2_with (fail)
  refine (room_any w.drew g p2 n (by omega)).mono ?_
  rintro e w1 ⟨rfl, hb1⟩
  have hbw : Below w.heap.size w w1 := (Below.refl _ w).drew.trans hb1
  have hd1 := (hbw.block d hdl).trans HD.out
  refine hK _ _ hd1 (fun _ => ?_)
  clear hK K hHeld hb1
  have HBW := Lib.hid hbw
  clear hbw
  iterate 2 (refine lane_take (v := ?_) rfl (by kernel_rfl) (by kernel_rfl) (by rfl) ?_ (by exact hd1) ?_; rotate_left; (focus (intro W hSw;  go_simp; try (with_reducible rfl))); simp only [Act.put, List.setIfInBounds_toArray, List.set_cons_zero, List.set_cons_succ])
  refine lane_end (by kernel_rfl) ?_
  by_cases hfit : 16 + nb ≤ n * 64
  · have ht1 : decide ((16 + (nb : Int)) > ((n * 64 : Nat) : Int)) = false := by simp; omega
    have ht2 : decide (((n * 64 : Nat) : Int) < (16 + (nb : Int))) = false := by simp; omega
    have ht3 : decide ((n : Int) * 64 < (16 + (nb : Int))) = false := by simp; omega
    have d6 : w1.cell? ⟨d, 6, none⟩ = some (.int .u32 age) := by rw [cell_of_row _ _ _ _ _ _ hd1]; rfl
    go_wp2_with (fail)
    have HT1 := Lib.hid (((ht.since HL.out.old).below HBW.out))
    have HR1 := Lib.hid (HR.out.below HBW.out)
    have hca := close_any (age + 1) 0 A w1.heap.size c nb b w1 HT1.out (by omega) (by omega) HR1.out.1 (Nat.le_refl _) HB.out hn hb0
    rw [← HWC.out] at hca
    refine hca.mono ?_
    clear hca d6
    intro e w2 hcl
    obtain ⟨A2, c2, rfl, HO2, HB2, HR2, hc21, hc22⟩ := hcl.open_n (16 + nb) (by rw [Sl.closed_len, hn])
    clear hcl
    have HBW2 := Lib.hid (HBW.out.trans (HB2.out.mono HBW.out.size))
    have hd2 := (HBW2.out.block d hdl).trans HD.out
    have HD2 := Lib.hid hd2
    have HRG := Lib.hid (dcl_range hd2).2
    clear hd1 hd2
    go_wp2_with (refine wpList_load_mid rfl 52 _ rfl d 3 rfl _ _ HRG.out Tryd.underlying52 rfl halfinfo ?_)
    have hz1 := HBW.out.size
    have hz2 := HBW2.out.size
    have hz12 : w1.heap.size ≤ w2.heap.size := HB2.out.size
    have hN2 : ∀ i, (N i ∨ (w.heap.size ≤ i ∧ i < w2.heap.size)) → i < w2.heap.size := fun i hi => by
      rcases hi with h' | h'
      · have := HLT.out i h'; omega
      · omega
    have hr2 : RdK w0 (fun i => N i ∨ (w.heap.size ≤ i ∧ i < w2.heap.size)) w2 A2 (Sl.closed (age + 1) 0 b) := RdK.own HO2.out fun i h1 h2 => .inr ⟨by omega, h2⟩
    refine (hbegin_any w0 _ w2 g st m S f p2 n A2 (16 + nb) c2 (Sl.closed (age + 1) 0 b) (HL.out.more HBW2.out) HS.out hN2 hr2 (closed_ok HB.out) (by rw [Sl.closed_len, hn]) (by omega) hfit hc21 hc22 HFI.out.2.1 hnz (by omega)).mono ?_
    rintro e w3 ⟨rfl, st3, hl3, hs3, hw3, hk3⟩
    have HL3 := Lib.hid hl3
    have HS3 := Lib.hid hs3
    have HW3 := Lib.hid hw3
    have hd3 := (hk3.block d (.inl HND.out.1)).trans HD2.out
    have hk3b : ∀ i, N i → w3.heap[i]? = w.heap[i]? := fun i hi => (hk3.block i (.inl hi)).trans (HBW2.out.block i (HLT.out i hi))
    have hk3o : ∀ i, i < w0.heap.size → w3.heap[i]? = w.heap[i]? := fun i hi => (hk3.old i hi).trans (HBW2.out.block i (by omega))
    have hz3 : w2.heap.size ≤ w3.heap.size := hk3.size
    have HK3 := Lib.hid hk3b
    have HK3O := Lib.hid hk3o
    have HD3 := Lib.hid hd3
    have HRB := Lib.hid ((HR.out.kept (w' := w3) (by omega) fun i hi hn => hn.elim (fun h => HK3.out i (HM.out i h).1) (HK3O.out i)).1)
    clear hl3 hs3 hw3 hk3 hk3b hk3o hN2 hr2 hd3
    go_wp2_with (fail)
    refine laneT_start (ord := [0, 1, 2, 3, 4, 5, 6, 7, 8, 9, 10, 11, 12, 13, 14, 16, 17, 15, 18, 19, 20]) (t := 20) (S := fun w' => w'.heap[d]? = some (.cells (dcl g p1 p2 n age vf ve q) 56 (0, 0))) rfl (by kernel_rfl) ?_
    iterate 4 (refine laneT_take (v := ?_) rfl (by kernel_rfl) (by kernel_rfl) (by rfl) ?_ (by exact HD3.out) ?_; rotate_left; (focus (intro W hSw;  go_simp; try (with_reducible rfl))); simp only [Act.put, List.setIfInBounds_toArray, List.set_cons_zero, List.set_cons_succ])
    refine laneT_take (v := halfV g p2 n) rfl (by kernel_rfl) (by kernel_rfl) (by rfl) (fun W hSw => exec_load rfl rfl (run_load_half (dcl_range hSw).2)) (by exact HD3.out) ?_
    simp only [Act.put, List.setIfInBounds_toArray, List.set_cons_zero, List.set_cons_succ]
    iterate 3 (refine laneT_take (v := ?_) rfl (by kernel_rfl) (by kernel_rfl) (by rfl) ?_ (by exact HD3.out) ?_; rotate_left; (focus (intro W hSw;  go_simp; try (with_reducible rfl))); simp only [Act.put, List.setIfInBounds_toArray, List.set_cons_zero, List.set_cons_succ])
    refine laneT_take (v := halfV g p1 n) rfl (by kernel_rfl) (by kernel_rfl) (by rfl) (fun W hSw => exec_load rfl rfl (run_load_half (dcl_range hSw).1)) (by exact HD3.out) ?_
    simp only [Act.put, List.setIfInBounds_toArray, List.set_cons_zero, List.set_cons_succ]
    iterate 8 (refine laneT_take (v := ?_) rfl (by kernel_rfl) (by kernel_rfl) (by rfl) ?_ (by exact HD3.out) ?_; rotate_left; (focus (intro W hSw; have q6 : W.cell? ⟨d, 6, none⟩ = some (.int .u32 age) := (by rw [cell_of_row _ _ _ _ _ _ hSw]; rfl); go_simp; try (with_reducible rfl))); simp only [Act.put, List.setIfInBounds_toArray, List.set_cons_zero, List.set_cons_succ])
    unfold halfV
    refine laneT_alone rfl (by kernel_rfl) (by rfl) (fun K hK => ?_)
    go_simp
    go_wp2_with (fail)
    refine (clone_len A w3.heap.size c nb b w3.drew (HRB.out.kept fun _ _ => rfl) (Nat.le_refl _) hn (by omega)).mono ?_
    intro e w4 hcl
    obtain ⟨A4, c4, rfl, HO4, HB4, _, hc41, _⟩ := hcl.open_n nb hn
    have hd4 : w4.heap[d]? = some (.cells (dcl g p1 p2 n age vf ve q) 56 (0, 0)) := (HB4.out.block d (by show d < w3.heap.size; omega)).trans HD3.out
    clear hcl
    refine hK _ _ (fun _ => hd4) ?_
    clear hK K
    refine laneT_alone rfl (by kernel_rfl) (by rfl) (fun K hK => ?_)
    go_simp
    try go_wp2_with (fail)
    rw [HWA.out]
    refine hK _ _ (fun _ => hd4) ?_
    clear hK K
    iterate 1 (refine laneT_take (v := ?_) rfl (by kernel_rfl) (by kernel_rfl) (by rfl) ?_ (by exact hd4) ?_; rotate_left; (focus (intro W hSw;  go_simp; try (with_reducible rfl))); simp only [Act.put, List.setIfInBounds_toArray, List.set_cons_zero, List.set_cons_succ])
    refine laneT_alone rfl (by kernel_rfl) (by rfl) (fun K hK => ?_)
    refine wp_of_skip (exec_store_block (cs' := dcl g p2 p1 n (age + 1) (.slice A4 nb c4) (.slice none 0 0) (16 + nb)) rfl rfl rfl hd4 diaryinfo rfl (by simp [dcl, Value.oneCell'])) ?_
    simp only [Act.put]
    refine hK _ _ (fun h => absurd rfl h) ?_
    clear hK K
    refine laneT_end (by kernel_rfl) ?_
    go_wp2
    go_ret
    exact ⟨(start_fin HLT.out HND.out HM.out H1.out hl1 H2.out HFI.out ha HB.out hn hfit hm hz2 hz3 HL3.out HS3.out HW3.out HK3.out HK3O.out ((Below.refl _ w3).drew.trans HB4.out) HO4.out hc41).1, .inl ⟨hfit, rfl, (start_fin HLT.out HND.out HM.out H1.out hl1 H2.out HFI.out ha HB.out hn hfit hm hz2 hz3 HL3.out HS3.out HW3.out HK3.out HK3O.out ((Below.refl _ w3).drew.trans HB4.out) HO4.out hc41).2⟩⟩
  · have ht1 : decide ((16 + (nb : Int)) > ((n * 64 : Nat) : Int)) = true := by simp; omega
    have ht2 : decide (((n * 64 : Nat) : Int) < (16 + (nb : Int))) = true := by simp; omega
    have ht3 : decide ((n : Int) * 64 < (16 + (nb : Int))) = true := by simp; omega
    go_wp2
    go_ret
    exact ⟨Kept.of_below HBW.out (fun i hi => HLT.out i (HM.out i hi).1) hw0, .inr ⟨by omega, rfl, HBW.out⟩⟩
end Go.Proofs.YticefepcoemkoaaDoor
