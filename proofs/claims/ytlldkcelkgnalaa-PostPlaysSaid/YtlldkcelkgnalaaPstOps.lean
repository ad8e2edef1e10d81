/-
  A letter is sent, comes, is lost, is there twice. No conditions but the sizes.
-/
import Derived.Test.YtlldkcelkgnalaaPstOut
namespace Go.Proofs.Ytlldkcelkgnalaa
set_option maxRecDepth 20000
open Go.ChangeShapes Go.WideShapes Go.ChangeAt Go.RowKit

theorem out_zero (w : World) (F : Nat → Prop) (g : Nat) (v : Value) (rs : List (Int × Value)) (st : List Ltr) (s : Ltr) (h : PstC w F g v rs st) (hs : st[0]? = some s) :
    Calls Try.prog 12 #[.pointer (some ⟨g, 0, none⟩), .int .i64 0] w (OutPost w F g (Pst.out st 0) s) := out_any w F g 0 v rs st s h hs
/-- What Send leaves. -/
def SendPost (w : World) (F : Nat → Prop) (g : Nat) (st : List Ltr) (e : Ending) (w' : World) : Prop := e = .returned (.tuple #[]) ∧ PostO w F (PstB g st) w' ∧ KeepU w w'
theorem send_none (w : World) (a : Int) (v : Value) : Calls Try.prog 7 #[.pointer none, .int .u8 a, v] w fun e w' => e = .returned (.tuple #[]) ∧ w = w' := by
  go_enter Try.func7, Try.ntmps7
  go_wp2
  exact bodyPost_ret (v := .tuple #[]) (by simp [results, Try.results7]) rfl ⟨rfl, rfl⟩
set_option maxHeartbeats 2000000 in
theorem send_any (w : World) (F : Nat → Prop) (g : Nat) (st : List Ltr) (to : Int) (bv : Value) (l : List Int) (h : PstB g st w F) (hb : Bts w (fun _ => True) bv l) (hlb : l.length ≤ 1000) :
    Calls Try.prog 7 #[.pointer (some ⟨g, 0, none⟩), .int .u8 to, bv] w (SendPost w F g (Pst.send st (to, l))) := by
  obtain ⟨v, rs, h⟩ := h
  by_cases h5 : st.length = 512
  · have e : Pst.send st (to, l) = Pst.out st 0 ++ [(to, l)] := by unfold Pst.send; rw [if_pos h5]
    rw [e]
    obtain ⟨s, hs⟩ : ∃ s, st[0]? = some s := ⟨_, List.getElem?_eq_getElem (by omega)⟩
    obtain ⟨A8, c8, hv8, _, _⟩ := h.row.form
    rw [h5] at hv8
    have hg8 : w.cell? ⟨g, 0, none⟩ = some (.slice A8 512 c8) := by rw [cell_of_row _ _ _ _ _ _ h.blk, hv8]; rfl
    have HC := Lib.hid h
    have HBV := Lib.hid hb
    have HS := Lib.hid hs
    have H5 := Lib.hid h5
    obtain ⟨Ab, cb, hbv, hbl, hbm, _⟩ := hb.rd
    subst hbv
    clear h hb hs h5 hv8 e
    go_enter Try.func7, Try.ntmps7
    go_wp2_with ((with_reducible refine (out_zero _ F _ v rs st s HC.out HS.out).mono ?_); rintro e w1 ⟨u1, rfl, _, ⟨⟨v1, rs1, HP⟩, HT1⟩, HK1⟩)
    have HP := Lib.hid HP
    have HT1 := Lib.hid HT1
    have HK1 := Lib.hid HK1
    have hw1 : w.heap.size ≤ w1.heap.size := HT1.out.size
    have HLT : Hid ((Pst.out st 0).length < 512) := Lib.hid (by rw [Pst.out_len (by rw [H5.out]; omega), H5.out]; omega)
    have HRD : Hid (Rd w1 .u8 w1.heap.size Ab l) := by
      obtain ⟨A9, c9, h9, _, _, h10⟩ := (HBV.out.keep HK1.out fun _ h => h).rd
      injection h9 with h9 _ _
      subst h9
      exact Lib.hid h10
    clear hg8 hbm
    obtain ⟨A0, c0', hv0, hc1, hc2⟩ := HP.out.row.form
    obtain ⟨n, hn⟩ : ∃ n, (Pst.out st 0).length = n := ⟨_, rfl⟩
    have hn512 : n < 512 := by have := HLT.out; omega
    have HN := Lib.hid hn
    rw [hn] at hv0 hc1
    have HG : Hid (w1.heap[g]? = some (.cells #[.slice A0 n c0'] 28 (0, 0))) := Lib.hid (by rw [HP.out.blk, hv0])
    have HRW : Hid (Lrow w1 (.slice A0 n c0') n (lcl rs1)) := Lib.hid (by have := HP.out.row; rw [hn, hv0] at this; exact this)
    have hgl := HP.out.ltg
    have hg0 : w1.cell? ⟨g, 0, none⟩ = some (.slice A0 n c0') := by rw [cell_of_row _ _ _ _ _ _ HG.out]; rfl
    clear hv0 hn
    refine laneT_start [0, 1, 2, 3, 4, 5, 6, 7, 8, 9, 10, 11, 12, 13] 13 rfl (by kernel_rfl) (S := fun w' => w'.cell? ⟨g, 0, none⟩ = some (.slice A0 n c0')) ?_
    have hHeld : w1.drew.cell? ⟨g, 0, none⟩ = some (.slice A0 n c0') := hg0
    iterate 7 (refine laneT_take1 (v := ?_) rfl (by kernel_rfl) (by kernel_rfl) (by rfl) ?_ (by exact hHeld) ?_; rotate_left; (focus (intro w hSw; go_simp; (try (with_reducible rfl)); done)); simp only [Act.put, List.setIfInBounds_toArray, List.set_cons_zero, List.set_cons_succ])
    refine laneT_alone rfl (by kernel_rfl) (by rfl) (fun K hK => ?_)
    go_simp
    refine (clone_len Ab _ cb l.length l w1.drew (HRD.out.kept fun _ _ => rfl) (Nat.le_refl _) rfl (by omega)).mono ?_
    rintro e w2 how
    obtain ⟨A2, m2, c2, rfl, HM2, HO2, HB2, _, hm1, hm2⟩ := how.open_
    have HB2 : Hid (Below w1.heap.size w1 w2) := Lib.hid ⟨HB2.out.os, HB2.out.tape, HB2.out.output, HB2.out.size, HB2.out.block⟩
    have hz2 : w1.heap.size ≤ w2.heap.size := HB2.out.size
    have HG2 : Hid (w2.heap[g]? = some (.cells #[.slice A0 n c0'] 28 (0, 0))) := Lib.hid ((HB2.out.block g hgl).trans HG.out)
    have HRW2 : Hid (Lrow w2 (.slice A0 n c0') n (lcl rs1)) := Lib.hid (HRW.out.kept fun i hi => HB2.out.block i (HRW.out.lt i hi))
    have hd2 : w2.cell? ⟨g, 0, none⟩ = some (.slice A0 n c0') := by rw [cell_of_row _ _ _ _ _ _ HG2.out]; rfl
    refine hK _ _ (fun _ => hd2) ?_
    clear hK K hHeld how
    refine laneT_take1 (v := ?_) rfl (by kernel_rfl) (by kernel_rfl) (by rfl) ?_ (by exact hd2) ?_
    rotate_left
    focus (intro w hSw; go_simp; (try (with_reducible rfl)); done)
    simp only [Act.put, List.setIfInBounds_toArray, List.set_cons_zero, List.set_cons_succ]
    refine laneT_alone rfl (by kernel_rfl) (by rfl) (fun K hK => ?_)
    go_simp
    obtain ⟨w3, hw3⟩ : ∃ w3, w2.alloc (.cells #[.int .u8 to, .slice A2 m2 c2] 31) = w3 := ⟨_, rfl⟩
    have HB3 : Hid (Below w2.heap.size w2 w3) := Lib.hid (by rw [← hw3]; exact (Below.refl _ _).alloc (Nat.le_refl _) _)
    have HN3 : Hid (w3.heap[w2.heap.size]? = some (.cells #[.int .u8 to, .slice A2 m2 c2] 31 (0, 0))) := Lib.hid (by rw [← hw3]; exact alloc_block)
    have hz3 : w3.heap.size = w2.heap.size + 1 := by rw [← hw3]; simp
    have hgl2 : g < w2.heap.size := by omega
    have HG3 : Hid (w3.heap[g]? = some (.cells #[.slice A0 n c0'] 28 (0, 0))) := Lib.hid ((HB3.out.block g hgl2).trans HG2.out)
    have HRW3 : Hid (Lrow w3 (.slice A0 n c0') n (lcl rs1)) := Lib.hid (HRW2.out.kept fun i hi => HB3.out.block i (HRW2.out.lt i hi))
    have hd3 : w3.cell? ⟨g, 0, none⟩ = some (.slice A0 n c0') := by rw [cell_of_row _ _ _ _ _ _ HG3.out]; rfl
    rw [hw3]
    refine hK _ _ (fun _ => hd3) ?_
    clear hK K hw3 hd2
    (try simp only [Act.put, List.setIfInBounds_toArray, List.set_cons_zero, List.set_cons_succ])
    refine laneT_alone rfl (by kernel_rfl) (by rfl) (fun K hK => ?_)
    obtain ⟨it, hit, hz0, hz1, hz9⟩ := info_parts ltr_info
    obtain ⟨v', W4, hrun4, hown4, hgr4, hat4⟩ := Lrow.append (P := Try.prog) (w := w3) (t := 26) (ty := 26) Try.underlying26 hit hz0 hz1 hz9 rfl HRW3.out (a := ⟨w2.heap.size, 0, none⟩) (m := 1) (c := 1) (news := lcl [(to, .slice A2 m2 c2)]) rfl (fun j u hu => by rw [ad_head, cell_of_row _ _ _ _ _ _ HN3.out]; simpa [lcl] using hu) (fun u hu => by simp [lcl] at hu; rcases hu with rfl | rfl <;> rfl) (by omega) (by decide)
    refine wp_of_value (exec_append rfl rfl rfl hrun4) ?_
    have hne3 := HRW3.out.ne HG3.out (by decide)
    have HG4 : Hid (W4.heap[g]? = some (.cells #[.slice A0 n c0'] 28 (0, 0))) := Lib.hid ((hgr4.block g (by omega) fun e => hne3 e.symm).trans HG3.out)
    have HK4 : Hid (KeepU w3 W4) := Lib.hid (KeepU.grown HRW3.out hgr4)
    have HGR := Lib.hid hgr4
    have HO4 := Lib.hid hown4
    have HAT : Hid (∀ j, v'.ownBlock = some j → (Value.slice A0 n c0').ownBlock = some j ∨ (w1.heap.size ≤ j ∧ j < W4.heap.size)) := Lib.hid fun j hj => by
      have hl := hown4.lt j hj
      rcases hat4 with e | e
      · rw [e] at hj; exact .inl hj
      · rw [e] at hj; injection hj with hj
        exact .inr ⟨by omega, hl⟩
    have hz4 : w3.heap.size ≤ W4.heap.size := hgr4.size
    obtain ⟨A', c'', rfl, _, _⟩ := hown4.form
    have d0 : W4.cell? ⟨g, 0, none⟩ = some (.slice A0 n c0') := by rw [cell_of_row _ _ _ _ _ _ HG4.out]; rfl
    refine hK _ _ (fun _ => d0) ?_
    clear hK K hown4 hgr4 hat4 hrun4 hne3 hd3
    simp only [Act.put, List.setIfInBounds_toArray, List.set_cons_zero, List.set_cons_succ]
    refine laneT_alone rfl (by kernel_rfl) (by rfl) (fun K hK => ?_)
    go_simp
    refine hK _ _ (fun _ => d0) ?_
    clear hK K
    refine laneT_alone rfl (by kernel_rfl) (by rfl) (fun K hK => ?_)
    go_simp
    refine hK _ _ (fun _ => d0) ?_
    clear hK K
    refine laneT_alone rfl (by kernel_rfl) (by rfl) (fun K hK => ?_)
    refine wp_of_skip (exec_store_one rfl rfl rfl ltrs_info rfl d0 (by rw [World.frozen?, HG4.out]; rfl)) ?_
    refine hK _ _ (fun hne => absurd rfl hne) ?_
    clear hK K
    refine laneT_end (by kernel_rfl) ?_
    have hset : W4.setCell ⟨g, 0, none⟩ (.slice A' (n + 1) c'') = boxed W4 g #[.slice A' (n + 1) c''] 28 := by
      conv => lhs; rw [boxed_self HG4.out]
      rw [boxed_set]; rfl
    change bodyPost _ _ _ _ _ (W4.setCell ⟨g, 0, none⟩ (.slice A' (n + 1) c''))
    rw [hset]
    clear hset d0
    go_wp2
    go_end0
    have hg4l : g < W4.heap.size := by omega
    have hF9 : ∀ i, (Value.slice A0 n c0').ownBlock = some i → (grow F w w1) i := fun i hi => HP.out.foot.2 i (by
      obtain ⟨A1, c1, e1, _⟩ := HP.out.row.form
      have e2 := HP.out.blk.symm.trans HG.out
      injection e2 with e2
      injection e2 with e2
      simp at e2
      rw [e2]; exact hi)
    have hB23 : Below w1.heap.size w1 w3 := (show Below w1.heap.size w1 w2 from HB2.out).trans (HB3.out.mono hz2)
    have hT4 : Turn (grow F w w1) w1 W4 := (Turn.of_below hB23).trans (F' := (grow F w w1)) (Turn.grown HGR.out hF9) fun i hi => .inl hi
    have hT5 : Turn (grow F w w1) w1 (boxed W4 g #[.slice A' (n + 1) c''] 28) := hT4.trans (F' := (grow F w w1)) ⟨rfl, rfl, rfl, by rw [boxed_size]; exact Nat.le_refl _, fun i _ hi => boxed_block_other fun e => hi (by rw [e]; exact HP.out.foot.1)⟩ fun i hi => .inl hi
    have hK5 : KeepU W4 (boxed W4 g #[.slice A' (n + 1) c''] 28) := KeepU.boxed HG4.out (by decide)
    have hK25 : KeepU w2 (boxed W4 g #[.slice A' (n + 1) c''] 28) := ((KeepU.below HB3.out).trans HK4.out).trans hK5
    have hK05 : KeepU w1 (boxed W4 g #[.slice A' (n + 1) c''] 28) := (show KeepU w1 w2 from KeepU.below HB2.out).trans hK25
    have hn9 := HN.out
    have hPC : PstC (boxed W4 g #[.slice A' (n + 1) c''] 28) (grow (grow F w w1) w1 (boxed W4 g #[.slice A' (n + 1) c''] 28)) g (.slice A' (n + 1) c'') (rs1 ++ [(to, .slice A2 m2 c2)]) ((Pst.out st 0) ++ [(to, l)]) := by
      refine ⟨boxed_at hg4l, ?_, (HP.out.lets.keep hK05 fun i hi => .inl hi).append (Lets.one ?_), ⟨.inl HP.out.foot.1, fun i hi => ?_⟩, fun i hi => ?_, by rw [List.length_append]; simp; omega⟩
      · rw [List.length_append, hn9, lcl_append]
        exact HO4.out.kept fun i hi => boxed_block_other fun e => HO4.out.ne HG4.out (by decide) (by rw [hi, e])
      · have hb2 : Bts w2 (fun i => w1.heap.size ≤ i ∧ i < w2.heap.size) (.slice A2 m2 c2) l := by
          have h9 := HO2.out
          rw [← HM2.out] at h9 ⊢
          exact Bts.own h9 fun i h1 h2 => ⟨h1, h2⟩
        exact hb2.keep hK25 fun i hi => .inr ⟨hi.1, by rw [boxed_size]; omega⟩
      · rcases HAT.out i hi with h' | h'
        · exact .inl (hF9 i h')
        · exact .inr (by rw [boxed_size]; exact h')
      · rw [boxed_size]
        rcases hi with h' | h'
        · have := HP.out.lt i h'; omega
        · rw [boxed_size] at h'; exact h'.2
    refine ⟨rfl, ⟨⟨Value.slice A' (n + 1) c'', rs1 ++ [(to, .slice A2 m2 c2)], ?_⟩, HT1.out.next hT5⟩, HK1.out.trans hK05⟩
    have := hPC
    rw [grow_grow hw1 hT5.size] at this
    exact this
  · have hle := h.len
    have e : Pst.send st (to, l) = st ++ [(to, l)] := by unfold Pst.send; rw [if_neg h5]
    rw [e]
    have HP := Lib.hid h
    have HLT : Hid (st.length < 512) := Lib.hid (by omega)
    obtain ⟨Ab, cb, hbv, hbl, hbm, hrd⟩ := hb.rd
    subst hbv
    have HRD := Lib.hid hrd
    have h5b : ((st.length : Int) == 512) = false := by simp; omega
    clear h hb hrd hle e hbm
    go_enter Try.func7, Try.ntmps7
    obtain ⟨A0, c0', hv0, hc1, hc2⟩ := HP.out.row.form
    obtain ⟨n, hn⟩ : ∃ n, st.length = n := ⟨_, rfl⟩
    have hn512 : n < 512 := by have := HLT.out; omega
    have HN := Lib.hid hn
    rw [hn] at hv0 hc1
    have HG : Hid (w.heap[g]? = some (.cells #[.slice A0 n c0'] 28 (0, 0))) := Lib.hid (by rw [HP.out.blk, hv0])
    have HRW : Hid (Lrow w (.slice A0 n c0') n (lcl rs)) := Lib.hid (by have := HP.out.row; rw [hn, hv0] at this; exact this)
    have hgl := HP.out.ltg
    have hg0 : w.cell? ⟨g, 0, none⟩ = some (.slice A0 n c0') := by rw [cell_of_row _ _ _ _ _ _ HG.out]; rfl
    clear hv0
    rw [hn] at h5b
    clear hn h5
    go_wp2_with fail
    refine laneT_start [0, 1, 2, 3, 4, 5, 6, 7, 8, 9, 10, 11, 12, 13] 13 rfl (by kernel_rfl) (S := fun w' => w'.cell? ⟨g, 0, none⟩ = some (.slice A0 n c0')) ?_
    have hHeld : w.drew.cell? ⟨g, 0, none⟩ = some (.slice A0 n c0') := hg0
    iterate 7 (refine laneT_take1 (v := ?_) rfl (by kernel_rfl) (by kernel_rfl) (by rfl) ?_ (by exact hHeld) ?_; rotate_left; (focus (intro w hSw; go_simp; (try (with_reducible rfl)); done)); simp only [Act.put, List.setIfInBounds_toArray, List.set_cons_zero, List.set_cons_succ])
    refine laneT_alone rfl (by kernel_rfl) (by rfl) (fun K hK => ?_)
    go_simp
    refine (clone_len Ab _ cb l.length l w.drew (HRD.out.kept fun _ _ => rfl) (Nat.le_refl _) rfl (by omega)).mono ?_
    rintro e w2 how
    obtain ⟨A2, m2, c2, rfl, HM2, HO2, HB2, _, hm1, hm2⟩ := how.open_
    have HB2 : Hid (Below w.heap.size w w2) := Lib.hid ⟨HB2.out.os, HB2.out.tape, HB2.out.output, HB2.out.size, HB2.out.block⟩
    have hz2 : w.heap.size ≤ w2.heap.size := HB2.out.size
    have HG2 : Hid (w2.heap[g]? = some (.cells #[.slice A0 n c0'] 28 (0, 0))) := Lib.hid ((HB2.out.block g hgl).trans HG.out)
    have HRW2 : Hid (Lrow w2 (.slice A0 n c0') n (lcl rs)) := Lib.hid (HRW.out.kept fun i hi => HB2.out.block i (HRW.out.lt i hi))
    have hd2 : w2.cell? ⟨g, 0, none⟩ = some (.slice A0 n c0') := by rw [cell_of_row _ _ _ _ _ _ HG2.out]; rfl
    refine hK _ _ (fun _ => hd2) ?_
    clear hK K hHeld how
    refine laneT_take1 (v := ?_) rfl (by kernel_rfl) (by kernel_rfl) (by rfl) ?_ (by exact hd2) ?_
    rotate_left
    focus (intro w hSw; go_simp; (try (with_reducible rfl)); done)
    simp only [Act.put, List.setIfInBounds_toArray, List.set_cons_zero, List.set_cons_succ]
    refine laneT_alone rfl (by kernel_rfl) (by rfl) (fun K hK => ?_)
    go_simp
    obtain ⟨w3, hw3⟩ : ∃ w3, w2.alloc (.cells #[.int .u8 to, .slice A2 m2 c2] 31) = w3 := ⟨_, rfl⟩
    have HB3 : Hid (Below w2.heap.size w2 w3) := Lib.hid (by rw [← hw3]; exact (Below.refl _ _).alloc (Nat.le_refl _) _)
    have HN3 : Hid (w3.heap[w2.heap.size]? = some (.cells #[.int .u8 to, .slice A2 m2 c2] 31 (0, 0))) := Lib.hid (by rw [← hw3]; exact alloc_block)
    have hz3 : w3.heap.size = w2.heap.size + 1 := by rw [← hw3]; simp
    have hgl2 : g < w2.heap.size := by omega
    have HG3 : Hid (w3.heap[g]? = some (.cells #[.slice A0 n c0'] 28 (0, 0))) := Lib.hid ((HB3.out.block g hgl2).trans HG2.out)
    have HRW3 : Hid (Lrow w3 (.slice A0 n c0') n (lcl rs)) := Lib.hid (HRW2.out.kept fun i hi => HB3.out.block i (HRW2.out.lt i hi))
    have hd3 : w3.cell? ⟨g, 0, none⟩ = some (.slice A0 n c0') := by rw [cell_of_row _ _ _ _ _ _ HG3.out]; rfl
    rw [hw3]
    refine hK _ _ (fun _ => hd3) ?_
    clear hK K hw3 hd2
    (try simp only [Act.put, List.setIfInBounds_toArray, List.set_cons_zero, List.set_cons_succ])
    refine laneT_alone rfl (by kernel_rfl) (by rfl) (fun K hK => ?_)
    obtain ⟨it, hit, hz0, hz1, hz9⟩ := info_parts ltr_info
    obtain ⟨v', W4, hrun4, hown4, hgr4, hat4⟩ := Lrow.append (P := Try.prog) (w := w3) (t := 26) (ty := 26) Try.underlying26 hit hz0 hz1 hz9 rfl HRW3.out (a := ⟨w2.heap.size, 0, none⟩) (m := 1) (c := 1) (news := lcl [(to, .slice A2 m2 c2)]) rfl (fun j u hu => by rw [ad_head, cell_of_row _ _ _ _ _ _ HN3.out]; simpa [lcl] using hu) (fun u hu => by simp [lcl] at hu; rcases hu with rfl | rfl <;> rfl) (by omega) (by decide)
    refine wp_of_value (exec_append rfl rfl rfl hrun4) ?_
    have hne3 := HRW3.out.ne HG3.out (by decide)
    have HG4 : Hid (W4.heap[g]? = some (.cells #[.slice A0 n c0'] 28 (0, 0))) := Lib.hid ((hgr4.block g (by omega) fun e => hne3 e.symm).trans HG3.out)
    have HK4 : Hid (KeepU w3 W4) := Lib.hid (KeepU.grown HRW3.out hgr4)
    have HGR := Lib.hid hgr4
    have HO4 := Lib.hid hown4
    have HAT : Hid (∀ j, v'.ownBlock = some j → (Value.slice A0 n c0').ownBlock = some j ∨ (w.heap.size ≤ j ∧ j < W4.heap.size)) := Lib.hid fun j hj => by
      have hl := hown4.lt j hj
      rcases hat4 with e | e
      · rw [e] at hj; exact .inl hj
      · rw [e] at hj; injection hj with hj
        exact .inr ⟨by omega, hl⟩
    have hz4 : w3.heap.size ≤ W4.heap.size := hgr4.size
    obtain ⟨A', c'', rfl, _, _⟩ := hown4.form
    have d0 : W4.cell? ⟨g, 0, none⟩ = some (.slice A0 n c0') := by rw [cell_of_row _ _ _ _ _ _ HG4.out]; rfl
    refine hK _ _ (fun _ => d0) ?_
    clear hK K hown4 hgr4 hat4 hrun4 hne3 hd3
    simp only [Act.put, List.setIfInBounds_toArray, List.set_cons_zero, List.set_cons_succ]
    refine laneT_alone rfl (by kernel_rfl) (by rfl) (fun K hK => ?_)
    go_simp
    refine hK _ _ (fun _ => d0) ?_
    clear hK K
    refine laneT_alone rfl (by kernel_rfl) (by rfl) (fun K hK => ?_)
    go_simp
    refine hK _ _ (fun _ => d0) ?_
    clear hK K
    refine laneT_alone rfl (by kernel_rfl) (by rfl) (fun K hK => ?_)
    refine wp_of_skip (exec_store_one rfl rfl rfl ltrs_info rfl d0 (by rw [World.frozen?, HG4.out]; rfl)) ?_
    refine hK _ _ (fun hne => absurd rfl hne) ?_
    clear hK K
    refine laneT_end (by kernel_rfl) ?_
    have hset : W4.setCell ⟨g, 0, none⟩ (.slice A' (n + 1) c'') = boxed W4 g #[.slice A' (n + 1) c''] 28 := by
      conv => lhs; rw [boxed_self HG4.out]
      rw [boxed_set]; rfl
    change bodyPost _ _ _ _ _ (W4.setCell ⟨g, 0, none⟩ (.slice A' (n + 1) c''))
    rw [hset]
    clear hset d0
    go_wp2
    go_end0
    have hg4l : g < W4.heap.size := by omega
    have hF9 : ∀ i, (Value.slice A0 n c0').ownBlock = some i → F i := fun i hi => HP.out.foot.2 i (by
      obtain ⟨A1, c1, e1, _⟩ := HP.out.row.form
      have e2 := HP.out.blk.symm.trans HG.out
      injection e2 with e2
      injection e2 with e2
      simp at e2
      rw [e2]; exact hi)
    have hB23 : Below w.heap.size w w3 := (show Below w.heap.size w w2 from HB2.out).trans (HB3.out.mono hz2)
    have hT4 : Turn F w W4 := (Turn.of_below hB23).trans (F' := F) (Turn.grown HGR.out hF9) fun i hi => .inl hi
    have hT5 : Turn F w (boxed W4 g #[.slice A' (n + 1) c''] 28) := hT4.trans (F' := F) ⟨rfl, rfl, rfl, by rw [boxed_size]; exact Nat.le_refl _, fun i _ hi => boxed_block_other fun e => hi (by rw [e]; exact HP.out.foot.1)⟩ fun i hi => .inl hi
    have hK5 : KeepU W4 (boxed W4 g #[.slice A' (n + 1) c''] 28) := KeepU.boxed HG4.out (by decide)
    have hK25 : KeepU w2 (boxed W4 g #[.slice A' (n + 1) c''] 28) := ((KeepU.below HB3.out).trans HK4.out).trans hK5
    have hK05 : KeepU w (boxed W4 g #[.slice A' (n + 1) c''] 28) := (show KeepU w w2 from KeepU.below HB2.out).trans hK25
    have hn9 := HN.out
    have hPC : PstC (boxed W4 g #[.slice A' (n + 1) c''] 28) (grow F w (boxed W4 g #[.slice A' (n + 1) c''] 28)) g (.slice A' (n + 1) c'') (rs ++ [(to, .slice A2 m2 c2)]) (st ++ [(to, l)]) := by
      refine ⟨boxed_at hg4l, ?_, (HP.out.lets.keep hK05 fun i hi => .inl hi).append (Lets.one ?_), ⟨.inl HP.out.foot.1, fun i hi => ?_⟩, fun i hi => ?_, by rw [List.length_append]; simp; omega⟩
      · rw [List.length_append, hn9, lcl_append]
        exact HO4.out.kept fun i hi => boxed_block_other fun e => HO4.out.ne HG4.out (by decide) (by rw [hi, e])
      · have hb2 : Bts w2 (fun i => w.heap.size ≤ i ∧ i < w2.heap.size) (.slice A2 m2 c2) l := by
          have h9 := HO2.out
          rw [← HM2.out] at h9 ⊢
          exact Bts.own h9 fun i h1 h2 => ⟨h1, h2⟩
        exact hb2.keep hK25 fun i hi => .inr ⟨hi.1, by rw [boxed_size]; omega⟩
      · rcases HAT.out i hi with h' | h'
        · exact .inl (hF9 i h')
        · exact .inr (by rw [boxed_size]; exact h')
      · rw [boxed_size]
        rcases hi with h' | h'
        · have := HP.out.lt i h'; omega
        · rw [boxed_size] at h'; exact h'.2
    exact ⟨rfl, ⟨⟨_, _, hPC⟩, hT5⟩, hK05⟩
/-- What Take leaves: a letter. -/
def TakePost (w : World) (F : Nat → Prop) (g : Nat) (st : List Ltr) (s : Ltr) (e : Ending) (w' : World) : Prop := ∃ u, e = .returned (.tuple #[.agg #[.int .u8 s.1, u], .int .i64 0]) ∧ Bts w' (grow F w w') u s.2 ∧ PostO w F (PstB g st) w' ∧ KeepU w w'
/-- Nothing is there. -/
def NonePost (w : World) (v : Value) (e : Ending) (w' : World) : Prop := e = .returned v ∧ Below w.heap.size w w'
def noLetter : Value := .tuple #[.agg #[.int .u8 0, .slice none 0 0], .int .i64 2]
theorem take_none (w : World) (i : Int) : Calls Try.prog 10 #[.pointer none, .int .i64 i] w (NonePost w noLetter) := by
  go_enter Try.func10, Try.ntmps10
  go_wp2_with ((with_reducible refine (place_none _ _).mono ?_); rintro e w' ⟨rfl, rfl⟩)
  refine bodyPost_ret (results_row_tmp rfl _ _ w.heap.size 31 #[.int .u8 0, .slice none 0 0] (0, 0) _ rfl (alloc_at rfl) Try.underlying31 rfl ltr_size) rfl ?_
  exact ⟨rfl, (Below.refl _ _).alloc (Nat.le_refl _) _⟩
theorem take_empty (w : World) (g : Nat) (A : Option Addr) (c : Nat) (i : Int) (h : w.cell? ⟨g, 0, none⟩ = some (.slice A 0 c)) : Calls Try.prog 10 #[.pointer (some ⟨g, 0, none⟩), .int .i64 i] w (NonePost w noLetter) := by
  have h1 : (w.alloc (.cells #[.int .u8 0, .slice none 0 0] 31)).cell? ⟨g, 0, none⟩ = some (.slice A 0 c) := (World.cell?_of_block (alloc_block_old (World.block_lt_of_cell? w _ h))).trans h
  go_enter Try.func10, Try.ntmps10
  go_wp2_with ((with_reducible refine (place_empty _ _ _ _ _ h1).mono ?_); rintro e w' ⟨rfl, rfl⟩)
  refine bodyPost_ret (results_row_tmp rfl _ _ w.heap.size 31 #[.int .u8 0, .slice none 0 0] (0, 0) _ rfl (alloc_at rfl) Try.underlying31 rfl ltr_size) rfl ?_
  exact ⟨rfl, (Below.refl _ _).alloc (Nat.le_refl _) _⟩
set_option maxHeartbeats 1000000 in
theorem take_any (w : World) (F : Nat → Prop) (g : Nat) (st : List Ltr) (i : Int) (s : Ltr) (h : PstB g st w F) (h0 : 0 < st.length) (hs : st[Pst.pl st.length i]? = some s) :
    Calls Try.prog 10 #[.pointer (some ⟨g, 0, none⟩), .int .i64 i] w (TakePost w F g (Pst.out st (Pst.pl st.length i)) s) := by
  obtain ⟨v, rs, h⟩ := h
  obtain ⟨A, c, hv, _, _⟩ := h.row.form
  have hlen := h.len
  obtain ⟨k, hk⟩ : ∃ k, Pst.pl st.length i = k := ⟨_, rfl⟩
  obtain ⟨Z, hZ⟩ : ∃ Z, w.alloc (.cells #[.int .u8 0, .slice none 0 0] 31) = Z := ⟨_, rfl⟩
  have HBZ : Hid (Below w.heap.size w Z) := Lib.hid (by rw [← hZ]; exact (Below.refl _ _).alloc (Nat.le_refl _) _)
  have HZ0 : Hid (Z.heap[w.heap.size]? = some (.cells #[.int .u8 0, .slice none 0 0] 31 (0, 0))) := Lib.hid (by rw [← hZ]; exact alloc_block)
  have HPZ : Hid (PstC Z F g v rs st) := Lib.hid (h.kept (fun i hi => HBZ.out.block i (h.lt i hi)) HBZ.out.size)
  have h1 : Z.cell? ⟨g, 0, none⟩ = some (.slice A st.length c) := by rw [cell_of_row _ _ _ _ _ _ HPZ.out.blk, hv]; rfl
  have HC := Lib.hid h
  have HS := Lib.hid hs
  have HK := Lib.hid hk
  have hz : Z.heap.size = w.heap.size + 1 := by rw [← hZ]; simp
  rw [hk] at HS ⊢
  clear h hs hk hv
  go_enter Try.func10, Try.ntmps10
  go_wp2_with fail
  clear hZ
  refine (place_any Z g A st.length c i h1 h0 hlen).mono ?_
  rintro e w' ⟨rfl, rfl⟩
  rw [HK.out]
  go_wp2_with fail
  refine (out_any Z F g k v rs st s HPZ.out HS.out).mono ?_
  rintro e w1 ⟨u1, rfl, hb1, ⟨hp1, ht1⟩, hk1⟩
  have HB1 := Lib.hid hb1
  have HP1 := Lib.hid hp1
  have HT1 := Lib.hid ht1
  have HK1 := Lib.hid hk1
  obtain ⟨A1, c1, hu1, _, _, _⟩ := hb1.rd
  subst hu1
  have hw1 : Z.heap.size ≤ w1.heap.size := ht1.size
  have HW0 : Hid (w1.heap[w.heap.size]? = some (.cells #[.int .u8 0, .slice none 0 0] 31 (0, 0))) := Lib.hid ((ht1.block _ (by omega) fun e => by have := HC.out.lt _ e; omega).trans HZ0.out)
  clear hb1 hp1 ht1 hk1 h1
  go_wp2_with (((with_reducible_and_instances (show wpList _ _ _ (Oper.mk _ (Op.store 31 _ _) _ _ _ _ :: _) _ _)); refine stop3 ?_))
  refine ⟨?_⟩
  refine wl_store (g := w.heap.size) ltr_size rfl rfl rfl rfl HW0.out rfl rfl (by simp [Value.oneCell']) ?_
  go_wp2_with fail
  have hB0 : w.heap.size < w1.heap.size := by omega
  refine bodyPost_ret (results_row_tmp rfl _ _ w.heap.size 31 #[.int .u8 s.1, .slice A1 s.2.length c1] (0, 0) _ rfl (boxed_at hB0) Try.underlying31 rfl ltr_size) rfl ?_
  have hKX : KeepU w1 (boxed w1 w.heap.size #[.int .u8 s.1, .slice A1 s.2.length c1] 31) := KeepU.boxed HW0.out (by decide)
  have hgw : ∀ i, grow F Z w1 i → grow F w (boxed w1 w.heap.size #[.int .u8 s.1, .slice A1 s.2.length c1] 31) i := fun i hi => by
    rcases hi with h' | h'
    · exact .inl h'
    · exact .inr ⟨by omega, by rw [boxed_size]; exact h'.2⟩
  have hT : Turn F w (boxed w1 w.heap.size #[.int .u8 s.1, .slice A1 s.2.length c1] 31) := ((Turn.of_below HBZ.out).trans (F' := F) HT1.out fun i hi => .inl hi).trans (F' := fun i => i = w.heap.size) ⟨rfl, rfl, rfl, by rw [boxed_size]; exact Nat.le_refl _, fun i _ hn => boxed_block_other hn⟩ fun i hi => .inr (by rw [hi]; exact Nat.le_refl _)
  refine ⟨_, rfl, HB1.out.keep hKX hgw, ⟨?_, hT⟩, ((KeepU.below HBZ.out).trans HK1.out).trans hKX⟩
  obtain ⟨v2, rs2, h2⟩ := HP1.out
  have hne : ∀ i, grow F Z w1 i → i ≠ w.heap.size := fun i hi e => by
    rcases hi with h' | h'
    · have := HC.out.lt i h'; omega
    · omega
  refine ⟨v2, rs2, boxed_old (hne _ h2.foot.1) h2.blk, h2.row.kept fun i hi => boxed_block_other (hne _ (h2.foot.2 i hi)), h2.lets.keep hKX hgw, ⟨hgw _ h2.foot.1, fun i hi => hgw i (h2.foot.2 i hi)⟩, fun i hi => ?_, h2.len⟩
  rw [boxed_size]
  rcases hi with h' | h'
  · have := HC.out.lt i h'; omega
  · rw [boxed_size] at h'; exact h'.2
/-! Lose, Double. -/
theorem lose_none (w : World) (i : Int) : Calls Try.prog 9 #[.pointer none, .int .i64 i] w (NonePost w (.int .i64 2)) := by
  go_enter Try.func9, Try.ntmps9
  go_wp2_with ((with_reducible refine (take_none _ _).mono ?_); rintro e w' ⟨rfl, hb⟩; unfold noLetter)
  go_wp2_with fail
  go_ret
  exact ⟨rfl, hb.alloc hb.size _⟩
theorem lose_empty (w : World) (g : Nat) (A : Option Addr) (c : Nat) (i : Int) (h : w.cell? ⟨g, 0, none⟩ = some (.slice A 0 c)) : Calls Try.prog 9 #[.pointer (some ⟨g, 0, none⟩), .int .i64 i] w (NonePost w (.int .i64 2)) := by
  go_enter Try.func9, Try.ntmps9
  go_wp2_with ((with_reducible refine (take_empty _ _ _ _ _ h).mono ?_); rintro e w' ⟨rfl, hb⟩; unfold noLetter)
  go_wp2_with fail
  go_ret
  exact ⟨rfl, hb.alloc hb.size _⟩
def LosePost (w : World) (F : Nat → Prop) (g : Nat) (st : List Ltr) (e : Ending) (w' : World) : Prop := e = .returned (.int .i64 0) ∧ PostO w F (PstB g st) w' ∧ KeepU w w'
theorem PostO.more {w w1 w2 : World} {F : Nat → Prop} {g : Nat} {st : List Ltr} (h : PostO w F (PstB g st) w1) (hb : Below w1.heap.size w1 w2) (hF : ∀ i, F i → i < w.heap.size) : PostO w F (PstB g st) w2 := by
  obtain ⟨⟨v2, rs2, h2⟩, ht⟩ := h
  have hs := ht.size
  have hs2 := hb.size
  have hgw : ∀ i, grow F w w1 i → grow F w w2 i := fun i hi => by
    rcases hi with h' | h'
    · exact .inl h'
    · exact .inr ⟨h'.1, by omega⟩
  refine ⟨⟨v2, rs2, (hb.block _ (h2.lt _ h2.foot.1)).trans h2.blk, h2.row.kept fun i hi => hb.block i (h2.lt i (h2.foot.2 i hi)), h2.lets.keep (KeepU.below hb) hgw, ⟨hgw _ h2.foot.1, fun i hi => hgw i (h2.foot.2 i hi)⟩, fun i hi => ?_, h2.len⟩, ht.trans (F' := F) (Turn.of_below hb) fun i hi => .inl hi⟩
  rcases hi with h' | h'
  · have := hF i h'; omega
  · exact h'.2
theorem lose_any (w : World) (F : Nat → Prop) (g : Nat) (st : List Ltr) (i : Int) (s : Ltr) (h : PstB g st w F) (h0 : 0 < st.length) (hs : st[Pst.pl st.length i]? = some s) :
    Calls Try.prog 9 #[.pointer (some ⟨g, 0, none⟩), .int .i64 i] w (LosePost w F g (Pst.out st (Pst.pl st.length i))) := by
  have hF : ∀ i, F i → i < w.heap.size := fun i hi => by obtain ⟨v, rs, h⟩ := h; exact h.lt i hi
  have HH := Lib.hid h
  have HS := Lib.hid hs
  have HF := Lib.hid hF
  clear h hs hF
  go_enter Try.func9, Try.ntmps9
  go_wp2_with fail
  refine (take_any w F g st i s HH.out h0 HS.out).mono ?_
  rintro e w1 ⟨u1, rfl, hb1, hp1, hk1⟩
  have HP1 := Lib.hid hp1
  have HK1 := Lib.hid hk1
  obtain ⟨A1, c1, hu1, _, _, _⟩ := hb1.rd
  subst hu1
  clear hb1 hp1 hk1
  go_wp2_with (((with_reducible_and_instances (show wpList _ _ _ (Oper.mk _ (Op.store 31 _ _) _ _ _ _ :: _) _ _)); refine stop3 ?_))
  refine ⟨?_⟩
  refine wl_store (g := w1.heap.size) ltr_size rfl rfl rfl rfl (alloc_at rfl) rfl rfl (by simp [Value.oneCell']) ?_
  go_wp2_with fail
  go_ret
  have hB : Below w1.heap.size w1 (boxed (w1.alloc (.cells #[.int .u8 0, .slice none 0 0] 31)) w1.heap.size #[.int .u8 s.1, .slice A1 s.2.length c1] 31) := boxed_below ((Below.refl _ _).alloc (Nat.le_refl _) _) (Nat.le_refl _)
  exact ⟨rfl, HP1.out.more hB HF.out, HK1.out.trans (KeepU.below hB)⟩
theorem double_none (w : World) (i : Int) : Calls Try.prog 8 #[.pointer none, .int .i64 i] w (NonePost w (.int .i64 2)) := by
  go_enter Try.func8, Try.ntmps8
  go_wp2_with ((with_reducible refine (place_none _ _).mono ?_); rintro e w' ⟨rfl, rfl⟩)
  go_ret
  exact ⟨rfl, Below.refl _ _⟩
theorem double_empty (w : World) (g : Nat) (A : Option Addr) (c : Nat) (i : Int) (h : w.cell? ⟨g, 0, none⟩ = some (.slice A 0 c)) : Calls Try.prog 8 #[.pointer (some ⟨g, 0, none⟩), .int .i64 i] w (NonePost w (.int .i64 2)) := by
  go_enter Try.func8, Try.ntmps8
  go_wp2_with ((with_reducible refine (place_empty _ _ _ _ _ h).mono ?_); rintro e w' ⟨rfl, rfl⟩)
  go_ret
  exact ⟨rfl, Below.refl _ _⟩
set_option maxHeartbeats 1000000 in
theorem double_any (w : World) (F : Nat → Prop) (g : Nat) (st : List Ltr) (i : Int) (s : Ltr) (h : PstB g st w F) (h0 : 0 < st.length) (hs : st[Pst.pl st.length i]? = some s) (hl : s.2.length ≤ 1000) :
    Calls Try.prog 8 #[.pointer (some ⟨g, 0, none⟩), .int .i64 i] w (LosePost w F g (Pst.send st s)) := by
  obtain ⟨v, rs, h⟩ := h
  obtain ⟨A, c, hv, hcl, _⟩ := h.row.form
  have hlen := h.len
  obtain ⟨k, hk⟩ : ∃ k, Pst.pl st.length i = k := ⟨_, rfl⟩
  have hkl : k < st.length := by rw [← hk]; exact Pst.pl_lt _ _ h0
  have h1 : w.cell? ⟨g, 0, none⟩ = some (.slice A st.length c) := by rw [cell_of_row _ _ _ _ _ _ h.blk, hv]; rfl
  rw [hk] at hs
  obtain ⟨u, hu, hbu⟩ := h.lets.at_ hs
  have hu2 := lcl_at hu
  obtain ⟨b, cap, cur, hv2, hb, _, _, _, _⟩ := h.row.some_ h0
  have hA : A = some ⟨b, 0, none⟩ := by rw [hv] at hv2; injection hv2
  subst hA
  obtain ⟨Au, cu, hue, _, hcu9, _⟩ := hbu.rd
  dsimp only at hu2
  subst hue
  have hr : w.rangeAt b (k * 2) [.int .u8 s.1, .slice Au s.2.length cu] := fun j q hq => by
    match j, hq with
    | 0, hq => simp at hq; subst hq; exact h.row.cell (by rw [hv]) _ _ hu2.1
    | 1, hq => simp at hq; subst hq; exact h.row.cell (by rw [hv]) _ _ hu2.2
  have HR := Lib.hid hr
  have HC := Lib.hid h
  have HB := Lib.hid hbu
  have HK := Lib.hid hk
  have hkJ : (k : Int) < (st.length : Int) := by omega
  have hk0 : (0 : Int) ≤ (k : Int) := by omega
  clear h hs hk hv hv2 hb hu hu2 hr hbu
  go_enter Try.func8, Try.ntmps8
  go_wp2_with fail
  refine (place_any w g _ st.length c i h1 h0 hlen).mono ?_
  rintro e w' ⟨rfl, rfl⟩
  rw [HK.out]
  go_wp2_with (((with_reducible_and_instances (show wpList _ _ _ (Oper.mk _ (Op.load 31 _) _ _ _ _ :: _) _ _)); refine stop3 ?_))
  refine ⟨?_⟩
  refine wpList_load_mid rfl _ _ rfl b (k * 2) rfl [.int .u8 s.1, .slice Au s.2.length cu] _ HR.out Try.underlying31 rfl ltr_size ?_
  go_wp2_with fail
  obtain ⟨Z, hZ⟩ : ∃ Z, w.alloc (.cells #[.int .u8 s.1, .slice Au s.2.length cu] 31) = Z := ⟨_, rfl⟩
  have hBZ : Below w.heap.size w Z := by rw [← hZ]; exact (Below.refl _ _).alloc (Nat.le_refl _) _
  have HBZ := Lib.hid hBZ
  have hPZ : PstB g st Z F := ⟨v, rs, HC.out.kept (fun i hi => hBZ.block i (HC.out.lt i hi)) hBZ.size⟩
  rw [hZ]
  refine (send_any Z F g st s.1 _ s.2 hPZ (HB.out.keep (KeepU.below hBZ) fun _ _ => trivial) hl).mono ?_
  rintro e w1 ⟨rfl, hp1, hk1⟩
  have HP1 := Lib.hid hp1
  have HK1 := Lib.hid hk1
  clear hp1 hk1 hPZ hBZ hZ h1
  go_wp2_with fail
  go_ret
  have hw := HBZ.out.size
  obtain ⟨⟨v2, rs2, h2⟩, ht⟩ := HP1.out
  have hgw : ∀ i, grow F Z w1 i → grow F w w1 i := fun i hi => by
    rcases hi with h' | h'
    · exact .inl h'
    · exact .inr ⟨by omega, h'.2⟩
  refine ⟨rfl, ⟨⟨v2, rs2, h2.blk, h2.row, h2.lets.keep (KeepU.refl _) hgw, ⟨hgw _ h2.foot.1, fun i hi => hgw i (h2.foot.2 i hi)⟩, fun i hi => ?_, h2.len⟩, (Turn.of_below HBZ.out).trans (F' := F) ht fun i hi => .inl hi⟩, (KeepU.below HBZ.out).trans HK1.out⟩
  rcases hi with h' | h'
  · have := HC.out.lt i h'; have := ht.size; omega
  · exact h'.2
end Go.Proofs.Ytlldkcelkgnalaa
