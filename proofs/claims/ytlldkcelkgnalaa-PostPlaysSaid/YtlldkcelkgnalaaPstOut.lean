/-
  A letter is taken out of a post. No conditions but the sizes.
-/
import Derived.Test.YtlldkcelkgnalaaPst
namespace Go.Proofs.Ytlldkcelkgnalaa
set_option maxRecDepth 20000
open Go.ChangeShapes Go.WideShapes Go.ChangeAt Go.RowKit

theorem ltr_info : (Try.prog.info? 31).map (fun i => (i.zero, i.size, i.bytes)) = some (some (.agg #[.int .u8 0, .slice none 0 0]), 2, 32) := by kernel_rfl
theorem ltr_size : (Try.prog.info? 31).map (·.size) = some 2 := by kernel_rfl
theorem ltrs_info : (Try.prog.info? 26).map (·.size) = some 1 := by kernel_rfl
theorem set_two {w : World} {b o : Nat} {cs : Array Value} {x y : Value} : (boxed w b cs 31).setCells b o [x, y] = boxed w b ((cs.setIfInBounds o x).setIfInBounds (o + 1) y) 31 := by
  show ((boxed w b cs 31).setCell ⟨b, o, none⟩ x).setCell ⟨b, o + 1, none⟩ y = _
  rw [boxed_set, boxed_set]
/-- What a letter that is taken out leaves. -/
def OutPost (w : World) (F : Nat → Prop) (g : Nat) (st : List Ltr) (s : Ltr) (e : Ending) (w' : World) : Prop := ∃ u, e = .returned (.agg #[.int .u8 s.1, u]) ∧ Bts w' (grow F w w') u s.2 ∧ PostO w F (PstB g st) w' ∧ KeepU w w'

set_option maxHeartbeats 2000000 in
theorem out_any (w : World) (F : Nat → Prop) (g k : Nat) (v : Value) (rs : List (Int × Value)) (st : List Ltr) (s : Ltr) (h : PstC w F g v rs st) (hs : st[k]? = some s) :
    Calls Try.prog 12 #[.pointer (some ⟨g, 0, none⟩), .int .i64 k] w (OutPost w F g (Pst.out st k) s) := by
  obtain ⟨s1, s2⟩ := s
  have hk : k < st.length := (List.getElem?_eq_some_iff.1 hs).1
  obtain ⟨u, hu, hbu⟩ := h.lets.at_ hs
  obtain ⟨b, cap, cur, hv, hb, hnc, hcm, hcs, hcur⟩ := h.row.some_ (by omega)
  obtain ⟨n, hn⟩ : ∃ n, st.length = n := ⟨_, rfl⟩
  have hlen := h.len
  have hu2 := lcl_at hu
  dsimp only at hu2
  rw [← hcur] at hu2
  obtain ⟨hu3, hu4⟩ := hu2
  rw [List.getElem?_take, if_pos (by omega), Array.getElem?_toList] at hu3 hu4
  have hr : w.rangeAt b (k * 2) [.int .u8 s1, u] := fun j q hq => by
    rw [cell_of_row _ _ _ _ _ _ hb]
    match j, hq with
    | 0, hq => simp at hq; subst hq; exact hu3
    | 1, hq => simp at hq; subst hq; exact hu4
  have HR := Lib.hid hr
  have hgl := h.ltg
  have hbl : b < w.heap.size := (Array.getElem?_eq_some_iff.1 hb).1
  have hgb : g ≠ b := fun e => by have := h.blk; rw [e, hb] at this; injection this with this; injection this with _ this; exact absurd this (by decide)
  have hc0 : w.cell? ⟨g, 0, none⟩ = some (.slice (some ⟨b, 0, none⟩) n cap) := by rw [cell_of_row _ _ _ _ _ _ h.blk, hv, hn]; rfl
  obtain ⟨Au, cu, hue, _, hcu9, _⟩ := hbu.rd
  dsimp only at hu hbu hue hcu9
  subst hue
  have HC := Lib.hid h
  have HG : Hid (w.heap[g]? = some (.cells #[.slice (some ⟨b, 0, none⟩) n cap] 28 (0, 0))) := Lib.hid (by rw [h.blk, hv, hn])
  have HB := Lib.hid hb
  have HBU := Lib.hid hbu
  have HU := Lib.hid hu
  have HCUR := Lib.hid hcur
  rw [hn] at hk hlen hnc
  have HN := Lib.hid hn
  have HF : Hid (F g ∧ F b) := Lib.hid ⟨h.foot.1, h.foot.2 b (by rw [hv]; rfl)⟩
  unfold maxLen at hcm
  have hkJ : (k : Int) < (n : Int) := by omega
  have hk0 : (0 : Int) ≤ (k : Int) := by omega
  clear h hb hr hbu hu hn hs hu3 hu4 hcur hv
  go_enter Try.func12, Try.ntmps12
  go_wp2_with (((with_reducible_and_instances (show wpList _ _ _ (Oper.mk _ (Op.load 31 _) _ _ _ _ :: _) _ _)); refine stop3 ?_))
  refine ⟨?_⟩
  refine wpList_load_mid rfl _ _ rfl b (k * 2) rfl [.int .u8 s1, .slice Au s2.length cu] _ (fun j q hq => (World.cell?_of_block (a := ⟨b, k * 2 + j, none⟩) (alloc_block_old hbl)).trans (HR.out j q hq)) Try.underlying31 rfl ltr_size ?_
  go_wp2_with (((with_reducible_and_instances (show wpList _ _ _ (Oper.mk _ (Op.store 31 (Operand.tmp 19) _) _ _ _ _ :: _) _ _)); refine stop3 ?_))
  refine ⟨?_⟩
  obtain ⟨X, hX⟩ : ∃ X, (w.alloc (.cells #[.int .u8 0, .slice none 0 0] 31)).alloc (.cells #[.int .u8 s1, .slice Au s2.length cu] 31) = X := ⟨_, rfl⟩
  have HX0 : Hid (X.heap[w.heap.size]? = some (.cells #[.int .u8 0, .slice none 0 0] 31 (0, 0))) := by rw [← hX, alloc_block_old (by simp)]; exact alloc_block
  have HX1 : Hid (X.heap[w.heap.size + 1]? = some (.cells #[.int .u8 s1, .slice Au s2.length cu] 31 (0, 0))) := by rw [← hX, ← World.size_alloc w (.cells #[.int .u8 0, .slice none 0 0] 31)]; exact alloc_block
  have HXB : Hid (Below w.heap.size w X) := by rw [← hX]; exact ((Below.refl _ _).alloc (Nat.le_refl _) _).alloc (by simp) _
  have HXb : Hid (X.heap[b]? = some (.cells cur 31 (0, 0))) := (HXB.out.block b hbl).trans HB.out
  have HXg : Hid (X.heap[g]? = some (.cells #[.slice (some ⟨b, 0, none⟩) n cap] 28 (0, 0))) := (HXB.out.block g hgl).trans HG.out
  have hXs : X.heap.size = w.heap.size + 2 := by rw [← hX]; simp
  rw [hX]
  clear hX hc0
  have hth : X.there b (k * 2) 2 := fun j hj => by
    have hjc : k * 2 + j < cur.size := by omega
    refine ⟨?_, by rw [World.frozen?, HXb.out]; simp⟩
    rw [cell_of_row _ _ _ _ _ _ HXb.out, Array.getElem?_eq_getElem hjc]; rfl
  refine wpList_store_mid rfl 31 _ _ rfl b (k * 2) #[.int .u8 0, .slice none 0 0] rfl rfl hth ltr_size (by simp [Value.oneCell']) ?_
  obtain ⟨Y, hY⟩ : ∃ Y, X.setCells b (k * 2) [.int .u8 0, .slice none 0 0] = Y := ⟨_, rfl⟩
  obtain ⟨cur2, hcur2⟩ : ∃ cur2, (cur.setIfInBounds (k * 2) (.int .u8 0)).setIfInBounds (k * 2 + 1) (.slice none 0 0) = cur2 := ⟨_, rfl⟩
  have hYX : boxed X b cur2 31 = Y := by
    rw [← hY, ← hcur2]
    conv => rhs; rw [boxed_self HXb.out]
    exact set_two.symm
  have hbX : b < X.heap.size := by omega
  have HY0 : Hid (Y.heap[w.heap.size]? = some (.cells #[.int .u8 0, .slice none 0 0] 31 (0, 0))) := Lib.hid (by rw [← hYX, boxed_block_other (by omega)]; exact HX0.out)
  have HY1 : Hid (Y.heap[w.heap.size + 1]? = some (.cells #[.int .u8 s1, .slice Au s2.length cu] 31 (0, 0))) := Lib.hid (by rw [← hYX, boxed_block_other (by omega)]; exact HX1.out)
  have HYg : Hid (Y.heap[g]? = some (.cells #[.slice (some ⟨b, 0, none⟩) n cap] 28 (0, 0))) := Lib.hid (by rw [← hYX, boxed_block_other hgb]; exact HXg.out)
  have HYb : Hid (Y.heap[b]? = some (.cells cur2 31 (0, 0))) := Lib.hid (by rw [← hYX]; exact boxed_at hbX)
  have hYs : Y.heap.size = w.heap.size + 2 := by rw [← hYX, boxed_size, hXs]
  have HYT : Hid (Turn F w Y) := Lib.hid ((Turn.of_below HXB.out).trans (F' := F) (by rw [← hYX]; exact ⟨rfl, rfl, rfl, by rw [boxed_size]; exact Nat.le_refl _, fun i _ hi => boxed_block_other fun e => hi (by rw [e]; exact HF.out.2)⟩) fun i hi => .inl hi)
  have HYK : Hid (KeepU w Y) := Lib.hid (by rw [← hYX]; exact (KeepU.below HXB.out).trans (KeepU.boxed HXb.out (by decide)))
  have hc2 : cur2.size = cur.size := by rw [← hcur2]; simp
  have HC2 : Hid (∀ j, j ≠ k * 2 → j ≠ k * 2 + 1 → cur2[j]? = cur[j]?) := fun j h1 h2 => by rw [← hcur2, Array.getElem?_setIfInBounds_ne (Ne.symm h2), Array.getElem?_setIfInBounds_ne (Ne.symm h1)]
  change wpList _ _ _ _ _ (X.setCells b (k * 2) [.int .u8 0, .slice none 0 0])
  rw [hY]
  clear hY hYX hcur2 hbX hth HX0 HX1 HXB HXb HXg hXs X
  go_wp2_with fail
  have HL1 : Hid (Lrow Y (.slice (some ⟨b, 0, none⟩) k k) k (lcl (rs.take k))) := Lib.hid ⟨by rw [lcl_len, List.length_take, HC.out.lets.1, HN.out, Nat.min_eq_left (by omega)], .inr ⟨b, k, cur2, rfl, HYb.out, Nat.le_refl _, by unfold maxLen; omega, by omega, by
    rw [lcl_take, ← HCUR.out, HN.out, List.take_take, Nat.min_eq_left (by omega)]
    apply List.ext_getElem?
    intro j
    rw [List.getElem?_take, List.getElem?_take]
    split
    · rw [Array.getElem?_toList, Array.getElem?_toList, HC2.out j (by omega) (by omega)]
    · rfl⟩⟩
  have HNW : Hid (∀ j u, (lcl (rs.drop (k + 1)))[j]? = some u → Y.cell? ⟨b, (k + 1) * 2 + j, none⟩ = some u) := Lib.hid fun j u hu => by
    rw [lcl_drop, List.getElem?_drop, ← HCUR.out, List.getElem?_take] at hu
    split at hu
    · rw [Array.getElem?_toList, ← HC2.out _ (by omega) (by omega)] at hu
      rw [cell_of_row _ _ _ _ _ _ HYb.out]; exact hu
    · cases hu
  have HLL : Hid ((lcl (rs.drop (k + 1))).length = (n - (k + 1)) * 2) := Lib.hid (by rw [lcl_len, List.length_drop, HC.out.lets.1, HN.out])
  have HLN : Hid (∀ u ∈ lcl (rs.drop (k + 1)), u.oneCell' = true) := Lib.hid ((HC.out.lets.drop (k + 1)).one_cell)
  have hk1 : IntKind.i64.wrap ((k : Int) + 1) = (k : Int) + 1 := IntWalk.i64_in _ (by omega)
  have hk2 : (0 : Int) ≤ (k : Int) + 1 := by omega
  have hk3 : ((k : Int) + 1).toNat = k + 1 := by omega
  have hk4 : (k : Int) + 1 ≤ (n : Int) := by omega
  have hk5 : (k : Int) ≤ (cap : Int) := by omega
  have hk6 : (n : Int) ≤ (cap : Int) := by omega
  refine laneT_start [0, 1, 2, 3, 4, 5, 6, 7, 8, 9, 10, 11, 12, 13, 14, 15, 16, 17, 18] 18 rfl (by kernel_rfl) (S := fun w' => w'.cell? ⟨g, 0, none⟩ = some (.slice (some ⟨b, 0, none⟩) n cap)) ?_
  have hHeld : Y.drew.cell? ⟨g, 0, none⟩ = some (.slice (some ⟨b, 0, none⟩) n cap) := by show Y.cell? _ = _; rw [cell_of_row _ _ _ _ _ _ HYg.out]; rfl
  by_cases hcap : cap = k + 1
  · obtain rfl : n = k + 1 := by omega
    subst hcap
    have hk7 : (k : Int) ≤ (k : Int) + 1 := by omega
    iterate 15 (refine laneT_take1 (v := ?_) rfl (by kernel_rfl) (by kernel_rfl) (by rfl) ?_ (by exact hHeld) ?_; rotate_left; (focus (intro w hSw; go_simp; (try (with_reducible rfl)); done)); simp only [Act.put, List.setIfInBounds_toArray, List.set_cons_zero, List.set_cons_succ])
    clear hk1 hk2 hk3 hk4 hk5 hk6 hk7
    refine laneT_alone rfl (by kernel_rfl) (by rfl) (fun K hK => ?_)
    obtain ⟨it, hit, hz0, hz1, hz2⟩ := info_parts ltr_info
    obtain ⟨v', W4, hrun4, hown4, hgr4, hat4⟩ := Lrow.append (P := Try.prog) (w := Y.drew) (t := 26) (ty := 26) Try.underlying26 hit hz0 hz1 hz2 rfl (HL1.out.kept fun _ _ => rfl) (a := ⟨b, 0, none⟩) (m := 0) (c := 0) (news := lcl (rs.drop (k + 1))) (by rw [HLL.out]; omega) (fun j u hu => absurd hu (by rw [show lcl (rs.drop (k + 1)) = [] from List.eq_nil_of_length_eq_zero (by have := HLL.out; omega)]; simp)) HLN.out (by omega) (by decide)
    refine wp_of_value (exec_append rfl rfl rfl hrun4) ?_
    have hgr4b : ∀ i, i < Y.heap.size → i ≠ b → W4.heap[i]? = Y.heap[i]? := fun i hi hn => hgr4.block i hi fun e => hn (by injection e)
    have HG4 : Hid (W4.heap[g]? = some (.cells #[.slice (some ⟨b, 0, none⟩) (k + 1) (k + 1)] 28 (0, 0))) := Lib.hid ((hgr4b g (by omega) hgb).trans HYg.out)
    have H40 : Hid (W4.heap[w.heap.size]? = some (.cells #[.int .u8 0, .slice none 0 0] 31 (0, 0))) := Lib.hid ((hgr4b _ (by omega) (by omega)).trans HY0.out)
    have H41 : Hid (W4.heap[w.heap.size + 1]? = some (.cells #[.int .u8 s1, .slice Au s2.length cu] 31 (0, 0))) := Lib.hid ((hgr4b _ (by omega) (by omega)).trans HY1.out)
    have HT4 : Hid (Turn F w W4) := Lib.hid ((HYT.out.drewN 1).trans (F' := F) (Turn.grown hgr4 fun j hj => by injection hj with hj; rw [← hj]; exact HF.out.2) fun _ h => .inl h)
    have HK4 : Hid (KeepU w W4) := Lib.hid (HYK.out.drew.trans (KeepU.grown (HL1.out.kept fun _ _ => rfl) hgr4))
    have HO4 := Lib.hid hown4
    have HAT : Hid (∀ j, v'.ownBlock = some j → F j ∨ (w.heap.size + 2 ≤ j ∧ j < W4.heap.size)) := Lib.hid fun j hj => by
      have hl := hown4.lt j hj
      rcases hat4 with e | e
      · rw [e] at hj; injection hj with hj; rw [← hj]; exact .inl HF.out.2
      · rw [e] at hj; injection hj with hj
        exact .inr ⟨by rw [← hj]; show w.heap.size + 2 ≤ Y.heap.size; omega, hl⟩
    have hY4 : Y.heap.size ≤ W4.heap.size := hgr4.size
    obtain ⟨A', c'', rfl, _, _⟩ := hown4.form
    have c0 : W4.cell? ⟨g, 0, none⟩ = some (.slice (some ⟨b, 0, none⟩) (k + 1) (k + 1)) := by rw [cell_of_row _ _ _ _ _ _ HG4.out]; rfl
    refine hK _ _ (fun _ => c0) ?_
    clear hK K hown4 hgr4 hat4 hrun4 hHeld hgr4b
    simp only [Act.put, List.setIfInBounds_toArray, List.set_cons_zero, List.set_cons_succ]
    refine laneT_alone rfl (by kernel_rfl) (by rfl) (fun K hK => ?_)
    go_simp
    refine hK _ _ (fun _ => c0) ?_
    clear hK K
    refine laneT_alone rfl (by kernel_rfl) (by rfl) (fun K hK => ?_)
    go_simp
    refine hK _ _ (fun _ => c0) ?_
    clear hK K
    refine laneT_alone rfl (by kernel_rfl) (by rfl) (fun K hK => ?_)
    refine wp_of_skip (exec_store_one rfl rfl rfl ltrs_info rfl c0 (by rw [World.frozen?, HG4.out]; rfl)) ?_
    refine hK _ _ (fun hne => absurd rfl hne) ?_
    clear hK K
    refine laneT_end (by kernel_rfl) ?_
    have hset : W4.setCell ⟨g, 0, none⟩ (.slice A' (k + 0) c'') = boxed W4 g #[.slice A' (k + 0) c''] 28 := by
      conv => lhs; rw [boxed_self HG4.out]
      rw [boxed_set]; rfl
    change Exit.then _ _ Exit.normal _ (W4.setCell ⟨g, 0, none⟩ (.slice A' (k + 0) c''))
    rw [hset]
    clear hset c0
    obtain ⟨U, hU⟩ : ∃ U, boxed W4 g #[.slice A' (k + 0) c''] 28 = U := ⟨_, rfl⟩
    have hg4l : g < W4.heap.size := by omega
    have HU0 : Hid (U.heap[w.heap.size]? = some (.cells #[.int .u8 0, .slice none 0 0] 31 (0, 0))) := Lib.hid (by rw [← hU]; exact boxed_old (by omega) H40.out)
    have HU1 : Hid (U.heap[w.heap.size + 1]? = some (.cells #[.int .u8 s1, .slice Au s2.length cu] 31 (0, 0))) := Lib.hid (by rw [← hU]; exact boxed_old (by omega) H41.out)
    have HUg : Hid (U.heap[g]? = some (.cells #[.slice A' (k + 0) c''] 28 (0, 0))) := Lib.hid (by rw [← hU]; exact boxed_at hg4l)
    have HUT : Hid (Turn F w U) := Lib.hid (HT4.out.trans (F' := F) (by rw [← hU]; exact ⟨rfl, rfl, rfl, by rw [boxed_size]; exact Nat.le_refl _, fun i _ hi => boxed_block_other fun e => hi (by rw [e]; exact HF.out.1)⟩) fun i hi => .inl hi)
    have HUK : Hid (KeepU w U) := Lib.hid (by rw [← hU]; exact HK4.out.trans (KeepU.boxed HG4.out (by decide)))
    have HUO : Hid (Lrow U (.slice A' (k + 0) c'') (k + 0) (lcl (rs.take k) ++ lcl (rs.drop (k + 1)))) := Lib.hid (by rw [← hU]; exact HO4.out.kept fun i hi => boxed_block_other fun e => HO4.out.ne HG4.out (by decide) (by rw [hi, e]))
    have hU4 : U.heap.size = W4.heap.size := by rw [← hU, boxed_size]
    rw [hU]
    clear hU HO4 HT4 HK4 H40 H41 HG4
    go_wp2_with (((with_reducible_and_instances (show wpList _ _ _ (Oper.mk _ (Op.load 31 _) _ _ _ _ :: _) _ _)); refine stop3 ?_))
    refine ⟨?_⟩
    refine wl_load (g := w.heap.size + 1) Try.underlying31 rfl ltr_size rfl rfl rfl HU1.out rfl ?_
    go_wp2_with (((with_reducible_and_instances (show wpList _ _ _ (Oper.mk _ (Op.store 31 _ _) _ _ _ _ :: _) _ _)); refine stop3 ?_))
    refine ⟨?_⟩
    refine wl_store (g := w.heap.size) ltr_size rfl rfl rfl rfl HU0.out rfl rfl (by simp [Value.oneCell']) ?_
    go_wp2_with fail
    have hB0 : w.heap.size < U.heap.size := by omega
    refine bodyPost_ret (results_cell_row rfl _ _ w.heap.size 31 _ (0, 0) _ rfl (boxed_at hB0) Try.underlying31 rfl ltr_size) rfl ?_
    have hBX : Below w.heap.size U (boxed U w.heap.size #[.int .u8 s1, .slice Au s2.length cu] 31) := boxed_below (Below.refl _ _) (Nat.le_refl _)
    have hKX : KeepU w (boxed U w.heap.size #[.int .u8 s1, .slice Au s2.length cu] 31) := HUK.out.trans (KeepU.boxed HU0.out (by decide))
    have hTX : Turn F w (boxed U w.heap.size #[.int .u8 s1, .slice Au s2.length cu] 31) := ⟨HUT.out.os, HUT.out.tape, HUT.out.output, by rw [boxed_size]; exact HUT.out.size, fun i hi hn => (boxed_block_other (by omega)).trans (HUT.out.block i hi hn)⟩
    refine ⟨_, rfl, HBU.out.keep hKX fun i hi => .inl hi, ⟨⟨Value.slice A' (k + 0) c'', rs.take k ++ rs.drop (k + 1), ?_⟩, hTX⟩, hKX⟩
    have hn9 := HN.out
    have hol : (Pst.out st k).length = k + 0 := by rw [Pst.out_len (by omega)]; omega
    refine ⟨boxed_old (by omega) HUg.out, ?_, ((HC.out.lets.take k).append (HC.out.lets.drop (k + 1))).keep hKX fun i hi => .inl hi, ⟨.inl HF.out.1, fun i hi => ?_⟩, fun i hi => ?_, by omega⟩
    · rw [hol, lcl_append]
      refine HUO.out.kept fun i hi => boxed_block_other fun e => ?_
      subst e
      rcases HAT.out _ hi with h' | h'
      · have := HC.out.lt _ h'; omega
      · omega
    · rcases HAT.out i hi with h' | h'
      · exact .inl h'
      · exact .inr (by rw [boxed_size, hU4]; omega)
    · rw [boxed_size]
      rcases hi with h' | h'
      · have := HC.out.lt i h'; omega
      · rw [boxed_size] at h'; exact h'.2
  · skip
    iterate 15 (refine laneT_take1 (v := ?_) rfl (by kernel_rfl) (by kernel_rfl) (by rfl) ?_ (by exact hHeld) ?_; rotate_left; (focus (intro w hSw; go_simp; (try (with_reducible rfl)); done)); simp only [Act.put, List.setIfInBounds_toArray, List.set_cons_zero, List.set_cons_succ])
    clear hk1 hk2 hk3 hk4 hk5 hk6
    refine laneT_alone rfl (by kernel_rfl) (by rfl) (fun K hK => ?_)
    obtain ⟨it, hit, hz0, hz1, hz2⟩ := info_parts ltr_info
    obtain ⟨v', W4, hrun4, hown4, hgr4, hat4⟩ := Lrow.append (P := Try.prog) (w := Y.drew) (t := 26) (ty := 26) Try.underlying26 hit hz0 hz1 hz2 rfl (HL1.out.kept fun _ _ => rfl) (a := ⟨b, (k + 1) * 2, none⟩) (m := (n - (k + 1))) (c := (cap - (k + 1))) (news := lcl (rs.drop (k + 1))) (HLL.out) (fun j u hu => by rw [Addr.add_mid]; exact HNW.out j u hu) HLN.out (by omega) (by decide)
    refine wp_of_value (exec_append rfl rfl rfl hrun4) ?_
    have hgr4b : ∀ i, i < Y.heap.size → i ≠ b → W4.heap[i]? = Y.heap[i]? := fun i hi hn => hgr4.block i hi fun e => hn (by injection e)
    have HG4 : Hid (W4.heap[g]? = some (.cells #[.slice (some ⟨b, 0, none⟩) n cap] 28 (0, 0))) := Lib.hid ((hgr4b g (by omega) hgb).trans HYg.out)
    have H40 : Hid (W4.heap[w.heap.size]? = some (.cells #[.int .u8 0, .slice none 0 0] 31 (0, 0))) := Lib.hid ((hgr4b _ (by omega) (by omega)).trans HY0.out)
    have H41 : Hid (W4.heap[w.heap.size + 1]? = some (.cells #[.int .u8 s1, .slice Au s2.length cu] 31 (0, 0))) := Lib.hid ((hgr4b _ (by omega) (by omega)).trans HY1.out)
    have HT4 : Hid (Turn F w W4) := Lib.hid ((HYT.out.drewN 1).trans (F' := F) (Turn.grown hgr4 fun j hj => by injection hj with hj; rw [← hj]; exact HF.out.2) fun _ h => .inl h)
    have HK4 : Hid (KeepU w W4) := Lib.hid (HYK.out.drew.trans (KeepU.grown (HL1.out.kept fun _ _ => rfl) hgr4))
    have HO4 := Lib.hid hown4
    have HAT : Hid (∀ j, v'.ownBlock = some j → F j ∨ (w.heap.size + 2 ≤ j ∧ j < W4.heap.size)) := Lib.hid fun j hj => by
      have hl := hown4.lt j hj
      rcases hat4 with e | e
      · rw [e] at hj; injection hj with hj; rw [← hj]; exact .inl HF.out.2
      · rw [e] at hj; injection hj with hj
        exact .inr ⟨by rw [← hj]; show w.heap.size + 2 ≤ Y.heap.size; omega, hl⟩
    have hY4 : Y.heap.size ≤ W4.heap.size := hgr4.size
    obtain ⟨A', c'', rfl, _, _⟩ := hown4.form
    have c0 : W4.cell? ⟨g, 0, none⟩ = some (.slice (some ⟨b, 0, none⟩) n cap) := by rw [cell_of_row _ _ _ _ _ _ HG4.out]; rfl
    refine hK _ _ (fun _ => c0) ?_
    clear hK K hown4 hgr4 hat4 hrun4 hHeld hgr4b
    simp only [Act.put, List.setIfInBounds_toArray, List.set_cons_zero, List.set_cons_succ]
    refine laneT_alone rfl (by kernel_rfl) (by rfl) (fun K hK => ?_)
    go_simp
    refine hK _ _ (fun _ => c0) ?_
    clear hK K
    refine laneT_alone rfl (by kernel_rfl) (by rfl) (fun K hK => ?_)
    go_simp
    refine hK _ _ (fun _ => c0) ?_
    clear hK K
    refine laneT_alone rfl (by kernel_rfl) (by rfl) (fun K hK => ?_)
    refine wp_of_skip (exec_store_one rfl rfl rfl ltrs_info rfl c0 (by rw [World.frozen?, HG4.out]; rfl)) ?_
    refine hK _ _ (fun hne => absurd rfl hne) ?_
    clear hK K
    refine laneT_end (by kernel_rfl) ?_
    have hset : W4.setCell ⟨g, 0, none⟩ (.slice A' (k + (n - (k + 1))) c'') = boxed W4 g #[.slice A' (k + (n - (k + 1))) c''] 28 := by
      conv => lhs; rw [boxed_self HG4.out]
      rw [boxed_set]; rfl
    change Exit.then _ _ Exit.normal _ (W4.setCell ⟨g, 0, none⟩ (.slice A' (k + (n - (k + 1))) c''))
    rw [hset]
    clear hset c0
    obtain ⟨U, hU⟩ : ∃ U, boxed W4 g #[.slice A' (k + (n - (k + 1))) c''] 28 = U := ⟨_, rfl⟩
    have hg4l : g < W4.heap.size := by omega
    have HU0 : Hid (U.heap[w.heap.size]? = some (.cells #[.int .u8 0, .slice none 0 0] 31 (0, 0))) := Lib.hid (by rw [← hU]; exact boxed_old (by omega) H40.out)
    have HU1 : Hid (U.heap[w.heap.size + 1]? = some (.cells #[.int .u8 s1, .slice Au s2.length cu] 31 (0, 0))) := Lib.hid (by rw [← hU]; exact boxed_old (by omega) H41.out)
    have HUg : Hid (U.heap[g]? = some (.cells #[.slice A' (k + (n - (k + 1))) c''] 28 (0, 0))) := Lib.hid (by rw [← hU]; exact boxed_at hg4l)
    have HUT : Hid (Turn F w U) := Lib.hid (HT4.out.trans (F' := F) (by rw [← hU]; exact ⟨rfl, rfl, rfl, by rw [boxed_size]; exact Nat.le_refl _, fun i _ hi => boxed_block_other fun e => hi (by rw [e]; exact HF.out.1)⟩) fun i hi => .inl hi)
    have HUK : Hid (KeepU w U) := Lib.hid (by rw [← hU]; exact HK4.out.trans (KeepU.boxed HG4.out (by decide)))
    have HUO : Hid (Lrow U (.slice A' (k + (n - (k + 1))) c'') (k + (n - (k + 1))) (lcl (rs.take k) ++ lcl (rs.drop (k + 1)))) := Lib.hid (by rw [← hU]; exact HO4.out.kept fun i hi => boxed_block_other fun e => HO4.out.ne HG4.out (by decide) (by rw [hi, e]))
    have hU4 : U.heap.size = W4.heap.size := by rw [← hU, boxed_size]
    rw [hU]
    clear hU HO4 HT4 HK4 H40 H41 HG4
    go_wp2_with (((with_reducible_and_instances (show wpList _ _ _ (Oper.mk _ (Op.load 31 _) _ _ _ _ :: _) _ _)); refine stop3 ?_))
    refine ⟨?_⟩
    refine wl_load (g := w.heap.size + 1) Try.underlying31 rfl ltr_size rfl rfl rfl HU1.out rfl ?_
    go_wp2_with (((with_reducible_and_instances (show wpList _ _ _ (Oper.mk _ (Op.store 31 _ _) _ _ _ _ :: _) _ _)); refine stop3 ?_))
    refine ⟨?_⟩
    refine wl_store (g := w.heap.size) ltr_size rfl rfl rfl rfl HU0.out rfl rfl (by simp [Value.oneCell']) ?_
    go_wp2_with fail
    have hB0 : w.heap.size < U.heap.size := by omega
    refine bodyPost_ret (results_cell_row rfl _ _ w.heap.size 31 _ (0, 0) _ rfl (boxed_at hB0) Try.underlying31 rfl ltr_size) rfl ?_
    have hBX : Below w.heap.size U (boxed U w.heap.size #[.int .u8 s1, .slice Au s2.length cu] 31) := boxed_below (Below.refl _ _) (Nat.le_refl _)
    have hKX : KeepU w (boxed U w.heap.size #[.int .u8 s1, .slice Au s2.length cu] 31) := HUK.out.trans (KeepU.boxed HU0.out (by decide))
    have hTX : Turn F w (boxed U w.heap.size #[.int .u8 s1, .slice Au s2.length cu] 31) := ⟨HUT.out.os, HUT.out.tape, HUT.out.output, by rw [boxed_size]; exact HUT.out.size, fun i hi hn => (boxed_block_other (by omega)).trans (HUT.out.block i hi hn)⟩
    refine ⟨_, rfl, HBU.out.keep hKX fun i hi => .inl hi, ⟨⟨Value.slice A' (k + (n - (k + 1))) c'', rs.take k ++ rs.drop (k + 1), ?_⟩, hTX⟩, hKX⟩
    have hn9 := HN.out
    have hol : (Pst.out st k).length = k + (n - (k + 1)) := by rw [Pst.out_len (by omega)]; omega
    refine ⟨boxed_old (by omega) HUg.out, ?_, ((HC.out.lets.take k).append (HC.out.lets.drop (k + 1))).keep hKX fun i hi => .inl hi, ⟨.inl HF.out.1, fun i hi => ?_⟩, fun i hi => ?_, by omega⟩
    · rw [hol, lcl_append]
      refine HUO.out.kept fun i hi => boxed_block_other fun e => ?_
      subst e
      rcases HAT.out _ hi with h' | h'
      · have := HC.out.lt _ h'; omega
      · omega
    · rcases HAT.out i hi with h' | h'
      · exact .inl h'
      · exact .inr (by rw [boxed_size, hU4]; omega)
    · rw [boxed_size]
      rcases hi with h' | h'
      · have := HC.out.lt i h'; omega
      · rw [boxed_size] at h'; exact h'.2
end Go.Proofs.Ytlldkcelkgnalaa
