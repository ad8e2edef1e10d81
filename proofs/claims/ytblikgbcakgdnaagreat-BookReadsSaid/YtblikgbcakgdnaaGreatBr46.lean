/-
  Contract of book.getOpen over any box: what is told, and what is left. No conditions but the sizes.
-/
import Derived.Test.YtblikgbcakgdnaaGreatBr06
import Derived.Test.YtblikgbcakgdnaaGreatBr10
import Derived.Test.YtblikgbcakgdnaaGreatBr45
set_option linter.unusedSimpArgs false
set_option linter.unusedVariables false
namespace Go.Proofs.YtblikgbcakgdnaaGreat
set_option linter.unusedVariables false
set_option linter.unusedSimpArgs false
set_option maxRecDepth 100000
open Go.ChangeShapes Go.WideShapes Go.ChangeAt Go.RowKit

/-- So many cycles were told, without a fault. -/
def Kbd.Upto (hi : Int) (lo0 : Int) (l0 : List Int) : Nat → List Cv → Int → List Int → Prop
  | 0, acc, lo, l => acc = [] ∧ lo = lo0 ∧ l = l0
  | k + 1, acc, lo, l => ∃ (acc' : List Cv) (lo' : Int) (l' : List Int) (c : Cv), Kbd.Upto hi lo0 l0 k acc' lo' l' ∧ Kbd.Cyc lo' hi l' 0 c l 0 ∧ acc = acc' ++ [c] ∧ lo = c.n + 1
theorem Kbd.Upto.len {hi lo0 : Int} {l0 : List Int} : ∀ {k : Nat} {acc : List Cv} {lo : Int} {l : List Int}, Kbd.Upto hi lo0 l0 k acc lo l → acc.length = k
  | 0, _, _, _, h => by rw [h.1]; rfl
  | k + 1, _, _, _, h => by
    obtain ⟨acc', lo', l', c, h1, _, rfl, _⟩ := h
    rw [List.length_append, h1.len]; rfl
theorem Kbd.Upto.run {hi lo0 : Int} {l0 : List Int} : ∀ {j k : Nat} {acc : List Cv} {lo : Int} {l : List Int} {r : List Cv} {l' : List Int} {f' : Int}, Kbd.Upto hi lo0 l0 j acc lo l → Kbd.Run hi k lo l r l' f' → Kbd.Run hi (j + k) lo0 l0 (if f' = 0 then acc ++ r else []) l' f'
  | 0, k, _, _, _, r, l', f', h, hr => by
    obtain ⟨rfl, rfl, rfl⟩ := h
    rw [Nat.zero_add, List.nil_append]
    by_cases hf : f' = 0
    · rw [if_pos hf]; exact hr
    · rw [if_neg hf, ← hr.no hf]; exact hr
  | j + 1, k, _, _, l, r, l', f', h, hr => by
    obtain ⟨acc', lo', l1, c, h1, h2, rfl, rfl⟩ := h
    have h3 : Kbd.Run hi (k + 1) lo' l1 (if f' = 0 then c :: r else []) l' f' := ⟨c, l, 0, h2, .inr ⟨rfl, r, hr, rfl⟩⟩
    have h4 := h1.run h3
    rw [show j + 1 + k = j + (k + 1) by omega]
    by_cases hf : f' = 0
    · rw [if_pos hf] at h4 ⊢
      rw [if_pos hf] at h4
      rw [List.append_assoc]; exact h4
    · rw [if_neg hf] at h4 ⊢; exact h4
/-- What getOpen tells. -/
def OpnPost (w : World) (b : Nat) (l : List Int) (f ct left : Int) (x : Ending) (w' : World) : Prop := ∃ v cs l' f' n l1 f1, x = .returned v ∧ Pk.Step left left l f n l1 f1 ∧ ((f1 ≠ 0 ∧ cs = [] ∧ l' = l1 ∧ f' = f1) ∨ (f1 = 0 ∧ Kbd.Run (ct - 1) n.toNat 0 l1 cs l' f')) ∧ Cys w' w.heap.size w'.heap.size v cs ∧ w.grownBy w' (some b) ∧ GB w' b l' f'
set_option maxHeartbeats 4000000 in
theorem getopen_any (w : World) (b : Nat) (l : List Int) (f ct left : Int) (h : GB w b l f) (hct : 0 ≤ ct ∧ ct ≤ 3652059) (hle : 0 ≤ left ∧ left ≤ ct) :
    Calls Tryz.prog 81 #[.pointer (some ⟨b, 0, none⟩), .int .i64 ct, .int .i64 left] w (OpnPost w b l f ct left) := by
  have hbl := h.lt
  have H := Lib.hid h
  have ewc : wrap64 (ct - 1) = ct - 1 := by unfold wrap64; omega
  clear h
  go_enter Tryz.func81, Tryz.ntmps81
  go_wp2_with (fail)
  refine (getint_any _ _ _ _ _ _ H.out (by omega) (by omega)).mono ?_
  rintro x w1 ⟨n, l1, f1, rfl, hs1, hg1, hb1⟩
  have r1 := Kbd.range hs1
  have hnz : n ≠ 0 → f1 = 0 := fun e => hs1.nz e
  have HS1 := Lib.hid hs1
  have HW1 : Hid (w.grownBy w1 (some b)) := Lib.hid hg1
  have HG1 := Lib.hid hb1
  have HNZ := Lib.hid hnz
  have hwz1 : w.heap.size ≤ w1.heap.size := hg1.size
  obtain ⟨N, rfl⟩ := Int.eq_ofNat_of_zero_le (a := n) (by omega)
  have hN : (N : Int) ≤ 3652059 := by omega
  clear hs1 hg1 hb1 hnz r1
  go_wp2_with (fail)
  go_loopw [7, 8, 14] (fun vv lo ii wq => ∃ (j : Nat) (acc : List Cv) (sv : Value) (low fq : Int) (lq : List Int), j ≤ N ∧ vv = sv ∧ ii = .int .i64 j ∧ lo = .int .i64 low ∧ (0 ≤ low ∧ low ≤ 3652060) ∧ Hid (w.grownBy wq (some b)) ∧ Hid (Own wq w.heap.size sv acc) ∧ Hid (GB wq b lq fq) ∧ Hid (acc.length = j) ∧ Hid ((fq = 0 ∧ f1 = 0 ∧ Kbd.Upto (ct - 1) 0 l1 j acc low lq) ∨ (fq = f1 ∧ f1 ≠ 0 ∧ N = 0 ∧ lq = l1 ∧ acc = []))) (fun _ _ ii _ => N - (intOf ii).toNat)
  case atStart =>
    refine ⟨0, [], .slice none 0 0, 0, f1, l1, by omega, rfl, rfl, rfl, by omega, HW1, Own.nil _ _, HG1, rfl, ?_⟩
    by_cases e : f1 = 0
    · exact .inl ⟨e, e, rfl, rfl, rfl⟩
    · refine .inr ⟨rfl, e, ?_, rfl, rfl⟩
      have := HNZ.out
      apply Classical.byContradiction
      intro hn
      exact e (this (by omega))
  case round =>
    obtain ⟨j, acc, vv, low, fq, lq, hj, hvv0, rfl, rfl, hlow, HW, HO, HG, HACC, HU⟩ := hrel
    obtain rfl := hvv0.symm
    have hwz := HW.out.size
    by_cases hlt : j < N
    case neg =>
      have dlt : decide ((j : Int) < (N : Int)) = false := by simp; omega
      go_wp2_with (fail)
      go_ret
      rcases HU.out with ⟨rfl, rfl, hU⟩ | ⟨rfl, hf, hN0, rfl, rfl⟩
      · refine ⟨_, acc, lq, 0, N, l1, 0, rfl, HS1.out, .inr ⟨rfl, ?_⟩, HO.out.cys, HW.out, HG.out⟩
        have := hU.run (k := 0) (r := []) ⟨rfl, rfl, rfl⟩
        rw [if_pos rfl, List.append_nil] at this
        rw [Int.toNat_natCast, show N = j + 0 by omega]
        exact this
      · exact ⟨_, [], lq, fq, N, lq, fq, rfl, HS1.out, .inl ⟨hf, rfl, rfl, rfl⟩, HO.out.cys, HW.out, HG.out⟩
    have dlt : decide ((j : Int) < (N : Int)) = true := by simp; omega
    obtain ⟨hfq, hf1, hU⟩ : fq = 0 ∧ f1 = 0 ∧ Kbd.Upto (ct - 1) 0 l1 j acc low lq := HU.out.resolve_right fun g => by have := g.2.2.1; omega
    subst hfq
    have HUU := Lib.hid hU
    have HF1 := Lib.hid hf1
    clear hU HU hf1
    go_wp2_with (fail)
    refine (getcycle_any _ _ _ _ low (ct - 1) HG.out (by omega) (by omega)).mono ?_
    rintro x w2 ⟨⟨cn, cd, cp, ca, cu, ctr, cx, cg⟩, l2, f2, rfl, hc2, hr2, hg2, hb2⟩
    dsimp only at hr2
    have HC2 := Lib.hid hc2
    have HW2 : Hid (w.grownBy w2 (some b)) := Lib.hid (HW.out.trans hg2)
    have HO2 : Hid (Own w2 w.heap.size vv acc) := Lib.hid (own_grown HO.out hg2 (by omega))
    have HG2 := Lib.hid hb2
    have hz2 : wr.heap.size ≤ w2.heap.size := hg2.size
    clear hc2 hg2 hb2
    dsimp only [Cv.arr]
    go_wp2_with (((with_reducible_and_instances (show wpList _ _ _ (Oper.mk _ (Op.store 112 _ _ ) _ _ _ _ :: _) _ _)); refine stop_here ?_))
    refine ⟨?_⟩
    refine wl_store (g := w2.heap.size) info8 rfl rfl rfl rfl (alloc_at rfl) (by rfl) (by rfl) (by simp [Value.oneCell']) ?_
    obtain ⟨w3, hw3⟩ : ∃ w3, boxed (w2.alloc (.cells #[.int .i64 0, .int .i64 0, .int .u8 0, .int .i64 0, .int .i64 0, .int .i64 0, .int .i64 0, .bool false] 112)) w2.heap.size #[.int .i64 cn, .int .i64 cd, .int .u8 cp, .int .i64 ca, .int .i64 cu, .int .i64 ctr, .int .i64 cx, .bool cg] 112 = w3 := ⟨_, rfl⟩
    have hb3 : Below w2.heap.size w2 w3 := by rw [← hw3]; exact boxed_below ((Below.refl _ w2).alloc (Nat.le_refl _) _) (Nat.le_refl _)
    have hX3 : w3.heap[w2.heap.size]? = some (.cells #[.int .i64 cn, .int .i64 cd, .int .u8 cp, .int .i64 ca, .int .i64 cu, .int .i64 ctr, .int .i64 cx, .bool cg] 112 (0, 0)) := by rw [← hw3]; exact boxed_at (by simp)
    have hz3 : w2.heap.size < w3.heap.size := (Array.getElem?_eq_some_iff.1 hX3).1
    rw [hw3]
    clear hw3
    have HW3 : Hid (w.grownBy w3 (some b)) := Lib.hid (kgrown_below HW2.out hb3)
    have HO3 : Hid (Own w3 w.heap.size vv acc) := Lib.hid (HO2.out.below hb3)
    have hat : ∀ i, vv.ownBlock = some i → w.heap.size ≤ i ∧ i < w2.heap.size := HO2.out.at_
    have HAT := Lib.hid hat
    clear hat
    have HG3 : Hid (GB w3 b l2 f2) := Lib.hid (HG2.out.more hb3)
    have HX3 := Lib.hid hX3
    clear hb3 HW2 HO2 HG2
    go_wp2_with (fail)
    obtain ⟨bA, bc, hbx, _⟩ := HG3.out
    refine (fault_box _ b _ f2 hbx).mono ?_
    rintro x w4 ⟨rfl, rfl⟩
    clear hbx
    by_cases hf2 : f2 = 0
    · subst hf2
      have dn : ((0 : Int) != 0) = false := by decide
      obtain ⟨c0, c1, c2, c3, c4, c5, c6, c7⟩ := cells8 HX3.out
      obtain ⟨A, cc, hvv, hv1, hv2⟩ := HO3.out.form
      subst hvv
      have HCY : Hid (Cys (w3.alloc (.cells #[.int .i64 cn, .int .i64 cd, .int .u8 cp, .int .i64 ca, .int .i64 cu, .int .i64 ctr, .int .i64 cx, .bool cg] 112)) w3.heap.size (w3.heap.size + 1) (.slice (some ⟨w3.heap.size, 0, none⟩) 1 1) [⟨cn, cd, cp, ca, cu, ctr, cx, cg⟩]) := cys_one w3 ⟨cn, cd, cp, ca, cu, ctr, cx, cg⟩ 112
      have ewn : wrap64 (cn + 1) = cn + 1 := by unfold wrap64; omega
      go_wp2_with (first | ((with_reducible_and_instances (show wpList _ _ _ (Oper.mk _ (Op.load 112 _ ) _ _ _ _ :: _) _ _)); refine wl_load Tryz.underlying112 rfl info8 rfl rfl rfl HX3.out (by rfl) ?_) | (at_builtin; refine wpList_append_cys cyty rfl _ _ rfl (l0 := acc) (base := w.heap.size) rfl rfl (Own.alloc HO3.out) HCY.out (by rw [List.length_singleton, HACC.out]; omega) (by simp; omega) ?_; intro v5 w5 ho5 hg5 hat5; have HO5 : Hid (Own w5 w.heap.size v5 (acc ++ [⟨cn, cd, cp, ca, cu, ctr, cx, cg⟩])) := Lib.hid ho5; have HG5 := Lib.hid hg5; have hx5 : w5.heap[w2.heap.size]? = some (.cells #[.int .i64 cn, .int .i64 cd, .int .u8 cp, .int .i64 ca, .int .i64 cu, .int .i64 ctr, .int .i64 cx, .bool cg] 112 (0, 0)) := (hg5.block _ (by simp; omega) (fun e => by have := HAT.out _ e.symm; omega)).trans (alloc_old hz3 HX3.out); obtain ⟨d0, d1, d2, d3, d4, d5, d6, d7⟩ := cells8 hx5; clear ho5 hg5 c0 c1 c2 c3 c4 c5 c6 c7))
      go_roundw
      case rel =>
        have hgw := HW3.out.size
        exact ⟨j + 1, acc ++ [⟨cn, cd, cp, ca, cu, ctr, cx, cg⟩], v5, cn + 1, 0, l2, by omega, rfl, by go_num, by go_num, by omega, grown_trans (kgrown_below HW3.out ((Below.refl _ w3).alloc (Nat.le_refl _) _)) HG5.out (fun i hi => .inr (HAT.out i hi).1), HO5, HG3.out.kept fun i hi => (HG5.out.block i (by simp; omega) (fun e => by have := (HAT.out _ e.symm).1; omega)).trans (alloc_block_old (by omega)), Lib.hid (by rw [List.length_append, List.length_singleton, HACC.out]), .inl ⟨rfl, HF1.out, acc, low, lq, _, HUU.out, HC2.out, rfl, rfl⟩⟩
      case measure => simp [intOf]; omega
    · have dn : (f2 != 0) = true := by rw [bne_iff_ne]; exact hf2
      have HF2 := Lib.hid hf2
      clear hf2
      go_wp2_with (fail)
      go_ret
      refine ⟨_, [], l2, f2, N, l1, f1, rfl, HS1.out, .inr ⟨HF1.out, ?_⟩, Cys.nil, HW3.out, HG3.out⟩
      have h9 : Kbd.Run (ct - 1) (N - j - 1 + 1) low lq [] l2 f2 := ⟨_, l2, f2, HC2.out, .inl ⟨HF2.out, rfl, rfl, rfl⟩⟩
      have := HUU.out.run h9
      rw [if_neg HF2.out] at this
      rw [Int.toNat_natCast, show N = j + (N - j - 1 + 1) by omega]
      exact this
end Go.Proofs.YtblikgbcakgdnaaGreat
