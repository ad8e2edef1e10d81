/-
  The contract of writes that become safe. No conditions but the sizes.
-/
import Derived.Test.YticefepcoemkoaaDoorPlTear
namespace Go.Proofs.YticefepcoemkoaaDoor
set_option maxRecDepth 20000
open Go.ChangeShapes Go.WideShapes Go.ChangeAt Go.RowKit

/-- So many of the writes are safe, and none is struck yet. -/
def half (st : Pl.St) (q : Nat) : Pl.St := { st with safe := Pl.keep st.safe (st.wet.take q) }
theorem half_len {st : Pl.St} {q : Nat} : (half st q).safe.length = st.safe.length := Pl.keep_length _ _
theorem half_zero (st : Pl.St) : half st 0 = st := by unfold half; rw [List.take_zero]; rfl
theorem half_succ {st : Pl.St} {q : Nat} {p : Int × List Int} (h : st.wet[q]? = some p) : (half st (q + 1)).safe = (half st q).safe.set p.1.toNat p.2 := by
  obtain ⟨hl, rfl⟩ := List.getElem?_eq_some_iff.1 h
  show Pl.keep st.safe (st.wet.take (q + 1)) = _
  rw [List.take_succ_eq_append_getElem hl, Pl.keep_snoc]; rfl
theorem half_ok {st : Pl.St} (h : Pl.Ok st) (q : Nat) : Pl.Ok (half st q) :=
  ⟨Pl.keep_ok h.safe fun p hp => (h.wet p (List.mem_of_mem_take hp)).2.2, fun p hp => by rw [half_len]; exact h.wet p hp, by rw [half_len]; exact h.size, h.acts, h.spare, h.left, h.left64⟩

/-- A write's cells, whole. -/
theorem PlC.write_all {w : World} {g : Nat} {F : Nat → Prop} {st : Pl.St} {m ms ml k : Nat} {be : Int} {A : Option Addr} {n c : Nat} {fs fl : Int → Option Value} (h : PlC w g F st m ms ml be (.slice A n c) fs fl k) {q : Nat} {p : Int × List Int} (hq : st.wet[q]? = some p) :
    ∃ b, A = some ⟨b, 0, none⟩ ∧ b < w.heap.size ∧ w.rangeAt b (q * 65) (wvl p.1 p.2) := by
  obtain ⟨b, c', e, _, hb, _, h1, h2⟩ := h.write_at hq
  injection e with e _ _
  refine ⟨b, e, hb, fun j u hu => ?_⟩
  cases j with
  | zero => unfold wvl at hu; injection hu with hu; rw [← hu]; exact h1
  | succ j =>
    have := h2 j u hu
    rwa [show q * 65 + 1 + j = q * 65 + (j + 1) by omega] at this
theorem boxed_alloc {w : World} {g : Nat} {cs : Array Value} {t : TypeId} (hg : g < w.heap.size) (o : Obj) : (boxed w g cs t).alloc o = boxed (w.alloc o) g cs t := by
  unfold boxed World.alloc
  congr 1
  apply Array.ext_getElem?
  intro i
  rw [Array.getElem?_setIfInBounds, Array.getElem?_push, Array.getElem?_push, Array.getElem?_setIfInBounds, Array.size_setIfInBounds]
  by_cases e : g = i
  · subst e
    rw [if_neg (by omega), if_pos rfl, if_pos hg, if_pos rfl, if_pos (by simp; omega)]
  · simp [e]

theorem pcl_half {st : Pl.St} {q ms ml : Nat} {be : Int} {v : Value} : pcl (half st (q + 1)) ms ml be v = pcl (half st q) ms ml be v := by
  unfold pcl; rw [half_len, half_len]; rfl
/-- One write more is safe. -/
theorem half_fin {w2 w4 : World} {g : Nat} {F : Nat → Prop} {st : Pl.St} {m ms ml k q : Nat} {be be2 : Int} {v : Value} {fs fl : Int → Option Value} {at_ : Int} {s : List Int} (hok0 : Pl.Ok st) (hg : g < w4.heap.size) (h : PlC w2 g F (half st q) (m + q) ms ml be v fs fl (k + q))
    (hp : st.wet[q]? = some (at_, s)) (hms : MapF (boxed w4 g (pcl (half st q) ms ml be v) 50) ms (k + q + 1) (fun j => if j = at_ then some (sv s) else fs j)) (hml : MapF (boxed w4 g (pcl (half st q) ms ml be v) 50) ml st.wet.length fl)
    (ho : (boxed w4 g (pcl (half st q) ms ml be v) 50).ownsRow 0 81 65 v st.wet.length (wcl st.wet)) (hlt : ∀ j, F j → j < w4.heap.size) (hm : m + (q + 1) ≤ 100000) (h0 : 0 ≤ at_) (hb1 : be ≤ be2) (hb2 : at_ + 1 ≤ be2) (hb3 : be2 ≤ st.safe.length) :
    PlC (boxed w4 g (pcl (half st (q + 1)) ms ml be2 v) 50) g F (half st (q + 1)) (m + (q + 1)) ms ml be2 v (fun j => if j = at_ then some (sv s) else fs j) fl (k + (q + 1)) := by
  have hsz := h.sizes
  have hl : (half st (q + 1)).safe.length = (half st q).safe.length := by rw [half_len, half_len]
  have hown : ∀ j, v.ownBlock = some j → j ≠ g := fun j hj e => own_ne ho (by rw [boxed_block hg]) (by decide) (e ▸ hj)
  have hbe := h.be
  have hok := half_ok hok0 (q + 1)
  · refine ⟨boxed_block hg, hms.kept (by rw [boxed_block_other h.msne.1, boxed_block_other h.msne.1]), hml.kept (by rw [boxed_block_other h.msne.2, boxed_block_other h.msne.2]), h.ne, own_kept ho fun j hj => by rw [boxed_block_other (hown j hj), boxed_block_other (hown j hj)], fun j t ht => ?_, h.last, ⟨by omega, by rw [half_len]; exact hb3⟩, hok,
      ⟨by have := hsz.1; show k + (q + 1) + st.wet.length ≤ _; have : k + q + st.wet.length ≤ m + q := hsz.1; omega, by have : st.acts ≤ ((m + q : Nat) : Int) := hsz.2.1; show st.acts ≤ _; omega, hm⟩, h.foot, fun j hj => by rw [boxed_size]; exact hlt j hj⟩
    rw [half_succ hp] at ht
    show (if (j : Int) = at_ then some (sv s) else fs j).getD (sv Pl.zs) = sv t ∧ (be2 ≤ j → t = Pl.zs)
    by_cases e : (j : Int) = at_
    · have ej : at_.toNat = j := by omega
      rw [if_pos e]
      rw [ej] at ht
      have hlt : j < (half st q).safe.length := by
        have := (List.getElem?_eq_some_iff.1 ht).1
        simpa using this
      rw [List.getElem?_set_self hlt] at ht
      injection ht with ht
      subst ht
      exact ⟨rfl, fun hb => by omega⟩
    · rw [if_neg e]
      rw [List.getElem?_set_ne (by omega)] at ht
      exact ⟨(h.safe j t ht).1, fun hb => (h.safe j t ht).2 (by omega)⟩

/-- None is left that isn't safe. -/
theorem settle_fin {w w4 : World} {g : Nat} {F : Nat → Prop} {st : Pl.St} {m ms ml k q : Nat} {be : Int} {v : Value} {fs fl : Int → Option Value} (hg : g < w4.heap.size) (hok : Pl.Ok st) (hF : ∀ j, F j → j < w.heap.size)
    (h : PlC (boxed w4 g (pcl (half st q) ms ml be v) 50) g F (half st q) (m + q) ms ml be v fs fl (k + q)) (ht : Turn F w (boxed w4 g (pcl (half st q) ms ml be v) 50)) (hk : k + q ≤ m) (ha : st.acts ≤ m) (hm : m ≤ 100000) :
    PlPost w g F (st.settle q) m (.tuple #[]) (.returned (.tuple #[])) (boxed (w4.alloc (.map #[] 0)) g (pcl (half st q) ms w4.heap.size be (.slice none 0 0)) 50) := by
  have hsz := ht.size
  rw [boxed_size] at hsz
  have hmsl : ms < w4.heap.size := by have := h.mapS.lt; rwa [boxed_size] at this
  have hgn : w4.heap.size ≠ g := by omega
  have hs2 : (boxed (w4.alloc (.map #[] 0)) g (pcl (half st q) ms w4.heap.size be (.slice none 0 0)) 50).heap.size = w4.heap.size + 1 := by rw [boxed_size, World.size_alloc]
  refine ⟨rfl, ⟨ms, w4.heap.size, be, .slice none 0 0, fs, fun _ => none, k + q, boxed_block (by rw [World.size_alloc]; omega), h.mapS.kept ?_, ?_, by omega, World.ownsRow_nil _ _ _ _, h.safe, fun j => ⟨fun _ s => rfl, fun u hu => (nomatch hu)⟩, h.be, hok.settle q, ⟨hk, ha, hm⟩, ⟨.inl h.foot.1, .inl h.foot.2.1, .inr ⟨hsz, by rw [hs2]; omega⟩, fun j hj => by simp [Value.ownBlock] at hj⟩, fun j hj => ?_⟩, ?_⟩
  · rw [boxed_block_other h.msne.1, boxed_block_other h.msne.1, alloc_block_old hmsl]
  · exact (mapF_made w4).kept (by rw [boxed_block_other hgn])
  · rcases hj with h' | h'
    · have := hF j h'; rw [hs2]; omega
    · exact h'.2
  · refine (ht.trans (F' := F) (w2 := (boxed w4 g (pcl (half st q) ms ml be v) 50).alloc (.map #[] 0)) (Turn.of_below ((Below.refl _ _).alloc (Nat.le_refl _) _)) fun _ h => .inl h).trans (F' := F) ?_ fun _ h => .inl h
    rw [boxed_alloc hg]
    exact turn_boxed h.foot.1

set_option maxRecDepth 20000 in
set_option maxHeartbeats 1600000 in
theorem settle_any (w : World) (g : Nat) (F : Nat → Prop) (st : Pl.St) (m n : Nat) (h : PlB w g F st m) (hm : m ≤ 50000) (hn : n ≤ st.wet.length) :
    Calls Tryd.prog 35 #[.pointer (some ⟨g, 0, none⟩), .int .i64 n] w (PlPost w g F (st.settle n) m (.tuple #[])) := by
  have hF := h.lt
  have hok := h.ok
  obtain ⟨ms, ml, be, v, fs, fl, k, h⟩ := h
  obtain ⟨A, c, rfl, hc1, hc2⟩ := own_form h.own
  have hsz := h.sizes
  have hg3 : w.cell? ⟨g, 3, none⟩ = some (.slice A st.wet.length c) := by rw [cell_of_row _ _ _ _ _ _ h.blk]; rfl
  have H := Lib.hid h
  clear h
  go_enter Tryd.func35, Tryd.ntmps35
  go_wp2
  go_loopw [13] (fun t wr => ∃ (q : Nat) (be' : Int) (fs' : Int → Option Value), q ≤ n ∧ t = .int .i64 q ∧ Turn F w wr ∧ PlC wr g F (half st q) (m + q) ms ml be' (.slice A st.wet.length c) fs' fl (k + q)) (fun t _ => n - (intOf t).toNat)
  case atStart => exact ⟨0, be, fs, by omega, rfl, Turn.refl _ _, by rw [half_zero]; exact H.out⟩
  case round =>
    obtain ⟨q, be', fs', hq, rfl, hT, hC⟩ := hrel
    have HT := Lib.hid hT
    have HC := Lib.hid hC
    clear hT hC
    by_cases hlt : q < n
    · have hqw : q < st.wet.length := by omega
      obtain ⟨p, hp⟩ : ∃ p, st.wet[q]? = some p := ⟨_, List.getElem?_eq_getElem hqw⟩
      have hpw := hok.wet p (List.mem_of_getElem? hp)
      obtain ⟨b, rfl, hbl, hr⟩ := HC.out.write_all (q := q) (p := p) hp
      obtain ⟨at_, s⟩ := p
      obtain ⟨hp0, hp1, hps⟩ := hpw
      have HR := Lib.hid hr
      have HP := Lib.hid hp
      have hsize := hok.size
      have hwl := wvl_len (i := at_) hps.1
      clear hr hp
      go_wp2_with (first | (refine wpList_load_mid rfl 81 _ rfl b (q * 65) rfl (wvl at_ s) _ HR.out Tryd.underlying81 rfl (by rw [hwl]; exact size71) ?_) | (refine wpList_agg_alloc rfl 81 rfl _ zero71 ?_) | (refine wpList_agg_store_new rfl 81 _ _ rfl _ rfl rfl (wvl at_ s).toArray rfl (by rw [List.size_toArray, hwl]; exact size71) (by simp [hwl, cl_length, Pl.sec_zs.1]) (all_oneCell_toArray (wvl_cells at_ s)) ?_))
      try simp only [Act.put, List.setIfInBounds_toArray, List.set_cons_zero, List.set_cons_succ]
      generalize hW2 : wr.alloc (.cells (wvl at_ s).toArray 81) = W2
      have HC2 : Hid (PlC W2 g F (half st q) (m + q) ms ml be' (.slice (some ⟨b, 0, none⟩) st.wet.length c) fs' fl (k + q)) := by
        rw [← hW2]; exact HC.out.kept (fun j hj => alloc_block_old (HC.out.lt j hj)) (by rw [World.size_alloc]; omega)
      have HB5 : Hid (W2.heap[wr.heap.size]? = some (.cells (wvl at_ s).toArray 81 (0, 0))) := by rw [← hW2]; exact alloc_block
      have HT2 : Hid (Turn F w W2) := by
        rw [← hW2]; exact HT.out.trans (F' := F) (Turn.of_below ((Below.refl _ _).alloc (Nat.le_refl _) _)) fun _ h => .inl h
      have HNF : Hid (¬ F wr.heap.size) := fun hf => absurd (HC.out.lt _ hf) (Nat.lt_irrefl _)
      clear hW2
      generalize wr.heap.size = b5 at *
      have hg1 : W2.cell? ⟨g, 1, none⟩ = some (.map (some ms)) := by rw [cell_of_row _ _ _ _ _ _ HC2.out.blk]; rfl
      have h50 : W2.cell? ⟨b5, 0, none⟩ = some (.int .i64 at_) := by rw [cell_of_row _ _ _ _ _ _ HB5.out]; rfl
      have h51 : W2.rangeAt b5 1 (cl .u8 s) := fun j u hu => by rw [cell_of_row _ _ _ _ _ _ HB5.out, Nat.add_comm]; simpa [wvl] using hu
      refine lane_start (ord := [0, 1, 2, 3, 4, 5, 6, 7, 8]) (S := fun w' => w'.cell? ⟨g, 1, none⟩ = some (.map (some ms)) ∧ w'.cell? ⟨b5, 0, none⟩ = some (.int .i64 at_) ∧ w'.rangeAt b5 1 (cl .u8 s)) rfl (by kernel_rfl) ⟨hg1, h50, by simpa using h51⟩ (fun hHeld => ?_)
      iterate 7 (refine lane_take (v := ?_) rfl (by kernel_rfl) (by kernel_rfl) (by rfl) ?_ (by assumption) ?_; rotate_left; (focus (intro w hSw; obtain ⟨hS1, hS2, hS3⟩ := hSw; go_simp; try (with_reducible rfl))); simp only [Act.put, List.setIfInBounds_toArray, List.set_cons_zero, List.set_cons_succ])
      refine lane_take (v := sv s) rfl (by kernel_rfl) (by kernel_rfl) (by rfl) (fun w hSw => exec_load rfl rfl (run_load_arr hSw.2.2 Tryd.underlying67 size63 hps.1)) (by assumption) ?_
      simp only [Act.put, List.setIfInBounds_toArray, List.set_cons_zero, List.set_cons_succ]
      refine lane_alone rfl (by kernel_rfl) (by rfl) (fun K hK => ?_)
      have hwf : (Lit.int .i64 at_).wf = true := WalkArith.wf_i64 (by omega)
      have hms : MapF W2.drew ms (k + q) fs' := HC2.out.mapS.kept rfl
      obtain ⟨w3, hrun, hm3, hgr3⟩ := hms.put Tryd.underlying46 (by have := HC2.out.sizes; omega) at_ hwf (sv s)
      refine wp_of_skip (exec_mapUpdate rfl rfl rfl rfl hrun) ?_
      have hkeep : ∀ j o, W2.heap[j]? = some o → j ≠ ms → w3.heap[j]? = some o := fun j o hj hne => (hgr3.block j (Array.getElem?_eq_some_iff.1 hj).1 fun e => hne (by injection e)).trans hj
      have hb3 := hkeep g _ HC2.out.blk (Ne.symm HC2.out.msne.1)
      have h53 := hkeep _ _ HB5.out (fun e => HNF.out (e ▸ HC2.out.foot.2.1))
      have ho3 : w3.ownsRow 0 81 65 (.slice (some ⟨b, 0, none⟩) st.wet.length c) st.wet.length (wcl st.wet) := own_kept HC2.out.own fun j hj => by
        have hlt := (HC2.out.own.lt j hj).2
        exact hgr3.block j hlt fun e => (HC2.out.ownne hj).2.1 (by injection e)
      have HML : Hid (MapF w3 ml st.wet.length fl) := by
        obtain ⟨es, cc, h'⟩ := HC2.out.mapL.isMap
        exact HC2.out.mapL.kept ((hkeep ml _ h' (Ne.symm HC2.out.ne)).trans h'.symm)
      have HT3 : Hid (Turn F w w3) := HT2.out.trans (F' := F) ⟨hgr3.os, hgr3.tape, hgr3.output, hgr3.size, fun j hj hn => hgr3.block j hj fun e => hn (by injection e with e; rw [e]; exact HC2.out.foot.2.1)⟩ (fun _ h => .inl h)
      have HM3 := Lib.hid hm3
      have HB3 := Lib.hid hb3
      have H53 := Lib.hid h53
      have HO3 := Lib.hid ho3
      have hg1' : w3.cell? ⟨g, 1, none⟩ = some (.map (some ms)) := by rw [cell_of_row _ _ _ _ _ _ hb3]; rfl
      have h50' : w3.cell? ⟨b5, 0, none⟩ = some (.int .i64 at_) := by rw [cell_of_row _ _ _ _ _ _ h53]; rfl
      have h51' : w3.rangeAt b5 1 (cl .u8 s) := fun j u hu => by rw [cell_of_row _ _ _ _ _ _ h53, Nat.add_comm]; simpa [wvl] using hu
      refine hK _ _ ⟨hg1', h50', h51'⟩ (fun _ => ?_)
      clear hK K hb3 h53 ho3 hm3 hkeep hgr3 hrun hms hHeld hg1 h50 h51 hg1' h51'
      refine lane_end (by kernel_rfl) ?_
      have hz3 : g < w3.heap.size := (Array.getElem?_eq_some_iff.1 HB3.out).1
      have hgb5 : b5 ≠ g := fun e => HNF.out (e ▸ HC2.out.foot.1)
      obtain ⟨w4, rfl, hg4⟩ : ∃ w4, w3 = boxed w4 g (pcl (half st q) ms ml be' (.slice (some ⟨b, 0, none⟩) st.wet.length c)) 50 ∧ g < w4.heap.size := ⟨w3, boxed_self HB3.out, hz3⟩
      rw [boxed_cell_other hgb5] at h50'
      unfold pcl
      go_wp2
      have HFIN : Hid (∀ be2 : Int, (if be' < at_ + 1 then at_ + 1 else be') = be2 → PlC (boxed w4 g (pcl (half st q) ms ml be2 (.slice (some ⟨b, 0, none⟩) st.wet.length c)) 50) g F (half st (q + 1)) (m + (q + 1)) ms ml be2 (.slice (some ⟨b, 0, none⟩) st.wet.length c) (fun j => if j = at_ then some (sv s) else fs' j) fl (k + (q + 1)) ∧
          Turn F w (boxed w4 g (pcl (half st q) ms ml be2 (.slice (some ⟨b, 0, none⟩) st.wet.length c)) 50)) := by
        rintro be2 hbe2
        have hbe := HC2.out.be
        rw [half_len] at hbe
        have hsz4 := HT3.out.size
        rw [boxed_size] at hsz4
        rw [← pcl_half]
        refine ⟨half_fin hok hg4 HC2.out HP.out HM3.out HML.out HO3.out (fun j hj => by have := hF j hj; omega) (by omega) hp0 ?_ ?_ ?_, HT3.out.trans (F' := F) (turn_boxed HC2.out.foot.1) fun _ h => .inl h⟩ <;> (split at hbe2 <;> omega)
      have hwr : IntKind.i64.wrap (at_ + 1) = at_ + 1 := by simp only [IntKind.wrap_i64]; omega
      go_region
      all_goals
        generalize hb2 : (if be' < at_ + 1 then at_ + 1 else be') = be2
        have hfin := HFIN.out be2 hb2
        clear hb2
        have HFIN2 := Lib.hid hfin
        clear hfin HFIN hwr
        go_wp2
        go_roundw
        case rel => exact ⟨q + 1, be2, _, by omega, by go_num, HFIN2.out.2.drewN 1, HFIN2.out.1.kept (fun _ _ => rfl) (Nat.le_refl _)⟩
        case measure => simp [intOf]; omega
    · obtain rfl : q = n := by omega
      have hbl := HC.out.blk
      have hgl : g < wr.heap.size := (Array.getElem?_eq_some_iff.1 hbl).1
      obtain ⟨w4, rfl, hg4⟩ : ∃ w4, wr = boxed w4 g (pcl (half st q) ms ml be' (.slice A st.wet.length c)) 50 ∧ g < w4.heap.size := ⟨wr, boxed_self hbl, hgl⟩
      have hmm := @run_makeMap Tryd.prog
      have hba := fun cs o => boxed_alloc (cs := cs) (t := 50) hg4 o
      have HFIN := Lib.hid (settle_fin hg4 hok hF HC.out HT.out (by omega) hsz.2.1 hsz.2.2)
      clear hbl hgl
      unfold pcl
      go_wp2
      refine bodyPost_ret (v := .tuple #[]) (by simp [results, Tryd.results35, go_sem]) rfl ?_
      exact HFIN.out
end Go.Proofs.YticefepcoemkoaaDoor
