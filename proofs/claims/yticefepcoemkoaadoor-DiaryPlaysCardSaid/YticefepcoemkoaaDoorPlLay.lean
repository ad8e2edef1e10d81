/-
  The contract of a write laid: a block of its own, a map's entry, an append. No conditions but the sizes.
-/
import Derived.Test.YticefepcoemkoaaDoorPlNow
import Derived.Maps.AppendAt
import Derived.Great.BuildSlice
namespace Go.Proofs.YticefepcoemkoaaDoor
set_option maxRecDepth 20000
open Go.ChangeShapes Go.WideShapes Go.ChangeAt Go.RowKit

theorem fill_fold (l : List Value) : ∀ (cs : Array Value) (off j : Nat), off + j + l.length ≤ cs.size →
    (l.zipIdx j).foldl (fun (cs : Array Value) (x : Value × Nat) => cs.setIfInBounds (off + x.2) x.1) cs = (cs.toList.take (off + j) ++ l ++ cs.toList.drop (off + j + l.length)).toArray := by
  induction l with
  | nil => intro cs off j _; apply Array.ext'; simp
  | cons x r ih =>
    intro cs off j h
    rw [List.length_cons] at h
    rw [List.zipIdx_cons, List.foldl_cons, ih _ off (j + 1) (by simp; omega)]
    apply Array.ext'
    simp only [Array.toList_setIfInBounds]
    rw [List.take_set, List.drop_set, if_pos (by omega), show off + (j + 1) = off + j + 1 by omega, List.take_succ_eq_append_getElem (by simpa using (show off + j < cs.size by omega)), List.set_append, if_neg (by simp; omega)]
    have h3 : (List.take (off + j) cs.toList).length = off + j := by simp; omega
    rw [h3, Nat.sub_self]
    simp [Nat.add_assoc, Nat.add_comm 1]
theorem fill_step {place : Nat → Option (Nat × Nat)} {cells : Array Value} {i off : Nat} {v : Value} {l : List Value} {rest : List (Nat × Value)} (hp : place i = some (off, l.length)) (hv : v.cells = l.toArray) (hl : off + l.length ≤ cells.size) :
    Instr.fill place cells ((i, v) :: rest) = Instr.fill place (cells.toList.take off ++ l ++ cells.toList.drop (off + l.length)).toArray rest := by
  have hf := fill_fold l cells off 0 hl
  rw [Nat.add_zero] at hf
  rw [Instr.fill, hp]
  simp only [hv, List.size_toArray]
  rw [if_neg (by simp; omega)]
  congr 1
  rw [← hf, ← Array.foldl_toList]
  simp
theorem info71 : (Tryd.prog.info? 81).map (fun i => (i.zero, i.size, i.bytes)) = some (some (.agg (.int .i64 0 :: cl .u8 Pl.zs).toArray), 65, 72) := by kernel_rfl
theorem zero71 (w : World) : (zeroValue 81).run Tryd.prog w = .ok (.agg (.int .i64 0 :: cl .u8 Pl.zs).toArray) w := (zero_of_info (n := 65) (by kernel_rfl)).1 w
theorem size71 : (Tryd.prog.info? 81).map (·.size) = some 65 := by kernel_rfl
theorem info3 : (Tryd.prog.info? 3).map (·.size) = some 1 := by kernel_rfl
theorem run_sizeOf {P : Program} {t : TypeId} {n : Nat} (h : (P.info? t).map (·.size) = some n) (w : World) : (sizeOf t).run P w = .ok n w := by
  obtain ⟨i, hi, rfl⟩ := Option.map_eq_some_iff.1 h
  simp [sizeOf, typeInfo, hi]
/-- A write as a value. -/
def wvl (i : Int) (s : List Int) : List Value := .int .i64 i :: cl .u8 s
def wv (i : Int) (s : List Int) : Value := .agg (wvl i s).toArray
theorem wvl_len {i : Int} {s : List Int} (hs : s.length = 64) : (wvl i s).length = 65 := by unfold wvl; rw [List.length_cons, cl_length, hs]
theorem wcl_one (i : Int) (s : List Int) : wcl [(i, s)] = wvl i s := by simp [wcl, wvl]
theorem wvl_cells (i : Int) (s : List Int) : ∀ u ∈ wvl i s, u.oneCell' = true := by
  intro u hu
  rcases List.mem_cons.1 hu with rfl | hu
  · rfl
  · exact cl_one _ _ u hu

theorem built71 (i : Int) (s : List Int) (hs : s.length = 64) : (Tryd.prog).built 81 [(0, .int .i64 i), (1, sv s)] = some (wvl i s).toArray := by
  obtain ⟨it, hit, hz⟩ := Option.map_eq_some_iff.1 info71
  obtain ⟨i3, hi3, hz3⟩ := Option.map_eq_some_iff.1 info3
  obtain ⟨i63, hi63, hz63⟩ := Option.map_eq_some_iff.1 size63
  simp only [Prod.mk.injEq] at hz
  unfold Program.built
  simp only [hit, Tryd.underlying81, hz.1]
  simp only [List.mapM_cons, List.mapM_nil, hi3, hi63, Option.map_some, hz3, hz63, Option.bind_eq_bind, Option.bind_some, Option.pure_def]
  rw [fill_step (off := 0) (l := [.int .i64 i]) rfl rfl (by simp [Value.cells]), fill_step (off := 1) (l := cl .u8 s) (by rw [cl_length, hs]; rfl) rfl (by simp [Value.cells, cl_length, hs, Pl.sec_zs.1])]
  show some _ = some _
  congr 2
  have hz64 := Pl.sec_zs.1
  simp [wvl, Value.cells, hz64, hs, cl]
theorem run_build71 (i : Int) (s : List Int) (hs : s.length = 64) (w : World) : (Instr.build 81 #[(0, .int .i64 i), (1, sv s)]).run Tryd.prog w = .ok (wv i s) w :=
  run_build w _ _ _ (built71 i s hs)
theorem run_slice71 (i : Int) (s : List Int) (hs : s.length = 64) (w : World) :
    (Instr.buildSlice 48 1 #[(0, wv i s)]).run Tryd.prog w = .ok (.slice (some ⟨w.heap.size, 0, none⟩) 1 1) (w.alloc (.cells (wvl i s).toArray 81)) := by
  obtain ⟨it, hit, hz⟩ := Option.map_eq_some_iff.1 info71
  simp only [Prod.mk.injEq] at hz
  refine run_buildSlice w _ _ 1 _ _ it _ Tryd.underlying48 hit hz.1 (by rw [hz.2.1]; omega) (by rw [hz.2.1]; omega) ?_
  rw [hz.2.1]
  have hl := wvl_len (i := i) hs
  rw [fill_step (off := 0) (l := wvl i s) (by rw [hl]) rfl (by simp [hl])]
  show some _ = some _
  simp [hl]

/-- The cells of a write that was laid as a literal. -/
theorem lit71 (w : World) (i : Int) (s : List Int) (o : Obj) (h : o = .cells (wvl i s).toArray 81) : ∀ j u, (wvl i s)[j]? = some u → (w.alloc o).cell? ((⟨w.heap.size, 0, none⟩ : Addr).add j) = some u := fun j u hu => by
  subst h
  rw [ad_head, cell_of_row _ _ _ _ _ (0, 0) alloc_block]
  simpa using hu

/-- A write was laid: what is a plate's own, and what it reads as. -/
theorem lay_safe {st : Pl.St} {i : Int} {s : List Int} : (st.lay i s).safe = st.safe := rfl
theorem lay_acts {st : Pl.St} {i : Int} {s : List Int} : (st.lay i s).acts = st.acts := rfl
theorem lay_off {st : Pl.St} {i : Int} {s : List Int} : (st.lay i s).off = st.off := rfl
theorem lay_armed {st : Pl.St} {i : Int} {s : List Int} : (st.lay i s).armed = st.armed := rfl
theorem lay_left {st : Pl.St} {i : Int} {s : List Int} : (st.lay i s).left = st.left := rfl
theorem lay_spare {st : Pl.St} {i : Int} {s : List Int} : (st.lay i s).spare = st.spare := rfl
theorem lay_fin {w w1 w5 : World} {g : Nat} {F : Nat → Prop} {st : Pl.St} {m ms ml k : Nat} {be : Int} {v v' : Value} {fs fl : Int → Option Value} {i : Int} {s : List Int} (hg5 : g < w5.heap.size) (h : PlC w1 g F st m ms ml be v fs fl k)
    (hms : MapF (boxed w5 g (pcl st ms ml be v) 50) ms k fs) (hml : MapF (boxed w5 g (pcl st ms ml be v) 50) ml (st.wet.length + 1) (fun j => if j = i then some (Value.int .i64 st.wet.length) else fl j))
    (ho : (boxed w5 g (pcl st ms ml be v) 50).ownsRow 0 81 65 v' (st.wet.length + 1) (wcl st.wet ++ wvl i s)) (ht : Turn F w (boxed w5 g (pcl st ms ml be v) 50)) (hat : ∀ j, v'.ownBlock = some j → F j ∨ w.heap.size ≤ j)
    (hm : m + 1 ≤ 100000) (h0 : 0 ≤ i) (h1 : i < st.safe.length) (hs : Pl.Sec s) (hlt : ∀ j, F j → j < w.heap.size) :
    PlB (boxed w5 g (pcl (st.lay i s) ms ml be v') 50) g (grow F w (boxed w5 g (pcl (st.lay i s) ms ml be v') 50)) (st.lay i s) (m + 1) ∧ Turn F w (boxed w5 g (pcl (st.lay i s) ms ml be v') 50) := by
  have hlen : (st.lay i s).wet.length = st.wet.length + 1 := by simp [Pl.St.lay]
  have hsz := h.sizes
  have htz := ht.size
  rw [boxed_size] at htz
  have hown : ∀ j, v'.ownBlock = some j → j ≠ g := fun j hj e => own_ne ho (by rw [boxed_block hg5]) (by decide) (e ▸ hj)
  refine ⟨⟨ms, ml, be, v', fs, _, k, boxed_block hg5, hms.kept (by rw [boxed_block_other h.msne.1, boxed_block_other h.msne.1]), hlen ▸ hml.kept (by rw [boxed_block_other h.msne.2, boxed_block_other h.msne.2]), h.ne, ?_, h.safe, fun j => ?_, h.be, h.ok.lay h0 h1 hs,
    ⟨by rw [hlen]; omega, by show st.acts ≤ _; omega, hm⟩, ⟨.inl h.foot.1, .inl h.foot.2.1, .inl h.foot.2.2.1, fun j hj => ?_⟩, fun j hj => ?_⟩, ht.trans (F' := F) (turn_boxed h.foot.1) fun _ h => .inl h⟩
  · rw [hlen]
    have : wcl (st.lay i s).wet = wcl st.wet ++ wvl i s := by show wcl (st.wet ++ [(i, s)]) = _; rw [wcl_append, wcl_one]
    rw [this]
    exact own_kept ho fun j hj => by rw [boxed_block_other (hown j hj), boxed_block_other (hown j hj)]
  · show ((if j = i then some (Value.int .i64 st.wet.length) else fl j) = none → ∀ t, Pl.now (st.wet ++ [(i, s)]) j t = t) ∧ ∀ u, (if j = i then some (Value.int .i64 st.wet.length) else fl j) = some u → ∃ (q : Nat) (p : Int × List Int), u = .int .i64 q ∧ (st.wet ++ [(i, s)])[q]? = some p ∧ ∀ t, Pl.now (st.wet ++ [(i, s)]) j t = p.2
    by_cases e : j = i
    · subst e
      rw [if_pos rfl]
      refine ⟨fun hn => (nomatch hn), fun u hu => ?_⟩
      injection hu with hu
      exact ⟨st.wet.length, (j, s), hu.symm, by simp, fun t => by rw [Pl.now_snoc, if_pos rfl]⟩
    · rw [if_neg e]
      refine ⟨fun hn t => ?_, fun u hu => ?_⟩
      · rw [Pl.now_snoc, if_neg (Ne.symm e)]; exact (h.last j).1 hn t
      · obtain ⟨q, p, h2, h3, h4⟩ := (h.last j).2 u hu
        exact ⟨q, p, h2, by rw [List.getElem?_append_left (List.getElem?_eq_some_iff.1 h3).1]; exact h3, fun t => by rw [Pl.now_snoc, if_neg (Ne.symm e)]; exact h4 t⟩
  · rcases hat j hj with h' | h'
    · exact .inl h'
    · refine .inr ⟨h', ?_⟩
      have := (ho.lt j hj).2
      rwa [boxed_size] at this ⊢
  · rcases hj with h' | h'
    · have := hlt j h'; rw [boxed_size]; omega
    · exact h'.2

set_option maxRecDepth 20000 in
set_option maxHeartbeats 1600000 in
theorem lay_any (w : World) (g : Nat) (F : Nat → Prop) (st : Pl.St) (m : Nat) (i : Int) (s : List Int) (h : PlB w g F st m) (hm : m + 1 ≤ 100000) (h0 : 0 ≤ i) (h1 : i < st.safe.length) (hs : Pl.Sec s) :
    Calls Tryd.prog 59 #[.pointer (some ⟨g, 0, none⟩), .int .i64 i, sv s] w (PlPost w g F (st.lay i s) (m + 1) (.tuple #[])) := by
  obtain ⟨ms, ml, be, v, fs, fl, k, h⟩ := h
  have hwf : (Lit.int .i64 i).wf = true := WalkArith.wf_i64 (by have := h.ok.size; omega)
  obtain ⟨A, c, rfl, hc1, hc2⟩ := own_form h.own
  have hk1 : ∀ i, F i → (w.alloc (.cells (arr s) 67)).heap[i]? = w.heap[i]? := fun i hi => alloc_block_old (h.lt i hi)
  have HC1 := Lib.hid (h.kept hk1 (by rw [World.size_alloc]; omega))
  have HB1 : Hid ((w.alloc (.cells (arr s) 67)).heap[w.heap.size]? = some (.cells (arr s) 67 (0, 0))) := alloc_block
  have HT1 : Hid (Turn F w (w.alloc (.cells (arr s) 67))) := Turn.of_below ((Below.refl _ _).alloc (Nat.le_refl _) _)
  have HN : Hid (¬ F w.heap.size) := fun hf => absurd (h.lt _ hf) (Nat.lt_irrefl _)
  clear hk1
  go_enter Tryd.func59, Tryd.ntmps59
  go_wp2_with (first | (refine wpList_arr_box rfl 67 _ rfl s rfl ?_))
  simp only [Act.put, List.setIfInBounds_toArray, List.set_cons_zero, List.set_cons_succ]
  generalize hW1 : w.alloc (.cells (arr s) 67) = W1 at *
  clear hW1
  have hg4 : W1.cell? ⟨g, 4, none⟩ = some (.map (some ml)) := by rw [cell_of_row _ _ _ _ _ _ HC1.out.blk]; rfl
  have hg3 : W1.cell? ⟨g, 3, none⟩ = some (.slice A st.wet.length c) := by rw [cell_of_row _ _ _ _ _ _ HC1.out.blk]; rfl
  refine lane_start (ord := [0, 1, 2, 3, 4, 5, 6, 7, 8, 9, 10]) (S := fun w' => w'.cell? ⟨g, 4, none⟩ = some (.map (some ml)) ∧ w'.cell? ⟨g, 3, none⟩ = some (.slice A st.wet.length c)) rfl (by kernel_rfl) ⟨hg4, hg3⟩ (fun hHeld => ?_)
  repeat (refine lane_take (v := ?_) rfl (by kernel_rfl) (by kernel_rfl) (by rfl) ?_ (by assumption) ?_; rotate_left; (focus (intro w hSw; obtain ⟨hS1, hS2⟩ := hSw; go_simp; try (with_reducible rfl))); simp only [Act.put, List.setIfInBounds_toArray, List.set_cons_zero, List.set_cons_succ])
  refine lane_alone rfl (by kernel_rfl) (by rfl) (fun K hK => ?_)
  have hml : MapF W1.drew ml st.wet.length fl := HC1.out.mapL.kept rfl
  obtain ⟨w2, hrun, hm2, hgr2⟩ := hml.put Tryd.underlying47 (by have := HC1.out.sizes; omega) i hwf (.int .i64 st.wet.length)
  refine wp_of_skip (exec_mapUpdate rfl rfl rfl rfl hrun) ?_
  have hkeep : ∀ j o, W1.heap[j]? = some o → j ≠ ml → w2.heap[j]? = some o := fun j o hj hne => (hgr2.block j (Array.getElem?_eq_some_iff.1 hj).1 fun e => hne (by injection e)).trans hj
  have hb2 := hkeep g _ HC1.out.blk (Ne.symm HC1.out.msne.2)
  have ha2 := hkeep _ _ HB1.out (fun e => HN.out (e ▸ HC1.out.foot.2.2.1))
  have ho2 : w2.ownsRow 0 81 65 (.slice A st.wet.length c) st.wet.length (wcl st.wet) := own_kept HC1.out.own fun j hj => by
    have hlt := (HC1.out.own.lt j hj).2
    exact hgr2.block j hlt fun e => (HC1.out.ownne hj).2.2 (by injection e)
  have HMS : Hid (MapF w2 ms k fs) := by
    obtain ⟨es, cc, h'⟩ := HC1.out.mapS.isMap
    exact HC1.out.mapS.kept ((hkeep ms _ h' HC1.out.ne).trans h'.symm)
  have HT2 : Hid (Turn F w w2) := HT1.out.trans (F' := F) ⟨hgr2.os, hgr2.tape, hgr2.output, hgr2.size, fun j hj hn => hgr2.block j hj fun e => hn (by injection e with e; rw [e]; exact HC1.out.foot.2.2.1)⟩ (fun _ h => .inl h)
  have HL1 := Lib.hid HC1.out
  have HM2 := Lib.hid hm2
  have HB2 := Lib.hid hb2
  have HA2 := Lib.hid ha2
  have HO2 := Lib.hid ho2
  have hg4' : w2.cell? ⟨g, 4, none⟩ = some (.map (some ml)) := by rw [cell_of_row _ _ _ _ _ _ hb2]; rfl
  have hg3' : w2.cell? ⟨g, 3, none⟩ = some (.slice A st.wet.length c) := by rw [cell_of_row _ _ _ _ _ _ hb2]; rfl
  refine hK _ _ ⟨hg4', hg3'⟩ (fun _ => ?_)
  clear hK K hb2 ha2 ho2 hm2 hkeep hgr2 hrun hml hHeld hg4 hg3
  refine lane_end (by kernel_rfl) ?_
  go_wp2
  have hr5 : w2.rangeAt w.heap.size 0 (cl .u8 s) := range_arr HA2.out
  clear hg4'
  have hg3a : ∀ o : Obj, (w2.drew.alloc o).cell? ⟨g, 3, none⟩ = some (.slice A st.wet.length c) := fun o => (World.cell?_of_block (alloc_block_old (by have := (Array.getElem?_eq_some_iff.1 HB2.out).1; exact this))).trans hg3'
  have hg3b : ∀ o : Obj, (w2.alloc o).cell? ⟨g, 3, none⟩ = some (.slice A st.wet.length c) := hg3a
  have hr5d : w2.drew.rangeAt w.heap.size 0 (cl .u8 s) := by simpa using hr5
  refine lane_start (ord := [0, 1, 2, 3, 5, 4, 6, 7, 8, 9, 10, 11, 12]) (S := fun _ => True) rfl (by kernel_rfl) trivial (fun _ => ?_)
  iterate 5 (refine lane_take (v := ?_) rfl (by kernel_rfl) (by kernel_rfl) (by rfl) ?_ trivial ?_; rotate_left; (focus (intro w _; go_simp; try (with_reducible rfl))); simp only [Act.put, List.setIfInBounds_toArray, List.set_cons_zero, List.set_cons_succ])
  refine lane_two (j := 6) (ordJ := [7, 4, 8, 9, 10, 11, 12]) rfl rfl (by kernel_rfl) rfl (by rfl) (by rfl) (fun K hK => ?_) (fun K hK => ?_)
  · go_simp
    refine hK _ _ trivial (fun _ => ?_)
    clear hK K
    refine lane_alone rfl (by kernel_rfl) (by rfl) (fun K hK => ?_)
    refine wp_of_value (exec_load rfl rfl (run_load_arr hr5d Tryd.underlying67 size63 hs.1)) ?_
    simp only [Act.put, List.setIfInBounds_toArray, List.set_cons_zero, List.set_cons_succ]
    refine hK _ _ trivial (fun _ => ?_)
    clear hK K
    refine lane_take (v := wv i s) rfl (by kernel_rfl) (by kernel_rfl) (by rfl) (fun w _ => exec_build (vs := #[(0, .int .i64 i), (1, sv s)]) rfl (by simp [Act.eval]) (run_build71 i s hs.1 _)) trivial ?_
    simp only [Act.put, List.setIfInBounds_toArray, List.set_cons_zero, List.set_cons_succ]
    refine lane_alone rfl (by kernel_rfl) (by rfl) (fun K hK => ?_)
    refine wp_of_value (exec_buildSlice (vs := #[(0, wv i s)]) rfl (by simp [Act.eval]) (run_slice71 i s hs.1 _)) ?_
    simp only [Act.put, List.setIfInBounds_toArray, List.set_cons_zero, List.set_cons_succ]
    refine hK _ _ trivial (fun _ => ?_)
    clear hK K
    refine lane_perm (done' := [0, 1, 2, 3, 4, 5, 6, 7, 8]) (by kernel_rfl) ?_
    refine lane_alone rfl (by kernel_rfl) (by rfl) (fun K hK => ?_)
    obtain ⟨it, hit, hz⟩ := Option.map_eq_some_iff.1 info71
    simp only [Prod.mk.injEq] at hz
    have hsz := HL1.out.sizes
    obtain ⟨v', w4, hrun4, hown4, hgr4, _, hat4⟩ := run_append_own_at (P := Tryd.prog) (w := w2.drew.alloc (.cells (wvl i s).toArray 81)) 0 48 48 81 it _ 65 72 Tryd.underlying48 hit hz.1 hz.2.1 hz.2.2 (by simp [Value.cells, cl_length, Pl.sec_zs.1]) (by decide)
      (.slice A st.wet.length c) st.wet.length (wcl st.wet) (own_kept HO2.out fun j hj => alloc_block_old (HO2.out.lt j hj).2) ⟨w2.heap.size, 0, none⟩ 1 1 (wvl i s) (by rw [wvl_len hs.1]) (lit71 w2.drew i s _ rfl) (wvl_cells i s) (by unfold maxLen; omega) (by omega) (Nat.zero_le _)
    refine wp_of_value (exec_append rfl rfl rfl hrun4) ?_
    obtain ⟨A', c', rfl, _, _⟩ := own_form hown4
    have hkeep : ∀ j o, w2.heap[j]? = some o → (Value.slice A st.wet.length c).ownBlock ≠ some j → w4.heap[j]? = some o := fun j o hj hne => by
      have hlt : j < w2.heap.size := (Array.getElem?_eq_some_iff.1 hj).1
      exact (hgr4.block j (by rw [World.size_alloc]; exact Nat.lt_succ_of_lt hlt) fun e => hne e.symm).trans ((alloc_block_old (w := w2.drew) hlt).trans hj)
    have HB4 := Lib.hid (hkeep g _ HB2.out fun e => (HL1.out.ownne e).1 rfl)
    have HMS4 : Hid (MapF w4 ms k fs) := by
      obtain ⟨es, cc, h'⟩ := HMS.out.isMap
      exact HMS.out.kept ((hkeep ms _ h' fun e => (HL1.out.ownne e).2.1 rfl).trans h'.symm)
    have HML4 : Hid (MapF w4 ml (st.wet.length + 1) (fun j => if j = i then some (Value.int .i64 st.wet.length) else fl j)) := by
      obtain ⟨es, cc, h'⟩ := HM2.out.isMap
      exact HM2.out.kept ((hkeep ml _ h' fun e => (HL1.out.ownne e).2.2 rfl).trans h'.symm)
    have ha4 := hkeep _ _ HA2.out fun e => HN.out (HL1.out.foot.2.2.2 _ e)
    have HT4 : Hid (Turn F w w4) := by
      refine (HT2.out.trans (F' := F) (w2 := w2.drew.alloc (.cells (wvl i s).toArray 81)) (Turn.of_below (((Below.refl _ _).drew).alloc (Nat.le_refl _) _)) (fun _ h => .inl h)).trans (F' := F) (Turn.grown hgr4 fun j hj => HL1.out.foot.2.2.2 j hj) (fun _ h => .inl h)
    have HO4 := Lib.hid hown4
    have HAT : Hid (∀ j, (Value.slice A' (st.wet.length + 1) c').ownBlock = some j → F j ∨ w.heap.size ≤ j) := fun j hj => by
      have h2s := HT2.out.size
      rcases hat4 with e | e
      · exact .inl (HL1.out.foot.2.2.2 j (e ▸ hj))
      · rw [e] at hj; injection hj with hj; exact .inr (by have : w2.drew.heap.size = w2.heap.size := rfl; rw [World.size_alloc, this] at hj; omega)
    refine hK _ _ trivial (fun _ => ?_)
    clear hK K hown4 hgr4 hat4 hrun4 hkeep hg3a hg3b hr5d hr5 hg3'
    simp only [Act.put, List.setIfInBounds_toArray, List.set_cons_zero, List.set_cons_succ]
    iterate 2 (refine lane_take (v := ?_) rfl (by kernel_rfl) (by kernel_rfl) (by rfl) ?_ trivial ?_; rotate_left; (focus (intro w _; go_simp; try (with_reducible rfl))); simp only [Act.put, List.setIfInBounds_toArray, List.set_cons_zero, List.set_cons_succ])
    refine lane_alone rfl (by kernel_rfl) (by rfl) (fun K hK => ?_)
    have hg4lt : g < w4.heap.size := (Array.getElem?_eq_some_iff.1 HB4.out).1
    obtain ⟨w5, hw5, hg5⟩ : ∃ w5, w4 = boxed w5 g (pcl st ms ml be (.slice A st.wet.length c)) 50 ∧ g < w5.heap.size := ⟨w4, boxed_self HB4.out, hg4lt⟩
    subst hw5
    have hfin : PlB (boxed w5 g (pcl (st.lay i s) ms ml be (.slice A' (st.wet.length + 1) c')) 50) g (grow F w (boxed w5 g (pcl (st.lay i s) ms ml be (.slice A' (st.wet.length + 1) c')) 50)) (st.lay i s) (m + 1) ∧
        Turn F w (boxed w5 g (pcl (st.lay i s) ms ml be (.slice A' (st.wet.length + 1) c')) 50) :=
      lay_fin hg5 HL1.out HMS4.out HML4.out HO4.out HT4.out HAT.out hm h0 h1 hs h.lt
    unfold pcl at hfin ⊢
    simp only [lay_safe, lay_acts, lay_off, lay_armed, lay_left, lay_spare] at hfin
    go_simp
    refine hK _ _ trivial (fun _ => ?_)
    refine lane_end (by kernel_rfl) ?_
    refine bodyPost_ret (v := .tuple #[]) (by simp [results, Tryd.results59, go_sem]) rfl ?_
    exact ⟨rfl, hfin⟩
  · refine wp_of_value (exec_load rfl rfl (run_load_arr hr5d Tryd.underlying67 size63 hs.1)) ?_
    simp only [Act.put, List.setIfInBounds_toArray, List.set_cons_zero, List.set_cons_succ]
    refine hK _ _ trivial (fun _ => ?_)
    clear hK K
    refine lane_take (v := wv i s) rfl (by kernel_rfl) (by kernel_rfl) (by rfl) (fun w _ => exec_build (vs := #[(0, .int .i64 i), (1, sv s)]) rfl (by simp [Act.eval]) (run_build71 i s hs.1 _)) trivial ?_
    simp only [Act.put, List.setIfInBounds_toArray, List.set_cons_zero, List.set_cons_succ]
    refine lane_two (j := 8) (ordJ := [4, 9, 10, 11, 12]) rfl rfl (by kernel_rfl) rfl (by rfl) (by rfl) (fun K hK => ?_) (fun K hK => ?_)
    · go_simp
      refine hK _ _ trivial (fun _ => ?_)
      clear hK K
      refine lane_alone rfl (by kernel_rfl) (by rfl) (fun K hK => ?_)
      refine wp_of_value (exec_buildSlice (vs := #[(0, wv i s)]) rfl (by simp [Act.eval]) (run_slice71 i s hs.1 _)) ?_
      simp only [Act.put, List.setIfInBounds_toArray, List.set_cons_zero, List.set_cons_succ]
      refine hK _ _ trivial (fun _ => ?_)
      clear hK K
      refine lane_perm (done' := [0, 1, 2, 3, 4, 5, 6, 7, 8]) (by kernel_rfl) ?_
      refine lane_alone rfl (by kernel_rfl) (by rfl) (fun K hK => ?_)
      obtain ⟨it, hit, hz⟩ := Option.map_eq_some_iff.1 info71
      simp only [Prod.mk.injEq] at hz
      have hsz := HL1.out.sizes
      obtain ⟨v', w4, hrun4, hown4, hgr4, _, hat4⟩ := run_append_own_at (P := Tryd.prog) (w := w2.drew.alloc (.cells (wvl i s).toArray 81)) 0 48 48 81 it _ 65 72 Tryd.underlying48 hit hz.1 hz.2.1 hz.2.2 (by simp [Value.cells, cl_length, Pl.sec_zs.1]) (by decide)
        (.slice A st.wet.length c) st.wet.length (wcl st.wet) (own_kept HO2.out fun j hj => alloc_block_old (HO2.out.lt j hj).2) ⟨w2.heap.size, 0, none⟩ 1 1 (wvl i s) (by rw [wvl_len hs.1]) (lit71 w2.drew i s _ rfl) (wvl_cells i s) (by unfold maxLen; omega) (by omega) (Nat.zero_le _)
      refine wp_of_value (exec_append rfl rfl rfl hrun4) ?_
      obtain ⟨A', c', rfl, _, _⟩ := own_form hown4
      have hkeep : ∀ j o, w2.heap[j]? = some o → (Value.slice A st.wet.length c).ownBlock ≠ some j → w4.heap[j]? = some o := fun j o hj hne => by
        have hlt : j < w2.heap.size := (Array.getElem?_eq_some_iff.1 hj).1
        exact (hgr4.block j (by rw [World.size_alloc]; exact Nat.lt_succ_of_lt hlt) fun e => hne e.symm).trans ((alloc_block_old (w := w2.drew) hlt).trans hj)
      have HB4 := Lib.hid (hkeep g _ HB2.out fun e => (HL1.out.ownne e).1 rfl)
      have HMS4 : Hid (MapF w4 ms k fs) := by
        obtain ⟨es, cc, h'⟩ := HMS.out.isMap
        exact HMS.out.kept ((hkeep ms _ h' fun e => (HL1.out.ownne e).2.1 rfl).trans h'.symm)
      have HML4 : Hid (MapF w4 ml (st.wet.length + 1) (fun j => if j = i then some (Value.int .i64 st.wet.length) else fl j)) := by
        obtain ⟨es, cc, h'⟩ := HM2.out.isMap
        exact HM2.out.kept ((hkeep ml _ h' fun e => (HL1.out.ownne e).2.2 rfl).trans h'.symm)
      have ha4 := hkeep _ _ HA2.out fun e => HN.out (HL1.out.foot.2.2.2 _ e)
      have HT4 : Hid (Turn F w w4) := by
        refine (HT2.out.trans (F' := F) (w2 := w2.drew.alloc (.cells (wvl i s).toArray 81)) (Turn.of_below (((Below.refl _ _).drew).alloc (Nat.le_refl _) _)) (fun _ h => .inl h)).trans (F' := F) (Turn.grown hgr4 fun j hj => HL1.out.foot.2.2.2 j hj) (fun _ h => .inl h)
      have HO4 := Lib.hid hown4
      have HAT : Hid (∀ j, (Value.slice A' (st.wet.length + 1) c').ownBlock = some j → F j ∨ w.heap.size ≤ j) := fun j hj => by
        have h2s := HT2.out.size
        rcases hat4 with e | e
        · exact .inl (HL1.out.foot.2.2.2 j (e ▸ hj))
        · rw [e] at hj; injection hj with hj; exact .inr (by have : w2.drew.heap.size = w2.heap.size := rfl; rw [World.size_alloc, this] at hj; omega)
      refine hK _ _ trivial (fun _ => ?_)
      clear hK K hown4 hgr4 hat4 hrun4 hkeep hg3a hg3b hr5d hr5 hg3'
      simp only [Act.put, List.setIfInBounds_toArray, List.set_cons_zero, List.set_cons_succ]
      iterate 2 (refine lane_take (v := ?_) rfl (by kernel_rfl) (by kernel_rfl) (by rfl) ?_ trivial ?_; rotate_left; (focus (intro w _; go_simp; try (with_reducible rfl))); simp only [Act.put, List.setIfInBounds_toArray, List.set_cons_zero, List.set_cons_succ])
      refine lane_alone rfl (by kernel_rfl) (by rfl) (fun K hK => ?_)
      have hg4lt : g < w4.heap.size := (Array.getElem?_eq_some_iff.1 HB4.out).1
      obtain ⟨w5, hw5, hg5⟩ : ∃ w5, w4 = boxed w5 g (pcl st ms ml be (.slice A st.wet.length c)) 50 ∧ g < w5.heap.size := ⟨w4, boxed_self HB4.out, hg4lt⟩
      subst hw5
      have hfin : PlB (boxed w5 g (pcl (st.lay i s) ms ml be (.slice A' (st.wet.length + 1) c')) 50) g (grow F w (boxed w5 g (pcl (st.lay i s) ms ml be (.slice A' (st.wet.length + 1) c')) 50)) (st.lay i s) (m + 1) ∧
          Turn F w (boxed w5 g (pcl (st.lay i s) ms ml be (.slice A' (st.wet.length + 1) c')) 50) :=
        lay_fin hg5 HL1.out HMS4.out HML4.out HO4.out HT4.out HAT.out hm h0 h1 hs h.lt
      unfold pcl at hfin ⊢
      simp only [lay_safe, lay_acts, lay_off, lay_armed, lay_left, lay_spare] at hfin
      go_simp
      refine hK _ _ trivial (fun _ => ?_)
      refine lane_end (by kernel_rfl) ?_
      refine bodyPost_ret (v := .tuple #[]) (by simp [results, Tryd.results59, go_sem]) rfl ?_
      exact ⟨rfl, hfin⟩
    · refine wp_of_value (exec_buildSlice (vs := #[(0, wv i s)]) rfl (by simp [Act.eval]) (run_slice71 i s hs.1 _)) ?_
      simp only [Act.put, List.setIfInBounds_toArray, List.set_cons_zero, List.set_cons_succ]
      refine hK _ _ trivial (fun _ => ?_)
      clear hK K
      refine lane_alone rfl (by kernel_rfl) (by rfl) (fun K hK => ?_)
      go_simp
      refine hK _ _ trivial (fun _ => ?_)
      clear hK K
      refine lane_perm (done' := [0, 1, 2, 3, 4, 5, 6, 7, 8]) (by kernel_rfl) ?_
      refine lane_alone rfl (by kernel_rfl) (by rfl) (fun K hK => ?_)
      obtain ⟨it, hit, hz⟩ := Option.map_eq_some_iff.1 info71
      simp only [Prod.mk.injEq] at hz
      have hsz := HL1.out.sizes
      obtain ⟨v', w4, hrun4, hown4, hgr4, _, hat4⟩ := run_append_own_at (P := Tryd.prog) (w := w2.drew.alloc (.cells (wvl i s).toArray 81)) 0 48 48 81 it _ 65 72 Tryd.underlying48 hit hz.1 hz.2.1 hz.2.2 (by simp [Value.cells, cl_length, Pl.sec_zs.1]) (by decide)
        (.slice A st.wet.length c) st.wet.length (wcl st.wet) (own_kept HO2.out fun j hj => alloc_block_old (HO2.out.lt j hj).2) ⟨w2.heap.size, 0, none⟩ 1 1 (wvl i s) (by rw [wvl_len hs.1]) (lit71 w2.drew i s _ rfl) (wvl_cells i s) (by unfold maxLen; omega) (by omega) (Nat.zero_le _)
      refine wp_of_value (exec_append rfl rfl rfl hrun4) ?_
      obtain ⟨A', c', rfl, _, _⟩ := own_form hown4
      have hkeep : ∀ j o, w2.heap[j]? = some o → (Value.slice A st.wet.length c).ownBlock ≠ some j → w4.heap[j]? = some o := fun j o hj hne => by
        have hlt : j < w2.heap.size := (Array.getElem?_eq_some_iff.1 hj).1
        exact (hgr4.block j (by rw [World.size_alloc]; exact Nat.lt_succ_of_lt hlt) fun e => hne e.symm).trans ((alloc_block_old (w := w2.drew) hlt).trans hj)
      have HB4 := Lib.hid (hkeep g _ HB2.out fun e => (HL1.out.ownne e).1 rfl)
      have HMS4 : Hid (MapF w4 ms k fs) := by
        obtain ⟨es, cc, h'⟩ := HMS.out.isMap
        exact HMS.out.kept ((hkeep ms _ h' fun e => (HL1.out.ownne e).2.1 rfl).trans h'.symm)
      have HML4 : Hid (MapF w4 ml (st.wet.length + 1) (fun j => if j = i then some (Value.int .i64 st.wet.length) else fl j)) := by
        obtain ⟨es, cc, h'⟩ := HM2.out.isMap
        exact HM2.out.kept ((hkeep ml _ h' fun e => (HL1.out.ownne e).2.2 rfl).trans h'.symm)
      have ha4 := hkeep _ _ HA2.out fun e => HN.out (HL1.out.foot.2.2.2 _ e)
      have HT4 : Hid (Turn F w w4) := by
        refine (HT2.out.trans (F' := F) (w2 := w2.drew.alloc (.cells (wvl i s).toArray 81)) (Turn.of_below (((Below.refl _ _).drew).alloc (Nat.le_refl _) _)) (fun _ h => .inl h)).trans (F' := F) (Turn.grown hgr4 fun j hj => HL1.out.foot.2.2.2 j hj) (fun _ h => .inl h)
      have HO4 := Lib.hid hown4
      have HAT : Hid (∀ j, (Value.slice A' (st.wet.length + 1) c').ownBlock = some j → F j ∨ w.heap.size ≤ j) := fun j hj => by
        have h2s := HT2.out.size
        rcases hat4 with e | e
        · exact .inl (HL1.out.foot.2.2.2 j (e ▸ hj))
        · rw [e] at hj; injection hj with hj; exact .inr (by have : w2.drew.heap.size = w2.heap.size := rfl; rw [World.size_alloc, this] at hj; omega)
      refine hK _ _ trivial (fun _ => ?_)
      clear hK K hown4 hgr4 hat4 hrun4 hkeep hg3a hg3b hr5d hr5 hg3'
      simp only [Act.put, List.setIfInBounds_toArray, List.set_cons_zero, List.set_cons_succ]
      iterate 2 (refine lane_take (v := ?_) rfl (by kernel_rfl) (by kernel_rfl) (by rfl) ?_ trivial ?_; rotate_left; (focus (intro w _; go_simp; try (with_reducible rfl))); simp only [Act.put, List.setIfInBounds_toArray, List.set_cons_zero, List.set_cons_succ])
      refine lane_alone rfl (by kernel_rfl) (by rfl) (fun K hK => ?_)
      have hg4lt : g < w4.heap.size := (Array.getElem?_eq_some_iff.1 HB4.out).1
      obtain ⟨w5, hw5, hg5⟩ : ∃ w5, w4 = boxed w5 g (pcl st ms ml be (.slice A st.wet.length c)) 50 ∧ g < w5.heap.size := ⟨w4, boxed_self HB4.out, hg4lt⟩
      subst hw5
      have hfin : PlB (boxed w5 g (pcl (st.lay i s) ms ml be (.slice A' (st.wet.length + 1) c')) 50) g (grow F w (boxed w5 g (pcl (st.lay i s) ms ml be (.slice A' (st.wet.length + 1) c')) 50)) (st.lay i s) (m + 1) ∧
          Turn F w (boxed w5 g (pcl (st.lay i s) ms ml be (.slice A' (st.wet.length + 1) c')) 50) :=
        lay_fin hg5 HL1.out HMS4.out HML4.out HO4.out HT4.out HAT.out hm h0 h1 hs h.lt
      unfold pcl at hfin ⊢
      simp only [lay_safe, lay_acts, lay_off, lay_armed, lay_left, lay_spare] at hfin
      go_simp
      refine hK _ _ trivial (fun _ => ?_)
      refine lane_end (by kernel_rfl) ?_
      refine bodyPost_ret (v := .tuple #[]) (by simp [results, Tryd.results59, go_sem]) rfl ?_
      exact ⟨rfl, hfin⟩
end Go.Proofs.YticefepcoemkoaaDoor
