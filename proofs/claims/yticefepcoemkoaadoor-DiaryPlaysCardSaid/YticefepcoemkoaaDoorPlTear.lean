/-
  The contract of a torn write. No conditions but the sizes.
-/
import Derived.Test.YticefepcoemkoaaDoorPlLay
namespace Go.Proofs.YticefepcoemkoaaDoor
set_option maxRecDepth 20000
open Go.ChangeShapes Go.WideShapes Go.ChangeAt Go.RowKit

theorem len63 : (Tryd.prog).arrayLen 67 = 64 := by kernel_rfl
theorem size5 : (Tryd.prog.info? 5).map (·.size) = some 1 := by kernel_rfl
theorem rd_block {w : World} {b : Nat} {s : List Int} {t : TypeId} {f : Nat × Nat} (h : w.heap[b]? = some (.cells (arr s) t f)) : Rd w .u8 (b + 1) (some ⟨b, 0, none⟩) s := fun _ =>
  ⟨_, rfl, Nat.lt_succ_self _, fun j u hu => by rw [ad_head, cell_of_row _ _ _ _ _ _ h]; exact arr_at hu⟩
theorem run_slice63 (W : World) (b n : Nat) (hn : n ≤ 64) : (Instr.sliceAt 67 (.pointer (some ⟨b, 0, none⟩)) none (some (.int .i64 n)) none).run Tryd.prog W = .ok (.slice (some ⟨b, 0, none⟩) n 64) W := by
  have hu : (Tryd.prog).underlying 67 = some (.array ((Tryd.prog).arrayLen 67) ((Tryd.prog).elem 67)) := by rw [len63]; exact Tryd.underlying67
  have he : (Tryd.prog).elem 67 = 5 := by kernel_rfl
  rw [run_sliceAt_array_h W _ ⟨b, 0, none⟩ hu .i64 n (by omega) (by rw [len63]; omega), he, run_sizeOf size5, Result.andThen_ok, len63]
  simp [slicedAt, ad_zero]
/-- The same plate, behind a call that makes new blocks alone: another act then. -/
theorem PlPost.after {w w1 w2 : World} {g : Nat} {F : Nat → Prop} {st : Pl.St} {m : Nat} {r : Value} {e : Ending} (hF : ∀ i, F i → i < w.heap.size) (hb : Below w.heap.size w w1) (h : PlPost w1 g F st m r e w2) : PlPost w g F st m r e w2 := by
  obtain ⟨h1, h2, h3⟩ := h
  have hs := hb.size
  refine ⟨h1, h2.more (fun i hi => ?_) (fun i hi => ?_), (Turn.of_below hb).trans (F' := F) h3 fun _ h => .inl h⟩
  · rcases hi with h' | h'
    · exact .inl h'
    · exact .inr ⟨by omega, h'.2⟩
  · rcases hi with h' | h'
    · have := hF i h'; have := h3.size; omega
    · exact h'.2
theorem PlPost.same {w : World} {g : Nat} {F : Nat → Prop} {st : Pl.St} {m : Nat} {r : Value} (h : PlB w g F st m) : PlPost w g F st m r (.returned r) w := ⟨rfl, by rw [grow_same rfl]; exact h, Turn.refl _ _⟩
theorem PlPost.mono {w w' : World} {g : Nat} {F : Nat → Prop} {st : Pl.St} {m m' : Nat} {r : Value} {e : Ending} (h : PlPost w g F st m r e w') (hm : m ≤ m') (hm' : m' ≤ 100000) : PlPost w g F st m' r e w' := ⟨h.1, h.2.1.mono hm hm', h.2.2⟩
theorem PlPost.st {w w' : World} {g : Nat} {F : Nat → Prop} {st st' : Pl.St} {m : Nat} {r : Value} {e : Ending} (h : PlPost w g F st m r e w') (hs : st = st') : PlPost w g F st' m r e w' := hs ▸ h

set_option maxRecDepth 20000 in
set_option maxHeartbeats 1600000 in
theorem tear_any (w : World) (g : Nat) (F : Nat → Prop) (st : Pl.St) (m : Nat) (i : Int) (s : List Int) (h : PlB w g F st m) (hm : m + 1 ≤ 100000) (h0 : 0 ≤ i) (h1 : i < st.safe.length) (hs : Pl.Sec s) :
    Calls Tryd.prog 58 #[.pointer (some ⟨g, 0, none⟩), .int .i64 i, sv s] w (PlPost w g F (st.tear i s) (m + 1) (.tuple #[])) := by
  have hok := h.ok
  have hF := h.lt
  have hB1 : Below w.heap.size w (w.alloc (.cells (arr s) 67)) := (Below.refl _ _).alloc (Nat.le_refl _) _
  have H1 := Lib.hid (h.below hB1)
  have hc9 : ∀ w', PlB w' g F st m → w'.cell? ⟨g, 9, none⟩ = some (.int .i64 st.spare) := fun w' h' => by
    obtain ⟨ms, ml, be, v, fs, fl, k, h'⟩ := h'
    rw [cell_of_row _ _ _ _ _ _ h'.blk]; rfl
  by_cases hz : st.spare = 0
  · have d0 : (st.spare == 0) = true := by simpa using hz
    have hst : st.tear i s = st := by unfold Pl.St.tear; rw [if_pos hz]
    have HFIN : Hid (PlPost w g F (st.tear i s) (m + 1) (.tuple #[]) (.returned (.tuple #[])) (w.alloc (.cells (arr s) 67))) := by
      rw [hst]
      exact ((PlPost.same (h.below hB1)).mono (Nat.le_succ m) hm).after hF hB1
    have hc9' := hc9 _ H1.out
    clear hst hok
    go_enter Tryd.func58, Tryd.ntmps58
    go_wp2_with (first | (refine wpList_arr_box rfl 67 _ rfl s rfl ?_))
    exact bodyPost_ret (v := .tuple #[]) (by simp [results, Tryd.results58, go_sem]) rfl HFIN.out
  · have d0 : (st.spare == 0) = false := by simpa using hz
    have hst : st.tear i s = st.lay i (Pl.torn st.spare s (st.read i)) := by unfold Pl.St.tear; rw [if_neg hz]
    have hsp := hok.spare
    have hrd := hok.read i
    have HX := Lib.hid (Pl.sec_torn hs hrd hsp.2)
    rw [hst]
    have hc9' := hc9 _ H1.out
    obtain ⟨n, hn⟩ : ∃ n : Nat, st.spare = (n : Int) := ⟨st.spare.toNat, by omega⟩
    have HN := Lib.hid hn
    have hb5 : (w.alloc (.cells (arr s) 67)).heap[w.heap.size]? = some (.cells (arr s) 67 (0, 0)) := alloc_block
    have HB5 := Lib.hid hb5
    clear hst hok hb5
    go_enter Tryd.func58, Tryd.ntmps58
    go_wp2_with (first | (refine wpList_arr_box rfl 67 _ rfl s rfl ?_) | (go_at_call 34; refine (now_any _ _ _ _ _ _ H1.out h0 h1).mono ?_; rintro e w2 ⟨rfl, hb2⟩) | (refine wpList_arr_alloc rfl 67 rfl Pl.zs zero63 ?_) | (refine wpList_arr_store_new rfl 67 _ _ rfl _ rfl (by simp) (st.read i) rfl 64 size63 hrd.1 (by rw [arr_size]; exact Pl.sec_zs.1) ?_))
    simp only [Act.put, List.setIfInBounds_toArray, List.set_cons_zero, List.set_cons_succ]
    have HB2 := Lib.hid hb2
    have H2 := Lib.hid (H1.out.below hb2)
    have HBw : Hid (Below w.heap.size w w2) := hB1.trans (hb2.mono (by rw [World.size_alloc]; omega))
    have HA2 : Hid (w2.heap[w.heap.size]? = some (.cells (arr s) 67 (0, 0))) := below_block hb2 HB5.out
    have H3 : ∀ cs, PlB (w2.alloc (.cells cs 67)) g F st m := fun cs => H2.out.below ((Below.refl _ _).alloc (Nat.le_refl _) _)
    have H3' := Lib.hid H3
    have hc9'' : ∀ cs, (w2.alloc (.cells cs 67)).cell? ⟨g, 9, none⟩ = some (.int .i64 n) := fun cs => by rw [← HN.out]; exact hc9 _ (H3 cs)
    have hsz : w.heap.size < w2.heap.size := (Array.getElem?_eq_some_iff.1 HA2.out).1
    have hn64 : n ≤ 64 := by omega
    have hmin : Nat.min 64 n = n := Nat.min_eq_right hn64
    have hs6 : ∀ (W : World) (b : Nat), (Instr.sliceAt 67 (.pointer (some ⟨b, 0, none⟩)) none (some (.int .i64 n)) none).run Tryd.prog W = .ok (.slice (some ⟨b, 0, none⟩) n 64) W := fun W b => run_slice63 W b n hn64
    clear hb2 H3 hc9 hc9' hn
    refine lane_start (ord := [0, 1, 2, 3, 4, 5, 6]) (S := fun w' => w'.cell? ⟨g, 9, none⟩ = some (.int .i64 n)) rfl (by kernel_rfl) (hc9'' _) (fun hHeld => ?_)
    repeat (refine lane_take (v := ?_) rfl (by kernel_rfl) (by kernel_rfl) (by rfl) ?_ (by assumption) ?_; rotate_left; (focus (intro w hSw; go_simp; try (with_reducible rfl))); simp only [Act.put, List.setIfInBounds_toArray, List.set_cons_zero, List.set_cons_succ])
    refine lane_alone rfl (by kernel_rfl) (by rfl) (fun K hK => ?_)
    have hA3 : (w2.alloc (.cells (arr (st.read i)) 67)).drew.heap[w.heap.size]? = some (.cells (arr s) 67 (0, 0)) := (alloc_block_old hsz).trans HA2.out
    refine wp_of_value (exec_copy rfl rfl rfl (run_copy_arr (w := (w2.alloc (.cells (arr (st.read i)) 67)).drew) (b := w2.heap.size) (l := s) (s := st.read i) (k := n) Tryd.underlying31 size5 alloc_block (rd_block hA3) hs.1 (by rw [hrd.1]; exact hn64) hmin)) ?_
    have hbx : boxed (w2.alloc (.cells (arr (st.read i)) 67)).drew w2.heap.size (arr (headed n s (st.read i))) 67 = (w2.alloc (.cells (arr (headed n s (st.read i))) 67)).drew := by
      have := boxed_new w2 (arr (st.read i)) (arr (headed n s (st.read i))) 67 67
      exact congrArg World.drew this
    rw [hbx]
    refine hK _ _ (hc9'' _) (fun _ => ?_)
    simp only [Act.put, List.setIfInBounds_toArray, List.set_cons_zero, List.set_cons_succ]
    clear hK K hHeld
    refine lane_end (by kernel_rfl) ?_
    have hto : headed n s (st.read i) = Pl.torn st.spare s (st.read i) := by unfold headed Pl.torn; rw [HN.out]; rfl
    rw [hto]
    generalize Pl.torn st.spare s (st.read i) = q at *
    go_wp2_with (first | (refine wpList_arr_load rfl 67 _ rfl w2.heap.size 0 rfl q 64 _ Tryd.underlying67 size63 HX.out.1 (range_arr alloc_block) ?_))
    have h4 : PlB (w2.alloc (.cells (arr q) 67)).drew g F st m := (H3'.out _).below (Below.refl _ _).drew
    refine (lay_any _ _ _ _ _ _ _ h4 hm h0 h1 HX.out).mono ?_
    rintro e w5 ⟨rfl, hp, ht⟩
    have HFIN : Hid (PlPost w g F (st.lay i q) (m + 1) (.tuple #[]) (.returned (.tuple #[])) w5) :=
      PlPost.after hF (HBw.out.trans (((Below.refl _ _).alloc (Nat.le_refl _) (.cells (arr q) 67)).drew.mono HBw.out.size)) ⟨rfl, hp, ht⟩
    clear hp ht h4
    go_wp2
    exact bodyPost_ret (v := .tuple #[]) (by simp [results, Tryd.results58, go_sem]) rfl HFIN.out
end Go.Proofs.YticefepcoemkoaaDoor
