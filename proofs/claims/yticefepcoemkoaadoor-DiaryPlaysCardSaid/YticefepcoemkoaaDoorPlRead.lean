/-
  Contracts of a plate's acts: Flush, Fall, Read. No conditions but the sizes.
-/
import Derived.Test.YticefepcoemkoaaDoorPlWrite
namespace Go.Proofs.YticefepcoemkoaaDoor
set_option maxRecDepth 20000
open Go.ChangeShapes Go.WideShapes Go.ChangeAt Go.RowKit

theorem settle_len (w : World) (g : Nat) (F : Nat → Prop) (st : Pl.St) (m n : Nat) (x : Int) (h : PlB w g F st m) (hm : m ≤ 50000) (hn : n ≤ st.wet.length) (hx : (n : Int) = x) :
    Calls Tryd.prog 35 #[.pointer (some ⟨g, 0, none⟩), .int .i64 x] w (PlPost w g F (st.settle n) m (.tuple #[])) := by subst hx; exact settle_any w g F st m n h hm hn
theorem wet_cell {w : World} {g : Nat} {F : Nat → Prop} {st : Pl.St} {m : Nat} (h : PlB w g F st m) : ∃ A c, w.cell? ⟨g, 3, none⟩ = some (.slice A st.wet.length c) := by
  obtain ⟨ms, ml, be, v, fs, fl, k, h⟩ := h
  obtain ⟨A, c, rfl, _, _⟩ := own_form h.own
  exact ⟨A, c, by rw [cell_of_row _ _ _ _ _ _ h.blk]; rfl⟩

set_option maxHeartbeats 800000 in
theorem flush_any (w : World) (g : Nat) (F : Nat → Prop) (st : Pl.St) (m : Nat) (h : PlB w g F st m) (hm : m + 1 ≤ 50000) :
    Calls Tryd.prog 50 #[.pointer (some ⟨g, 0, none⟩)] w (PlPost w g F st.flush (m + 1) (.int .i64 st.flushE)) := by
  have hF := h.lt
  have H := Lib.hid h
  clear h
  cases ho : st.off
  · cases hgo : st.goes
    · have HP := Lib.hid (show st.flush = st.act by unfold Pl.St.flush; rw [ho, hgo]; rfl)
      have HE := Lib.hid (show st.flushE = 7 by unfold Pl.St.flushE; rw [ho, hgo]; rfl)
      rw [HP.out, HE.out]
      go_enter Tryd.func50, Tryd.ntmps50
      go_wp2_with (go_at_call 19; refine (on_any _ _ _ _ _ H.out).mono ?_; rintro e w' ⟨rfl, rfl⟩)
      refine (act_any _ _ _ _ _ H.out (by omega)).mono ?_
      rintro e w2 ⟨⟨rfl, hp2, ht2⟩, hs2⟩
      go_wp2
      go_ret
      exact ⟨rfl, hp2, ht2⟩
    · have HP := Lib.hid (show st.flush = st.act.settle st.wet.length by unfold Pl.St.flush; rw [ho, hgo]; rfl)
      have HE := Lib.hid (show st.flushE = 0 by unfold Pl.St.flushE; rw [ho, hgo]; rfl)
      rw [HP.out, HE.out]
      go_enter Tryd.func50, Tryd.ntmps50
      go_wp2_with (go_at_call 19; refine (on_any _ _ _ _ _ H.out).mono ?_; rintro e w' ⟨rfl, rfl⟩)
      refine (act_any _ _ _ _ _ H.out (by omega)).mono ?_
      rintro e w2 ⟨⟨rfl, hp2, ht2⟩, hs2⟩
      rw [grow_same hs2] at hp2
      obtain ⟨A, c, hc⟩ := wet_cell hp2
      rw [Pl.act_wet] at hc
      have HP2 := Lib.hid hp2
      have HT2 := Lib.hid ht2
      clear hp2 ht2 hs2
      go_wp2_with (go_at_call 35; refine (settle_len _ _ _ _ _ st.wet.length _ HP2.out hm (by rw [Pl.act_wet]; exact Nat.le_refl _) rfl).mono ?_; rintro e w3 ⟨rfl, hp3, ht3⟩)
      go_ret
      exact PlPost.from_ hF HT2.out ⟨rfl, hp3, ht3⟩
  · have HP := Lib.hid (show st.flush = st by unfold Pl.St.flush; rw [ho]; rfl)
    have HE := Lib.hid (show st.flushE = 7 by unfold Pl.St.flushE; rw [ho]; rfl)
    have HFIN : Hid (PlPost w g F st (m + 1) (.int .i64 7) (.returned (.int .i64 7)) w) := (PlPost.same H.out).mono (by omega) (by omega)
    rw [HP.out, HE.out]
    go_enter Tryd.func50, Tryd.ntmps50
    go_wp2_with (go_at_call 19; refine (on_any _ _ _ _ _ H.out).mono ?_; rintro e w' ⟨rfl, rfl⟩)
    go_ret
    exact HFIN.out

/-- Behind the settling: on, and not armed. -/
theorem fall_fin {w2 : World} {g : Nat} {F2 : Nat → Prop} {st st' : Pl.St} {m : Nat} (h : PlB w2 g F2 st m) (h1 : st' = { st with armed := false, off := false }) :
    ∃ w0 ms ml be v, w2 = boxed w0 g (pcl st ms ml be v) 50 ∧ g < w0.heap.size ∧ PlB (boxed w0 g (pcl st' ms ml be v) 50) g F2 st' m ∧ Turn F2 w2 (boxed w0 g (pcl st' ms ml be v) 50) ∧ (boxed w0 g (pcl st' ms ml be v) 50).heap.size = w2.heap.size := by
  obtain ⟨ms, ml, be, v, fs, fl, k, h⟩ := h
  obtain ⟨w0, rfl, hg⟩ := h.boxed
  subst h1
  have ho := h.ok
  exact ⟨w0, ms, ml, be, v, rfl, hg, ⟨ms, ml, be, v, fs, fl, k, h.cells (st' := { st with armed := false, off := false }) hg rfl rfl ⟨ho.safe, ho.wet, ho.size, ho.acts, ho.spare, fun e => (nomatch e), ho.left64⟩ (Nat.le_refl _) h.sizes.2.2 h.sizes.2.1⟩, turn_boxed h.foot.1, by rw [boxed_size, boxed_size]⟩

set_option maxHeartbeats 800000 in
theorem fall_any (w : World) (g : Nat) (F : Nat → Prop) (st : Pl.St) (m : Nat) (x : Int) (h : PlB w g F st m) (hm : m ≤ 50000) :
    Calls Tryd.prog 17 #[.pointer (some ⟨g, 0, none⟩), .int .i64 x] w (PlPost w g F (st.fall x) m (.tuple #[])) := by
  have hF := h.lt
  have H := Lib.hid h
  obtain ⟨A, c, hc⟩ := wet_cell h
  clear h
  go_enter Tryd.func17, Tryd.ntmps17
  go_wp2_with (fail)
  all_goals
    refine (settle_len _ _ _ _ _ (min (max x 0) st.wet.length).toNat _ H.out hm (by omega) (by omega)).mono ?_
    rintro e w2 ⟨rfl, hp2, ht2⟩
    obtain ⟨w0, ms, ml, be, v, rfl, hg, hp3, ht3, hs3⟩ := fall_fin (st' := st.fall x) hp2 rfl
    have HFIN : Hid (PlPost w g F (st.fall x) m (.tuple #[]) (.returned (.tuple #[])) (boxed w0 g (pcl (st.fall x) ms ml be v) 50)) := by
      refine ⟨rfl, hp3.more (fun i hi => ?_) (fun i hi => ?_), ht2.next ht3⟩
      · unfold grow at *; rw [hs3]; exact hi
      · unfold grow at hi; rw [hs3] at hi
        rw [hs3]
        exact hp2.lt i hi
    clear hp2 ht2 hp3 ht3 hs3
    unfold pcl at HFIN ⊢
    go_wp2
    refine bodyPost_ret (v := .tuple #[]) (by simp [results, Tryd.results17, go_sem]) rfl ?_
    exact HFIN.out

theorem read_off (w : World) (g : Nat) (F : Nat → Prop) (st : Pl.St) (m : Nat) (i : Int) (h : PlB w g F st m) (ho : st.off = true) :
    Calls Tryd.prog 15 #[.pointer (some ⟨g, 0, none⟩), .int .i64 i] w fun e w' => e = .returned (.tuple #[.slice none 0 0, .int .i64 7]) ∧ w = w' := by
  have H := Lib.hid h
  clear h
  go_enter Tryd.func15, Tryd.ntmps15
  go_wp2_with (go_at_call 19; refine (on_any _ _ _ _ _ H.out).mono ?_; rintro e w' ⟨rfl, rfl⟩)
  exact bodyPost_ret (v := .tuple #[.slice none 0 0, .int .i64 7]) (by simp [results, Tryd.results15, go_sem]) rfl ⟨rfl, rfl⟩
theorem own_lower {w : World} {b b' n size : Nat} {e : TypeId} {v : Value} {xs : List Value} (h : w.ownsRow b e size v n xs) (hb : b' ≤ b) : w.ownsRow b' e size v n xs := by
  refine ⟨h.1, ?_⟩
  rcases h.2 with h' | ⟨g, cap, cur, h1, h2, h3⟩
  · exact .inl h'
  · exact .inr ⟨g, cap, cur, h1, by omega, h3⟩
/-- What Read tells. -/
def Told (w : World) (l : List Int) (e : Ending) (w' : World) : Prop := ∃ A c, e = .returned (.tuple #[.slice A 64 c, .int .i64 0]) ∧ w'.ownsRow w.heap.size 5 1 (.slice A 64 c) 64 (cl .u8 l) ∧ Below w.heap.size w w' ∧ 64 ≤ c ∧ c ≤ maxLen
set_option maxRecDepth 20000 in
set_option maxHeartbeats 800000 in
theorem read_any (w : World) (g : Nat) (F : Nat → Prop) (st : Pl.St) (m : Nat) (i : Int) (h : PlB w g F st m) (ho : st.off = false) (h0 : 0 ≤ i) (h1 : i < st.safe.length) :
    Calls Tryd.prog 15 #[.pointer (some ⟨g, 0, none⟩), .int .i64 i] w (Told w (st.read i)) := by
  have H := Lib.hid h
  have ht : st.there i = true := Pl.there_iff.2 ⟨h0, h1⟩
  have hS := h.ok.read i
  clear h
  go_enter Tryd.func15, Tryd.ntmps15
  go_wp2_with (first | (go_at_call 19; refine (on_any _ _ _ _ _ H.out).mono ?_; rintro e w' ⟨rfl, rfl⟩) | (go_at_call 33; refine (there_any _ _ _ _ _ _ H.out).mono ?_; rintro e w' ⟨rfl, rfl⟩))
  refine (now_any _ _ _ _ _ _ H.out h0 h1).mono ?_
  rintro e w2 ⟨rfl, hb2⟩
  have HB := Lib.hid hb2
  clear hb2
  generalize st.read i = s at *
  go_wp2_with (first | (refine wpList_arr_alloc rfl 67 rfl Pl.zs zero63 ?_) | (refine wpList_arr_store_new rfl 67 _ _ rfl _ rfl (by simp) s rfl 64 size63 hS.1 (by rw [arr_size]; exact Pl.sec_zs.1) ?_) | (go_at_call 27; refine (clone_len _ _ _ 64 s _ (rd_block (b := w2.heap.size) alloc_block) (by simp) hS.1 (by omega)).mono ?_; rintro e w3 ⟨A, c, rfl, ho3, hb3, hc1, hc2⟩))
  rw [hS.1] at ho3 hc1
  have hb4 : Below w.heap.size w w3 := HB.out.trans ((((Below.refl _ _).alloc (Nat.le_refl _) (.cells (arr s) 67)).trans (hb3.mono (by rw [World.size_alloc]; omega))).mono HB.out.size)
  have ho4 : w3.ownsRow w.heap.size 5 1 (.slice A 64 c) 64 (cl .u8 s) := own_lower ho3 (by rw [World.size_alloc]; have := HB.out.size; omega)
  exact bodyPost_ret (v := .tuple #[.slice A 64 c, .int .i64 0]) (by simp [results, Tryd.results15, go_sem, hS.1]) rfl ⟨A, c, rfl, ho4, hb4, hc1, hc2⟩
end Go.Proofs.YticefepcoemkoaaDoor
