/-
  Contracts of a plate's small acts: one act more, to be armed, a new one; and of a nil one. No conditions but the sizes.
-/
import Derived.Test.YticefepcoemkoaaDoorPlMem
namespace Go.Proofs.YticefepcoemkoaaDoor
set_option maxRecDepth 20000
open Go.ChangeShapes Go.WideShapes Go.ChangeAt Go.RowKit

theorem act_goes {st : Pl.St} (h : st.goes = true) : st.act = { st with left := if st.armed then st.left - 1 else st.left, acts := st.acts + 1 } := by unfold Pl.St.act; rw [if_pos h]
theorem act_stops {st : Pl.St} (h : st.goes = false) : st.act = { st with off := true } := by unfold Pl.St.act; rw [if_neg (by rw [h]; decide)]
theorem act_acts {st : Pl.St} : st.act.acts ≤ st.acts + 1 := by unfold Pl.St.act; split <;> simp; omega

set_option maxHeartbeats 400000 in
theorem act_any (w : World) (g : Nat) (F : Nat → Prop) (st : Pl.St) (m : Nat) (h : PlB w g F st m) (hm : m + 1 ≤ 100000) :
    Calls Tryd.prog 57 #[.pointer (some ⟨g, 0, none⟩)] w (fun e w' => PlPost w g F st.act (m + 1) (.bool st.goes) e w' ∧ w'.heap.size = w.heap.size) := by
  obtain ⟨ms, ml, be, v, fs, fl, k, h⟩ := h
  have hok := h.ok
  have ha := h.sizes.2.1
  have ha0 := hok.acts
  have hl := hok.left
  have hl2 := hok.left64
  obtain ⟨w0, rfl, hg⟩ := h.boxed
  have HC := Lib.hid h
  have fin : ∀ st' : Pl.St, st.act = st' → PlB (boxed w0 g (pcl st' ms ml be v) 50) g (grow F (boxed w0 g (pcl st ms ml be v) 50) (boxed w0 g (pcl st' ms ml be v) 50)) st.act (m + 1) ∧ Turn F (boxed w0 g (pcl st ms ml be v) 50) (boxed w0 g (pcl st' ms ml be v) 50) := by
    rintro st' rfl
    refine ⟨?_, turn_boxed HC.out.foot.1⟩
    rw [grow_same (by rw [boxed_size, boxed_size])]
    exact ⟨ms, ml, be, v, fs, fl, k, HC.out.cells hg (Pl.act_safe st) (Pl.act_wet st) hok.act (by omega) hm (by have := act_acts (st := st); omega)⟩
  have FIN := Lib.hid fin
  clear fin h hok
  cases hd : st.armed
  · have hgo : st.goes = true := by simp [Pl.St.goes, hd]
    have HA : Hid (st.act = { st with left := st.left, acts := st.acts + 1 }) := by rw [act_goes hgo, hd]; rfl
    have HG := Lib.hid hgo
    clear hgo
    unfold pcl
    rw [hd]
    go_enter Tryd.func57, Tryd.ntmps57
    go_wp2
    go_ret
    have := FIN.out _ HA.out
    unfold pcl at this
    simp only [hd] at this
    exact ⟨⟨ret_bool HG.out.symm, this⟩, by rw [boxed_size, boxed_size]⟩
  · cases hz : (st.left == 0)
    · have hgo : st.goes = true := by simp at hz; simp [Pl.St.goes, hd, hz]
      have HA : Hid (st.act = { st with left := st.left - 1, acts := st.acts + 1 }) := by rw [act_goes hgo, hd]; rfl
      have HG := Lib.hid hgo
      clear hgo
      have := hl hd
      unfold pcl
      rw [hd]
      go_enter Tryd.func57, Tryd.ntmps57
      go_wp2
      go_ret
      have := FIN.out _ HA.out
      unfold pcl at this
      simp only [hd] at this
      exact ⟨⟨ret_bool HG.out.symm, this⟩, by rw [boxed_size, boxed_size]⟩
    · have hgo : st.goes = false := by simp at hz; simp [Pl.St.goes, hd, hz]
      have HA : Hid (st.act = { st with off := true }) := act_stops hgo
      have HG := Lib.hid hgo
      clear hgo
      unfold pcl
      rw [hd]
      go_enter Tryd.func57, Tryd.ntmps57
      go_wp2
      go_ret
      have := FIN.out _ HA.out
      unfold pcl at this
      simp only [hd] at this
      exact ⟨⟨ret_bool HG.out.symm, this⟩, by rw [boxed_size, boxed_size]⟩

theorem new_any (w : World) (n : Int) (hn : n ≤ 1000) :
    Calls Tryd.prog 7 #[.int .i64 n] w fun e w' => e = .returned (.pointer (some ⟨w.heap.size + 2, 0, none⟩)) ∧ PlB w' (w.heap.size + 2) (fun i => w.heap.size ≤ i ∧ i < w'.heap.size) (Pl.St.new n) 0 ∧ Below w.heap.size w w' := by
  have HF : Hid (PlB (((w.alloc (.map #[] 0)).alloc (.map #[] 0)).alloc (.cells (pcl (Pl.St.new n) w.heap.size (w.heap.size + 1) 0 (.slice none 0 0)) 50)) (w.heap.size + 1 + 1) (fun i => w.heap.size ≤ i ∧ i < w.heap.size + 3) (Pl.St.new n) 0) := by
    refine ⟨w.heap.size, w.heap.size + 1, 0, .slice none 0 0, fun _ => none, fun _ => none, 0, ?_⟩
    have s1 : (w.alloc (.map #[] 0)).heap.size = w.heap.size + 1 := World.size_alloc _ _
    have s2 : ((w.alloc (.map #[] 0)).alloc (.map #[] 0)).heap.size = w.heap.size + 1 + 1 := by rw [World.size_alloc, s1]
    refine ⟨?_, ?_, ?_, by omega, World.ownsRow_nil _ _ _ _, fun j s hj => ?_, fun j => ⟨fun _ s => rfl, fun u hu => (nomatch hu)⟩, ?_, Pl.ok_new hn, by simp [Pl.St.new], ?_, fun i hi => ?_⟩
    · rw [← s2]; exact alloc_block
    · refine (mapF_made w).kept ?_
      rw [alloc_block_old (by omega), alloc_block_old (by omega)]
    · have := mapF_made (w.alloc (.map #[] 0))
      rw [s1] at this
      exact this.kept (alloc_block_old (by omega))
    · have hs : s = Pl.zs := by
        have := List.mem_of_getElem? hj
        simp only [Pl.St.new, List.mem_replicate] at this
        exact this.2
      subst hs
      exact ⟨rfl, fun _ => rfl⟩
    · exact ⟨Int.le_refl _, by omega⟩
    · exact ⟨by omega, by omega, by omega, fun i hi => by simp [Value.ownBlock] at hi⟩
    · rw [World.size_alloc, s2]; omega
  have HB : Hid (Below w.heap.size w (((w.alloc (.map #[] 0)).alloc (.map #[] 0)).alloc (.cells (pcl (Pl.St.new n) w.heap.size (w.heap.size + 1) 0 (.slice none 0 0)) 50))) :=
    (((Below.refl _ _).alloc (Nat.le_refl _) _).alloc (by rw [World.size_alloc]; omega) _).alloc (by rw [World.size_alloc, World.size_alloc]; omega) _
  have hmm := @run_makeMap Tryd.prog
  go_enter Tryd.func7, Tryd.ntmps7
  go_wp2
  all_goals
    go_ret
    have h1 := HF.out
    have h2 := HB.out
    have hsz : ∀ (a b c : Obj), (((w.alloc a).alloc b).alloc c).heap.size = w.heap.size + 3 := fun a b c => by rw [World.size_alloc, World.size_alloc, World.size_alloc]
  · have e : (((Pl.St.new n).safe.length : Nat) : Int) = 0 := by simp [Pl.St.new]; omega
    simp only [pcl, e] at h1 h2
    refine ⟨rfl, ?_, h2⟩
    rw [hsz]
    exact h1
  · have e : (((Pl.St.new n).safe.length : Nat) : Int) = n := by simp [Pl.St.new]; omega
    simp only [pcl, e] at h1 h2
    refine ⟨rfl, ?_, h2⟩
    rw [hsz]
    exact h1
theorem size_nil (w : World) : Calls Tryd.prog 20 #[.pointer none] w fun e w' => e = .returned (.int .i64 0) ∧ w = w' := by
  go_enter Tryd.func20, Tryd.ntmps20
  go_wp2
  go_ret
  exact ⟨rfl, rfl⟩
theorem wet_nil (w : World) : Calls Tryd.prog 16 #[.pointer none] w fun e w' => e = .returned (.int .i64 0) ∧ w = w' := by
  go_enter Tryd.func16, Tryd.ntmps16
  go_wp2
  go_ret
  exact ⟨rfl, rfl⟩
theorem on_nil (w : World) : Calls Tryd.prog 19 #[.pointer none] w fun e w' => e = .returned (.bool false) ∧ w = w' := by
  go_enter Tryd.func19, Tryd.ntmps19
  go_wp2
  go_ret
  exact ⟨rfl, rfl⟩
theorem fall_nil (w : World) (a : Int) : Calls Tryd.prog 17 #[.pointer none, .int .i64 a] w fun e w' => e = .returned (.tuple #[]) ∧ w = w' := by
  go_enter Tryd.func17, Tryd.ntmps17
  go_wp2
  refine bodyPost_ret (v := .tuple #[]) (by simp [results, Tryd.results17, go_sem]) rfl ?_
  exact ⟨rfl, rfl⟩
theorem flush_nil (w : World) : Calls Tryd.prog 50 #[.pointer none] w fun e w' => e = .returned (.int .i64 7) ∧ w = w' := by
  go_enter Tryd.func50, Tryd.ntmps50
  go_wp2_with (go_at_call 19; refine (on_nil _).mono ?_; rintro e w' ⟨rfl, rfl⟩)
  go_ret
  exact ⟨rfl, rfl⟩
theorem there_nil (w : World) (i : Int) : Calls Tryd.prog 33 #[.pointer none, .int .i64 i] w fun e w' => e = .returned (.bool false) ∧ w = w' := by
  cases d0 : decide (0 ≤ i)
  · go_enter Tryd.func33, Tryd.ntmps33
    go_wp2
    go_ret
    exact ⟨rfl, rfl⟩
  · have d1 : decide (i < 0) = false := by simp at d0 ⊢; omega
    go_enter Tryd.func33, Tryd.ntmps33
    go_wp2_with (go_at_call 20; refine (size_nil _).mono ?_; rintro e w' ⟨rfl, rfl⟩)
    go_ret
    exact ⟨rfl, rfl⟩
theorem write_nil (w : World) (i : Int) (A : Option Addr) (n c : Nat) : Calls Tryd.prog 49 #[.pointer none, .int .i64 i, .slice A n c] w fun e w' => e = .returned (.int .i64 1) ∧ w = w' := by
  go_enter Tryd.func49, Tryd.ntmps49
  go_wp2_with (go_at_call 33; refine (there_nil _ _).mono ?_; rintro e w' ⟨rfl, rfl⟩)
  go_ret
  exact ⟨rfl, rfl⟩
theorem read_nil (w : World) (i : Int) : Calls Tryd.prog 15 #[.pointer none, .int .i64 i] w fun e w' => e = .returned (.tuple #[.slice none 0 0, .int .i64 7]) ∧ w = w' := by
  go_enter Tryd.func15, Tryd.ntmps15
  go_wp2_with (go_at_call 19; refine (on_nil _).mono ?_; rintro e w' ⟨rfl, rfl⟩)
  exact bodyPost_ret (v := .tuple #[.slice none 0 0, .int .i64 7]) (by simp [results, Tryd.results15, go_sem]) rfl ⟨rfl, rfl⟩
end Go.Proofs.YticefepcoemkoaaDoor
