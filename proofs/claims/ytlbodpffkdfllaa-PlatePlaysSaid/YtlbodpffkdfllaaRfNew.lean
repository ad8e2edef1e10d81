/-
  The contract of a new plate of the document's own. No conditions but the sizes.
-/
import Derived.Test.YtlbodpffkdfllaaRfDo
import Derived.Test.YtlbodpffkdfllaaPlMake
namespace Go.Proofs.Ytlbodpffkdfllaa
open Go.ChangeShapes Go.WideShapes Go.ChangeAt Go.RowKit
open Rf (sl ys rv)

theorem exec_make64 {o : Oper} {a : Act} {w : World} {l c : Operand} (ho : o.op = .makeSlice 31 l c) (hl : a.eval l = .int .i64 64) (hc : a.eval c = .int .i64 64) :
    (execOp a.eval o).run Try.prog w = .ok (.value (sl w.heap.size)) (w.alloc (.cells (arr Pl.zs) 5)) := by
  obtain ⟨i, hi, hz0, hz1, hz2⟩ := info_parts zero5
  have hr := run_makeSlice (P := Try.prog) w 31 5 i _ Try.underlying31 hi hz0 .i64 .i64 64 64 (by omega) (by omega) (by rw [hz1]; decide) (by rw [hz2]; decide) (by omega)
  rw [hz1, show (64 : Int).toNat = 64 from rfl, made64] at hr
  unfold execOp
  simp only [ho, hl, hc, Sem.run_bind, hr, Result.andThen_ok, Sem.run_pure]
  rfl
theorem run_slice1 (b : Nat) (w : World) : (Instr.buildSlice 26 1 #[(0, sl b)]).run Try.prog w = .ok (.slice (some ⟨w.heap.size, 0, none⟩) 1 1) (w.alloc (.cells #[sl b] 31)) := by
  obtain ⟨it, hit, hz0, hz1, _⟩ := info_parts info31
  refine run_buildSlice w _ _ 1 _ _ it _ Try.underlying26 hit hz0 (by rw [hz1]; omega) (by rw [hz1]; omega) ?_
  rw [hz1]
  rw [fill_step (off := 0) (l := [sl b]) rfl rfl (by simp)]
  show some _ = some _
  simp
/-- One sector's slice more. -/
theorem push31 {w : World} {base : Nat} {v : Value} {n : Nat} {bs : List Nat} (b : Nat) (ho : w.ownsRow base 31 1 v n (bs.map sl)) (hn : n < 1000) (hb : base ≤ w.heap.size) :
    ∃ v' w4, (Builtin.append_ #[26, 26] 26 #[v, .slice (some ⟨w.heap.size, 0, none⟩) 1 1]).run Try.prog (w.alloc (.cells #[sl b] 31)) = .ok v' w4 ∧ w4.ownsRow base 31 1 v' (n + 1) (bs.map sl ++ [sl b]) ∧
      (w.alloc (.cells #[sl b] 31)).grownBy w4 v.ownBlock := by
  obtain ⟨it, hit, hz0, hz1, hz2⟩ := info_parts info31
  obtain ⟨v', w4, hrun4, hown4, hgr4, _, _⟩ := run_append_own_at (P := Try.prog) (w := w.alloc (.cells #[sl b] 31)) base 26 26 31 it _ 1 24 Try.underlying26 hit hz0 hz1 hz2 rfl (by decide)
    v n (bs.map sl) (own_kept ho fun i hi => alloc_block_old (ho.lt i hi).2) ⟨w.heap.size, 0, none⟩ 1 1 [sl b] rfl (fun j u hu => by
      match j with
      | 0 =>
        simp at hu; subst hu
        rw [ad_head, cell_of_row _ _ _ _ _ _ (alloc_block (w := w))]; rfl
      | j + 1 => simp at hu) (fun u hu => by rw [List.mem_singleton] at hu; rw [hu]; rfl) (by unfold maxLen; omega) (by omega) (by rw [World.size_alloc]; omega)
  exact ⟨v', w4, hrun4, hown4, hgr4⟩

theorem drew_two (w : World) (o o' : Obj) : ((w.alloc o).alloc o').drew = (w.drew.alloc o).alloc o' := rfl
/-- A new plate, so far. -/
structure NewR (w wr : World) (j : Nat) (v : Value) (bs : List Nat) : Prop where
  x : wr.heap[w.heap.size]? = some (.cells #[.slice none 0 0, .slice none 0 0, .int .i64 0, .int .i64 0, .bool false, .int .i64 0] 29 (0, 0))
  y : wr.heap[w.heap.size + 1]? = some (.cells #[v, .slice none 0 0, .int .i64 (-1), .int .i64 0, .bool false, .int .i64 0] 29 (0, 0))
  own : wr.ownsRow w.heap.size 31 1 v j (bs.map sl)
  sec : ∀ b ∈ bs, w.heap.size ≤ b ∧ wr.heap[b]? = some (.cells (arr Pl.zs) 5 (0, 0))
  below : Below w.heap.size w wr
theorem NewR.len {w wr : World} {j : Nat} {v : Value} {bs : List Nat} (h : NewR w wr j v bs) : bs.length = j := by have := h.own.1; rw [List.length_map] at this; omega
theorem NewR.step {w wr w2 w4 : World} {j : Nat} {v v' : Value} {bs : List Nat} (h : NewR w wr j v bs) (hb : Below wr.heap.size wr w2) (hs : w2.heap[wr.heap.size]? = some (.cells (arr Pl.zs) 5 (0, 0))) (hg : w2.grownBy w4 v.ownBlock)
    (ho : w4.ownsRow w.heap.size 31 1 v' (j + 1) (bs.map sl ++ [sl wr.heap.size])) : NewR w (w4.setCell ⟨w.heap.size + 1, 0, none⟩ v') (j + 1) v' (bs ++ [wr.heap.size]) ∧ w4.cell? ⟨w.heap.size + 1, 0, none⟩ = some v ∧ w4.frozen? ⟨w.heap.size + 1, 0, none⟩ = false := by
  have hkeep : ∀ q o, wr.heap[q]? = some o → v.ownBlock ≠ some q → w4.heap[q]? = some o := fun q o hq hn => by
    have hl := (Array.getElem?_eq_some_iff.1 hq).1
    exact (hg.block q (Nat.lt_of_lt_of_le hl hb.size) fun e => hn e.symm).trans ((hb.block q hl).trans hq)
  have hbl := h.below.size
  have hx := hkeep _ _ h.x (own_ne h.own h.x (by decide))
  have hy := hkeep _ _ h.y (own_ne h.own h.y (by decide))
  have hw4 := boxed_self hy
  have hn : v'.ownBlock ≠ some (w.heap.size + 1) := own_ne ho hy (by decide)
  have hset : w4.setCell ⟨w.heap.size + 1, 0, none⟩ v' = boxed w4 (w.heap.size + 1) #[v', .slice none 0 0, .int .i64 (-1), .int .i64 0, .bool false, .int .i64 0] 29 := by
    conv => lhs; rw [hw4]
    exact boxed_set
  have hlt : w.heap.size + 1 < w4.heap.size := (Array.getElem?_eq_some_iff.1 hy).1
  refine ⟨?_, by rw [cell_of_row _ _ _ _ _ _ hy]; rfl, by unfold World.frozen?; rw [hy]; simp⟩
  rw [hset]
  refine ⟨by rw [boxed_block_other (by omega)]; exact hx, boxed_block hlt, ?_, fun b hbm => ?_, boxed_below ?_ (Nat.le_succ _)⟩
  · rw [List.map_append]
    exact own_kept ho fun i hi => by rw [boxed_block_other (fun e => hn (by rw [← e]; exact hi))]
  · have hnb : b ≠ w.heap.size + 1 := by
      rcases List.mem_append.1 hbm with hm | hm
      · intro e
        have h2 := (h.sec b hm).2
        rw [e, h.y] at h2
        injection h2 with h2
        injection h2 with _ h2 _
        exact absurd h2 (by decide)
      · rw [List.mem_singleton] at hm
        have := (Array.getElem?_eq_some_iff.1 h.y).1
        omega
    rw [boxed_block_other hnb]
    rcases List.mem_append.1 hbm with hm | hm
    · exact ⟨(h.sec b hm).1, hkeep b _ (h.sec b hm).2 (own_ne h.own (h.sec b hm).2 (by decide))⟩
    · rw [List.mem_singleton] at hm
      subst hm
      refine ⟨hbl, ?_⟩
      refine (hg.block _ (Array.getElem?_eq_some_iff.1 hs).1 fun e => ?_).trans hs
      have := (h.own.lt _ e.symm).2
      omega
  · exact (h.below.trans (hb.mono hbl)).trans (grown_below_own' hg (fun i hi => (h.own.lt i hi).1) (Nat.le_trans hbl hb.size))

theorem new_fin {w wr : World} {n : Nat} {v : Value} {bs : List Nat} (h : NewR w wr n v bs) (hn : n ≤ 1000) (C1 C2 : Array Value) :
    Rf.M (boxed (boxed wr w.heap.size C1 29) (w.heap.size + 1) C2 29) (grow (fun _ => False) w (boxed (boxed wr w.heap.size C1 29) (w.heap.size + 1) C2 29)) v (.slice none 0 0) (Rf.R.new n) bs [] ∧
      Below w.heap.size w (boxed (boxed wr w.heap.size C1 29) (w.heap.size + 1) C2 29) := by
  have hbb : Below w.heap.size w (boxed (boxed wr w.heap.size C1 29) (w.heap.size + 1) C2 29) := boxed_below (boxed_below h.below (Nat.le_refl _)) (Nat.le_succ _)
  have hs : (boxed (boxed wr w.heap.size C1 29) (w.heap.size + 1) C2 29).heap.size = wr.heap.size := by rw [boxed_size, boxed_size]
  have hlen : (Rf.R.new n).safe.length = n := by simp [Rf.R.new]
  have hn1 : v.ownBlock ≠ some w.heap.size := own_ne h.own h.x (by decide)
  have hn2 : v.ownBlock ≠ some (w.heap.size + 1) := own_ne h.own h.y (by decide)
  refine ⟨⟨?_, World.ownsRow_nil _ _ _ _, fun i hi => .inr ?_, fun i hi => by simp [Value.ownBlock] at hi, fun j b l h1 h2 => ?_, fun j p q h1 h2 => (by simp at h1), Rf.ok_new (by omega), fun i hi => ?_⟩, hbb⟩
  · rw [hlen]
    refine own_kept (own_lower h.own (Nat.zero_le _)) fun i hi => ?_
    rw [boxed_block_other (fun e => hn2 (by rw [← e]; exact hi)), boxed_block_other (fun e => hn1 (by rw [← e]; exact hi))]
  · rw [hs]; exact h.own.lt i hi
  · obtain ⟨h3, h4⟩ := h.sec b (List.mem_of_getElem? h1)
    have hl : l = Pl.zs := by
      have := List.mem_of_getElem? h2
      simp only [Rf.R.new, List.mem_replicate] at this
      exact this.2
    subst hl
    have hne : ∀ q cs, wr.heap[q]? = some (.cells cs 29 (0, 0)) → b ≠ q := fun q cs hq e => by
      rw [e, hq] at h4
      injection h4 with h4
      injection h4 with _ h4 _
      exact absurd h4 (by decide)
    refine ⟨.inr ⟨h3, by rw [hs]; exact (Array.getElem?_eq_some_iff.1 h4).1⟩, ?_⟩
    rw [boxed_block_other (hne _ _ h.y), boxed_block_other (hne _ _ h.x)]
    exact h4
  · rcases hi with h' | h'
    · exact h'.elim
    · exact h'.2

set_option maxRecDepth 20000 in
set_option maxHeartbeats 3200000 in
theorem refNew_any (w : World) (n : Nat) (hn : n ≤ 1000) : Calls Try.prog 6 #[.int .i64 n] w (RPost w (fun _ => False) (Rf.R.new n)) := by
  go_enter Try.func6, Try.ntmps6
  go_wp2
  go_loopw [4] (fun t wr => ∃ (j : Nat) (v : Value) (bs : List Nat), j ≤ n ∧ t = .int .i64 j ∧ NewR w wr j v bs) (fun t _ => n - (intOf t).toNat)
  case atStart =>
    refine ⟨0, .slice none 0 0, [], by omega, rfl, ?_, ?_, World.ownsRow_nil _ _ _ _, (by simp), ?_⟩
    · rw [alloc_block_old (by rw [World.size_alloc]; omega)]; exact alloc_block
    · exact alloc_at (by rw [World.size_alloc])
    · exact ((Below.refl _ _).alloc (Nat.le_refl _) _).alloc (by rw [World.size_alloc]; omega) _
  case round =>
    obtain ⟨j, v, bs, hj, rfl, hr⟩ := hrel
    have HR := Lib.hid hr
    obtain ⟨A, c, rfl, _, _⟩ := own_form hr.own
    have hc0 : wr.cell? ⟨w.heap.size + 1, 0, none⟩ = some (.slice A j c) := by rw [cell_of_row _ _ _ _ _ _ hr.y]; rfl
    clear hr
    by_cases hlt : j < n
    · have hc1 : ∀ o : Obj, (wr.drew.alloc o).cell? ⟨w.heap.size + 1, 0, none⟩ = some (.slice A j c) := fun o => (World.cell?_of_block (alloc_block_old (by have := (Array.getElem?_eq_some_iff.1 HR.out.y).1; exact this))).trans hc0
      have hc2 : ∀ o o' : Obj, ((wr.drew.alloc o).alloc o').cell? ⟨w.heap.size + 1, 0, none⟩ = some (.slice A j c) := fun o o' => (World.cell?_of_block (alloc_block_old (by have := (Array.getElem?_eq_some_iff.1 HR.out.y).1; rw [World.size_alloc]; exact Nat.lt_succ_of_lt this))).trans (hc1 o)
      have hc1' : ∀ o : Obj, (wr.alloc o).cell? ⟨w.heap.size + 1, 0, none⟩ = some (.slice A j c) := hc1
      have hc2' : ∀ o o' : Obj, ((wr.alloc o).alloc o').cell? ⟨w.heap.size + 1, 0, none⟩ = some (.slice A j c) := hc2
      go_wp2
      refine lane_start (ord := [0, 1, 2, 3, 4, 5, 6]) (S := fun _ => True) rfl (by kernel_rfl) trivial (fun _ => ?_)
      iterate 1 (refine lane_take (v := ?_) rfl (by kernel_rfl) (by kernel_rfl) (by rfl) ?_ trivial ?_; rotate_left; (focus (intro w _; go_simp; try (with_reducible rfl))); simp only [Act.put, List.setIfInBounds_toArray, List.set_cons_zero, List.set_cons_succ])
      refine lane_two (j := 2) (ordJ := [1, 3, 4, 5, 6]) rfl rfl (by kernel_rfl) rfl (by rfl) (by rfl) (fun K hK => ?_) (fun K hK => ?_)
      · go_simp
        refine hK _ _ trivial (fun _ => ?_)
        clear hK K
        refine lane_alone rfl (by kernel_rfl) (by rfl) (fun K hK => ?_)
        refine wp_of_value (exec_make64 rfl rfl rfl) ?_
        simp only [Act.put, List.setIfInBounds_toArray, List.set_cons_zero, List.set_cons_succ]
        refine hK _ _ trivial (fun _ => ?_)
        clear hK K
        refine lane_alone rfl (by kernel_rfl) (by rfl) (fun K hK => ?_)
        refine wp_of_value (exec_buildSlice (vs := #[(0, sl wr.drew.heap.size)]) rfl (by simp [Act.eval]) (run_slice1 _ _)) ?_
        simp only [Act.put, List.setIfInBounds_toArray, List.set_cons_zero, List.set_cons_succ]
        refine hK _ _ trivial (fun _ => ?_)
        clear hK K
        refine lane_perm (done' := [0, 1, 2, 3]) (by kernel_rfl) ?_
        obtain ⟨v', w4, hrun4, hown4, hgr4⟩ := push31 (w := wr.drew.alloc (.cells (arr Pl.zs) 5)) wr.drew.heap.size (own_kept HR.out.own (fun i hi => alloc_block_old (w := wr.drew) (HR.out.own.lt i hi).2)) (by omega) (by rw [World.size_alloc]; exact Nat.le_succ_of_le HR.out.below.size)
        refine lane_alone rfl (by kernel_rfl) (by rfl) (fun K hK => ?_)
        refine wp_of_value (exec_append rfl rfl rfl hrun4) ?_
        simp only [Act.put, List.setIfInBounds_toArray, List.set_cons_zero, List.set_cons_succ]
        refine hK _ _ trivial (fun _ => ?_)
        clear hK K
        obtain ⟨hst, hcur, hfr⟩ := HR.out.step (w2 := (wr.drew.alloc (.cells (arr Pl.zs) 5)).alloc (.cells #[sl wr.drew.heap.size] 31)) (((Below.refl _ _).drew.alloc (Nat.le_refl _) _).alloc (by rw [World.size_alloc]; exact Nat.le_succ _) _) (by rw [alloc_block_old (by rw [World.size_alloc]; exact Nat.lt_succ_self _)]; exact alloc_block) hgr4 hown4
        have HST := Lib.hid hst
        obtain ⟨A', c', rfl, _, _⟩ := own_form hown4
        clear hst hown4 hgr4 hrun4
        refine lane_take (v := ?_) rfl (by kernel_rfl) (by kernel_rfl) (by rfl) ?_ trivial ?_; rotate_left; (focus (intro w _; go_simp; try (with_reducible rfl))); simp only [Act.put, List.setIfInBounds_toArray, List.set_cons_zero, List.set_cons_succ]
        refine lane_alone rfl (by kernel_rfl) (by rfl) (fun K hK => ?_)
        refine wp_of_skip (exec_store_one (v := .slice A' (j + 1) c') rfl rfl rfl (by kernel_rfl) rfl hcur hfr) ?_
        refine hK _ _ trivial (fun _ => ?_)
        clear hK K hcur hfr
        refine lane_end (by kernel_rfl) ?_
        clear hc0 hc1 hc2 hc1' hc2'
        go_wp2
        go_roundw
        case rel => exact ⟨j + 1, _, bs ++ [wr.heap.size], by omega, by go_num, HST.out⟩
        case measure => simp [intOf]; omega
      · refine wp_of_value (exec_make64 rfl rfl rfl) ?_
        simp only [Act.put, List.setIfInBounds_toArray, List.set_cons_zero, List.set_cons_succ]
        refine hK _ _ trivial (fun _ => ?_)
        clear hK K
        refine lane_two (j := 3) (ordJ := [1, 4, 5, 6]) rfl rfl (by kernel_rfl) rfl (by rfl) (by rfl) (fun K hK => ?_) (fun K hK => ?_)
        · go_simp
          refine hK _ _ trivial (fun _ => ?_)
          clear hK K
          refine lane_alone rfl (by kernel_rfl) (by rfl) (fun K hK => ?_)
          refine wp_of_value (exec_buildSlice (vs := #[(0, sl wr.drew.heap.size)]) rfl (by simp [Act.eval, sl]) (run_slice1 _ _)) ?_
          simp only [Act.put, List.setIfInBounds_toArray, List.set_cons_zero, List.set_cons_succ]
          refine hK _ _ trivial (fun _ => ?_)
          clear hK K
          refine lane_perm (done' := [0, 1, 2, 3]) (by kernel_rfl) ?_
          obtain ⟨v', w4, hrun4, hown4, hgr4⟩ := push31 (w := wr.drew.alloc (.cells (arr Pl.zs) 5)) wr.drew.heap.size (own_kept HR.out.own (fun i hi => alloc_block_old (w := wr.drew) (HR.out.own.lt i hi).2)) (by omega) (by rw [World.size_alloc]; exact Nat.le_succ_of_le HR.out.below.size)
          refine lane_alone rfl (by kernel_rfl) (by rfl) (fun K hK => ?_)
          refine wp_of_value (exec_append rfl rfl rfl hrun4) ?_
          simp only [Act.put, List.setIfInBounds_toArray, List.set_cons_zero, List.set_cons_succ]
          refine hK _ _ trivial (fun _ => ?_)
          clear hK K
          obtain ⟨hst, hcur, hfr⟩ := HR.out.step (w2 := (wr.drew.alloc (.cells (arr Pl.zs) 5)).alloc (.cells #[sl wr.drew.heap.size] 31)) (((Below.refl _ _).drew.alloc (Nat.le_refl _) _).alloc (by rw [World.size_alloc]; exact Nat.le_succ _) _) (by rw [alloc_block_old (by rw [World.size_alloc]; exact Nat.lt_succ_self _)]; exact alloc_block) hgr4 hown4
          have HST := Lib.hid hst
          obtain ⟨A', c', rfl, _, _⟩ := own_form hown4
          clear hst hown4 hgr4 hrun4
          refine lane_take (v := ?_) rfl (by kernel_rfl) (by kernel_rfl) (by rfl) ?_ trivial ?_; rotate_left; (focus (intro w _; go_simp; try (with_reducible rfl))); simp only [Act.put, List.setIfInBounds_toArray, List.set_cons_zero, List.set_cons_succ]
          refine lane_alone rfl (by kernel_rfl) (by rfl) (fun K hK => ?_)
          refine wp_of_skip (exec_store_one (v := .slice A' (j + 1) c') rfl rfl rfl (by kernel_rfl) rfl hcur hfr) ?_
          refine hK _ _ trivial (fun _ => ?_)
          clear hK K hcur hfr
          refine lane_end (by kernel_rfl) ?_
          clear hc0 hc1 hc2 hc1' hc2'
          go_wp2
          go_roundw
          case rel => exact ⟨j + 1, _, bs ++ [wr.heap.size], by omega, by go_num, HST.out⟩
          case measure => simp [intOf]; omega
        · refine wp_of_value (exec_buildSlice (vs := #[(0, sl wr.drew.heap.size)]) rfl (by simp [Act.eval]) (run_slice1 _ _)) ?_
          simp only [Act.put, List.setIfInBounds_toArray, List.set_cons_zero, List.set_cons_succ]
          refine hK _ _ trivial (fun _ => ?_)
          clear hK K
          refine lane_alone rfl (by kernel_rfl) (by rfl) (fun K hK => ?_)
          go_simp
          refine hK _ _ trivial (fun _ => ?_)
          clear hK K
          rw [drew_two, show wr.heap.size + 1 = (wr.drew.alloc (.cells (arr Pl.zs) 5)).heap.size from (World.size_alloc wr.drew _).symm]
          refine lane_perm (done' := [0, 1, 2, 3]) (by kernel_rfl) ?_
          obtain ⟨v', w4, hrun4, hown4, hgr4⟩ := push31 (w := wr.drew.alloc (.cells (arr Pl.zs) 5)) wr.drew.heap.size (own_kept HR.out.own (fun i hi => alloc_block_old (w := wr.drew) (HR.out.own.lt i hi).2)) (by omega) (by rw [World.size_alloc]; exact Nat.le_succ_of_le HR.out.below.size)
          refine lane_alone rfl (by kernel_rfl) (by rfl) (fun K hK => ?_)
          refine wp_of_value (exec_append rfl rfl rfl hrun4) ?_
          simp only [Act.put, List.setIfInBounds_toArray, List.set_cons_zero, List.set_cons_succ]
          refine hK _ _ trivial (fun _ => ?_)
          clear hK K
          obtain ⟨hst, hcur, hfr⟩ := HR.out.step (w2 := (wr.drew.alloc (.cells (arr Pl.zs) 5)).alloc (.cells #[sl wr.drew.heap.size] 31)) (((Below.refl _ _).drew.alloc (Nat.le_refl _) _).alloc (by rw [World.size_alloc]; exact Nat.le_succ _) _) (by rw [alloc_block_old (by rw [World.size_alloc]; exact Nat.lt_succ_self _)]; exact alloc_block) hgr4 hown4
          have HST := Lib.hid hst
          obtain ⟨A', c', rfl, _, _⟩ := own_form hown4
          clear hst hown4 hgr4 hrun4
          refine lane_take (v := ?_) rfl (by kernel_rfl) (by kernel_rfl) (by rfl) ?_ trivial ?_; rotate_left; (focus (intro w _; go_simp; try (with_reducible rfl))); simp only [Act.put, List.setIfInBounds_toArray, List.set_cons_zero, List.set_cons_succ]
          refine lane_alone rfl (by kernel_rfl) (by rfl) (fun K hK => ?_)
          refine wp_of_skip (exec_store_one (v := .slice A' (j + 1) c') rfl rfl rfl (by kernel_rfl) rfl hcur hfr) ?_
          refine hK _ _ trivial (fun _ => ?_)
          clear hK K hcur hfr
          refine lane_end (by kernel_rfl) ?_
          clear hc0 hc1 hc2 hc1' hc2'
          go_wp2
          go_roundw
          case rel => exact ⟨j + 1, _, bs ++ [wr.heap.size], by omega, by go_num, HST.out⟩
          case measure => simp [intOf]; omega
    · obtain rfl : j = n := by omega
      have hw : wr = boxed (boxed wr w.heap.size #[.slice none 0 0, .slice none 0 0, .int .i64 0, .int .i64 0, .bool false, .int .i64 0] 29) (w.heap.size + 1) #[.slice A j c, .slice none 0 0, .int .i64 (-1), .int .i64 0, .bool false, .int .i64 0] 29 := by rw [← boxed_self HR.out.x, ← boxed_self HR.out.y]
      have hzw : w.heap.size + 1 < wr.heap.size := (Array.getElem?_eq_some_iff.1 HR.out.y).1
      obtain ⟨w6, hw6, hz6, hfin⟩ : ∃ w6, wr = boxed (boxed w6 w.heap.size #[.slice none 0 0, .slice none 0 0, .int .i64 0, .int .i64 0, .bool false, .int .i64 0] 29) (w.heap.size + 1) #[.slice A j c, .slice none 0 0, .int .i64 (-1), .int .i64 0, .bool false, .int .i64 0] 29 ∧ w.heap.size + 1 < w6.heap.size ∧ (∀ C1 C2, Rf.M (boxed (boxed w6 w.heap.size C1 29) (w.heap.size + 1) C2 29) (grow (fun _ => False) w (boxed (boxed w6 w.heap.size C1 29) (w.heap.size + 1) C2 29)) (.slice A j c) (.slice none 0 0) (Rf.R.new j) bs [] ∧ Below w.heap.size w (boxed (boxed w6 w.heap.size C1 29) (w.heap.size + 1) C2 29)) := ⟨wr, hw, hzw, fun C1 C2 => new_fin HR.out hn C1 C2⟩
      have HFIN := Lib.hid hfin
      clear HR hc0 hw hzw hfin
      subst hw6
      have hz7 : w.heap.size < w6.heap.size := by omega
      have hne1 : w.heap.size ≠ w.heap.size + 1 := by omega
      go_wp2
      exact bodyPost_ret (v := .agg #[.slice A j c, .slice none 0 0, .int .i64 (-1), .int .i64 0, .bool false, .int .i64 0]) (by simp [results, Try.results6, go_sem, *]) rfl ⟨_, _, _, _, rfl, HFIN.out _ _⟩
end Go.Proofs.Ytlbodpffkdfllaa
