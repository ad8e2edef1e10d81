/-
  Contracts of a plate's inner acts: a sector as the last write has it, a write laid, a torn one. No conditions but the sizes.
-/
import Derived.Test.YticefepcoemkoaaDoorPlAct
import Derived.Test.YticefepcoemkoaaDoorBuf
import Derived.Test.YticefepcoemkoaaDoorLane
namespace Go.Proofs.YticefepcoemkoaaDoor
set_option maxRecDepth 20000
open Go.ChangeShapes Go.WideShapes Go.ChangeAt Go.RowKit

theorem info63 : (Tryd.prog.info? 67).map (fun i => (i.zero, i.size)) = some (some (sv Pl.zs), 64) := by kernel_rfl
theorem zero63 (w : World) : (zeroValue 67).run Tryd.prog w = .ok (sv Pl.zs) w := (zero_of_info info63).1 w
theorem zero3 (w : World) : (zeroValue 3).run Tryd.prog w = .ok (.int .i64 0) w := (zero_of_info (n := 1) (by kernel_rfl)).1 w
theorem size63 : (Tryd.prog.info? 67).map (·.size) = some 64 := (zero_of_info info63).2

theorem wcl_len (l : List (Int × List Int)) (h : ∀ p ∈ l, Pl.Sec p.2) : (wcl l).length = 65 * l.length := by
  unfold wcl
  induction l with
  | nil => rfl
  | cons p r ih =>
    rw [List.flatMap_cons, List.length_append, ih fun q hq => h q (by simp [hq]), List.length_cons, cl_length, (h p (by simp)).1, List.length_cons]; omega
theorem wcl_append (a b : List (Int × List Int)) : wcl (a ++ b) = wcl a ++ wcl b := by simp [wcl]
theorem wcl_at {l : List (Int × List Int)} (h : ∀ p ∈ l, Pl.Sec p.2) {i : Nat} {p : Int × List Int} (hi : l[i]? = some p) (j : Nat) (hj : j < 65) : (wcl l)[65 * i + j]? = (Value.int .i64 p.1 :: cl .u8 p.2)[j]? := by
  obtain ⟨hl, hp⟩ := List.getElem?_eq_some_iff.1 hi
  have hs : l = l.take i ++ p :: l.drop (i + 1) := by rw [← hp, ← List.drop_eq_getElem_cons hl, List.take_append_drop]
  have ht : (l.take i).length = i := by rw [List.length_take]; omega
  have hlen := wcl_len (l.take i) fun q hq => h q (List.mem_of_mem_take hq)
  have hp2 := (h p (List.mem_of_getElem? hi)).1
  rw [hs, wcl_append, List.getElem?_append_right (by omega), hlen, ht, show 65 * i + j - 65 * i = j by omega]
  show ((Value.int .i64 p.1 :: cl .u8 p.2) ++ wcl (l.drop (i + 1)))[j]? = _
  rw [List.getElem?_append_left (by rw [List.length_cons, cl_length]; omega)]

/-- The cells of a write. -/
theorem PlC.write_at {w : World} {g : Nat} {F : Nat → Prop} {st : Pl.St} {m ms ml k : Nat} {be : Int} {v : Value} {fs fl : Int → Option Value} (h : PlC w g F st m ms ml be v fs fl k) {i : Nat} {p : Int × List Int} (hi : st.wet[i]? = some p) :
    ∃ b c, v = .slice (some ⟨b, 0, none⟩) st.wet.length c ∧ st.wet.length ≤ c ∧ b < w.heap.size ∧ b ≠ g ∧ w.cell? ⟨b, i * 65, none⟩ = some (.int .i64 p.1) ∧ w.rangeAt b (i * 65 + 1) (cl .u8 p.2) := by
  rw [Nat.mul_comm i 65]
  obtain ⟨A, c, rfl, h1, h2⟩ := own_form h.own
  have hw : ∀ p ∈ st.wet, Pl.Sec p.2 := fun p hp => (h.ok.wet p hp).2.2
  rcases h.own.2 with ⟨_, hn⟩ | ⟨b, cap, cur, hv, _⟩
  · have := h.own.1
    rw [wcl_len _ hw, hn] at this
    rw [List.eq_nil_of_length_eq_zero (show st.wet.length = 0 by simp at this; omega)] at hi
    cases hi
  · injection hv with hA _ hc
    subst hA
    have hb := h.own.lt b rfl
    have hne := (h.ownne (i := b) rfl).1
    have hcell := fun j u => h.own.cells (g := b) rfl j u
    refine ⟨b, c, rfl, h1, hb.2, hne, ?_, fun j u hu => ?_⟩
    · have := hcell (65 * i) (.int .i64 p.1) (by have := wcl_at hw hi 0 (by omega); rw [Nat.add_zero] at this; rw [this]; rfl)
      rwa [ad_head] at this
    · have hlt := (List.getElem?_eq_some_iff.1 hu).1
      rw [cl_length, (hw p (List.mem_of_getElem? hi)).1] at hlt
      have := hcell (65 * i + (j + 1)) u (by rw [wcl_at hw hi (j + 1) (by omega)]; exact hu)
      rw [ad_head] at this
      rw [← this]; congr 2; omega

set_option maxRecDepth 20000 in
set_option maxHeartbeats 800000 in
theorem now_any (w : World) (g : Nat) (F : Nat → Prop) (st : Pl.St) (m : Nat) (i : Int) (h : PlB w g F st m) (h0 : 0 ≤ i) (h1 : i < st.safe.length) :
    Calls Tryd.prog 34 #[.pointer (some ⟨g, 0, none⟩), .int .i64 i] w fun e w' => e = .returned (sv (st.read i)) ∧ Below w.heap.size w w' := by
  obtain ⟨ms, ml, be, v, fs, fl, k, h⟩ := h
  have hwf : (Lit.int .i64 i).wf = true := WalkArith.wf_i64 (by have := h.ok.size; omega)
  have hS := (h.ok.read i).1
  have hL := h.last i
  cases hfl : fl i with
  | none =>
    have hread : st.read i = st.safe.getD i.toNat Pl.zs := by unfold Pl.St.read; rw [hL.1 hfl]
    have hsf : (fs i).getD (sv Pl.zs) = sv (st.read i) := by
      have hlt : i.toNat < st.safe.length := by omega
      have := (h.safe i.toNat _ (List.getElem?_eq_getElem hlt)).1
      rw [show ((i.toNat : Nat) : Int) = i by omega] at this
      rw [this, hread, List.getD_eq_getElem?_getD, List.getElem?_eq_getElem hlt]; rfl
    have hlk : ∀ o : Obj, (Instr.lookup 47 (.map (some ml)) (.int .i64 i) true).run Tryd.prog (w.alloc o) = .ok (.tuple #[.int .i64 0, .bool false]) (w.alloc o) := fun o => by
      have := (h.mapL.kept (alloc_block_old (o := o) h.mapL.lt)).look_ok Tryd.underlying47 (zero3 _) i hwf
      rw [hfl] at this; exact this
    have hls : ∀ o : Obj, (Instr.lookup 46 (.map (some ms)) (.int .i64 i) false).run Tryd.prog (w.alloc o) = .ok (sv (st.read i)) (w.alloc o) := fun o => by
      have := (h.mapS.kept (alloc_block_old (o := o) h.mapS.lt)).look Tryd.underlying46 (zero63 _) i hwf
      rw [hsf] at this; exact this
    obtain ⟨w0, rfl, hg⟩ := h.boxed
    clear h hL hread hsf hwf
    unfold pcl at hlk hls ⊢
    generalize st.read i = s at *
    go_enter Tryd.func34, Tryd.ntmps34
    go_wp2_with (first | (refine wpList_arr_alloc rfl 67 rfl Pl.zs zero63 ?_) | (refine wpList_arr_store_new rfl 67 _ _ rfl _ rfl (by simp) s rfl 64 size63 hS (by rw [arr_size]; exact Pl.sec_zs.1) ?_))
    refine ret_cell rfl rfl (load_arr (alloc_at (by simp)) Tryd.underlying67 size63 hS) rfl ⟨rfl, (Below.refl _ _).alloc (Nat.le_refl _) _⟩
  | some u =>
    obtain ⟨q, p, rfl, hq, hnow⟩ := hL.2 u hfl
    have hread : st.read i = p.2 := hnow _
    have hlk : ∀ o : Obj, (Instr.lookup 47 (.map (some ml)) (.int .i64 i) true).run Tryd.prog (w.alloc o) = .ok (.tuple #[.int .i64 q, .bool true]) (w.alloc o) := fun o => by
      have := (h.mapL.kept (alloc_block_old (o := o) h.mapL.lt)).look_ok Tryd.underlying47 (zero3 _) i hwf
      rw [hfl] at this; exact this
    obtain ⟨b, c, rfl, hwc, hbl, hbg, _, hr⟩ := h.write_at hq
    have hqn : q < st.wet.length := (List.getElem?_eq_some_iff.1 hq).1
    have HR : Hid (∀ o : Obj, (w.alloc o).rangeAt b (q * 65 + 1) (cl .u8 (st.read i))) := by rw [hread]; exact fun o => World.rangeAt_alloc hr o
    obtain ⟨w0, rfl, hg⟩ := h.boxed
    clear h hL hread hwf hr hq hnow
    unfold pcl at hlk HR ⊢
    generalize st.read i = s at *
    go_enter Tryd.func34, Tryd.ntmps34
    go_wp2_with (first | (refine wpList_arr_alloc rfl 67 rfl Pl.zs zero63 ?_) | (refine wpList_arr_load rfl 67 _ rfl b (q * 65 + 1) rfl s 64 _ Tryd.underlying67 size63 hS (HR.out _) ?_) | (refine wpList_arr_store_new rfl 67 _ _ rfl _ rfl (by simp) s rfl 64 size63 hS (by rw [arr_size]; exact Pl.sec_zs.1) ?_))
    refine ret_cell rfl rfl (load_arr (alloc_at (by simp)) Tryd.underlying67 size63 hS) rfl ⟨rfl, (Below.refl _ _).alloc (Nat.le_refl _) _⟩
end Go.Proofs.YticefepcoemkoaaDoor
