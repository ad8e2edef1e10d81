/-
  slices.Collect over slices.Chunk's iterator: a new row with all slices of 64. No conditions but the sizes.
-/
import Derived.Test.YtlbodpffkdfllaaDoorBack
namespace Go.Proofs.YtlbodpffkdfllaaDoor
set_option maxRecDepth 100000
open Go.ChangeShapes Go.WideShapes Go.ChangeAt Go.RowKit
attribute [local go_sem] Oper.semAt_some

theorem rowinfo : (Tryd.prog.info? 31).map (fun i => (i.zero, i.size, i.bytes)) = some (some (.slice none 0 0), 1, 24) := by kernel_rfl
/-- The block for deferred calls is shut at the function's end. -/
theorem below_shut {n₀ D : Nat} {w W : World} {o : Obj} (h : Below n₀ w W) (hD : n₀ ≤ D) (_ : W.heap[D]? = some o) (o' : Obj) (hn : n₀ ≤ w.heap.size) : Below n₀ w (W.putObj D o') :=
  h.trans ((Below.refl n₀ W).grown (grownBy_putObj' W D o') (by have := h.size; omega) (fun k e => by cases e; exact hD))

set_option maxHeartbeats 4000000 in
theorem appendSeq_any (a : Addr) (n c Bs Bn : Nat) (w : World) (h1 : w.cell? ⟨Bs, 0, none⟩ = some (.slice (some a) n c)) (h2 : w.cell? ⟨Bn, 0, none⟩ = some (.int .i64 64)) (hBs : Bs < w.heap.size) (hBn : Bn < w.heap.size) (h0 : n ≤ 5000) (hnc : n ≤ c) (hcm : c ≤ maxLen) :
    Calls Tryd.prog 62 #[.slice none 0 0, .func (.func 63) #[] #[.pointer (some ⟨Bs, 0, none⟩), .pointer (some ⟨Bn, 0, none⟩)]] w fun e w' =>
      ∃ v, e = .returned v ∧ w'.ownsRow w.heap.size 31 1 v ((n + 63) / 64) ((List.range ((n + 63) / 64)).map (chunkV a n)) ∧ Below w.heap.size w w' := by
  obtain ⟨i0, hi, hz0, hz1, hz2⟩ := info_parts rowinfo
  refine (callsIn_wide (n := 0)).1 ?_
  refine callsIn_of_wp_marks Tryd.func62 rfl trivial ?_ rfl
  simp only [Tryd.ntmps62, List.size_toArray, List.length_cons, List.length_nil, Nat.reduceAdd, Nat.reduceSub, Array.replicate_succ, Array.replicate_zero, List.push_toArray, List.append_toArray, List.nil_append, List.cons_append]
  gi_wp2
  have hB0 : Below w.heap.size w (w.alloc (.cells #[.slice none 0 0] 32)) := (Below.refl _ w).alloc (Nat.le_refl _) _
  refine range_over (gf := 63) (lb := #[.pointer (some ⟨Bs, 0, none⟩), .pointer (some ⟨Bn, 0, none⟩)]) rfl (Go.Proofs.enters_of Tryd.func63 (by kernel_rfl) rfl) (fun k => #[chunkV a n k]) (fun _ => rfl) (List.range ((n + 63) / 64))
    (fun pre W => (∃ v, Go.Boxed W w.heap.size 32 v ∧ W.ownsRow w.heap.size 31 1 v pre.length (pre.map (chunkV a n))) ∧ Below w.heap.size w W) ?jp ?jd ?start
    (chunk_gives a n c Bs Bn _ _ (fun pre W hJ => ⟨(hJ.2.cell (p := ⟨Bs, 0, none⟩) hBs).trans h1, (hJ.2.cell (p := ⟨Bn, 0, none⟩) hBn).trans h2⟩) h0 hnc hcm)
    (fun x => { tmps := #[.slice none 0 0, .func (.func 63) #[] #[.pointer (some ⟨Bs, 0, none⟩), .pointer (some ⟨Bn, 0, none⟩)], .pointer (some ⟨w.heap.size, 0, none⟩), undef, .slice none 0 0, chunkV a n x, .func (.func 63) #[] #[.pointer (some ⟨Bs, 0, none⟩), .pointer (some ⟨Bn, 0, none⟩)], chunkV a n x, undef, undef, undef, undef, undef], defers := [] }) ?assign ?body ?done
  case jp =>
    rintro pre W o o' ⟨⟨v, hv, hr⟩, hb⟩ hl ho
    simp only [World.size_alloc] at hl ⊢
    exact ⟨⟨v, hv.kept (grownBy_putObj' W _ _) (by simp; omega), ownsRow_putObj hr _ hl ho⟩, below_shut hb (by omega) hl _ (Nat.le_refl _)⟩
  case jd =>
    rintro pre W ⟨⟨v, hv, hr⟩, hb⟩
    exact ⟨⟨v, hv, own_kept hr fun _ _ => rfl⟩, hb.drew⟩
  case start =>
    intro o
    exact ⟨⟨_, ((Go.Boxed.new w _ _).alloc _).alloc _, World.ownsRow_nil _ _ _ _⟩, (hB0.alloc (by simp) _).alloc (by simp; omega) _⟩
  case assign =>
    intro x W K hK
    gi_wp2
    exact hK
  case body =>
    rintro pre x W ⟨⟨v, hv, hrow⟩, hB⟩ hpre hlt
    have hc := hv.cell
    have hpl : pre.length + 1 ≤ (n + 63) / 64 := by have := hpre.length_le; simpa using this
    obtain ⟨A1, m1, hx⟩ : ∃ A1 m1, chunkV a n x = .slice A1 m1 m1 := ⟨_, _, rfl⟩
    have hm : (pre ++ [x]).map (chunkV a n) = pre.map (chunkV a n) ++ [.slice A1 m1 m1] := by rw [List.map_append, ← hx]; rfl
    rw [hx]
    clear hx
    gi_wp2_with (gi_at_builtin; refine wpListIn_append_own _ rfl _ _ 32 rfl w.heap.size 31 i0 (.slice none 0 0) 1 24 Tryd.underlying32 hi hz0 hz1 hz2 rfl (by decide) _ _ _ rfl (hrow.alloc _) ⟨W.heap.size, 0, none⟩ 1 1 [.slice A1 m1 m1] rfl rfl (cell_one_new _ _ _) (by simp [Value.oneCell']) (by unfold maxLen; omega) (by omega) (by have := hB.size; simp; omega) ?_; intro v' w1 hown' hgrow _; obtain ⟨g', cap', rfl⟩ := ownsRow_succ hown'; obtain ⟨hv1, hv2, hr2, hk2, hb2⟩ := hv.appended (by decide) hrow hB.size (Nat.le_refl _) hown' hgrow; have hc1 := hv1.cell; have hf1 := hv1.frozen)
    refine ⟨rfl, ⟨⟨_, hv2, ?_⟩, hB.trans hb2⟩, fun i _ o hi ho => hk2.same i o hi ho⟩
    rw [List.length_append, hm]
    exact hr2
  case done =>
    rintro W ⟨⟨v, hv, hrow⟩, hB⟩ hK
    have hc := hv.cell
    gi_wp2
    refine ⟨by simp, .inl ⟨_, _, rfl, run_takeDeferred hK, ?_⟩⟩
    refine ⟨_, results_tmp rfl _ _ _, v, rfl, ?_, ?_⟩
    · have := ownsRow_putObj hrow (.deferred none) hK rfl
      simpa using this
    · exact below_shut hB (by simp) hK _ (Nat.le_refl _)
theorem collect_any (a : Addr) (n c Bs Bn : Nat) (w : World) (h1 : w.cell? ⟨Bs, 0, none⟩ = some (.slice (some a) n c)) (h2 : w.cell? ⟨Bn, 0, none⟩ = some (.int .i64 64)) (hBs : Bs < w.heap.size) (hBn : Bn < w.heap.size) (h0 : n ≤ 5000) (hnc : n ≤ c) (hcm : c ≤ maxLen) :
    Calls Tryd.prog 54 #[.func (.func 63) #[] #[.pointer (some ⟨Bs, 0, none⟩), .pointer (some ⟨Bn, 0, none⟩)]] w fun e w' =>
      ∃ v, e = .returned v ∧ w'.ownsRow w.heap.size 31 1 v ((n + 63) / 64) ((List.range ((n + 63) / 64)).map (chunkV a n)) ∧ Below w.heap.size w w' := by
  have HA := Lib.hid (appendSeq_any a n c Bs Bn w h1 h2 hBs hBn h0 hnc hcm)
  clear h1 h2 hBs hBn h0 hnc hcm
  go_enter Tryd.func54, Tryd.ntmps54
  go_wp2_with (fail)
  refine HA.out.mono ?_
  rintro e w1 ⟨v, rfl, h1, h2⟩
  go_wp2
  go_ret
  exact ⟨v, rfl, h1, h2⟩
theorem chunk_any (a : Addr) (n c : Nat) (w : World) : Calls Tryd.prog 55 #[.slice (some a) n c, .int .i64 64] w fun e w' =>
    e = .returned (.func (.func 63) #[] #[.pointer (some ⟨w.heap.size, 0, none⟩), .pointer (some ⟨w.heap.size + 1, 0, none⟩)]) ∧ w' = (w.alloc (.cells #[.slice (some a) n c] 31)).alloc (.cells #[.int .i64 64] 3) := by
  go_enter Tryd.func55, Tryd.ntmps55
  go_wp2
  go_ret
  exact ⟨rfl, rfl⟩
theorem backward_any (A : Option Addr) (n c : Nat) (w : World) : Calls Tryd.prog 56 #[.slice A n c] w fun e w' =>
    e = .returned (.func (.func 64) #[] #[.pointer (some ⟨w.heap.size, 0, none⟩)]) ∧ w' = w.alloc (.cells #[.slice A n c] 32) := by
  go_enter Tryd.func56, Tryd.ntmps56
  go_wp2
  go_ret
  exact ⟨rfl, rfl⟩
end Go.Proofs.YtlbodpffkdfllaaDoor
