/-
  A range over a function, walked at the fence that asks nothing, where each round goes on: the caller's word J between two rounds, with the loop's record and the block for deferred calls at their places. No conditions.
  slices.Chunk's iterator over a row of bytes: it hands over as many slices of 64 bytes as there are, the last one with what is left. No conditions but the sizes.
  slices.Backward's iterator over a row of slices of bytes: it hands over each with its place, from the last one on. No conditions but the sizes.
  slices.Collect over slices.Chunk's iterator: a new row with all slices of 64. No conditions but the sizes.
-/
import Derived.RangeFuncBox
import Derived.RangeFuncLeaves
import Derived.RangeFuncCalls
import Derived.RangeFuncBound
import Derived.Shelf.Abstract
import Derived.WalkKit
import Derived.OwnWalkIn
import Derived.TacticsInMore
import Derived.LoopNIn
import Derived.LoopIn
import Derived.Test.YticefepcoemkoaaDoorRows
import Derived.Test.YticefepcoemkoaaDoorBuf
namespace Go.Proofs.YticefepcoemkoaaDoor
section
open Go.RowKit Go.Shelf

/-- An iterator at hand: called with yield it hands over xs, one by one, whatever R is that each round carries on. -/
def Gives {α : Type} (P : Program) (l gf : Nat) (lb : Array Value) (encs : α → Array Value) (xs : List α) (J : List α → World → Prop) : Prop :=
  ∀ (R : List α → World → Prop), (∀ pre W, R pre W → J pre W) → (∀ pre W, R pre W → R pre W.drew) →
    (∀ pre x W, R pre W → pre ++ [x] <+: xs → YieldAt Fence.wide 0 P l (encs x) W fun e W' => e = .returned (.bool true) ∧ R (pre ++ [x]) W') →
    ∀ W1, R [] W1 → CallsIn Fence.wide 0 P gf (#[.func (.yield l) #[] #[]] ++ lb) W1 fun e W' => (∃ v, e = .returned v) ∧ R xs W'

/-- How a round ends: it goes on, J holds, and the loop's own blocks lie as they lay. -/
structure RoundEnd {α : Type} (J : List α → World → Prop) (xs : List α) (D : Nat) (W : World) (e : Exit) (W' : World) : Prop where
  norm : e = .normal
  goes : J xs W'
  kept : ∀ i, i = D + 1 ∨ i = D → ∀ o, W.heap[i]? = some o → o.isCells = false → W'.heap[i]? = some o

theorem range_over {α : Type} {P : Program} {g : Operand} {ps : Array Tmp} {assign body : Code} {Q : Exit → Act → World → Prop} {a : Act} {w : World}
    {gf : Nat} {lb : Array Value} (hg : a.eval g = .func (.func gf) #[] lb) (eg : ∀ args w, (callFunc gf args).run P w = .ok (.enter gf args) w)
    (encs : α → Array Value) (hps : ∀ x, (encs x).size = ps.size) (xs : List α) (J : List α → World → Prop)
    (hJp : ∀ pre W o o', J pre W → W.heap[w.heap.size + 1]? = some o' → o'.isCells = false → J pre (W.putObj (w.heap.size + 1) o)) (hJd : ∀ pre W, J pre W → J pre W.drew)
    (h0 : ∀ o, J [] ((w.alloc (.deferred (some []))).alloc o))
    (hiter : Gives P (w.heap.size + 1) gf lb encs xs J)
    (a₁ : α → Act)
    (hassign : ∀ (x : α) (W : World) (K : Act → World → Prop), K (a₁ x) W →
      assign.wpIn (Fence.wide.inRound (w.heap.size + 1)) 0 P (Exit.then K (fun _ _ _ => False)) { tmps := (ps.zip (encs x)).foldl (fun t (p, v) => t.setIfInBounds p v) a.tmps, defers := [] } W)
    (hbody : ∀ (pre : List α) (x : α) (W : World), J pre W → pre ++ [x] <+: xs → w.heap.size + 1 < W.heap.size →
      body.wpIn (Fence.wide.inRound (w.heap.size + 1)) 0 P (fun e _ W' => RoundEnd J (pre ++ [x]) w.heap.size W e W') (a₁ x) W)
    (hdone : ∀ W, J xs W → W.heap[w.heap.size]? = some (.deferred (some [])) → Q .normal { a with defers := { target := .collected w.heap.size, args := #[] } :: a.defers } W) :
    (Code.rangeFunc g ps assign body).wpIn Fence.wide 0 P Q a w := by
  refine wpIn_rangeFunc ?_
  intro fn hfn
  generalize hD : w.heap.size = D at *
  let rec_ : LoopState → Option Code → Loop := fun st pe => { state := st, pending := pe, fn, tmps := a.tmps, params := ps, assign, body, defers := D }
  refine ⟨D + 1, [{ target := .collected D, args := #[] }], (w.alloc (.deferred (some []))).alloc (.loop (rec_ .ready none)), { target := .fn (.func gf) lb, args := #[.func (.yield (D + 1)) #[] #[]] }, (w.alloc (.deferred (some []))).alloc (.loop (rec_ .ready none)), gf,
    #[.func (.yield (D + 1)) #[] #[]] ++ lb, (w.alloc (.deferred (some []))).alloc (.loop (rec_ .ready none)), ?_, ?_, fun _ _ => trivial, ?_, fun h => by simp [Fence.wide] at h, ?_⟩
  · have := run_enterLoop_outer (P := P) (w := w) fn a.tmps ps assign body
    rw [hD] at this
    exact this
  · simp only [resolve, hg]
    simp [go_sem]
  · simp [invoke, go_sem, eg]
  · have hL1 : ((w.alloc (.deferred (some []))).alloc (.loop (rec_ .ready none))).heap[D + 1]? = some (.loop (rec_ .ready none)) := by
      have := World.alloc_heap_new (w.alloc (.deferred (some []))) (.loop (rec_ .ready none)); rwa [World.size_alloc, hD] at this
    have hK1 : ((w.alloc (.deferred (some []))).alloc (.loop (rec_ .ready none))).heap[D]? = some (.deferred (some [])) := by
      have := World.alloc_heap_new w (.deferred (some []))
      rw [hD] at this
      exact (Below.heap_alloc _ _ _ (by simp [hD])).trans this
    refine (hiter (fun pre W => J pre W ∧ W.heap[D + 1]? = some (.loop (rec_ .ready none)) ∧ W.heap[D]? = some (.deferred (some []))) (fun _ _ h => h.1) (fun pre W h => ⟨hJd pre W h.1, h.2⟩) ?_ _ ⟨h0 _, hL1, hK1⟩).mono ?_
    · rintro pre x W ⟨hi, hl, hk⟩ hpre
      have hlt : D + 1 < W.heap.size := (Array.getElem?_eq_some_iff.1 hl).1
      have hy := run_yield (P := P) (args := encs x) hl (hps x)
      refine ⟨fn, _, assign, body, hy, roundIn_of_wpIn hfn (hassign x W _ ⟨_, run_beginRound hl rfl, ?_⟩)⟩
      have hl2 : (W.putObj (D + 1) (.loop { rec_ .ready none with state := .busy })).heap[D + 1]? = some (.loop { rec_ .ready none with state := .busy }) := World.putObj_heap_same hlt
      have hk2 : (W.putObj (D + 1) (.loop { rec_ .ready none with state := .busy })).heap[D]? = some (.deferred (some [])) := (World.putObj_heap_other (by omega)).trans hk
      refine wpIn_mono (hbody pre x _ (hJp pre W _ _ hi hl rfl) hpre (by simp; exact hlt)) ?_
      rintro e a3 W3 ⟨rfl, hj3, hk3⟩
      have hl3 := hk3 (D + 1) (.inl rfl) _ hl2 rfl
      have hd3 := hk3 D (.inr rfl) _ hk2 rfl
      exact ⟨_, _, run_endRound (P := P) none hl3, rfl, hJp _ _ _ _ hj3 hl3 rfl, World.putObj_heap_same (Array.getElem?_eq_some_iff.1 hl3).1, (World.putObj_heap_other (by omega)).trans hd3⟩
    · rintro e W2 ⟨⟨v, rfl⟩, hj, hl, hk⟩
      refine ⟨none, _, by have := run_endLoop (P := P) hl (by simp [rec_]); exact this, ?_⟩
      exact hdone _ (hJp _ _ _ _ hj hl rfl) ((World.putObj_heap_other (by omega)).trans hk)
end

section
set_option maxRecDepth 100000
open Go.ChangeShapes Go.WideShapes Go.ChangeAt Go.RowKit
attribute [local go_sem] Oper.semAt_some

/-- The k-th slice of 64. -/
def chunkV (a : Addr) (n k : Nat) : Value := .slice (some (a.add (k * 64))) (min 64 (n - k * 64)) (min 64 (n - k * 64))

theorem range_prefix {k m : Nat} (h : k ≤ m) : List.range k <+: List.range m := by
  have := List.take_prefix k (List.range m)
  rwa [List.take_range, show min k m = k by omega] at this

set_option maxHeartbeats 4000000 in
theorem chunk_gives (a : Addr) (n c Bs Bn l : Nat) (J : List Nat → World → Prop) (hJ : ∀ pre W, J pre W → W.cell? ⟨Bs, 0, none⟩ = some (.slice (some a) n c) ∧ W.cell? ⟨Bn, 0, none⟩ = some (.int .i64 64)) (h0 : n ≤ 5000) (hnc : n ≤ c) (hcm : c ≤ maxLen) :
    Gives Tryd.prog l 61 #[.pointer (some ⟨Bs, 0, none⟩), .pointer (some ⟨Bn, 0, none⟩)] (fun k => #[chunkV a n k]) (List.range ((n + 63) / 64)) J := by
  intro R hRJ hRd hY W1 hR1
  have hmc : c ≤ 9223372036854775807 := by unfold maxLen at hcm; omega
  refine callsIn_of_wp Tryd.func61 rfl trivial ?_ rfl
  simp only [Tryd.ntmps61, List.size_toArray, List.length_cons, List.length_nil, Nat.reduceAdd, Nat.reduceSub, Array.replicate_succ, Array.replicate_zero, List.push_toArray, List.append_toArray, List.nil_append, List.cons_append]
  gi_wp2
  gi_loopw [4] (fun t wr => ∃ k : Nat, k ≤ (n + 63) / 64 ∧ t = .int .i64 ((k * 64 : Nat) : Int) ∧ R (List.range k) wr) (fun t _ => n + 64 - (intOf t).toNat)
  case atStart => exact ⟨0, by omega, rfl, hR1⟩
  case round =>
    obtain ⟨k, hk, rfl, hr⟩ := hrel
    obtain ⟨c1, c2⟩ := hJ _ _ (hRJ _ _ hr)
    by_cases hlt : k * 64 < n
    · have hck : c ≠ k * 64 := by omega
      gi_wp2
      gi_region
      have hm : (if ((n - k * 64 : Nat) : Int) < 64 then ((n - k * 64 : Nat) : Int) else 64) = ((min 64 (n - k * 64) : Nat) : Int) := by split <;> omega
      rw [hm]
      obtain ⟨fn, tmps, assign, body, hy, hR⟩ := hY (List.range k) k wr.drew (hRd _ _ hr) (by rw [← List.range_succ]; exact range_prefix (by omega))
      have hx : chunkV a n k = .slice (some (a.add (k * 64))) (min 64 (n - k * 64)) (min 64 (n - k * 64)) := rfl
      rw [hx] at hy
      clear hx hm
      have hmx : min 64 (n - k * 64) ≤ n - k * 64 := by omega
      have hmy : 0 < min 64 (n - k * 64) := by omega
      generalize min 64 (n - k * 64) = x at *
      gi_wp2
      refine ⟨rfl, hR.mono ?_⟩
      rintro e W3 ⟨rfl, hr3⟩
      obtain ⟨d1, d2⟩ := hJ _ _ (hRJ _ _ hr3)
      gi_wp2
      go_roundw
      case rel => exact ⟨k + 1, by omega, by go_num, by rw [List.range_succ]; exact hr3⟩
      case measure => simp [intOf]; omega
    · obtain rfl : k = (n + 63) / 64 := by omega
      gi_wp2
      go_end0
      exact ⟨⟨_, rfl⟩, hr⟩
end

section
set_option maxRecDepth 100000
open Go.ChangeShapes Go.WideShapes Go.ChangeAt Go.RowKit
attribute [local go_sem] Oper.semAt_some

def backs (n : Nat) : List Nat := (List.range n).reverse
theorem backs_len (n : Nat) : (backs n).length = n := by simp [backs]
theorem backs_at {n j : Nat} (h : j < n) : (backs n)[j]? = some (n - 1 - j) := by
  unfold backs
  rw [List.getElem?_reverse (by simp; exact h), List.length_range, List.getElem?_range (by omega)]
theorem backs_next {n j : Nat} (h : j < n) : (backs n).take j ++ [n - 1 - j] = (backs n).take (j + 1) := by
  have hl := backs_len n
  have := List.take_succ_eq_append_getElem (l := backs n) (i := j) (by omega)
  rw [this]
  have e := backs_at h
  rw [List.getElem?_eq_getElem (by omega)] at e
  injection e with e
  rw [e]

set_option maxHeartbeats 4000000 in
theorem back_gives (a : Addr) (n c Bs l : Nat) (V : Nat → Value) (J : List Nat → World → Prop) (hJ : ∀ pre W, J pre W → W.cell? ⟨Bs, 0, none⟩ = some (.slice (some a) n c) ∧ ∀ i, i < n → W.cell? (a.add i) = some (V i)) (h0 : n ≤ 5000) (hpos : 0 < n) (hnc : n ≤ c) :
    Gives Tryd.prog l 62 #[.pointer (some ⟨Bs, 0, none⟩)] (fun k : Nat => #[.int .i64 (k : Int), V k]) (backs n) J := by
  intro R hRJ hRd hY W1 hR1
  obtain ⟨c1, _⟩ := hJ _ _ (hRJ _ _ hR1)
  refine callsIn_of_wp Tryd.func62 rfl trivial ?_ rfl
  simp only [Tryd.ntmps62, List.size_toArray, List.length_cons, List.length_nil, Nat.reduceAdd, Nat.reduceSub, Array.replicate_succ, Array.replicate_zero, List.push_toArray, List.append_toArray, List.nil_append, List.cons_append]
  gi_wp2
  clear c1
  gi_loopw [3] (fun t wr => ∃ j : Nat, j ≤ n ∧ t = .int .i64 ((n : Int) - 1 - j) ∧ R ((backs n).take j) wr) (fun t _ => (intOf t + 1).toNat)
  case atStart => exact ⟨0, by omega, by go_num, hR1⟩
  case round =>
    obtain ⟨j, hj, rfl, hr⟩ := hrel
    obtain ⟨c1, c2⟩ := hJ _ _ (hRJ _ _ hr)
    by_cases hlt : j < n
    · have ci := c2 (n - 1 - j) (by omega)
      obtain ⟨fn, tmps, assign, body, hy, hR⟩ := hY ((backs n).take j) (n - 1 - j) wr hr (by rw [backs_next hlt]; exact List.take_prefix _ _)
      have hx : ((n : Int) - 1 - j) = ((n - 1 - j : Nat) : Int) := by omega
      rw [hx]
      have hv : n - 1 - j < n := by omega
      have hb := backs_next hlt
      clear c2
      generalize n - 1 - j = x at *
      generalize V x = vx at *
      gi_wp2
      refine ⟨rfl, hR.mono ?_⟩
      rintro e W3 ⟨rfl, hr3⟩
      rw [hb] at hr3
      clear c1 ci hb
      obtain ⟨d1, d2⟩ := hJ _ _ (hRJ _ _ hr3)
      clear d2
      gi_wp2
      go_roundw
      case rel => exact ⟨j + 1, by omega, by rw [← hx]; go_num, hr3⟩
      case measure => simp [intOf]
    · obtain rfl : j = n := by omega
      have hx : ((j : Int) - 1 - j) = -1 := by omega
      rw [hx]
      clear c2
      gi_wp2
      go_end0
      refine ⟨⟨_, rfl⟩, ?_⟩
      rwa [List.take_of_length_le (by rw [backs_len]; omega)] at hr
end

section
set_option maxRecDepth 100000
open Go.ChangeShapes Go.WideShapes Go.ChangeAt Go.RowKit
attribute [local go_sem] Oper.semAt_some

theorem rowinfo : (Tryd.prog.info? 31).map (fun i => (i.zero, i.size, i.bytes)) = some (some (.slice none 0 0), 1, 24) := by kernel_rfl
/-- The block for deferred calls is shut at the function's end. -/
theorem below_shut {n₀ D : Nat} {w W : World} {o : Obj} (h : Below n₀ w W) (hD : n₀ ≤ D) (_ : W.heap[D]? = some o) (o' : Obj) (hn : n₀ ≤ w.heap.size) : Below n₀ w (W.putObj D o') :=
  h.trans ((Below.refl n₀ W).grown (grownBy_putObj' W D o') (by have := h.size; omega) (fun k e => by cases e; exact hD))

set_option maxHeartbeats 4000000 in
theorem appendSeq_any (a : Addr) (n c Bs Bn : Nat) (w : World) (h1 : w.cell? ⟨Bs, 0, none⟩ = some (.slice (some a) n c)) (h2 : w.cell? ⟨Bn, 0, none⟩ = some (.int .i64 64)) (hBs : Bs < w.heap.size) (hBn : Bn < w.heap.size) (h0 : n ≤ 5000) (hnc : n ≤ c) (hcm : c ≤ maxLen) :
    Calls Tryd.prog 60 #[.slice none 0 0, .func (.func 61) #[] #[.pointer (some ⟨Bs, 0, none⟩), .pointer (some ⟨Bn, 0, none⟩)]] w fun e w' =>
      ∃ v, e = .returned v ∧ w'.ownsRow w.heap.size 31 1 v ((n + 63) / 64) ((List.range ((n + 63) / 64)).map (chunkV a n)) ∧ Below w.heap.size w w' := by
  obtain ⟨i0, hi, hz0, hz1, hz2⟩ := info_parts rowinfo
  refine (callsIn_wide (n := 0)).1 ?_
  refine callsIn_of_wp_marks Tryd.func60 rfl trivial ?_ rfl
  simp only [Tryd.ntmps60, List.size_toArray, List.length_cons, List.length_nil, Nat.reduceAdd, Nat.reduceSub, Array.replicate_succ, Array.replicate_zero, List.push_toArray, List.append_toArray, List.nil_append, List.cons_append]
  gi_wp2
  have hB0 : Below w.heap.size w (w.alloc (.cells #[.slice none 0 0] 32)) := (Below.refl _ w).alloc (Nat.le_refl _) _
  refine range_over (gf := 61) (lb := #[.pointer (some ⟨Bs, 0, none⟩), .pointer (some ⟨Bn, 0, none⟩)]) rfl (Go.Proofs.enters_of Tryd.func61 (by kernel_rfl) rfl) (fun k => #[chunkV a n k]) (fun _ => rfl) (List.range ((n + 63) / 64))
    (fun pre W => (∃ v, Go.Boxed W w.heap.size 32 v ∧ W.ownsRow w.heap.size 31 1 v pre.length (pre.map (chunkV a n))) ∧ Below w.heap.size w W) ?jp ?jd ?start
    (chunk_gives a n c Bs Bn _ _ (fun pre W hJ => ⟨(hJ.2.cell (p := ⟨Bs, 0, none⟩) hBs).trans h1, (hJ.2.cell (p := ⟨Bn, 0, none⟩) hBn).trans h2⟩) h0 hnc hcm)
    (fun x => { tmps := #[.slice none 0 0, .func (.func 61) #[] #[.pointer (some ⟨Bs, 0, none⟩), .pointer (some ⟨Bn, 0, none⟩)], .pointer (some ⟨w.heap.size, 0, none⟩), undef, .slice none 0 0, chunkV a n x, .func (.func 61) #[] #[.pointer (some ⟨Bs, 0, none⟩), .pointer (some ⟨Bn, 0, none⟩)], chunkV a n x, undef, undef, undef, undef, undef], defers := [] }) ?assign ?body ?done
  case jp =>
    rintro pre W o o' ⟨⟨v, hv, hr⟩, hb⟩ hl ho
    simp only [World.size_alloc] at hl ⊢
    exact ⟨⟨v, hv.kept (grownBy_putObj' W _ _) (by simp; omega), ownsRow_putObj hr _ hl ho⟩, below_shut hb (by omega) hl _ (Nat.le_refl _)⟩
  case jd =>
    rintro pre W ⟨⟨v, hv, hr⟩, hb⟩
    exact ⟨⟨v, hv, own_kept hr fun _ _ => rfl⟩, hb.drew⟩
  case start =>
    intro o
    exact ⟨⟨_, ((Go.Boxed.new w _ _).alloc _).alloc _, World.ownsRow_nil _ _ _ _⟩, (hB0.alloc (by simp) _).alloc (by simp; omega) _⟩
  case assign =>
    intro x W K hK
    gi_wp2
    exact hK
  case body =>
    rintro pre x W ⟨⟨v, hv, hrow⟩, hB⟩ hpre hlt
    have hc := hv.cell
    have hpl : pre.length + 1 ≤ (n + 63) / 64 := by have := hpre.length_le; simpa using this
    obtain ⟨A1, m1, hx⟩ : ∃ A1 m1, chunkV a n x = .slice A1 m1 m1 := ⟨_, _, rfl⟩
    have hm : (pre ++ [x]).map (chunkV a n) = pre.map (chunkV a n) ++ [.slice A1 m1 m1] := by rw [List.map_append, ← hx]; rfl
    rw [hx]
    clear hx
    gi_wp2_with (gi_at_builtin; refine wpListIn_append_own _ rfl _ _ 32 rfl w.heap.size 31 i0 (.slice none 0 0) 1 24 Tryd.underlying32 hi hz0 hz1 hz2 rfl (by decide) _ _ _ rfl (hrow.alloc _) ⟨W.heap.size, 0, none⟩ 1 1 [.slice A1 m1 m1] rfl rfl (cell_one_new _ _ _) (by simp [Value.oneCell']) (by unfold maxLen; omega) (by omega) (by have := hB.size; simp; omega) ?_; intro v' w1 hown' hgrow _; obtain ⟨g', cap', rfl⟩ := ownsRow_succ hown'; obtain ⟨hv1, hv2, hr2, hk2, hb2⟩ := hv.appended (by decide) hrow hB.size (Nat.le_refl _) hown' hgrow; have hc1 := hv1.cell; have hf1 := hv1.frozen)
    refine ⟨rfl, ⟨⟨_, hv2, ?_⟩, hB.trans hb2⟩, fun i _ o hi ho => hk2.same i o hi ho⟩
    rw [List.length_append, hm]
    exact hr2
  case done =>
    rintro W ⟨⟨v, hv, hrow⟩, hB⟩ hK
    have hc := hv.cell
    gi_wp2
    refine ⟨by simp, .inl ⟨_, _, rfl, run_takeDeferred hK, ?_⟩⟩
    refine ⟨_, results_tmp rfl _ _ _, v, rfl, ?_, ?_⟩
    · have := ownsRow_putObj hrow (.deferred none) hK rfl
      simpa using this
    · exact below_shut hB (by simp) hK _ (Nat.le_refl _)
theorem collect_any (a : Addr) (n c Bs Bn : Nat) (w : World) (h1 : w.cell? ⟨Bs, 0, none⟩ = some (.slice (some a) n c)) (h2 : w.cell? ⟨Bn, 0, none⟩ = some (.int .i64 64)) (hBs : Bs < w.heap.size) (hBn : Bn < w.heap.size) (h0 : n ≤ 5000) (hnc : n ≤ c) (hcm : c ≤ maxLen) :
    Calls Tryd.prog 52 #[.func (.func 61) #[] #[.pointer (some ⟨Bs, 0, none⟩), .pointer (some ⟨Bn, 0, none⟩)]] w fun e w' =>
      ∃ v, e = .returned v ∧ w'.ownsRow w.heap.size 31 1 v ((n + 63) / 64) ((List.range ((n + 63) / 64)).map (chunkV a n)) ∧ Below w.heap.size w w' := by
  have HA := Lib.hid (appendSeq_any a n c Bs Bn w h1 h2 hBs hBn h0 hnc hcm)
  clear h1 h2 hBs hBn h0 hnc hcm
  go_enter Tryd.func52, Tryd.ntmps52
  go_wp2_with (fail)
  refine HA.out.mono ?_
  rintro e w1 ⟨v, rfl, h1, h2⟩
  go_wp2
  go_ret
  exact ⟨v, rfl, h1, h2⟩
theorem chunk_any (a : Addr) (n c : Nat) (w : World) : Calls Tryd.prog 53 #[.slice (some a) n c, .int .i64 64] w fun e w' =>
    e = .returned (.func (.func 61) #[] #[.pointer (some ⟨w.heap.size, 0, none⟩), .pointer (some ⟨w.heap.size + 1, 0, none⟩)]) ∧ w' = (w.alloc (.cells #[.slice (some a) n c] 31)).alloc (.cells #[.int .i64 64] 3) := by
  go_enter Tryd.func53, Tryd.ntmps53
  go_wp2
  go_ret
  exact ⟨rfl, rfl⟩
theorem backward_any (A : Option Addr) (n c : Nat) (w : World) : Calls Tryd.prog 54 #[.slice A n c] w fun e w' =>
    e = .returned (.func (.func 62) #[] #[.pointer (some ⟨w.heap.size, 0, none⟩)]) ∧ w' = w.alloc (.cells #[.slice A n c] 32) := by
  go_enter Tryd.func54, Tryd.ntmps54
  go_wp2
  go_ret
  exact ⟨rfl, rfl⟩
end
end Go.Proofs.YticefepcoemkoaaDoor
