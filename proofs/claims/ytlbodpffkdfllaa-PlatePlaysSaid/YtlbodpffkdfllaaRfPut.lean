/-
  The contract of a write into a plate of the document's own. No conditions but the sizes.
-/
import Derived.Test.YtlbodpffkdfllaaRfNew
namespace Go.Proofs.Ytlbodpffkdfllaa
open Go.ChangeShapes Go.WideShapes Go.ChangeAt Go.RowKit
open Rf (sl ys rv)

theorem rput_bad {r : Rf.R} {i : Int} {b : List Int} (h : r.bad i b) : r.put i b = r ∧ r.putE i b = 1 := by unfold Rf.R.put Rf.R.putE; rw [if_pos h, if_pos h]; exact ⟨rfl, rfl⟩
theorem rput_goes {r : Rf.R} {i : Int} {b : List Int} (h : ¬ r.bad i b) (hg : r.goes = true) : r.put i b = r.act.laid i (Pl.pad b) ∧ r.putE i b = 0 := by unfold Rf.R.put Rf.R.putE; rw [if_neg h, if_neg h, if_pos hg, if_pos hg]; exact ⟨rfl, rfl⟩
theorem rput_torn {r : Rf.R} {i : Int} {b : List Int} (h : ¬ r.bad i b) (hg : r.goes = false) (ho : r.off = false) (hs : 0 < r.spare) : r.put i b = r.act.laid i (r.torn i b) ∧ r.putE i b = 7 := by unfold Rf.R.put Rf.R.putE; rw [if_neg h, if_neg h, hg]; simp [ho, hs]
theorem rput_none {r : Rf.R} {i : Int} {b : List Int} (h : ¬ r.bad i b) (hg : r.goes = false) (hs : ¬ (r.off = false ∧ 0 < r.spare)) : r.put i b = r.act ∧ r.putE i b = 7 := by unfold Rf.R.put Rf.R.putE; rw [if_neg h, if_neg h, hg, if_neg hs]; simp
/-- Three new blocks, behind a call that makes new blocks alone. -/
theorem three_open {w w1 : World} {C C' F : Array Value} {t t' f : TypeId} (hb : Below (((w.alloc (.cells C t)).alloc (.cells C' t')).alloc (.cells F f)).heap.size (((w.alloc (.cells C t)).alloc (.cells C' t')).alloc (.cells F f)) w1) :
    ∃ w3, w1 = boxed (boxed w3 w.heap.size C t) (w.heap.size + 1) C' t' ∧ w.heap.size < w3.heap.size ∧ w.heap.size + 1 < w3.heap.size ∧ Below w.heap.size w w3 ∧ w3.heap[w.heap.size + 2]? = some (.cells F f (0, 0)) := by
  have hz := hb.size
  rw [World.size_alloc, World.size_alloc, World.size_alloc] at hz
  have h0 : w1.heap[w.heap.size]? = some (.cells C t (0, 0)) := by
    rw [hb.block _ (by rw [World.size_alloc, World.size_alloc, World.size_alloc]; omega), alloc_block_old (by rw [World.size_alloc, World.size_alloc]; omega), alloc_block_old (by rw [World.size_alloc]; omega)]; exact alloc_block
  have h1 : w1.heap[w.heap.size + 1]? = some (.cells C' t' (0, 0)) := by
    rw [hb.block _ (by rw [World.size_alloc, World.size_alloc, World.size_alloc]; omega), alloc_block_old (by rw [World.size_alloc, World.size_alloc]; omega)]; exact alloc_at (by rw [World.size_alloc])
  have h2 : w1.heap[w.heap.size + 2]? = some (.cells F f (0, 0)) := by
    rw [hb.block _ (by rw [World.size_alloc, World.size_alloc, World.size_alloc]; omega)]; exact alloc_at (by rw [World.size_alloc, World.size_alloc])
  refine ⟨w1, by rw [← boxed_self h0, ← boxed_self h1], by omega, by omega, ?_, h2⟩
  exact (((Below.refl _ _).alloc (Nat.le_refl _) _).alloc (by rw [World.size_alloc]; omega) _).alloc (by rw [World.size_alloc, World.size_alloc]; omega) _ |>.trans (hb.mono (by rw [World.size_alloc, World.size_alloc, World.size_alloc]; omega))

theorem push3 {w : World} {o o' : Obj} {a b : Array Value} {t : TypeId} : boxed (((w.alloc o).alloc o').alloc (.cells a t)) (w.heap.size + 1 + 1) b t = ((w.alloc o).alloc o').alloc (.cells b t) := by
  have := boxed_new ((w.alloc o).alloc o') a b t t
  rw [World.size_alloc, World.size_alloc] at this
  exact this

theorem ys_one_cells (p : Int × Nat) : ∀ (j : Nat) (u : Value) (w : World), (ys [p])[j]? = some u → (w.alloc (.cells #[.int .i64 p.1, sl p.2] 64)).cell? ((⟨w.heap.size, 0, none⟩ : Addr).add j) = some u := fun j u w hu => by
  rw [ad_head, cell_of_row _ _ _ _ _ _ (alloc_block (w := w))]
  match j with
  | 0 => simpa [Rf.ys] using hu
  | 1 => simpa [Rf.ys] using hu
  | j + 2 => simp [Rf.ys] at hu
/-- A write more is laid. -/
theorem wpList_lay69 {W : World} {ops : Array Oper} {rest : List Oper} {o : Oper} {a : Act} {Q : Exit → Act → World → Prop} (hgd : o.guard = none) (s x : Operand) (ho : o.op = .call { callee := .builtin .append, args := #[s, x], argTypes := #[27, 27] })
    (base : Nat) (v : Value) (n : Nat) (ps : List (Int × Nat)) (p : Int × Nat) (hs : a.eval s = v) (q : Nat) (hx : a.eval x = .slice (some ⟨q, 0, none⟩) 1 1) (hq : q = W.heap.size) (hown : W.ownsRow base 64 2 v n (ys ps)) (hn : n ≤ 1000) (hbase : base ≤ W.heap.size)
    (h : ∀ v' w', w'.ownsRow base 64 2 v' (n + 1) (ys (ps ++ [p])) → (W.alloc (.cells #[.int .i64 p.1, sl p.2] 64)).grownBy w' v.ownBlock → wpList Try.prog ops Q rest (a.put o.dst v') w') : wpList Try.prog ops Q (o :: rest) a (W.alloc (.cells #[.int .i64 p.1, sl p.2] 64)) := by
  subst hq
  obtain ⟨it, hit, hz0, hz1, hz2⟩ := info_parts info69
  refine wpList_append_own_at _ hgd s x 27 ho base 64 it _ 2 32 Try.underlying27 hit hz0 hz1 hz2 rfl (by decide) v n (ys ps) hs (own_kept hown fun i hi => alloc_block_old (hown.lt i hi).2) ⟨W.heap.size, 0, none⟩ 1 1 (ys [p]) hx rfl
    (fun j u hu => ys_one_cells p j u W hu) (Rf.ys_one _) (by unfold maxLen; omega) (by omega) (by rw [World.size_alloc]; omega) (fun v' w' h1 h2 _ _ => h v' w' (by rw [Rf.ys_append]; exact h1) h2)
/-- Behind the copy of the writes. -/
theorem copy_open {w w3 w4 : World} {C C' F : Array Value} {f : TypeId} (h3 : Below w.heap.size w w3) (hf : w3.heap[w.heap.size + 2]? = some (.cells F f (0, 0))) (hb : Below (boxed (boxed w3 w.heap.size C 29) (w.heap.size + 1) C' 29).heap.size (boxed (boxed w3 w.heap.size C 29) (w.heap.size + 1) C' 29) w4) :
    ∃ w5, w4 = boxed (boxed w5 w.heap.size C 29) (w.heap.size + 1) C' 29 ∧ w.heap.size < w5.heap.size ∧ w.heap.size + 1 < w5.heap.size ∧ Below w.heap.size w w5 ∧ w5.heap[w.heap.size + 2]? = some (.cells F f (0, 0)) := by
  have hl := (Array.getElem?_eq_some_iff.1 hf).1
  have h4 : w4.heap[w.heap.size + 2]? = some (.cells F f (0, 0)) := by
    rw [hb.block _ (by rw [boxed_size, boxed_size]; exact hl), boxed_block_other (by omega), boxed_block_other (by omega)]; exact hf
  obtain ⟨w5, rfl, h5, h6, h7⟩ := two_more h3 (by omega) hb
  refine ⟨w5, rfl, h5, h6, h7, ?_⟩
  rw [boxed_block_other (by omega), boxed_block_other (by omega)] at h4
  exact h4
theorem copy_own {w w3 w5 : World} {C C' C2 C2' : Array Value} {v : Value} {n : Nat} {xs : List Value} (hz : w.heap.size + 2 < w3.heap.size) (h : (boxed (boxed w5 w.heap.size C 29) (w.heap.size + 1) C' 29).ownsRow (boxed (boxed w3 w.heap.size C2 29) (w.heap.size + 1) C2' 29).heap.size 64 2 v n xs) (D D' : Array Value) :
    (boxed (boxed w5 w.heap.size D 29) (w.heap.size + 1) D' 29).ownsRow (w.heap.size + 3) 64 2 v n xs := by
  rw [boxed_size, boxed_size] at h
  refine own_kept (own_lower h (by omega)) fun i hi => ?_
  have := (h.lt i hi).1
  rw [boxed_block_other (by omega), boxed_block_other (by omega), boxed_block_other (by omega), boxed_block_other (by omega)]
/-- Behind it the two variables' blocks are known again. -/
theorem lay_open {w w5 w6 : World} {C C' : Array Value} {o : Obj} {ob : Option Nat} (q : Nat) (h5 : Below w.heap.size w w5) (hz : w.heap.size + 1 < w5.heap.size) (hq : q < w5.heap.size) (hq1 : w.heap.size + 1 < q) (hg : ((boxed (boxed w5 w.heap.size C 29) (w.heap.size + 1) C' 29).alloc o).grownBy w6 ob) (hob : ∀ k, ob = some k → w.heap.size + 1 < k ∧ k ≠ q) :
    ∃ w7, w6 = boxed (boxed w7 w.heap.size C 29) (w.heap.size + 1) C' 29 ∧ w.heap.size < w7.heap.size ∧ w.heap.size + 1 < w7.heap.size ∧ Below w.heap.size w w7 ∧ w7.heap[q]? = w5.heap[q]? := by
  have hs := hg.size
  rw [World.size_alloc, boxed_size, boxed_size] at hs
  have hk : ∀ k, (k ≤ w.heap.size + 1 ∨ k = q) → w6.heap[k]? = (boxed (boxed w5 w.heap.size C 29) (w.heap.size + 1) C' 29).heap[k]? := fun k hk => by
    rw [hg.block k (by rw [World.size_alloc, boxed_size, boxed_size]; omega) (fun e => by have := hob k e.symm; omega), alloc_block_old (by rw [boxed_size, boxed_size]; omega)]
  have h0 : w6.heap[w.heap.size]? = some (.cells C 29 (0, 0)) := by rw [hk _ (by omega), boxed_block_other (by omega)]; exact boxed_block (by omega)
  have h1 : w6.heap[w.heap.size + 1]? = some (.cells C' 29 (0, 0)) := by rw [hk _ (by omega)]; exact boxed_block (by rw [boxed_size]; omega)
  refine ⟨w6, by rw [← boxed_self h0, ← boxed_self h1], by omega, by omega, ⟨hg.os.trans h5.os, hg.tape.trans h5.tape, hg.output.trans h5.output, Nat.le_trans h5.size (by omega), fun k hk' => ?_⟩, ?_⟩
  · rw [hk k (by omega), boxed_block_other (by omega), boxed_block_other (by omega)]; exact h5.block k hk'
  · rw [hk _ (by omega), boxed_block_other (by omega), boxed_block_other (by omega)]
theorem lay_own {w w7 : World} {C C' D D' : Array Value} {v : Value} {n : Nat} {xs : List Value} (h : (boxed (boxed w7 w.heap.size C 29) (w.heap.size + 1) C' 29).ownsRow (w.heap.size + 3) 64 2 v n xs) : (boxed (boxed w7 w.heap.size D 29) (w.heap.size + 1) D' 29).ownsRow w.heap.size 64 2 v n xs := by
  refine own_kept (own_lower h (by omega)) fun i hi => ?_
  have := (h.lt i hi).1
  rw [boxed_block_other (by omega), boxed_block_other (by omega), boxed_block_other (by omega), boxed_block_other (by omega)]
/-- A write more: the plate that is handed back. -/
theorem laid_fin {w W : World} {G : Nat → Prop} {v1 v2 v5 : Value} {r : Rf.R} {bs : List Nat} {ps : List (Int × Nat)} {i : Int} {q : Nat} {s : List Int} (h : Rf.M w G v1 v2 r bs ps) (hb : Below w.heap.size w W) (ho : W.ownsRow w.heap.size 64 2 v5 (r.wet.length + 1) (ys (ps ++ [(i, q)])))
    (hq : w.heap.size ≤ q) (hqb : W.heap[q]? = some (.cells (arr s) 5 (0, 0))) (hok : Rf.Ok (r.laid i s)) : RPost w G (r.laid i s) (.returned (rv v1 v5 (r.laid i s))) W := by
  have hz := hb.size
  have hm := h.below hb
  have hl2 := h.len2
  have hwl : (r.laid i s).wet.length = r.wet.length + 1 := by simp [Rf.R.laid]
  refine ⟨v1, v5, bs, ps ++ [(i, q)], rfl, ⟨hm.own1, by rw [hwl]; exact own_lower ho (Nat.zero_le _), fun k hk => .inl (hm.g1 k hk), fun k hk => .inr (ho.lt k hk), fun j b l h1 h2 => ⟨.inl (hm.safe j b l h1 h2).1, (hm.safe j b l h1 h2).2⟩, fun j p x h1 h2 => ?_, hok, fun k hk => ?_⟩, hb⟩
  · have hx : (r.wet ++ [(i, s)])[j]? = some x := h2
    by_cases hj : j < ps.length
    · rw [List.getElem?_append_left hj] at h1
      rw [List.getElem?_append_left (by omega)] at hx
      have := hm.wet j p x h1 hx
      exact ⟨this.1, .inl this.2.1, this.2.2⟩
    · have hj' : j = ps.length := by
        have := (List.getElem?_eq_some_iff.1 h1).1
        simp at this; omega
      subst hj'
      rw [List.getElem?_append_right (Nat.le_refl _), Nat.sub_self] at h1
      rw [List.getElem?_append_right (by omega), hl2, Nat.sub_self] at hx
      injection h1 with h1
      injection hx with hx
      subst h1 hx
      exact ⟨rfl, .inr ⟨hq, (Array.getElem?_eq_some_iff.1 hqb).1⟩, hqb⟩
  · rcases hk with h' | h'
    · exact hm.lt k h'
    · exact h'.2

/-- A torn sector is being made. -/
structure Tn (w W : World) (C C' : Array Value) (v3 : Value) (n : Nat) (ps : List (Int × Nat)) (q : Nat) (full s : List Int) : Prop where
  x : W.heap[w.heap.size]? = some (.cells C 29 (0, 0))
  y : W.heap[w.heap.size + 1]? = some (.cells C' 29 (0, 0))
  f : W.heap[w.heap.size + 2]? = some (.cells (arr full) 5 (0, 0))
  q1 : W.heap[q]? = some (.cells (arr s) 5 (0, 0))
  q2 : w.heap.size + 2 < q
  own : W.ownsRow (w.heap.size + 3) 64 2 v3 n (ys ps)
  ownq : v3.ownBlock ≠ some q
  below : Below w.heap.size w W
section
variable {w W : World} {C C' : Array Value} {v3 : Value} {n : Nat} {ps : List (Int × Nat)} {q : Nat} {full s : List Int}
theorem Tn.lt (h : Tn w W C C' v3 n ps q full s) : q < W.heap.size := (Array.getElem?_eq_some_iff.1 h.q1).1
theorem Tn.set (h : Tn w W C C' v3 n ps q full s) (s' : List Int) : Tn w (boxed W q (arr s') 5) C C' v3 n ps q full s' := by
  have h2 := h.q2
  have h3 := h.lt
  refine ⟨by rw [boxed_block_other (by omega)]; exact h.x, by rw [boxed_block_other (by omega)]; exact h.y, by rw [boxed_block_other (by omega)]; exact h.f, boxed_block h3, h2, own_kept h.own fun i hi => ?_, h.ownq, boxed_below h.below (by omega)⟩
  rw [boxed_block_other fun e => h.ownq (by rw [← e]; exact hi)]
theorem Tn.open_ (h : Tn w W C C' v3 n ps q full s) : ∃ w9, W = boxed (boxed w9 w.heap.size C 29) (w.heap.size + 1) C' 29 ∧ w.heap.size < w9.heap.size ∧ w.heap.size + 1 < w9.heap.size ∧ Below w.heap.size w w9 ∧ w9.heap[q]? = some (.cells (arr s) 5 (0, 0)) ∧ q < w9.heap.size ∧
    (∀ D D', (boxed (boxed w9 w.heap.size D 29) (w.heap.size + 1) D' 29).ownsRow (w.heap.size + 3) 64 2 v3 n (ys ps)) := by
  have h2 := h.q2
  have h3 := h.lt
  refine ⟨W, by rw [← boxed_self h.x, ← boxed_self h.y], by omega, by omega, h.below, h.q1, h3, fun D D' => own_kept h.own fun i hi => ?_⟩
  have := (h.own.lt i hi).1
  rw [boxed_block_other (by omega), boxed_block_other (by omega)]
theorem Tn.make {w5 w6 : World} (h5 : Below w.heap.size w w5) (hf : w5.heap[w.heap.size + 2]? = some (.cells (arr full) 5 (0, 0))) (ho : ∀ D D', (boxed (boxed w5 w.heap.size D 29) (w.heap.size + 1) D' 29).ownsRow (w.heap.size + 3) 64 2 v3 n (ys ps))
    (hb : Below ((boxed (boxed w5 w.heap.size C 29) (w.heap.size + 1) C' 29).alloc (.cells (arr s) 5)).heap.size ((boxed (boxed w5 w.heap.size C 29) (w.heap.size + 1) C' 29).alloc (.cells (arr s) 5)) w6) : Tn w w6 C C' v3 n ps w5.heap.size full s := by
  have hz := (Array.getElem?_eq_some_iff.1 hf).1
  have hk : ∀ k, k < w5.heap.size → w6.heap[k]? = (boxed (boxed w5 w.heap.size C 29) (w.heap.size + 1) C' 29).heap[k]? := fun k hk => by
    rw [hb.block k (by rw [World.size_alloc, boxed_size, boxed_size]; omega), alloc_block_old (by rw [boxed_size, boxed_size]; omega)]
  have hs := hb.size
  rw [World.size_alloc, boxed_size, boxed_size] at hs
  have hl : ∀ i, v3.ownBlock = some i → w.heap.size + 3 ≤ i ∧ i < w5.heap.size := fun i hi => by
    have := (ho C C').lt i hi
    rw [boxed_size, boxed_size] at this
    exact this
  refine ⟨?_, ?_, ?_, ?_, hz, own_kept (ho C C') fun i hi => hk i (hl i hi).2, fun e => absurd (hl _ e).2 (Nat.lt_irrefl _), ?_⟩
  · rw [hk _ (by omega), boxed_block_other (by omega)]; exact boxed_block (by omega)
  · rw [hk _ (by omega)]; exact boxed_block (by rw [boxed_size]; omega)
  · rw [hk _ hz, boxed_block_other (by omega), boxed_block_other (by omega)]; exact hf
  · rw [hb.block _ (by rw [World.size_alloc, boxed_size, boxed_size]; omega)]; exact alloc_at (by rw [boxed_size, boxed_size])
  · exact ((two_below h5).alloc (by rw [boxed_size, boxed_size]; omega) _).trans (hb.mono (by rw [World.size_alloc, boxed_size, boxed_size]; omega))
end
theorem headed_all {l s : List Int} {k : Nat} (h : l.length = k) (h2 : s.length = k) : headed k l s = l := by unfold headed; rw [List.take_of_length_le (by omega), List.drop_eq_nil_of_le (by omega), List.append_nil]

set_option maxRecDepth 20000 in
set_option maxHeartbeats 1600000 in
theorem refPut_bad (w : World) (G : Nat → Prop) (v1 v2 : Value) (r : Rf.R) (bs : List Nat) (ps : List (Int × Nat)) (i : Int) (A0 : Option Addr) (n c0 : Nat) (h : Rf.M w G v1 v2 r bs ps) (hbad : i < 0 ∨ (r.safe.length : Int) ≤ i ∨ 64 < n) :
    Calls Try.prog 16 #[rv v1 v2 r, .int .i64 i, .slice A0 n c0] w (RPost2 w G r (.int .i64 1)) := by
  obtain ⟨A, c, rfl, hc, _⟩ := own_form h.own1
  obtain ⟨A2, c2, rfl, hc2, _⟩ := own_form h.own2
  have hsz := h.ok.size
  have HFIN : Hid (∀ o o', RPost2 w G r (.int .i64 1) (.returned (.tuple #[rv (.slice A r.safe.length c) (.slice A2 r.wet.length c2) r, .int .i64 1])) ((w.alloc o).alloc o')) := fun o o' => (RPost.mk_ h (((Below.refl _ _).alloc (Nat.le_refl _) _).alloc (by rw [World.size_alloc]; omega) _)).and _
  clear h
  unfold rv
  go_enter Try.func16, Try.ntmps16
  cases d1 : decide (i < 0)
  · cases d2 : decide ((r.safe.length : Int) ≤ i)
    · have d3 : decide ((64 : Int) < (n : Int)) = true := by simp at d1 d2 ⊢; omega
      go_wp2
      exact bodyPost_ret (v := .tuple #[rv (.slice A r.safe.length c) (.slice A2 r.wet.length c2) r, .int .i64 1]) (by simp [rv, results, Try.results16, go_sem, *]) rfl (HFIN.out _ _)
    · go_wp2
      exact bodyPost_ret (v := .tuple #[rv (.slice A r.safe.length c) (.slice A2 r.wet.length c2) r, .int .i64 1]) (by simp [rv, results, Try.results16, go_sem, *]) rfl (HFIN.out _ _)
  · go_wp2
    exact bodyPost_ret (v := .tuple #[rv (.slice A r.safe.length c) (.slice A2 r.wet.length c2) r, .int .i64 1]) (by simp [rv, results, Try.results16, go_sem, *]) rfl (HFIN.out _ _)

set_option maxRecDepth 20000 in
set_option maxHeartbeats 3200000 in
theorem refPut_in (w : World) (G : Nat → Prop) (v1 v2 : Value) (r : Rf.R) (bs : List Nat) (ps : List (Int × Nat)) (i : Nat) (A0 : Option Addr) (n c0 B : Nat) (b : List Int) (h : Rf.M w G v1 v2 r bs ps) (ha : r.acts < 1000) (hwt : r.wet.length < 1000) (hi : i < r.safe.length)
    (hr : Rd w .u8 B A0 b) (hB : B ≤ w.heap.size) (hn : b.length = n) (hn64 : n ≤ 64) (hb : ∀ x ∈ b, 0 ≤ x ∧ x < 256) :
    Calls Try.prog 16 #[rv v1 v2 r, .int .i64 i, .slice A0 n c0] w (RPost2 w G (r.put i b) (.int .i64 (r.putE i b))) := by
  obtain ⟨A, c, rfl, hc, _⟩ := own_form h.own1
  obtain ⟨A2, c2, rfl, hc2, _⟩ := own_form h.own2
  have hsz := h.ok.size
  have hl := h.ok.left
  have hac := h.ok.acts
  have HG := h.lt
  have hno : ¬ r.bad i b := by unfold Rf.R.bad; omega
  have hpd : Pl.Sec (Pl.pad b) := Pl.sec_pad (by omega) hb
  have H := Lib.hid (h.nums (Rf.act_safe r) (Rf.act_wet r) (h.ok.act ha))
  have H0 := Lib.hid h
  have HR := Lib.hid hr
  have HN := Lib.hid hn
  have e1 : r.act.safe.length = r.safe.length := by rw [Rf.act_safe]
  have e2 : r.act.wet.length = r.wet.length := by rw [Rf.act_wet]
  have E1 := Lib.hid e1
  have E2 := Lib.hid e2
  have d1 : decide ((i : Int) < 0) = false := by simp
  have d2 : decide ((r.safe.length : Int) ≤ (i : Int)) = false := by simp; omega
  have d3 : decide ((64 : Int) < (n : Int)) = false := by simp; omega
  clear h e1 e2 hr hn hb
  unfold rv
  go_enter Try.func16, Try.ntmps16
  go_wp2_with (first | (refine wpList_make64 rfl _ _ rfl rfl rfl ?_) | (refine wpList_arr_copy rfl _ _ 31 31 rfl 5 Try.underlying31 size5 (w.heap.size + 1 + 1) 64 64 rfl A0 n c0 rfl Pl.zs 5 (alloc_at (by rw [World.size_alloc, World.size_alloc])) B b (HR.out.kept fun k hk => by rw [alloc_block_old (by rw [World.size_alloc, World.size_alloc]; omega), alloc_block_old (by rw [World.size_alloc]; omega), alloc_block_old (by omega)]) HN.out (by rw [Pl.sec_zs.1]; exact Nat.le_refl _) n (Nat.min_eq_left hn64) ?_; rw [push3, pad_headed HN.out]))
  refine (refAct_any _ A A2 r.safe.length c r.wet.length c2 r hl hac).mono ?_
  rintro e w2 ⟨rfl, hb2⟩
  obtain ⟨w3, rfl, hz1, hz2, hbw, hfull⟩ := three_open hb2
  have HBW := Lib.hid hbw
  have HFULL := Lib.hid hfull
  have hne1 : w.heap.size ≠ w.heap.size + 1 := by omega
  have hne2 : w.heap.size + 1 ≠ w.heap.size := by omega
  clear hb2 hbw hfull
  unfold rv
  obtain ⟨it, hit, hq0, hq1, hq2⟩ := info_parts info69
  have HO2 : Hid (∀ C C', (boxed (boxed w3 w.heap.size C 29) (w.heap.size + 1) C' 29).ownsRow 0 64 2 (.slice A2 r.wet.length c2) r.wet.length (Rf.ys ps)) := fun C C' => (H0.out.below (two_below HBW.out)).own2
  have hw3 : Hid (w.heap.size + 2 < w3.heap.size) := (Array.getElem?_eq_some_iff.1 HFULL.out).1
  cases hg : r.goes
  · have esp : r.act.spare = r.spare := by unfold Rf.R.act; rw [hg]; rfl
    cases hof : r.off
    · cases d4 : decide (0 < r.act.spare)
      · have HP := Lib.hid (rput_none hno hg (by rw [esp] at d4; simp at d4; omega))
        clear hno esp
        go_wp2_with (at_builtin; refine wpList_append_copy rfl _ _ _ rfl _ it _ 2 32 Try.underlying27 hit hq0 hq1 hq2 rfl (by decide) (by decide) r.wet.length _ (ys ps) rfl rfl (HO2.out _ _) (Rf.ys_one _) hsz.2 ?_; intro v3 w4 ho3 hb3; obtain ⟨w5, rfl, hz3, hz4, hb5, hf5⟩ := copy_open HBW.out HFULL.out hb3; obtain ⟨A3, c3, rfl, _, _⟩ := own_form ho3; have HO3 := Lib.hid (copy_own hw3.out ho3); have HB5 := Lib.hid hb5; have HF5 := Lib.hid hf5; clear ho3 hb3 hb5 hf5)
        have HFIN : Hid (∀ D D', RPost2 w G (r.put i b) (.int .i64 (r.putE i b)) (.returned (.tuple #[rv (.slice A r.safe.length c) (.slice A2 r.wet.length c2) r.act, .int .i64 7])) (boxed (boxed w5 w.heap.size D 29) (w.heap.size + 1) D' 29)) := fun D D' => by
          rw [HP.out.1, HP.out.2]
          exact (RPost.mk_ H.out (two_below HB5.out)).and _
        exact bodyPost_ret (v := .tuple #[rv (.slice A r.safe.length c) (.slice A2 r.wet.length c2) r.act, .int .i64 7]) (by simp [rv, results, Try.results16, go_sem, *]) rfl (HFIN.out _ _)
      · have hsp : 0 < r.spare := by rw [esp] at d4; simpa using d4
        have HP := Lib.hid (rput_torn hno hg hof hsp)
        have htn : r.torn i b = headed (min 64 r.act.spare.toNat) (Pl.pad b) (r.act.read i) := by
          unfold Rf.R.torn Rf.R.read
          rw [esp, Rf.act_safe, Rf.act_wet]
        have HTN := Lib.hid htn
        have hrs : Pl.Sec (r.act.read i) := H.out.ok.read i
        have hsm : r.act.spare ≤ 1000 := H.out.ok.spare.2
        have HLAID : Hid (Rf.Ok (r.act.laid i (r.torn i b))) := by
          refine H.out.ok.laid (by omega) (by rw [E1.out]; omega) ?_ (by rw [E2.out]; exact hwt)
          rw [htn]
          refine ⟨by rw [headed_length (by rw [hpd.1]; omega) (by rw [hrs.1]; omega)]; exact hrs.1, fun x hx => ?_⟩
          unfold headed at hx
          rcases List.mem_append.1 hx with hx | hx
          · exact hpd.2 x (List.mem_of_mem_take hx)
          · exact hrs.2 x (List.mem_of_mem_drop hx)
        clear hno esp htn hsp
        go_wp2_with (first | (at_builtin; refine wpList_append_copy rfl _ _ _ rfl _ it _ 2 32 Try.underlying27 hit hq0 hq1 hq2 rfl (by decide) (by decide) r.wet.length _ (ys ps) rfl rfl (HO2.out _ _) (Rf.ys_one _) hsz.2 ?_; intro v3 w4 ho3 hb3; obtain ⟨w5, rfl, hz3, hz4, hb5, hf5⟩ := copy_open HBW.out HFULL.out hb3; obtain ⟨A3, c3, rfl, _, _⟩ := own_form ho3; have HO3 := Lib.hid (copy_own hw3.out ho3); have HB5 := Lib.hid hb5; have HF5 := Lib.hid hf5; clear ho3 hb3 hb5 hf5) | (refine wpList_make64 rfl _ _ rfl rfl rfl ?_))
        refine (refRead_any _ G (.slice A r.safe.length c) (.slice A2 r.wet.length c2) r.act bs ps i (H.out.below ((two_below HB5.out).alloc (by rw [boxed_size, boxed_size]; omega) _)) (by omega) (by rw [E1.out]; omega)).mono ?_
        rintro e w6 ⟨b', rfl, hGb, hbb, hb6⟩
        have HRD : Hid (Rd w6 .u8 (b' + 1) (some ⟨b', 0, none⟩) (r.act.read i)) := rd_block ((hb6.block _ (Array.getElem?_eq_some_iff.1 hbb).1).trans hbb)
        have HT := Lib.hid (Tn.make HB5.out HF5.out HO3.out hb6)
        clear hbb hb6 hGb
        unfold sl
        generalize hRL : r.act.read i = l at *
        generalize hFL : Pl.pad b = full at *
        go_wp2_with (refine wpList_arr_copy rfl _ _ 31 31 rfl 5 Try.underlying31 size5 w5.heap.size 64 64 rfl (some ⟨b', 0, none⟩) 64 64 rfl Pl.zs 5 HT.out.q1 (b' + 1) l HRD.out hrs.1 (by rw [Pl.sec_zs.1]; exact Nat.le_refl _) 64 (Nat.min_self _) ?_; rw [headed_all hrs.1 Pl.sec_zs.1])
        have hq2 := HT.out.q2
        go_loopw [13] (fun t wr => ∃ j : Nat, j ≤ min 64 r.act.spare.toNat ∧ t = .int .i64 j ∧ wr = boxed w6 w5.heap.size (arr (headed j full l)) 5) (fun t _ => 64 - (intOf t).toNat)
        case atStart => exact ⟨0, by omega, rfl, by rw [headed_zero]⟩
        case round =>
          obtain ⟨j, hj, rfl, rfl⟩ := hrel
          have HTJ := Lib.hid (HT.out.set (headed j full l))
          by_cases hlt : j < min 64 r.act.spare.toNat
          · have hj64 : j < 64 := by omega
            have e6 : decide ((j : Int) < 64) = true := by simp; omega
            have e7 : decide ((j : Int) < r.act.spare) = true := by simp; omega
            have hjb : j < full.length := by rw [hpd.1]; exact hj64
            have hjo : j < l.length := by rw [hrs.1]; exact hj64
            have hcx : (boxed w6 w5.heap.size (arr (headed j full l)) 5).cell? ⟨w.heap.size, 3, none⟩ = some (.int .i64 r.act.spare) := by rw [cell_of_row _ _ _ _ _ _ HTJ.out.x]; rfl
            have hcf : (boxed w6 w5.heap.size (arr (headed j full l)) 5).cell? ⟨w.heap.size + 1 + 1, j, none⟩ = some (.int .u8 full[j]) := by
              rw [cell_of_row _ _ _ _ _ _ HTJ.out.f]; exact arr_at (List.getElem?_eq_getElem hjb)
            have hlen : (headed j full l).length = 64 := by rw [headed_length (by omega) (by omega), hrs.1]
            have hcw : (arr (headed j full l))[j]? = some (.int .u8 (headed j full l)[j]) := arr_at (List.getElem?_eq_getElem (by rw [hlen]; exact hj64))
            have HS := Lib.hid (headed_succ hjb hjo)
            have hsz6 := HT.out.lt
            go_wp2
            go_roundw
            case rel => exact ⟨j + 1, by omega, by go_num, by rw [← HS.out]⟩
            case measure => simp [intOf]; omega
          · have hjN : j = min 64 r.act.spare.toNat := by omega
            have HTN2 : Hid (r.torn i b = headed j full l) := by
              have := HTN.out
              rw [← hjN] at this
              exact this
            have hsz6 := HT.out.lt
            obtain ⟨w9, hw9, hz7, hz8, hb9, hq9, hlt9, ho9⟩ := HTJ.out.open_
            have HB9 := Lib.hid hb9
            have HQ9 := Lib.hid hq9
            have HO9 := Lib.hid ho9
            rw [hw9]
            clear hw9 hb9 hq9 ho9
            by_cases h64 : j = 64
            · have e6 : decide ((j : Int) < 64) = false := by simp; omega
              go_wp2_with (at_builtin; refine wpList_lay69 rfl _ _ rfl (w.heap.size + 3) _ r.wet.length ps (i, w5.heap.size) rfl _ rfl (by rw [boxed_size, boxed_size]) (HO9.out _ _) hsz.2 (by rw [boxed_size, boxed_size]; omega) ?_; intro v5 w8 ho5 hg5; obtain ⟨w7, rfl, hz5, hz6, hb7, hf7⟩ := lay_open (w5.heap.size) HB9.out hz8 hlt9 (by omega) hg5 (fun k hk => ⟨by have := ((HO9.out #[] #[]).lt k hk).1; omega, fun e => HT.out.ownq (hk.trans (by rw [e]))⟩); obtain ⟨A5, c5, rfl, _, _⟩ := own_form ho5; have HO5 := Lib.hid ho5; have HB7 := Lib.hid hb7; have HF7 := Lib.hid (hf7.trans HQ9.out); clear ho5 hg5 hb7 hf7)
              have HFIN : Hid (∀ D D', RPost2 w G (r.put i b) (.int .i64 (r.putE i b)) (.returned (.tuple #[rv (.slice A r.safe.length c) (.slice A5 (r.wet.length + 1) c5) (r.act.laid i (r.torn i b)), .int .i64 7])) (boxed (boxed w7 w.heap.size D 29) (w.heap.size + 1) D' 29)) := fun D D' => by
                rw [HP.out.1, HP.out.2]
                exact (laid_fin (r := r.act) (q := w5.heap.size) H.out (two_below HB7.out) (by rw [E2.out]; exact lay_own HO5.out) (by omega) (by rw [boxed_block_other (by omega), boxed_block_other (by omega), HTN2.out]; exact HF7.out) HLAID.out).and _
              exact bodyPost_ret (v := .tuple #[rv (.slice A r.safe.length c) (.slice A5 (r.wet.length + 1) c5) (r.act.laid i (r.torn i b)), .int .i64 7]) (by simp [rv, Rf.R.laid, results, Try.results16, go_sem, *]) rfl (HFIN.out _ _)
            · have e6 : decide ((j : Int) < 64) = true := by simp; omega
              have e7 : decide ((j : Int) < r.act.spare) = false := by simp; omega
              go_wp2_with (at_builtin; refine wpList_lay69 rfl _ _ rfl (w.heap.size + 3) _ r.wet.length ps (i, w5.heap.size) rfl _ rfl (by rw [boxed_size, boxed_size]) (HO9.out _ _) hsz.2 (by rw [boxed_size, boxed_size]; omega) ?_; intro v5 w8 ho5 hg5; obtain ⟨w7, rfl, hz5, hz6, hb7, hf7⟩ := lay_open (w5.heap.size) HB9.out hz8 hlt9 (by omega) hg5 (fun k hk => ⟨by have := ((HO9.out #[] #[]).lt k hk).1; omega, fun e => HT.out.ownq (hk.trans (by rw [e]))⟩); obtain ⟨A5, c5, rfl, _, _⟩ := own_form ho5; have HO5 := Lib.hid ho5; have HB7 := Lib.hid hb7; have HF7 := Lib.hid (hf7.trans HQ9.out); clear ho5 hg5 hb7 hf7)
              have HFIN : Hid (∀ D D', RPost2 w G (r.put i b) (.int .i64 (r.putE i b)) (.returned (.tuple #[rv (.slice A r.safe.length c) (.slice A5 (r.wet.length + 1) c5) (r.act.laid i (r.torn i b)), .int .i64 7])) (boxed (boxed w7 w.heap.size D 29) (w.heap.size + 1) D' 29)) := fun D D' => by
                rw [HP.out.1, HP.out.2]
                exact (laid_fin (r := r.act) (q := w5.heap.size) H.out (two_below HB7.out) (by rw [E2.out]; exact lay_own HO5.out) (by omega) (by rw [boxed_block_other (by omega), boxed_block_other (by omega), HTN2.out]; exact HF7.out) HLAID.out).and _
              exact bodyPost_ret (v := .tuple #[rv (.slice A r.safe.length c) (.slice A5 (r.wet.length + 1) c5) (r.act.laid i (r.torn i b)), .int .i64 7]) (by simp [rv, Rf.R.laid, results, Try.results16, go_sem, *]) rfl (HFIN.out _ _)
    · have HP := Lib.hid (rput_none hno hg (by rw [hof]; simp))
      clear hno esp
      go_wp2_with (at_builtin; refine wpList_append_copy rfl _ _ _ rfl _ it _ 2 32 Try.underlying27 hit hq0 hq1 hq2 rfl (by decide) (by decide) r.wet.length _ (ys ps) rfl rfl (HO2.out _ _) (Rf.ys_one _) hsz.2 ?_; intro v3 w4 ho3 hb3; obtain ⟨w5, rfl, hz3, hz4, hb5, hf5⟩ := copy_open HBW.out HFULL.out hb3; obtain ⟨A3, c3, rfl, _, _⟩ := own_form ho3; have HO3 := Lib.hid (copy_own hw3.out ho3); have HB5 := Lib.hid hb5; have HF5 := Lib.hid hf5; clear ho3 hb3 hb5 hf5)
      have HFIN : Hid (∀ D D', RPost2 w G (r.put i b) (.int .i64 (r.putE i b)) (.returned (.tuple #[rv (.slice A r.safe.length c) (.slice A2 r.wet.length c2) r.act, .int .i64 7])) (boxed (boxed w5 w.heap.size D 29) (w.heap.size + 1) D' 29)) := fun D D' => by
        rw [HP.out.1, HP.out.2]
        exact (RPost.mk_ H.out (two_below HB5.out)).and _
      exact bodyPost_ret (v := .tuple #[rv (.slice A r.safe.length c) (.slice A2 r.wet.length c2) r.act, .int .i64 7]) (by simp [rv, results, Try.results16, go_sem, *]) rfl (HFIN.out _ _)
  · have HP := Lib.hid (rput_goes hno hg)
    have HLAID : Hid (Rf.Ok (r.act.laid i (Pl.pad b))) := H.out.ok.laid (by omega) (by rw [E1.out]; omega) hpd (by rw [E2.out]; exact hwt)
    clear hno
    go_wp2_with (first
      | (at_builtin; refine wpList_append_copy rfl _ _ _ rfl _ it _ 2 32 Try.underlying27 hit hq0 hq1 hq2 rfl (by decide) (by decide) r.wet.length _ (ys ps) rfl rfl (HO2.out _ _) (Rf.ys_one _) hsz.2 ?_; intro v3 w4 ho3 hb3; obtain ⟨w5, rfl, hz3, hz4, hb5, hf5⟩ := copy_open HBW.out HFULL.out hb3; obtain ⟨A3, c3, rfl, _, _⟩ := own_form ho3; have HO3 := Lib.hid (copy_own hw3.out ho3); have HB5 := Lib.hid hb5; have HF5 := Lib.hid hf5; clear ho3 hb3 hb5 hf5)
      | (at_builtin; refine wpList_lay69 rfl _ _ rfl (w.heap.size + 3) _ r.wet.length ps (i, w.heap.size + 2) rfl _ rfl (by rw [boxed_size, boxed_size]) (HO3.out _ _) hsz.2 (by rw [boxed_size, boxed_size]; have := (Array.getElem?_eq_some_iff.1 HF5.out).1; omega) ?_; intro v5 w6 ho5 hg5; obtain ⟨w7, rfl, hz5, hz6, hb7, hf7⟩ := lay_open (w.heap.size + 2) HB5.out hz4 (Array.getElem?_eq_some_iff.1 HF5.out).1 (by omega) hg5 (fun k hk => by have := ((HO3.out #[] #[]).lt k hk).1; omega); obtain ⟨A5, c5, rfl, _, _⟩ := own_form ho5; have HO5 := Lib.hid ho5; have HB7 := Lib.hid hb7; have HF7 := Lib.hid (hf7.trans HF5.out); clear ho5 hg5 hb7 hf7))
    have HFIN : Hid (∀ D D', RPost2 w G (r.put i b) (.int .i64 (r.putE i b)) (.returned (.tuple #[rv (.slice A r.safe.length c) (.slice A5 (r.wet.length + 1) c5) (r.act.laid i (Pl.pad b)), .int .i64 0])) (boxed (boxed w7 w.heap.size D 29) (w.heap.size + 1) D' 29)) := fun D D' => by
      rw [HP.out.1, HP.out.2]
      exact (laid_fin (r := r.act) H.out (two_below HB7.out) (by rw [E2.out]; exact lay_own HO5.out) (by omega) (by rw [boxed_block_other (by omega), boxed_block_other (by omega)]; exact HF7.out) HLAID.out).and _
    exact bodyPost_ret (v := .tuple #[rv (.slice A r.safe.length c) (.slice A5 (r.wet.length + 1) c5) (r.act.laid i (Pl.pad b)), .int .i64 0]) (by simp [rv, Rf.R.laid, results, Try.results16, go_sem, *]) rfl (HFIN.out _ _)

theorem refPut_any (w : World) (G : Nat → Prop) (v1 v2 : Value) (r : Rf.R) (bs : List Nat) (ps : List (Int × Nat)) (i : Int) (A0 : Option Addr) (n c0 B : Nat) (b : List Int) (h : Rf.M w G v1 v2 r bs ps) (ha : r.acts < 1000) (hwt : r.wet.length < 1000)
    (hr : Rd w .u8 B A0 b) (hB : B ≤ w.heap.size) (hn : b.length = n) (hb : ∀ x ∈ b, 0 ≤ x ∧ x < 256) :
    Calls Try.prog 16 #[rv v1 v2 r, .int .i64 i, .slice A0 n c0] w (RPost2 w G (r.put i b) (.int .i64 (r.putE i b))) := by
  by_cases hbad : r.bad i b
  · rw [(rput_bad hbad).1, (rput_bad hbad).2]
    exact refPut_bad w G v1 v2 r bs ps i A0 n c0 h (by unfold Rf.R.bad at hbad; omega)
  · unfold Rf.R.bad at hbad
    obtain ⟨k, rfl⟩ : ∃ k : Nat, i = k := ⟨i.toNat, by omega⟩
    exact refPut_in w G v1 v2 r bs ps k A0 n c0 B b h ha hwt (by omega) hr hB hn (by omega) hb
end Go.Proofs.Ytlbodpffkdfllaa
