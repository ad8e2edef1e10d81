/-
  A diary reads what its half has. No conditions but the sizes.
-/
import Derived.Test.YticefepcoemkoaaDoorDiary
namespace Go.Proofs.YticefepcoemkoaaDoor
set_option maxRecDepth 20000
open Go.ChangeShapes Go.WideShapes Go.ChangeAt Go.RowKit

theorem dcl_range {w : World} {d g p1 p2 n age q : Nat} {vf ve : Value} {t : TypeId} (h : w.heap[d]? = some (.cells (dcl g p1 p2 n age vf ve q) t (0, 0))) :
    w.rangeAt d 0 [.pointer (some ⟨g, 0, none⟩), .int .i64 p1, .int .i64 n] ∧ w.rangeAt d 3 [.pointer (some ⟨g, 0, none⟩), .int .i64 p2, .int .i64 n] := by
  refine ⟨fun j v hv => ?_, fun j v hv => ?_⟩
  · rw [cell_of_row _ _ _ _ _ _ h]
    match j, hv with
    | 0, hv => exact hv
    | 1, hv => exact hv
    | 2, hv => exact hv
    | j + 3, hv => simp at hv
  · rw [cell_of_row _ _ _ _ _ _ h]
    match j, hv with
    | 0, hv => exact hv
    | 1, hv => exact hv
    | 2, hv => exact hv
    | j + 3, hv => simp at hv
/-- A diary as it lies in memory, its entries and what was at first. -/
structure DiC (w : World) (I E : Nat → Prop) (base d g p1 p2 n age q : Nat) (fs : List Int) (es : List (List Int)) : Prop where
  lies : ∃ (Af : Option Addr) (cf : Nat) (ve : Value) (vs : List Value), w.heap[d]? = some (.cells (dcl g p1 p2 n age (.slice Af fs.length cf) ve q) 56 (0, 0)) ∧ RdI w I Af fs ∧ fs.length ≤ cf ∧ w.ownsRow base 31 1 ve es.length vs ∧ Ents w I vs es ∧ (∀ i, ve.ownBlock = some i → E i)
  apart : ∀ i, I i → i ≠ d ∧ ¬ E i ∧ i < w.heap.size

theorem Live.turnMore {w0 w w' : World} {N G : Nat → Prop} {g m : Nat} {st : Pl.St} (h : Live w0 N w g st m) (ht : Turn G w w') (hG : ∀ i, i < w.heap.size → G i → N i) (hG0 : ∀ i, G i → w0.heap.size ≤ i) : Live w0 (fun i => N i ∨ (w.heap.size ≤ i ∧ i < w'.heap.size)) w' g st m := by
  obtain ⟨F, h1, h2, h3⟩ := h
  exact ⟨F, h1.kept (fun i hi => ht.block i (h1.lt i hi) fun hg => (h2 i hi).2 (hG i (h1.lt i hi) hg)) ht.size, fun i hi => ⟨(h2 i hi).1, fun hn => by
    rcases hn with h' | h'
    · exact (h2 i hi).2 h'
    · have := h1.lt i hi; omega⟩, h3.trans (ht.below hG0 h3.size)⟩
theorem boxed_twice {w : World} {B : Nat} {cs cs' : Array Value} {t t' : TypeId} : boxed (boxed w B cs t) B cs' t' = boxed w B cs' t' := by
  unfold boxed
  congr 1
  exact Array.setIfInBounds_setIfInBounds ..
/-- How many entries a diary's block tells. -/
def lenAt (w : World) (d : Nat) : Nat := match w.cell? ⟨d, 8, none⟩ with
  | some (.slice _ x _) => x
  | _ => 0
theorem lenAt_eq {w : World} {d x c : Nat} {A : Option Addr} (h : w.cell? ⟨d, 8, none⟩ = some (.slice A x c)) : lenAt w d = x := by unfold lenAt; rw [h]
/-- Between two entries that are read. -/
structure Rc (w wr : World) (R I : Nat → Prop) (g d p1 p2 n age rb k : Nat) (fs : List Int) (es : List (List Int)) (j : Nat) (Af : Option Addr) (cf : Nat) (Ae : Option Addr) (ce : Nat) (vs : List Value) : Prop where
  blk : wr.heap[d]? = some (.cells (dcl g p1 p2 n age (.slice Af fs.length cf) (.slice Ae j ce) 0) 56 (0, 0))
  rdr : Rdr wr R rb g p1 n k (Sl.log age 0 (fs :: es.take j)).length (Pl.full n (Sl.log age 0 (fs :: es)))
  fst : RdI wr I Af fs ∧ fs.length ≤ cf
  own : wr.ownsRow w.heap.size 31 1 (.slice Ae j ce) j vs
  ents : Ents wr I vs (es.take j)
  apI : ∀ i, I i → w.heap.size ≤ i ∧ i < wr.heap.size ∧ ¬ R i ∧ i ≠ rb ∧ Value.ownBlock (.slice Ae j ce) ≠ some i
  apR : ∀ i, R i → w.heap.size ≤ i ∧ i < wr.heap.size ∧ Value.ownBlock (.slice Ae j ce) ≠ some i
  rb_ : w.heap.size ≤ rb ∧ Value.ownBlock (.slice Ae j ce) ≠ some rb
  turn : Turn (fun i => i = d) w wr

theorem Rdr.kept {w w' : World} {R : Nat → Prop} {rb g p n k q : Nat} {L : List Int} (h : Rdr w R rb g p n k q L) (hk : ∀ i, i = rb ∨ R i → i < w.heap.size → w'.heap[i]? = w.heap[i]?) (hs : w.heap.size ≤ w'.heap.size) : Rdr w' R rb g p n k q L := by
  have hlt := h.lt
  obtain ⟨ao, len, cap, h1, h2, h3⟩ := h
  exact ⟨ao, len, cap, (hk rb (.inl rfl) hlt).trans h1, h2.kept (fun i hi hl => hk i (.inr hi) hl) hs, h3⟩
theorem rc_next {w wr w7 w8 w9 : World} {R I : Nat → Prop} {g d p1 p2 n age k k' j cf ce c7 z g' cap' q' : Nat} {fs e : List Int} {es : List (List Int)} {Af Ae A7 : Option Addr} {vs : List Value} {o : Obj}
    (hc : Rc w wr R I g d p1 p2 n age w.heap.size k fs es j Af cf Ae ce vs) (hd : d < w.heap.size) (ht7 : Turn (fun i => i = w.heap.size ∨ R i) wr w7) (hz : wr.heap.size ≤ z ∧ z ≤ w7.heap.size)
    (ho7 : w7.ownsRow z 5 1 (.slice A7 e.length c7) e.length (cl .u8 e)) (hr7 : Rdr w7 (fun i => R i ∨ (wr.heap.size ≤ i ∧ i < z)) w.heap.size g p1 n k' q' (Pl.full n (Sl.log age 0 (fs :: es)))) (he : es[j]? = some e)
    (hq : q' = (Sl.log age 0 (fs :: es.take j)).length + (16 + e.length)) (hown : w8.ownsRow w.heap.size 31 1 (.slice (some ⟨g', 0, none⟩) (j + 1) cap') (j + 1) (vs ++ [.slice A7 e.length c7]))
    (hg : (w7.alloc o).grownBy w8 (Value.ownBlock (.slice Ae j ce))) (hat : Value.ownBlock (.slice Ae j ce) = some g' ∨ g' = w7.heap.size + 1)
    (h9 : w8 = boxed w9 d (dcl g p1 p2 n age (.slice Af fs.length cf) (.slice Ae j ce) 0) 56) (hd9 : d < w9.heap.size) :
    Rc w (boxed w9 d (dcl g p1 p2 n age (.slice Af fs.length cf) (.slice (some ⟨g', 0, none⟩) (j + 1) cap') 0) 56) (fun i => R i ∨ (wr.heap.size ≤ i ∧ i < z)) (fun i => I i ∨ (z ≤ i ∧ i < w7.heap.size)) g d p1 p2 n age w.heap.size k' fs es (j + 1) Af cf (some ⟨g', 0, none⟩) cap' (vs ++ [.slice A7 e.length c7]) := by
  have hob : ∀ i, Value.ownBlock (.slice Ae j ce) = some i → w.heap.size ≤ i ∧ i < wr.heap.size := fun i hi => ⟨(hc.own.lt i hi).1, (hc.own.lt i hi).2⟩
  have hw := hc.turn.size
  have hs7 := ht7.size
  have hs8 := hg.size
  rw [World.size_alloc] at hs8
  have hsb : (boxed w9 d (dcl g p1 p2 n age (.slice Af fs.length cf) (.slice (some ⟨g', 0, none⟩) (j + 1) cap') 0) 56).heap.size = w8.heap.size := by rw [h9, boxed_size, boxed_size]
  have kd : ∀ i, i ≠ d → (boxed w9 d (dcl g p1 p2 n age (.slice Af fs.length cf) (.slice (some ⟨g', 0, none⟩) (j + 1) cap') 0) 56).heap[i]? = w8.heap[i]? := fun i hi => by rw [h9, boxed_block_other hi, boxed_block_other hi]
  have k8 : ∀ i, i < w7.heap.size → Value.ownBlock (.slice Ae j ce) ≠ some i → i ≠ d → (boxed w9 d (dcl g p1 p2 n age (.slice Af fs.length cf) (.slice (some ⟨g', 0, none⟩) (j + 1) cap') 0) 56).heap[i]? = w7.heap[i]? := fun i hi hn hne => by
    rw [kd i hne, hg.block i (by rw [World.size_alloc]; omega) (fun e => hn e.symm), alloc_block_old hi]
  have k7 : ∀ i, i < wr.heap.size → ¬ R i → i ≠ w.heap.size → Value.ownBlock (.slice Ae j ce) ≠ some i → i ≠ d → (boxed w9 d (dcl g p1 p2 n age (.slice Af fs.length cf) (.slice (some ⟨g', 0, none⟩) (j + 1) cap') 0) 56).heap[i]? = wr.heap[i]? := fun i hi hr hb ho hne => by
    rw [k8 i (by omega) ho hne]
    exact ht7.block i hi fun h => h.elim hb hr
  have hg' : w.heap.size ≤ g' := by
    rcases hat with h' | h'
    · exact (hob g' h').1
    · omega
  have hapI : ∀ i, (I i ∨ (z ≤ i ∧ i < w7.heap.size)) → w.heap.size ≤ i ∧ i < w7.heap.size ∧ ¬ (R i ∨ (wr.heap.size ≤ i ∧ i < z)) ∧ i ≠ w.heap.size ∧ Value.ownBlock (.slice Ae j ce) ≠ some i := fun i hi => by
    rcases hi with h' | h'
    · obtain ⟨a1, a2, a3, a4, a5⟩ := hc.apI i h'
      exact ⟨a1, by omega, fun h => h.elim a3 (fun h => by omega), a4, a5⟩
    · exact ⟨by omega, h'.2, fun h => h.elim (fun h => by have := (hc.apR i h).2.1; omega) (fun h => by omega), by have := hr7.lt; have := hc.rdr.lt; omega, fun h => by have := (hob i h).2; omega⟩
  have hgd : ∀ i, Value.ownBlock (.slice (some ⟨g', 0, none⟩) (j + 1) cap') = some i → i ≠ d := fun i hi => by
    have : g' = i := by simpa [Value.ownBlock] using hi
    omega
  refine ⟨boxed_block hd9, ?_, ?_, own_kept hown fun i hi => kd i (hgd i hi), ?_, fun i hi => ?_, fun i hi => ?_, ⟨Nat.le_refl _, fun h => ?_⟩, ?_⟩
  · have hlog : (Sl.log age 0 (fs :: es.take (j + 1))).length = q' := by
      rw [hq]
      have h1 := List.take_succ_eq_append_getElem (l := es) (i := j) (List.getElem?_eq_some_iff.1 he).1
      rw [h1, (List.getElem?_eq_some_iff.1 he).2]
      have := Sl.log_snoc age 0 (fs :: es.take j) e
      rw [List.cons_append] at this
      rw [this, List.length_append, Sl.closed_len]
    rw [hlog]
    refine hr7.kept (fun i hi hlt => k8 i hlt (fun h => ?_) ?_) (by rw [hsb]; omega)
    · rcases hi with h' | h' | h'
      · subst h'; exact hc.rb_.2 h
      · exact (hc.apR i h').2.2 h
      · have := (hob i h).2; omega
    · rcases hi with h' | h' | h'
      · omega
      · have := (hc.apR i h').1; omega
      · omega
  · exact ⟨(hc.fst.1.kept (fun i hi _ => k7 i (hc.apI i hi).2.1 (hc.apI i hi).2.2.1 (hc.apI i hi).2.2.2.1 (hc.apI i hi).2.2.2.2 (by have := (hc.apI i hi).1; omega)) (by rw [hsb]; omega)).more fun _ h => .inl h, hc.fst.2⟩
  · have h1 := ((hc.ents.kept (fun i hi _ => k7 i (hc.apI i hi).2.1 (hc.apI i hi).2.2.1 (hc.apI i hi).2.2.2.1 (hc.apI i hi).2.2.2.2 (by have := (hc.apI i hi).1; omega)) (by rw [hsb]; omega) : Ents (boxed w9 d (dcl g p1 p2 n age (.slice Af fs.length cf) (.slice (some ⟨g', 0, none⟩) (j + 1) cap') 0) 56) I vs (es.take j))).more (I' := fun i => I i ∨ (z ≤ i ∧ i < w7.heap.size)) fun _ h => .inl h
    have h2 := List.take_succ_eq_append_getElem (l := es) (i := j) (List.getElem?_eq_some_iff.1 he).1
    rw [h2, (List.getElem?_eq_some_iff.1 he).2]
    refine h1.snoc (by obtain ⟨A', c', e', h3, _⟩ := own_form ho7; injection e' with _ _ e'; subst e'; exact h3) ?_
    refine (RdI.own (I := fun i => I i ∨ (z ≤ i ∧ i < w7.heap.size)) ho7 fun i h3 h4 => .inr ⟨h3, h4⟩).kept (fun i hi hlt => k8 i hlt (hapI i hi).2.2.2.2 (by have := (hapI i hi).1; omega)) (by rw [hsb]; omega)
  · obtain ⟨a1, a2, a3, a4, a5⟩ := hapI i hi
    refine ⟨a1, by rw [hsb]; omega, a3, a4, fun h => ?_⟩
    have hgi : g' = i := by simpa [Value.ownBlock] using h
    rcases hat with h' | h'
    · exact a5 (hgi ▸ h')
    · omega
  · have hlt : i < w7.heap.size ∧ w.heap.size ≤ i ∧ Value.ownBlock (.slice Ae j ce) ≠ some i := by
      rcases hi with h' | h'
      · obtain ⟨a1, a2, a3⟩ := hc.apR i h'
        exact ⟨by omega, a1, a3⟩
      · exact ⟨by omega, by omega, fun h => by have := (hob i h).2; omega⟩
    refine ⟨hlt.2.1, by rw [hsb]; omega, fun h => ?_⟩
    have hgi : g' = i := by simpa [Value.ownBlock] using h
    rcases hat with h' | h'
    · exact hlt.2.2 (hgi ▸ h')
    · omega
  · have hgi : g' = w.heap.size := by simpa [Value.ownBlock] using h
    have := hc.rdr.lt
    rcases hat with h' | h'
    · exact hc.rb_.2 (hgi ▸ h')
    · omega
  · have h8 : Turn (fun i => i = d) w w8 := by
      refine ⟨hg.os.trans (ht7.os.trans hc.turn.os), hg.tape.trans (ht7.tape.trans hc.turn.tape), hg.output.trans (ht7.output.trans hc.turn.output), by omega, fun i hi hn => ?_⟩
      rw [hg.block i (by rw [World.size_alloc]; omega) (fun e => by have := (hob i e.symm).1; omega), alloc_block_old (by omega), ht7.block i (by omega) (fun h => by
        rcases h with h' | h'
        · omega
        · have := (hc.apR i h').1; omega)]
      exact hc.turn.block i hi hn
    rw [h9] at h8
    exact h8.boxed rfl

set_option maxHeartbeats 4000000 in
theorem recall_any (w0 : World) (N : Nat → Prop) (w : World) (g : Nat) (st : Pl.St) (m S : Nat) (f : Nat → List Int) (p1 p2 n d age : Nat) (fs : List Int) (es : List (List Int))
    (h : Live w0 N w g st m) (hs : Pl.Sees st S f) (hN : ∀ i, N i → i < w.heap.size) (hNd : N d ∧ w0.heap.size ≤ d) (hf : Pl.Half f p1 n (Pl.full n (Sl.log age 0 (fs :: es)))) (hl : (Sl.log age 0 (fs :: es)).length ≤ n * 64) (hp : p1 + n ≤ S) (hz : n ≤ 70) (ht : Lines w0) (ha : age < 4294967296)
    (hb : ∀ e ∈ fs :: es, BytesOk e) (hd : w.heap[d]? = some (.cells (dcl g p1 p2 n age (.slice none 0 0) (.slice none 0 0) 0) 56 (0, 0))) (hm : m + 200 ≤ 50000) :
    Calls Tryd.prog 22 #[.pointer (some ⟨d, 0, none⟩)] w fun e w' => e = .returned (.int .i64 0) ∧ ∃ (st' : Pl.St) (z : Nat) (I E : Nat → Prop), w.heap.size ≤ z ∧ z ≤ w'.heap.size ∧ (∀ i, I i ∨ E i → w.heap.size ≤ i ∧ i < z) ∧
      DiC w' I E w.heap.size d g p1 p2 n age (Sl.log age 0 (fs :: es)).length fs es ∧ Live w0 (fun i => N i ∨ (w.heap.size ≤ i ∧ i < z)) w' g st' (m + 200) ∧ Pl.Sees st' S f ∧ st'.wet = [] ∧ Kept w0 (fun i => N i ∧ i ≠ d) w w' := by
  have hsz0 := h.old.size
  have HW := Lib.hid h
  have HSE := Lib.hid hs
  have HF := Lib.hid hf
  have HLL := Lib.hid hl
  have HB := Lib.hid hb
  have HD := Lib.hid hd
  have hrg := (dcl_range hd).1
  have hd2 : w.cell? ⟨d, 6, none⟩ = some (.int .u32 age) := by rw [cell_of_row _ _ _ _ _ _ hd]; rfl
  have hdl := (Array.getElem?_eq_some_iff.1 hd).1
  have HRG := Lib.hid hrg
  clear h hs hf hl hb hd hrg
  have hll := lines_lt ht
  have HLB : Hid (BytesOk (Pl.full n (Sl.log age 0 (fs :: es)))) := (log_ok HB.out 0).append fun x hx => by rw [List.mem_replicate] at hx; omega
  go_enter Tryd.func22, Tryd.ntmps22
  go_wp2_with (refine wpList_load_mid rfl 52 _ rfl d 0 rfl _ _ HRG.out Tryd.underlying52 rfl halfinfo ?_)
  have hb1 : Below w.heap.size w (w.alloc (.cells #[.pointer (some ⟨g, 0, none⟩), .int .i64 p1, .int .i64 n, .int .i64 0, .slice none 0 0, .int .i64 0] 70)) := (Below.refl _ w).alloc (Nat.le_refl _) _
  have hr1 := alloc_block (w := w) (o := .cells #[.pointer (some ⟨g, 0, none⟩), .int .i64 p1, .int .i64 n, .int .i64 0, .slice none 0 0, .int .i64 0] 70)
  have hz1 : (w.alloc (.cells #[.pointer (some ⟨g, 0, none⟩), .int .i64 p1, .int .i64 n, .int .i64 0, .slice none 0 0, .int .i64 0] 70)).heap.size = w.heap.size + 1 := by simp
  have hl1 := HW.out.more hb1
  generalize w.alloc (.cells #[.pointer (some ⟨g, 0, none⟩), .int .i64 p1, .int .i64 n, .int .i64 0, .slice none 0 0, .int .i64 0] 70) = W1 at *
  have hrd1 : Rdr W1 (fun _ => False) w.heap.size g p1 n 0 0 (Pl.full n (Sl.log age 0 (fs :: es))) := ⟨none, 0, 0, hr1, by simpa using RowAt.nil _ _, Nat.zero_le _, Nat.zero_le _, fun h => h⟩
  refine (hnext_any w0 _ (fun _ => False) W1 g st m S f p1 n w.heap.size 0 0 age 0 _ hl1 HSE.out HF.out HLB.out hp hz ht hrd1 (fun _ h => h.elim) (fun i hi => by
    rcases hi with h' | h'
    · exact ⟨.inr ⟨by omega, by omega⟩, by omega⟩
    · exact h'.elim)).mono ?_
  rintro e w5 ⟨k, A5, n5, c5, _, rfl, hn5, hE, z, hz1', hz2, ho5, hr5, ht5⟩
  have hnx := Sl.log_next (a := age) (n := n) (k := k) (q := 0) (j := 0) (ps := fs :: es) (p := fs) ha rfl rfl HLL.out hz hE
  rw [hnx] at hn5 ho5 hr5 ⊢
  dsimp only at hn5 ho5 hr5 ⊢
  simp only [decide_true]
  subst hn5
  have hb5 := (ht5.block d (by omega) (by rintro (h' | h'); omega; exact h')).trans ((hb1.block d hdl).trans HD.out)
  have HT5 : Hid (Turn (fun i => i = d) w w5) := (Turn.of_below (F := fun i => i = d) hb1).trans ht5 fun i hi => by
    rcases hi with h' | h'
    · exact .inr (by omega)
    · exact h'.elim
  have hz5 := ht5.size
  have hnR : ¬ (fun i => False ∨ (W1.heap.size ≤ i ∧ i < z)) w.heap.size := by rintro (h' | h'); exact h'; omega
  have hc5 := (own_form ho5)
  have HC5 : Hid (fs.length ≤ c5) := by obtain ⟨A', c', e, h1, _⟩ := hc5; injection e with _ _ e; subst e; exact h1
  have HRC : Hid (Rc w (boxed w5 d (dcl g p1 p2 n age (.slice A5 fs.length c5) (.slice none 0 0) 0) 56) (fun i => False ∨ (W1.heap.size ≤ i ∧ i < z)) (fun i => z ≤ i ∧ i < w5.heap.size) g d p1 p2 n age w.heap.size k fs es 0 A5 c5 none 0 []) := by
    have hk5 : ∀ i, i ≠ d → (boxed w5 d (dcl g p1 p2 n age (.slice A5 fs.length c5) (.slice none 0 0) 0) 56).heap[i]? = w5.heap[i]? := fun i hi => boxed_block_other hi
    have hq0 : (Sl.log age 0 (fs :: es.take 0)).length = 0 + (16 + fs.length) := by simp [Sl.log, Sl.closed_len]
    rw [← hq0] at hr5
    obtain ⟨ao, len, cap, r1, r2, r3, r4, r5⟩ := hr5
    refine ⟨boxed_block (Array.getElem?_eq_some_iff.1 hb5).1, ⟨ao, len, cap, by rw [hk5 _ (by omega)]; exact r1, ?_, ?_, r4, r5⟩, ⟨(RdI.own ho5 fun i h1 h2 => ⟨h1, h2⟩).kept (fun i hi _ => hk5 i (by omega)) (by rw [boxed_size]; exact Nat.le_refl _), HC5.out⟩, World.ownsRow_nil _ _ _ _, Ents.nil _ _, ?_, ?_, ⟨Nat.le_refl _, by simp [Value.ownBlock]⟩, ?_⟩
    · exact r2.kept (w' := boxed w5 d (dcl g p1 p2 n age (.slice A5 fs.length c5) (.slice none 0 0) 0) 56) (fun i hi _ => hk5 i (fun e => by
        rcases hi with h' | h'
        · exact h'
        · omega)) (by rw [boxed_size]; exact Nat.le_refl _)
    · exact r3
    · intro i hi
      rw [boxed_size]
      exact ⟨by omega, hi.2, by rintro (h' | h'); exact h'; omega, by omega, by simp [Value.ownBlock]⟩
    · intro i hi
      rw [boxed_size]
      rcases hi with h' | h'
      · exact h'.elim
      · exact ⟨by omega, by omega, by simp [Value.ownBlock]⟩
    · have h1 := HT5.out
      rw [boxed_self hb5] at h1
      exact h1.boxed rfl
  clear hr5 ht5 ho5 hE hnx hnR hrd1 hl1 hr1 hb1 hc5
  obtain ⟨w6, rfl⟩ : ∃ w6, w5 = boxed w6 d (dcl g p1 p2 n age (.slice none 0 0) (.slice none 0 0) 0) 56 := ⟨w5, boxed_self hb5⟩
  have hlt6 : d < w6.heap.size := by have := (Array.getElem?_eq_some_iff.1 hb5).1; rwa [boxed_size] at this
  clear hb5
  rw [boxed_twice] at HRC
  rw [boxed_size] at HRC
  have hes : es.length ≤ 5000 := by
    have h2 : ∀ (ps : List (List Int)) (i : Nat), 16 * ps.length ≤ (Sl.log age i ps).length := fun ps => by
      induction ps with
      | nil => intro i; simp [Sl.log]
      | cons q r ih => intro i; have := ih (i + 1); show _ ≤ (Sl.closed age i q ++ Sl.log age (i + 1) r).length; rw [List.length_append, Sl.closed_len, List.length_cons]; omega
    have := h2 (fs :: es) 0
    have := HLL.out
    rw [List.length_cons] at *
    omega
  unfold dcl
  go_wp2
  go_loopw [4] (fun _ wr => ∃ (j : Nat) (R I : Nat → Prop) (k : Nat) (Af : Option Addr) (cf : Nat) (Ae : Option Addr) (ce : Nat) (vs : List Value), j ≤ es.length ∧ Hid (Rc w wr R I g d p1 p2 n age w.heap.size k fs es j Af cf Ae ce vs)) (fun _ wr => es.length - lenAt wr d)
  case atStart => exact ⟨0, _, _, k, _, _, _, _, _, Nat.zero_le _, HRC.out⟩
  case round =>
    obtain ⟨j, R, I, k, Af, cf, Ae, ce, vs, hj, HC⟩ := hrel
    have d6 : wr.cell? ⟨d, 6, none⟩ = some (.int .u32 age) := by rw [cell_of_row _ _ _ _ _ _ HC.out.blk]; rfl
    have d8 : wr.cell? ⟨d, 8, none⟩ = some (.slice Ae j ce) := by rw [cell_of_row _ _ _ _ _ _ HC.out.blk]; rfl
    have HD8 := Lib.hid d8
    have HL9 := Lib.hid (HW.out.turnMore HC.out.turn (fun i _ h => by subst h; exact hNd.1) (fun i h => by subst h; exact hNd.2))
    go_wp2_with (fail)
    refine lane_start (ord := [0, 1, 2, 3, 4, 5, 6, 7, 8, 9, 10, 11, 12, 13, 14, 15, 16]) (S := fun w' => w'.cell? ⟨d, 6, none⟩ = some (.int .u32 age) ∧ w'.cell? ⟨d, 8, none⟩ = some (.slice Ae j ce)) rfl (by kernel_rfl) ⟨d6, d8⟩ (fun hHeld => ?_)
    iterate 10 (refine lane_take (v := ?_) rfl (by kernel_rfl) (by kernel_rfl) (by rfl) ?_ (by assumption) ?_; rotate_left; (focus (intro W hSw; obtain ⟨hS0, hS1⟩ := hSw; go_simp; try (with_reducible rfl))); simp only [Act.put, List.setIfInBounds_toArray, List.set_cons_zero, List.set_cons_succ])
    refine lane_alone rfl (by kernel_rfl) (by rfl) (fun K hK => ?_)
    go_simp
    try go_wp2_with (fail)
    refine hK _ _ ⟨d6, d8⟩ (fun _ => ?_)
    clear hK K
    refine lane_alone rfl (by kernel_rfl) (by rfl) (fun K hK => ?_)
    go_simp
    go_wp2_with (fail)
    have hj5 : j ≤ 5000 := by omega
    have hwj1 : IntKind.i64.wrap ((j : Int) + 1) = (j : Int) + 1 := by rw [IntKind.wrap_i64]; omega
    have hwj2 : IntKind.u32.wrap ((j : Int) + 1) = (j : Int) + 1 := by rw [IntKind.wrap_u32']; omega
    have HWJ : Hid (IntKind.u32.wrap (IntKind.i64.wrap ((j : Int) + 1)) = ((j + 1 : Nat) : Int)) := by show _ = _; rw [hwj1, hwj2]; omega
    clear hwj1 hwj2
    rw [HWJ.out]
    have hrd9 : Rdr wr.drew R w.heap.size g p1 n k (Sl.log age 0 (fs :: es.take j)).length (Pl.full n (Sl.log age 0 (fs :: es))) := HC.out.rdr.kept (fun _ _ _ => rfl) (Nat.le_refl _)
    have hwz := HC.out.turn.size
    refine (hnext_any w0 _ R wr.drew g st m S f p1 n w.heap.size (Sl.log age 0 (fs :: es.take j)).length k age (j + 1) _ (HL9.out.below (Below.refl _ _).drew) HSE.out HF.out HLB.out hp hz ht hrd9 (fun i hi => (HC.out.apR i hi).2.1) (fun i hi => by
      have := HC.out.rdr.lt
      rcases hi with h' | h'
      · exact ⟨.inr ⟨by omega, by omega⟩, by omega⟩
      · have := HC.out.apR i h'; exact ⟨.inr ⟨by omega, by omega⟩, by omega⟩)).mono ?_
    rintro e w7 ⟨k', A7, n7, c7, _, rfl, hn7, hE7, z7, hz71, hz72, ho7, hr7, ht7⟩
    have ht7' : Turn (fun i => i = w.heap.size ∨ R i) wr w7 := ⟨ht7.os, ht7.tape, ht7.output, ht7.size, ht7.block⟩
    have hb7 := (ht7'.block d (by omega) (by rintro (h' | h'); omega; have := (HC.out.apR d h').1; omega)).trans HC.out.blk
    have u6 : w7.cell? ⟨d, 6, none⟩ = some (.int .u32 age) := by rw [cell_of_row _ _ _ _ _ _ hb7]; rfl
    have u8 : w7.cell? ⟨d, 8, none⟩ = some (.slice Ae j ce) := by rw [cell_of_row _ _ _ _ _ _ hb7]; rfl
    by_cases hjl : j < es.length
    · have he : es[j]? = some es[j] := List.getElem?_eq_getElem hjl
      have hnx := Sl.log_next (a := age) (n := n) (k := k') (q := (Sl.log age 0 (fs :: es.take j)).length) (j := j + 1) (ps := fs :: es) (p := es[j]) ha he rfl HLL.out hz hE7
      rw [hnx] at hn7 ho7 hr7 ⊢
      dsimp only at hn7 ho7 hr7 ⊢
      generalize es[j] = ej at *
      subst hn7
      obtain ⟨i0, hi0, hi1, hi2, hi3⟩ := info_parts rowinfo2
      have hown7 : w7.ownsRow w.heap.size 31 1 (.slice Ae j ce) j vs := own_kept HC.out.own fun i hi => ht7'.block i (HC.out.own.lt i hi).2 (by rintro (h' | h'); exact HC.out.rb_.2 (h' ▸ hi); exact (HC.out.apR i h').2.2 hi)
      obtain ⟨g8, cap8, w8, hrun, hown8, hgrow, hat, hlt8⟩ := run_append_lies (P := Tryd.prog) (w7.alloc (.cells #[.slice A7 ej.length c7] 31)) 32 32 w.heap.size 31 i0 (.slice none 0 0) 1 24 Tryd.underlying32 hi0 hi1 hi2 hi3 rfl (by decide) _ j vs (hown7.alloc _) ⟨w7.heap.size, 0, none⟩ 1 1 [.slice A7 ej.length c7] rfl (cell_one_new _ _ _) (by simp [Value.oneCell']) (by omega) (by unfold maxLen; omega) (by omega) (by have := ht7'.size; simp; omega) (w7.heap.size + 1) (by simp)
      have hgd : ∀ i, Value.ownBlock (.slice Ae j ce) = some i → i ≠ d := fun i hi => by have := (HC.out.own.lt i hi).1; omega
      have hb8 := (hgrow.block d (by have := ht7'.size; simp; omega) (fun e => hgd d e.symm rfl)).trans ((alloc_block_old (by have := ht7'.size; omega)).trans hb7)
      obtain ⟨w9, hw9⟩ : ∃ w9, w8 = boxed w9 d (dcl g p1 p2 n age (.slice Af fs.length cf) (.slice Ae j ce) 0) 56 := ⟨w8, boxed_self hb8⟩
      have hlt9 : d < w9.heap.size := by have := (Array.getElem?_eq_some_iff.1 hb8).1; rwa [hw9, boxed_size] at this
      have HRC2 := Lib.hid (rc_next HC.out hdl ht7' ⟨hz71, hz72⟩ ho7 hr7 he rfl hown8 hgrow hat hw9 hlt9)
      have HRUN := Lib.hid hrun
      clear hrun hown8 hgrow hat hlt8 hown7 hnx ho7 hr7 ht7 ht7' hE7 hrd9 hb7 hb8 hi0 hi1 hi2 hi3 hHeld d6 d8
      refine hK _ _ ⟨u6, u8⟩ (fun _ => ?_)
      clear hK K
      iterate 5 (refine lane_take (v := ?_) rfl (by kernel_rfl) (by kernel_rfl) (by rfl) ?_ (by exact ⟨u6, u8⟩) ?_; rotate_left; (focus (intro W hSw;  go_simp; try (with_reducible rfl))); simp only [Act.put, List.setIfInBounds_toArray, List.set_cons_zero, List.set_cons_succ])
      refine lane_end (by kernel_rfl) ?_
      subst hw9
      unfold dcl at HRC2 HRUN
      go_wp2_with (at_builtin; refine wpList_value rfl (exec_append rfl rfl rfl HRUN.out) ?_)
      refine ⟨⟨j + 1, _, _, k', Af, cf, _, _, _, by omega, HRC2.out⟩, ?_⟩
      rw [lenAt_eq HD8.out, lenAt_eq (boxed_cell hlt9)]
      omega
    · obtain rfl : j = es.length := by omega
      rw [List.take_length] at hn7 ho7 hr7 ⊢
      obtain ⟨mm, hno⟩ := Sl.log_end (a := age) (n := n) (k := k') (ps := fs :: es)
      rw [hno] at hn7 ho7 hr7 ⊢
      obtain ⟨o1, o2, o3⟩ := Sl.open1_noughts age (es.length + 1) mm
      rw [o1] at hn7 ho7
      rw [o2] at hr7
      rw [decide_eq_false o3]
      rw [Nat.add_zero] at hr7
      have v5 : w7.cell? ⟨w.heap.size, 5, none⟩ = some (.int .i64 ((Sl.log age 0 (fs :: es)).length : Nat)) := by
        obtain ⟨ao, len, cap, r1, _⟩ := hr7
        rw [cell_of_row _ _ _ _ _ _ r1]; rfl
      have hrb := HC.out.rdr.lt
      have HT7 : Hid (Turn (fun i => i = d) w w7) := HC.out.turn.trans ht7' fun i hi => by
        rcases hi with h' | h'
        · exact .inr (by omega)
        · exact .inr (HC.out.apR i h').1
      have HI7 : Hid (RdI w7 I Af fs ∧ Ents w7 I vs es) := by
        have hk : ∀ i, I i → i < wr.heap.size → w7.heap[i]? = wr.heap[i]? := fun i hi hlt => ht7'.block i hlt (by
          obtain ⟨a1, a2, a3, a4, a5⟩ := HC.out.apI i hi
          rintro (h' | h')
          · exact a4 h'
          · exact a3 h')
        have he := HC.out.ents
        rw [List.take_length] at he
        exact ⟨HC.out.fst.1.kept hk ht7'.size, he.kept hk ht7'.size⟩
      have HO7 : Hid (w7.ownsRow w.heap.size 31 1 (.slice Ae es.length ce) es.length vs) := own_kept HC.out.own fun i hi => ht7'.block i (HC.out.own.lt i hi).2 (by rintro (h' | h'); exact HC.out.rb_.2 (h' ▸ hi); exact (HC.out.apR i h').2.2 hi)
      have hs7 := ht7'.size
      refine hK _ _ ⟨u6, u8⟩ (fun _ => ?_)
      clear hK K
      iterate 5 (refine lane_take (v := ?_) rfl (by kernel_rfl) (by kernel_rfl) (by rfl) ?_ (by exact ⟨u6, u8⟩) ?_; rotate_left; (focus (intro W hSw;  go_simp; try (with_reducible rfl))); simp only [Act.put, List.setIfInBounds_toArray, List.set_cons_zero, List.set_cons_succ])
      refine lane_end (by kernel_rfl) ?_
      clear ht7 ht7' ho7 hr7 hE7 hrd9 hHeld u6 u8 hn7
      obtain ⟨w9, rfl⟩ : ∃ w9, w7 = boxed w9 d (dcl g p1 p2 n age (.slice Af fs.length cf) (.slice Ae es.length ce) 0) 56 := ⟨w7, boxed_self hb7⟩
      have hlt9 : d < w9.heap.size := by have := (Array.getElem?_eq_some_iff.1 hb7).1; rwa [boxed_size] at this
      have hne9 : w.heap.size ≠ d := by omega
      rw [boxed_cell_other hne9] at v5
      rw [boxed_size] at hs7
      have HT8 : Hid (Turn (fun i => i = d) w (boxed w9 d (dcl g p1 p2 n age (.slice Af fs.length cf) (.slice Ae es.length ce) (Sl.log age 0 (fs :: es)).length) 56)) := HT7.out.boxed rfl
      have HB8 : Hid ((boxed w9 d (dcl g p1 p2 n age (.slice Af fs.length cf) (.slice Ae es.length ce) (Sl.log age 0 (fs :: es)).length) 56).heap[d]? = some (.cells (dcl g p1 p2 n age (.slice Af fs.length cf) (.slice Ae es.length ce) (Sl.log age 0 (fs :: es)).length) 56 (0, 0))) := boxed_block hlt9
      have hk8 : ∀ i, w.heap.size ≤ i → (boxed w9 d (dcl g p1 p2 n age (.slice Af fs.length cf) (.slice Ae es.length ce) (Sl.log age 0 (fs :: es)).length) 56).heap[i]? = (boxed w9 d (dcl g p1 p2 n age (.slice Af fs.length cf) (.slice Ae es.length ce) 0) 56).heap[i]? := fun i hi => by rw [boxed_block_other (by omega), boxed_block_other (by omega)]
      have HI8 : Hid (RdI (boxed w9 d (dcl g p1 p2 n age (.slice Af fs.length cf) (.slice Ae es.length ce) (Sl.log age 0 (fs :: es)).length) 56) I Af fs ∧ Ents (boxed w9 d (dcl g p1 p2 n age (.slice Af fs.length cf) (.slice Ae es.length ce) (Sl.log age 0 (fs :: es)).length) 56) I vs es) := ⟨HI7.out.1.kept (fun i hi _ => hk8 i (HC.out.apI i hi).1) (by rw [boxed_size, boxed_size]; exact Nat.le_refl _), HI7.out.2.kept (fun i hi _ => hk8 i (HC.out.apI i hi).1) (by rw [boxed_size, boxed_size]; exact Nat.le_refl _)⟩
      have HO8 : Hid ((boxed w9 d (dcl g p1 p2 n age (.slice Af fs.length cf) (.slice Ae es.length ce) (Sl.log age 0 (fs :: es)).length) 56).ownsRow w.heap.size 31 1 (.slice Ae es.length ce) es.length vs) := own_kept HO7.out fun i hi => hk8 i (HO7.out.lt i hi).1
      have hs8 : wr.heap.size ≤ (boxed w9 d (dcl g p1 p2 n age (.slice Af fs.length cf) (.slice Ae es.length ce) (Sl.log age 0 (fs :: es)).length) 56).heap.size := by rw [boxed_size]; exact hs7
      unfold dcl
      unfold dcl at HT8 HB8 HI8 HO8 hs8
      clear hb7 HI7 HO7 HT7 hk8
      go_wp2_with (fail)
      generalize boxed w9 d #[.pointer (some ⟨g, 0, none⟩), .int .i64 p1, .int .i64 n, .pointer (some ⟨g, 0, none⟩), .int .i64 p2, .int .i64 n, .int .u32 age, .slice Af fs.length cf, .slice Ae es.length ce, .int .i64 ((Sl.log age 0 (fs :: es)).length : Nat)] 56 = W8 at *
      refine lane_start (ord := [0, 1, 2, 3, 4, 5, 6, 7, 8, 9]) (S := fun w' => w'.heap[d]? = some (.cells (dcl g p1 p2 n age (.slice Af fs.length cf) (.slice Ae es.length ce) (Sl.log age 0 (fs :: es)).length) 56 (0, 0))) rfl (by kernel_rfl) HB8.out (fun hHeld => ?_)
      iterate 3 (refine lane_take (v := ?_) rfl (by kernel_rfl) (by kernel_rfl) (by rfl) ?_ (by assumption) ?_; rotate_left; (focus (intro W hSw;  go_simp; try (with_reducible rfl))); simp only [Act.put, List.setIfInBounds_toArray, List.set_cons_zero, List.set_cons_succ])
      refine lane_take (v := halfV g p1 n) rfl (by kernel_rfl) (by kernel_rfl) (by rfl) (fun W hSw => exec_load rfl rfl (run_load_half (dcl_range hSw).1)) (by assumption) ?_
      unfold halfV
      simp only [Act.put, List.setIfInBounds_toArray, List.set_cons_zero, List.set_cons_succ]
      iterate 4 (refine lane_take (v := ?_) rfl (by kernel_rfl) (by kernel_rfl) (by rfl) ?_ (by assumption) ?_; rotate_left; (focus (intro W hSw; have q0 : W.cell? ⟨d, 9, none⟩ = some (.int .i64 ((Sl.log age 0 (fs :: es)).length : Nat)) := (by rw [cell_of_row _ _ _ _ _ _ hSw]; rfl); go_simp; try (with_reducible rfl))); simp only [Act.put, List.setIfInBounds_toArray, List.set_cons_zero, List.set_cons_succ])
      refine lane_alone rfl (by kernel_rfl) (by rfl) (fun K hK => ?_)
      go_simp
      go_wp2_with (fail)
      have hz8 := HT8.out.size
      have hN8 : ∀ i, (N i ∨ (w.heap.size ≤ i ∧ i < W8.heap.size)) → i < W8.drew.heap.size := fun i hi => by
        show i < W8.heap.size
        rcases hi with h' | h'
        · have := hN i h'; omega
        · omega
      have hl8 := HW.out.turnMore HT8.out (fun i _ h => by subst h; exact hNd.1) (fun i h => by subst h; exact hNd.2)
      refine (hwipe_any w0 _ W8.drew g st m S f p1 n (Sl.log age 0 (fs :: es)).length (hl8.below (Below.refl _ _).drew) HSE.out hN8 HLL.out hp hm (by omega)).mono ?_
      rintro e w10 ⟨rfl, st10, hl10, hs10, hw10, hk10⟩
      rw [Pl.wiped_full HF.out HLL.out] at hs10
      have hk : ∀ i, (N i ∨ (w.heap.size ≤ i ∧ i < W8.heap.size)) → w10.heap[i]? = W8.heap[i]? := fun i hi => hk10.block i hi
      have hb10 := (hk d (.inl hNd.1)).trans HB8.out
      have hzk : W8.heap.size ≤ w10.heap.size := hk10.size
      have HFIN : Hid (∃ (st' : Pl.St) (z : Nat) (I E : Nat → Prop), w.heap.size ≤ z ∧ z ≤ w10.heap.size ∧ (∀ i, I i ∨ E i → w.heap.size ≤ i ∧ i < z) ∧
          DiC w10 I E w.heap.size d g p1 p2 n age (Sl.log age 0 (fs :: es)).length fs es ∧ Live w0 (fun i => N i ∨ (w.heap.size ≤ i ∧ i < z)) w10 g st' (m + 200) ∧ Pl.Sees st' S f ∧ st'.wet = [] ∧ Kept w0 (fun i => N i ∧ i ≠ d) w w10) := by
        have hI8 : ∀ i, I i → w.heap.size ≤ i ∧ i < W8.heap.size := fun i hi => by have := HC.out.apI i hi; exact ⟨this.1, by omega⟩
        have hE8 : ∀ i, Value.ownBlock (.slice Ae es.length ce) = some i → w.heap.size ≤ i ∧ i < W8.heap.size := fun i hi => HO8.out.lt i hi
        refine ⟨st10, W8.heap.size, I, (fun i => Value.ownBlock (.slice Ae es.length ce) = some i), hz8, hzk, fun i hi => hi.elim (hI8 i) (hE8 i), ⟨⟨Af, cf, .slice Ae es.length ce, vs, hb10, HI8.out.1.kept (fun i hi _ => hk i (.inr (hI8 i hi))) hzk, HC.out.fst.2, own_kept HO8.out fun i hi => hk i (.inr (hE8 i hi)), HI8.out.2.kept (fun i hi _ => hk i (.inr (hI8 i hi))) hzk, fun i hi => hi⟩, fun i hi => ⟨by have := (hI8 i hi).1; omega, (HC.out.apI i hi).2.2.2.2, by have := (hI8 i hi).2; omega⟩⟩, hl10, hs10, hw10, ⟨by omega, fun i hi => ?_, fun i hi => ?_⟩⟩
        · rw [hk i (.inl hi.1)]
          exact HT8.out.block i (hN i hi.1) hi.2
        · have := hk10.old i hi
          have h3 : w10.heap[i]? = W8.heap[i]? := this
          rw [h3]
          exact HT8.out.block i (by omega) (by omega)
      clear hl10 hs10 hw10 hk10 hk hl8 hN8 hHeld
      refine hK _ _ hb10 (fun _ => ?_)
      clear hK K
      iterate 1 (refine lane_take (v := ?_) rfl (by kernel_rfl) (by kernel_rfl) (by rfl) ?_ (by exact hb10) ?_; rotate_left; (focus (intro W hSw;  go_simp; try (with_reducible rfl))); simp only [Act.put, List.setIfInBounds_toArray, List.set_cons_zero, List.set_cons_succ])
      refine lane_end (by kernel_rfl) ?_
      clear hb10
      go_wp2
      go_ret
      exact ⟨rfl, HFIN.out⟩
end Go.Proofs.YticefepcoemkoaaDoor
