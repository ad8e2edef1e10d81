/-
  A reader takes the next seal. No conditions but the sizes.
-/
import Derived.Test.YticefepcoemkoaaDoorHalfAge
namespace Go.Proofs.YticefepcoemkoaaDoor
set_option maxRecDepth 20000
open Go.ChangeShapes Go.WideShapes Go.ChangeAt Go.RowKit

/-- A reader's block. -/
def Rdr (w : World) (R : Nat → Prop) (rb g p n k q : Nat) (L : List Int) : Prop :=
  ∃ ao len cap, w.heap[rb]? = some (.cells #[.pointer (some ⟨g, 0, none⟩), .int .i64 p, .int .i64 n, .int .i64 k, .slice ao len cap, .int .i64 q] 70 (0, 0)) ∧ RowAt w R ao len cap ((L.take (k * 64)).drop q) ∧ q ≤ k * 64 ∧ k ≤ n ∧ ¬ R rb
theorem Rdr.lt {w : World} {R : Nat → Prop} {rb g p n k q : Nat} {L : List Int} (h : Rdr w R rb g p n k q L) : rb < w.heap.size := by
  obtain ⟨_, _, _, h, _⟩ := h
  exact (Array.getElem?_eq_some_iff.1 h).1

theorem next_fin {R : Nat → Prop} {w W4 w6 : World} {G : Nat → Prop} {rb g p n k q o2 len' cap' n5 c5 Xb z : Nat} {ao' A5 : Option Addr} {L o1 : List Int} {A3 : Option Addr} {l3 c3 : Nat} {x : Int}
    (hb4 : Below w.heap.size w W4) (hz4 : w.heap.size + 4 = W4.heap.size) (hXb : w.heap.size ≤ Xb ∧ Xb < W4.heap.size) (hrlt : rb < w.heap.size) (hRl : ∀ i, R i → i < w.heap.size) (hnR : ¬ R rb) (hkn : k ≤ n)
    (hG : ∀ i, G i → i = rb ∨ R i ∨ w.heap.size ≤ i) (hq : q ≤ k * 64) (hlr : ((L.take (k * 64)).drop q).length = len') (hle : o2 ≤ len') (hlt6 : rb < w6.heap.size)
    (ht5 : Turn G W4 (boxed w6 rb #[.pointer (some ⟨g, 0, none⟩), .int .i64 p, .int .i64 n, .int .i64 k, .slice ao' len' cap', .int .i64 q] 70))
    (ho5 : (boxed w6 rb #[.pointer (some ⟨g, 0, none⟩), .int .i64 p, .int .i64 n, .int .i64 k, .slice ao' len' cap', .int .i64 q] 70).ownsRow z 5 1 (.slice A5 n5 c5) n5 (cl .u8 o1))
    (hrow : RowAt (boxed w6 rb #[.pointer (some ⟨g, 0, none⟩), .int .i64 p, .int .i64 n, .int .i64 k, .slice ao' len' cap', .int .i64 q] 70) (fun i => R i ∨ (W4.heap.size ≤ i ∧ i < z)) A3 l3 c3 (((L.take (k * 64)).drop q).drop o2))
    (hx : x = ((q + o2 : Nat) : Int)) (hz : W4.heap.size ≤ z) :
    ((boxed (w6.setCell ⟨Xb, 0, none⟩ (.slice A5 n5 c5)) rb #[.pointer (some ⟨g, 0, none⟩), .int .i64 p, .int .i64 n, .int .i64 k, .slice A3 l3 c3, .int .i64 x] 70).drew.drew).ownsRow z 5 1 (.slice A5 n5 c5) n5 (cl .u8 o1) ∧
      Rdr ((boxed (w6.setCell ⟨Xb, 0, none⟩ (.slice A5 n5 c5)) rb #[.pointer (some ⟨g, 0, none⟩), .int .i64 p, .int .i64 n, .int .i64 k, .slice A3 l3 c3, .int .i64 x] 70).drew.drew) (fun i => R i ∨ (w.heap.size ≤ i ∧ i < z)) rb g p n k (q + o2) L ∧
      Turn (fun i => i = rb ∨ R i) w ((boxed (w6.setCell ⟨Xb, 0, none⟩ (.slice A5 n5 c5)) rb #[.pointer (some ⟨g, 0, none⟩), .int .i64 p, .int .i64 n, .int .i64 k, .slice A3 l3 c3, .int .i64 x] 70).drew.drew) := by
  subst hx
  have hsz : (w6.setCell ⟨Xb, 0, none⟩ (.slice A5 n5 c5)).heap.size = w6.heap.size := Array.size_modify
  have hk : ∀ i, i ≠ rb → i ≠ Xb → ((boxed (w6.setCell ⟨Xb, 0, none⟩ (.slice A5 n5 c5)) rb #[.pointer (some ⟨g, 0, none⟩), .int .i64 p, .int .i64 n, .int .i64 k, .slice A3 l3 c3, .int .i64 ((q + o2 : Nat) : Int)] 70).drew.drew).heap[i]? = (boxed w6 rb #[.pointer (some ⟨g, 0, none⟩), .int .i64 p, .int .i64 n, .int .i64 k, .slice ao' len' cap', .int .i64 q] 70).heap[i]? := fun i h1 h2 => by
    show (boxed _ _ _ _).heap[i]? = _
    rw [boxed_block_other h1, boxed_block_other h1, Below.heap_setCell _ _ _ _ (by exact h2)]
  have hz9 : ((boxed (w6.setCell ⟨Xb, 0, none⟩ (.slice A5 n5 c5)) rb #[.pointer (some ⟨g, 0, none⟩), .int .i64 p, .int .i64 n, .int .i64 k, .slice A3 l3 c3, .int .i64 ((q + o2 : Nat) : Int)] 70).drew.drew).heap.size = (boxed w6 rb #[.pointer (some ⟨g, 0, none⟩), .int .i64 p, .int .i64 n, .int .i64 k, .slice ao' len' cap', .int .i64 q] 70).heap.size := by
    show (boxed _ _ _ _).heap.size = _
    rw [boxed_size, boxed_size, hsz]
  have hb9 : ((boxed (w6.setCell ⟨Xb, 0, none⟩ (.slice A5 n5 c5)) rb #[.pointer (some ⟨g, 0, none⟩), .int .i64 p, .int .i64 n, .int .i64 k, .slice A3 l3 c3, .int .i64 ((q + o2 : Nat) : Int)] 70).drew.drew).heap[rb]? = some (.cells #[.pointer (some ⟨g, 0, none⟩), .int .i64 p, .int .i64 n, .int .i64 k, .slice A3 l3 c3, .int .i64 ((q + o2 : Nat) : Int)] 70 (0, 0)) := boxed_block (by rw [hsz]; exact hlt6)
  have ho := ht5.os
  have hta := ht5.tape
  have hout := ht5.output
  have ho' : ((boxed (w6.setCell ⟨Xb, 0, none⟩ (.slice A5 n5 c5)) rb #[.pointer (some ⟨g, 0, none⟩), .int .i64 p, .int .i64 n, .int .i64 k, .slice A3 l3 c3, .int .i64 ((q + o2 : Nat) : Int)] 70).drew.drew).os = W4.os := ho
  have hta' : ((boxed (w6.setCell ⟨Xb, 0, none⟩ (.slice A5 n5 c5)) rb #[.pointer (some ⟨g, 0, none⟩), .int .i64 p, .int .i64 n, .int .i64 k, .slice A3 l3 c3, .int .i64 ((q + o2 : Nat) : Int)] 70).drew.drew).tape = W4.tape := hta
  have hout' : ((boxed (w6.setCell ⟨Xb, 0, none⟩ (.slice A5 n5 c5)) rb #[.pointer (some ⟨g, 0, none⟩), .int .i64 p, .int .i64 n, .int .i64 k, .slice A3 l3 c3, .int .i64 ((q + o2 : Nat) : Int)] 70).drew.drew).output = W4.output := hout
  have hs5 := ht5.size
  have hb5 := ht5.block
  generalize (boxed (w6.setCell ⟨Xb, 0, none⟩ (.slice A5 n5 c5)) rb #[.pointer (some ⟨g, 0, none⟩), .int .i64 p, .int .i64 n, .int .i64 k, .slice A3 l3 c3, .int .i64 ((q + o2 : Nat) : Int)] 70).drew.drew = W9 at *
  generalize boxed w6 rb #[.pointer (some ⟨g, 0, none⟩), .int .i64 p, .int .i64 n, .int .i64 k, .slice ao' len' cap', .int .i64 q] 70 = W5 at *
  refine ⟨?_, ⟨A3, l3, c3, hb9, ?_, ?_, hkn, ?_⟩, ⟨ho'.trans hb4.os, hta'.trans hb4.tape, hout'.trans hb4.output, by have := hb4.size; omega, fun i hi hn => ?_⟩⟩
  · refine own_kept ho5 fun i hi => hk i ?_ ?_
    · have := (ho5.lt i hi).1; omega
    · have := (ho5.lt i hi).1; omega
  · have hr2 : RowAt W9 (fun i => R i ∨ (W4.heap.size ≤ i ∧ i < z)) A3 l3 c3 (((L.take (k * 64)).drop q).drop o2) := hrow.kept (fun i hi _ => hk i (fun e => by
      subst e
      rcases hi with h' | h'
      · exact hnR h'
      · omega) (fun e => by
      rcases hi with h' | h'
      · have := hRl i h'; omega
      · omega)) (by omega)
    rw [List.drop_drop] at hr2
    exact hr2.wider fun i hi => by
      rcases hi with h' | h'
      · exact .inl h'
      · exact .inr ⟨by omega, by omega⟩
  · rw [List.length_drop, List.length_take] at hlr; omega
  · rintro (h' | h')
    · exact hnR h'
    · omega
  · rw [hk i (fun e => hn (.inl e)) (by omega), hb5 i (by omega) (fun hg => by
      rcases hG i hg with h' | h' | h'
      · exact hn (.inl h')
      · exact hn (.inr h')
      · omega)]
    exact hb4.block i hi

set_option maxHeartbeats 4000000 in
theorem hnext_any (w0 : World) (N R : Nat → Prop) (w : World) (g : Nat) (st : Pl.St) (m S : Nat) (f : Nat → List Int) (p n rb q k0 age place : Nat) (L : List Int)
    (h : Live w0 N w g st m) (hs : Pl.Sees st S f) (hf : Pl.Half f p n L) (hL : BytesOk L) (hp : p + n ≤ S) (hz : n ≤ 70) (ht : Lines w0)
    (hr : Rdr w R rb g p n k0 q L) (hRl : ∀ i, R i → i < w.heap.size) (hG : ∀ i, (i = rb ∨ R i) → N i ∧ w0.heap.size ≤ i) :
    Calls Tryd.prog 39 #[.pointer (some ⟨rb, 0, none⟩), .int .u32 age, .int .u32 place] w fun e w' => ∃ (k : Nat) (A : Option Addr) (nn c : Nat), k0 ≤ k ∧
      e = .returned (.tuple #[.slice A nn c, .bool (decide ((Sl.open1 age place ((L.take (k * 64)).drop q)).2.2 = 0))]) ∧ (Sl.open1 age place ((L.take (k * 64)).drop q)).1.length = nn ∧
      ((Sl.open1 age place ((L.take (k * 64)).drop q)).2.2 ≠ 5 ∨ k = n) ∧ ∃ z, w.heap.size ≤ z ∧ z ≤ w'.heap.size ∧ w'.ownsRow z 5 1 (.slice A nn c) nn (cl .u8 (Sl.open1 age place ((L.take (k * 64)).drop q)).1) ∧
      Rdr w' (fun i => R i ∨ (w.heap.size ≤ i ∧ i < z)) rb g p n k (q + (Sl.open1 age place ((L.take (k * 64)).drop q)).2.1) L ∧ Turn (fun i => i = rb ∨ R i) w w' := by
  have hsz0 := h.old.size
  have hll := lines_lt ht
  have HTW := Lib.hid ((ht.since h.old))
  have HW0 := Lib.hid h
  have HSE := Lib.hid hs
  have HF := Lib.hid hf
  have HLB := Lib.hid hL
  have HG := Lib.hid hG
  have hrlt := hr.lt
  obtain ⟨ao, len, cap, hrb, hrow, hq, hk, hnR⟩ := hr
  have HRL := Lib.hid hRl
  clear h hs hf hL ht hG hRl
  go_enter Tryd.func39, Tryd.ntmps39
  go_wp2_with (fail)
  have hb4 : Below w.heap.size w ((((w.alloc (.cells #[.int .u32 age] 40)).alloc (.cells #[.int .u32 place] 40)).alloc (.cells #[.slice none 0 0] 31)).alloc (.cells #[.int .i64 0] 3)) := ((((Below.refl _ w).alloc (Nat.le_refl _) _).alloc (by simp) _).alloc (by simp; omega) _).alloc (by simp; omega) _
  have hz4 : ((((w.alloc (.cells #[.int .u32 age] 40)).alloc (.cells #[.int .u32 place] 40)).alloc (.cells #[.slice none 0 0] 31)).alloc (.cells #[.int .i64 0] 3)).heap.size = w.heap.size + 4 := by simp
  have hXa := (Go.Boxed.new w 40 (.int .u32 age)).alloc (.cells #[.int .u32 place] 40)
  have hXp := Go.Boxed.new (w.alloc (.cells #[.int .u32 age] 40)) 40 (.int .u32 place)
  have hXb := (Go.Boxed.new ((w.alloc (.cells #[.int .u32 age] 40)).alloc (.cells #[.int .u32 place] 40)) 31 (.slice none 0 0)).alloc (.cells #[.int .i64 0] 3)
  have hXs := Go.Boxed.new (((w.alloc (.cells #[.int .u32 age] 40)).alloc (.cells #[.int .u32 place] 40)).alloc (.cells #[.slice none 0 0] 31)) 3 (.int .i64 0)
  have hXa := (hXa.alloc (.cells #[.slice none 0 0] 31)).alloc (.cells #[.int .i64 0] 3)
  have hXp := (hXp.alloc (.cells #[.slice none 0 0] 31)).alloc (.cells #[.int .i64 0] 3)
  simp only [World.size_alloc] at hXp hXb hXs
  have hrb4 := (hb4.block rb hrlt).trans hrb
  have hrow4 := hrow.kept (w' := ((((w.alloc (.cells #[.int .u32 age] 40)).alloc (.cells #[.int .u32 place] 40)).alloc (.cells #[.slice none 0 0] 31)).alloc (.cells #[.int .i64 0] 3))) (fun i _ hi => hb4.block i (by omega)) hb4.size
  have hl4 := HW0.out.more hb4
  have ht4 := HTW.out.below hb4
  generalize ((((w.alloc (.cells #[.int .u32 age] 40)).alloc (.cells #[.int .u32 place] 40)).alloc (.cells #[.slice none 0 0] 31)).alloc (.cells #[.int .i64 0] 3)) = W4 at *
  have hnR4 : ∀ i, w.heap.size ≤ i → ¬ R i := fun i hi h => by have := HRL.out i h; omega
  refine (askNext_any w0 _ R W4 g st m S f p n rb q k0 L ao len cap age place w.heap.size (w.heap.size + 1) (w.heap.size + 1 + 1) (w.heap.size + 1 + 1 + 1) _ _ hl4 HSE.out HF.out HLB.out hp hz ht4 hrb4 hrow4 hq hk hnR (fun i hi => ?_) hXa.cell hXp.cell hXb hXs
    ⟨by omega, by omega, hnR4 _ (by omega), by omega, by omega⟩ ⟨by omega, by omega, hnR4 _ (by omega), by omega, by omega⟩ ⟨by omega, hnR4 _ (by omega)⟩ ⟨by omega, hnR4 _ (by omega)⟩).mono ?_
  · rcases hi with h' | h' | h' | h'
    · exact ⟨.inl (HG.out i (.inl h')).1, (HG.out i (.inl h')).2, by have := (HG.out i (.inl h')).2; omega⟩
    · exact ⟨.inl (HG.out i (.inr h')).1, (HG.out i (.inr h')).2, by have := (HG.out i (.inr h')).2; omega⟩
    · exact ⟨.inr ⟨by omega, by omega⟩, by omega, by omega⟩
    · exact ⟨.inr ⟨by omega, by omega⟩, by omega, by omega⟩
  rintro e w5 ⟨k, ao', len', cap', hkk, hkn, rfl, hb5, z, hz1, hz2, hr5, hE, ⟨⟨A5, n5, c5, hxb, hn5, ho5⟩, hxs⟩, ht5⟩
  have hle := Sl.open1_le age place ((L.take (k * 64)).drop q)
  obtain ⟨o, EO⟩ : ∃ o, Hid (Sl.open1 age place ((L.take (k * 64)).drop q) = o) := ⟨_, rfl⟩
  rw [EO.out] at hn5 ho5 hxs hE hle
  rw [EO.out]
  obtain ⟨o1, o2, o3⟩ := o
  dsimp only at hn5 ho5 hxs hE hle
  dsimp only
  rw [hr5.len_] at hle
  have HN5 := Lib.hid hn5
  have HO5 := Lib.hid ho5
  have HE := Lib.hid hE
  have HT5 := Lib.hid ht5
  have HB4 := Lib.hid hb4
  have hrl5 := hr5.le
  have hmx := hr5.max
  have hcm : maxLen ≤ 9223372036854775807 := by unfold maxLen; omega
  have hcut := hr5.cut (s := o2) hle
  have HR5 := Lib.hid hr5
  have HCUT := Lib.hid hcut
  have hz5 := ht5.size
  have hn0 : o2 ≠ 0 → ∃ a, ao' = some a := fun h0 => by obtain ⟨b, off, e, _⟩ := hr5.lies (by omega); exact ⟨_, e⟩
  obtain ⟨w6, rfl⟩ : ∃ w6, w5 = boxed w6 rb #[.pointer (some ⟨g, 0, none⟩), .int .i64 p, .int .i64 n, .int .i64 k, .slice ao' len' cap', .int .i64 q] 70 := ⟨w5, boxed_self hb5⟩
  have hlt6 : rb < w6.heap.size := by have := (Array.getElem?_eq_some_iff.1 hb5).1; rwa [boxed_size] at this
  have hne1 : w.heap.size + 1 + 1 + 1 ≠ rb := by omega
  have hne2 : w.heap.size + 1 + 1 ≠ rb := by omega
  have y1 := hxs.cell
  have y2 := hxb.cell
  have y3 := hxb.frozen
  rw [boxed_cell_other hne1] at y1
  rw [boxed_cell_other hne2] at y2
  rw [boxed_frozen_other hne2] at y3
  have HXB := Lib.hid hxb
  have HZ2 : Hid (z ≤ w6.heap.size) := by rw [boxed_size] at hz2; exact hz2
  have HFIN := fun (A3 : Option Addr) (l3 c3 : Nat) (x : Int) => next_fin (A3 := A3) (l3 := l3) (c3 := c3) (x := x) HB4.out hz4.symm (Xb := w.heap.size + 1 + 1) ⟨by omega, by omega⟩ hrlt HRL.out hnR hkn (G := fun i => i = rb ∨ R i ∨ i = w.heap.size + 1 + 1 ∨ i = w.heap.size + 1 + 1 + 1) (fun i hi => by
    rcases hi with h' | h' | h' | h'
    · exact .inl h'
    · exact .inr (.inl h')
    · exact .inr (.inr (by omega))
    · exact .inr (.inr (by omega))) (by have := HR5.out.len_; omega) HR5.out.len_ hle hlt6 HT5.out HO5.out
  have HFIN := Lib.hid HFIN
  clear hxs hxb hr5 hcut hn5 ho5 hE ht5 hb4 hb5 hXa hXp hXb hXs hrb4 hrow4 hl4 ht4 hrb hrow hnR4
  have hsmall : len' ≤ 5000 := by have := HR5.out.len_; rw [List.length_drop, List.length_take] at this; have := HF.out.len; omega
  have hqs : q ≤ 5000 := by omega
  go_wp2_with (fail)
  by_cases hs0 : o2 = 0
  · subst hs0
    go_region
    go_wp2_with (fail)
    go_region
    go_wp2_with (fail)
    refine bodyPost_ret (v := .tuple #[.slice A5 n5 c5, .bool (decide (o3 = 0))]) ?_ rfl ?_
    · have hd : ((o3 : Int) == 0) = decide (o3 = 0) := by
        by_cases h0 : o3 = 0
        · subst h0; rfl
        · rw [decide_eq_false h0]; simp; omega
      simp [results, Tryd.results39, go_sem, hd, hne2, y2]
    · refine ⟨k, A5, n5, c5, hkk, by rw [EO.out], by rw [EO.out]; exact HN5.out, by rw [EO.out]; exact HE.out, z, by have := HB4.out.size; omega, by show z ≤ (boxed _ _ _ _).heap.size; rw [boxed_size, show ∀ (W : World) X v, (W.setCell ⟨X, 0, none⟩ v).heap.size = W.heap.size from fun _ _ _ => Array.size_modify]; exact HZ2.out, ?_⟩
      rw [EO.out]
      exact HFIN.out _ _ _ _ (by rw [List.drop_zero]; exact HR5.out) (by omega) hz1
  · obtain ⟨a5, rfl⟩ := hn0 hs0
    by_cases hcs : cap' = o2
    · subst hcs
      go_region
      go_wp2_with (fail)
      go_region
      go_wp2_with (fail)
      refine bodyPost_ret (v := .tuple #[.slice A5 n5 c5, .bool (decide (o3 = 0))]) ?_ rfl ?_
      · have hd : ((o3 : Int) == 0) = decide (o3 = 0) := by
          by_cases h0 : o3 = 0
          · subst h0; rfl
          · rw [decide_eq_false h0]; simp; omega
        simp [results, Tryd.results39, go_sem, hd, hne2, y2]
      · refine ⟨k, A5, n5, c5, hkk, by rw [EO.out], by rw [EO.out]; exact HN5.out, by rw [EO.out]; exact HE.out, z, by have := HB4.out.size; omega, by show z ≤ (boxed _ _ _ _).heap.size; rw [boxed_size, show ∀ (W : World) X v, (W.setCell ⟨X, 0, none⟩ v).heap.size = W.heap.size from fun _ _ _ => Array.size_modify]; exact HZ2.out, ?_⟩
        rw [EO.out]
        exact HFIN.out _ _ _ _ (by have h1 := HCUT.out; rw [show len' - cap' = 0 by omega, Nat.sub_self] at h1; simpa using h1) (by omega) hz1
    · have hcs2 : ¬ cap' = o2 := hcs
      go_region
      go_wp2_with (fail)
      go_region
      go_wp2_with (fail)
      refine bodyPost_ret (v := .tuple #[.slice A5 n5 c5, .bool (decide (o3 = 0))]) ?_ rfl ?_
      · have hd : ((o3 : Int) == 0) = decide (o3 = 0) := by
          by_cases h0 : o3 = 0
          · subst h0; rfl
          · rw [decide_eq_false h0]; simp; omega
        simp [results, Tryd.results39, go_sem, hd, hne2, y2]
      · refine ⟨k, A5, n5, c5, hkk, by rw [EO.out], by rw [EO.out]; exact HN5.out, by rw [EO.out]; exact HE.out, z, by have := HB4.out.size; omega, by show z ≤ (boxed _ _ _ _).heap.size; rw [boxed_size, show ∀ (W : World) X v, (W.setCell ⟨X, 0, none⟩ v).heap.size = W.heap.size from fun _ _ _ => Array.size_modify]; exact HZ2.out, ?_⟩
        rw [EO.out]
        exact HFIN.out _ _ _ _ (by have h1 := HCUT.out; rw [if_neg hcs2] at h1; exact h1) (by omega) hz1
end Go.Proofs.YticefepcoemkoaaDoor
