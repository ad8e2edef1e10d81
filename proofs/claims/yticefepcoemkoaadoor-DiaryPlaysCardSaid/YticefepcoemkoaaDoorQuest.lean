/-
  A reader's two questions: of what age a half's seal is; what is under the next one. No conditions but the sizes.
-/
import Derived.Test.YticefepcoemkoaaDoorAddH
import Derived.Test.YticefepcoemkoaaDoorRowAt
import Derived.Test.YticefepcoemkoaaDoorSlOpen
namespace Go.Proofs.YticefepcoemkoaaDoor
set_option maxRecDepth 20000
open Go.ChangeShapes Go.WideShapes Go.ChangeAt Go.RowKit

theorem Live.turn {w0 w w' : World} {N : Nat → Prop} {g m : Nat} {st : Pl.St} {G : Nat → Prop} (h : Live w0 N w g st m) (ht : Turn G w w') (hG : ∀ i, i < w.heap.size → G i → N i) (hG0 : ∀ i, G i → w0.heap.size ≤ i) : Live w0 N w' g st m := by
  obtain ⟨F, h1, h2, h3⟩ := h
  exact ⟨F, h1.kept (fun i hi => ht.block i (h1.lt i hi) fun hg => (h2 i hi).2 (hG i (h1.lt i hi) hg)) ht.size, h2, h3.trans (ht.below hG0 h3.size)⟩
theorem Turn.mono {G G' : Nat → Prop} {w w' : World} (h : Turn G w w') (hg : ∀ i, G i → G' i) : Turn G' w w' := ⟨h.os, h.tape, h.output, h.size, fun i hi hn => h.block i hi fun h' => hn (hg i h')⟩
theorem Lines.turn {w w' : World} {G : Nat → Prop} (h : Lines w) (ht : Turn G w w') (hG : ∀ i, G i → 0 < i) : Lines w' := by
  have hg : Tryd.prog.globalNamed "paybook/seal.lines" = some 0 := by kernel_rfl
  unfold Lines Lib.TabIs World.var? at *
  rw [hg] at h ⊢
  simp only [Option.bind_some] at h ⊢
  have hl : 0 < w.heap.size := by
    rcases Nat.lt_or_ge 0 w.heap.size with h' | h'
    · exact h'
    · rw [Array.getElem?_eq_none h'] at h; cases h
  rw [ht.block _ hl fun h' => by have := hG _ h'; omega]
  exact h

set_option maxHeartbeats 1000000 in
theorem ageQ_any (w : World) (A : Option Addr) (B c n X : Nat) (l : List Int) (v : Value) (ht : Lines w) (hr : Rd w .u8 B A l) (hB : B ≤ w.heap.size) (hb : BytesOk l) (hn : l.length = n) (hc : n ≤ c) (hl : n ≤ 5000) (hX : Go.Boxed w X 40 v) :
    Calls Tryd.prog 37 #[.slice A n c, .pointer (some ⟨X, 0, none⟩)] w fun e w' => e = .returned (.int .i64 ((Sl.looked 0 l).2.2 : Nat)) ∧ Go.Boxed w' X 40 (.int .u32 ((Sl.looked 0 l).1 : Nat)) ∧ Turn (fun i => i = X) w w' := by
  have HA := Lib.hid (age_any 0 A B c n l w ht hr hB hb hn hc hl)
  clear ht hr hB hb hn hc hl
  generalize (Sl.looked 0 l).1 = q1 at *
  generalize (Sl.looked 0 l).2.2 = q2 at *
  go_enter Tryd.func37, Tryd.ntmps37
  go_wp2_with (fail)
  refine HA.out.mono ?_
  rintro e w1 ⟨rfl, hb1⟩
  have hX1 : Go.Boxed w1 X 40 v := (hb1.block X hX.lt).trans hX
  have hc1 := hX1.cell
  have hf1 := hX1.frozen
  have HT := Lib.hid (Turn.set (X := X) (o := 0) (v := .int .u32 (q1 : Nat)) (Turn.of_below (F := fun i => i = X) hb1) rfl)
  have HX2 := Lib.hid (hX1.set (.int .u32 (q1 : Nat)))
  clear hb1 hX hX1
  go_wp2
  go_ret
  exact ⟨rfl, HX2.out, HT.out⟩

set_option maxHeartbeats 2000000 in
theorem nextQ_any (w : World) (age place : Nat) (A : Option Addr) (B c n Xa Xp Xb Xs : Nat) (l : List Int) (vb vs : Value) (ht : Lines w) (hr : Rd w .u8 B A l) (hB : B ≤ w.heap.size) (hb : BytesOk l) (hn : l.length = n) (hc : n ≤ c) (hl : n ≤ 5000)
    (hXa : w.cell? ⟨Xa, 0, none⟩ = some (.int .u32 age)) (hXp : w.cell? ⟨Xp, 0, none⟩ = some (.int .u32 place)) (hXb : Go.Boxed w Xb 31 vb) (hXs : Go.Boxed w Xs 3 vs) :
    Calls Tryd.prog 45 #[.slice A n c, .pointer (some ⟨Xa, 0, none⟩), .pointer (some ⟨Xp, 0, none⟩), .pointer (some ⟨Xb, 0, none⟩), .pointer (some ⟨Xs, 0, none⟩)] w fun e w' => e = .returned (.int .i64 ((Sl.open1 age place l).2.2 : Nat)) ∧
      (∃ A' n' c', Go.Boxed w' Xb 31 (.slice A' n' c') ∧ (Sl.open1 age place l).1.length = n' ∧ w'.ownsRow w.heap.size 5 1 (.slice A' n' c') n' (cl .u8 (Sl.open1 age place l).1)) ∧ Go.Boxed w' Xs 3 (.int .i64 ((Sl.open1 age place l).2.1 : Nat)) ∧ Turn (fun i => i = Xb ∨ i = Xs) w w' := by
  have HO := Lib.hid (open_own age place A B c n l w ht hr hB hb hn hc hl)
  have hbs : Xb ≠ Xs := fun e => by
    subst e
    have h1 := hXb.symm.trans hXs
    injection h1 with h1
    injection h1 with _ h1
    exact absurd h1 (by decide)
  clear ht hr hB hb hn hc hl
  generalize Sl.open1 age place l = q at *
  obtain ⟨q1, q2, q3⟩ := q
  dsimp only
  go_enter Tryd.func45, Tryd.ntmps45
  go_wp2_with (fail)
  refine HO.out.mono ?_
  rintro e w1 ⟨A1, n1, c1, rfl, hn1, _, hb1, ho1⟩
  have h1 : Go.Boxed w1 Xb 31 vb := (hb1.out.block Xb hXb.lt).trans hXb
  have h2 : Go.Boxed w1 Xs 3 vs := (hb1.out.block Xs hXs.lt).trans hXs
  have h3 : Go.Boxed (w1.setCell ⟨Xb, 0, none⟩ (.slice A1 n1 c1)) Xs 3 vs := h2.kept (grownBy_setCell' _ _ _) (by simp; exact fun e => hbs e.symm)
  have h4 := h1.set (.slice A1 n1 c1)
  have HB5 := Lib.hid ((h4.kept (grownBy_setCell' _ Xs (.int .i64 (q2 : Nat))) (by simp; exact hbs)))
  have HS5 := Lib.hid (h3.set (.int .i64 (q2 : Nat)))
  have HT := Lib.hid (Turn.set (X := Xs) (o := 0) (v := .int .i64 (q2 : Nat)) (Turn.set (X := Xb) (o := 0) (v := .slice A1 n1 c1) (Turn.of_below (F := fun i => i = Xb ∨ i = Xs) hb1.out) (.inl rfl)) (.inr rfl))
  have c1' := h1.cell
  have c2' := h1.frozen
  have c3' := h3.cell
  have c4' := h3.frozen
  have hlb := hXb.lt
  have hls := hXs.lt
  have HR1 : Hid (((w1.setCell ⟨Xb, 0, none⟩ (.slice A1 n1 c1)).setCell ⟨Xs, 0, none⟩ (.int .i64 (q2 : Nat))).ownsRow w.heap.size 5 1 (.slice A1 n1 c1) n1 (cl .u8 q1)) := own_kept ho1.out fun i hi => by
    have := (ho1.out.lt i hi).1
    rw [Below.heap_setCell _ _ _ _ (by show i ≠ Xs; omega), Below.heap_setCell _ _ _ _ (by show i ≠ Xb; omega)]
  clear h1 h2 h3 h4 hXb hXs
  go_wp2
  go_ret
  exact ⟨rfl, ⟨_, _, _, HB5.out, hn1.out, HR1.out⟩, HS5.out, HT.out⟩
end Go.Proofs.YticefepcoemkoaaDoor
