/-
  A diary's half: of what age its first seal is, if it is right; how many bytes it has. No conditions but the sizes.
-/
import Derived.Test.YticefepcoemkoaaDoorAskNext
import Derived.Test.YticefepcoemkoaaDoorDyLog
namespace Go.Proofs.YticefepcoemkoaaDoor
set_option maxRecDepth 20000
open Go.ChangeShapes Go.WideShapes Go.ChangeAt Go.RowKit

theorem room_any (w : World) (g p n : Nat) (hn : n ≤ 100000) : Calls Tryd.prog 28 #[halfV g p n] w fun e w' => e = .returned (.int .i64 (n * 64 : Nat)) ∧ Below w.heap.size w w' := by
  unfold halfV
  go_enter Tryd.func28, Tryd.ntmps28
  go_wp2
  go_ret
  exact ⟨by go_num, (Below.refl _ w).alloc (Nat.le_refl _) _⟩

theorem lines_lt {w : World} (h : Lines w) : 0 < w.heap.size := by
  have hg : Tryd.prog.globalNamed "paybook/seal.lines" = some 0 := by kernel_rfl
  unfold Lines Lib.TabIs World.var? at h
  rw [hg] at h
  simp only [Option.bind_some] at h
  rcases Nat.lt_or_ge 0 w.heap.size with h' | h'
  · exact h'
  · rw [Array.getElem?_eq_none h'] at h; cases h
theorem Lines.since {w0 w : World} (h : Lines w0) (hb : Below w0.heap.size w0 w) : Lines w := h.below hb

set_option maxHeartbeats 4000000 in
theorem hage_any (w0 : World) (N : Nat → Prop) (w : World) (g : Nat) (st : Pl.St) (m S : Nat) (f : Nat → List Int) (p n : Nat) (L : List Int)
    (h : Live w0 N w g st m) (hs : Pl.Sees st S f) (hf : Pl.Half f p n L) (hL : BytesOk L) (hp : p + n ≤ S) (hz : n ≤ 70) (ht : Lines w0) :
    Calls Tryd.prog 21 #[halfV g p n] w fun e w' => (∃ k, k ≤ n ∧ ((Sl.looked 0 (L.take (k * 64))).2.2 ≠ 5 ∨ k = n) ∧ e = .returned (.tuple #[.int .u32 ((Sl.looked 0 (L.take (k * 64))).1 : Nat), .bool (decide ((Sl.looked 0 (L.take (k * 64))).2.2 = 0))])) ∧ Below w.heap.size w w' := by
  have hsz0 := h.old.size
  have hll := lines_lt ht
  have HTW := Lib.hid ((ht.since h.old))
  have HW0 := Lib.hid h
  have HSE := Lib.hid hs
  have HF := Lib.hid hf
  have HLB := Lib.hid hL
  clear h hs hf hL ht
  unfold halfV
  go_enter Tryd.func21, Tryd.ntmps21
  go_wp2_with (fail)
  have hb3 : Below w.heap.size w (((w.alloc (.cells #[.pointer (some ⟨g, 0, none⟩), .int .i64 p, .int .i64 n] 52)).alloc (.cells #[.int .u32 0] 40)).alloc (.cells #[.pointer (some ⟨g, 0, none⟩), .int .i64 p, .int .i64 n, .int .i64 0, .slice none 0 0, .int .i64 0] 70)) := (((Below.refl _ w).alloc (Nat.le_refl _) _).alloc (by simp) _).alloc (by simp; omega) _
  have hz3 : (((w.alloc (.cells #[.pointer (some ⟨g, 0, none⟩), .int .i64 p, .int .i64 n] 52)).alloc (.cells #[.int .u32 0] 40)).alloc (.cells #[.pointer (some ⟨g, 0, none⟩), .int .i64 p, .int .i64 n, .int .i64 0, .slice none 0 0, .int .i64 0] 70)).heap.size = w.heap.size + 3 := by simp
  have hX : Go.Boxed (((w.alloc (.cells #[.pointer (some ⟨g, 0, none⟩), .int .i64 p, .int .i64 n] 52)).alloc (.cells #[.int .u32 0] 40)).alloc (.cells #[.pointer (some ⟨g, 0, none⟩), .int .i64 p, .int .i64 n, .int .i64 0, .slice none 0 0, .int .i64 0] 70)) (w.heap.size + 1) 40 (.int .u32 0) := by
    have := Go.Boxed.new (w.alloc (.cells #[.pointer (some ⟨g, 0, none⟩), .int .i64 p, .int .i64 n] 52)) 40 (.int .u32 0)
    rw [World.size_alloc] at this
    exact this.alloc _
  have hrb := alloc_block (w := ((w.alloc (.cells #[.pointer (some ⟨g, 0, none⟩), .int .i64 p, .int .i64 n] 52)).alloc (.cells #[.int .u32 0] 40))) (o := .cells #[.pointer (some ⟨g, 0, none⟩), .int .i64 p, .int .i64 n, .int .i64 0, .slice none 0 0, .int .i64 0] 70)
  simp only [World.size_alloc] at hrb
  have hl3 := HW0.out.more hb3
  have ht3 := HTW.out.below hb3
  generalize ((w.alloc (.cells #[.pointer (some ⟨g, 0, none⟩), .int .i64 p, .int .i64 n] 52)).alloc (.cells #[.int .u32 0] 40)).alloc (.cells #[.pointer (some ⟨g, 0, none⟩), .int .i64 p, .int .i64 n, .int .i64 0, .slice none 0 0, .int .i64 0] 70) = W3 at *
  refine (askAge_any w0 _ (fun _ => False) W3 g st m S f p n (w.heap.size + 1 + 1) 0 0 L none 0 0 (w.heap.size + 1) _ hl3 HSE.out HF.out HLB.out hp hz ht3 hrb (by simpa using RowAt.nil _ _) (Nat.zero_le _) (Nat.zero_le _) (fun h => h) (fun i hi => ?_) hX ⟨by omega, fun h => h⟩).mono ?_
  · rcases hi with h' | h' | h'
    · exact ⟨.inr ⟨by omega, by omega⟩, by omega, by omega⟩
    · exact h'.elim
    · exact ⟨.inr ⟨by omega, by omega⟩, by omega, by omega⟩
  rintro e w5 ⟨k, ao', len', cap', _, hk, rfl, _, _, hE, hx5, ht5⟩
  rw [List.drop_zero] at hE hx5 ⊢
  have hb5 : Below w.heap.size w w5 := hb3.trans (ht5.below (fun i hi => by
    rcases hi with h' | h' | h'
    · omega
    · exact h'.elim
    · omega) (by omega))
  obtain ⟨q1, E1⟩ : ∃ q1, Hid ((Sl.looked 0 (L.take (k * 64))).1 = q1) := ⟨_, rfl⟩
  obtain ⟨q2, E2⟩ : ∃ q2, Hid ((Sl.looked 0 (L.take (k * 64))).2.2 = q2) := ⟨_, rfl⟩
  rw [E1.out] at hx5
  rw [E2.out]
  have HE := Lib.hid hE
  have HB5 := Lib.hid (hb5.setCell (p := ⟨w.heap.size + 1, 0, none⟩) (by simp) (.int .u32 (q1 : Nat)))
  have hc5 := hx5.cell
  have hf5 := hx5.frozen
  have hc6 := (hx5.set (.int .u32 (q1 : Nat))).cell
  clear hE hb5 hx5 ht5 hX hrb hl3 ht3 hb3
  go_wp2
  refine bodyPost_ret (v := .tuple #[.int .u32 (q1 : Nat), .bool (decide (q2 = 0))]) ?_ rfl ?_
  · have hd : ((q2 : Int) == 0) = decide (q2 = 0) := by
      by_cases h0 : q2 = 0
      · subst h0; rfl
      · rw [decide_eq_false h0]; simp; omega
    simp [results, Tryd.results21, go_sem, hc6, hd]
  · exact ⟨⟨k, hk, HE.out, by rw [E1.out, E2.out]⟩, HB5.out⟩
end Go.Proofs.YticefepcoemkoaaDoor
