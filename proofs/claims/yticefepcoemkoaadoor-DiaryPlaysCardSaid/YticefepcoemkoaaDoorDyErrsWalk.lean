/-
  What a diary answers to wrong inputs: none, too long, no room. No conditions but the sizes.
  The walk of the law DiaryErrs. Condition: the table holds what the program's text lays.
-/
import Derived.Test.YticefepcoemkoaaDoorDyAwake
import Derived.Test.YticefepcoemkoaaDoorRow
namespace Go.Proofs.YticefepcoemkoaaDoor
section
set_option maxRecDepth 20000
open Go.ChangeShapes Go.WideShapes Go.ChangeAt Go.RowKit

theorem add_nil (w : World) (A : Option Addr) (n c : Nat) : Calls Tryd.prog 9 #[.pointer none, .slice A n c] w fun e w' => e = .returned (.int .i64 2) ∧ w = w' := by
  go_enter Tryd.func9, Tryd.ntmps9
  go_wp2
  go_ret
  exact ⟨rfl, rfl⟩
theorem start_nil (w : World) (A : Option Addr) (n c : Nat) : Calls Tryd.prog 10 #[.pointer none, .slice A n c] w fun e w' => e = .returned (.int .i64 2) ∧ w = w' := by
  go_enter Tryd.func10, Tryd.ntmps10
  go_wp2
  go_ret
  exact ⟨rfl, rfl⟩
theorem first_nil (w : World) : Calls Tryd.prog 30 #[.pointer none] w fun e w' => e = .returned (.slice none 0 0) ∧ w = w' := by
  go_enter Tryd.func30, Tryd.ntmps30
  go_wp2
  go_ret
  exact ⟨rfl, rfl⟩
theorem entries_nil (w : World) : Calls Tryd.prog 18 #[.pointer none] w fun e w' => e = .returned (.slice none 0 0) ∧ w = w' := by
  go_enter Tryd.func18, Tryd.ntmps18
  go_wp2
  go_ret
  exact ⟨rfl, rfl⟩
theorem age_nil (w : World) : Calls Tryd.prog 12 #[.pointer none] w fun e w' => e = .returned (.int .i64 0) ∧ w = w' := by
  go_enter Tryd.func12, Tryd.ntmps12
  go_wp2
  go_ret
  exact ⟨rfl, rfl⟩
theorem left_nil (w : World) : Calls Tryd.prog 13 #[.pointer none] w fun e w' => e = .returned (.int .i64 0) ∧ w = w' := by
  go_enter Tryd.func13, Tryd.ntmps13
  go_wp2
  go_ret
  exact ⟨rfl, rfl⟩
theorem add_long (w : World) (d : Nat) (A : Option Addr) (n c : Nat) (h : 1048576 < n) : Calls Tryd.prog 9 #[.pointer (some ⟨d, 0, none⟩), .slice A n c] w fun e w' => e = .returned (.int .i64 6) ∧ w = w' := by
  have h1 : decide ((1048576 : Int) < (n : Int)) = true := by simp; omega
  clear h
  go_enter Tryd.func9, Tryd.ntmps9
  go_wp2
  go_ret
  exact ⟨rfl, rfl⟩
theorem open_nil (w : World) : Calls Tryd.prog 8 #[.pointer none] w fun e w' => e = .returned (.tuple #[.pointer none, .int .i64 3]) ∧ w = w' := by
  go_enter Tryd.func8, Tryd.ntmps8
  go_wp2
  refine bodyPost_ret (v := .tuple #[.pointer none, .int .i64 3]) ?_ rfl ⟨rfl, rfl⟩
  simp [results, Tryd.results8, go_sem]

set_option maxHeartbeats 4000000 in
theorem open_small (w0 : World) (M : Nat → Prop) (w : World) (g m S n : Nat) (f : Nat → List Int) (st : Pl.St) (N : Nat → Prop)
    (h : Live w0 N w g st m) (hs : Pl.Sees st S f) (hlt : ∀ i, N i → i < w.heap.size) (hM : ∀ i, M i → N i)
    (h1 : Pl.Half f 0 n (Pl.full n [])) (h2 : Pl.Half f n n (Pl.full n [])) (hn : S / 2 = n) (hn1 : n = 0) (ht : Lines w0) (hm : m + 600 ≤ 40000) :
    Calls Tryd.prog 8 #[.pointer (some ⟨g, 0, none⟩)] w fun e w' => e = .returned (.tuple #[.pointer none, .int .i64 3]) ∧ Below w.heap.size w w' := by
  have hn2 : n ≤ 70 := by omega
  have HN1 := Lib.hid hn1
  clear hn1
  have hon : st.off = false := hs.calm.1
  have hsz := hs.size
  have hw0 := h.old.size
  have HL := Lib.hid h
  have HS := Lib.hid hs
  have H1 := Lib.hid h1
  have H2 := Lib.hid h2
  have HM := Lib.hid hM
  have HLT := Lib.hid hlt
  clear h hs h1 h2 hM hlt
  go_enter Tryd.func8, Tryd.ntmps8
  go_wp2_with (fail)
  refine (on_live HL.out).mono ?_
  rintro e w1 ⟨rfl, rfl⟩
  rw [hon]
  go_wp2_with (fail)
  refine (size_live HL.out).mono ?_
  rintro e w1 ⟨rfl, rfl⟩
  rw [hsz]
  have hq : Int.tdiv (S : Int) 2 = (n : Nat) := by subst hn; rfl
  have HQ := Lib.hid hq
  go_wp2_with (first | (rw [HQ.out]) | fail)
  have hb2 : Below w.heap.size w ((w.alloc (.cells #[.pointer (some ⟨g, 0, none⟩), .int .i64 0, .int .i64 n] 52)).alloc (.cells #[.pointer (some ⟨g, 0, none⟩), .int .i64 n, .int .i64 n] 52)) := ((Below.refl _ w).alloc (Nat.le_refl _) _).alloc (by simp) _
  have hz2 : ((w.alloc (.cells #[.pointer (some ⟨g, 0, none⟩), .int .i64 0, .int .i64 n] 52)).alloc (.cells #[.pointer (some ⟨g, 0, none⟩), .int .i64 n, .int .i64 n] 52)).heap.size = w.heap.size + 2 := by simp
  have hlo : ((w.alloc (.cells #[.pointer (some ⟨g, 0, none⟩), .int .i64 0, .int .i64 n] 52)).alloc (.cells #[.pointer (some ⟨g, 0, none⟩), .int .i64 n, .int .i64 n] 52)).heap[w.heap.size]? = some (.cells #[.pointer (some ⟨g, 0, none⟩), .int .i64 0, .int .i64 n] 52) := (alloc_block_old (by simp)).trans alloc_block
  have hhi : ((w.alloc (.cells #[.pointer (some ⟨g, 0, none⟩), .int .i64 0, .int .i64 n] 52)).alloc (.cells #[.pointer (some ⟨g, 0, none⟩), .int .i64 n, .int .i64 n] 52)).heap[w.heap.size + 1]? = some (.cells #[.pointer (some ⟨g, 0, none⟩), .int .i64 n, .int .i64 n] 52) := by have := alloc_block (w := w.alloc (.cells #[.pointer (some ⟨g, 0, none⟩), .int .i64 0, .int .i64 n] 52)) (o := (.cells #[.pointer (some ⟨g, 0, none⟩), .int .i64 n, .int .i64 n] 52)); simpa using this
  generalize ((w.alloc (.cells #[.pointer (some ⟨g, 0, none⟩), .int .i64 0, .int .i64 n] 52)).alloc (.cells #[.pointer (some ⟨g, 0, none⟩), .int .i64 n, .int .i64 n] 52)) = W2 at *
  have HB2 := Lib.hid hb2
  have HLO := Lib.hid hlo
  have HHI := Lib.hid hhi
  have HT := Lib.hid ht
  clear hb2 hlo hhi ht
  refine (hage_none w0 _ W2 g st m S f 0 n (HL.out.more HB2.out) HS.out H1.out (by omega) hn2 HT.out).mono ?_
  rintro e w3 ⟨rfl, hb3⟩
  have HB3 := Lib.hid (HB2.out.trans (hb3.mono HB2.out.size))
  have hr3 : w3.rangeAt (w.heap.size + 1) 0 [.pointer (some ⟨g, 0, none⟩), .int .i64 n, .int .i64 n] := half_range ((hb3.block _ (by omega)).trans HHI.out)
  have hz3 := hb3.size
  have HHI3 := Lib.hid ((hb3.block _ (by omega)).trans HHI.out)
  have HLO3 := Lib.hid ((hb3.block _ (by omega)).trans HLO.out)
  clear hb3
  go_wp2_with (refine wpList_load_mid rfl 52 _ rfl (w.heap.size + 1) 0 rfl _ _ hr3 Tryd.underlying52 rfl halfinfo ?_)
  refine (hage_none w0 _ w3 g st m S f n n (HL.out.more HB3.out) HS.out H2.out (by omega) hn2 HT.out).mono ?_
  rintro e w4 ⟨rfl, hb4⟩
  have HB4 := Lib.hid (HB3.out.trans (hb4.mono HB3.out.size))
  have hr4 : w4.rangeAt (w.heap.size + 1) 0 [.pointer (some ⟨g, 0, none⟩), .int .i64 n, .int .i64 n] := half_range ((hb4.block _ (by omega)).trans HHI3.out)
  have hr5 : w4.rangeAt w.heap.size 0 [.pointer (some ⟨g, 0, none⟩), .int .i64 ((0 : Nat) : Int), .int .i64 n] := half_range ((hb4.block _ (by omega)).trans HLO3.out)
  have hz4 := hb4.size
  clear hb4 hr3
  go_wp2_with (first | (refine wpList_load_mid rfl 52 _ rfl (w.heap.size + 1) 0 rfl _ _ hr4 Tryd.underlying52 rfl halfinfo ?_) | (refine wpList_load_mid rfl 52 _ rfl w.heap.size 0 rfl _ _ hr5 Tryd.underlying52 rfl halfinfo ?_))
  have hb5 : Below w.heap.size w (w4.alloc (.cells (dcl g n 0 n 0 (.slice none 0 0) (.slice none 0 0) 0) 56)) := HB4.out.alloc (by omega) _
  refine (dStart_any w0 M (w4.alloc (.cells (dcl g n 0 n 0 (.slice none 0 0) (.slice none 0 0) 0) 56)) w4.heap.size g m S n n 0 0 0 (.slice none 0 0) (.slice none 0 0) [] [] f st _ none 0 0 [] (HL.out.more hb5) HS.out (fun i hi => ?_) alloc_block ⟨.inr ⟨by omega, by simp⟩, by omega⟩ (fun i hi => ⟨.inl (HM.out i hi), by have := HLT.out i (HM.out i hi); omega⟩) H2.out (by simp) H1.out ⟨by omega, by omega, .inr (by omega), hn2⟩ (by omega) ⟨fun h => absurd rfl h, fun h => absurd rfl h⟩ (fun x hx => by cases hx) rfl (by omega) HT.out hm).mono ?_
  · rcases hi with h' | h'
    · have := HLT.out i h'; have := hb5.size; omega
    · omega
  rintro e w6 ⟨_, ⟨hno, _⟩ | ⟨_, rfl, hb6⟩⟩
  · have h0 := HN1.out
    omega
  · have HB6 := Lib.hid (hb5.trans (hb6.mono hb5.size))
    clear hb6 hb5
    go_wp2
    refine bodyPost_ret (v := .tuple #[.pointer none, .int .i64 3]) ?_ rfl ?_
    · simp [results, Tryd.results8, go_sem]
    · exact ⟨rfl, HB6.out⟩
end

section
set_option maxRecDepth 20000
open Go.ChangeShapes Go.WideShapes Go.ChangeAt Go.RowKit


theorem make_zeros (w : World) (k : Nat) (hk : k ≤ 2000000) :
    (Instr.makeSlice 31 (.int .i64 (k : Nat)) (.int .i64 (k : Nat))).run Tryd.prog w = .ok (.slice (some ⟨w.heap.size, 0, none⟩) k k) (w.alloc (.cells (madeCells #[.int .u8 0] k) 5)) := by
  obtain ⟨i, hi, hz, hsz, hby⟩ := info_parts u8info
  have := run_make w 31 5 i (.int .u8 0) Tryd.underlying31 hi hz .i64 .i64 k k (by omega) (by omega) (by rw [hby]; omega) (by omega)
  rw [hsz, Int.toNat_natCast, Nat.mul_one] at this
  exact this
/-- Noughts, in memory of their own. -/
theorem zeros_rd (w : World) (k : Nat) : Rd (w.alloc (.cells (madeCells #[.int .u8 0] k) 5)) .u8 (w.heap.size + 1) (some ⟨w.heap.size, 0, none⟩) (List.replicate k 0) :=
  rd_lit w _ .u8 _ _ _ (by rw [toList_madeCells_one]; simp [cl])
theorem zeros_ok (k : Nat) : BytesOk (List.replicate k 0) := fun x hx => by rw [(List.mem_replicate.1 hx).2]; decide

theorem make_fact (k : Nat) (z : Int) (hz : z = k) (hk : k ≤ 2000000) : ∃ O : Obj, (∀ W, (Instr.makeSlice 31 (.int .i64 z) (.int .i64 z)).run Tryd.prog W = .ok (.slice (some ⟨W.heap.size, 0, none⟩) k k) (W.alloc O)) ∧
    ∀ (w0 W : World) (M : Nat → Prop), RdK w0 (fun i => M i ∨ (W.heap.size ≤ i ∧ i < (W.alloc O).heap.size)) (W.alloc O) (some ⟨W.heap.size, 0, none⟩) (List.replicate k 0) := by
  subst hz
  refine ⟨_, fun W => make_zeros W k hk, fun w0 W M => ⟨fun hne => ?_, fun _ a e => .inl (.inr ?_)⟩⟩
  · obtain ⟨a, e, h1, h2⟩ := zeros_rd W k hne
    exact ⟨a, e, by simpa using h1, h2⟩
  · injection e with e; subst e
    exact ⟨Nat.le_refl _, by simp⟩
theorem dy_start {w0 : World} {M : Nat → Prop} {w : World} {d g m S n p1 p2 age : Nat} {fs : List Int} {es : List (List Int)} {lo : List Int} {f : Nat → List Int} {st : Pl.St} {N I E : Nat → Prop} (h : DyM w0 M w d g m S n p1 p2 age fs es lo f st N I E) (A : Option Addr) (nb c : Nat) (b : List Int) (hr : RdK w0 M w A b) (hb : BytesOk b) (hn : b.length = nb) (hb0 : nb ≤ 1000) (ha : age + 1 < 1000000) (ht : Lines w0) (hm : m + 600 ≤ 40000) :
    Calls Tryd.prog 10 #[.pointer (some ⟨d, 0, none⟩), .slice A nb c] w fun e w' => Kept w0 M w w' ∧
      ((16 + nb ≤ n * 64 ∧ e = .returned (.int .i64 0) ∧ ∃ f' st' N' I' E', DyM w0 M w' d g (m + 600) S n p2 p1 (age + 1) b [] (Sl.log age 0 (fs :: es)) f' st' N' I' E') ∨
       (n * 64 < 16 + nb ∧ e = .returned (.int .i64 3) ∧ DyM w0 M w' d g m S n p1 p2 age fs es lo f st N I E)) := by
  obtain ⟨Af, cf, ve, vs, h1, _⟩ := h.dic.lies
  refine (dStart_any w0 M w d g m S n p1 p2 age _ _ ve _ lo f st N A nb c b h.live h.sees h.lt h1 h.own (fun i hi => ⟨(h.apart i hi).1, (h.apart i hi).2.1⟩) h.pure.half h.pure.len h.pure.other h.pure.fit ha hr hb hn hb0 ht hm).mono ?_
  rintro e w' ⟨hk, h2 | ⟨h2, h3, h4⟩⟩
  · exact ⟨hk, .inl h2⟩
  · exact ⟨hk, .inr ⟨h2, h3, h.below h4⟩⟩


end
end Go.Proofs.YticefepcoemkoaaDoor
