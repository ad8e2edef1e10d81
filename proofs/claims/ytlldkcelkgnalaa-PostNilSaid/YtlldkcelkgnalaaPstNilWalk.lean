/-
  The walk of PostNil. No conditions.
-/
import Derived.Test.YtlldkcelkgnalaaPstLive
import Derived.Test.YtlldkcelkgnalaaApp
import Derived.Test.YtlldkcelkgnalaaRow
namespace Go.Proofs.Ytlldkcelkgnalaa
set_option maxRecDepth 20000
open Go.ChangeShapes Go.WideShapes Go.ChangeAt Go.RowKit

theorem below_none {w w' : World} (h : w.grownBy w' none) : Below w.heap.size w w' := ⟨h.os, h.tape, h.output, h.size, fun i hi => h.block i hi (by simp)⟩
theorem setCell_heap_size {w : World} {a : Addr} {v : Value} : (w.setCell a v).heap.size = w.heap.size := by simp [World.setCell]
set_option maxHeartbeats 1000000 in
theorem postNil_out (a : Int) (A : Option Addr) (n c : Nat) (i : Int) (w : World) (h : n = 0 ∨ 50 < n) :
    Calls Try.prog 5 #[.int .u8 a, .slice A n c, .int .i64 i] w fun e w' => e = .returned (.bool true) ∧ Below w.heap.size w w' := by
  rcases h with h | h
  · subst h
    go_enter Try.func5, Try.ntmps5
    go_wp2_with (fail)
    refine (awake_any _).mono ?_
    rintro e w1 ⟨rfl, hb1⟩
    go_wp2_with (fail)
    refine (awake_any _).mono ?_
    rintro e w2 ⟨rfl, hb2⟩
    go_wp2
    go_ret
    exact ⟨rfl, hb1.trans (hb2.mono hb1.size)⟩
  · have h0 : ((n : Int) == 0) = false := by simp; omega
    have h1 : decide ((50 : Int) < (n : Int)) = true := by simp; omega
    clear h
    go_enter Try.func5, Try.ntmps5
    go_wp2_with (fail)
    refine (awake_any _).mono ?_
    rintro e w1 ⟨rfl, hb1⟩
    go_wp2_with (fail)
    refine (awake_any _).mono ?_
    rintro e w2 ⟨rfl, hb2⟩
    go_wp2
    go_ret
    exact ⟨rfl, hb1.trans (hb2.mono hb1.size)⟩
set_option maxHeartbeats 4000000 in
theorem postNil_in (a : Int) (A : Option Addr) (n c : Nat) (l : List Int) (i : Int) (w : World) (hr : Rd w .u8 w.heap.size A l) (hw : ∀ x ∈ l, (Lit.int .u8 x).wf = true) (hl : l.length = n) (h1 : 0 < n) (h2 : n ≤ 50) :
    Calls Try.prog 5 #[.int .u8 a, .slice A n c, .int .i64 i] w fun e w' => e = .returned (.bool true) ∧ Below w.heap.size w w' := by
  have d0 : ((n : Int) == 0) = false := by simp; omega
  have d1 : decide ((50 : Int) < (n : Int)) = false := by simp; omega
  have HR := Lib.hid hr
  have HL := Lib.hid hl
  have HW := Lib.hid hw
  clear hr hl hw
  go_enter Try.func5, Try.ntmps5
  go_wp2_with (fail)
  refine (awake_any _).mono ?_
  rintro e w1 ⟨rfl, hb1⟩
  have HB1 := Lib.hid hb1
  clear hb1
  go_wp2_with (fail)
  refine (send_none _ _ _).mono ?_
  rintro e w2 ⟨rfl, rfl⟩
  go_wp2_with (fail)
  refine (take_none _ _).mono ?_
  rintro e w2 ⟨rfl, hb2⟩
  unfold noLetter
  have HB2 : Hid (Below w.heap.size w w2) := Lib.hid (HB1.out.trans (hb2.mono HB1.out.size))
  clear hb2
  go_wp2_with (((with_reducible_and_instances (show wpList _ _ _ (Oper.mk _ (Op.call ⟨_, _, _⟩) _ _ _ _ :: _) _ _)); refine stop3 ?_))
  refine ⟨?_⟩
  obtain ⟨X1, hX1⟩ : ∃ X1, w2.alloc (.cells #[.int .u8 0, .slice none 0 0] 31) = X1 := ⟨_, rfl⟩
  have HBX : Hid (Below w.heap.size w X1) := Lib.hid (by rw [← hX1]; exact HB2.out.alloc HB2.out.size _)
  have hXs : X1.heap.size = w2.heap.size + 1 := by rw [← hX1]; simp
  have HP := Lib.hid (PL.new HBX.out)
  have HBV : Hid (Below w.heap.size w (X1.alloc (.cells #[.slice none 0 0] 28))) := Lib.hid (HBX.out.alloc HBX.out.size _)
  rw [hX1, ← hXs]
  clear hX1
  generalize X1.heap.size = g at *
  generalize X1.alloc (.cells #[.slice none 0 0] 28) = V at *
  clear HBX hXs X1
  refine wpList_append_rd rfl _ _ rfl rfl w.heap.size (.slice none 0 0) [] l w.heap.size A c rfl (by rw [HL.out]; rfl) (World.ownsRow_nil _ _ _ _) (HR.out.kept fun i hi => HBV.out.block i hi) (by rw [HL.out]; simp; omega) HBV.out.size ?_
  intro v' w3 hg3
  rw [List.nil_append] at hg3
  obtain ⟨q, cap, cur, rfl, hq0, hqc, hnc, hcm, hcs, hct⟩ := own_some hg3.own n HL.out h1
  have hVw3 : V.heap.size ≤ w3.heap.size := hg3.grown.size
  have hqV : V.heap.size ≤ q := by
    rcases hg3.at_ with e | e
    · cases e
    · exact e q rfl
  have HP3 : Hid (PL g [] w (fun i => i = q) w3) := Lib.hid ((HP.out.more (below_none hg3.grown)).less fun i hi => .inr ⟨by rw [hi]; exact hqV, by rw [hi]; exact (Array.getElem?_eq_some_iff.1 hqc).1⟩)
  have HB3 : Hid (Bts w3 (fun _ => True) (.slice (some ⟨q, 0, none⟩) n cap) l) := Lib.hid (by have := hg3.own; rw [HL.out] at this; rw [← HL.out] at this ⊢; exact Bts.own this fun _ _ _ => trivial)
  have HQ3 := Lib.hid hqc
  have hq3 : q < w3.heap.size := (Array.getElem?_eq_some_iff.1 hqc).1
  have HCT := Lib.hid hct
  clear hg3 hqc hcs hct HP HBV HB1 HB2
  go_wp2_with (fail)
  refine (live_send HP3.out (fun i hi => by rw [hi]; exact hq3) a HB3.out (by have := HL.out; omega)).mono ?_
  rintro e w4 ⟨rfl, h4⟩
  rw [send_short (by decide)] at h4
  have HP4 : Hid (PL g [(a, l)] w (fun i => i = q) w4) := Lib.hid h4.live
  have HQ4 : Hid (w4.heap[q]? = some (.cells cur 5 (0, 0))) := Lib.hid (h4.kept.at_ rfl HQ3.out)
  obtain ⟨x0, hx0⟩ : ∃ x0, l[0]? = some x0 := ⟨_, List.getElem?_eq_getElem (by rw [HL.out]; exact h1)⟩
  have c0 : w4.cell? ⟨q, 0, none⟩ = some (.int .u8 x0) := by rw [cell_of_row _ _ _ _ _ _ HQ4.out]; exact cur_at HCT.out hx0
  have f0 : w4.frozen? ⟨q, 0, none⟩ = false := by rw [World.frozen?, HQ4.out]; rfl
  have hq4 : q < w4.heap.size := (Array.getElem?_eq_some_iff.1 HQ4.out).1
  clear h4 hx0 HP3 HB3 HQ3 HCT
  go_wp2_with (fail)
  refine (live_double (st := [(a, l)]) (s := (a, l)) (PL.setCell HP4.out rfl hq0) (fun i hi => by rw [hi, setCell_heap_size]; exact hq4) i (Nat.zero_lt_succ _) (by rw [show Pst.pl [(a, l)].length i = 0 by have := Pst.pl_lt 1 i (by decide); show Pst.pl 1 i = 0; omega]; rfl) (by show l.length ≤ 1000; have := HL.out; omega)).mono ?_
  rintro e w5 ⟨rfl, h5⟩
  rw [send_short (by show 1 < 512; decide)] at h5
  have HP5 : Hid (PL g [(a, l), (a, l)] w (fun i => i = q) w5) := Lib.hid h5.live
  clear h5 c0 f0
  have hk : Pst.pl 2 i < 2 := Pst.pl_lt 2 i (by decide)
  obtain ⟨k, hk9⟩ : ∃ k, Pst.pl 2 i = k := ⟨_, rfl⟩
  rw [hk9] at hk
  have HK := Lib.hid hk9
  clear hk9
  go_wp2_with (fail)
  refine (live_take (st := [(a, l), (a, l)]) (s := (a, l)) (HP5.out.less (N' := fun _ => False) fun i hi => hi.elim) (fun i hi => hi.elim) i (Nat.zero_lt_succ _) (by show [(a, l), (a, l)][Pst.pl 2 i]? = _; rw [HK.out]; match k, hk with | 0, _ => rfl | 1, _ => rfl)).mono ?_
  rintro e w6 ⟨A6, c6, rfl, hb6, h6⟩
  have HL6 : Hid ((Pst.out [(a, l), (a, l)] (Pst.pl 2 i)).length = 1) := Lib.hid (by rw [HK.out]; match k, hk with | 0, _ => rfl | 1, _ => rfl)
  have HP6 : Hid (PL g (Pst.out [(a, l), (a, l)] (Pst.pl 2 i)) w (fun _ => False) w6) := Lib.hid h6.live
  have HB6 := Lib.hid hb6
  clear h6 hb6 HK hk HP4 HP5 HQ4
  dsimp only
  rw [HL.out]
  have HB6 : Hid (Bts w6 (fun _ => True) (.slice A6 n c6) l) := Lib.hid (by have := HB6.out; dsimp only at this; rw [HL.out] at this; exact this)
  go_wp2_with (fail)
  obtain ⟨Z, hZ⟩ : ∃ Z, w6.alloc (.cells #[.int .u8 a, .slice A6 n c6] 31) = Z := ⟨_, rfl⟩
  have HBZ : Hid (Below w6.heap.size w6 Z) := Lib.hid (by rw [← hZ]; exact (Below.refl _ _).alloc (Nat.le_refl _) _)
  have HZ0 : Hid (Z.heap[w6.heap.size]? = some (.cells #[.int .u8 a, .slice A6 n c6] 31 (0, 0))) := Lib.hid (by rw [← hZ]; exact alloc_block)
  have hz6 : w6.heap.size < Z.heap.size := by rw [← hZ]; simp
  rw [hZ]
  clear hZ
  obtain ⟨x, hx⟩ : ∃ x, w6.heap.size = x := ⟨_, rfl⟩
  rw [hx] at HZ0 hz6 ⊢
  clear hx
  refine (lose_none _ _).mono ?_
  rintro e w7 ⟨rfl, hb7⟩
  have HB7 : Hid (Below Z.heap.size Z w7) := Lib.hid hb7
  clear hb7
  go_wp2_with (fail)
  refine (double_none _ _).mono ?_
  rintro e w8 ⟨rfl, hb8⟩
  have HB8 : Hid (Below Z.heap.size Z w8) := Lib.hid (HB7.out.trans (hb8.mono HB7.out.size))
  have HX8 : Hid (w8.heap[x]? = some (.cells #[.int .u8 a, .slice A6 n c6] 31 (0, 0))) := Lib.hid ((HB8.out.block x hz6).trans HZ0.out)
  have HK8 : Hid (KeepU w6 w8) := Lib.hid ((KeepU.below HBZ.out).trans (KeepU.below HB8.out))
  have HP8 : Hid (PL g (Pst.out [(a, l), (a, l)] (Pst.pl 2 i)) w (fun _ => False) w8) := Lib.hid ((HP6.out.below HBZ.out).below HB8.out)
  have c0 : w8.cell? ⟨x, 0, none⟩ = some (.int .u8 a) := by rw [cell_of_row _ _ _ _ _ _ HX8.out]; rfl
  have c1 : w8.cell? ⟨x, 1, none⟩ = some (.slice A6 n c6) := by rw [cell_of_row _ _ _ _ _ _ HX8.out]; rfl
  have k1 : (convert 22 9 (.slice A6 n c6)).run Try.prog w8 = .ok (.string (bst l)) w8 := by
    obtain ⟨A9, c9, h9, _, _, h10⟩ := (HB6.out.keep HK8.out fun _ h => h).rd
    injection h9 with h9 _ h11
    subst h9
    exact conv_len w8 A6 _ c6 n l h10 HL.out
  have k2 : (convert 22 9 (.slice A n c)).run Try.prog w8 = .ok (.string (bst l)) w8 := conv_len w8 A _ c n l (HR.out.kept fun i hi => HP8.out.old.block i hi) HL.out
  clear hb8 HBZ HB7
  go_wp2_with (fail)
  refine (len_none _).mono ?_
  rintro e w9 ⟨rfl, rfl⟩
  go_wp2_with (fail)
  refine (live_len HP8.out).mono ?_
  rintro e w9 ⟨rfl, rfl⟩
  rw [HL6.out]
  go_wp2_with (fail)
  go_ret
  exact ⟨rfl, HP8.out.old⟩
theorem postNil_walk {w : World} (a : Int) (_ : (Lit.int .u8 a).wf = true) (A : Option Addr) (c : Nat) (l : List Int) (hr : Rd w .u8 w.heap.size A l) (hw : ∀ x ∈ l, (Lit.int .u8 x).wf = true) (i : Int) (_ : (Lit.int .i64 i).wf = true) :
    Calls Try.prog 5 #[.int .u8 a, .slice A l.length c, .int .i64 i] w fun e w' => e = .returned (.bool true) ∧ Below w.heap.size w w' := by
  by_cases h : l.length = 0 ∨ 50 < l.length
  · exact postNil_out a A _ c i w h
  · exact postNil_in a A _ c l i w hr hw rfl (by omega) (by omega)
end Go.Proofs.Ytlldkcelkgnalaa
