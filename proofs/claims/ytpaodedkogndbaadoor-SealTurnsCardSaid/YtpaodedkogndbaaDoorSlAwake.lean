/-
  The contract of the laws' own look at the document's example; and the walk of the law SealSums. Condition: the table holds what the program's text lays.
-/
import Derived.Test.YtpaodedkogndbaaDoorSlSum
import Derived.Lib.SlBytesConst
namespace Go.Proofs.YtpaodedkogndbaaDoor
open Go.ChangeShapes Go.WideShapes Go.ChangeAt Go.RowKit

/-- New bytes, in a block of their own. -/
theorem rd_lit (w : World) (cs : Array Value) (k : IntKind) (l : List Int) (t : TypeId) (f : Nat × Nat) (h : cs.toList = cl k l) : Rd (w.alloc (.cells cs t f)) k (w.heap.size + 1) (some ⟨w.heap.size, 0, none⟩) l := fun _ =>
  ⟨_, rfl, by simp, fun j u hu => by
    rw [ad_head, cell_of_row _ _ _ _ _ f alloc_block, ← Array.getElem?_toList, h]
    unfold cl; rw [List.getElem?_map, hu]; rfl⟩

set_option maxHeartbeats 1000000 in
theorem awake_any (w : World) (ht : Tab w) : Calls Tryd.prog 8 #[] w fun e w' => e = .returned (.bool true) ∧ Below w.heap.size w w' := by
  have hb := (Below.refl w.heap.size w).alloc (Nat.le_refl _) (.cells #[.int .u8 49, .int .u8 50, .int .u8 51, .int .u8 52, .int .u8 53, .int .u8 54, .int .u8 55, .int .u8 56, .int .u8 57] 5 (9, 10))
  have HB := Lib.hid hb
  have HT := Lib.hid (ht.below hb)
  have hk := fun (w : World) (C : Array Value) (n c : Nat) => Lib.run_convert_bytes_const (P := Tryd.prog) w 22 5 C n c Tryd.underlying22 Tryd.underlying5
  clear hb
  go_enter Tryd.func8, Tryd.ntmps8
  go_wp2_with (fail)
  refine (sum_any _ _ _ 9 [49, 50, 51, 52, 53, 54, 55, 56, 57] _ HT.out (rd_lit w _ .u8 _ _ _ rfl) (by unfold BytesOk; simp) rfl (by omega)).mono ?_
  rintro e w' ⟨rfl, rfl⟩
  rw [Sl.sum_first]
  go_wp2
  go_ret
  exact ⟨rfl, HB.out⟩

set_option maxHeartbeats 1000000 in
theorem sealSums_long (A : Option Addr) (c n : Nat) (w : World) (ht : Tab w) (h : 300 < n) :
    Calls Tryd.prog 3 #[.slice A n c] w fun e w' => e = .returned (.bool true) ∧ Below w.heap.size w w' := by
  have t : decide ((300 : Int) < (n : Int)) = true := by simp; omega
  have HT := Lib.hid ht
  clear h
  go_enter Tryd.func3, Tryd.ntmps3
  go_wp2_with (fail)
  refine (awake_any _ HT.out).mono ?_
  rintro e w1 ⟨rfl, hb1⟩
  go_wp2_with (fail)
  refine (awake_any _ (HT.out.below hb1)).mono ?_
  rintro e w2 ⟨rfl, hb2⟩
  go_wp2
  go_ret
  exact ⟨rfl, hb1.trans (hb2.mono hb1.size)⟩

set_option maxHeartbeats 1000000 in
theorem sealSums_in (A : Option Addr) (c n : Nat) (l : List Int) (w : World) (ht : Tab w) (hr : Rd w .u8 w.heap.size A l) (hb : BytesOk l) (hn : l.length = n) (h : n ≤ 300) :
    Calls Tryd.prog 3 #[.slice A n c] w fun e w' => e = .returned (.bool true) ∧ Below w.heap.size w w' := by
  have t : decide ((300 : Int) < (n : Int)) = false := by simp; omega
  have HT := Lib.hid ht
  have HR := Lib.hid hr
  have HB := Lib.hid hb
  clear hr hb
  go_enter Tryd.func3, Tryd.ntmps3
  go_wp2_with (fail)
  refine (awake_any _ HT.out).mono ?_
  rintro e w1 ⟨rfl, hb1⟩
  have H1 := Lib.hid hb1
  go_wp2_with (fail)
  refine (sum_any _ _ _ _ l _ (HT.out.below H1.out) (HR.out.below H1.out) HB.out hn (by omega)).mono ?_
  rintro e w2 ⟨rfl, rfl⟩
  go_wp2_with (fail)
  refine (refSum_any _ _ _ _ l _ (HR.out.below H1.out) HB.out hn (by omega)).mono ?_
  rintro e w2 ⟨rfl, rfl⟩
  go_wp2
  go_ret
  exact ⟨ret_bool (by simp), H1.out⟩

theorem sealSums_walk (A : Option Addr) (c : Nat) (l : List Int) (w : World) (hr : Rd w .u8 w.heap.size A l) (hb : BytesOk l) (ht : Tab w) :
    Calls Tryd.prog 3 #[.slice A l.length c] w fun e w' => e = .returned (.bool true) ∧ Below w.heap.size w w' := by
  by_cases h : 300 < l.length
  · exact sealSums_long A c l.length w ht h
  · exact sealSums_in A c l.length l w ht hr hb rfl (by omega)
end Go.Proofs.YtpaodedkogndbaaDoor
