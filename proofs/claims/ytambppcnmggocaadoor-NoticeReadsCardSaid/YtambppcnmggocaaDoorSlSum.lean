/-
  Contracts of the sums: the program's, by its table, and the document's, bit by bit. Condition: the table holds what the program's text lays.
-/
import Derived.Test.YtambppcnmggocaaDoorSl
import Derived.Test.YtambppcnmggocaaDoorBuf
import Derived.Laws.BitsAllLaws
import Derived.Laws.ShiftsVarLaws
import Derived.Lib.LaidTab
import Derived.Lib.SmallJoins
namespace Go.Proofs.YtambppcnmggocaaDoor
set_option maxRecDepth 20000
open Go.ChangeShapes Go.WideShapes Go.ChangeAt Go.RowKit

/-- The program's table holds what it should. -/
def Lines (w : World) : Prop := Lib.TabIs Tryd.prog w "paybook/seal.lines" .u32 Sl.tab
theorem lines_cell {w : World} (h : Lines w) (k : Nat) (hk : k < 16) : w.cell? ⟨0, k, none⟩ = some (.int .u32 (Sl.tab.getD k 0)) := h.cell (by kernel_rfl) k (by simpa [Sl.tab] using hk)
theorem Lines.below {w w' : World} (h : Lines w) (hb : Below w.heap.size w w') : Lines w' := Go.Joins.tab_stays (g := 0) (by kernel_rfl) h hb (Nat.le_refl _)

namespace Sl
theorem xor_word {a : Nat} {b : Int} (ha : a < 4294967296) (b0 : 0 ≤ b) (b1 : b < 4294967296) : bits .xor .u32 (a : Int) b = ((a ^^^ b.toNat : Nat) : Int) := by
  rw [u32_xor (a : Int) b (by omega) (by omega) b0 b1]; rfl
theorem and_low {z : Nat} (h : z < 4294967296) : bits .and .u32 (z : Int) 15 = ((z % 16 : Nat) : Int) := by
  rw [show (15 : Int) = ((15 : Nat) : Int) from rfl, u32_and_nat z 15 h (by omega), nat_mask4]
theorem crc_next {r : Nat} {l : List Int} {k : Nat} (h : k < l.length) : crc r (l.take (k + 1)) = ones 4 (ones 4 (crc r (l.take k) ^^^ l[k].toNat)) := by
  rw [List.take_succ_eq_append_getElem h, crc_append, crc_cons, crc_nil, step_table]
end Sl

set_option maxHeartbeats 1000000 in
theorem summed_any (r : Nat) (A : Option Addr) (B c n : Nat) (l : List Int) (w : World) (ht : Lines w) (h0 : r < 4294967296) (hr : Rd w .u8 B A l) (hb : BytesOk l) (hn : l.length = n) (hl : n ≤ 2000000) :
    Calls Tryd.prog 39 #[.int .u32 r, .slice A n c] w fun e w' => e = .returned (.int .u32 (Sl.crc r l : Nat)) ∧ w = w' := by
  subst hn
  have HR := Lib.hid hr
  have HB := Lib.hid hb
  have HT := Lib.hid ht
  clear hr hb ht
  go_enter Tryd.func39, Tryd.ntmps39
  go_wp2
  go_loop [0, 9] (fun t i => ∃ (k x : Nat), k ≤ l.length ∧ x < 4294967296 ∧ t = .int .u32 x ∧ i = .int .i64 k ∧ Hid (x = Sl.crc r (l.take k))) (fun _ i => l.length - (intOf i).toNat)
  case atStart => exact ⟨0, r, by omega, h0, rfl, rfl, rfl⟩
  case round =>
    obtain ⟨k, x, hk, hx, rfl, rfl, HX⟩ := hrel
    by_cases hlt : k < l.length
    · obtain ⟨a, rfl, _, hc⟩ := HR.out.at_ hlt
      obtain ⟨c0, c1⟩ := HB.out _ (List.getElem_mem hlt)
      have HN := Lib.hid (Sl.crc_next (r := r) hlt)
      rw [← HX.out] at HN
      generalize l[k] = b at *
      have hy := Sl.xor_lt hx (b := b.toNat) (by omega)
      have hbx := Sl.xor_word hx c0 (by omega)
      generalize x ^^^ b.toNat = y at *
      go_wp2
      go_loop [0, 17] (fun t i => ∃ (j y' : Nat), j ≤ 2 ∧ y' < 4294967296 ∧ t = .int .u32 y' ∧ i = .int .i64 j ∧ Hid (Sl.ones (4 * (2 - j)) y' = Sl.ones 4 (Sl.ones 4 y))) (fun _ i => 2 - (intOf i).toNat)
      case atStart => exact ⟨0, y, by omega, hy, rfl, rfl, Sl.ones_add 4 4 y⟩
      case round =>
        obtain ⟨j, z, hj, hz, rfl, rfl, HZ⟩ := hrel
        by_cases hj2 : j < 2
        · have hz16 : z % 16 < 16 := by omega
          have hcell := lines_cell HT.out (z % 16) hz16
          obtain ⟨t0, t1⟩ := Sl.tab_range (z % 16) hz16
          have HF := Lib.hid (Sl.four_step z)
          generalize Sl.tab.getD (z % 16) 0 = T at *
          have hxt := Sl.xor_word (a := z / 16) (by omega) t0 t1
          rw [show ((z / 16 : Nat) : Int) = (z : Int) / 16 by omega] at hxt
          have hand := Sl.and_low hz
          have HZ2 : Hid (Sl.ones (4 * (2 - (j + 1))) (Sl.ones 4 z) = Sl.ones 4 (Sl.ones 4 y)) := by rw [← HZ.out, ← Sl.ones_add]; congr 1; omega
          rw [HF.out] at HZ2
          have hu := Sl.xor_lt (a := z / 16) (by omega) (b := T.toNat) (by omega)
          generalize z / 16 ^^^ T.toNat = U at *
          generalize z % 16 = q at *
          clear HF HZ
          go_wp2
          exact ⟨⟨j + 1, U, by omega, hu, rfl, rfl, HZ2⟩, by simp [intOf]; omega⟩
        · obtain rfl : j = 2 := by omega
          have HZ2 : Hid (z = Sl.ones 4 (Sl.ones 4 y)) := HZ.out
          go_wp2
          exact ⟨⟨k + 1, z, by omega, hz, rfl, by go_num, HZ2.out.trans HN.out.symm⟩, by simp [intOf]; omega⟩
    · obtain rfl : k = l.length := by omega
      rw [List.take_length] at HX
      go_wp2
      go_ret
      exact ⟨by rw [← HX.out]; rfl, rfl⟩

theorem ones32 : BitVec.ofInt 32 4294967295 = BitVec.allOnes 32 := by decide +kernel
theorem not_word {x : Nat} (h : x < 4294967296) : bits .xor .u32 IntKind.u32.max (x : Int) = ((4294967295 - x : Nat) : Int) := by
  show IntKind.u32.wrap ((BitVec.ofInt 32 4294967295 ^^^ BitVec.ofInt 32 (x : Int)).toNat : Int) = _
  rw [ones32, BitVec.allOnes_xor, BitVec.toNat_not, IntKind.wrap_u32', ofInt_u32 x h]
  omega
namespace Sl
theorem bit_cast {b : Int} (h : 0 ≤ b) (j : Nat) : ((bitOf b j : Nat) : Int) = b / 2 ^ j % 2 := by
  obtain ⟨m, rfl⟩ := Int.eq_ofNat_of_zero_le h
  unfold bitOf
  simp
theorem ref_even {s x j : Nat} {b : Int} (hb : 0 ≤ b) (hn : s = one (x ^^^ bitOf b j)) (h : ((x : Int) % 2 != b / 2 ^ j % 2) = false) : s = x / 2 := by
  rw [← bit_cast hb] at h
  have hx : x % 2 = bitOf b j := by simp at h; omega
  rw [hn, one_bit (by unfold bitOf; omega), if_pos hx]
theorem ref_odd {s x j : Nat} {b : Int} (hb : 0 ≤ b) (hn : s = one (x ^^^ bitOf b j)) (h : ((x : Int) % 2 != b / 2 ^ j % 2) = true) : s = x / 2 ^^^ 3988292384 := by
  rw [← bit_cast hb] at h
  have hx : x % 2 ≠ bitOf b j := by simp at h; omega
  rw [hn, one_bit (by unfold bitOf; omega), if_neg hx]
theorem half_poly {x : Nat} (h : x < 4294967296) : bits .xor .u32 ((x : Int) / 2) 3988292384 = ((x / 2 ^^^ 3988292384 : Nat) : Int) := by
  have := xor_word (a := x / 2) (b := 3988292384) (by omega) (by omega) (by omega)
  rwa [show ((x / 2 : Nat) : Int) = (x : Int) / 2 by omega] at this
end Sl
theorem val_u32 {a b : Int} (h : a = b) : Value.int .u32 a = .int .u32 b := by rw [h]
theorem val_i64 {a b : Int} (h : a = b) : Value.int .i64 a = .int .i64 b := by rw [h]
theorem val_u8 {a b : Int} (h : a = b) : Value.int .u8 a = .int .u8 b := by rw [h]


set_option maxHeartbeats 1000000 in
theorem sealSum_any (A A' : Option Addr) (B B' c c' n n' : Nat) (l l' : List Int) (w : World) (ht : Lines w) (hr : Rd w .u8 B A l) (hb : BytesOk l) (hn : l.length = n) (hl : n ≤ 2000000) (hr' : Rd w .u8 B' A' l') (hb' : BytesOk l') (hn' : l'.length = n') (hl' : n' ≤ 2000000) :
    Calls Tryd.prog 31 #[.slice A n c, .slice A' n' c'] w fun e w' => e = .returned (.int .u32 (Sl.sum (l ++ l') : Nat)) ∧ w = w' := by
  have hx1 := Sl.crc_lt (r := 4294967295) (by omega) hb.lt
  have HX2 := Lib.hid (Sl.crc_lt hx1 hb'.lt)
  have HX1 := Lib.hid hx1
  clear hx1
  go_enter Tryd.func31, Tryd.ntmps31
  go_wp2_with (fail)
  refine (summed_any 4294967295 _ _ _ _ _ _ ht (by omega) hr hb hn hl).mono ?_
  rintro e w' ⟨rfl, rfl⟩
  have HS : Hid (Sl.sum (l ++ l') = 4294967295 - Sl.crc (Sl.crc 4294967295 l) l') := by show Sl.sum (l ++ l') = _; rw [← Sl.crc_append]; rfl
  have hx1 := HX1.out
  generalize Sl.crc 4294967295 l = x1 at *
  go_wp2_with (fail)
  refine (summed_any x1 _ _ _ _ _ _ ht hx1 hr' hb' hn' hl').mono ?_
  rintro e w' ⟨rfl, rfl⟩
  have hx := HX2.out
  generalize Sl.crc x1 l' = x at *
  go_wp2
  go_ret
  exact ⟨ret_int (by rw [HS.out]; exact not_word hx), rfl⟩

set_option maxHeartbeats 1000000 in
theorem refSum_any (A : Option Addr) (B c n : Nat) (l : List Int) (w : World) (hr : Rd w .u8 B A l) (hb : BytesOk l) (hn : l.length = n) (hl : n ≤ 2000000) :
    Calls Tryd.prog 22 #[.slice A n c] w fun e w' => e = .returned (.int .u32 (Sl.sum l : Nat)) ∧ w = w' := by
  subst hn
  have HR := Lib.hid hr
  have HB := Lib.hid hb
  clear hr hb
  go_enter Tryd.func22, Tryd.ntmps22
  go_wp2
  go_loop [3, 4] (fun t i => ∃ (k x : Nat), k ≤ 8 * l.length ∧ x < 4294967296 ∧ t = .int .u32 x ∧ i = .int .i64 k ∧ Hid (x = Sl.st l k)) (fun _ i => 8 * l.length - (intOf i).toNat)
  case atStart => exact ⟨0, 4294967295, by omega, by omega, rfl, rfl, (Sl.st_zero l).symm⟩
  case round =>
    obtain ⟨k, x, hk, hx, rfl, rfl, HX⟩ := hrel
    by_cases hlt : k < 8 * l.length
    · obtain ⟨a, rfl, _, hc⟩ := HR.out.at_ (j := k / 8) (by omega)
      obtain ⟨c0, c1⟩ := HB.out _ (List.getElem_mem (n := k / 8) (by omega))
      have HN := Lib.hid (Sl.st_next hlt HB.out.lt)
      have hg : l.getD (k / 8) 0 = l[k / 8] := by simp [List.getD, show k / 8 < l.length by omega]
      rw [← HX.out, hg] at HN
      clear hg
      have hlt' := Sl.st_lt HB.out.lt (k + 1)
      generalize l[k / 8] = b at *
      go_wp2
      · rename_i hq
        have e := Sl.ref_odd c0 HN.out hq
        exact ⟨⟨k + 1, Sl.st l (k + 1), by omega, hlt', val_u32 (by rw [e]; exact Sl.half_poly hx), rfl, rfl⟩, by simp [intOf]; omega⟩
      · rename_i hq
        have e := Sl.ref_even c0 HN.out hq
        exact ⟨⟨k + 1, Sl.st l (k + 1), by omega, hlt', val_u32 (by omega), rfl, rfl⟩, by simp [intOf]; omega⟩
    · obtain rfl : k = 8 * l.length := by omega
      rw [Sl.st_end] at HX
      have HS : Hid (Sl.sum l = 4294967295 - Sl.crc 4294967295 l) := rfl
      rw [← HX.out] at HS
      go_wp2
      go_ret
      exact ⟨ret_int (by rw [HS.out]; omega), rfl⟩
end Go.Proofs.YtambppcnmggocaaDoor
