/-
  Contracts of what looks at seals: the program's and the document's. Conditions: the table holds what the program's text lays; the sizes.
-/
import Derived.Test.YtambppcnmggocaaDoorSlMake
namespace Go.Proofs.YtambppcnmggocaaDoor
set_option maxRecDepth 20000
open Go.ChangeShapes Go.WideShapes Go.ChangeAt Go.RowKit

namespace Sl
theorem numb_snoc (l : List Int) (c : Int) : numb (l ++ [c]) = numb l * 256 + c.toNat := by unfold numb; rw [List.foldl_append]; rfl
theorem numb_next {d : List Int} {j : Nat} (h : j < d.length) : numb (d.take (j + 1)) = numb (d.take j) * 256 + d[j].toNat := by rw [List.take_succ_eq_append_getElem h, numb_snoc]
theorem numb_lt : ∀ {l : List Int}, BytesOk l → numb l < 256 ^ l.length := by
  have all : ∀ (n : Nat) (l : List Int), l.length = n → BytesOk l → numb l < 256 ^ n := by
    intro n
    induction n with
    | zero => intro l h _; rw [List.eq_nil_of_length_eq_zero h]; simp [numb]
    | succ n ih =>
      intro l h hb
      have hn : n < l.length := by omega
      have e : l = l.take n ++ [l[n]] := by
        have := List.take_succ_eq_append_getElem hn
        rw [← this, List.take_of_length_le (by omega)]
      have h1 := ih (l.take n) (by rw [List.length_take]; omega) (hb.take n)
      have h2 := hb _ (List.getElem_mem hn)
      rw [e, numb_snoc, Nat.pow_succ]
      omega
  intro l h
  exact all l.length l rfl h
theorem or_byte {x : Nat} {b : Int} (hx : x < 16777216) (b0 : 0 ≤ b) (b1 : b < 256) : bits .or .u32 ((x : Int) * 256) b = ((x * 256 + b.toNat : Nat) : Int) := by
  rw [u32_or _ _ (by omega) (by omega) b0 (by omega), show ((x : Int) * 256).toNat = x * 256 by omega, nat_join 8 (x * 256) b.toNat (by omega) (by omega)]
/-- The k-th word. -/
def wordAt (l : List Int) (k : Nat) : Nat := numb ((l.drop (k * 4)).take 4)
theorem wordAt_lt {l : List Int} (h : BytesOk l) (k : Nat) : wordAt l k < 4294967296 := by
  have := numb_lt ((h.drop (k * 4)).take 4)
  have hl : ((l.drop (k * 4)).take 4).length ≤ 4 := by rw [List.length_take]; omega
  have : 256 ^ ((l.drop (k * 4)).take 4).length ≤ 256 ^ 4 := Nat.pow_le_pow_right (by omega) hl
  unfold wordAt
  omega
end Sl

set_option maxHeartbeats 1000000 in
theorem word_any (A : Option Addr) (B c n k : Nat) (l : List Int) (w : World) (hr : Rd w .u8 B A l) (hb : BytesOk l) (hn : l.length = n) (hk : k ≤ 3) (hkn : 4 * (k + 1) ≤ n) (hc : n ≤ c) :
    Calls Tryd.prog 40 #[.slice A n c, .int .i64 k] w fun e w' => e = .returned (.int .u32 (Sl.wordAt l k : Nat)) ∧ w = w' := by
  have hd : ((l.drop (k * 4)).take 4).length = 4 := by rw [List.length_take, List.length_drop]; omega
  have HR := Lib.hid ((hr.drop (k * 4)).take 4)
  have HB := Lib.hid ((hb.drop (k * 4)).take 4)
  have HW : Hid (Sl.wordAt l k = Sl.numb ((l.drop (k * 4)).take 4)) := rfl
  obtain ⟨a, rfl⟩ : ∃ a, A = some a := by obtain ⟨a, h, _⟩ := hr.at_ (j := 0) (by omega); exact ⟨a, h⟩
  generalize (l.drop (k * 4)).take 4 = d at *
  generalize Sl.wordAt l k = W at *
  have HD := Lib.hid hd
  clear hr hb hn hd
  have hc4 : 4 * (k + 1) ≤ c := by omega
  go_enter Tryd.func40, Tryd.ntmps40
  go_wp2
  rw [show (k + 1) * 4 - k * 4 = 4 by omega]
  go_loop [5, 16] (fun t i => ∃ (j x : Nat), j ≤ 4 ∧ x < 256 ^ j ∧ t = .int .u32 x ∧ i = .int .i64 j ∧ Hid (x = Sl.numb (d.take j))) (fun _ i => 4 - (intOf i).toNat)
  case atStart => exact ⟨0, 0, by omega, by omega, rfl, rfl, rfl⟩
  case round =>
    obtain ⟨j, x, hj, hx, rfl, rfl, HX⟩ := hrel
    by_cases hlt : j < 4
    · have hjd : j < d.length := by have := HD.out; omega
      obtain ⟨a', ha', _, hc'⟩ := HR.out.at_ hjd
      obtain rfl : a.add (k * 4) = a' := by simpa using ha'
      obtain ⟨c0, c1⟩ := HB.out _ (List.getElem_mem hjd)
      have HN := Lib.hid (Sl.numb_next hjd)
      rw [← HX.out] at HN
      generalize d[j] = b at *
      have hx3 : 256 ^ j ≤ 256 ^ 3 := Nat.pow_le_pow_right (by omega) (by omega)
      have hx' : x < 16777216 := by omega
      have hbx := Sl.or_byte hx' c0 c1
      have hnx : x * 256 + b.toNat < 256 ^ (j + 1) := by rw [Nat.pow_succ]; omega
      clear hx3 ha' hjd
      go_wp2
      exact ⟨⟨j + 1, x * 256 + b.toNat, by omega, hnx, val_u32 (by omega), rfl, HN.out.symm⟩, by simp [intOf]; omega⟩
    · obtain rfl : j = 4 := by omega
      have HX2 : Hid (x = W) := by rw [HX.out, HW.out, List.take_of_length_le (by rw [HD.out]; omega)]; rfl
      go_wp2
      go_ret
      exact ⟨ret_int (by rw [HX2.out]), rfl⟩


namespace Sl
/-- What the document's program tells of bytes: how many are under the seal with which they begin, its age, its place, the fault. -/
def opened (l : List Int) : Nat × Nat × Nat × Nat :=
  if l.length < 16 then (0, 0, 0, 5) else if 1048576 < wordAt l 0 then (0, 0, 0, 6) else if l.length < 16 + wordAt l 0 then (0, 0, 0, 5)
  else if sum (l.take 12 ++ (l.drop 16).take (wordAt l 0)) ≠ wordAt l 3 then (0, 0, 0, 4) else (wordAt l 0, wordAt l 1, wordAt l 2, 0)
theorem opened_few {l : List Int} (h : l.length < 16) : opened l = (0, 0, 0, 5) := by unfold opened; rw [if_pos h]
theorem opened_long {l : List Int} (h : ¬ l.length < 16) (h2 : 1048576 < wordAt l 0) : opened l = (0, 0, 0, 6) := by unfold opened; rw [if_neg h, if_pos h2]
theorem opened_short {l : List Int} (h : ¬ l.length < 16) (h2 : ¬ 1048576 < wordAt l 0) (h3 : l.length < 16 + wordAt l 0) : opened l = (0, 0, 0, 5) := by unfold opened; rw [if_neg h, if_neg h2, if_pos h3]
theorem opened_form {l : List Int} (h : ¬ l.length < 16) (h2 : ¬ 1048576 < wordAt l 0) (h3 : ¬ l.length < 16 + wordAt l 0) (h4 : sum (l.take 12 ++ (l.drop 16).take (wordAt l 0)) ≠ wordAt l 3) : opened l = (0, 0, 0, 4) := by
  unfold opened; rw [if_neg h, if_neg h2, if_neg h3, if_pos h4]
theorem opened_yes {l : List Int} (h : ¬ l.length < 16) (h2 : ¬ 1048576 < wordAt l 0) (h3 : ¬ l.length < 16 + wordAt l 0) (h4 : sum (l.take 12 ++ (l.drop 16).take (wordAt l 0)) = wordAt l 3) : opened l = (wordAt l 0, wordAt l 1, wordAt l 2, 0) := by
  unfold opened; rw [if_neg h, if_neg h2, if_neg h3, if_neg (fun g => g h4)]
end Sl
def openedV (r : Nat × Nat × Nat × Nat) : Value := .tuple #[.int .i64 (r.1 : Nat), .int .u32 (r.2.1 : Nat), .int .u32 (r.2.2.1 : Nat), .int .i64 (r.2.2.2 : Nat)]

end Go.Proofs.YtambppcnmggocaaDoor
