/-
  The walk of PostMost. No conditions.
-/
import Derived.Test.YtlldkcelkgnalaaPstLive
import Derived.Test.YtlldkcelkgnalaaRow
import Derived.Lib.BitFns
namespace Go.Proofs.Ytlldkcelkgnalaa
set_option maxRecDepth 20000
open Go.ChangeShapes Go.WideShapes Go.ChangeAt Go.RowKit

namespace Pst
/-- The letters of so many sends: the last 512. -/
def letter (i : Nat) : Ltr := (0, [((i % 256 : Nat) : Int), ((i / 256 : Nat) : Int)])
def last (i : Nat) : List Ltr := (List.range' (i - 512) (min i 512)).map letter
theorem last_len (i : Nat) : (last i).length = min i 512 := by simp [last]
theorem last_send (i : Nat) : send (last i) (letter i) = last (i + 1) := by
  unfold send out
  rw [last_len]
  by_cases h : 512 ≤ i
  · rw [if_pos (by omega)]
    unfold last
    rw [Nat.min_eq_right h, Nat.min_eq_right (by omega)]
    simp only [List.take_zero, List.nil_append]
    rw [← List.map_drop, show (512 : Nat) = 511 + 1 from rfl, List.range'_succ, List.drop_succ_cons, List.drop_zero, ← List.map_singleton, ← List.map_append, show i + 1 - (511 + 1) = i - (511 + 1) + 1 by omega]
    congr 1
    have h9 : List.range' (i - (511 + 1) + 1) (511 + 1) = List.range' (i - (511 + 1) + 1) 511 ++ [i - (511 + 1) + 1 + 1 * 511] := List.range'_concat
    rw [h9, show i - (511 + 1) + 1 + 1 * 511 = i by omega]
  · rw [if_neg (by omega)]
    unfold last
    rw [Nat.min_eq_left (by omega), Nat.min_eq_left (by omega), show i - 512 = 0 by omega, show i + 1 - 512 = 0 by omega, ← List.map_singleton, ← List.map_append]
    congr 1
    rw [List.range'_concat]
    simp
theorem last_head (i : Nat) (h : 0 < i) : (last i)[0]? = some (letter (i - 512)) := by
  unfold last
  rw [List.getElem?_map, List.getElem?_range' (by omega)]
  simp
end Pst
set_option maxHeartbeats 4000000 in
theorem postMost_walk (a : Int) (wa : (Lit.int .u16 a).wf = true) (w : World) : Calls Try.prog 4 #[.int .u16 a] w fun e w' => e = .returned (.bool true) ∧ Below w.heap.size w w' := by
  obtain ⟨h0, h1⟩ := wf_u16 wa
  obtain ⟨m, rfl⟩ := Int.eq_ofNat_of_zero_le h0
  go_enter Try.func4, Try.ntmps4
  go_wp2_with (fail)
  refine (awake_any _).mono ?_
  rintro e w1 ⟨rfl, hb1⟩
  have HP := Lib.hid (PL.new hb1)
  have hg : Hid (w.heap.size ≤ w1.heap.size) := Lib.hid hb1.size
  obtain ⟨V, hV⟩ : ∃ V, w1.alloc (.cells #[.slice none 0 0] 28) = V := ⟨_, rfl⟩
  rw [hV] at HP
  obtain ⟨g, hg9⟩ : ∃ g, w1.heap.size = g := ⟨_, rfl⟩
  rw [hg9] at HP
  clear hb1 hg
  obtain ⟨k, hk⟩ : ∃ k : Nat, 480 + m % 80 = k := ⟨_, rfl⟩
  have hk1 : (480 : Int) + (m : Int) % 80 = (k : Int) := by omega
  have hkl : 480 ≤ k ∧ k < 560 := by omega
  clear hk
  go_wp2_with (fail)
  go_loopw [5] (fun i wr => ∃ j : Nat, j ≤ k ∧ i = .int .i64 j ∧ Hid (PL g (Pst.last j) w (fun _ => False) wr)) (fun i _ => k - (intOf i).toNat)
  case atStart => exact ⟨0, Nat.zero_le _, rfl, HP⟩
  case round =>
    clear HP hk1 hV hg9
    obtain ⟨j, hj, rfl, HP⟩ := hrel
    by_cases hlt : j < k
    · have dlt : decide ((j : Int) < (k : Int)) = true := by simp; omega
      go_wp2_with (fail)
      have HB := Lib.hid (bts_lit wr #[.int .u8 ((j : Int) % 256), .int .u8 ((j : Int) / 256)] [(j : Int) % 256, (j : Int) / 256] (0, 0) 2 rfl rfl (by decide))
      refine (live_send (PL.below HP.out ((Below.refl _ _).alloc (Nat.le_refl _) _)) (fun i hi => hi.elim) 0 HB.out (by show 2 ≤ 1000; decide)).mono ?_
      rintro e w2 ⟨rfl, h2⟩
      have HP2 : Hid (PL g (Pst.last (j + 1)) w (fun _ => False) w2) := Lib.hid (by rw [← Pst.last_send]; exact h2.live)
      clear h2 HB
      go_wp2_with (fail)
      go_roundw
      case rel => exact ⟨j + 1, by omega, by go_num, HP2⟩
      case measure => simp [intOf]; omega
    · obtain rfl : j = k := by omega
      have dlt : decide ((j : Int) < (j : Int)) = false := by simp
      have hh := Pst.last_head j (by omega)
      have hll := Pst.last_len j
      obtain ⟨st, hst⟩ : ∃ st, Pst.last j = st := ⟨_, rfl⟩
      rw [hst] at hh hll HP
      have hle : Pst.letter (j - 512) = (0, [((j - 512 : Nat) : Int), 0]) := by unfold Pst.letter; rw [Nat.mod_eq_of_lt (by omega), Nat.div_eq_of_lt (by omega)]; rfl
      rw [hle] at hh
      have HH := Lib.hid hh
      have HLL := Lib.hid hll
      clear hst hh hll hle hlt
      by_cases hw : 512 < j
      · have dw : decide ((512 : Int) < (j : Int)) = true := by simp; omega
        go_wp2_with (fail)
        have hpl : st[Pst.pl st.length 0]? = some (0, [((j - 512 : Nat) : Int), 0]) := by rw [show Pst.pl st.length 0 = 0 by unfold Pst.pl; simp]; exact HH.out
        refine (live_take HP.out (fun i hi => hi.elim) 0 (by have := HLL.out; omega) hpl).mono ?_
        rintro e w2 ⟨A, c, rfl, hb2, h2⟩
        have HP2 := Lib.hid h2.live
        have HB2 := Lib.hid hb2
        have HOL : Hid ((Pst.out st (Pst.pl st.length 0)).length = 512 - 1) := Lib.hid (by rw [Pst.out_len (Pst.pl_lt _ _ (by have := HLL.out; omega))]; have := HLL.out; omega)
        clear h2 hb2 hpl
        dsimp only [List.length_cons, List.length_nil] at HB2 ⊢
        go_wp2_with (fail)
        obtain ⟨Z, hZ⟩ : ∃ Z, w2.alloc (.cells #[.int .u8 0, .slice A 2 c] 31) = Z := ⟨_, rfl⟩
        have HBZ : Hid (Below w2.heap.size w2 Z) := Lib.hid (by rw [← hZ]; exact (Below.refl _ _).alloc (Nat.le_refl _) _)
        have hZ0 : Z.heap[w2.heap.size]? = some (.cells #[.int .u8 0, .slice A 2 c] 31 (0, 0)) := by rw [← hZ]; exact alloc_block
        rw [hZ]
        clear hZ
        have HPZ := Lib.hid (HP2.out.below HBZ.out)
        obtain ⟨A8, c8, hc8⟩ := HPZ.out.cell
        rw [HOL.out] at hc8
        have e1 : Z.cell? ⟨w2.heap.size, 1, none⟩ = some (.slice A 2 c) := by rw [cell_of_row _ _ _ _ _ _ hZ0]; rfl
        obtain ⟨b, cs, fr, hA, hb, hcs, h2c⟩ : ∃ b cs fr, A = some ⟨b, 0, none⟩ ∧ True ∧ w2.heap[b]? = some (.cells cs 5 fr) ∧ cs.toList.take 2 = cl .u8 [((j - 512 : Nat) : Int), 0] := by
          obtain ⟨A9, c9, h9, _, _, h10⟩ := HB2.out
          injection h9 with h9 _ _
          subst h9
          exact h10 (by simp)
        subst hA
        have hb2 : Z.heap[b]? = some (.cells cs 5 fr) := below_block HBZ.out hcs
        have e2 : Z.cell? ⟨b, 0, none⟩ = some (.int .u8 ((j - 512 : Nat) : Int)) := by rw [cell_of_row _ _ _ _ _ _ hb2]; exact cur_at h2c rfl
        have e3 : Z.cell? ⟨b, 1, none⟩ = some (.int .u8 0) := by rw [cell_of_row _ _ _ _ _ _ hb2]; exact cur_at h2c rfl
        clear hZ0 hb hcs h2c hb2
        have hs1 : (((j - 512 : Nat) : Int) == (j : Int) - 512) = true := by simp; omega
        go_quiet ((go_at_call 11; exact Calls.quiet_of_same ((len_any _ g A8 _ c8 (by simpa using hc8)).mono fun e w' h => ⟨h.1, h.2.symm⟩)))
        go_wp2
        go_ret
        exact ⟨rfl, Below.drewN' HPZ.out.old _⟩
      · have dw : decide ((512 : Int) < (j : Int)) = false := by simp; omega
        go_wp2_with (fail)
        have hpl : st[Pst.pl st.length 0]? = some (0, [((j - 512 : Nat) : Int), 0]) := by rw [show Pst.pl st.length 0 = 0 by unfold Pst.pl; simp]; exact HH.out
        refine (live_take HP.out (fun i hi => hi.elim) 0 (by have := HLL.out; omega) hpl).mono ?_
        rintro e w2 ⟨A, c, rfl, hb2, h2⟩
        have HP2 := Lib.hid h2.live
        have HB2 := Lib.hid hb2
        have HOL : Hid ((Pst.out st (Pst.pl st.length 0)).length = j - 1) := Lib.hid (by rw [Pst.out_len (Pst.pl_lt _ _ (by have := HLL.out; omega))]; have := HLL.out; omega)
        clear h2 hb2 hpl
        dsimp only [List.length_cons, List.length_nil] at HB2 ⊢
        go_wp2_with (fail)
        obtain ⟨Z, hZ⟩ : ∃ Z, w2.alloc (.cells #[.int .u8 0, .slice A 2 c] 31) = Z := ⟨_, rfl⟩
        have HBZ : Hid (Below w2.heap.size w2 Z) := Lib.hid (by rw [← hZ]; exact (Below.refl _ _).alloc (Nat.le_refl _) _)
        have hZ0 : Z.heap[w2.heap.size]? = some (.cells #[.int .u8 0, .slice A 2 c] 31 (0, 0)) := by rw [← hZ]; exact alloc_block
        rw [hZ]
        clear hZ
        have HPZ := Lib.hid (HP2.out.below HBZ.out)
        obtain ⟨A8, c8, hc8⟩ := HPZ.out.cell
        rw [HOL.out] at hc8
        have e1 : Z.cell? ⟨w2.heap.size, 1, none⟩ = some (.slice A 2 c) := by rw [cell_of_row _ _ _ _ _ _ hZ0]; rfl
        obtain ⟨b, cs, fr, hA, hb, hcs, h2c⟩ : ∃ b cs fr, A = some ⟨b, 0, none⟩ ∧ True ∧ w2.heap[b]? = some (.cells cs 5 fr) ∧ cs.toList.take 2 = cl .u8 [((j - 512 : Nat) : Int), 0] := by
          obtain ⟨A9, c9, h9, _, _, h10⟩ := HB2.out
          injection h9 with h9 _ _
          subst h9
          exact h10 (by simp)
        subst hA
        have hb2 : Z.heap[b]? = some (.cells cs 5 fr) := below_block HBZ.out hcs
        have e2 : Z.cell? ⟨b, 0, none⟩ = some (.int .u8 ((j - 512 : Nat) : Int)) := by rw [cell_of_row _ _ _ _ _ _ hb2]; exact cur_at h2c rfl
        have e3 : Z.cell? ⟨b, 1, none⟩ = some (.int .u8 0) := by rw [cell_of_row _ _ _ _ _ _ hb2]; exact cur_at h2c rfl
        clear hZ0 hb hcs h2c hb2
        have hs0 : ((j - 1 : Nat) : Int) = (j : Int) - 1 := by omega
        rw [show j - 512 = 0 by omega] at e2
        have hj1 : (1 : Int) ≤ (j : Int) := by omega
        go_quiet ((go_at_call 11; exact Calls.quiet_of_same ((len_any _ g A8 _ c8 (by simpa using hc8)).mono fun e w' h => ⟨h.1, h.2.symm⟩)))
        go_wp2
        go_ret
        exact ⟨rfl, Below.drewN' HPZ.out.old _⟩
end Go.Proofs.Ytlldkcelkgnalaa
