/-
  The walk of the law TillApart. No conditions.
-/
import Derived.Test.YtcjhgckkbekhoaaTilAsk
import Derived.Test.YtcjhgckkbekhoaaActTil
import Derived.Test.YtcjhgckkbekhoaaPartyKit
import Derived.Test.YtcjhgckkbekhoaaArrB
namespace Go.Proofs.Ytcjhgckkbekhoaa
set_option maxRecDepth 20000
set_option linter.unusedSimpArgs false
set_option linter.unusedVariables false
open Go.ChangeShapes Go.WideShapes Go.ChangeAt Go.RowKit

set_option maxHeartbeats 1000000 in
theorem tillApart_far {w : World} (A : Option Addr) (n c : Nat) (sb cy : Int) (h : 50 < n) : Calls Try.prog 5 #[.slice A n c, .int .u8 sb, .int .u8 cy] w fun e w' => e = .returned (.bool true) ∧ Below w.heap.size w w' := by
  have d1 : decide ((50 : Int) < (n : Int)) = true := by simp; omega
  go_enter Try.func5, Try.ntmps5
  go_wp2_with (fail)
  refine (tilAwake_any _).mono ?_
  rintro e w1 ⟨rfl, hb1⟩
  go_wp2_with (fail)
  refine (tilAwake_any _).mono ?_
  rintro e w2 ⟨rfl, hb2⟩
  go_wp2
  go_ret
  exact ⟨rfl, hb1.trans (hb2.mono hb1.size)⟩
set_option maxHeartbeats 4000000 in
theorem tillApart_in {w : World} (A : Option Addr) (n c : Nat) (l : List At6) (sb cy : Int) (hsb : 0 ≤ sb ∧ sb < 256) (hcy : 0 ≤ cy ∧ cy < 256) (hr : RdAt6 w w.heap.size A l) (hw : ∀ p ∈ l, p.Wf) (hn : l.length = n) (h : n ≤ 50) : Calls Try.prog 5 #[.slice A n c, .int .u8 sb, .int .u8 cy] w fun e w' => e = .returned (.bool true) ∧ Below w.heap.size w w' := by
  have d1 : decide ((50 : Int) < (n : Int)) = false := by simp; omega
  have HR := Lib.hid hr
  have HW := Lib.hid hw
  have HN := Lib.hid hn
  obtain ⟨a0, ha0⟩ : ∃ s : Nat, sb % 3 = (s : Int) := ⟨(sb % 3).toNat, by omega⟩
  obtain ⟨b0, hb0⟩ : ∃ s : Nat, cy % 3 = (s : Int) := ⟨(cy % 3).toNat, by omega⟩
  have hsb2 : sb.tmod 3 = (a0 : Int) := by rw [Int.tmod_eq_emod_of_nonneg hsb.1]; exact ha0
  have hcy2 : cy.tmod 3 = (b0 : Int) := by rw [Int.tmod_eq_emod_of_nonneg hcy.1]; exact hb0
  have a3 : a0 < 3 := by omega
  have b3 : b0 < 3 := by omega
  have hwa : IntKind.i64.wrap (a0 : Int) = a0 := (IntWalk.i64_left _).trans (IntWalk.wrap64_in _ (by omega))
  have hwb : IntKind.i64.wrap (b0 : Int) = b0 := (IntWalk.i64_left _).trans (IntWalk.wrap64_in _ (by omega))
  clear hr hn hw ha0 hb0
  go_enter Try.func5, Try.ntmps5
  go_wp2_with (fail)
  refine (tilAwake_any _).mono ?_
  rintro e U ⟨rfl, hU⟩
  have HU := Lib.hid hU
  have hUs : w.heap.size ≤ U.heap.size := hU.size
  clear hU
  go_wp2_with (fail)
  refine tnew_live.mono ?_
  rintro e W1 ⟨rfl, hl, hz1⟩
  clear hz1
  go_wp2_with (fail)
  refine (tnew_second hl).mono ?_
  rintro e W2 ⟨rfl, hl2⟩
  have HL1 := Lib.hid hl2
  clear hl hl2
  generalize hg2 : W1.heap.size + 4 = g2 at *
  go_wp2
  go_loopw [9] (fun i wq => ∃ (j : Nat) (st ut : Til), j ≤ n ∧ i = .int .i64 j ∧ Hid (st.Num j) ∧ Hid (ut.Num j) ∧ Hid (st.Aside ut a0 b0) ∧ Hid (LiveO (TwoT (U.heap.size + 4) g2 st ut (8 * j)) U (fun _ => False) wq)) (fun i _ => n - (intOf i).toNat)
  case atStart => exact ⟨0, .new, .new, by omega, rfl, num_new, num_new, aside_new _ _, HL1⟩
  case round =>
    clear HL1
    obtain ⟨j, st, ut, hj, rfl, HM, HM2, HA, HL⟩ := hrel
    by_cases hlt : j < n
    case neg =>
      obtain rfl : j = n := by omega
      have dlt : decide ((j : Int) < (j : Int)) = false := by simp
      clear HW HR HN
      have kc : cpok ((a0 : Int), (b0 : Int)) := ⟨wf_of (by omega), wf_of (by omega)⟩
      have e1 := HA.out.tk
      have e2 := HA.out.nt
      go_wp2_with (fail)
      refine (taken_first HL.out kc).mono ?_
      rintro e _ ⟨rfl, rfl⟩
      rw [e1]
      go_wp2_with (fail)
      refine (taken_second HL.out kc).mono ?_
      rintro e _ ⟨rfl, rfl⟩
      go_wp2_with (fail)
      refine (net_second HL.out kc.1).mono ?_
      rintro e _ ⟨rfl, rfl⟩
      rw [e2]
      clear e1 e2
      go_wp2_with (fail)
      refine (taken_second HL.out kc).mono ?_
      rintro e _ ⟨rfl, rfl⟩
      go_wp2
      go_ret
      exact ⟨rfl, HU.out.trans (HL.out.old.mono hUs)⟩
    case pos =>
      have dlt : decide ((j : Int) < (n : Int)) = true := by simpa using hlt
      obtain ⟨p, hp⟩ : ∃ p, l[j]? = some p := ⟨l[j]'(by have := HN.out; omega), List.getElem?_eq_getElem _⟩
      have hpw := HW.out p (List.mem_of_getElem? hp)
      obtain ⟨gg, oo, rfl, hgg, hcx⟩ := HR.out j _ hp
      obtain ⟨k, s0, c0, t0, a, v⟩ := p
      obtain ⟨wk, ws, wc, wt, wa, wv⟩ := hpw
      have wa : 0 ≤ a ∧ a < 65536 := wa
      have ws : 0 ≤ s0 ∧ s0 < 256 := ws
      have wc : 0 ≤ c0 ∧ c0 < 256 := wc
      have wt : 0 ≤ t0 ∧ t0 < 256 := wt
      have wk : 0 ≤ k ∧ k < 256 := wk
      have lsw : U.heap.size ≤ wr.heap.size := HL.out.old.size
      have HRG : Hid (wr.rangeAt gg (oo + j * 6) [.int .u8 k, .int .u8 s0, .int .u8 c0, .int .u8 t0, .int .u16 a, .int .u8 v]) := fun i u hu =>
        (World.cell?_of_block (a := ⟨gg, oo + j * 6 + i, none⟩) ((HL.out.old.block gg (by omega)).trans (HU.out.block gg hgg))).trans (hcx i u hu)
      have HV : Hid (U.cell? ⟨gg, oo + j * 6 + 5, none⟩ = some (.int .u8 v)) := (World.cell?_of_block (a := ⟨gg, oo + j * 6 + 5, none⟩) (HU.out.block gg hgg)).trans (hcx 5 _ rfl)
      clear hcx hp
      have k0 : (0 : Int) ≤ (j : Int) := by omega
      have gz : gg < wr.heap.size := by omega
      have gU : gg < U.heap.size := by omega
      obtain ⟨s, hs⟩ : ∃ s : Nat, s0 % 3 = (s : Int) := ⟨(s0 % 3).toNat, by omega⟩
      obtain ⟨c, hc⟩ : ∃ c : Nat, c0 % 3 = (c : Int) := ⟨(c0 % 3).toNat, by omega⟩
      obtain ⟨t, ht⟩ : ∃ c : Nat, t0 % 3 = (c : Int) := ⟨(t0 % 3).toNat, by omega⟩
      have s3 : s < 3 := by omega
      have c3 : c < 3 := by omega
      have t3 : t < 3 := by omega
      have hk : ypok ((s : Int), (c : Int), 1 + (t : Int)) := ⟨wf_of (x := (s : Int)) (by omega), wf_of (x := (c : Int)) (by omega), wf_of (x := 1 + (t : Int)) (by omega)⟩
      have HASK : Hid (∀ w : World, Calls Try.prog 15 #[.agg #[.int .u8 k, .int .u8 s0, .int .u8 c0, .int .u8 t0, .int .u16 a, .int .u8 v]] w fun e w' => e = .returned (.agg #[.int .u8 (askK k s), .int .i64 s, .int .i64 c, .int .i64 (1 + t), .int .i64 (1 + a), .int .u8 0]) ∧ Below w.heap.size w w') := fun w => ask_any w k s0 c0 t0 a v s c t wk ws.1 wc.1 wt.1 wa hs hc ht
      have hM : 0 < 1 + a ∧ 1 + a ≤ 65536 := by omega
      obtain ⟨K, hK⟩ : ∃ K, K = askK k s := ⟨_, rfl⟩
      rw [← hK] at HASK
      clear hs hc ht wk ws wc wt wa wv hK
      go_wp2_with (refine wpList_load_mid rfl _ _ rfl gg (oo + j * 6) rfl [.int .u8 k, .int .u8 s0, .int .u8 c0, .int .u8 t0, .int .u16 a, .int .u8 v] _ HRG.out Try.underlying35 rfl (by kernel_rfl) ?_)
      have HL1 := HL
      have ls1 : U.heap.size ≤ wr.heap.size := HL1.out.old.size
      refine (HASK.out _).mono ?_
      rintro e X2 ⟨rfl, hk9⟩
      have HL2 := Lib.hid (HL1.out.below (twoT_thing (U.heap.size + 4) g2 st ut (8 * j)) hk9)
      have ls2 : U.heap.size ≤ X2.heap.size := HL2.out.old.size
      clear HL1 hk9
      go_wp2_with (fail)
      have hK : ∀ i, i < X2.heap.size → (X2.alloc (.cells #[.int .u8 K, .int .i64 s, .int .i64 c, .int .i64 (1 + t), .int .i64 (1 + a), .int .u8 0] 31)).heap[i]? = X2.heap[i]? := fun i hi => alloc_block_old hi
      have H3_0 : Hid ((X2.alloc (.cells #[.int .u8 K, .int .i64 s, .int .i64 c, .int .i64 (1 + t), .int .i64 (1 + a), .int .u8 0] 31)).heap[X2.heap.size]? = some (.cells #[.int .u8 K, .int .i64 s, .int .i64 c, .int .i64 (1 + t), .int .i64 (1 + a), .int .u8 0] 31 (0, 0))) := alloc_at (by omega)
      have HL3 : Hid (LiveO (TwoT (U.heap.size + 4) g2 st ut (8 * j)) U (fun (i : Nat) => i = X2.heap.size) (X2.alloc (.cells #[.int .u8 K, .int .i64 s, .int .i64 c, .int .i64 (1 + t), .int .i64 (1 + a), .int .u8 0] 31))) := (HL2.out.alloc (twoT_thing (U.heap.size + 4) g2 st ut (8 * j)) (.cells #[.int .u8 K, .int .i64 s, .int .i64 c, .int .i64 (1 + t), .int .i64 (1 + a), .int .u8 0] 31)).less (N' := (fun (i : Nat) => i = X2.heap.size)) (fun i hi => by exact .inr (by have hi2 : i = _ := hi; omega))
      have ls3 : U.heap.size ≤ (X2.alloc (.cells #[.int .u8 K, .int .i64 s, .int .i64 c, .int .i64 (1 + t), .int .i64 (1 + a), .int .u8 0] 31)).heap.size := by first | omega | (rw [World.size_alloc]; omega) | (rw [setCell_size]; omega)
      have lt3 : X2.heap.size ≤ (X2.alloc (.cells #[.int .u8 K, .int .i64 s, .int .i64 c, .int .i64 (1 + t), .int .i64 (1 + a), .int .u8 0] 31)).heap.size := by first | omega | (rw [World.size_alloc]; omega) | (rw [setCell_size]; omega)
      have : X2.heap.size < (X2.alloc (.cells #[.int .u8 K, .int .i64 s, .int .i64 c, .int .i64 (1 + t), .int .i64 (1 + a), .int .u8 0] 31)).heap.size := by rw [World.size_alloc]; omega
      have lg3 : (X2.alloc (.cells #[.int .u8 K, .int .i64 s, .int .i64 c, .int .i64 (1 + t), .int .i64 (1 + a), .int .u8 0] 31)).heap.size ≤ X2.heap.size + 1 ∧ X2.heap.size + 1 ≤ (X2.alloc (.cells #[.int .u8 K, .int .i64 s, .int .i64 c, .int .i64 (1 + t), .int .i64 (1 + a), .int .u8 0] 31)).heap.size := by rw [World.size_alloc]; omega
      clear hK HL2
      generalize (X2.alloc (.cells #[.int .u8 K, .int .i64 s, .int .i64 c, .int .i64 (1 + t), .int .i64 (1 + a), .int .u8 0] 31)) = X3 at *
      have HS0 : Hid ((fun w' : World => w'.cell? ⟨X2.heap.size, 0, none⟩ = some (.int .u8 K) ∧ w'.cell? ⟨X2.heap.size, 1, none⟩ = some (.int .i64 s) ∧ w'.cell? ⟨X2.heap.size, 2, none⟩ = some (.int .i64 c) ∧ w'.cell? ⟨X2.heap.size, 3, none⟩ = some (.int .i64 (1 + t)) ∧ w'.cell? ⟨X2.heap.size, 4, none⟩ = some (.int .i64 (1 + a)) ∧ w'.cell? ⟨X2.heap.size, 5, none⟩ = some (.int .u8 0) ∧ w'.cell? (⟨gg, oo + j * 6 + 5, none⟩) = some (.int .u8 v)) X3.drew) := ⟨by rw [cell_of_row _ _ _ _ _ _ (show X3.drew.heap[_]? = _ from H3_0.out)]; rfl, by rw [cell_of_row _ _ _ _ _ _ (show X3.drew.heap[_]? = _ from H3_0.out)]; rfl, by rw [cell_of_row _ _ _ _ _ _ (show X3.drew.heap[_]? = _ from H3_0.out)]; rfl, by rw [cell_of_row _ _ _ _ _ _ (show X3.drew.heap[_]? = _ from H3_0.out)]; rfl, by rw [cell_of_row _ _ _ _ _ _ (show X3.drew.heap[_]? = _ from H3_0.out)]; rfl, by rw [cell_of_row _ _ _ _ _ _ (show X3.drew.heap[_]? = _ from H3_0.out)]; rfl, (World.cell?_of_block (w' := X3.drew) (a := ⟨gg, oo + j * 6 + 5, none⟩) (by (try rw [ad_block]); exact (HL3.out.old).block _ gU)).trans HV.out⟩
      refine lane_start (ord := [0, 1, 2, 3, 4, 5, 6, 7]) (S := (fun w' : World => w'.cell? ⟨X2.heap.size, 0, none⟩ = some (.int .u8 K) ∧ w'.cell? ⟨X2.heap.size, 1, none⟩ = some (.int .i64 s) ∧ w'.cell? ⟨X2.heap.size, 2, none⟩ = some (.int .i64 c) ∧ w'.cell? ⟨X2.heap.size, 3, none⟩ = some (.int .i64 (1 + t)) ∧ w'.cell? ⟨X2.heap.size, 4, none⟩ = some (.int .i64 (1 + a)) ∧ w'.cell? ⟨X2.heap.size, 5, none⟩ = some (.int .u8 0) ∧ w'.cell? (⟨gg, oo + j * 6 + 5, none⟩) = some (.int .u8 v))) rfl (by kernel_rfl) (by exact HS0.out) (fun _ => ?_)
      iterate 7 (refine lane_take (v := ?_) rfl (by kernel_rfl) (by kernel_rfl) (by rfl) ?_ (by exact HS0.out) ?_; rotate_left; (focus (intro w9 hSw; obtain ⟨x0, x1, x2, x3, x4, x5, x6⟩ := hSw; (try go_simp); try (with_reducible rfl))); simp only [Act.put, List.setIfInBounds_toArray, List.set_cons_zero, List.set_cons_succ])
      refine lane_alone rfl (by kernel_rfl) (by rfl) (fun KK hKK => ?_)
      go_simp
      refine (hear_first HM.out (by omega) hM hk (HL3.out.drew (twoT_thing (U.heap.size + 4) g2 st ut (8 * j))) (fun i hi => by show i < X3.heap.size; exact (show ∀ i, (fun (i : Nat) => i = X2.heap.size) i → i < X3.heap.size from (fun i hx0 => ((fun (hi : i = X2.heap.size) => by omega) hx0))) i hi) (by omega)).mono ?_
      rintro e X4 ⟨⟨r9, rfl⟩, hl, hk⟩
      have hb0 : X4.heap[X2.heap.size]? = some (.cells #[.int .u8 K, .int .i64 s, .int .i64 c, .int .i64 (1 + t), .int .i64 (1 + a), .int .u8 0] 31 (0, 0)) := (hk.block X2.heap.size (rfl)).trans H3_0.out
      have hS9 : (fun w' : World => w'.cell? ⟨X2.heap.size, 0, none⟩ = some (.int .u8 K) ∧ w'.cell? ⟨X2.heap.size, 1, none⟩ = some (.int .i64 s) ∧ w'.cell? ⟨X2.heap.size, 2, none⟩ = some (.int .i64 c) ∧ w'.cell? ⟨X2.heap.size, 3, none⟩ = some (.int .i64 (1 + t)) ∧ w'.cell? ⟨X2.heap.size, 4, none⟩ = some (.int .i64 (1 + a)) ∧ w'.cell? ⟨X2.heap.size, 5, none⟩ = some (.int .u8 0) ∧ w'.cell? (⟨gg, oo + j * 6 + 5, none⟩) = some (.int .u8 v)) X4 := ⟨by rw [cell_of_row _ _ _ _ _ _ (show X4.heap[_]? = _ from hb0)]; rfl, by rw [cell_of_row _ _ _ _ _ _ (show X4.heap[_]? = _ from hb0)]; rfl, by rw [cell_of_row _ _ _ _ _ _ (show X4.heap[_]? = _ from hb0)]; rfl, by rw [cell_of_row _ _ _ _ _ _ (show X4.heap[_]? = _ from hb0)]; rfl, by rw [cell_of_row _ _ _ _ _ _ (show X4.heap[_]? = _ from hb0)]; rfl, by rw [cell_of_row _ _ _ _ _ _ (show X4.heap[_]? = _ from hb0)]; rfl, (World.cell?_of_block (w' := X4) (a := ⟨gg, oo + j * 6 + 5, none⟩) (by (try rw [ad_block]); exact (hl.old).block _ gU)).trans HV.out⟩
      refine hKK _ _ (by exact hS9) (fun _ => ?_)
      clear hKK KK HS0 hS9 hb0
      refine lane_end (by kernel_rfl) ?_
      have hsz9 : X3.heap.size ≤ X4.heap.size := hk.size
      have hsz : X3.heap.size ≤ X4.heap.size := hk.size
      have H4_0 : Hid (X4.heap[X2.heap.size]? = some (.cells #[.int .u8 K, .int .i64 s, .int .i64 c, .int .i64 (1 + t), .int .i64 (1 + a), .int .u8 0] 31 (0, 0))) := (hk.block X2.heap.size (rfl)).trans H3_0.out
      have HL4 := Lib.hid hl
      have : X2.heap.size < X4.heap.size := by omega
      have ls4 : U.heap.size ≤ X4.heap.size := by omega
      clear hl hk hsz HL3 H3_0
      clear hsz9
      have c0_0 : X4.cell? ⟨X2.heap.size, 0, none⟩ = some (.int .u8 K) := by rw [cell_of_row _ _ _ _ _ _ H4_0.out]; rfl
      have c0_1 : X4.cell? ⟨X2.heap.size, 1, none⟩ = some (.int .i64 s) := by rw [cell_of_row _ _ _ _ _ _ H4_0.out]; rfl
      have c0_2 : X4.cell? ⟨X2.heap.size, 2, none⟩ = some (.int .i64 c) := by rw [cell_of_row _ _ _ _ _ _ H4_0.out]; rfl
      have c0_3 : X4.cell? ⟨X2.heap.size, 3, none⟩ = some (.int .i64 (1 + t)) := by rw [cell_of_row _ _ _ _ _ _ H4_0.out]; rfl
      have c0_4 : X4.cell? ⟨X2.heap.size, 4, none⟩ = some (.int .i64 (1 + a)) := by rw [cell_of_row _ _ _ _ _ _ H4_0.out]; rfl
      have c0_5 : X4.cell? ⟨X2.heap.size, 5, none⟩ = some (.int .u8 0) := by rw [cell_of_row _ _ _ _ _ _ H4_0.out]; rfl
      by_cases hs : (s : Int) = (a0 : Int) ∧ (c : Int) = (b0 : Int)
      · obtain ⟨e1, e2⟩ := hs
        have q1 : ((s : Int) == (a0 : Int)) = true := by simpa using e1
        have q2 : ((c : Int) == (b0 : Int)) = true := by simpa using e2
        have HE1 := Lib.hid e1
        have HE2 := Lib.hid e2
        clear e1 e2
        go_wp2_with (fail)
        have HS0 : Hid ((fun w' : World => w'.cell? ⟨X2.heap.size, 0, none⟩ = some (.int .u8 K) ∧ w'.cell? ⟨X2.heap.size, 1, none⟩ = some (.int .i64 s) ∧ w'.cell? ⟨X2.heap.size, 2, none⟩ = some (.int .i64 c) ∧ w'.cell? ⟨X2.heap.size, 3, none⟩ = some (.int .i64 (1 + t)) ∧ w'.cell? ⟨X2.heap.size, 4, none⟩ = some (.int .i64 (1 + a)) ∧ w'.cell? ⟨X2.heap.size, 5, none⟩ = some (.int .u8 0) ∧ w'.cell? (⟨gg, oo + j * 6 + 5, none⟩) = some (.int .u8 v)) X4.drew) := ⟨by rw [cell_of_row _ _ _ _ _ _ (show X4.drew.heap[_]? = _ from H4_0.out)]; rfl, by rw [cell_of_row _ _ _ _ _ _ (show X4.drew.heap[_]? = _ from H4_0.out)]; rfl, by rw [cell_of_row _ _ _ _ _ _ (show X4.drew.heap[_]? = _ from H4_0.out)]; rfl, by rw [cell_of_row _ _ _ _ _ _ (show X4.drew.heap[_]? = _ from H4_0.out)]; rfl, by rw [cell_of_row _ _ _ _ _ _ (show X4.drew.heap[_]? = _ from H4_0.out)]; rfl, by rw [cell_of_row _ _ _ _ _ _ (show X4.drew.heap[_]? = _ from H4_0.out)]; rfl, (World.cell?_of_block (w' := X4.drew) (a := ⟨gg, oo + j * 6 + 5, none⟩) (by (try rw [ad_block]); exact (HL4.out.old).block _ gU)).trans HV.out⟩
        refine lane_start (ord := [0, 1, 2, 3, 4, 5, 6, 7]) (S := (fun w' : World => w'.cell? ⟨X2.heap.size, 0, none⟩ = some (.int .u8 K) ∧ w'.cell? ⟨X2.heap.size, 1, none⟩ = some (.int .i64 s) ∧ w'.cell? ⟨X2.heap.size, 2, none⟩ = some (.int .i64 c) ∧ w'.cell? ⟨X2.heap.size, 3, none⟩ = some (.int .i64 (1 + t)) ∧ w'.cell? ⟨X2.heap.size, 4, none⟩ = some (.int .i64 (1 + a)) ∧ w'.cell? ⟨X2.heap.size, 5, none⟩ = some (.int .u8 0) ∧ w'.cell? (⟨gg, oo + j * 6 + 5, none⟩) = some (.int .u8 v))) rfl (by kernel_rfl) (by exact HS0.out) (fun _ => ?_)
        iterate 7 (refine lane_take (v := ?_) rfl (by kernel_rfl) (by kernel_rfl) (by rfl) ?_ (by exact HS0.out) ?_; rotate_left; (focus (intro w9 hSw; obtain ⟨x0, x1, x2, x3, x4, x5, x6⟩ := hSw; (try go_simp); try (with_reducible rfl))); simp only [Act.put, List.setIfInBounds_toArray, List.set_cons_zero, List.set_cons_succ])
        refine lane_alone rfl (by kernel_rfl) (by rfl) (fun KK hKK => ?_)
        go_simp
        refine (hear_second HM2.out (by omega) hM hk (HL4.out.drew (twoT_thing (U.heap.size + 4) g2 (st.hear K s c (1 + t) (1 + a) v) ut (8 * j + 4))) (fun i hi => by show i < X4.heap.size; exact (show ∀ i, (fun (i : Nat) => i = X2.heap.size) i → i < X4.heap.size from (fun i hx0 => ((fun (hi : i = X2.heap.size) => by omega) hx0))) i hi) (by omega)).mono ?_
        rintro e X5 ⟨⟨r9, rfl⟩, hl, hk⟩
        have hb0 : X5.heap[X2.heap.size]? = some (.cells #[.int .u8 K, .int .i64 s, .int .i64 c, .int .i64 (1 + t), .int .i64 (1 + a), .int .u8 0] 31 (0, 0)) := (hk.block X2.heap.size (rfl)).trans H4_0.out
        have hS9 : (fun w' : World => w'.cell? ⟨X2.heap.size, 0, none⟩ = some (.int .u8 K) ∧ w'.cell? ⟨X2.heap.size, 1, none⟩ = some (.int .i64 s) ∧ w'.cell? ⟨X2.heap.size, 2, none⟩ = some (.int .i64 c) ∧ w'.cell? ⟨X2.heap.size, 3, none⟩ = some (.int .i64 (1 + t)) ∧ w'.cell? ⟨X2.heap.size, 4, none⟩ = some (.int .i64 (1 + a)) ∧ w'.cell? ⟨X2.heap.size, 5, none⟩ = some (.int .u8 0) ∧ w'.cell? (⟨gg, oo + j * 6 + 5, none⟩) = some (.int .u8 v)) X5 := ⟨by rw [cell_of_row _ _ _ _ _ _ (show X5.heap[_]? = _ from hb0)]; rfl, by rw [cell_of_row _ _ _ _ _ _ (show X5.heap[_]? = _ from hb0)]; rfl, by rw [cell_of_row _ _ _ _ _ _ (show X5.heap[_]? = _ from hb0)]; rfl, by rw [cell_of_row _ _ _ _ _ _ (show X5.heap[_]? = _ from hb0)]; rfl, by rw [cell_of_row _ _ _ _ _ _ (show X5.heap[_]? = _ from hb0)]; rfl, by rw [cell_of_row _ _ _ _ _ _ (show X5.heap[_]? = _ from hb0)]; rfl, (World.cell?_of_block (w' := X5) (a := ⟨gg, oo + j * 6 + 5, none⟩) (by (try rw [ad_block]); exact (hl.old).block _ gU)).trans HV.out⟩
        refine hKK _ _ (by exact hS9) (fun _ => ?_)
        clear hKK KK HS0 hS9 hb0
        refine lane_end (by kernel_rfl) ?_
        have hsz9 : X4.heap.size ≤ X5.heap.size := hk.size
        have hsz : X4.heap.size ≤ X5.heap.size := hk.size
        have H5_0 : Hid (X5.heap[X2.heap.size]? = some (.cells #[.int .u8 K, .int .i64 s, .int .i64 c, .int .i64 (1 + t), .int .i64 (1 + a), .int .u8 0] 31 (0, 0))) := (hk.block X2.heap.size (rfl)).trans H4_0.out
        have HL5 := Lib.hid hl
        have : X2.heap.size < X5.heap.size := by omega
        have ls5 : U.heap.size ≤ X5.heap.size := by omega
        clear hl hk hsz HL4 H4_0 c0_0 c0_1 c0_2 c0_3 c0_4 c0_5
        clear hsz9
        go_wp2
        go_roundw
        case rel => exact ⟨j + 1, (st.hear K s c (1 + t) (1 + a) v), (ut.hear K s c (1 + t) (1 + a) v), by omega, by go_num, HM.out.hear (by omega) hM, HM2.out.hear (by omega) hM, by have h9 := HA.out.hear K (1 + t) (1 + a) v; rw [← HE1.out, ← HE2.out] at h9; rw [← HE1.out, ← HE2.out]; exact h9, (HL5.out.less (fun i hi => hi.elim)).imp (fun F hF => twoT_mono hF (by omega))⟩
        case measure => simp [intOf]; omega
      · by_cases e1 : (s : Int) = (a0 : Int)
        · have e2 : ¬ (c : Int) = (b0 : Int) := fun e => hs ⟨e1, e⟩
          have q1 : ((s : Int) == (a0 : Int)) = true := by simpa using e1
          have q2 : ((c : Int) == (b0 : Int)) = false := by simpa using e2
          have HNE : Hid (¬ ((a0 : Int) = (s : Int) ∧ (b0 : Int) = (c : Int))) := fun e => hs ⟨e.1.symm, e.2.symm⟩
          clear hs e1 e2
          go_wp2
          go_roundw
          case rel => exact ⟨j + 1, (st.hear K s c (1 + t) (1 + a) v), ut, by omega, by go_num, HM.out.hear (by omega) hM, HM2.out.mono (by omega), HA.out.hear_one K (1 + t) (1 + a) v HNE.out, (HL4.out.less (fun i hi => hi.elim)).imp (fun F hF => twoT_mono hF (by omega))⟩
          case measure => simp [intOf]; omega
        · have q1 : ((s : Int) == (a0 : Int)) = false := by simpa using e1
          have HNE : Hid (¬ ((a0 : Int) = (s : Int) ∧ (b0 : Int) = (c : Int))) := fun e => hs ⟨e.1.symm, e.2.symm⟩
          clear hs e1
          go_wp2
          go_roundw
          case rel => exact ⟨j + 1, (st.hear K s c (1 + t) (1 + a) v), ut, by omega, by go_num, HM.out.hear (by omega) hM, HM2.out.mono (by omega), HA.out.hear_one K (1 + t) (1 + a) v HNE.out, (HL4.out.less (fun i hi => hi.elim)).imp (fun F hF => twoT_mono hF (by omega))⟩
          case measure => simp [intOf]; omega
theorem tillApart_walk {w : World} (A : Option Addr) (c : Nat) (l : List At6) (hr : RdAt6 w w.heap.size A l) (hw : ∀ p ∈ l, p.Wf) (sb : Int) (hsb : (Lit.int .u8 sb).wf = true) (cy : Int) (hcy : (Lit.int .u8 cy).wf = true) : Calls Try.prog 5 #[.slice A l.length c, .int .u8 sb, .int .u8 cy] w fun e w' => e = .returned (.bool true) ∧ Below w.heap.size w w' := by
  by_cases h : l.length ≤ 50
  · exact tillApart_in A _ c l sb cy (wf_u8 hsb) (wf_u8 hcy) hr hw rfl h
  · exact tillApart_far A _ c sb cy (by omega)
end Go.Proofs.Ytcjhgckkbekhoaa
