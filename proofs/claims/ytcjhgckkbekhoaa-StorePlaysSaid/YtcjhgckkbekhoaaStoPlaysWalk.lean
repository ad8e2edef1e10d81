/-
  The walk of the law StorePlays. No conditions.
-/
import Derived.Test.YtcjhgckkbekhoaaStoPlays
import Derived.Test.YtcjhgckkbekhoaaActSto
import Derived.Test.YtcjhgckkbekhoaaPartyKit
namespace Go.Proofs.Ytcjhgckkbekhoaa
set_option maxRecDepth 20000
set_option linter.unusedSimpArgs false
set_option linter.unusedVariables false
open Go.ChangeShapes Go.WideShapes Go.ChangeAt Go.RowKit

theorem shear_again2_live {w0 w : World} {N : Nat → Prop} {g : Nat} {st : Sto} {m : Nat} {S C T M v x : Int} (hs : st.said (S, C) = some x) (h : LiveO (StoB g st m) w0 N w) (hN : ∀ i, N i → i < w.heap.size) (hk : pok (S, C)) (hm : m + 2 ≤ 100000) :
    Calls Try.prog 22 #[.pointer (some ⟨g, 0, none⟩), .agg #[.int .u8 3, .int .i64 S, .int .i64 C, .int .i64 T, .int .i64 M, .int .u8 0], .int .u8 v] w fun e w' => e = .returned (.tuple #[.agg #[.int .u8 3, .int .i64 S, .int .i64 C, .int .i64 T, .int .i64 M, .int .u8 x], .bool true]) ∧ LiveO (StoB g st (m + 2)) w0 N w' ∧ KeptO w0 N w w' := by
  have := shear_alloc_live (T := T) (M := M) (v := v) h hN hk hm
  have e1 : st.alloc (S, C) v = st := by unfold Sto.alloc; rw [hs]
  have e2 : st.ans (S, C) v = x := by unfold Sto.ans; rw [hs]; rfl
  rw [e1, e2] at this
  exact this
theorem stoB_mono {g : Nat} {st : Sto} {m m' : Nat} {w : World} {F : Nat → Prop} (h : StoB g st m w F) (hm : m ≤ m') : StoB g st m' w F := by obtain ⟨b1, b2, h, r⟩ := h; exact ⟨b1, b2, h.mono hm, r⟩
set_option maxHeartbeats 1000000 in
theorem storePlays_far {w : World} (A : Option Addr) (n c : Nat) (h : 60 < n) : Calls Try.prog 6 #[.slice A n c] w fun e w' => e = .returned (.bool true) ∧ Below w.heap.size w w' := by
  have d1 : decide ((60 : Int) < (n : Int)) = true := by simp; omega
  go_enter Try.func6, Try.ntmps6
  go_wp2_with (fail)
  refine (stoAwake_any _).mono ?_
  rintro e w1 ⟨rfl, hb1⟩
  go_wp2_with (fail)
  refine (stoAwake_any _).mono ?_
  rintro e w2 ⟨rfl, hb2⟩
  go_wp2
  go_ret
  exact ⟨rfl, hb1.trans (hb2.mono hb1.size)⟩
set_option maxHeartbeats 8000000 in
theorem storePlays_in {w : World} (A : Option Addr) (n c : Nat) (l : List As4) (hr : RdAs4 w w.heap.size A l) (hw : ∀ p ∈ l, p.Wf) (hn : l.length = n) (h : n ≤ 60) : Calls Try.prog 6 #[.slice A n c] w fun e w' => e = .returned (.bool true) ∧ Below w.heap.size w w' := by
  have d1 : decide ((60 : Int) < (n : Int)) = false := by simp; omega
  have HR := Lib.hid hr
  have HW := Lib.hid hw
  have HN := Lib.hid hn
  clear hr hn hw
  go_enter Try.func6, Try.ntmps6
  go_wp2_with (fail)
  refine (stoAwake_any _).mono ?_
  rintro e U ⟨rfl, hU⟩
  have HU := Lib.hid hU
  have hUs : w.heap.size ≤ U.heap.size := hU.size
  clear hU
  go_wp2_with (fail)
  refine snew_live.mono ?_
  rintro e W1 ⟨rfl, hl, hz1⟩
  have l1 : U.heap.size ≤ W1.heap.size := hl.old.size
  clear hz1
  have HL1 := Lib.hid hl
  clear hl
  go_wp2
  generalize hSB : W1.heap.size = SB at *
  go_loopw [6] (fun i wq => ∃ (j : Nat) (st : Sto), j ≤ n ∧ i = .int .i64 j ∧ Hid st.Fine ∧ Hid (LiveO (StoB (U.heap.size + 2) st (2 * j)) U (fun i => i = SB ∨ i = SB + 1) wq) ∧ Hid (ArrB wq SB 51 9 (gSaid st)) ∧ Hid (ArrB wq (SB + 1) 53 9 (gAside st))) (fun i _ => n - (intOf i).toNat)
  case atStart =>
    subst hSB
    refine ⟨0, .new, by omega, rfl, fine_new, ((HL1.out.alloc (sto_thing _ _ _) _).alloc (sto_thing _ _ _) _).less (fun i hi => ?_), ?_, arrB_of (alloc_at (by simp)) rfl ?_⟩
    · rcases hi with rfl | rfl
      · exact .inl (.inr rfl)
      · exact .inr (by simp)
    · exact (arrB_of (w := W1.alloc _) alloc_block rfl (fun i hi => by
        match i, hi with
        | 0, _ | 1, _ | 2, _ | 3, _ | 4, _ | 5, _ | 6, _ | 7, _ | 8, _ => rfl)).kept (alloc_block_old (by simp))
    · intro i hi
      match i, hi with
      | 0, _ | 1, _ | 2, _ | 3, _ | 4, _ | 5, _ | 6, _ | 7, _ | 8, _ => rfl
  case round =>
    clear HL1
    obtain ⟨j, st, hj, rfl, HF, HL, HS, HA⟩ := hrel
    by_cases hlt : j < n
    case neg =>
      obtain rfl : j = n := by omega
      have dlt : decide ((j : Int) < (j : Int)) = false := by simp
      clear HW HR HN
      have HND : Hid st.aside.Nodup := live_nodup HL.out
      go_wp2
      go_loopw [12, 13] (fun cn i wq => ∃ a : Nat, a ≤ 3 ∧ i = .int .i64 a ∧ cn = .int .i64 (cntA st (a * 3) : Nat) ∧ Hid (LiveO (StoB (U.heap.size + 2) st (2 * j)) U (fun i => i = SB ∨ i = SB + 1) wq) ∧ Hid (ArrB wq (SB + 1) 53 9 (gAside st))) (fun cn i _ => 3 - (intOf i).toNat)
      case atStart => exact ⟨0, by omega, rfl, rfl, HL, HA⟩
      case round =>
        rename_i wx
        clear HL HS HA
        obtain ⟨a, ha, rfl, rfl, HL, HA⟩ := hrel
        by_cases ha3 : a < 3
        case neg =>
          obtain rfl : a = 3 := by omega
          go_wp2_with (fail)
          refine (count_live HL.out).mono ?_
          rintro e _ ⟨rfl, rfl⟩
          rw [show cntA st (3 * 3) = st.aside.length from cntA_all HF.out HND.out]
          go_wp2
          go_ret
          exact ⟨rfl, HU.out.trans (HL.out.old.mono hUs)⟩
        case pos =>
          have da : decide ((a : Int) < 3) = true := by simp; omega
          have a0 : (0 : Int) ≤ (a : Int) := by omega
          have a3i : (a : Int) < 3 := by omega
          go_wp2
          go_loopw [12, 14] (fun cn i wq => ∃ b : Nat, b ≤ 3 ∧ i = .int .i64 b ∧ cn = .int .i64 (cntA st (a * 3 + b) : Nat) ∧ Hid (LiveO (StoB (U.heap.size + 2) st (2 * j)) U (fun i => i = SB ∨ i = SB + 1) wq) ∧ Hid (ArrB wq (SB + 1) 53 9 (gAside st))) (fun cn i _ => 3 - (intOf i).toNat)
          case atStart => exact ⟨0, by omega, rfl, rfl, HL, HA⟩
          case round =>
            rename_i wy
            clear HL HA
            obtain ⟨b, hb, rfl, rfl, HL, HA⟩ := hrel
            by_cases hb3 : b < 3
            case neg =>
              obtain rfl : b = 3 := by omega
              go_wp2
              go_roundw
              case rel => exact ⟨a + 1, by omega, by go_num, by rw [show (a + 1) * 3 = a * 3 + 3 by omega], HL, HA⟩
              case measure => simp [intOf]; omega
            case pos =>
              have db : decide ((b : Int) < 3) = true := by simp; omega
              have b0 : (0 : Int) ≤ (b : Int) := by omega
              have b3i : (b : Int) < 3 := by omega
              by_cases hm : ((a : Int), (b : Int)) ∈ st.aside
              · have hd : decide (((a : Int), (b : Int)) ∈ st.aside) = true := by simpa using hm
                have hz : wr.cell? ⟨SB + 1, a * 3 + b, none⟩ = some (.bool true) := by rw [HA.out.cell (by omega), gAside_at (by omega), hd]
                have hSB : SB + 1 < wr.heap.size := HA.out.lt
                have HASD : Hid (∀ y : Later wr, Calls Try.prog 23 #[.pointer (some ⟨U.heap.size + 2, 0, none⟩), .int .i64 a, .int .i64 b] (over wr y) fun e w' => e = .returned (.bool true) ∧ Below (over wr y).heap.size (over wr y) w') := fun y => by
                  have := aside_live (HL.out.below (sto_thing _ _ _) (over_below wr y)) (a := (a : Int)) (b := (b : Int)) ⟨WalkArith.wf_i64 (by omega), WalkArith.wf_i64 (by omega)⟩
                  rw [hd] at this
                  exact this
                have HCN : Hid (cntA st (a * 3 + (b + 1)) = cntA st (a * 3 + b) + 1) := by
                  have := cntA_succ st (a * 3 + b)
                  rw [pr3_at (by omega)] at this
                  simp only [hm, if_true, if_false] at this
                  exact this
                have hcl := cntA_le st (a * 3 + b)
                generalize cntA st (a * 3 + b) = q9 at *
                clear hd hm
                go_wp2
                refine region_over (by kernel_rfl) (by kernel_rfl) ?_
                repeat (go_big_quiet_step (first | (go_at_call 23; exact over_call (HASD.out _))))
                refine wpQuiet_nil ?_
                rintro _ ⟨y, rfl⟩
                have HLy := Lib.hid (HL.out.below (sto_thing _ _ _) (over_below wr y))
                have HAy : Hid (ArrB (over wr y) (SB + 1) 53 9 (gAside st)) := HA.out.kept ((over_below wr y).block _ hSB)
                have hzy : (over wr y).cell? ⟨SB + 1, a * 3 + b, none⟩ = some (.bool true) := by rw [over_cell _ _ _ _ hSB]; exact hz
                go_wp2
                go_roundw
                case rel => exact ⟨b + 1, by omega, by go_num, by rw [HCN.out]; go_num, HLy, HAy⟩
                case measure => simp [intOf]; omega
              · have hd : decide (((a : Int), (b : Int)) ∈ st.aside) = false := by simpa using hm
                have hz : wr.cell? ⟨SB + 1, a * 3 + b, none⟩ = some (.bool false) := by rw [HA.out.cell (by omega), gAside_at (by omega), hd]
                have hSB : SB + 1 < wr.heap.size := HA.out.lt
                have HASD : Hid (∀ y : Later wr, Calls Try.prog 23 #[.pointer (some ⟨U.heap.size + 2, 0, none⟩), .int .i64 a, .int .i64 b] (over wr y) fun e w' => e = .returned (.bool false) ∧ Below (over wr y).heap.size (over wr y) w') := fun y => by
                  have := aside_live (HL.out.below (sto_thing _ _ _) (over_below wr y)) (a := (a : Int)) (b := (b : Int)) ⟨WalkArith.wf_i64 (by omega), WalkArith.wf_i64 (by omega)⟩
                  rw [hd] at this
                  exact this
                have HCN : Hid (cntA st (a * 3 + (b + 1)) = cntA st (a * 3 + b) + 0) := by
                  have := cntA_succ st (a * 3 + b)
                  rw [pr3_at (by omega)] at this
                  simp only [hm, if_true, if_false] at this
                  exact this
                have hcl := cntA_le st (a * 3 + b)
                generalize cntA st (a * 3 + b) = q9 at *
                clear hd hm
                go_wp2
                refine region_over (by kernel_rfl) (by kernel_rfl) ?_
                repeat (go_big_quiet_step (first | (go_at_call 23; exact over_call (HASD.out _))))
                refine wpQuiet_nil ?_
                rintro _ ⟨y, rfl⟩
                have HLy := Lib.hid (HL.out.below (sto_thing _ _ _) (over_below wr y))
                have HAy : Hid (ArrB (over wr y) (SB + 1) 53 9 (gAside st)) := HA.out.kept ((over_below wr y).block _ hSB)
                have hzy : (over wr y).cell? ⟨SB + 1, a * 3 + b, none⟩ = some (.bool false) := by rw [over_cell _ _ _ _ hSB]; exact hz
                go_wp2
                go_roundw
                case rel => exact ⟨b + 1, by omega, by go_num, by rw [HCN.out]; rfl, HLy, HAy⟩
                case measure => simp [intOf]; omega
    case pos =>
      have dlt : decide ((j : Int) < (n : Int)) = true := by simpa using hlt
      obtain ⟨p, hp⟩ : ∃ p, l[j]? = some p := ⟨l[j]'(by have := HN.out; omega), List.getElem?_eq_getElem _⟩
      have hpw := HW.out p (List.mem_of_getElem? hp)
      obtain ⟨gg, oo, rfl, hgg, hcx⟩ := HR.out j _ hp
      obtain ⟨k, s0, c0, v⟩ := p
      obtain ⟨wk, ws, wc, wv⟩ := hpw
      have lsw : U.heap.size ≤ wr.heap.size := HL.out.old.size
      have HRG : Hid (wr.rangeAt gg (oo + j * 4) [.int .u8 k, .int .u8 s0, .int .u8 c0, .int .u8 v]) := fun i u hu =>
        (World.cell?_of_block (a := ⟨gg, oo + j * 4 + i, none⟩) ((HL.out.old.block gg (by omega)).trans (HU.out.block gg hgg))).trans (hcx i u hu)
      clear hcx hp
      have k0 : (0 : Int) ≤ (j : Int) := by omega
      obtain ⟨s, hs⟩ : ∃ s : Nat, s0 % 3 = (s : Int) := ⟨(s0 % 3).toNat, by omega⟩
      obtain ⟨c, hc⟩ : ∃ c : Nat, c0 % 3 = (c : Int) := ⟨(c0 % 3).toNat, by omega⟩
      have hs2 : s0.tmod 3 = (s : Int) := by rw [Int.tmod_eq_emod_of_nonneg ws.1]; exact hs
      have hc2 : c0.tmod 3 = (c : Int) := by rw [Int.tmod_eq_emod_of_nonneg wc.1]; exact hc
      have s3 : s < 3 := by omega
      have c3 : c < 3 := by omega
      have s3i : (s : Int) < 3 := by omega
      have c3i : (c : Int) < 3 := by omega
      have s0i : (0 : Int) ≤ (s : Int) := by omega
      have c0i : (0 : Int) ≤ (c : Int) := by omega
      have hq2 : k.tmod 7 = k % 7 := Int.tmod_eq_emod_of_nonneg wk.1
      have gz : gg < wr.heap.size := by omega
      have hk : pok ((s : Int), (c : Int)) := ⟨WalkArith.wf_i64 (by omega), WalkArith.wf_i64 (by omega)⟩
      by_cases qq6 : k % 7 = 6
      · have qq := qq6
        rw [qq] at hq2
        go_wp2_with (refine wpList_load_mid rfl _ _ rfl gg (oo + j * 4) rfl [.int .u8 k, .int .u8 s0, .int .u8 c0, .int .u8 v] _ HRG.out Try.underlying55 rfl (by kernel_rfl) ?_)
        have HL1 := HL
        have ls1 : U.heap.size ≤ wr.heap.size := HL1.out.old.size
        have H1_0 := HS
        have H1_1 := HA
        have : SB < wr.heap.size := H1_0.out.lt
        have : (SB + 1) < wr.heap.size := H1_1.out.lt
        have hK : ∀ i, i < wr.heap.size → (wr.alloc (.cells #[.int .u8 k, .int .u8 s0, .int .u8 c0, .int .u8 v] 55)).heap[i]? = wr.heap[i]? := fun i hi => alloc_block_old hi
        have H2_0 : Hid (ArrB (wr.alloc (.cells #[.int .u8 k, .int .u8 s0, .int .u8 c0, .int .u8 v] 55)) SB 51 9 (gSaid st)) := H1_0.out.kept (hK SB (by omega))
        have H2_1 : Hid (ArrB (wr.alloc (.cells #[.int .u8 k, .int .u8 s0, .int .u8 c0, .int .u8 v] 55)) (SB + 1) 53 9 (gAside st)) := H1_1.out.kept (hK (SB + 1) (by omega))
        have H2_2 : Hid ((wr.alloc (.cells #[.int .u8 k, .int .u8 s0, .int .u8 c0, .int .u8 v] 55)).heap[wr.heap.size]? = some (.cells #[.int .u8 k, .int .u8 s0, .int .u8 c0, .int .u8 v] 55 (0, 0))) := alloc_at (by omega)
        have HL2 : Hid (LiveO (StoB (U.heap.size + 2) st (2 * j)) U (fun (i : Nat) => i = SB ∨ i = (SB + 1) ∨ i = wr.heap.size) (wr.alloc (.cells #[.int .u8 k, .int .u8 s0, .int .u8 c0, .int .u8 v] 55))) := (HL1.out.alloc (sto_thing (U.heap.size + 2) st (2 * j)) (.cells #[.int .u8 k, .int .u8 s0, .int .u8 c0, .int .u8 v] 55)).less (N' := (fun (i : Nat) => i = SB ∨ i = (SB + 1) ∨ i = wr.heap.size)) (fun i hi => by rcases hi with h0 | h1 | h2; exact .inl (.inl h0); exact .inl (.inr h1); exact .inr (by omega))
        have : SB < (wr.alloc (.cells #[.int .u8 k, .int .u8 s0, .int .u8 c0, .int .u8 v] 55)).heap.size := by first | omega | (rw [World.size_alloc]; omega) | (rw [setCell_size]; omega)
        have : (SB + 1) < (wr.alloc (.cells #[.int .u8 k, .int .u8 s0, .int .u8 c0, .int .u8 v] 55)).heap.size := by first | omega | (rw [World.size_alloc]; omega) | (rw [setCell_size]; omega)
        have ls2 : U.heap.size ≤ (wr.alloc (.cells #[.int .u8 k, .int .u8 s0, .int .u8 c0, .int .u8 v] 55)).heap.size := by first | omega | (rw [World.size_alloc]; omega) | (rw [setCell_size]; omega)
        have lt2 : wr.heap.size ≤ (wr.alloc (.cells #[.int .u8 k, .int .u8 s0, .int .u8 c0, .int .u8 v] 55)).heap.size := by first | omega | (rw [World.size_alloc]; omega) | (rw [setCell_size]; omega)
        have : wr.heap.size < (wr.alloc (.cells #[.int .u8 k, .int .u8 s0, .int .u8 c0, .int .u8 v] 55)).heap.size := by rw [World.size_alloc]; omega
        have lg2 : (wr.alloc (.cells #[.int .u8 k, .int .u8 s0, .int .u8 c0, .int .u8 v] 55)).heap.size ≤ wr.heap.size + 1 ∧ wr.heap.size + 1 ≤ (wr.alloc (.cells #[.int .u8 k, .int .u8 s0, .int .u8 c0, .int .u8 v] 55)).heap.size := by rw [World.size_alloc]; omega
        have : SB < wr.heap.size := by omega
        have : (SB + 1) < wr.heap.size := by omega
        clear hK HL1 H1_0 H1_1
        generalize (wr.alloc (.cells #[.int .u8 k, .int .u8 s0, .int .u8 c0, .int .u8 v] 55)) = X2 at *
        have hK : ∀ i, i < X2.heap.size → (X2.alloc (.cells #[.int .u8 5, .int .i64 s, .int .i64 c, .int .i64 0, .int .i64 0, .int .u8 0] 31)).heap[i]? = X2.heap[i]? := fun i hi => alloc_block_old hi
        have H3_0 : Hid (ArrB (X2.alloc (.cells #[.int .u8 5, .int .i64 s, .int .i64 c, .int .i64 0, .int .i64 0, .int .u8 0] 31)) SB 51 9 (gSaid st)) := H2_0.out.kept (hK SB (by omega))
        have H3_1 : Hid (ArrB (X2.alloc (.cells #[.int .u8 5, .int .i64 s, .int .i64 c, .int .i64 0, .int .i64 0, .int .u8 0] 31)) (SB + 1) 53 9 (gAside st)) := H2_1.out.kept (hK (SB + 1) (by omega))
        have H3_2 : Hid ((X2.alloc (.cells #[.int .u8 5, .int .i64 s, .int .i64 c, .int .i64 0, .int .i64 0, .int .u8 0] 31)).heap[wr.heap.size]? = some (.cells #[.int .u8 k, .int .u8 s0, .int .u8 c0, .int .u8 v] 55 (0, 0))) := (hK wr.heap.size (by omega)).trans H2_2.out
        have H3_3 : Hid ((X2.alloc (.cells #[.int .u8 5, .int .i64 s, .int .i64 c, .int .i64 0, .int .i64 0, .int .u8 0] 31)).heap[(wr.heap.size + 1)]? = some (.cells #[.int .u8 5, .int .i64 s, .int .i64 c, .int .i64 0, .int .i64 0, .int .u8 0] 31 (0, 0))) := alloc_at (by omega)
        have HL3 : Hid (LiveO (StoB (U.heap.size + 2) st (2 * j)) U (fun (i : Nat) => i = SB ∨ i = (SB + 1) ∨ i = wr.heap.size ∨ i = (wr.heap.size + 1)) (X2.alloc (.cells #[.int .u8 5, .int .i64 s, .int .i64 c, .int .i64 0, .int .i64 0, .int .u8 0] 31))) := (HL2.out.alloc (sto_thing (U.heap.size + 2) st (2 * j)) (.cells #[.int .u8 5, .int .i64 s, .int .i64 c, .int .i64 0, .int .i64 0, .int .u8 0] 31)).less (N' := (fun (i : Nat) => i = SB ∨ i = (SB + 1) ∨ i = wr.heap.size ∨ i = (wr.heap.size + 1))) (fun i hi => by rcases hi with h0 | h1 | h2 | h3; exact .inl (.inl h0); exact .inl (.inr (.inl h1)); exact .inl (.inr (.inr h2)); exact .inr (by omega))
        have : SB < (X2.alloc (.cells #[.int .u8 5, .int .i64 s, .int .i64 c, .int .i64 0, .int .i64 0, .int .u8 0] 31)).heap.size := by first | omega | (rw [World.size_alloc]; omega) | (rw [setCell_size]; omega)
        have : (SB + 1) < (X2.alloc (.cells #[.int .u8 5, .int .i64 s, .int .i64 c, .int .i64 0, .int .i64 0, .int .u8 0] 31)).heap.size := by first | omega | (rw [World.size_alloc]; omega) | (rw [setCell_size]; omega)
        have : wr.heap.size < (X2.alloc (.cells #[.int .u8 5, .int .i64 s, .int .i64 c, .int .i64 0, .int .i64 0, .int .u8 0] 31)).heap.size := by first | omega | (rw [World.size_alloc]; omega) | (rw [setCell_size]; omega)
        have ls3 : U.heap.size ≤ (X2.alloc (.cells #[.int .u8 5, .int .i64 s, .int .i64 c, .int .i64 0, .int .i64 0, .int .u8 0] 31)).heap.size := by first | omega | (rw [World.size_alloc]; omega) | (rw [setCell_size]; omega)
        have lt3 : X2.heap.size ≤ (X2.alloc (.cells #[.int .u8 5, .int .i64 s, .int .i64 c, .int .i64 0, .int .i64 0, .int .u8 0] 31)).heap.size := by first | omega | (rw [World.size_alloc]; omega) | (rw [setCell_size]; omega)
        have : (wr.heap.size + 1) < (X2.alloc (.cells #[.int .u8 5, .int .i64 s, .int .i64 c, .int .i64 0, .int .i64 0, .int .u8 0] 31)).heap.size := by rw [World.size_alloc]; omega
        have lg3 : (X2.alloc (.cells #[.int .u8 5, .int .i64 s, .int .i64 c, .int .i64 0, .int .i64 0, .int .u8 0] 31)).heap.size ≤ X2.heap.size + 1 ∧ X2.heap.size + 1 ≤ (X2.alloc (.cells #[.int .u8 5, .int .i64 s, .int .i64 c, .int .i64 0, .int .i64 0, .int .u8 0] 31)).heap.size := by rw [World.size_alloc]; omega
        have : SB < (wr.heap.size + 1) := by omega
        have : (SB + 1) < (wr.heap.size + 1) := by omega
        have : wr.heap.size < (wr.heap.size + 1) := by omega
        clear hK HL2 H2_0 H2_1 H2_2
        generalize (X2.alloc (.cells #[.int .u8 5, .int .i64 s, .int .i64 c, .int .i64 0, .int .i64 0, .int .u8 0] 31)) = X3 at *
        refine (shear_other _ (U.heap.size + 2) 5 s c 0 0 v (by decide) (by decide)).mono ?_
        rintro e X4 ⟨rfl, hk⟩
        have hK : ∀ i, i < X3.heap.size → X4.heap[i]? = X3.heap[i]? := fun i hi => hk.block i hi
        have hsz : X3.heap.size ≤ X4.heap.size := hk.size
        have H4_0 : Hid (ArrB X4 SB 51 9 (gSaid st)) := H3_0.out.kept (hK SB (by omega))
        have H4_1 : Hid (ArrB X4 (SB + 1) 53 9 (gAside st)) := H3_1.out.kept (hK (SB + 1) (by omega))
        have H4_2 : Hid (X4.heap[wr.heap.size]? = some (.cells #[.int .u8 k, .int .u8 s0, .int .u8 c0, .int .u8 v] 55 (0, 0))) := (hK wr.heap.size (by omega)).trans H3_2.out
        have H4_3 : Hid (X4.heap[(wr.heap.size + 1)]? = some (.cells #[.int .u8 5, .int .i64 s, .int .i64 c, .int .i64 0, .int .i64 0, .int .u8 0] 31 (0, 0))) := (hK (wr.heap.size + 1) (by omega)).trans H3_3.out
        have HL4 : Hid (LiveO (StoB (U.heap.size + 2) st (2 * j)) U (fun (i : Nat) => i = SB ∨ i = (SB + 1) ∨ i = wr.heap.size ∨ i = (wr.heap.size + 1)) X4) := HL3.out.below (sto_thing (U.heap.size + 2) st (2 * j)) hk
        have : SB < X4.heap.size := by first | omega | (rw [World.size_alloc]; omega) | (rw [setCell_size]; omega)
        have : (SB + 1) < X4.heap.size := by first | omega | (rw [World.size_alloc]; omega) | (rw [setCell_size]; omega)
        have : wr.heap.size < X4.heap.size := by first | omega | (rw [World.size_alloc]; omega) | (rw [setCell_size]; omega)
        have : (wr.heap.size + 1) < X4.heap.size := by first | omega | (rw [World.size_alloc]; omega) | (rw [setCell_size]; omega)
        have ls4 : U.heap.size ≤ X4.heap.size := by first | omega | (rw [World.size_alloc]; omega) | (rw [setCell_size]; omega)
        have lt4 : X3.heap.size ≤ X4.heap.size := by first | omega | (rw [World.size_alloc]; omega) | (rw [setCell_size]; omega)
        clear hsz
        clear hK HL3 H3_0 H3_1 H3_2 H3_3
        have c3_0 : X4.cell? ⟨(wr.heap.size + 1), 0, none⟩ = some (.int .u8 5) := by rw [cell_of_row _ _ _ _ _ _ H4_3.out]; rfl
        have c3_1 : X4.cell? ⟨(wr.heap.size + 1), 1, none⟩ = some (.int .i64 s) := by rw [cell_of_row _ _ _ _ _ _ H4_3.out]; rfl
        have c3_2 : X4.cell? ⟨(wr.heap.size + 1), 2, none⟩ = some (.int .i64 c) := by rw [cell_of_row _ _ _ _ _ _ H4_3.out]; rfl
        have c3_3 : X4.cell? ⟨(wr.heap.size + 1), 3, none⟩ = some (.int .i64 0) := by rw [cell_of_row _ _ _ _ _ _ H4_3.out]; rfl
        have c3_4 : X4.cell? ⟨(wr.heap.size + 1), 4, none⟩ = some (.int .i64 0) := by rw [cell_of_row _ _ _ _ _ _ H4_3.out]; rfl
        have c3_5 : X4.cell? ⟨(wr.heap.size + 1), 5, none⟩ = some (.int .u8 0) := by rw [cell_of_row _ _ _ _ _ _ H4_3.out]; rfl
        go_wp2
        have hK : ∀ i, i < X4.heap.size → (X4.alloc (.cells #[.int .u8 0, .int .i64 0, .int .i64 0, .int .i64 0, .int .i64 0, .int .u8 0] 31)).heap[i]? = X4.heap[i]? := fun i hi => alloc_block_old hi
        have H5_0 : Hid (ArrB (X4.alloc (.cells #[.int .u8 0, .int .i64 0, .int .i64 0, .int .i64 0, .int .i64 0, .int .u8 0] 31)) SB 51 9 (gSaid st)) := H4_0.out.kept (hK SB (by omega))
        have H5_1 : Hid (ArrB (X4.alloc (.cells #[.int .u8 0, .int .i64 0, .int .i64 0, .int .i64 0, .int .i64 0, .int .u8 0] 31)) (SB + 1) 53 9 (gAside st)) := H4_1.out.kept (hK (SB + 1) (by omega))
        have H5_2 : Hid ((X4.alloc (.cells #[.int .u8 0, .int .i64 0, .int .i64 0, .int .i64 0, .int .i64 0, .int .u8 0] 31)).heap[wr.heap.size]? = some (.cells #[.int .u8 k, .int .u8 s0, .int .u8 c0, .int .u8 v] 55 (0, 0))) := (hK wr.heap.size (by omega)).trans H4_2.out
        have H5_3 : Hid ((X4.alloc (.cells #[.int .u8 0, .int .i64 0, .int .i64 0, .int .i64 0, .int .i64 0, .int .u8 0] 31)).heap[(wr.heap.size + 1)]? = some (.cells #[.int .u8 5, .int .i64 s, .int .i64 c, .int .i64 0, .int .i64 0, .int .u8 0] 31 (0, 0))) := (hK (wr.heap.size + 1) (by omega)).trans H4_3.out
        have H5_4 : Hid ((X4.alloc (.cells #[.int .u8 0, .int .i64 0, .int .i64 0, .int .i64 0, .int .i64 0, .int .u8 0] 31)).heap[X4.heap.size]? = some (.cells #[.int .u8 0, .int .i64 0, .int .i64 0, .int .i64 0, .int .i64 0, .int .u8 0] 31 (0, 0))) := alloc_at (by omega)
        have HL5 : Hid (LiveO (StoB (U.heap.size + 2) st (2 * j)) U (fun (i : Nat) => i = SB ∨ i = (SB + 1) ∨ i = wr.heap.size ∨ i = (wr.heap.size + 1) ∨ i = X4.heap.size) (X4.alloc (.cells #[.int .u8 0, .int .i64 0, .int .i64 0, .int .i64 0, .int .i64 0, .int .u8 0] 31))) := (HL4.out.alloc (sto_thing (U.heap.size + 2) st (2 * j)) (.cells #[.int .u8 0, .int .i64 0, .int .i64 0, .int .i64 0, .int .i64 0, .int .u8 0] 31)).less (N' := (fun (i : Nat) => i = SB ∨ i = (SB + 1) ∨ i = wr.heap.size ∨ i = (wr.heap.size + 1) ∨ i = X4.heap.size)) (fun i hi => by rcases hi with h0 | h1 | h2 | h3 | h4; exact .inl (.inl h0); exact .inl (.inr (.inl h1)); exact .inl (.inr (.inr (.inl h2))); exact .inl (.inr (.inr (.inr h3))); exact .inr (by omega))
        have : SB < (X4.alloc (.cells #[.int .u8 0, .int .i64 0, .int .i64 0, .int .i64 0, .int .i64 0, .int .u8 0] 31)).heap.size := by first | omega | (rw [World.size_alloc]; omega) | (rw [setCell_size]; omega)
        have : (SB + 1) < (X4.alloc (.cells #[.int .u8 0, .int .i64 0, .int .i64 0, .int .i64 0, .int .i64 0, .int .u8 0] 31)).heap.size := by first | omega | (rw [World.size_alloc]; omega) | (rw [setCell_size]; omega)
        have : wr.heap.size < (X4.alloc (.cells #[.int .u8 0, .int .i64 0, .int .i64 0, .int .i64 0, .int .i64 0, .int .u8 0] 31)).heap.size := by first | omega | (rw [World.size_alloc]; omega) | (rw [setCell_size]; omega)
        have : (wr.heap.size + 1) < (X4.alloc (.cells #[.int .u8 0, .int .i64 0, .int .i64 0, .int .i64 0, .int .i64 0, .int .u8 0] 31)).heap.size := by first | omega | (rw [World.size_alloc]; omega) | (rw [setCell_size]; omega)
        have ls5 : U.heap.size ≤ (X4.alloc (.cells #[.int .u8 0, .int .i64 0, .int .i64 0, .int .i64 0, .int .i64 0, .int .u8 0] 31)).heap.size := by first | omega | (rw [World.size_alloc]; omega) | (rw [setCell_size]; omega)
        have lt5 : X4.heap.size ≤ (X4.alloc (.cells #[.int .u8 0, .int .i64 0, .int .i64 0, .int .i64 0, .int .i64 0, .int .u8 0] 31)).heap.size := by first | omega | (rw [World.size_alloc]; omega) | (rw [setCell_size]; omega)
        have : X4.heap.size < (X4.alloc (.cells #[.int .u8 0, .int .i64 0, .int .i64 0, .int .i64 0, .int .i64 0, .int .u8 0] 31)).heap.size := by rw [World.size_alloc]; omega
        have lg5 : (X4.alloc (.cells #[.int .u8 0, .int .i64 0, .int .i64 0, .int .i64 0, .int .i64 0, .int .u8 0] 31)).heap.size ≤ X4.heap.size + 1 ∧ X4.heap.size + 1 ≤ (X4.alloc (.cells #[.int .u8 0, .int .i64 0, .int .i64 0, .int .i64 0, .int .i64 0, .int .u8 0] 31)).heap.size := by rw [World.size_alloc]; omega
        have : SB < X4.heap.size := by omega
        have : (SB + 1) < X4.heap.size := by omega
        have : wr.heap.size < X4.heap.size := by omega
        have : (wr.heap.size + 1) < X4.heap.size := by omega
        clear hK HL4 H4_0 H4_1 H4_2 H4_3 c3_0 c3_1 c3_2 c3_3 c3_4 c3_5
        generalize (X4.alloc (.cells #[.int .u8 0, .int .i64 0, .int .i64 0, .int .i64 0, .int .i64 0, .int .u8 0] 31)) = X5 at *
        go_roundw
        case rel => exact ⟨j + 1, st, by omega, by go_num, HF, (HL5.out.less (fun i hi => by rcases hi with rfl | rfl; exact .inl rfl; exact .inr (.inl rfl))).imp (fun F hF => stoB_mono hF (by omega)), H5_0, H5_1⟩
        case measure => simp [intOf]; omega
      by_cases qq4 : k % 7 = 4
      · have qq := qq4
        rw [qq] at hq2
        go_wp2_with (refine wpList_load_mid rfl _ _ rfl gg (oo + j * 4) rfl [.int .u8 k, .int .u8 s0, .int .u8 c0, .int .u8 v] _ HRG.out Try.underlying55 rfl (by kernel_rfl) ?_)
        have HL1 := HL
        have ls1 : U.heap.size ≤ wr.heap.size := HL1.out.old.size
        have H1_0 := HS
        have H1_1 := HA
        have : SB < wr.heap.size := H1_0.out.lt
        have : (SB + 1) < wr.heap.size := H1_1.out.lt
        have hK : ∀ i, i < wr.heap.size → (wr.alloc (.cells #[.int .u8 k, .int .u8 s0, .int .u8 c0, .int .u8 v] 55)).heap[i]? = wr.heap[i]? := fun i hi => alloc_block_old hi
        have H2_0 : Hid (ArrB (wr.alloc (.cells #[.int .u8 k, .int .u8 s0, .int .u8 c0, .int .u8 v] 55)) SB 51 9 (gSaid st)) := H1_0.out.kept (hK SB (by omega))
        have H2_1 : Hid (ArrB (wr.alloc (.cells #[.int .u8 k, .int .u8 s0, .int .u8 c0, .int .u8 v] 55)) (SB + 1) 53 9 (gAside st)) := H1_1.out.kept (hK (SB + 1) (by omega))
        have H2_2 : Hid ((wr.alloc (.cells #[.int .u8 k, .int .u8 s0, .int .u8 c0, .int .u8 v] 55)).heap[wr.heap.size]? = some (.cells #[.int .u8 k, .int .u8 s0, .int .u8 c0, .int .u8 v] 55 (0, 0))) := alloc_at (by omega)
        have HL2 : Hid (LiveO (StoB (U.heap.size + 2) st (2 * j)) U (fun (i : Nat) => i = SB ∨ i = (SB + 1) ∨ i = wr.heap.size) (wr.alloc (.cells #[.int .u8 k, .int .u8 s0, .int .u8 c0, .int .u8 v] 55))) := (HL1.out.alloc (sto_thing (U.heap.size + 2) st (2 * j)) (.cells #[.int .u8 k, .int .u8 s0, .int .u8 c0, .int .u8 v] 55)).less (N' := (fun (i : Nat) => i = SB ∨ i = (SB + 1) ∨ i = wr.heap.size)) (fun i hi => by rcases hi with h0 | h1 | h2; exact .inl (.inl h0); exact .inl (.inr h1); exact .inr (by omega))
        have : SB < (wr.alloc (.cells #[.int .u8 k, .int .u8 s0, .int .u8 c0, .int .u8 v] 55)).heap.size := by first | omega | (rw [World.size_alloc]; omega) | (rw [setCell_size]; omega)
        have : (SB + 1) < (wr.alloc (.cells #[.int .u8 k, .int .u8 s0, .int .u8 c0, .int .u8 v] 55)).heap.size := by first | omega | (rw [World.size_alloc]; omega) | (rw [setCell_size]; omega)
        have ls2 : U.heap.size ≤ (wr.alloc (.cells #[.int .u8 k, .int .u8 s0, .int .u8 c0, .int .u8 v] 55)).heap.size := by first | omega | (rw [World.size_alloc]; omega) | (rw [setCell_size]; omega)
        have lt2 : wr.heap.size ≤ (wr.alloc (.cells #[.int .u8 k, .int .u8 s0, .int .u8 c0, .int .u8 v] 55)).heap.size := by first | omega | (rw [World.size_alloc]; omega) | (rw [setCell_size]; omega)
        have : wr.heap.size < (wr.alloc (.cells #[.int .u8 k, .int .u8 s0, .int .u8 c0, .int .u8 v] 55)).heap.size := by rw [World.size_alloc]; omega
        have lg2 : (wr.alloc (.cells #[.int .u8 k, .int .u8 s0, .int .u8 c0, .int .u8 v] 55)).heap.size ≤ wr.heap.size + 1 ∧ wr.heap.size + 1 ≤ (wr.alloc (.cells #[.int .u8 k, .int .u8 s0, .int .u8 c0, .int .u8 v] 55)).heap.size := by rw [World.size_alloc]; omega
        have : SB < wr.heap.size := by omega
        have : (SB + 1) < wr.heap.size := by omega
        clear hK HL1 H1_0 H1_1
        generalize (wr.alloc (.cells #[.int .u8 k, .int .u8 s0, .int .u8 c0, .int .u8 v] 55)) = X2 at *
        have hK : ∀ i, i < X2.heap.size → (X2.alloc (.cells #[.int .u8 4, .int .i64 s, .int .i64 c, .int .i64 0, .int .i64 0, .int .u8 0] 31)).heap[i]? = X2.heap[i]? := fun i hi => alloc_block_old hi
        have H3_0 : Hid (ArrB (X2.alloc (.cells #[.int .u8 4, .int .i64 s, .int .i64 c, .int .i64 0, .int .i64 0, .int .u8 0] 31)) SB 51 9 (gSaid st)) := H2_0.out.kept (hK SB (by omega))
        have H3_1 : Hid (ArrB (X2.alloc (.cells #[.int .u8 4, .int .i64 s, .int .i64 c, .int .i64 0, .int .i64 0, .int .u8 0] 31)) (SB + 1) 53 9 (gAside st)) := H2_1.out.kept (hK (SB + 1) (by omega))
        have H3_2 : Hid ((X2.alloc (.cells #[.int .u8 4, .int .i64 s, .int .i64 c, .int .i64 0, .int .i64 0, .int .u8 0] 31)).heap[wr.heap.size]? = some (.cells #[.int .u8 k, .int .u8 s0, .int .u8 c0, .int .u8 v] 55 (0, 0))) := (hK wr.heap.size (by omega)).trans H2_2.out
        have H3_3 : Hid ((X2.alloc (.cells #[.int .u8 4, .int .i64 s, .int .i64 c, .int .i64 0, .int .i64 0, .int .u8 0] 31)).heap[(wr.heap.size + 1)]? = some (.cells #[.int .u8 4, .int .i64 s, .int .i64 c, .int .i64 0, .int .i64 0, .int .u8 0] 31 (0, 0))) := alloc_at (by omega)
        have HL3 : Hid (LiveO (StoB (U.heap.size + 2) st (2 * j)) U (fun (i : Nat) => i = SB ∨ i = (SB + 1) ∨ i = wr.heap.size ∨ i = (wr.heap.size + 1)) (X2.alloc (.cells #[.int .u8 4, .int .i64 s, .int .i64 c, .int .i64 0, .int .i64 0, .int .u8 0] 31))) := (HL2.out.alloc (sto_thing (U.heap.size + 2) st (2 * j)) (.cells #[.int .u8 4, .int .i64 s, .int .i64 c, .int .i64 0, .int .i64 0, .int .u8 0] 31)).less (N' := (fun (i : Nat) => i = SB ∨ i = (SB + 1) ∨ i = wr.heap.size ∨ i = (wr.heap.size + 1))) (fun i hi => by rcases hi with h0 | h1 | h2 | h3; exact .inl (.inl h0); exact .inl (.inr (.inl h1)); exact .inl (.inr (.inr h2)); exact .inr (by omega))
        have : SB < (X2.alloc (.cells #[.int .u8 4, .int .i64 s, .int .i64 c, .int .i64 0, .int .i64 0, .int .u8 0] 31)).heap.size := by first | omega | (rw [World.size_alloc]; omega) | (rw [setCell_size]; omega)
        have : (SB + 1) < (X2.alloc (.cells #[.int .u8 4, .int .i64 s, .int .i64 c, .int .i64 0, .int .i64 0, .int .u8 0] 31)).heap.size := by first | omega | (rw [World.size_alloc]; omega) | (rw [setCell_size]; omega)
        have : wr.heap.size < (X2.alloc (.cells #[.int .u8 4, .int .i64 s, .int .i64 c, .int .i64 0, .int .i64 0, .int .u8 0] 31)).heap.size := by first | omega | (rw [World.size_alloc]; omega) | (rw [setCell_size]; omega)
        have ls3 : U.heap.size ≤ (X2.alloc (.cells #[.int .u8 4, .int .i64 s, .int .i64 c, .int .i64 0, .int .i64 0, .int .u8 0] 31)).heap.size := by first | omega | (rw [World.size_alloc]; omega) | (rw [setCell_size]; omega)
        have lt3 : X2.heap.size ≤ (X2.alloc (.cells #[.int .u8 4, .int .i64 s, .int .i64 c, .int .i64 0, .int .i64 0, .int .u8 0] 31)).heap.size := by first | omega | (rw [World.size_alloc]; omega) | (rw [setCell_size]; omega)
        have : (wr.heap.size + 1) < (X2.alloc (.cells #[.int .u8 4, .int .i64 s, .int .i64 c, .int .i64 0, .int .i64 0, .int .u8 0] 31)).heap.size := by rw [World.size_alloc]; omega
        have lg3 : (X2.alloc (.cells #[.int .u8 4, .int .i64 s, .int .i64 c, .int .i64 0, .int .i64 0, .int .u8 0] 31)).heap.size ≤ X2.heap.size + 1 ∧ X2.heap.size + 1 ≤ (X2.alloc (.cells #[.int .u8 4, .int .i64 s, .int .i64 c, .int .i64 0, .int .i64 0, .int .u8 0] 31)).heap.size := by rw [World.size_alloc]; omega
        have : SB < (wr.heap.size + 1) := by omega
        have : (SB + 1) < (wr.heap.size + 1) := by omega
        have : wr.heap.size < (wr.heap.size + 1) := by omega
        clear hK HL2 H2_0 H2_1 H2_2
        generalize (X2.alloc (.cells #[.int .u8 4, .int .i64 s, .int .i64 c, .int .i64 0, .int .i64 0, .int .u8 0] 31)) = X3 at *
        refine (shear_drop_live HL3.out (fun i hx0 => (hx0.elim (fun (hi : i = SB) => by omega) (fun hx1 => (hx1.elim (fun (hi : i = (SB + 1)) => by omega) (fun hx2 => (hx2.elim (fun (hi : i = wr.heap.size) => by omega) (fun hx3 => ((fun (hi : i = (wr.heap.size + 1)) => by omega) hx3)))))))) hk (by omega)).mono ?_
        rintro e X4 ⟨rfl, hl, hk⟩
        have hsz : X3.heap.size ≤ X4.heap.size := hk.size
        have H4_0 : Hid (ArrB X4 SB 51 9 (gSaid st)) := H3_0.out.kept (hk.block SB (.inl rfl))
        have H4_1 : Hid (ArrB X4 (SB + 1) 53 9 (gAside st)) := H3_1.out.kept (hk.block (SB + 1) (.inr (.inl rfl)))
        have H4_2 : Hid (X4.heap[wr.heap.size]? = some (.cells #[.int .u8 k, .int .u8 s0, .int .u8 c0, .int .u8 v] 55 (0, 0))) := (hk.block wr.heap.size (.inr (.inr (.inl rfl)))).trans H3_2.out
        have H4_3 : Hid (X4.heap[(wr.heap.size + 1)]? = some (.cells #[.int .u8 4, .int .i64 s, .int .i64 c, .int .i64 0, .int .i64 0, .int .u8 0] 31 (0, 0))) := (hk.block (wr.heap.size + 1) (.inr (.inr (.inr rfl)))).trans H3_3.out
        have HL4 := Lib.hid hl
        have : SB < X4.heap.size := by omega
        have : (SB + 1) < X4.heap.size := by omega
        have : wr.heap.size < X4.heap.size := by omega
        have : (wr.heap.size + 1) < X4.heap.size := by omega
        have ls4 : U.heap.size ≤ X4.heap.size := by omega
        clear hl hk hsz HL3 H3_0 H3_1 H3_2 H3_3
        have c3_0 : X4.cell? ⟨(wr.heap.size + 1), 0, none⟩ = some (.int .u8 4) := by rw [cell_of_row _ _ _ _ _ _ H4_3.out]; rfl
        have c3_1 : X4.cell? ⟨(wr.heap.size + 1), 1, none⟩ = some (.int .i64 s) := by rw [cell_of_row _ _ _ _ _ _ H4_3.out]; rfl
        have c3_2 : X4.cell? ⟨(wr.heap.size + 1), 2, none⟩ = some (.int .i64 c) := by rw [cell_of_row _ _ _ _ _ _ H4_3.out]; rfl
        have c3_3 : X4.cell? ⟨(wr.heap.size + 1), 3, none⟩ = some (.int .i64 0) := by rw [cell_of_row _ _ _ _ _ _ H4_3.out]; rfl
        have c3_4 : X4.cell? ⟨(wr.heap.size + 1), 4, none⟩ = some (.int .i64 0) := by rw [cell_of_row _ _ _ _ _ _ H4_3.out]; rfl
        have c3_5 : X4.cell? ⟨(wr.heap.size + 1), 5, none⟩ = some (.int .u8 0) := by rw [cell_of_row _ _ _ _ _ _ H4_3.out]; rfl
        go_wp2
        have hK : ∀ i, i < X4.heap.size → (X4.alloc (.cells #[.int .u8 4, .int .i64 s, .int .i64 c, .int .i64 0, .int .i64 0, .int .u8 1] 31)).heap[i]? = X4.heap[i]? := fun i hi => alloc_block_old hi
        have H5_0 : Hid (ArrB (X4.alloc (.cells #[.int .u8 4, .int .i64 s, .int .i64 c, .int .i64 0, .int .i64 0, .int .u8 1] 31)) SB 51 9 (gSaid st)) := H4_0.out.kept (hK SB (by omega))
        have H5_1 : Hid (ArrB (X4.alloc (.cells #[.int .u8 4, .int .i64 s, .int .i64 c, .int .i64 0, .int .i64 0, .int .u8 1] 31)) (SB + 1) 53 9 (gAside st)) := H4_1.out.kept (hK (SB + 1) (by omega))
        have H5_2 : Hid ((X4.alloc (.cells #[.int .u8 4, .int .i64 s, .int .i64 c, .int .i64 0, .int .i64 0, .int .u8 1] 31)).heap[wr.heap.size]? = some (.cells #[.int .u8 k, .int .u8 s0, .int .u8 c0, .int .u8 v] 55 (0, 0))) := (hK wr.heap.size (by omega)).trans H4_2.out
        have H5_3 : Hid ((X4.alloc (.cells #[.int .u8 4, .int .i64 s, .int .i64 c, .int .i64 0, .int .i64 0, .int .u8 1] 31)).heap[(wr.heap.size + 1)]? = some (.cells #[.int .u8 4, .int .i64 s, .int .i64 c, .int .i64 0, .int .i64 0, .int .u8 0] 31 (0, 0))) := (hK (wr.heap.size + 1) (by omega)).trans H4_3.out
        have H5_4 : Hid ((X4.alloc (.cells #[.int .u8 4, .int .i64 s, .int .i64 c, .int .i64 0, .int .i64 0, .int .u8 1] 31)).heap[X4.heap.size]? = some (.cells #[.int .u8 4, .int .i64 s, .int .i64 c, .int .i64 0, .int .i64 0, .int .u8 1] 31 (0, 0))) := alloc_at (by omega)
        have HL5 : Hid (LiveO (StoB (U.heap.size + 2) (st.drop ((s : Int), (c : Int))) (2 * j + 2)) U (fun (i : Nat) => i = SB ∨ i = (SB + 1) ∨ i = wr.heap.size ∨ i = (wr.heap.size + 1) ∨ i = X4.heap.size) (X4.alloc (.cells #[.int .u8 4, .int .i64 s, .int .i64 c, .int .i64 0, .int .i64 0, .int .u8 1] 31))) := (HL4.out.alloc (sto_thing (U.heap.size + 2) (st.drop ((s : Int), (c : Int))) (2 * j + 2)) (.cells #[.int .u8 4, .int .i64 s, .int .i64 c, .int .i64 0, .int .i64 0, .int .u8 1] 31)).less (N' := (fun (i : Nat) => i = SB ∨ i = (SB + 1) ∨ i = wr.heap.size ∨ i = (wr.heap.size + 1) ∨ i = X4.heap.size)) (fun i hi => by rcases hi with h0 | h1 | h2 | h3 | h4; exact .inl (.inl h0); exact .inl (.inr (.inl h1)); exact .inl (.inr (.inr (.inl h2))); exact .inl (.inr (.inr (.inr h3))); exact .inr (by omega))
        have : SB < (X4.alloc (.cells #[.int .u8 4, .int .i64 s, .int .i64 c, .int .i64 0, .int .i64 0, .int .u8 1] 31)).heap.size := by first | omega | (rw [World.size_alloc]; omega) | (rw [setCell_size]; omega)
        have : (SB + 1) < (X4.alloc (.cells #[.int .u8 4, .int .i64 s, .int .i64 c, .int .i64 0, .int .i64 0, .int .u8 1] 31)).heap.size := by first | omega | (rw [World.size_alloc]; omega) | (rw [setCell_size]; omega)
        have : wr.heap.size < (X4.alloc (.cells #[.int .u8 4, .int .i64 s, .int .i64 c, .int .i64 0, .int .i64 0, .int .u8 1] 31)).heap.size := by first | omega | (rw [World.size_alloc]; omega) | (rw [setCell_size]; omega)
        have : (wr.heap.size + 1) < (X4.alloc (.cells #[.int .u8 4, .int .i64 s, .int .i64 c, .int .i64 0, .int .i64 0, .int .u8 1] 31)).heap.size := by first | omega | (rw [World.size_alloc]; omega) | (rw [setCell_size]; omega)
        have ls5 : U.heap.size ≤ (X4.alloc (.cells #[.int .u8 4, .int .i64 s, .int .i64 c, .int .i64 0, .int .i64 0, .int .u8 1] 31)).heap.size := by first | omega | (rw [World.size_alloc]; omega) | (rw [setCell_size]; omega)
        have lt5 : X4.heap.size ≤ (X4.alloc (.cells #[.int .u8 4, .int .i64 s, .int .i64 c, .int .i64 0, .int .i64 0, .int .u8 1] 31)).heap.size := by first | omega | (rw [World.size_alloc]; omega) | (rw [setCell_size]; omega)
        have : X4.heap.size < (X4.alloc (.cells #[.int .u8 4, .int .i64 s, .int .i64 c, .int .i64 0, .int .i64 0, .int .u8 1] 31)).heap.size := by rw [World.size_alloc]; omega
        have lg5 : (X4.alloc (.cells #[.int .u8 4, .int .i64 s, .int .i64 c, .int .i64 0, .int .i64 0, .int .u8 1] 31)).heap.size ≤ X4.heap.size + 1 ∧ X4.heap.size + 1 ≤ (X4.alloc (.cells #[.int .u8 4, .int .i64 s, .int .i64 c, .int .i64 0, .int .i64 0, .int .u8 1] 31)).heap.size := by rw [World.size_alloc]; omega
        have : SB < X4.heap.size := by omega
        have : (SB + 1) < X4.heap.size := by omega
        have : wr.heap.size < X4.heap.size := by omega
        have : (wr.heap.size + 1) < X4.heap.size := by omega
        clear hK HL4 H4_0 H4_1 H4_2 H4_3 c3_0 c3_1 c3_2 c3_3 c3_4 c3_5
        generalize (X4.alloc (.cells #[.int .u8 4, .int .i64 s, .int .i64 c, .int .i64 0, .int .i64 0, .int .u8 1] 31)) = X5 at *
        have hK : ∀ i, i < X5.heap.size → (X5.alloc (.cells #[.int .u8 4, .int .i64 s, .int .i64 c, .int .i64 0, .int .i64 0, .int .u8 1] 31)).heap[i]? = X5.heap[i]? := fun i hi => alloc_block_old hi
        have H6_0 : Hid (ArrB (X5.alloc (.cells #[.int .u8 4, .int .i64 s, .int .i64 c, .int .i64 0, .int .i64 0, .int .u8 1] 31)) SB 51 9 (gSaid st)) := H5_0.out.kept (hK SB (by omega))
        have H6_1 : Hid (ArrB (X5.alloc (.cells #[.int .u8 4, .int .i64 s, .int .i64 c, .int .i64 0, .int .i64 0, .int .u8 1] 31)) (SB + 1) 53 9 (gAside st)) := H5_1.out.kept (hK (SB + 1) (by omega))
        have H6_2 : Hid ((X5.alloc (.cells #[.int .u8 4, .int .i64 s, .int .i64 c, .int .i64 0, .int .i64 0, .int .u8 1] 31)).heap[wr.heap.size]? = some (.cells #[.int .u8 k, .int .u8 s0, .int .u8 c0, .int .u8 v] 55 (0, 0))) := (hK wr.heap.size (by omega)).trans H5_2.out
        have H6_3 : Hid ((X5.alloc (.cells #[.int .u8 4, .int .i64 s, .int .i64 c, .int .i64 0, .int .i64 0, .int .u8 1] 31)).heap[(wr.heap.size + 1)]? = some (.cells #[.int .u8 4, .int .i64 s, .int .i64 c, .int .i64 0, .int .i64 0, .int .u8 0] 31 (0, 0))) := (hK (wr.heap.size + 1) (by omega)).trans H5_3.out
        have H6_4 : Hid ((X5.alloc (.cells #[.int .u8 4, .int .i64 s, .int .i64 c, .int .i64 0, .int .i64 0, .int .u8 1] 31)).heap[X4.heap.size]? = some (.cells #[.int .u8 4, .int .i64 s, .int .i64 c, .int .i64 0, .int .i64 0, .int .u8 1] 31 (0, 0))) := (hK X4.heap.size (by omega)).trans H5_4.out
        have H6_5 : Hid ((X5.alloc (.cells #[.int .u8 4, .int .i64 s, .int .i64 c, .int .i64 0, .int .i64 0, .int .u8 1] 31)).heap[(X4.heap.size + 1)]? = some (.cells #[.int .u8 4, .int .i64 s, .int .i64 c, .int .i64 0, .int .i64 0, .int .u8 1] 31 (0, 0))) := alloc_at (by omega)
        have HL6 : Hid (LiveO (StoB (U.heap.size + 2) (st.drop ((s : Int), (c : Int))) (2 * j + 2)) U (fun (i : Nat) => i = SB ∨ i = (SB + 1) ∨ i = wr.heap.size ∨ i = (wr.heap.size + 1) ∨ i = X4.heap.size ∨ i = (X4.heap.size + 1)) (X5.alloc (.cells #[.int .u8 4, .int .i64 s, .int .i64 c, .int .i64 0, .int .i64 0, .int .u8 1] 31))) := (HL5.out.alloc (sto_thing (U.heap.size + 2) (st.drop ((s : Int), (c : Int))) (2 * j + 2)) (.cells #[.int .u8 4, .int .i64 s, .int .i64 c, .int .i64 0, .int .i64 0, .int .u8 1] 31)).less (N' := (fun (i : Nat) => i = SB ∨ i = (SB + 1) ∨ i = wr.heap.size ∨ i = (wr.heap.size + 1) ∨ i = X4.heap.size ∨ i = (X4.heap.size + 1))) (fun i hi => by rcases hi with h0 | h1 | h2 | h3 | h4 | h5; exact .inl (.inl h0); exact .inl (.inr (.inl h1)); exact .inl (.inr (.inr (.inl h2))); exact .inl (.inr (.inr (.inr (.inl h3)))); exact .inl (.inr (.inr (.inr (.inr h4)))); exact .inr (by omega))
        have : SB < (X5.alloc (.cells #[.int .u8 4, .int .i64 s, .int .i64 c, .int .i64 0, .int .i64 0, .int .u8 1] 31)).heap.size := by first | omega | (rw [World.size_alloc]; omega) | (rw [setCell_size]; omega)
        have : (SB + 1) < (X5.alloc (.cells #[.int .u8 4, .int .i64 s, .int .i64 c, .int .i64 0, .int .i64 0, .int .u8 1] 31)).heap.size := by first | omega | (rw [World.size_alloc]; omega) | (rw [setCell_size]; omega)
        have : wr.heap.size < (X5.alloc (.cells #[.int .u8 4, .int .i64 s, .int .i64 c, .int .i64 0, .int .i64 0, .int .u8 1] 31)).heap.size := by first | omega | (rw [World.size_alloc]; omega) | (rw [setCell_size]; omega)
        have : (wr.heap.size + 1) < (X5.alloc (.cells #[.int .u8 4, .int .i64 s, .int .i64 c, .int .i64 0, .int .i64 0, .int .u8 1] 31)).heap.size := by first | omega | (rw [World.size_alloc]; omega) | (rw [setCell_size]; omega)
        have : X4.heap.size < (X5.alloc (.cells #[.int .u8 4, .int .i64 s, .int .i64 c, .int .i64 0, .int .i64 0, .int .u8 1] 31)).heap.size := by first | omega | (rw [World.size_alloc]; omega) | (rw [setCell_size]; omega)
        have ls6 : U.heap.size ≤ (X5.alloc (.cells #[.int .u8 4, .int .i64 s, .int .i64 c, .int .i64 0, .int .i64 0, .int .u8 1] 31)).heap.size := by first | omega | (rw [World.size_alloc]; omega) | (rw [setCell_size]; omega)
        have lt6 : X5.heap.size ≤ (X5.alloc (.cells #[.int .u8 4, .int .i64 s, .int .i64 c, .int .i64 0, .int .i64 0, .int .u8 1] 31)).heap.size := by first | omega | (rw [World.size_alloc]; omega) | (rw [setCell_size]; omega)
        have : (X4.heap.size + 1) < (X5.alloc (.cells #[.int .u8 4, .int .i64 s, .int .i64 c, .int .i64 0, .int .i64 0, .int .u8 1] 31)).heap.size := by rw [World.size_alloc]; omega
        have lg6 : (X5.alloc (.cells #[.int .u8 4, .int .i64 s, .int .i64 c, .int .i64 0, .int .i64 0, .int .u8 1] 31)).heap.size ≤ X5.heap.size + 1 ∧ X5.heap.size + 1 ≤ (X5.alloc (.cells #[.int .u8 4, .int .i64 s, .int .i64 c, .int .i64 0, .int .i64 0, .int .u8 1] 31)).heap.size := by rw [World.size_alloc]; omega
        have : SB < (X4.heap.size + 1) := by omega
        have : (SB + 1) < (X4.heap.size + 1) := by omega
        have : wr.heap.size < (X4.heap.size + 1) := by omega
        have : (wr.heap.size + 1) < (X4.heap.size + 1) := by omega
        have : X4.heap.size < (X4.heap.size + 1) := by omega
        clear hK HL5 H5_0 H5_1 H5_2 H5_3 H5_4
        generalize (X5.alloc (.cells #[.int .u8 4, .int .i64 s, .int .i64 c, .int .i64 0, .int .i64 0, .int .u8 1] 31)) = X6 at *
        have HS0 : Hid ((fun w' : World => w'.cell? ⟨(wr.heap.size + 1), 1, none⟩ = some (.int .i64 s) ∧ w'.cell? ⟨(wr.heap.size + 1), 2, none⟩ = some (.int .i64 c)) X6.drew) := ⟨by rw [cell_of_row _ _ _ _ _ _ (show X6.drew.heap[_]? = _ from H6_3.out)]; rfl, by rw [cell_of_row _ _ _ _ _ _ (show X6.drew.heap[_]? = _ from H6_3.out)]; rfl⟩
        refine lane_start (ord := [0, 1, 2, 3, 4, 5, 6]) (S := (fun w' : World => w'.cell? ⟨(wr.heap.size + 1), 1, none⟩ = some (.int .i64 s) ∧ w'.cell? ⟨(wr.heap.size + 1), 2, none⟩ = some (.int .i64 c))) rfl (by kernel_rfl) (by exact HS0.out) (fun _ => ?_)
        iterate 6 (refine lane_take (v := ?_) rfl (by kernel_rfl) (by kernel_rfl) (by rfl) ?_ (by exact HS0.out) ?_; rotate_left; (focus (intro w9 hSw; obtain ⟨x0, x1⟩ := hSw; (try go_simp); try (with_reducible rfl))); simp only [Act.put, List.setIfInBounds_toArray, List.set_cons_zero, List.set_cons_succ])
        refine lane_alone rfl (by kernel_rfl) (by rfl) (fun KK hKK => ?_)
        have hA9 : ArrB X6.drew (SB + 1) 53 9 (gAside st) := H6_1.out
        refine wp_of_skip (exec_store_one rfl (by rfl) rfl (by kernel_rfl) rfl (hA9.cell (i := s * 3 + c) (by omega)) (hA9.frozen _)) ?_
        have hS9 : (fun w' : World => w'.cell? ⟨(wr.heap.size + 1), 1, none⟩ = some (.int .i64 s) ∧ w'.cell? ⟨(wr.heap.size + 1), 2, none⟩ = some (.int .i64 c)) (X6.drew.setCell ⟨(SB + 1), s * 3 + c, none⟩ (.bool false)) := ⟨by rw [cell_of_row _ _ _ _ _ _ (show (X6.drew.setCell ⟨(SB + 1), s * 3 + c, none⟩ (.bool false)).heap[_]? = _ from (setCell_other (by omega)).trans H6_3.out)]; rfl, by rw [cell_of_row _ _ _ _ _ _ (show (X6.drew.setCell ⟨(SB + 1), s * 3 + c, none⟩ (.bool false)).heap[_]? = _ from (setCell_other (by omega)).trans H6_3.out)]; rfl⟩
        refine hKK _ _ (by exact hS9) (fun _ => ?_)
        clear hKK KK hA9 HS0 hS9
        refine lane_end (by kernel_rfl) ?_
        change Exit.then _ _ Exit.normal _ (X6.drew.setCell ⟨(SB + 1), s * 3 + c, none⟩ (.bool false))
        have hK : ∀ i, i < X6.heap.size → X6.drew.heap[i]? = X6.heap[i]? := fun i hi => rfl
        have H7_0 : Hid (ArrB X6.drew SB 51 9 (gSaid st)) := H6_0.out.kept (hK SB (by omega))
        have H7_1 : Hid (ArrB X6.drew (SB + 1) 53 9 (gAside st)) := H6_1.out.kept (hK (SB + 1) (by omega))
        have H7_2 : Hid (X6.drew.heap[wr.heap.size]? = some (.cells #[.int .u8 k, .int .u8 s0, .int .u8 c0, .int .u8 v] 55 (0, 0))) := (hK wr.heap.size (by omega)).trans H6_2.out
        have H7_3 : Hid (X6.drew.heap[(wr.heap.size + 1)]? = some (.cells #[.int .u8 4, .int .i64 s, .int .i64 c, .int .i64 0, .int .i64 0, .int .u8 0] 31 (0, 0))) := (hK (wr.heap.size + 1) (by omega)).trans H6_3.out
        have H7_4 : Hid (X6.drew.heap[X4.heap.size]? = some (.cells #[.int .u8 4, .int .i64 s, .int .i64 c, .int .i64 0, .int .i64 0, .int .u8 1] 31 (0, 0))) := (hK X4.heap.size (by omega)).trans H6_4.out
        have H7_5 : Hid (X6.drew.heap[(X4.heap.size + 1)]? = some (.cells #[.int .u8 4, .int .i64 s, .int .i64 c, .int .i64 0, .int .i64 0, .int .u8 1] 31 (0, 0))) := (hK (X4.heap.size + 1) (by omega)).trans H6_5.out
        have HL7 : Hid (LiveO (StoB (U.heap.size + 2) (st.drop ((s : Int), (c : Int))) (2 * j + 2)) U (fun (i : Nat) => i = SB ∨ i = (SB + 1) ∨ i = wr.heap.size ∨ i = (wr.heap.size + 1) ∨ i = X4.heap.size ∨ i = (X4.heap.size + 1)) X6.drew) := HL6.out.drew (sto_thing (U.heap.size + 2) (st.drop ((s : Int), (c : Int))) (2 * j + 2))
        have : SB < X6.drew.heap.size := by show _ < X6.heap.size; first | omega | (rw [World.size_alloc]; omega) | (rw [setCell_size]; omega)
        have : (SB + 1) < X6.drew.heap.size := by show _ < X6.heap.size; first | omega | (rw [World.size_alloc]; omega) | (rw [setCell_size]; omega)
        have : wr.heap.size < X6.drew.heap.size := by show _ < X6.heap.size; first | omega | (rw [World.size_alloc]; omega) | (rw [setCell_size]; omega)
        have : (wr.heap.size + 1) < X6.drew.heap.size := by show _ < X6.heap.size; first | omega | (rw [World.size_alloc]; omega) | (rw [setCell_size]; omega)
        have : X4.heap.size < X6.drew.heap.size := by show _ < X6.heap.size; first | omega | (rw [World.size_alloc]; omega) | (rw [setCell_size]; omega)
        have : (X4.heap.size + 1) < X6.drew.heap.size := by show _ < X6.heap.size; first | omega | (rw [World.size_alloc]; omega) | (rw [setCell_size]; omega)
        have ls7 : U.heap.size ≤ X6.drew.heap.size := by show _ ≤ X6.heap.size; first | omega | (rw [World.size_alloc]; omega) | (rw [setCell_size]; omega)
        have lt7 : X6.heap.size ≤ X6.drew.heap.size := by show _ ≤ X6.heap.size; first | omega | (rw [World.size_alloc]; omega) | (rw [setCell_size]; omega)
        clear hK HL6 H6_0 H6_1 H6_2 H6_3 H6_4 H6_5
        generalize X6.drew = X7 at *
        have hK : ∀ i, i < X7.heap.size → i ≠ (SB + 1) → (X7.setCell ⟨(SB + 1), s * 3 + c, none⟩ (.bool false)).heap[i]? = X7.heap[i]? := fun i _ hi => setCell_other hi
        have H8_0 : Hid (ArrB (X7.setCell ⟨(SB + 1), s * 3 + c, none⟩ (.bool false)) SB 51 9 (gSaid st)) := H7_0.out.kept (hK SB (by omega) (by omega))
        have H8_1 : Hid (ArrB (X7.setCell ⟨(SB + 1), s * 3 + c, none⟩ (.bool false)) (SB + 1) 53 9 (gAside (st.drop ((s : Int), (c : Int))))) := (H7_1.out.set (s * 3 + c) _).congr (fun i _ => aside_drop c3 i)
        have H8_2 : Hid ((X7.setCell ⟨(SB + 1), s * 3 + c, none⟩ (.bool false)).heap[wr.heap.size]? = some (.cells #[.int .u8 k, .int .u8 s0, .int .u8 c0, .int .u8 v] 55 (0, 0))) := (hK wr.heap.size (by omega) (by omega)).trans H7_2.out
        have H8_3 : Hid ((X7.setCell ⟨(SB + 1), s * 3 + c, none⟩ (.bool false)).heap[(wr.heap.size + 1)]? = some (.cells #[.int .u8 4, .int .i64 s, .int .i64 c, .int .i64 0, .int .i64 0, .int .u8 0] 31 (0, 0))) := (hK (wr.heap.size + 1) (by omega) (by omega)).trans H7_3.out
        have H8_4 : Hid ((X7.setCell ⟨(SB + 1), s * 3 + c, none⟩ (.bool false)).heap[X4.heap.size]? = some (.cells #[.int .u8 4, .int .i64 s, .int .i64 c, .int .i64 0, .int .i64 0, .int .u8 1] 31 (0, 0))) := (hK X4.heap.size (by omega) (by omega)).trans H7_4.out
        have H8_5 : Hid ((X7.setCell ⟨(SB + 1), s * 3 + c, none⟩ (.bool false)).heap[(X4.heap.size + 1)]? = some (.cells #[.int .u8 4, .int .i64 s, .int .i64 c, .int .i64 0, .int .i64 0, .int .u8 1] 31 (0, 0))) := (hK (X4.heap.size + 1) (by omega) (by omega)).trans H7_5.out
        have HL8 : Hid (LiveO (StoB (U.heap.size + 2) (st.drop ((s : Int), (c : Int))) (2 * j + 2)) U (fun (i : Nat) => i = SB ∨ i = (SB + 1) ∨ i = wr.heap.size ∨ i = (wr.heap.size + 1) ∨ i = X4.heap.size ∨ i = (X4.heap.size + 1)) (X7.setCell ⟨(SB + 1), s * 3 + c, none⟩ (.bool false))) := HL7.out.setCell (sto_thing (U.heap.size + 2) (st.drop ((s : Int), (c : Int))) (2 * j + 2)) (p := ⟨(SB + 1), s * 3 + c, none⟩) (.inr (.inl rfl)) (by show U.heap.size ≤ (SB + 1); omega)
        have : SB < (X7.setCell ⟨(SB + 1), s * 3 + c, none⟩ (.bool false)).heap.size := by first | omega | (rw [World.size_alloc]; omega) | (rw [setCell_size]; omega)
        have : (SB + 1) < (X7.setCell ⟨(SB + 1), s * 3 + c, none⟩ (.bool false)).heap.size := by first | omega | (rw [World.size_alloc]; omega) | (rw [setCell_size]; omega)
        have : wr.heap.size < (X7.setCell ⟨(SB + 1), s * 3 + c, none⟩ (.bool false)).heap.size := by first | omega | (rw [World.size_alloc]; omega) | (rw [setCell_size]; omega)
        have : (wr.heap.size + 1) < (X7.setCell ⟨(SB + 1), s * 3 + c, none⟩ (.bool false)).heap.size := by first | omega | (rw [World.size_alloc]; omega) | (rw [setCell_size]; omega)
        have : X4.heap.size < (X7.setCell ⟨(SB + 1), s * 3 + c, none⟩ (.bool false)).heap.size := by first | omega | (rw [World.size_alloc]; omega) | (rw [setCell_size]; omega)
        have : (X4.heap.size + 1) < (X7.setCell ⟨(SB + 1), s * 3 + c, none⟩ (.bool false)).heap.size := by first | omega | (rw [World.size_alloc]; omega) | (rw [setCell_size]; omega)
        have ls8 : U.heap.size ≤ (X7.setCell ⟨(SB + 1), s * 3 + c, none⟩ (.bool false)).heap.size := by first | omega | (rw [World.size_alloc]; omega) | (rw [setCell_size]; omega)
        have lt8 : X7.heap.size ≤ (X7.setCell ⟨(SB + 1), s * 3 + c, none⟩ (.bool false)).heap.size := by first | omega | (rw [World.size_alloc]; omega) | (rw [setCell_size]; omega)
        clear hK HL7 H7_0 H7_1 H7_2 H7_3 H7_4 H7_5
        generalize (X7.setCell ⟨(SB + 1), s * 3 + c, none⟩ (.bool false)) = X8 at *
        have c3_0 : X8.cell? ⟨(wr.heap.size + 1), 0, none⟩ = some (.int .u8 4) := by rw [cell_of_row _ _ _ _ _ _ H8_3.out]; rfl
        have c3_1 : X8.cell? ⟨(wr.heap.size + 1), 1, none⟩ = some (.int .i64 s) := by rw [cell_of_row _ _ _ _ _ _ H8_3.out]; rfl
        have c3_2 : X8.cell? ⟨(wr.heap.size + 1), 2, none⟩ = some (.int .i64 c) := by rw [cell_of_row _ _ _ _ _ _ H8_3.out]; rfl
        have c3_3 : X8.cell? ⟨(wr.heap.size + 1), 3, none⟩ = some (.int .i64 0) := by rw [cell_of_row _ _ _ _ _ _ H8_3.out]; rfl
        have c3_4 : X8.cell? ⟨(wr.heap.size + 1), 4, none⟩ = some (.int .i64 0) := by rw [cell_of_row _ _ _ _ _ _ H8_3.out]; rfl
        have c3_5 : X8.cell? ⟨(wr.heap.size + 1), 5, none⟩ = some (.int .u8 0) := by rw [cell_of_row _ _ _ _ _ _ H8_3.out]; rfl
        cases hsd : st.said ((s : Int), (c : Int)) with
        | none =>
          have z0 : X8.cell? ⟨SB, s * 3 + c, none⟩ = some (.int .u8 0) := by rw [H8_0.out.cell (by omega), gSaid_at c3, hsd]; rfl
          go_wp2_with (fail)
          go_quiet (fail)
          have HSD := Lib.hid hsd
          have hK : ∀ i, i < X8.heap.size → (X8.drewN nq).heap[i]? = X8.heap[i]? := fun i hi => rfl
          have H9_0 : Hid (ArrB (X8.drewN nq) SB 51 9 (gSaid st)) := H8_0.out.kept (hK SB (by omega))
          have H9_1 : Hid (ArrB (X8.drewN nq) (SB + 1) 53 9 (gAside (st.drop ((s : Int), (c : Int))))) := H8_1.out.kept (hK (SB + 1) (by omega))
          have H9_2 : Hid ((X8.drewN nq).heap[wr.heap.size]? = some (.cells #[.int .u8 k, .int .u8 s0, .int .u8 c0, .int .u8 v] 55 (0, 0))) := (hK wr.heap.size (by omega)).trans H8_2.out
          have H9_3 : Hid ((X8.drewN nq).heap[(wr.heap.size + 1)]? = some (.cells #[.int .u8 4, .int .i64 s, .int .i64 c, .int .i64 0, .int .i64 0, .int .u8 0] 31 (0, 0))) := (hK (wr.heap.size + 1) (by omega)).trans H8_3.out
          have H9_4 : Hid ((X8.drewN nq).heap[X4.heap.size]? = some (.cells #[.int .u8 4, .int .i64 s, .int .i64 c, .int .i64 0, .int .i64 0, .int .u8 1] 31 (0, 0))) := (hK X4.heap.size (by omega)).trans H8_4.out
          have H9_5 : Hid ((X8.drewN nq).heap[(X4.heap.size + 1)]? = some (.cells #[.int .u8 4, .int .i64 s, .int .i64 c, .int .i64 0, .int .i64 0, .int .u8 1] 31 (0, 0))) := (hK (X4.heap.size + 1) (by omega)).trans H8_5.out
          have HL9 : Hid (LiveO (StoB (U.heap.size + 2) (st.drop ((s : Int), (c : Int))) (2 * j + 2)) U (fun (i : Nat) => i = SB ∨ i = (SB + 1) ∨ i = wr.heap.size ∨ i = (wr.heap.size + 1) ∨ i = X4.heap.size ∨ i = (X4.heap.size + 1)) (X8.drewN nq)) := HL8.out.below (sto_thing (U.heap.size + 2) (st.drop ((s : Int), (c : Int))) (2 * j + 2)) (Below.drewN' (Below.refl _ _) _)
          have : SB < (X8.drewN nq).heap.size := by show _ < X8.heap.size; first | omega | (rw [World.size_alloc]; omega) | (rw [setCell_size]; omega)
          have : (SB + 1) < (X8.drewN nq).heap.size := by show _ < X8.heap.size; first | omega | (rw [World.size_alloc]; omega) | (rw [setCell_size]; omega)
          have : wr.heap.size < (X8.drewN nq).heap.size := by show _ < X8.heap.size; first | omega | (rw [World.size_alloc]; omega) | (rw [setCell_size]; omega)
          have : (wr.heap.size + 1) < (X8.drewN nq).heap.size := by show _ < X8.heap.size; first | omega | (rw [World.size_alloc]; omega) | (rw [setCell_size]; omega)
          have : X4.heap.size < (X8.drewN nq).heap.size := by show _ < X8.heap.size; first | omega | (rw [World.size_alloc]; omega) | (rw [setCell_size]; omega)
          have : (X4.heap.size + 1) < (X8.drewN nq).heap.size := by show _ < X8.heap.size; first | omega | (rw [World.size_alloc]; omega) | (rw [setCell_size]; omega)
          have ls9 : U.heap.size ≤ (X8.drewN nq).heap.size := by show _ ≤ X8.heap.size; first | omega | (rw [World.size_alloc]; omega) | (rw [setCell_size]; omega)
          have lt9 : X8.heap.size ≤ (X8.drewN nq).heap.size := by show _ ≤ X8.heap.size; first | omega | (rw [World.size_alloc]; omega) | (rw [setCell_size]; omega)
          clear hK HL8 H8_0 H8_1 H8_2 H8_3 H8_4 H8_5 c3_0 c3_1 c3_2 c3_3 c3_4 c3_5 z0
          generalize (X8.drewN nq) = X9 at *
          go_wp2_with (fail)
          have HS0 : Hid ((fun w' : World => w'.cell? ⟨(wr.heap.size + 1), 1, none⟩ = some (.int .i64 s) ∧ w'.cell? ⟨(wr.heap.size + 1), 2, none⟩ = some (.int .i64 c)) X9.drew) := ⟨by rw [cell_of_row _ _ _ _ _ _ (show X9.drew.heap[_]? = _ from H9_3.out)]; rfl, by rw [cell_of_row _ _ _ _ _ _ (show X9.drew.heap[_]? = _ from H9_3.out)]; rfl⟩
          refine lane_start (ord := [0, 1, 2, 3, 4, 5, 6]) (S := (fun w' : World => w'.cell? ⟨(wr.heap.size + 1), 1, none⟩ = some (.int .i64 s) ∧ w'.cell? ⟨(wr.heap.size + 1), 2, none⟩ = some (.int .i64 c))) rfl (by kernel_rfl) (by exact HS0.out) (fun _ => ?_)
          iterate 6 (refine lane_take (v := ?_) rfl (by kernel_rfl) (by kernel_rfl) (by rfl) ?_ (by exact HS0.out) ?_; rotate_left; (focus (intro w9 hSw; obtain ⟨x0, x1⟩ := hSw; (try go_simp); try (with_reducible rfl))); simp only [Act.put, List.setIfInBounds_toArray, List.set_cons_zero, List.set_cons_succ])
          refine lane_alone rfl (by kernel_rfl) (by rfl) (fun KK hKK => ?_)
          have hA9 : ArrB X9.drew SB 51 9 (gSaid st) := H9_0.out
          refine wp_of_skip (exec_store_one rfl (by rfl) rfl (by kernel_rfl) rfl (hA9.cell (i := s * 3 + c) (by omega)) (hA9.frozen _)) ?_
          have hS9 : (fun w' : World => w'.cell? ⟨(wr.heap.size + 1), 1, none⟩ = some (.int .i64 s) ∧ w'.cell? ⟨(wr.heap.size + 1), 2, none⟩ = some (.int .i64 c)) (X9.drew.setCell ⟨SB, s * 3 + c, none⟩ (.int .u8 3)) := ⟨by rw [cell_of_row _ _ _ _ _ _ (show (X9.drew.setCell ⟨SB, s * 3 + c, none⟩ (.int .u8 3)).heap[_]? = _ from (setCell_other (by omega)).trans H9_3.out)]; rfl, by rw [cell_of_row _ _ _ _ _ _ (show (X9.drew.setCell ⟨SB, s * 3 + c, none⟩ (.int .u8 3)).heap[_]? = _ from (setCell_other (by omega)).trans H9_3.out)]; rfl⟩
          refine hKK _ _ (by exact hS9) (fun _ => ?_)
          clear hKK KK hA9 HS0 hS9
          refine lane_end (by kernel_rfl) ?_
          change Exit.then _ _ Exit.normal _ (X9.drew.setCell ⟨SB, s * 3 + c, none⟩ (.int .u8 3))
          have hK : ∀ i, i < X9.heap.size → X9.drew.heap[i]? = X9.heap[i]? := fun i hi => rfl
          have H10_0 : Hid (ArrB X9.drew SB 51 9 (gSaid st)) := H9_0.out.kept (hK SB (by omega))
          have H10_1 : Hid (ArrB X9.drew (SB + 1) 53 9 (gAside (st.drop ((s : Int), (c : Int))))) := H9_1.out.kept (hK (SB + 1) (by omega))
          have H10_2 : Hid (X9.drew.heap[wr.heap.size]? = some (.cells #[.int .u8 k, .int .u8 s0, .int .u8 c0, .int .u8 v] 55 (0, 0))) := (hK wr.heap.size (by omega)).trans H9_2.out
          have H10_3 : Hid (X9.drew.heap[(wr.heap.size + 1)]? = some (.cells #[.int .u8 4, .int .i64 s, .int .i64 c, .int .i64 0, .int .i64 0, .int .u8 0] 31 (0, 0))) := (hK (wr.heap.size + 1) (by omega)).trans H9_3.out
          have H10_4 : Hid (X9.drew.heap[X4.heap.size]? = some (.cells #[.int .u8 4, .int .i64 s, .int .i64 c, .int .i64 0, .int .i64 0, .int .u8 1] 31 (0, 0))) := (hK X4.heap.size (by omega)).trans H9_4.out
          have H10_5 : Hid (X9.drew.heap[(X4.heap.size + 1)]? = some (.cells #[.int .u8 4, .int .i64 s, .int .i64 c, .int .i64 0, .int .i64 0, .int .u8 1] 31 (0, 0))) := (hK (X4.heap.size + 1) (by omega)).trans H9_5.out
          have HL10 : Hid (LiveO (StoB (U.heap.size + 2) (st.drop ((s : Int), (c : Int))) (2 * j + 2)) U (fun (i : Nat) => i = SB ∨ i = (SB + 1) ∨ i = wr.heap.size ∨ i = (wr.heap.size + 1) ∨ i = X4.heap.size ∨ i = (X4.heap.size + 1)) X9.drew) := HL9.out.drew (sto_thing (U.heap.size + 2) (st.drop ((s : Int), (c : Int))) (2 * j + 2))
          have : SB < X9.drew.heap.size := by show _ < X9.heap.size; first | omega | (rw [World.size_alloc]; omega) | (rw [setCell_size]; omega)
          have : (SB + 1) < X9.drew.heap.size := by show _ < X9.heap.size; first | omega | (rw [World.size_alloc]; omega) | (rw [setCell_size]; omega)
          have : wr.heap.size < X9.drew.heap.size := by show _ < X9.heap.size; first | omega | (rw [World.size_alloc]; omega) | (rw [setCell_size]; omega)
          have : (wr.heap.size + 1) < X9.drew.heap.size := by show _ < X9.heap.size; first | omega | (rw [World.size_alloc]; omega) | (rw [setCell_size]; omega)
          have : X4.heap.size < X9.drew.heap.size := by show _ < X9.heap.size; first | omega | (rw [World.size_alloc]; omega) | (rw [setCell_size]; omega)
          have : (X4.heap.size + 1) < X9.drew.heap.size := by show _ < X9.heap.size; first | omega | (rw [World.size_alloc]; omega) | (rw [setCell_size]; omega)
          have ls10 : U.heap.size ≤ X9.drew.heap.size := by show _ ≤ X9.heap.size; first | omega | (rw [World.size_alloc]; omega) | (rw [setCell_size]; omega)
          have lt10 : X9.heap.size ≤ X9.drew.heap.size := by show _ ≤ X9.heap.size; first | omega | (rw [World.size_alloc]; omega) | (rw [setCell_size]; omega)
          clear hK HL9 H9_0 H9_1 H9_2 H9_3 H9_4 H9_5
          generalize X9.drew = X10 at *
          have hK : ∀ i, i < X10.heap.size → i ≠ SB → (X10.setCell ⟨SB, s * 3 + c, none⟩ (.int .u8 3)).heap[i]? = X10.heap[i]? := fun i _ hi => setCell_other hi
          have H11_0 : Hid (ArrB (X10.setCell ⟨SB, s * 3 + c, none⟩ (.int .u8 3)) SB 51 9 (gSaid (st.drop ((s : Int), (c : Int))))) := (H10_0.out.set (s * 3 + c) _).congr (fun i _ => said_drop c3 HSD.out i)
          have H11_1 : Hid (ArrB (X10.setCell ⟨SB, s * 3 + c, none⟩ (.int .u8 3)) (SB + 1) 53 9 (gAside (st.drop ((s : Int), (c : Int))))) := H10_1.out.kept (hK (SB + 1) (by omega) (by omega))
          have H11_2 : Hid ((X10.setCell ⟨SB, s * 3 + c, none⟩ (.int .u8 3)).heap[wr.heap.size]? = some (.cells #[.int .u8 k, .int .u8 s0, .int .u8 c0, .int .u8 v] 55 (0, 0))) := (hK wr.heap.size (by omega) (by omega)).trans H10_2.out
          have H11_3 : Hid ((X10.setCell ⟨SB, s * 3 + c, none⟩ (.int .u8 3)).heap[(wr.heap.size + 1)]? = some (.cells #[.int .u8 4, .int .i64 s, .int .i64 c, .int .i64 0, .int .i64 0, .int .u8 0] 31 (0, 0))) := (hK (wr.heap.size + 1) (by omega) (by omega)).trans H10_3.out
          have H11_4 : Hid ((X10.setCell ⟨SB, s * 3 + c, none⟩ (.int .u8 3)).heap[X4.heap.size]? = some (.cells #[.int .u8 4, .int .i64 s, .int .i64 c, .int .i64 0, .int .i64 0, .int .u8 1] 31 (0, 0))) := (hK X4.heap.size (by omega) (by omega)).trans H10_4.out
          have H11_5 : Hid ((X10.setCell ⟨SB, s * 3 + c, none⟩ (.int .u8 3)).heap[(X4.heap.size + 1)]? = some (.cells #[.int .u8 4, .int .i64 s, .int .i64 c, .int .i64 0, .int .i64 0, .int .u8 1] 31 (0, 0))) := (hK (X4.heap.size + 1) (by omega) (by omega)).trans H10_5.out
          have HL11 : Hid (LiveO (StoB (U.heap.size + 2) (st.drop ((s : Int), (c : Int))) (2 * j + 2)) U (fun (i : Nat) => i = SB ∨ i = (SB + 1) ∨ i = wr.heap.size ∨ i = (wr.heap.size + 1) ∨ i = X4.heap.size ∨ i = (X4.heap.size + 1)) (X10.setCell ⟨SB, s * 3 + c, none⟩ (.int .u8 3))) := HL10.out.setCell (sto_thing (U.heap.size + 2) (st.drop ((s : Int), (c : Int))) (2 * j + 2)) (p := ⟨SB, s * 3 + c, none⟩) (.inl rfl) (by show U.heap.size ≤ SB; omega)
          have : SB < (X10.setCell ⟨SB, s * 3 + c, none⟩ (.int .u8 3)).heap.size := by first | omega | (rw [World.size_alloc]; omega) | (rw [setCell_size]; omega)
          have : (SB + 1) < (X10.setCell ⟨SB, s * 3 + c, none⟩ (.int .u8 3)).heap.size := by first | omega | (rw [World.size_alloc]; omega) | (rw [setCell_size]; omega)
          have : wr.heap.size < (X10.setCell ⟨SB, s * 3 + c, none⟩ (.int .u8 3)).heap.size := by first | omega | (rw [World.size_alloc]; omega) | (rw [setCell_size]; omega)
          have : (wr.heap.size + 1) < (X10.setCell ⟨SB, s * 3 + c, none⟩ (.int .u8 3)).heap.size := by first | omega | (rw [World.size_alloc]; omega) | (rw [setCell_size]; omega)
          have : X4.heap.size < (X10.setCell ⟨SB, s * 3 + c, none⟩ (.int .u8 3)).heap.size := by first | omega | (rw [World.size_alloc]; omega) | (rw [setCell_size]; omega)
          have : (X4.heap.size + 1) < (X10.setCell ⟨SB, s * 3 + c, none⟩ (.int .u8 3)).heap.size := by first | omega | (rw [World.size_alloc]; omega) | (rw [setCell_size]; omega)
          have ls11 : U.heap.size ≤ (X10.setCell ⟨SB, s * 3 + c, none⟩ (.int .u8 3)).heap.size := by first | omega | (rw [World.size_alloc]; omega) | (rw [setCell_size]; omega)
          have lt11 : X10.heap.size ≤ (X10.setCell ⟨SB, s * 3 + c, none⟩ (.int .u8 3)).heap.size := by first | omega | (rw [World.size_alloc]; omega) | (rw [setCell_size]; omega)
          clear hK HL10 H10_0 H10_1 H10_2 H10_3 H10_4 H10_5
          generalize (X10.setCell ⟨SB, s * 3 + c, none⟩ (.int .u8 3)) = X11 at *
          have c3_0 : X11.cell? ⟨(wr.heap.size + 1), 0, none⟩ = some (.int .u8 4) := by rw [cell_of_row _ _ _ _ _ _ H11_3.out]; rfl
          have c3_1 : X11.cell? ⟨(wr.heap.size + 1), 1, none⟩ = some (.int .i64 s) := by rw [cell_of_row _ _ _ _ _ _ H11_3.out]; rfl
          have c3_2 : X11.cell? ⟨(wr.heap.size + 1), 2, none⟩ = some (.int .i64 c) := by rw [cell_of_row _ _ _ _ _ _ H11_3.out]; rfl
          have c3_3 : X11.cell? ⟨(wr.heap.size + 1), 3, none⟩ = some (.int .i64 0) := by rw [cell_of_row _ _ _ _ _ _ H11_3.out]; rfl
          have c3_4 : X11.cell? ⟨(wr.heap.size + 1), 4, none⟩ = some (.int .i64 0) := by rw [cell_of_row _ _ _ _ _ _ H11_3.out]; rfl
          have c3_5 : X11.cell? ⟨(wr.heap.size + 1), 5, none⟩ = some (.int .u8 0) := by rw [cell_of_row _ _ _ _ _ _ H11_3.out]; rfl
          have c4_0 : X11.cell? ⟨X4.heap.size, 0, none⟩ = some (.int .u8 4) := by rw [cell_of_row _ _ _ _ _ _ H11_4.out]; rfl
          have c4_1 : X11.cell? ⟨X4.heap.size, 1, none⟩ = some (.int .i64 s) := by rw [cell_of_row _ _ _ _ _ _ H11_4.out]; rfl
          have c4_2 : X11.cell? ⟨X4.heap.size, 2, none⟩ = some (.int .i64 c) := by rw [cell_of_row _ _ _ _ _ _ H11_4.out]; rfl
          have c4_3 : X11.cell? ⟨X4.heap.size, 3, none⟩ = some (.int .i64 0) := by rw [cell_of_row _ _ _ _ _ _ H11_4.out]; rfl
          have c4_4 : X11.cell? ⟨X4.heap.size, 4, none⟩ = some (.int .i64 0) := by rw [cell_of_row _ _ _ _ _ _ H11_4.out]; rfl
          have c4_5 : X11.cell? ⟨X4.heap.size, 5, none⟩ = some (.int .u8 1) := by rw [cell_of_row _ _ _ _ _ _ H11_4.out]; rfl
          have c5_0 : X11.cell? ⟨(X4.heap.size + 1), 0, none⟩ = some (.int .u8 4) := by rw [cell_of_row _ _ _ _ _ _ H11_5.out]; rfl
          have c5_1 : X11.cell? ⟨(X4.heap.size + 1), 1, none⟩ = some (.int .i64 s) := by rw [cell_of_row _ _ _ _ _ _ H11_5.out]; rfl
          have c5_2 : X11.cell? ⟨(X4.heap.size + 1), 2, none⟩ = some (.int .i64 c) := by rw [cell_of_row _ _ _ _ _ _ H11_5.out]; rfl
          have c5_3 : X11.cell? ⟨(X4.heap.size + 1), 3, none⟩ = some (.int .i64 0) := by rw [cell_of_row _ _ _ _ _ _ H11_5.out]; rfl
          have c5_4 : X11.cell? ⟨(X4.heap.size + 1), 4, none⟩ = some (.int .i64 0) := by rw [cell_of_row _ _ _ _ _ _ H11_5.out]; rfl
          have c5_5 : X11.cell? ⟨(X4.heap.size + 1), 5, none⟩ = some (.int .u8 1) := by rw [cell_of_row _ _ _ _ _ _ H11_5.out]; rfl
          go_wp2
          go_roundw
          case rel => exact ⟨j + 1, (st.drop ((s : Int), (c : Int))), by omega, by go_num, (HF.out.drop s3 c3), (HL11.out.less (fun i hi => by rcases hi with rfl | rfl; exact .inl rfl; exact .inr (.inl rfl))).imp (fun F hF => stoB_mono hF (by omega)), H11_0, H11_1⟩
          case measure => simp [intOf]; omega
        | some x =>
          have z0 : X8.cell? ⟨SB, s * 3 + c, none⟩ = some (.int .u8 x) := by rw [H8_0.out.cell (by omega), gSaid_at c3, hsd]; rfl
          have hx0 : (x == 0) = false := by have := HF.out.said _ _ hsd; simp; omega
          go_wp2_with (fail)
          go_quiet (fail)
          have HSD := Lib.hid hsd
          have hK : ∀ i, i < X8.heap.size → (X8.drewN nq).heap[i]? = X8.heap[i]? := fun i hi => rfl
          have H9_0 : Hid (ArrB (X8.drewN nq) SB 51 9 (gSaid st)) := H8_0.out.kept (hK SB (by omega))
          have H9_1 : Hid (ArrB (X8.drewN nq) (SB + 1) 53 9 (gAside (st.drop ((s : Int), (c : Int))))) := H8_1.out.kept (hK (SB + 1) (by omega))
          have H9_2 : Hid ((X8.drewN nq).heap[wr.heap.size]? = some (.cells #[.int .u8 k, .int .u8 s0, .int .u8 c0, .int .u8 v] 55 (0, 0))) := (hK wr.heap.size (by omega)).trans H8_2.out
          have H9_3 : Hid ((X8.drewN nq).heap[(wr.heap.size + 1)]? = some (.cells #[.int .u8 4, .int .i64 s, .int .i64 c, .int .i64 0, .int .i64 0, .int .u8 0] 31 (0, 0))) := (hK (wr.heap.size + 1) (by omega)).trans H8_3.out
          have H9_4 : Hid ((X8.drewN nq).heap[X4.heap.size]? = some (.cells #[.int .u8 4, .int .i64 s, .int .i64 c, .int .i64 0, .int .i64 0, .int .u8 1] 31 (0, 0))) := (hK X4.heap.size (by omega)).trans H8_4.out
          have H9_5 : Hid ((X8.drewN nq).heap[(X4.heap.size + 1)]? = some (.cells #[.int .u8 4, .int .i64 s, .int .i64 c, .int .i64 0, .int .i64 0, .int .u8 1] 31 (0, 0))) := (hK (X4.heap.size + 1) (by omega)).trans H8_5.out
          have HL9 : Hid (LiveO (StoB (U.heap.size + 2) (st.drop ((s : Int), (c : Int))) (2 * j + 2)) U (fun (i : Nat) => i = SB ∨ i = (SB + 1) ∨ i = wr.heap.size ∨ i = (wr.heap.size + 1) ∨ i = X4.heap.size ∨ i = (X4.heap.size + 1)) (X8.drewN nq)) := HL8.out.below (sto_thing (U.heap.size + 2) (st.drop ((s : Int), (c : Int))) (2 * j + 2)) (Below.drewN' (Below.refl _ _) _)
          have : SB < (X8.drewN nq).heap.size := by show _ < X8.heap.size; first | omega | (rw [World.size_alloc]; omega) | (rw [setCell_size]; omega)
          have : (SB + 1) < (X8.drewN nq).heap.size := by show _ < X8.heap.size; first | omega | (rw [World.size_alloc]; omega) | (rw [setCell_size]; omega)
          have : wr.heap.size < (X8.drewN nq).heap.size := by show _ < X8.heap.size; first | omega | (rw [World.size_alloc]; omega) | (rw [setCell_size]; omega)
          have : (wr.heap.size + 1) < (X8.drewN nq).heap.size := by show _ < X8.heap.size; first | omega | (rw [World.size_alloc]; omega) | (rw [setCell_size]; omega)
          have : X4.heap.size < (X8.drewN nq).heap.size := by show _ < X8.heap.size; first | omega | (rw [World.size_alloc]; omega) | (rw [setCell_size]; omega)
          have : (X4.heap.size + 1) < (X8.drewN nq).heap.size := by show _ < X8.heap.size; first | omega | (rw [World.size_alloc]; omega) | (rw [setCell_size]; omega)
          have ls9 : U.heap.size ≤ (X8.drewN nq).heap.size := by show _ ≤ X8.heap.size; first | omega | (rw [World.size_alloc]; omega) | (rw [setCell_size]; omega)
          have lt9 : X8.heap.size ≤ (X8.drewN nq).heap.size := by show _ ≤ X8.heap.size; first | omega | (rw [World.size_alloc]; omega) | (rw [setCell_size]; omega)
          clear hK HL8 H8_0 H8_1 H8_2 H8_3 H8_4 H8_5 c3_0 c3_1 c3_2 c3_3 c3_4 c3_5 z0
          generalize (X8.drewN nq) = X9 at *
          have HG : Hid (ArrB X9 SB 51 9 (gSaid (st.drop ((s : Int), (c : Int))))) := H9_0.out.congr (fun i _ => said_drop_some HSD.out i)
          clear H9_0
          have H9_0 := HG
          clear HG
          have c3_0 : X9.cell? ⟨(wr.heap.size + 1), 0, none⟩ = some (.int .u8 4) := by rw [cell_of_row _ _ _ _ _ _ H9_3.out]; rfl
          have c3_1 : X9.cell? ⟨(wr.heap.size + 1), 1, none⟩ = some (.int .i64 s) := by rw [cell_of_row _ _ _ _ _ _ H9_3.out]; rfl
          have c3_2 : X9.cell? ⟨(wr.heap.size + 1), 2, none⟩ = some (.int .i64 c) := by rw [cell_of_row _ _ _ _ _ _ H9_3.out]; rfl
          have c3_3 : X9.cell? ⟨(wr.heap.size + 1), 3, none⟩ = some (.int .i64 0) := by rw [cell_of_row _ _ _ _ _ _ H9_3.out]; rfl
          have c3_4 : X9.cell? ⟨(wr.heap.size + 1), 4, none⟩ = some (.int .i64 0) := by rw [cell_of_row _ _ _ _ _ _ H9_3.out]; rfl
          have c3_5 : X9.cell? ⟨(wr.heap.size + 1), 5, none⟩ = some (.int .u8 0) := by rw [cell_of_row _ _ _ _ _ _ H9_3.out]; rfl
          have c4_0 : X9.cell? ⟨X4.heap.size, 0, none⟩ = some (.int .u8 4) := by rw [cell_of_row _ _ _ _ _ _ H9_4.out]; rfl
          have c4_1 : X9.cell? ⟨X4.heap.size, 1, none⟩ = some (.int .i64 s) := by rw [cell_of_row _ _ _ _ _ _ H9_4.out]; rfl
          have c4_2 : X9.cell? ⟨X4.heap.size, 2, none⟩ = some (.int .i64 c) := by rw [cell_of_row _ _ _ _ _ _ H9_4.out]; rfl
          have c4_3 : X9.cell? ⟨X4.heap.size, 3, none⟩ = some (.int .i64 0) := by rw [cell_of_row _ _ _ _ _ _ H9_4.out]; rfl
          have c4_4 : X9.cell? ⟨X4.heap.size, 4, none⟩ = some (.int .i64 0) := by rw [cell_of_row _ _ _ _ _ _ H9_4.out]; rfl
          have c4_5 : X9.cell? ⟨X4.heap.size, 5, none⟩ = some (.int .u8 1) := by rw [cell_of_row _ _ _ _ _ _ H9_4.out]; rfl
          have c5_0 : X9.cell? ⟨(X4.heap.size + 1), 0, none⟩ = some (.int .u8 4) := by rw [cell_of_row _ _ _ _ _ _ H9_5.out]; rfl
          have c5_1 : X9.cell? ⟨(X4.heap.size + 1), 1, none⟩ = some (.int .i64 s) := by rw [cell_of_row _ _ _ _ _ _ H9_5.out]; rfl
          have c5_2 : X9.cell? ⟨(X4.heap.size + 1), 2, none⟩ = some (.int .i64 c) := by rw [cell_of_row _ _ _ _ _ _ H9_5.out]; rfl
          have c5_3 : X9.cell? ⟨(X4.heap.size + 1), 3, none⟩ = some (.int .i64 0) := by rw [cell_of_row _ _ _ _ _ _ H9_5.out]; rfl
          have c5_4 : X9.cell? ⟨(X4.heap.size + 1), 4, none⟩ = some (.int .i64 0) := by rw [cell_of_row _ _ _ _ _ _ H9_5.out]; rfl
          have c5_5 : X9.cell? ⟨(X4.heap.size + 1), 5, none⟩ = some (.int .u8 1) := by rw [cell_of_row _ _ _ _ _ _ H9_5.out]; rfl
          go_wp2
          go_roundw
          case rel => exact ⟨j + 1, (st.drop ((s : Int), (c : Int))), by omega, by go_num, (HF.out.drop s3 c3), (HL9.out.less (fun i hi => by rcases hi with rfl | rfl; exact .inl rfl; exact .inr (.inl rfl))).imp (fun F hF => stoB_mono hF (by omega)), H9_0, H9_1⟩
          case measure => simp [intOf]; omega
      by_cases qq5 : k % 7 = 5
      · have qq := qq5
        rw [qq] at hq2
        go_wp2_with (refine wpList_load_mid rfl _ _ rfl gg (oo + j * 4) rfl [.int .u8 k, .int .u8 s0, .int .u8 c0, .int .u8 v] _ HRG.out Try.underlying55 rfl (by kernel_rfl) ?_)
        have HL1 := HL
        have ls1 : U.heap.size ≤ wr.heap.size := HL1.out.old.size
        have H1_0 := HS
        have H1_1 := HA
        have : SB < wr.heap.size := H1_0.out.lt
        have : (SB + 1) < wr.heap.size := H1_1.out.lt
        have hK : ∀ i, i < wr.heap.size → (wr.alloc (.cells #[.int .u8 k, .int .u8 s0, .int .u8 c0, .int .u8 v] 55)).heap[i]? = wr.heap[i]? := fun i hi => alloc_block_old hi
        have H2_0 : Hid (ArrB (wr.alloc (.cells #[.int .u8 k, .int .u8 s0, .int .u8 c0, .int .u8 v] 55)) SB 51 9 (gSaid st)) := H1_0.out.kept (hK SB (by omega))
        have H2_1 : Hid (ArrB (wr.alloc (.cells #[.int .u8 k, .int .u8 s0, .int .u8 c0, .int .u8 v] 55)) (SB + 1) 53 9 (gAside st)) := H1_1.out.kept (hK (SB + 1) (by omega))
        have H2_2 : Hid ((wr.alloc (.cells #[.int .u8 k, .int .u8 s0, .int .u8 c0, .int .u8 v] 55)).heap[wr.heap.size]? = some (.cells #[.int .u8 k, .int .u8 s0, .int .u8 c0, .int .u8 v] 55 (0, 0))) := alloc_at (by omega)
        have HL2 : Hid (LiveO (StoB (U.heap.size + 2) st (2 * j)) U (fun (i : Nat) => i = SB ∨ i = (SB + 1) ∨ i = wr.heap.size) (wr.alloc (.cells #[.int .u8 k, .int .u8 s0, .int .u8 c0, .int .u8 v] 55))) := (HL1.out.alloc (sto_thing (U.heap.size + 2) st (2 * j)) (.cells #[.int .u8 k, .int .u8 s0, .int .u8 c0, .int .u8 v] 55)).less (N' := (fun (i : Nat) => i = SB ∨ i = (SB + 1) ∨ i = wr.heap.size)) (fun i hi => by rcases hi with h0 | h1 | h2; exact .inl (.inl h0); exact .inl (.inr h1); exact .inr (by omega))
        have : SB < (wr.alloc (.cells #[.int .u8 k, .int .u8 s0, .int .u8 c0, .int .u8 v] 55)).heap.size := by first | omega | (rw [World.size_alloc]; omega) | (rw [setCell_size]; omega)
        have : (SB + 1) < (wr.alloc (.cells #[.int .u8 k, .int .u8 s0, .int .u8 c0, .int .u8 v] 55)).heap.size := by first | omega | (rw [World.size_alloc]; omega) | (rw [setCell_size]; omega)
        have ls2 : U.heap.size ≤ (wr.alloc (.cells #[.int .u8 k, .int .u8 s0, .int .u8 c0, .int .u8 v] 55)).heap.size := by first | omega | (rw [World.size_alloc]; omega) | (rw [setCell_size]; omega)
        have lt2 : wr.heap.size ≤ (wr.alloc (.cells #[.int .u8 k, .int .u8 s0, .int .u8 c0, .int .u8 v] 55)).heap.size := by first | omega | (rw [World.size_alloc]; omega) | (rw [setCell_size]; omega)
        have : wr.heap.size < (wr.alloc (.cells #[.int .u8 k, .int .u8 s0, .int .u8 c0, .int .u8 v] 55)).heap.size := by rw [World.size_alloc]; omega
        have lg2 : (wr.alloc (.cells #[.int .u8 k, .int .u8 s0, .int .u8 c0, .int .u8 v] 55)).heap.size ≤ wr.heap.size + 1 ∧ wr.heap.size + 1 ≤ (wr.alloc (.cells #[.int .u8 k, .int .u8 s0, .int .u8 c0, .int .u8 v] 55)).heap.size := by rw [World.size_alloc]; omega
        have : SB < wr.heap.size := by omega
        have : (SB + 1) < wr.heap.size := by omega
        clear hK HL1 H1_0 H1_1
        generalize (wr.alloc (.cells #[.int .u8 k, .int .u8 s0, .int .u8 c0, .int .u8 v] 55)) = X2 at *
        have hK : ∀ i, i < X2.heap.size → (X2.alloc (.cells #[.int .u8 4, .int .i64 s, .int .i64 c, .int .i64 0, .int .i64 0, .int .u8 0] 31)).heap[i]? = X2.heap[i]? := fun i hi => alloc_block_old hi
        have H3_0 : Hid (ArrB (X2.alloc (.cells #[.int .u8 4, .int .i64 s, .int .i64 c, .int .i64 0, .int .i64 0, .int .u8 0] 31)) SB 51 9 (gSaid st)) := H2_0.out.kept (hK SB (by omega))
        have H3_1 : Hid (ArrB (X2.alloc (.cells #[.int .u8 4, .int .i64 s, .int .i64 c, .int .i64 0, .int .i64 0, .int .u8 0] 31)) (SB + 1) 53 9 (gAside st)) := H2_1.out.kept (hK (SB + 1) (by omega))
        have H3_2 : Hid ((X2.alloc (.cells #[.int .u8 4, .int .i64 s, .int .i64 c, .int .i64 0, .int .i64 0, .int .u8 0] 31)).heap[wr.heap.size]? = some (.cells #[.int .u8 k, .int .u8 s0, .int .u8 c0, .int .u8 v] 55 (0, 0))) := (hK wr.heap.size (by omega)).trans H2_2.out
        have H3_3 : Hid ((X2.alloc (.cells #[.int .u8 4, .int .i64 s, .int .i64 c, .int .i64 0, .int .i64 0, .int .u8 0] 31)).heap[(wr.heap.size + 1)]? = some (.cells #[.int .u8 4, .int .i64 s, .int .i64 c, .int .i64 0, .int .i64 0, .int .u8 0] 31 (0, 0))) := alloc_at (by omega)
        have HL3 : Hid (LiveO (StoB (U.heap.size + 2) st (2 * j)) U (fun (i : Nat) => i = SB ∨ i = (SB + 1) ∨ i = wr.heap.size ∨ i = (wr.heap.size + 1)) (X2.alloc (.cells #[.int .u8 4, .int .i64 s, .int .i64 c, .int .i64 0, .int .i64 0, .int .u8 0] 31))) := (HL2.out.alloc (sto_thing (U.heap.size + 2) st (2 * j)) (.cells #[.int .u8 4, .int .i64 s, .int .i64 c, .int .i64 0, .int .i64 0, .int .u8 0] 31)).less (N' := (fun (i : Nat) => i = SB ∨ i = (SB + 1) ∨ i = wr.heap.size ∨ i = (wr.heap.size + 1))) (fun i hi => by rcases hi with h0 | h1 | h2 | h3; exact .inl (.inl h0); exact .inl (.inr (.inl h1)); exact .inl (.inr (.inr h2)); exact .inr (by omega))
        have : SB < (X2.alloc (.cells #[.int .u8 4, .int .i64 s, .int .i64 c, .int .i64 0, .int .i64 0, .int .u8 0] 31)).heap.size := by first | omega | (rw [World.size_alloc]; omega) | (rw [setCell_size]; omega)
        have : (SB + 1) < (X2.alloc (.cells #[.int .u8 4, .int .i64 s, .int .i64 c, .int .i64 0, .int .i64 0, .int .u8 0] 31)).heap.size := by first | omega | (rw [World.size_alloc]; omega) | (rw [setCell_size]; omega)
        have : wr.heap.size < (X2.alloc (.cells #[.int .u8 4, .int .i64 s, .int .i64 c, .int .i64 0, .int .i64 0, .int .u8 0] 31)).heap.size := by first | omega | (rw [World.size_alloc]; omega) | (rw [setCell_size]; omega)
        have ls3 : U.heap.size ≤ (X2.alloc (.cells #[.int .u8 4, .int .i64 s, .int .i64 c, .int .i64 0, .int .i64 0, .int .u8 0] 31)).heap.size := by first | omega | (rw [World.size_alloc]; omega) | (rw [setCell_size]; omega)
        have lt3 : X2.heap.size ≤ (X2.alloc (.cells #[.int .u8 4, .int .i64 s, .int .i64 c, .int .i64 0, .int .i64 0, .int .u8 0] 31)).heap.size := by first | omega | (rw [World.size_alloc]; omega) | (rw [setCell_size]; omega)
        have : (wr.heap.size + 1) < (X2.alloc (.cells #[.int .u8 4, .int .i64 s, .int .i64 c, .int .i64 0, .int .i64 0, .int .u8 0] 31)).heap.size := by rw [World.size_alloc]; omega
        have lg3 : (X2.alloc (.cells #[.int .u8 4, .int .i64 s, .int .i64 c, .int .i64 0, .int .i64 0, .int .u8 0] 31)).heap.size ≤ X2.heap.size + 1 ∧ X2.heap.size + 1 ≤ (X2.alloc (.cells #[.int .u8 4, .int .i64 s, .int .i64 c, .int .i64 0, .int .i64 0, .int .u8 0] 31)).heap.size := by rw [World.size_alloc]; omega
        have : SB < (wr.heap.size + 1) := by omega
        have : (SB + 1) < (wr.heap.size + 1) := by omega
        have : wr.heap.size < (wr.heap.size + 1) := by omega
        clear hK HL2 H2_0 H2_1 H2_2
        generalize (X2.alloc (.cells #[.int .u8 4, .int .i64 s, .int .i64 c, .int .i64 0, .int .i64 0, .int .u8 0] 31)) = X3 at *
        refine (shear_drop_live HL3.out (fun i hx0 => (hx0.elim (fun (hi : i = SB) => by omega) (fun hx1 => (hx1.elim (fun (hi : i = (SB + 1)) => by omega) (fun hx2 => (hx2.elim (fun (hi : i = wr.heap.size) => by omega) (fun hx3 => ((fun (hi : i = (wr.heap.size + 1)) => by omega) hx3)))))))) hk (by omega)).mono ?_
        rintro e X4 ⟨rfl, hl, hk⟩
        have hsz : X3.heap.size ≤ X4.heap.size := hk.size
        have H4_0 : Hid (ArrB X4 SB 51 9 (gSaid st)) := H3_0.out.kept (hk.block SB (.inl rfl))
        have H4_1 : Hid (ArrB X4 (SB + 1) 53 9 (gAside st)) := H3_1.out.kept (hk.block (SB + 1) (.inr (.inl rfl)))
        have H4_2 : Hid (X4.heap[wr.heap.size]? = some (.cells #[.int .u8 k, .int .u8 s0, .int .u8 c0, .int .u8 v] 55 (0, 0))) := (hk.block wr.heap.size (.inr (.inr (.inl rfl)))).trans H3_2.out
        have H4_3 : Hid (X4.heap[(wr.heap.size + 1)]? = some (.cells #[.int .u8 4, .int .i64 s, .int .i64 c, .int .i64 0, .int .i64 0, .int .u8 0] 31 (0, 0))) := (hk.block (wr.heap.size + 1) (.inr (.inr (.inr rfl)))).trans H3_3.out
        have HL4 := Lib.hid hl
        have : SB < X4.heap.size := by omega
        have : (SB + 1) < X4.heap.size := by omega
        have : wr.heap.size < X4.heap.size := by omega
        have : (wr.heap.size + 1) < X4.heap.size := by omega
        have ls4 : U.heap.size ≤ X4.heap.size := by omega
        clear hl hk hsz HL3 H3_0 H3_1 H3_2 H3_3
        have c3_0 : X4.cell? ⟨(wr.heap.size + 1), 0, none⟩ = some (.int .u8 4) := by rw [cell_of_row _ _ _ _ _ _ H4_3.out]; rfl
        have c3_1 : X4.cell? ⟨(wr.heap.size + 1), 1, none⟩ = some (.int .i64 s) := by rw [cell_of_row _ _ _ _ _ _ H4_3.out]; rfl
        have c3_2 : X4.cell? ⟨(wr.heap.size + 1), 2, none⟩ = some (.int .i64 c) := by rw [cell_of_row _ _ _ _ _ _ H4_3.out]; rfl
        have c3_3 : X4.cell? ⟨(wr.heap.size + 1), 3, none⟩ = some (.int .i64 0) := by rw [cell_of_row _ _ _ _ _ _ H4_3.out]; rfl
        have c3_4 : X4.cell? ⟨(wr.heap.size + 1), 4, none⟩ = some (.int .i64 0) := by rw [cell_of_row _ _ _ _ _ _ H4_3.out]; rfl
        have c3_5 : X4.cell? ⟨(wr.heap.size + 1), 5, none⟩ = some (.int .u8 0) := by rw [cell_of_row _ _ _ _ _ _ H4_3.out]; rfl
        go_wp2
        have hK : ∀ i, i < X4.heap.size → (X4.alloc (.cells #[.int .u8 4, .int .i64 s, .int .i64 c, .int .i64 0, .int .i64 0, .int .u8 1] 31)).heap[i]? = X4.heap[i]? := fun i hi => alloc_block_old hi
        have H5_0 : Hid (ArrB (X4.alloc (.cells #[.int .u8 4, .int .i64 s, .int .i64 c, .int .i64 0, .int .i64 0, .int .u8 1] 31)) SB 51 9 (gSaid st)) := H4_0.out.kept (hK SB (by omega))
        have H5_1 : Hid (ArrB (X4.alloc (.cells #[.int .u8 4, .int .i64 s, .int .i64 c, .int .i64 0, .int .i64 0, .int .u8 1] 31)) (SB + 1) 53 9 (gAside st)) := H4_1.out.kept (hK (SB + 1) (by omega))
        have H5_2 : Hid ((X4.alloc (.cells #[.int .u8 4, .int .i64 s, .int .i64 c, .int .i64 0, .int .i64 0, .int .u8 1] 31)).heap[wr.heap.size]? = some (.cells #[.int .u8 k, .int .u8 s0, .int .u8 c0, .int .u8 v] 55 (0, 0))) := (hK wr.heap.size (by omega)).trans H4_2.out
        have H5_3 : Hid ((X4.alloc (.cells #[.int .u8 4, .int .i64 s, .int .i64 c, .int .i64 0, .int .i64 0, .int .u8 1] 31)).heap[(wr.heap.size + 1)]? = some (.cells #[.int .u8 4, .int .i64 s, .int .i64 c, .int .i64 0, .int .i64 0, .int .u8 0] 31 (0, 0))) := (hK (wr.heap.size + 1) (by omega)).trans H4_3.out
        have H5_4 : Hid ((X4.alloc (.cells #[.int .u8 4, .int .i64 s, .int .i64 c, .int .i64 0, .int .i64 0, .int .u8 1] 31)).heap[X4.heap.size]? = some (.cells #[.int .u8 4, .int .i64 s, .int .i64 c, .int .i64 0, .int .i64 0, .int .u8 1] 31 (0, 0))) := alloc_at (by omega)
        have HL5 : Hid (LiveO (StoB (U.heap.size + 2) (st.drop ((s : Int), (c : Int))) (2 * j + 2)) U (fun (i : Nat) => i = SB ∨ i = (SB + 1) ∨ i = wr.heap.size ∨ i = (wr.heap.size + 1) ∨ i = X4.heap.size) (X4.alloc (.cells #[.int .u8 4, .int .i64 s, .int .i64 c, .int .i64 0, .int .i64 0, .int .u8 1] 31))) := (HL4.out.alloc (sto_thing (U.heap.size + 2) (st.drop ((s : Int), (c : Int))) (2 * j + 2)) (.cells #[.int .u8 4, .int .i64 s, .int .i64 c, .int .i64 0, .int .i64 0, .int .u8 1] 31)).less (N' := (fun (i : Nat) => i = SB ∨ i = (SB + 1) ∨ i = wr.heap.size ∨ i = (wr.heap.size + 1) ∨ i = X4.heap.size)) (fun i hi => by rcases hi with h0 | h1 | h2 | h3 | h4; exact .inl (.inl h0); exact .inl (.inr (.inl h1)); exact .inl (.inr (.inr (.inl h2))); exact .inl (.inr (.inr (.inr h3))); exact .inr (by omega))
        have : SB < (X4.alloc (.cells #[.int .u8 4, .int .i64 s, .int .i64 c, .int .i64 0, .int .i64 0, .int .u8 1] 31)).heap.size := by first | omega | (rw [World.size_alloc]; omega) | (rw [setCell_size]; omega)
        have : (SB + 1) < (X4.alloc (.cells #[.int .u8 4, .int .i64 s, .int .i64 c, .int .i64 0, .int .i64 0, .int .u8 1] 31)).heap.size := by first | omega | (rw [World.size_alloc]; omega) | (rw [setCell_size]; omega)
        have : wr.heap.size < (X4.alloc (.cells #[.int .u8 4, .int .i64 s, .int .i64 c, .int .i64 0, .int .i64 0, .int .u8 1] 31)).heap.size := by first | omega | (rw [World.size_alloc]; omega) | (rw [setCell_size]; omega)
        have : (wr.heap.size + 1) < (X4.alloc (.cells #[.int .u8 4, .int .i64 s, .int .i64 c, .int .i64 0, .int .i64 0, .int .u8 1] 31)).heap.size := by first | omega | (rw [World.size_alloc]; omega) | (rw [setCell_size]; omega)
        have ls5 : U.heap.size ≤ (X4.alloc (.cells #[.int .u8 4, .int .i64 s, .int .i64 c, .int .i64 0, .int .i64 0, .int .u8 1] 31)).heap.size := by first | omega | (rw [World.size_alloc]; omega) | (rw [setCell_size]; omega)
        have lt5 : X4.heap.size ≤ (X4.alloc (.cells #[.int .u8 4, .int .i64 s, .int .i64 c, .int .i64 0, .int .i64 0, .int .u8 1] 31)).heap.size := by first | omega | (rw [World.size_alloc]; omega) | (rw [setCell_size]; omega)
        have : X4.heap.size < (X4.alloc (.cells #[.int .u8 4, .int .i64 s, .int .i64 c, .int .i64 0, .int .i64 0, .int .u8 1] 31)).heap.size := by rw [World.size_alloc]; omega
        have lg5 : (X4.alloc (.cells #[.int .u8 4, .int .i64 s, .int .i64 c, .int .i64 0, .int .i64 0, .int .u8 1] 31)).heap.size ≤ X4.heap.size + 1 ∧ X4.heap.size + 1 ≤ (X4.alloc (.cells #[.int .u8 4, .int .i64 s, .int .i64 c, .int .i64 0, .int .i64 0, .int .u8 1] 31)).heap.size := by rw [World.size_alloc]; omega
        have : SB < X4.heap.size := by omega
        have : (SB + 1) < X4.heap.size := by omega
        have : wr.heap.size < X4.heap.size := by omega
        have : (wr.heap.size + 1) < X4.heap.size := by omega
        clear hK HL4 H4_0 H4_1 H4_2 H4_3 c3_0 c3_1 c3_2 c3_3 c3_4 c3_5
        generalize (X4.alloc (.cells #[.int .u8 4, .int .i64 s, .int .i64 c, .int .i64 0, .int .i64 0, .int .u8 1] 31)) = X5 at *
        have hK : ∀ i, i < X5.heap.size → (X5.alloc (.cells #[.int .u8 4, .int .i64 s, .int .i64 c, .int .i64 0, .int .i64 0, .int .u8 1] 31)).heap[i]? = X5.heap[i]? := fun i hi => alloc_block_old hi
        have H6_0 : Hid (ArrB (X5.alloc (.cells #[.int .u8 4, .int .i64 s, .int .i64 c, .int .i64 0, .int .i64 0, .int .u8 1] 31)) SB 51 9 (gSaid st)) := H5_0.out.kept (hK SB (by omega))
        have H6_1 : Hid (ArrB (X5.alloc (.cells #[.int .u8 4, .int .i64 s, .int .i64 c, .int .i64 0, .int .i64 0, .int .u8 1] 31)) (SB + 1) 53 9 (gAside st)) := H5_1.out.kept (hK (SB + 1) (by omega))
        have H6_2 : Hid ((X5.alloc (.cells #[.int .u8 4, .int .i64 s, .int .i64 c, .int .i64 0, .int .i64 0, .int .u8 1] 31)).heap[wr.heap.size]? = some (.cells #[.int .u8 k, .int .u8 s0, .int .u8 c0, .int .u8 v] 55 (0, 0))) := (hK wr.heap.size (by omega)).trans H5_2.out
        have H6_3 : Hid ((X5.alloc (.cells #[.int .u8 4, .int .i64 s, .int .i64 c, .int .i64 0, .int .i64 0, .int .u8 1] 31)).heap[(wr.heap.size + 1)]? = some (.cells #[.int .u8 4, .int .i64 s, .int .i64 c, .int .i64 0, .int .i64 0, .int .u8 0] 31 (0, 0))) := (hK (wr.heap.size + 1) (by omega)).trans H5_3.out
        have H6_4 : Hid ((X5.alloc (.cells #[.int .u8 4, .int .i64 s, .int .i64 c, .int .i64 0, .int .i64 0, .int .u8 1] 31)).heap[X4.heap.size]? = some (.cells #[.int .u8 4, .int .i64 s, .int .i64 c, .int .i64 0, .int .i64 0, .int .u8 1] 31 (0, 0))) := (hK X4.heap.size (by omega)).trans H5_4.out
        have H6_5 : Hid ((X5.alloc (.cells #[.int .u8 4, .int .i64 s, .int .i64 c, .int .i64 0, .int .i64 0, .int .u8 1] 31)).heap[(X4.heap.size + 1)]? = some (.cells #[.int .u8 4, .int .i64 s, .int .i64 c, .int .i64 0, .int .i64 0, .int .u8 1] 31 (0, 0))) := alloc_at (by omega)
        have HL6 : Hid (LiveO (StoB (U.heap.size + 2) (st.drop ((s : Int), (c : Int))) (2 * j + 2)) U (fun (i : Nat) => i = SB ∨ i = (SB + 1) ∨ i = wr.heap.size ∨ i = (wr.heap.size + 1) ∨ i = X4.heap.size ∨ i = (X4.heap.size + 1)) (X5.alloc (.cells #[.int .u8 4, .int .i64 s, .int .i64 c, .int .i64 0, .int .i64 0, .int .u8 1] 31))) := (HL5.out.alloc (sto_thing (U.heap.size + 2) (st.drop ((s : Int), (c : Int))) (2 * j + 2)) (.cells #[.int .u8 4, .int .i64 s, .int .i64 c, .int .i64 0, .int .i64 0, .int .u8 1] 31)).less (N' := (fun (i : Nat) => i = SB ∨ i = (SB + 1) ∨ i = wr.heap.size ∨ i = (wr.heap.size + 1) ∨ i = X4.heap.size ∨ i = (X4.heap.size + 1))) (fun i hi => by rcases hi with h0 | h1 | h2 | h3 | h4 | h5; exact .inl (.inl h0); exact .inl (.inr (.inl h1)); exact .inl (.inr (.inr (.inl h2))); exact .inl (.inr (.inr (.inr (.inl h3)))); exact .inl (.inr (.inr (.inr (.inr h4)))); exact .inr (by omega))
        have : SB < (X5.alloc (.cells #[.int .u8 4, .int .i64 s, .int .i64 c, .int .i64 0, .int .i64 0, .int .u8 1] 31)).heap.size := by first | omega | (rw [World.size_alloc]; omega) | (rw [setCell_size]; omega)
        have : (SB + 1) < (X5.alloc (.cells #[.int .u8 4, .int .i64 s, .int .i64 c, .int .i64 0, .int .i64 0, .int .u8 1] 31)).heap.size := by first | omega | (rw [World.size_alloc]; omega) | (rw [setCell_size]; omega)
        have : wr.heap.size < (X5.alloc (.cells #[.int .u8 4, .int .i64 s, .int .i64 c, .int .i64 0, .int .i64 0, .int .u8 1] 31)).heap.size := by first | omega | (rw [World.size_alloc]; omega) | (rw [setCell_size]; omega)
        have : (wr.heap.size + 1) < (X5.alloc (.cells #[.int .u8 4, .int .i64 s, .int .i64 c, .int .i64 0, .int .i64 0, .int .u8 1] 31)).heap.size := by first | omega | (rw [World.size_alloc]; omega) | (rw [setCell_size]; omega)
        have : X4.heap.size < (X5.alloc (.cells #[.int .u8 4, .int .i64 s, .int .i64 c, .int .i64 0, .int .i64 0, .int .u8 1] 31)).heap.size := by first | omega | (rw [World.size_alloc]; omega) | (rw [setCell_size]; omega)
        have ls6 : U.heap.size ≤ (X5.alloc (.cells #[.int .u8 4, .int .i64 s, .int .i64 c, .int .i64 0, .int .i64 0, .int .u8 1] 31)).heap.size := by first | omega | (rw [World.size_alloc]; omega) | (rw [setCell_size]; omega)
        have lt6 : X5.heap.size ≤ (X5.alloc (.cells #[.int .u8 4, .int .i64 s, .int .i64 c, .int .i64 0, .int .i64 0, .int .u8 1] 31)).heap.size := by first | omega | (rw [World.size_alloc]; omega) | (rw [setCell_size]; omega)
        have : (X4.heap.size + 1) < (X5.alloc (.cells #[.int .u8 4, .int .i64 s, .int .i64 c, .int .i64 0, .int .i64 0, .int .u8 1] 31)).heap.size := by rw [World.size_alloc]; omega
        have lg6 : (X5.alloc (.cells #[.int .u8 4, .int .i64 s, .int .i64 c, .int .i64 0, .int .i64 0, .int .u8 1] 31)).heap.size ≤ X5.heap.size + 1 ∧ X5.heap.size + 1 ≤ (X5.alloc (.cells #[.int .u8 4, .int .i64 s, .int .i64 c, .int .i64 0, .int .i64 0, .int .u8 1] 31)).heap.size := by rw [World.size_alloc]; omega
        have : SB < (X4.heap.size + 1) := by omega
        have : (SB + 1) < (X4.heap.size + 1) := by omega
        have : wr.heap.size < (X4.heap.size + 1) := by omega
        have : (wr.heap.size + 1) < (X4.heap.size + 1) := by omega
        have : X4.heap.size < (X4.heap.size + 1) := by omega
        clear hK HL5 H5_0 H5_1 H5_2 H5_3 H5_4
        generalize (X5.alloc (.cells #[.int .u8 4, .int .i64 s, .int .i64 c, .int .i64 0, .int .i64 0, .int .u8 1] 31)) = X6 at *
        have HS0 : Hid ((fun w' : World => w'.cell? ⟨(wr.heap.size + 1), 1, none⟩ = some (.int .i64 s) ∧ w'.cell? ⟨(wr.heap.size + 1), 2, none⟩ = some (.int .i64 c)) X6.drew) := ⟨by rw [cell_of_row _ _ _ _ _ _ (show X6.drew.heap[_]? = _ from H6_3.out)]; rfl, by rw [cell_of_row _ _ _ _ _ _ (show X6.drew.heap[_]? = _ from H6_3.out)]; rfl⟩
        refine lane_start (ord := [0, 1, 2, 3, 4, 5, 6]) (S := (fun w' : World => w'.cell? ⟨(wr.heap.size + 1), 1, none⟩ = some (.int .i64 s) ∧ w'.cell? ⟨(wr.heap.size + 1), 2, none⟩ = some (.int .i64 c))) rfl (by kernel_rfl) (by exact HS0.out) (fun _ => ?_)
        iterate 6 (refine lane_take (v := ?_) rfl (by kernel_rfl) (by kernel_rfl) (by rfl) ?_ (by exact HS0.out) ?_; rotate_left; (focus (intro w9 hSw; obtain ⟨x0, x1⟩ := hSw; (try go_simp); try (with_reducible rfl))); simp only [Act.put, List.setIfInBounds_toArray, List.set_cons_zero, List.set_cons_succ])
        refine lane_alone rfl (by kernel_rfl) (by rfl) (fun KK hKK => ?_)
        have hA9 : ArrB X6.drew (SB + 1) 53 9 (gAside st) := H6_1.out
        refine wp_of_skip (exec_store_one rfl (by rfl) rfl (by kernel_rfl) rfl (hA9.cell (i := s * 3 + c) (by omega)) (hA9.frozen _)) ?_
        have hS9 : (fun w' : World => w'.cell? ⟨(wr.heap.size + 1), 1, none⟩ = some (.int .i64 s) ∧ w'.cell? ⟨(wr.heap.size + 1), 2, none⟩ = some (.int .i64 c)) (X6.drew.setCell ⟨(SB + 1), s * 3 + c, none⟩ (.bool false)) := ⟨by rw [cell_of_row _ _ _ _ _ _ (show (X6.drew.setCell ⟨(SB + 1), s * 3 + c, none⟩ (.bool false)).heap[_]? = _ from (setCell_other (by omega)).trans H6_3.out)]; rfl, by rw [cell_of_row _ _ _ _ _ _ (show (X6.drew.setCell ⟨(SB + 1), s * 3 + c, none⟩ (.bool false)).heap[_]? = _ from (setCell_other (by omega)).trans H6_3.out)]; rfl⟩
        refine hKK _ _ (by exact hS9) (fun _ => ?_)
        clear hKK KK hA9 HS0 hS9
        refine lane_end (by kernel_rfl) ?_
        change Exit.then _ _ Exit.normal _ (X6.drew.setCell ⟨(SB + 1), s * 3 + c, none⟩ (.bool false))
        have hK : ∀ i, i < X6.heap.size → X6.drew.heap[i]? = X6.heap[i]? := fun i hi => rfl
        have H7_0 : Hid (ArrB X6.drew SB 51 9 (gSaid st)) := H6_0.out.kept (hK SB (by omega))
        have H7_1 : Hid (ArrB X6.drew (SB + 1) 53 9 (gAside st)) := H6_1.out.kept (hK (SB + 1) (by omega))
        have H7_2 : Hid (X6.drew.heap[wr.heap.size]? = some (.cells #[.int .u8 k, .int .u8 s0, .int .u8 c0, .int .u8 v] 55 (0, 0))) := (hK wr.heap.size (by omega)).trans H6_2.out
        have H7_3 : Hid (X6.drew.heap[(wr.heap.size + 1)]? = some (.cells #[.int .u8 4, .int .i64 s, .int .i64 c, .int .i64 0, .int .i64 0, .int .u8 0] 31 (0, 0))) := (hK (wr.heap.size + 1) (by omega)).trans H6_3.out
        have H7_4 : Hid (X6.drew.heap[X4.heap.size]? = some (.cells #[.int .u8 4, .int .i64 s, .int .i64 c, .int .i64 0, .int .i64 0, .int .u8 1] 31 (0, 0))) := (hK X4.heap.size (by omega)).trans H6_4.out
        have H7_5 : Hid (X6.drew.heap[(X4.heap.size + 1)]? = some (.cells #[.int .u8 4, .int .i64 s, .int .i64 c, .int .i64 0, .int .i64 0, .int .u8 1] 31 (0, 0))) := (hK (X4.heap.size + 1) (by omega)).trans H6_5.out
        have HL7 : Hid (LiveO (StoB (U.heap.size + 2) (st.drop ((s : Int), (c : Int))) (2 * j + 2)) U (fun (i : Nat) => i = SB ∨ i = (SB + 1) ∨ i = wr.heap.size ∨ i = (wr.heap.size + 1) ∨ i = X4.heap.size ∨ i = (X4.heap.size + 1)) X6.drew) := HL6.out.drew (sto_thing (U.heap.size + 2) (st.drop ((s : Int), (c : Int))) (2 * j + 2))
        have : SB < X6.drew.heap.size := by show _ < X6.heap.size; first | omega | (rw [World.size_alloc]; omega) | (rw [setCell_size]; omega)
        have : (SB + 1) < X6.drew.heap.size := by show _ < X6.heap.size; first | omega | (rw [World.size_alloc]; omega) | (rw [setCell_size]; omega)
        have : wr.heap.size < X6.drew.heap.size := by show _ < X6.heap.size; first | omega | (rw [World.size_alloc]; omega) | (rw [setCell_size]; omega)
        have : (wr.heap.size + 1) < X6.drew.heap.size := by show _ < X6.heap.size; first | omega | (rw [World.size_alloc]; omega) | (rw [setCell_size]; omega)
        have : X4.heap.size < X6.drew.heap.size := by show _ < X6.heap.size; first | omega | (rw [World.size_alloc]; omega) | (rw [setCell_size]; omega)
        have : (X4.heap.size + 1) < X6.drew.heap.size := by show _ < X6.heap.size; first | omega | (rw [World.size_alloc]; omega) | (rw [setCell_size]; omega)
        have ls7 : U.heap.size ≤ X6.drew.heap.size := by show _ ≤ X6.heap.size; first | omega | (rw [World.size_alloc]; omega) | (rw [setCell_size]; omega)
        have lt7 : X6.heap.size ≤ X6.drew.heap.size := by show _ ≤ X6.heap.size; first | omega | (rw [World.size_alloc]; omega) | (rw [setCell_size]; omega)
        clear hK HL6 H6_0 H6_1 H6_2 H6_3 H6_4 H6_5
        generalize X6.drew = X7 at *
        have hK : ∀ i, i < X7.heap.size → i ≠ (SB + 1) → (X7.setCell ⟨(SB + 1), s * 3 + c, none⟩ (.bool false)).heap[i]? = X7.heap[i]? := fun i _ hi => setCell_other hi
        have H8_0 : Hid (ArrB (X7.setCell ⟨(SB + 1), s * 3 + c, none⟩ (.bool false)) SB 51 9 (gSaid st)) := H7_0.out.kept (hK SB (by omega) (by omega))
        have H8_1 : Hid (ArrB (X7.setCell ⟨(SB + 1), s * 3 + c, none⟩ (.bool false)) (SB + 1) 53 9 (gAside (st.drop ((s : Int), (c : Int))))) := (H7_1.out.set (s * 3 + c) _).congr (fun i _ => aside_drop c3 i)
        have H8_2 : Hid ((X7.setCell ⟨(SB + 1), s * 3 + c, none⟩ (.bool false)).heap[wr.heap.size]? = some (.cells #[.int .u8 k, .int .u8 s0, .int .u8 c0, .int .u8 v] 55 (0, 0))) := (hK wr.heap.size (by omega) (by omega)).trans H7_2.out
        have H8_3 : Hid ((X7.setCell ⟨(SB + 1), s * 3 + c, none⟩ (.bool false)).heap[(wr.heap.size + 1)]? = some (.cells #[.int .u8 4, .int .i64 s, .int .i64 c, .int .i64 0, .int .i64 0, .int .u8 0] 31 (0, 0))) := (hK (wr.heap.size + 1) (by omega) (by omega)).trans H7_3.out
        have H8_4 : Hid ((X7.setCell ⟨(SB + 1), s * 3 + c, none⟩ (.bool false)).heap[X4.heap.size]? = some (.cells #[.int .u8 4, .int .i64 s, .int .i64 c, .int .i64 0, .int .i64 0, .int .u8 1] 31 (0, 0))) := (hK X4.heap.size (by omega) (by omega)).trans H7_4.out
        have H8_5 : Hid ((X7.setCell ⟨(SB + 1), s * 3 + c, none⟩ (.bool false)).heap[(X4.heap.size + 1)]? = some (.cells #[.int .u8 4, .int .i64 s, .int .i64 c, .int .i64 0, .int .i64 0, .int .u8 1] 31 (0, 0))) := (hK (X4.heap.size + 1) (by omega) (by omega)).trans H7_5.out
        have HL8 : Hid (LiveO (StoB (U.heap.size + 2) (st.drop ((s : Int), (c : Int))) (2 * j + 2)) U (fun (i : Nat) => i = SB ∨ i = (SB + 1) ∨ i = wr.heap.size ∨ i = (wr.heap.size + 1) ∨ i = X4.heap.size ∨ i = (X4.heap.size + 1)) (X7.setCell ⟨(SB + 1), s * 3 + c, none⟩ (.bool false))) := HL7.out.setCell (sto_thing (U.heap.size + 2) (st.drop ((s : Int), (c : Int))) (2 * j + 2)) (p := ⟨(SB + 1), s * 3 + c, none⟩) (.inr (.inl rfl)) (by show U.heap.size ≤ (SB + 1); omega)
        have : SB < (X7.setCell ⟨(SB + 1), s * 3 + c, none⟩ (.bool false)).heap.size := by first | omega | (rw [World.size_alloc]; omega) | (rw [setCell_size]; omega)
        have : (SB + 1) < (X7.setCell ⟨(SB + 1), s * 3 + c, none⟩ (.bool false)).heap.size := by first | omega | (rw [World.size_alloc]; omega) | (rw [setCell_size]; omega)
        have : wr.heap.size < (X7.setCell ⟨(SB + 1), s * 3 + c, none⟩ (.bool false)).heap.size := by first | omega | (rw [World.size_alloc]; omega) | (rw [setCell_size]; omega)
        have : (wr.heap.size + 1) < (X7.setCell ⟨(SB + 1), s * 3 + c, none⟩ (.bool false)).heap.size := by first | omega | (rw [World.size_alloc]; omega) | (rw [setCell_size]; omega)
        have : X4.heap.size < (X7.setCell ⟨(SB + 1), s * 3 + c, none⟩ (.bool false)).heap.size := by first | omega | (rw [World.size_alloc]; omega) | (rw [setCell_size]; omega)
        have : (X4.heap.size + 1) < (X7.setCell ⟨(SB + 1), s * 3 + c, none⟩ (.bool false)).heap.size := by first | omega | (rw [World.size_alloc]; omega) | (rw [setCell_size]; omega)
        have ls8 : U.heap.size ≤ (X7.setCell ⟨(SB + 1), s * 3 + c, none⟩ (.bool false)).heap.size := by first | omega | (rw [World.size_alloc]; omega) | (rw [setCell_size]; omega)
        have lt8 : X7.heap.size ≤ (X7.setCell ⟨(SB + 1), s * 3 + c, none⟩ (.bool false)).heap.size := by first | omega | (rw [World.size_alloc]; omega) | (rw [setCell_size]; omega)
        clear hK HL7 H7_0 H7_1 H7_2 H7_3 H7_4 H7_5
        generalize (X7.setCell ⟨(SB + 1), s * 3 + c, none⟩ (.bool false)) = X8 at *
        have c3_0 : X8.cell? ⟨(wr.heap.size + 1), 0, none⟩ = some (.int .u8 4) := by rw [cell_of_row _ _ _ _ _ _ H8_3.out]; rfl
        have c3_1 : X8.cell? ⟨(wr.heap.size + 1), 1, none⟩ = some (.int .i64 s) := by rw [cell_of_row _ _ _ _ _ _ H8_3.out]; rfl
        have c3_2 : X8.cell? ⟨(wr.heap.size + 1), 2, none⟩ = some (.int .i64 c) := by rw [cell_of_row _ _ _ _ _ _ H8_3.out]; rfl
        have c3_3 : X8.cell? ⟨(wr.heap.size + 1), 3, none⟩ = some (.int .i64 0) := by rw [cell_of_row _ _ _ _ _ _ H8_3.out]; rfl
        have c3_4 : X8.cell? ⟨(wr.heap.size + 1), 4, none⟩ = some (.int .i64 0) := by rw [cell_of_row _ _ _ _ _ _ H8_3.out]; rfl
        have c3_5 : X8.cell? ⟨(wr.heap.size + 1), 5, none⟩ = some (.int .u8 0) := by rw [cell_of_row _ _ _ _ _ _ H8_3.out]; rfl
        cases hsd : st.said ((s : Int), (c : Int)) with
        | none =>
          have z0 : X8.cell? ⟨SB, s * 3 + c, none⟩ = some (.int .u8 0) := by rw [H8_0.out.cell (by omega), gSaid_at c3, hsd]; rfl
          go_wp2_with (fail)
          go_quiet (fail)
          have HSD := Lib.hid hsd
          have hK : ∀ i, i < X8.heap.size → (X8.drewN nq).heap[i]? = X8.heap[i]? := fun i hi => rfl
          have H9_0 : Hid (ArrB (X8.drewN nq) SB 51 9 (gSaid st)) := H8_0.out.kept (hK SB (by omega))
          have H9_1 : Hid (ArrB (X8.drewN nq) (SB + 1) 53 9 (gAside (st.drop ((s : Int), (c : Int))))) := H8_1.out.kept (hK (SB + 1) (by omega))
          have H9_2 : Hid ((X8.drewN nq).heap[wr.heap.size]? = some (.cells #[.int .u8 k, .int .u8 s0, .int .u8 c0, .int .u8 v] 55 (0, 0))) := (hK wr.heap.size (by omega)).trans H8_2.out
          have H9_3 : Hid ((X8.drewN nq).heap[(wr.heap.size + 1)]? = some (.cells #[.int .u8 4, .int .i64 s, .int .i64 c, .int .i64 0, .int .i64 0, .int .u8 0] 31 (0, 0))) := (hK (wr.heap.size + 1) (by omega)).trans H8_3.out
          have H9_4 : Hid ((X8.drewN nq).heap[X4.heap.size]? = some (.cells #[.int .u8 4, .int .i64 s, .int .i64 c, .int .i64 0, .int .i64 0, .int .u8 1] 31 (0, 0))) := (hK X4.heap.size (by omega)).trans H8_4.out
          have H9_5 : Hid ((X8.drewN nq).heap[(X4.heap.size + 1)]? = some (.cells #[.int .u8 4, .int .i64 s, .int .i64 c, .int .i64 0, .int .i64 0, .int .u8 1] 31 (0, 0))) := (hK (X4.heap.size + 1) (by omega)).trans H8_5.out
          have HL9 : Hid (LiveO (StoB (U.heap.size + 2) (st.drop ((s : Int), (c : Int))) (2 * j + 2)) U (fun (i : Nat) => i = SB ∨ i = (SB + 1) ∨ i = wr.heap.size ∨ i = (wr.heap.size + 1) ∨ i = X4.heap.size ∨ i = (X4.heap.size + 1)) (X8.drewN nq)) := HL8.out.below (sto_thing (U.heap.size + 2) (st.drop ((s : Int), (c : Int))) (2 * j + 2)) (Below.drewN' (Below.refl _ _) _)
          have : SB < (X8.drewN nq).heap.size := by show _ < X8.heap.size; first | omega | (rw [World.size_alloc]; omega) | (rw [setCell_size]; omega)
          have : (SB + 1) < (X8.drewN nq).heap.size := by show _ < X8.heap.size; first | omega | (rw [World.size_alloc]; omega) | (rw [setCell_size]; omega)
          have : wr.heap.size < (X8.drewN nq).heap.size := by show _ < X8.heap.size; first | omega | (rw [World.size_alloc]; omega) | (rw [setCell_size]; omega)
          have : (wr.heap.size + 1) < (X8.drewN nq).heap.size := by show _ < X8.heap.size; first | omega | (rw [World.size_alloc]; omega) | (rw [setCell_size]; omega)
          have : X4.heap.size < (X8.drewN nq).heap.size := by show _ < X8.heap.size; first | omega | (rw [World.size_alloc]; omega) | (rw [setCell_size]; omega)
          have : (X4.heap.size + 1) < (X8.drewN nq).heap.size := by show _ < X8.heap.size; first | omega | (rw [World.size_alloc]; omega) | (rw [setCell_size]; omega)
          have ls9 : U.heap.size ≤ (X8.drewN nq).heap.size := by show _ ≤ X8.heap.size; first | omega | (rw [World.size_alloc]; omega) | (rw [setCell_size]; omega)
          have lt9 : X8.heap.size ≤ (X8.drewN nq).heap.size := by show _ ≤ X8.heap.size; first | omega | (rw [World.size_alloc]; omega) | (rw [setCell_size]; omega)
          clear hK HL8 H8_0 H8_1 H8_2 H8_3 H8_4 H8_5 c3_0 c3_1 c3_2 c3_3 c3_4 c3_5 z0
          generalize (X8.drewN nq) = X9 at *
          go_wp2_with (fail)
          have HS0 : Hid ((fun w' : World => w'.cell? ⟨(wr.heap.size + 1), 1, none⟩ = some (.int .i64 s) ∧ w'.cell? ⟨(wr.heap.size + 1), 2, none⟩ = some (.int .i64 c)) X9.drew) := ⟨by rw [cell_of_row _ _ _ _ _ _ (show X9.drew.heap[_]? = _ from H9_3.out)]; rfl, by rw [cell_of_row _ _ _ _ _ _ (show X9.drew.heap[_]? = _ from H9_3.out)]; rfl⟩
          refine lane_start (ord := [0, 1, 2, 3, 4, 5, 6]) (S := (fun w' : World => w'.cell? ⟨(wr.heap.size + 1), 1, none⟩ = some (.int .i64 s) ∧ w'.cell? ⟨(wr.heap.size + 1), 2, none⟩ = some (.int .i64 c))) rfl (by kernel_rfl) (by exact HS0.out) (fun _ => ?_)
          iterate 6 (refine lane_take (v := ?_) rfl (by kernel_rfl) (by kernel_rfl) (by rfl) ?_ (by exact HS0.out) ?_; rotate_left; (focus (intro w9 hSw; obtain ⟨x0, x1⟩ := hSw; (try go_simp); try (with_reducible rfl))); simp only [Act.put, List.setIfInBounds_toArray, List.set_cons_zero, List.set_cons_succ])
          refine lane_alone rfl (by kernel_rfl) (by rfl) (fun KK hKK => ?_)
          have hA9 : ArrB X9.drew SB 51 9 (gSaid st) := H9_0.out
          refine wp_of_skip (exec_store_one rfl (by rfl) rfl (by kernel_rfl) rfl (hA9.cell (i := s * 3 + c) (by omega)) (hA9.frozen _)) ?_
          have hS9 : (fun w' : World => w'.cell? ⟨(wr.heap.size + 1), 1, none⟩ = some (.int .i64 s) ∧ w'.cell? ⟨(wr.heap.size + 1), 2, none⟩ = some (.int .i64 c)) (X9.drew.setCell ⟨SB, s * 3 + c, none⟩ (.int .u8 3)) := ⟨by rw [cell_of_row _ _ _ _ _ _ (show (X9.drew.setCell ⟨SB, s * 3 + c, none⟩ (.int .u8 3)).heap[_]? = _ from (setCell_other (by omega)).trans H9_3.out)]; rfl, by rw [cell_of_row _ _ _ _ _ _ (show (X9.drew.setCell ⟨SB, s * 3 + c, none⟩ (.int .u8 3)).heap[_]? = _ from (setCell_other (by omega)).trans H9_3.out)]; rfl⟩
          refine hKK _ _ (by exact hS9) (fun _ => ?_)
          clear hKK KK hA9 HS0 hS9
          refine lane_end (by kernel_rfl) ?_
          change Exit.then _ _ Exit.normal _ (X9.drew.setCell ⟨SB, s * 3 + c, none⟩ (.int .u8 3))
          have hK : ∀ i, i < X9.heap.size → X9.drew.heap[i]? = X9.heap[i]? := fun i hi => rfl
          have H10_0 : Hid (ArrB X9.drew SB 51 9 (gSaid st)) := H9_0.out.kept (hK SB (by omega))
          have H10_1 : Hid (ArrB X9.drew (SB + 1) 53 9 (gAside (st.drop ((s : Int), (c : Int))))) := H9_1.out.kept (hK (SB + 1) (by omega))
          have H10_2 : Hid (X9.drew.heap[wr.heap.size]? = some (.cells #[.int .u8 k, .int .u8 s0, .int .u8 c0, .int .u8 v] 55 (0, 0))) := (hK wr.heap.size (by omega)).trans H9_2.out
          have H10_3 : Hid (X9.drew.heap[(wr.heap.size + 1)]? = some (.cells #[.int .u8 4, .int .i64 s, .int .i64 c, .int .i64 0, .int .i64 0, .int .u8 0] 31 (0, 0))) := (hK (wr.heap.size + 1) (by omega)).trans H9_3.out
          have H10_4 : Hid (X9.drew.heap[X4.heap.size]? = some (.cells #[.int .u8 4, .int .i64 s, .int .i64 c, .int .i64 0, .int .i64 0, .int .u8 1] 31 (0, 0))) := (hK X4.heap.size (by omega)).trans H9_4.out
          have H10_5 : Hid (X9.drew.heap[(X4.heap.size + 1)]? = some (.cells #[.int .u8 4, .int .i64 s, .int .i64 c, .int .i64 0, .int .i64 0, .int .u8 1] 31 (0, 0))) := (hK (X4.heap.size + 1) (by omega)).trans H9_5.out
          have HL10 : Hid (LiveO (StoB (U.heap.size + 2) (st.drop ((s : Int), (c : Int))) (2 * j + 2)) U (fun (i : Nat) => i = SB ∨ i = (SB + 1) ∨ i = wr.heap.size ∨ i = (wr.heap.size + 1) ∨ i = X4.heap.size ∨ i = (X4.heap.size + 1)) X9.drew) := HL9.out.drew (sto_thing (U.heap.size + 2) (st.drop ((s : Int), (c : Int))) (2 * j + 2))
          have : SB < X9.drew.heap.size := by show _ < X9.heap.size; first | omega | (rw [World.size_alloc]; omega) | (rw [setCell_size]; omega)
          have : (SB + 1) < X9.drew.heap.size := by show _ < X9.heap.size; first | omega | (rw [World.size_alloc]; omega) | (rw [setCell_size]; omega)
          have : wr.heap.size < X9.drew.heap.size := by show _ < X9.heap.size; first | omega | (rw [World.size_alloc]; omega) | (rw [setCell_size]; omega)
          have : (wr.heap.size + 1) < X9.drew.heap.size := by show _ < X9.heap.size; first | omega | (rw [World.size_alloc]; omega) | (rw [setCell_size]; omega)
          have : X4.heap.size < X9.drew.heap.size := by show _ < X9.heap.size; first | omega | (rw [World.size_alloc]; omega) | (rw [setCell_size]; omega)
          have : (X4.heap.size + 1) < X9.drew.heap.size := by show _ < X9.heap.size; first | omega | (rw [World.size_alloc]; omega) | (rw [setCell_size]; omega)
          have ls10 : U.heap.size ≤ X9.drew.heap.size := by show _ ≤ X9.heap.size; first | omega | (rw [World.size_alloc]; omega) | (rw [setCell_size]; omega)
          have lt10 : X9.heap.size ≤ X9.drew.heap.size := by show _ ≤ X9.heap.size; first | omega | (rw [World.size_alloc]; omega) | (rw [setCell_size]; omega)
          clear hK HL9 H9_0 H9_1 H9_2 H9_3 H9_4 H9_5
          generalize X9.drew = X10 at *
          have hK : ∀ i, i < X10.heap.size → i ≠ SB → (X10.setCell ⟨SB, s * 3 + c, none⟩ (.int .u8 3)).heap[i]? = X10.heap[i]? := fun i _ hi => setCell_other hi
          have H11_0 : Hid (ArrB (X10.setCell ⟨SB, s * 3 + c, none⟩ (.int .u8 3)) SB 51 9 (gSaid (st.drop ((s : Int), (c : Int))))) := (H10_0.out.set (s * 3 + c) _).congr (fun i _ => said_drop c3 HSD.out i)
          have H11_1 : Hid (ArrB (X10.setCell ⟨SB, s * 3 + c, none⟩ (.int .u8 3)) (SB + 1) 53 9 (gAside (st.drop ((s : Int), (c : Int))))) := H10_1.out.kept (hK (SB + 1) (by omega) (by omega))
          have H11_2 : Hid ((X10.setCell ⟨SB, s * 3 + c, none⟩ (.int .u8 3)).heap[wr.heap.size]? = some (.cells #[.int .u8 k, .int .u8 s0, .int .u8 c0, .int .u8 v] 55 (0, 0))) := (hK wr.heap.size (by omega) (by omega)).trans H10_2.out
          have H11_3 : Hid ((X10.setCell ⟨SB, s * 3 + c, none⟩ (.int .u8 3)).heap[(wr.heap.size + 1)]? = some (.cells #[.int .u8 4, .int .i64 s, .int .i64 c, .int .i64 0, .int .i64 0, .int .u8 0] 31 (0, 0))) := (hK (wr.heap.size + 1) (by omega) (by omega)).trans H10_3.out
          have H11_4 : Hid ((X10.setCell ⟨SB, s * 3 + c, none⟩ (.int .u8 3)).heap[X4.heap.size]? = some (.cells #[.int .u8 4, .int .i64 s, .int .i64 c, .int .i64 0, .int .i64 0, .int .u8 1] 31 (0, 0))) := (hK X4.heap.size (by omega) (by omega)).trans H10_4.out
          have H11_5 : Hid ((X10.setCell ⟨SB, s * 3 + c, none⟩ (.int .u8 3)).heap[(X4.heap.size + 1)]? = some (.cells #[.int .u8 4, .int .i64 s, .int .i64 c, .int .i64 0, .int .i64 0, .int .u8 1] 31 (0, 0))) := (hK (X4.heap.size + 1) (by omega) (by omega)).trans H10_5.out
          have HL11 : Hid (LiveO (StoB (U.heap.size + 2) (st.drop ((s : Int), (c : Int))) (2 * j + 2)) U (fun (i : Nat) => i = SB ∨ i = (SB + 1) ∨ i = wr.heap.size ∨ i = (wr.heap.size + 1) ∨ i = X4.heap.size ∨ i = (X4.heap.size + 1)) (X10.setCell ⟨SB, s * 3 + c, none⟩ (.int .u8 3))) := HL10.out.setCell (sto_thing (U.heap.size + 2) (st.drop ((s : Int), (c : Int))) (2 * j + 2)) (p := ⟨SB, s * 3 + c, none⟩) (.inl rfl) (by show U.heap.size ≤ SB; omega)
          have : SB < (X10.setCell ⟨SB, s * 3 + c, none⟩ (.int .u8 3)).heap.size := by first | omega | (rw [World.size_alloc]; omega) | (rw [setCell_size]; omega)
          have : (SB + 1) < (X10.setCell ⟨SB, s * 3 + c, none⟩ (.int .u8 3)).heap.size := by first | omega | (rw [World.size_alloc]; omega) | (rw [setCell_size]; omega)
          have : wr.heap.size < (X10.setCell ⟨SB, s * 3 + c, none⟩ (.int .u8 3)).heap.size := by first | omega | (rw [World.size_alloc]; omega) | (rw [setCell_size]; omega)
          have : (wr.heap.size + 1) < (X10.setCell ⟨SB, s * 3 + c, none⟩ (.int .u8 3)).heap.size := by first | omega | (rw [World.size_alloc]; omega) | (rw [setCell_size]; omega)
          have : X4.heap.size < (X10.setCell ⟨SB, s * 3 + c, none⟩ (.int .u8 3)).heap.size := by first | omega | (rw [World.size_alloc]; omega) | (rw [setCell_size]; omega)
          have : (X4.heap.size + 1) < (X10.setCell ⟨SB, s * 3 + c, none⟩ (.int .u8 3)).heap.size := by first | omega | (rw [World.size_alloc]; omega) | (rw [setCell_size]; omega)
          have ls11 : U.heap.size ≤ (X10.setCell ⟨SB, s * 3 + c, none⟩ (.int .u8 3)).heap.size := by first | omega | (rw [World.size_alloc]; omega) | (rw [setCell_size]; omega)
          have lt11 : X10.heap.size ≤ (X10.setCell ⟨SB, s * 3 + c, none⟩ (.int .u8 3)).heap.size := by first | omega | (rw [World.size_alloc]; omega) | (rw [setCell_size]; omega)
          clear hK HL10 H10_0 H10_1 H10_2 H10_3 H10_4 H10_5
          generalize (X10.setCell ⟨SB, s * 3 + c, none⟩ (.int .u8 3)) = X11 at *
          have c3_0 : X11.cell? ⟨(wr.heap.size + 1), 0, none⟩ = some (.int .u8 4) := by rw [cell_of_row _ _ _ _ _ _ H11_3.out]; rfl
          have c3_1 : X11.cell? ⟨(wr.heap.size + 1), 1, none⟩ = some (.int .i64 s) := by rw [cell_of_row _ _ _ _ _ _ H11_3.out]; rfl
          have c3_2 : X11.cell? ⟨(wr.heap.size + 1), 2, none⟩ = some (.int .i64 c) := by rw [cell_of_row _ _ _ _ _ _ H11_3.out]; rfl
          have c3_3 : X11.cell? ⟨(wr.heap.size + 1), 3, none⟩ = some (.int .i64 0) := by rw [cell_of_row _ _ _ _ _ _ H11_3.out]; rfl
          have c3_4 : X11.cell? ⟨(wr.heap.size + 1), 4, none⟩ = some (.int .i64 0) := by rw [cell_of_row _ _ _ _ _ _ H11_3.out]; rfl
          have c3_5 : X11.cell? ⟨(wr.heap.size + 1), 5, none⟩ = some (.int .u8 0) := by rw [cell_of_row _ _ _ _ _ _ H11_3.out]; rfl
          have c4_0 : X11.cell? ⟨X4.heap.size, 0, none⟩ = some (.int .u8 4) := by rw [cell_of_row _ _ _ _ _ _ H11_4.out]; rfl
          have c4_1 : X11.cell? ⟨X4.heap.size, 1, none⟩ = some (.int .i64 s) := by rw [cell_of_row _ _ _ _ _ _ H11_4.out]; rfl
          have c4_2 : X11.cell? ⟨X4.heap.size, 2, none⟩ = some (.int .i64 c) := by rw [cell_of_row _ _ _ _ _ _ H11_4.out]; rfl
          have c4_3 : X11.cell? ⟨X4.heap.size, 3, none⟩ = some (.int .i64 0) := by rw [cell_of_row _ _ _ _ _ _ H11_4.out]; rfl
          have c4_4 : X11.cell? ⟨X4.heap.size, 4, none⟩ = some (.int .i64 0) := by rw [cell_of_row _ _ _ _ _ _ H11_4.out]; rfl
          have c4_5 : X11.cell? ⟨X4.heap.size, 5, none⟩ = some (.int .u8 1) := by rw [cell_of_row _ _ _ _ _ _ H11_4.out]; rfl
          have c5_0 : X11.cell? ⟨(X4.heap.size + 1), 0, none⟩ = some (.int .u8 4) := by rw [cell_of_row _ _ _ _ _ _ H11_5.out]; rfl
          have c5_1 : X11.cell? ⟨(X4.heap.size + 1), 1, none⟩ = some (.int .i64 s) := by rw [cell_of_row _ _ _ _ _ _ H11_5.out]; rfl
          have c5_2 : X11.cell? ⟨(X4.heap.size + 1), 2, none⟩ = some (.int .i64 c) := by rw [cell_of_row _ _ _ _ _ _ H11_5.out]; rfl
          have c5_3 : X11.cell? ⟨(X4.heap.size + 1), 3, none⟩ = some (.int .i64 0) := by rw [cell_of_row _ _ _ _ _ _ H11_5.out]; rfl
          have c5_4 : X11.cell? ⟨(X4.heap.size + 1), 4, none⟩ = some (.int .i64 0) := by rw [cell_of_row _ _ _ _ _ _ H11_5.out]; rfl
          have c5_5 : X11.cell? ⟨(X4.heap.size + 1), 5, none⟩ = some (.int .u8 1) := by rw [cell_of_row _ _ _ _ _ _ H11_5.out]; rfl
          go_wp2
          go_roundw
          case rel => exact ⟨j + 1, (st.drop ((s : Int), (c : Int))), by omega, by go_num, (HF.out.drop s3 c3), (HL11.out.less (fun i hi => by rcases hi with rfl | rfl; exact .inl rfl; exact .inr (.inl rfl))).imp (fun F hF => stoB_mono hF (by omega)), H11_0, H11_1⟩
          case measure => simp [intOf]; omega
        | some x =>
          have z0 : X8.cell? ⟨SB, s * 3 + c, none⟩ = some (.int .u8 x) := by rw [H8_0.out.cell (by omega), gSaid_at c3, hsd]; rfl
          have hx0 : (x == 0) = false := by have := HF.out.said _ _ hsd; simp; omega
          go_wp2_with (fail)
          go_quiet (fail)
          have HSD := Lib.hid hsd
          have hK : ∀ i, i < X8.heap.size → (X8.drewN nq).heap[i]? = X8.heap[i]? := fun i hi => rfl
          have H9_0 : Hid (ArrB (X8.drewN nq) SB 51 9 (gSaid st)) := H8_0.out.kept (hK SB (by omega))
          have H9_1 : Hid (ArrB (X8.drewN nq) (SB + 1) 53 9 (gAside (st.drop ((s : Int), (c : Int))))) := H8_1.out.kept (hK (SB + 1) (by omega))
          have H9_2 : Hid ((X8.drewN nq).heap[wr.heap.size]? = some (.cells #[.int .u8 k, .int .u8 s0, .int .u8 c0, .int .u8 v] 55 (0, 0))) := (hK wr.heap.size (by omega)).trans H8_2.out
          have H9_3 : Hid ((X8.drewN nq).heap[(wr.heap.size + 1)]? = some (.cells #[.int .u8 4, .int .i64 s, .int .i64 c, .int .i64 0, .int .i64 0, .int .u8 0] 31 (0, 0))) := (hK (wr.heap.size + 1) (by omega)).trans H8_3.out
          have H9_4 : Hid ((X8.drewN nq).heap[X4.heap.size]? = some (.cells #[.int .u8 4, .int .i64 s, .int .i64 c, .int .i64 0, .int .i64 0, .int .u8 1] 31 (0, 0))) := (hK X4.heap.size (by omega)).trans H8_4.out
          have H9_5 : Hid ((X8.drewN nq).heap[(X4.heap.size + 1)]? = some (.cells #[.int .u8 4, .int .i64 s, .int .i64 c, .int .i64 0, .int .i64 0, .int .u8 1] 31 (0, 0))) := (hK (X4.heap.size + 1) (by omega)).trans H8_5.out
          have HL9 : Hid (LiveO (StoB (U.heap.size + 2) (st.drop ((s : Int), (c : Int))) (2 * j + 2)) U (fun (i : Nat) => i = SB ∨ i = (SB + 1) ∨ i = wr.heap.size ∨ i = (wr.heap.size + 1) ∨ i = X4.heap.size ∨ i = (X4.heap.size + 1)) (X8.drewN nq)) := HL8.out.below (sto_thing (U.heap.size + 2) (st.drop ((s : Int), (c : Int))) (2 * j + 2)) (Below.drewN' (Below.refl _ _) _)
          have : SB < (X8.drewN nq).heap.size := by show _ < X8.heap.size; first | omega | (rw [World.size_alloc]; omega) | (rw [setCell_size]; omega)
          have : (SB + 1) < (X8.drewN nq).heap.size := by show _ < X8.heap.size; first | omega | (rw [World.size_alloc]; omega) | (rw [setCell_size]; omega)
          have : wr.heap.size < (X8.drewN nq).heap.size := by show _ < X8.heap.size; first | omega | (rw [World.size_alloc]; omega) | (rw [setCell_size]; omega)
          have : (wr.heap.size + 1) < (X8.drewN nq).heap.size := by show _ < X8.heap.size; first | omega | (rw [World.size_alloc]; omega) | (rw [setCell_size]; omega)
          have : X4.heap.size < (X8.drewN nq).heap.size := by show _ < X8.heap.size; first | omega | (rw [World.size_alloc]; omega) | (rw [setCell_size]; omega)
          have : (X4.heap.size + 1) < (X8.drewN nq).heap.size := by show _ < X8.heap.size; first | omega | (rw [World.size_alloc]; omega) | (rw [setCell_size]; omega)
          have ls9 : U.heap.size ≤ (X8.drewN nq).heap.size := by show _ ≤ X8.heap.size; first | omega | (rw [World.size_alloc]; omega) | (rw [setCell_size]; omega)
          have lt9 : X8.heap.size ≤ (X8.drewN nq).heap.size := by show _ ≤ X8.heap.size; first | omega | (rw [World.size_alloc]; omega) | (rw [setCell_size]; omega)
          clear hK HL8 H8_0 H8_1 H8_2 H8_3 H8_4 H8_5 c3_0 c3_1 c3_2 c3_3 c3_4 c3_5 z0
          generalize (X8.drewN nq) = X9 at *
          have HG : Hid (ArrB X9 SB 51 9 (gSaid (st.drop ((s : Int), (c : Int))))) := H9_0.out.congr (fun i _ => said_drop_some HSD.out i)
          clear H9_0
          have H9_0 := HG
          clear HG
          have c3_0 : X9.cell? ⟨(wr.heap.size + 1), 0, none⟩ = some (.int .u8 4) := by rw [cell_of_row _ _ _ _ _ _ H9_3.out]; rfl
          have c3_1 : X9.cell? ⟨(wr.heap.size + 1), 1, none⟩ = some (.int .i64 s) := by rw [cell_of_row _ _ _ _ _ _ H9_3.out]; rfl
          have c3_2 : X9.cell? ⟨(wr.heap.size + 1), 2, none⟩ = some (.int .i64 c) := by rw [cell_of_row _ _ _ _ _ _ H9_3.out]; rfl
          have c3_3 : X9.cell? ⟨(wr.heap.size + 1), 3, none⟩ = some (.int .i64 0) := by rw [cell_of_row _ _ _ _ _ _ H9_3.out]; rfl
          have c3_4 : X9.cell? ⟨(wr.heap.size + 1), 4, none⟩ = some (.int .i64 0) := by rw [cell_of_row _ _ _ _ _ _ H9_3.out]; rfl
          have c3_5 : X9.cell? ⟨(wr.heap.size + 1), 5, none⟩ = some (.int .u8 0) := by rw [cell_of_row _ _ _ _ _ _ H9_3.out]; rfl
          have c4_0 : X9.cell? ⟨X4.heap.size, 0, none⟩ = some (.int .u8 4) := by rw [cell_of_row _ _ _ _ _ _ H9_4.out]; rfl
          have c4_1 : X9.cell? ⟨X4.heap.size, 1, none⟩ = some (.int .i64 s) := by rw [cell_of_row _ _ _ _ _ _ H9_4.out]; rfl
          have c4_2 : X9.cell? ⟨X4.heap.size, 2, none⟩ = some (.int .i64 c) := by rw [cell_of_row _ _ _ _ _ _ H9_4.out]; rfl
          have c4_3 : X9.cell? ⟨X4.heap.size, 3, none⟩ = some (.int .i64 0) := by rw [cell_of_row _ _ _ _ _ _ H9_4.out]; rfl
          have c4_4 : X9.cell? ⟨X4.heap.size, 4, none⟩ = some (.int .i64 0) := by rw [cell_of_row _ _ _ _ _ _ H9_4.out]; rfl
          have c4_5 : X9.cell? ⟨X4.heap.size, 5, none⟩ = some (.int .u8 1) := by rw [cell_of_row _ _ _ _ _ _ H9_4.out]; rfl
          have c5_0 : X9.cell? ⟨(X4.heap.size + 1), 0, none⟩ = some (.int .u8 4) := by rw [cell_of_row _ _ _ _ _ _ H9_5.out]; rfl
          have c5_1 : X9.cell? ⟨(X4.heap.size + 1), 1, none⟩ = some (.int .i64 s) := by rw [cell_of_row _ _ _ _ _ _ H9_5.out]; rfl
          have c5_2 : X9.cell? ⟨(X4.heap.size + 1), 2, none⟩ = some (.int .i64 c) := by rw [cell_of_row _ _ _ _ _ _ H9_5.out]; rfl
          have c5_3 : X9.cell? ⟨(X4.heap.size + 1), 3, none⟩ = some (.int .i64 0) := by rw [cell_of_row _ _ _ _ _ _ H9_5.out]; rfl
          have c5_4 : X9.cell? ⟨(X4.heap.size + 1), 4, none⟩ = some (.int .i64 0) := by rw [cell_of_row _ _ _ _ _ _ H9_5.out]; rfl
          have c5_5 : X9.cell? ⟨(X4.heap.size + 1), 5, none⟩ = some (.int .u8 1) := by rw [cell_of_row _ _ _ _ _ _ H9_5.out]; rfl
          go_wp2
          go_roundw
          case rel => exact ⟨j + 1, (st.drop ((s : Int), (c : Int))), by omega, by go_num, (HF.out.drop s3 c3), (HL9.out.less (fun i hi => by rcases hi with rfl | rfl; exact .inl rfl; exact .inr (.inl rfl))).imp (fun F hF => stoB_mono hF (by omega)), H9_0, H9_1⟩
          case measure => simp [intOf]; omega
      have hq7 : 0 ≤ k % 7 ∧ k % 7 < 7 := by omega
      have b4 : (k % 7 == 4) = false := by simpa using qq4
      have b5 : (k % 7 == 5) = false := by simpa using qq5
      have b6 : (k % 7 == 6) = false := by simpa using qq6
      cases hsd : st.said ((s : Int), (c : Int)) with
      | none =>
        by_cases hv1 : v = 1
        · subst hv1
          skip
          go_wp2_with (refine wpList_load_mid rfl _ _ rfl gg (oo + j * 4) rfl [.int .u8 k, .int .u8 s0, .int .u8 c0, .int .u8 1] _ HRG.out Try.underlying55 rfl (by kernel_rfl) ?_)
          have HL1 := HL
          have ls1 : U.heap.size ≤ wr.heap.size := HL1.out.old.size
          have H1_0 := HS
          have H1_1 := HA
          have : SB < wr.heap.size := H1_0.out.lt
          have : (SB + 1) < wr.heap.size := H1_1.out.lt
          have hK : ∀ i, i < wr.heap.size → (wr.alloc (.cells #[.int .u8 k, .int .u8 s0, .int .u8 c0, .int .u8 1] 55)).heap[i]? = wr.heap[i]? := fun i hi => alloc_block_old hi
          have H2_0 : Hid (ArrB (wr.alloc (.cells #[.int .u8 k, .int .u8 s0, .int .u8 c0, .int .u8 1] 55)) SB 51 9 (gSaid st)) := H1_0.out.kept (hK SB (by omega))
          have H2_1 : Hid (ArrB (wr.alloc (.cells #[.int .u8 k, .int .u8 s0, .int .u8 c0, .int .u8 1] 55)) (SB + 1) 53 9 (gAside st)) := H1_1.out.kept (hK (SB + 1) (by omega))
          have H2_2 : Hid ((wr.alloc (.cells #[.int .u8 k, .int .u8 s0, .int .u8 c0, .int .u8 1] 55)).heap[wr.heap.size]? = some (.cells #[.int .u8 k, .int .u8 s0, .int .u8 c0, .int .u8 1] 55 (0, 0))) := alloc_at (by omega)
          have HL2 : Hid (LiveO (StoB (U.heap.size + 2) st (2 * j)) U (fun (i : Nat) => i = SB ∨ i = (SB + 1) ∨ i = wr.heap.size) (wr.alloc (.cells #[.int .u8 k, .int .u8 s0, .int .u8 c0, .int .u8 1] 55))) := (HL1.out.alloc (sto_thing (U.heap.size + 2) st (2 * j)) (.cells #[.int .u8 k, .int .u8 s0, .int .u8 c0, .int .u8 1] 55)).less (N' := (fun (i : Nat) => i = SB ∨ i = (SB + 1) ∨ i = wr.heap.size)) (fun i hi => by rcases hi with h0 | h1 | h2; exact .inl (.inl h0); exact .inl (.inr h1); exact .inr (by omega))
          have : SB < (wr.alloc (.cells #[.int .u8 k, .int .u8 s0, .int .u8 c0, .int .u8 1] 55)).heap.size := by first | omega | (rw [World.size_alloc]; omega) | (rw [setCell_size]; omega)
          have : (SB + 1) < (wr.alloc (.cells #[.int .u8 k, .int .u8 s0, .int .u8 c0, .int .u8 1] 55)).heap.size := by first | omega | (rw [World.size_alloc]; omega) | (rw [setCell_size]; omega)
          have ls2 : U.heap.size ≤ (wr.alloc (.cells #[.int .u8 k, .int .u8 s0, .int .u8 c0, .int .u8 1] 55)).heap.size := by first | omega | (rw [World.size_alloc]; omega) | (rw [setCell_size]; omega)
          have lt2 : wr.heap.size ≤ (wr.alloc (.cells #[.int .u8 k, .int .u8 s0, .int .u8 c0, .int .u8 1] 55)).heap.size := by first | omega | (rw [World.size_alloc]; omega) | (rw [setCell_size]; omega)
          have : wr.heap.size < (wr.alloc (.cells #[.int .u8 k, .int .u8 s0, .int .u8 c0, .int .u8 1] 55)).heap.size := by rw [World.size_alloc]; omega
          have lg2 : (wr.alloc (.cells #[.int .u8 k, .int .u8 s0, .int .u8 c0, .int .u8 1] 55)).heap.size ≤ wr.heap.size + 1 ∧ wr.heap.size + 1 ≤ (wr.alloc (.cells #[.int .u8 k, .int .u8 s0, .int .u8 c0, .int .u8 1] 55)).heap.size := by rw [World.size_alloc]; omega
          have : SB < wr.heap.size := by omega
          have : (SB + 1) < wr.heap.size := by omega
          clear hK HL1 H1_0 H1_1
          generalize (wr.alloc (.cells #[.int .u8 k, .int .u8 s0, .int .u8 c0, .int .u8 1] 55)) = X2 at *
          have hK : ∀ i, i < X2.heap.size → (X2.alloc (.cells #[.int .u8 3, .int .i64 s, .int .i64 c, .int .i64 0, .int .i64 0, .int .u8 0] 31)).heap[i]? = X2.heap[i]? := fun i hi => alloc_block_old hi
          have H3_0 : Hid (ArrB (X2.alloc (.cells #[.int .u8 3, .int .i64 s, .int .i64 c, .int .i64 0, .int .i64 0, .int .u8 0] 31)) SB 51 9 (gSaid st)) := H2_0.out.kept (hK SB (by omega))
          have H3_1 : Hid (ArrB (X2.alloc (.cells #[.int .u8 3, .int .i64 s, .int .i64 c, .int .i64 0, .int .i64 0, .int .u8 0] 31)) (SB + 1) 53 9 (gAside st)) := H2_1.out.kept (hK (SB + 1) (by omega))
          have H3_2 : Hid ((X2.alloc (.cells #[.int .u8 3, .int .i64 s, .int .i64 c, .int .i64 0, .int .i64 0, .int .u8 0] 31)).heap[wr.heap.size]? = some (.cells #[.int .u8 k, .int .u8 s0, .int .u8 c0, .int .u8 1] 55 (0, 0))) := (hK wr.heap.size (by omega)).trans H2_2.out
          have H3_3 : Hid ((X2.alloc (.cells #[.int .u8 3, .int .i64 s, .int .i64 c, .int .i64 0, .int .i64 0, .int .u8 0] 31)).heap[(wr.heap.size + 1)]? = some (.cells #[.int .u8 3, .int .i64 s, .int .i64 c, .int .i64 0, .int .i64 0, .int .u8 0] 31 (0, 0))) := alloc_at (by omega)
          have HL3 : Hid (LiveO (StoB (U.heap.size + 2) st (2 * j)) U (fun (i : Nat) => i = SB ∨ i = (SB + 1) ∨ i = wr.heap.size ∨ i = (wr.heap.size + 1)) (X2.alloc (.cells #[.int .u8 3, .int .i64 s, .int .i64 c, .int .i64 0, .int .i64 0, .int .u8 0] 31))) := (HL2.out.alloc (sto_thing (U.heap.size + 2) st (2 * j)) (.cells #[.int .u8 3, .int .i64 s, .int .i64 c, .int .i64 0, .int .i64 0, .int .u8 0] 31)).less (N' := (fun (i : Nat) => i = SB ∨ i = (SB + 1) ∨ i = wr.heap.size ∨ i = (wr.heap.size + 1))) (fun i hi => by rcases hi with h0 | h1 | h2 | h3; exact .inl (.inl h0); exact .inl (.inr (.inl h1)); exact .inl (.inr (.inr h2)); exact .inr (by omega))
          have : SB < (X2.alloc (.cells #[.int .u8 3, .int .i64 s, .int .i64 c, .int .i64 0, .int .i64 0, .int .u8 0] 31)).heap.size := by first | omega | (rw [World.size_alloc]; omega) | (rw [setCell_size]; omega)
          have : (SB + 1) < (X2.alloc (.cells #[.int .u8 3, .int .i64 s, .int .i64 c, .int .i64 0, .int .i64 0, .int .u8 0] 31)).heap.size := by first | omega | (rw [World.size_alloc]; omega) | (rw [setCell_size]; omega)
          have : wr.heap.size < (X2.alloc (.cells #[.int .u8 3, .int .i64 s, .int .i64 c, .int .i64 0, .int .i64 0, .int .u8 0] 31)).heap.size := by first | omega | (rw [World.size_alloc]; omega) | (rw [setCell_size]; omega)
          have ls3 : U.heap.size ≤ (X2.alloc (.cells #[.int .u8 3, .int .i64 s, .int .i64 c, .int .i64 0, .int .i64 0, .int .u8 0] 31)).heap.size := by first | omega | (rw [World.size_alloc]; omega) | (rw [setCell_size]; omega)
          have lt3 : X2.heap.size ≤ (X2.alloc (.cells #[.int .u8 3, .int .i64 s, .int .i64 c, .int .i64 0, .int .i64 0, .int .u8 0] 31)).heap.size := by first | omega | (rw [World.size_alloc]; omega) | (rw [setCell_size]; omega)
          have : (wr.heap.size + 1) < (X2.alloc (.cells #[.int .u8 3, .int .i64 s, .int .i64 c, .int .i64 0, .int .i64 0, .int .u8 0] 31)).heap.size := by rw [World.size_alloc]; omega
          have lg3 : (X2.alloc (.cells #[.int .u8 3, .int .i64 s, .int .i64 c, .int .i64 0, .int .i64 0, .int .u8 0] 31)).heap.size ≤ X2.heap.size + 1 ∧ X2.heap.size + 1 ≤ (X2.alloc (.cells #[.int .u8 3, .int .i64 s, .int .i64 c, .int .i64 0, .int .i64 0, .int .u8 0] 31)).heap.size := by rw [World.size_alloc]; omega
          have : SB < (wr.heap.size + 1) := by omega
          have : (SB + 1) < (wr.heap.size + 1) := by omega
          have : wr.heap.size < (wr.heap.size + 1) := by omega
          clear hK HL2 H2_0 H2_1 H2_2
          generalize (X2.alloc (.cells #[.int .u8 3, .int .i64 s, .int .i64 c, .int .i64 0, .int .i64 0, .int .u8 0] 31)) = X3 at *
          refine (shear_alloc_live HL3.out (fun i hx0 => (hx0.elim (fun (hi : i = SB) => by omega) (fun hx1 => (hx1.elim (fun (hi : i = (SB + 1)) => by omega) (fun hx2 => (hx2.elim (fun (hi : i = wr.heap.size) => by omega) (fun hx3 => ((fun (hi : i = (wr.heap.size + 1)) => by omega) hx3)))))))) hk (by omega)).mono ?_
          rintro e X4 ⟨rfl, hl, hk⟩
          have hsz : X3.heap.size ≤ X4.heap.size := hk.size
          have H4_0 : Hid (ArrB X4 SB 51 9 (gSaid st)) := H3_0.out.kept (hk.block SB (.inl rfl))
          have H4_1 : Hid (ArrB X4 (SB + 1) 53 9 (gAside st)) := H3_1.out.kept (hk.block (SB + 1) (.inr (.inl rfl)))
          have H4_2 : Hid (X4.heap[wr.heap.size]? = some (.cells #[.int .u8 k, .int .u8 s0, .int .u8 c0, .int .u8 1] 55 (0, 0))) := (hk.block wr.heap.size (.inr (.inr (.inl rfl)))).trans H3_2.out
          have H4_3 : Hid (X4.heap[(wr.heap.size + 1)]? = some (.cells #[.int .u8 3, .int .i64 s, .int .i64 c, .int .i64 0, .int .i64 0, .int .u8 0] 31 (0, 0))) := (hk.block (wr.heap.size + 1) (.inr (.inr (.inr rfl)))).trans H3_3.out
          have HL4 := Lib.hid hl
          have : SB < X4.heap.size := by omega
          have : (SB + 1) < X4.heap.size := by omega
          have : wr.heap.size < X4.heap.size := by omega
          have : (wr.heap.size + 1) < X4.heap.size := by omega
          have ls4 : U.heap.size ≤ X4.heap.size := by omega
          clear hl hk hsz HL3 H3_0 H3_1 H3_2 H3_3
          have c3_0 : X4.cell? ⟨(wr.heap.size + 1), 0, none⟩ = some (.int .u8 3) := by rw [cell_of_row _ _ _ _ _ _ H4_3.out]; rfl
          have c3_1 : X4.cell? ⟨(wr.heap.size + 1), 1, none⟩ = some (.int .i64 s) := by rw [cell_of_row _ _ _ _ _ _ H4_3.out]; rfl
          have c3_2 : X4.cell? ⟨(wr.heap.size + 1), 2, none⟩ = some (.int .i64 c) := by rw [cell_of_row _ _ _ _ _ _ H4_3.out]; rfl
          have c3_3 : X4.cell? ⟨(wr.heap.size + 1), 3, none⟩ = some (.int .i64 0) := by rw [cell_of_row _ _ _ _ _ _ H4_3.out]; rfl
          have c3_4 : X4.cell? ⟨(wr.heap.size + 1), 4, none⟩ = some (.int .i64 0) := by rw [cell_of_row _ _ _ _ _ _ H4_3.out]; rfl
          have c3_5 : X4.cell? ⟨(wr.heap.size + 1), 5, none⟩ = some (.int .u8 0) := by rw [cell_of_row _ _ _ _ _ _ H4_3.out]; rfl
          have HSD : Hid (st.said ((s : Int), (c : Int)) = none) := hsd
          have ha : st.ans ((s : Int), (c : Int)) 1 = 1 := by unfold Sto.ans; rw [hsd]; rfl
          rw [ha]
          clear ha
          go_wp2
          have hK : ∀ i, i < X4.heap.size → (X4.alloc (.cells #[.int .u8 3, .int .i64 s, .int .i64 c, .int .i64 0, .int .i64 0, .int .u8 1] 31)).heap[i]? = X4.heap[i]? := fun i hi => alloc_block_old hi
          have H5_0 : Hid (ArrB (X4.alloc (.cells #[.int .u8 3, .int .i64 s, .int .i64 c, .int .i64 0, .int .i64 0, .int .u8 1] 31)) SB 51 9 (gSaid st)) := H4_0.out.kept (hK SB (by omega))
          have H5_1 : Hid (ArrB (X4.alloc (.cells #[.int .u8 3, .int .i64 s, .int .i64 c, .int .i64 0, .int .i64 0, .int .u8 1] 31)) (SB + 1) 53 9 (gAside st)) := H4_1.out.kept (hK (SB + 1) (by omega))
          have H5_2 : Hid ((X4.alloc (.cells #[.int .u8 3, .int .i64 s, .int .i64 c, .int .i64 0, .int .i64 0, .int .u8 1] 31)).heap[wr.heap.size]? = some (.cells #[.int .u8 k, .int .u8 s0, .int .u8 c0, .int .u8 1] 55 (0, 0))) := (hK wr.heap.size (by omega)).trans H4_2.out
          have H5_3 : Hid ((X4.alloc (.cells #[.int .u8 3, .int .i64 s, .int .i64 c, .int .i64 0, .int .i64 0, .int .u8 1] 31)).heap[(wr.heap.size + 1)]? = some (.cells #[.int .u8 3, .int .i64 s, .int .i64 c, .int .i64 0, .int .i64 0, .int .u8 0] 31 (0, 0))) := (hK (wr.heap.size + 1) (by omega)).trans H4_3.out
          have H5_4 : Hid ((X4.alloc (.cells #[.int .u8 3, .int .i64 s, .int .i64 c, .int .i64 0, .int .i64 0, .int .u8 1] 31)).heap[X4.heap.size]? = some (.cells #[.int .u8 3, .int .i64 s, .int .i64 c, .int .i64 0, .int .i64 0, .int .u8 1] 31 (0, 0))) := alloc_at (by omega)
          have HL5 : Hid (LiveO (StoB (U.heap.size + 2) (st.alloc ((s : Int), (c : Int)) 1) (2 * j + 2)) U (fun (i : Nat) => i = SB ∨ i = (SB + 1) ∨ i = wr.heap.size ∨ i = (wr.heap.size + 1) ∨ i = X4.heap.size) (X4.alloc (.cells #[.int .u8 3, .int .i64 s, .int .i64 c, .int .i64 0, .int .i64 0, .int .u8 1] 31))) := (HL4.out.alloc (sto_thing (U.heap.size + 2) (st.alloc ((s : Int), (c : Int)) 1) (2 * j + 2)) (.cells #[.int .u8 3, .int .i64 s, .int .i64 c, .int .i64 0, .int .i64 0, .int .u8 1] 31)).less (N' := (fun (i : Nat) => i = SB ∨ i = (SB + 1) ∨ i = wr.heap.size ∨ i = (wr.heap.size + 1) ∨ i = X4.heap.size)) (fun i hi => by rcases hi with h0 | h1 | h2 | h3 | h4; exact .inl (.inl h0); exact .inl (.inr (.inl h1)); exact .inl (.inr (.inr (.inl h2))); exact .inl (.inr (.inr (.inr h3))); exact .inr (by omega))
          have : SB < (X4.alloc (.cells #[.int .u8 3, .int .i64 s, .int .i64 c, .int .i64 0, .int .i64 0, .int .u8 1] 31)).heap.size := by first | omega | (rw [World.size_alloc]; omega) | (rw [setCell_size]; omega)
          have : (SB + 1) < (X4.alloc (.cells #[.int .u8 3, .int .i64 s, .int .i64 c, .int .i64 0, .int .i64 0, .int .u8 1] 31)).heap.size := by first | omega | (rw [World.size_alloc]; omega) | (rw [setCell_size]; omega)
          have : wr.heap.size < (X4.alloc (.cells #[.int .u8 3, .int .i64 s, .int .i64 c, .int .i64 0, .int .i64 0, .int .u8 1] 31)).heap.size := by first | omega | (rw [World.size_alloc]; omega) | (rw [setCell_size]; omega)
          have : (wr.heap.size + 1) < (X4.alloc (.cells #[.int .u8 3, .int .i64 s, .int .i64 c, .int .i64 0, .int .i64 0, .int .u8 1] 31)).heap.size := by first | omega | (rw [World.size_alloc]; omega) | (rw [setCell_size]; omega)
          have ls5 : U.heap.size ≤ (X4.alloc (.cells #[.int .u8 3, .int .i64 s, .int .i64 c, .int .i64 0, .int .i64 0, .int .u8 1] 31)).heap.size := by first | omega | (rw [World.size_alloc]; omega) | (rw [setCell_size]; omega)
          have lt5 : X4.heap.size ≤ (X4.alloc (.cells #[.int .u8 3, .int .i64 s, .int .i64 c, .int .i64 0, .int .i64 0, .int .u8 1] 31)).heap.size := by first | omega | (rw [World.size_alloc]; omega) | (rw [setCell_size]; omega)
          have : X4.heap.size < (X4.alloc (.cells #[.int .u8 3, .int .i64 s, .int .i64 c, .int .i64 0, .int .i64 0, .int .u8 1] 31)).heap.size := by rw [World.size_alloc]; omega
          have lg5 : (X4.alloc (.cells #[.int .u8 3, .int .i64 s, .int .i64 c, .int .i64 0, .int .i64 0, .int .u8 1] 31)).heap.size ≤ X4.heap.size + 1 ∧ X4.heap.size + 1 ≤ (X4.alloc (.cells #[.int .u8 3, .int .i64 s, .int .i64 c, .int .i64 0, .int .i64 0, .int .u8 1] 31)).heap.size := by rw [World.size_alloc]; omega
          have : SB < X4.heap.size := by omega
          have : (SB + 1) < X4.heap.size := by omega
          have : wr.heap.size < X4.heap.size := by omega
          have : (wr.heap.size + 1) < X4.heap.size := by omega
          clear hK HL4 H4_0 H4_1 H4_2 H4_3 c3_0 c3_1 c3_2 c3_3 c3_4 c3_5
          generalize (X4.alloc (.cells #[.int .u8 3, .int .i64 s, .int .i64 c, .int .i64 0, .int .i64 0, .int .u8 1] 31)) = X5 at *
          have hK : ∀ i, i < X5.heap.size → (X5.alloc (.cells #[.int .u8 3, .int .i64 s, .int .i64 c, .int .i64 0, .int .i64 0, .int .u8 0] 31)).heap[i]? = X5.heap[i]? := fun i hi => alloc_block_old hi
          have H6_0 : Hid (ArrB (X5.alloc (.cells #[.int .u8 3, .int .i64 s, .int .i64 c, .int .i64 0, .int .i64 0, .int .u8 0] 31)) SB 51 9 (gSaid st)) := H5_0.out.kept (hK SB (by omega))
          have H6_1 : Hid (ArrB (X5.alloc (.cells #[.int .u8 3, .int .i64 s, .int .i64 c, .int .i64 0, .int .i64 0, .int .u8 0] 31)) (SB + 1) 53 9 (gAside st)) := H5_1.out.kept (hK (SB + 1) (by omega))
          have H6_2 : Hid ((X5.alloc (.cells #[.int .u8 3, .int .i64 s, .int .i64 c, .int .i64 0, .int .i64 0, .int .u8 0] 31)).heap[wr.heap.size]? = some (.cells #[.int .u8 k, .int .u8 s0, .int .u8 c0, .int .u8 1] 55 (0, 0))) := (hK wr.heap.size (by omega)).trans H5_2.out
          have H6_3 : Hid ((X5.alloc (.cells #[.int .u8 3, .int .i64 s, .int .i64 c, .int .i64 0, .int .i64 0, .int .u8 0] 31)).heap[(wr.heap.size + 1)]? = some (.cells #[.int .u8 3, .int .i64 s, .int .i64 c, .int .i64 0, .int .i64 0, .int .u8 0] 31 (0, 0))) := (hK (wr.heap.size + 1) (by omega)).trans H5_3.out
          have H6_4 : Hid ((X5.alloc (.cells #[.int .u8 3, .int .i64 s, .int .i64 c, .int .i64 0, .int .i64 0, .int .u8 0] 31)).heap[X4.heap.size]? = some (.cells #[.int .u8 3, .int .i64 s, .int .i64 c, .int .i64 0, .int .i64 0, .int .u8 1] 31 (0, 0))) := (hK X4.heap.size (by omega)).trans H5_4.out
          have H6_5 : Hid ((X5.alloc (.cells #[.int .u8 3, .int .i64 s, .int .i64 c, .int .i64 0, .int .i64 0, .int .u8 0] 31)).heap[(X4.heap.size + 1)]? = some (.cells #[.int .u8 3, .int .i64 s, .int .i64 c, .int .i64 0, .int .i64 0, .int .u8 0] 31 (0, 0))) := alloc_at (by omega)
          have HL6 : Hid (LiveO (StoB (U.heap.size + 2) (st.alloc ((s : Int), (c : Int)) 1) (2 * j + 2)) U (fun (i : Nat) => i = SB ∨ i = (SB + 1) ∨ i = wr.heap.size ∨ i = (wr.heap.size + 1) ∨ i = X4.heap.size ∨ i = (X4.heap.size + 1)) (X5.alloc (.cells #[.int .u8 3, .int .i64 s, .int .i64 c, .int .i64 0, .int .i64 0, .int .u8 0] 31))) := (HL5.out.alloc (sto_thing (U.heap.size + 2) (st.alloc ((s : Int), (c : Int)) 1) (2 * j + 2)) (.cells #[.int .u8 3, .int .i64 s, .int .i64 c, .int .i64 0, .int .i64 0, .int .u8 0] 31)).less (N' := (fun (i : Nat) => i = SB ∨ i = (SB + 1) ∨ i = wr.heap.size ∨ i = (wr.heap.size + 1) ∨ i = X4.heap.size ∨ i = (X4.heap.size + 1))) (fun i hi => by rcases hi with h0 | h1 | h2 | h3 | h4 | h5; exact .inl (.inl h0); exact .inl (.inr (.inl h1)); exact .inl (.inr (.inr (.inl h2))); exact .inl (.inr (.inr (.inr (.inl h3)))); exact .inl (.inr (.inr (.inr (.inr h4)))); exact .inr (by omega))
          have : SB < (X5.alloc (.cells #[.int .u8 3, .int .i64 s, .int .i64 c, .int .i64 0, .int .i64 0, .int .u8 0] 31)).heap.size := by first | omega | (rw [World.size_alloc]; omega) | (rw [setCell_size]; omega)
          have : (SB + 1) < (X5.alloc (.cells #[.int .u8 3, .int .i64 s, .int .i64 c, .int .i64 0, .int .i64 0, .int .u8 0] 31)).heap.size := by first | omega | (rw [World.size_alloc]; omega) | (rw [setCell_size]; omega)
          have : wr.heap.size < (X5.alloc (.cells #[.int .u8 3, .int .i64 s, .int .i64 c, .int .i64 0, .int .i64 0, .int .u8 0] 31)).heap.size := by first | omega | (rw [World.size_alloc]; omega) | (rw [setCell_size]; omega)
          have : (wr.heap.size + 1) < (X5.alloc (.cells #[.int .u8 3, .int .i64 s, .int .i64 c, .int .i64 0, .int .i64 0, .int .u8 0] 31)).heap.size := by first | omega | (rw [World.size_alloc]; omega) | (rw [setCell_size]; omega)
          have : X4.heap.size < (X5.alloc (.cells #[.int .u8 3, .int .i64 s, .int .i64 c, .int .i64 0, .int .i64 0, .int .u8 0] 31)).heap.size := by first | omega | (rw [World.size_alloc]; omega) | (rw [setCell_size]; omega)
          have ls6 : U.heap.size ≤ (X5.alloc (.cells #[.int .u8 3, .int .i64 s, .int .i64 c, .int .i64 0, .int .i64 0, .int .u8 0] 31)).heap.size := by first | omega | (rw [World.size_alloc]; omega) | (rw [setCell_size]; omega)
          have lt6 : X5.heap.size ≤ (X5.alloc (.cells #[.int .u8 3, .int .i64 s, .int .i64 c, .int .i64 0, .int .i64 0, .int .u8 0] 31)).heap.size := by first | omega | (rw [World.size_alloc]; omega) | (rw [setCell_size]; omega)
          have : (X4.heap.size + 1) < (X5.alloc (.cells #[.int .u8 3, .int .i64 s, .int .i64 c, .int .i64 0, .int .i64 0, .int .u8 0] 31)).heap.size := by rw [World.size_alloc]; omega
          have lg6 : (X5.alloc (.cells #[.int .u8 3, .int .i64 s, .int .i64 c, .int .i64 0, .int .i64 0, .int .u8 0] 31)).heap.size ≤ X5.heap.size + 1 ∧ X5.heap.size + 1 ≤ (X5.alloc (.cells #[.int .u8 3, .int .i64 s, .int .i64 c, .int .i64 0, .int .i64 0, .int .u8 0] 31)).heap.size := by rw [World.size_alloc]; omega
          have : SB < (X4.heap.size + 1) := by omega
          have : (SB + 1) < (X4.heap.size + 1) := by omega
          have : wr.heap.size < (X4.heap.size + 1) := by omega
          have : (wr.heap.size + 1) < (X4.heap.size + 1) := by omega
          have : X4.heap.size < (X4.heap.size + 1) := by omega
          clear hK HL5 H5_0 H5_1 H5_2 H5_3 H5_4
          generalize (X5.alloc (.cells #[.int .u8 3, .int .i64 s, .int .i64 c, .int .i64 0, .int .i64 0, .int .u8 0] 31)) = X6 at *
          have c3_0 : X6.cell? ⟨(wr.heap.size + 1), 0, none⟩ = some (.int .u8 3) := by rw [cell_of_row _ _ _ _ _ _ H6_3.out]; rfl
          have c3_1 : X6.cell? ⟨(wr.heap.size + 1), 1, none⟩ = some (.int .i64 s) := by rw [cell_of_row _ _ _ _ _ _ H6_3.out]; rfl
          have c3_2 : X6.cell? ⟨(wr.heap.size + 1), 2, none⟩ = some (.int .i64 c) := by rw [cell_of_row _ _ _ _ _ _ H6_3.out]; rfl
          have c3_3 : X6.cell? ⟨(wr.heap.size + 1), 3, none⟩ = some (.int .i64 0) := by rw [cell_of_row _ _ _ _ _ _ H6_3.out]; rfl
          have c3_4 : X6.cell? ⟨(wr.heap.size + 1), 4, none⟩ = some (.int .i64 0) := by rw [cell_of_row _ _ _ _ _ _ H6_3.out]; rfl
          have c3_5 : X6.cell? ⟨(wr.heap.size + 1), 5, none⟩ = some (.int .u8 0) := by rw [cell_of_row _ _ _ _ _ _ H6_3.out]; rfl
          have z0 : X6.cell? ⟨SB, s * 3 + c, none⟩ = some (.int .u8 0) := by rw [H6_0.out.cell (by omega), gSaid_at c3, hsd]; rfl
          go_quiet (fail)
          have hK : ∀ i, i < X6.heap.size → (X6.drewN nq).heap[i]? = X6.heap[i]? := fun i hi => rfl
          have H7_0 : Hid (ArrB (X6.drewN nq) SB 51 9 (gSaid st)) := H6_0.out.kept (hK SB (by omega))
          have H7_1 : Hid (ArrB (X6.drewN nq) (SB + 1) 53 9 (gAside st)) := H6_1.out.kept (hK (SB + 1) (by omega))
          have H7_2 : Hid ((X6.drewN nq).heap[wr.heap.size]? = some (.cells #[.int .u8 k, .int .u8 s0, .int .u8 c0, .int .u8 1] 55 (0, 0))) := (hK wr.heap.size (by omega)).trans H6_2.out
          have H7_3 : Hid ((X6.drewN nq).heap[(wr.heap.size + 1)]? = some (.cells #[.int .u8 3, .int .i64 s, .int .i64 c, .int .i64 0, .int .i64 0, .int .u8 0] 31 (0, 0))) := (hK (wr.heap.size + 1) (by omega)).trans H6_3.out
          have H7_4 : Hid ((X6.drewN nq).heap[X4.heap.size]? = some (.cells #[.int .u8 3, .int .i64 s, .int .i64 c, .int .i64 0, .int .i64 0, .int .u8 1] 31 (0, 0))) := (hK X4.heap.size (by omega)).trans H6_4.out
          have H7_5 : Hid ((X6.drewN nq).heap[(X4.heap.size + 1)]? = some (.cells #[.int .u8 3, .int .i64 s, .int .i64 c, .int .i64 0, .int .i64 0, .int .u8 0] 31 (0, 0))) := (hK (X4.heap.size + 1) (by omega)).trans H6_5.out
          have HL7 : Hid (LiveO (StoB (U.heap.size + 2) (st.alloc ((s : Int), (c : Int)) 1) (2 * j + 2)) U (fun (i : Nat) => i = SB ∨ i = (SB + 1) ∨ i = wr.heap.size ∨ i = (wr.heap.size + 1) ∨ i = X4.heap.size ∨ i = (X4.heap.size + 1)) (X6.drewN nq)) := HL6.out.below (sto_thing (U.heap.size + 2) (st.alloc ((s : Int), (c : Int)) 1) (2 * j + 2)) (Below.drewN' (Below.refl _ _) _)
          have : SB < (X6.drewN nq).heap.size := by show _ < X6.heap.size; first | omega | (rw [World.size_alloc]; omega) | (rw [setCell_size]; omega)
          have : (SB + 1) < (X6.drewN nq).heap.size := by show _ < X6.heap.size; first | omega | (rw [World.size_alloc]; omega) | (rw [setCell_size]; omega)
          have : wr.heap.size < (X6.drewN nq).heap.size := by show _ < X6.heap.size; first | omega | (rw [World.size_alloc]; omega) | (rw [setCell_size]; omega)
          have : (wr.heap.size + 1) < (X6.drewN nq).heap.size := by show _ < X6.heap.size; first | omega | (rw [World.size_alloc]; omega) | (rw [setCell_size]; omega)
          have : X4.heap.size < (X6.drewN nq).heap.size := by show _ < X6.heap.size; first | omega | (rw [World.size_alloc]; omega) | (rw [setCell_size]; omega)
          have : (X4.heap.size + 1) < (X6.drewN nq).heap.size := by show _ < X6.heap.size; first | omega | (rw [World.size_alloc]; omega) | (rw [setCell_size]; omega)
          have ls7 : U.heap.size ≤ (X6.drewN nq).heap.size := by show _ ≤ X6.heap.size; first | omega | (rw [World.size_alloc]; omega) | (rw [setCell_size]; omega)
          have lt7 : X6.heap.size ≤ (X6.drewN nq).heap.size := by show _ ≤ X6.heap.size; first | omega | (rw [World.size_alloc]; omega) | (rw [setCell_size]; omega)
          clear hK HL6 H6_0 H6_1 H6_2 H6_3 H6_4 H6_5 c3_0 c3_1 c3_2 c3_3 c3_4 c3_5 z0
          generalize (X6.drewN nq) = X7 at *
          go_wp2_with (fail)
          have HS0 : Hid ((fun w' : World => w'.cell? ⟨(wr.heap.size + 1), 1, none⟩ = some (.int .i64 s) ∧ w'.cell? ⟨(wr.heap.size + 1), 2, none⟩ = some (.int .i64 c)) X7.drew) := ⟨by rw [cell_of_row _ _ _ _ _ _ (show X7.drew.heap[_]? = _ from H7_3.out)]; rfl, by rw [cell_of_row _ _ _ _ _ _ (show X7.drew.heap[_]? = _ from H7_3.out)]; rfl⟩
          refine lane_start (ord := [0, 1, 2, 3, 4, 5, 6]) (S := (fun w' : World => w'.cell? ⟨(wr.heap.size + 1), 1, none⟩ = some (.int .i64 s) ∧ w'.cell? ⟨(wr.heap.size + 1), 2, none⟩ = some (.int .i64 c))) rfl (by kernel_rfl) (by exact HS0.out) (fun _ => ?_)
          iterate 6 (refine lane_take (v := ?_) rfl (by kernel_rfl) (by kernel_rfl) (by rfl) ?_ (by exact HS0.out) ?_; rotate_left; (focus (intro w9 hSw; obtain ⟨x0, x1⟩ := hSw; (try go_simp); try (with_reducible rfl))); simp only [Act.put, List.setIfInBounds_toArray, List.set_cons_zero, List.set_cons_succ])
          refine lane_alone rfl (by kernel_rfl) (by rfl) (fun KK hKK => ?_)
          have hA9 : ArrB X7.drew SB 51 9 (gSaid st) := H7_0.out
          refine wp_of_skip (exec_store_one rfl (by rfl) rfl (by kernel_rfl) rfl (hA9.cell (i := s * 3 + c) (by omega)) (hA9.frozen _)) ?_
          have hS9 : (fun w' : World => w'.cell? ⟨(wr.heap.size + 1), 1, none⟩ = some (.int .i64 s) ∧ w'.cell? ⟨(wr.heap.size + 1), 2, none⟩ = some (.int .i64 c)) (X7.drew.setCell ⟨SB, s * 3 + c, none⟩ (.int .u8 3)) := ⟨by rw [cell_of_row _ _ _ _ _ _ (show (X7.drew.setCell ⟨SB, s * 3 + c, none⟩ (.int .u8 3)).heap[_]? = _ from (setCell_other (by omega)).trans H7_3.out)]; rfl, by rw [cell_of_row _ _ _ _ _ _ (show (X7.drew.setCell ⟨SB, s * 3 + c, none⟩ (.int .u8 3)).heap[_]? = _ from (setCell_other (by omega)).trans H7_3.out)]; rfl⟩
          refine hKK _ _ (by exact hS9) (fun _ => ?_)
          clear hKK KK hA9 HS0 hS9
          refine lane_end (by kernel_rfl) ?_
          change Exit.then _ _ Exit.normal _ (X7.drew.setCell ⟨SB, s * 3 + c, none⟩ (.int .u8 3))
          have hK : ∀ i, i < X7.heap.size → X7.drew.heap[i]? = X7.heap[i]? := fun i hi => rfl
          have H8_0 : Hid (ArrB X7.drew SB 51 9 (gSaid st)) := H7_0.out.kept (hK SB (by omega))
          have H8_1 : Hid (ArrB X7.drew (SB + 1) 53 9 (gAside st)) := H7_1.out.kept (hK (SB + 1) (by omega))
          have H8_2 : Hid (X7.drew.heap[wr.heap.size]? = some (.cells #[.int .u8 k, .int .u8 s0, .int .u8 c0, .int .u8 1] 55 (0, 0))) := (hK wr.heap.size (by omega)).trans H7_2.out
          have H8_3 : Hid (X7.drew.heap[(wr.heap.size + 1)]? = some (.cells #[.int .u8 3, .int .i64 s, .int .i64 c, .int .i64 0, .int .i64 0, .int .u8 0] 31 (0, 0))) := (hK (wr.heap.size + 1) (by omega)).trans H7_3.out
          have H8_4 : Hid (X7.drew.heap[X4.heap.size]? = some (.cells #[.int .u8 3, .int .i64 s, .int .i64 c, .int .i64 0, .int .i64 0, .int .u8 1] 31 (0, 0))) := (hK X4.heap.size (by omega)).trans H7_4.out
          have H8_5 : Hid (X7.drew.heap[(X4.heap.size + 1)]? = some (.cells #[.int .u8 3, .int .i64 s, .int .i64 c, .int .i64 0, .int .i64 0, .int .u8 0] 31 (0, 0))) := (hK (X4.heap.size + 1) (by omega)).trans H7_5.out
          have HL8 : Hid (LiveO (StoB (U.heap.size + 2) (st.alloc ((s : Int), (c : Int)) 1) (2 * j + 2)) U (fun (i : Nat) => i = SB ∨ i = (SB + 1) ∨ i = wr.heap.size ∨ i = (wr.heap.size + 1) ∨ i = X4.heap.size ∨ i = (X4.heap.size + 1)) X7.drew) := HL7.out.drew (sto_thing (U.heap.size + 2) (st.alloc ((s : Int), (c : Int)) 1) (2 * j + 2))
          have : SB < X7.drew.heap.size := by show _ < X7.heap.size; first | omega | (rw [World.size_alloc]; omega) | (rw [setCell_size]; omega)
          have : (SB + 1) < X7.drew.heap.size := by show _ < X7.heap.size; first | omega | (rw [World.size_alloc]; omega) | (rw [setCell_size]; omega)
          have : wr.heap.size < X7.drew.heap.size := by show _ < X7.heap.size; first | omega | (rw [World.size_alloc]; omega) | (rw [setCell_size]; omega)
          have : (wr.heap.size + 1) < X7.drew.heap.size := by show _ < X7.heap.size; first | omega | (rw [World.size_alloc]; omega) | (rw [setCell_size]; omega)
          have : X4.heap.size < X7.drew.heap.size := by show _ < X7.heap.size; first | omega | (rw [World.size_alloc]; omega) | (rw [setCell_size]; omega)
          have : (X4.heap.size + 1) < X7.drew.heap.size := by show _ < X7.heap.size; first | omega | (rw [World.size_alloc]; omega) | (rw [setCell_size]; omega)
          have ls8 : U.heap.size ≤ X7.drew.heap.size := by show _ ≤ X7.heap.size; first | omega | (rw [World.size_alloc]; omega) | (rw [setCell_size]; omega)
          have lt8 : X7.heap.size ≤ X7.drew.heap.size := by show _ ≤ X7.heap.size; first | omega | (rw [World.size_alloc]; omega) | (rw [setCell_size]; omega)
          clear hK HL7 H7_0 H7_1 H7_2 H7_3 H7_4 H7_5
          generalize X7.drew = X8 at *
          have hK : ∀ i, i < X8.heap.size → i ≠ SB → (X8.setCell ⟨SB, s * 3 + c, none⟩ (.int .u8 3)).heap[i]? = X8.heap[i]? := fun i _ hi => setCell_other hi
          have H9_0 : Hid (ArrB (X8.setCell ⟨SB, s * 3 + c, none⟩ (.int .u8 3)) SB 51 9 (fun i => if i = s * 3 + c then .int .u8 3 else gSaid st i)) := (H8_0.out.set (s * 3 + c) _).congr (fun i _ => rfl)
          have H9_1 : Hid (ArrB (X8.setCell ⟨SB, s * 3 + c, none⟩ (.int .u8 3)) (SB + 1) 53 9 (gAside st)) := H8_1.out.kept (hK (SB + 1) (by omega) (by omega))
          have H9_2 : Hid ((X8.setCell ⟨SB, s * 3 + c, none⟩ (.int .u8 3)).heap[wr.heap.size]? = some (.cells #[.int .u8 k, .int .u8 s0, .int .u8 c0, .int .u8 1] 55 (0, 0))) := (hK wr.heap.size (by omega) (by omega)).trans H8_2.out
          have H9_3 : Hid ((X8.setCell ⟨SB, s * 3 + c, none⟩ (.int .u8 3)).heap[(wr.heap.size + 1)]? = some (.cells #[.int .u8 3, .int .i64 s, .int .i64 c, .int .i64 0, .int .i64 0, .int .u8 0] 31 (0, 0))) := (hK (wr.heap.size + 1) (by omega) (by omega)).trans H8_3.out
          have H9_4 : Hid ((X8.setCell ⟨SB, s * 3 + c, none⟩ (.int .u8 3)).heap[X4.heap.size]? = some (.cells #[.int .u8 3, .int .i64 s, .int .i64 c, .int .i64 0, .int .i64 0, .int .u8 1] 31 (0, 0))) := (hK X4.heap.size (by omega) (by omega)).trans H8_4.out
          have H9_5 : Hid ((X8.setCell ⟨SB, s * 3 + c, none⟩ (.int .u8 3)).heap[(X4.heap.size + 1)]? = some (.cells #[.int .u8 3, .int .i64 s, .int .i64 c, .int .i64 0, .int .i64 0, .int .u8 0] 31 (0, 0))) := (hK (X4.heap.size + 1) (by omega) (by omega)).trans H8_5.out
          have HL9 : Hid (LiveO (StoB (U.heap.size + 2) (st.alloc ((s : Int), (c : Int)) 1) (2 * j + 2)) U (fun (i : Nat) => i = SB ∨ i = (SB + 1) ∨ i = wr.heap.size ∨ i = (wr.heap.size + 1) ∨ i = X4.heap.size ∨ i = (X4.heap.size + 1)) (X8.setCell ⟨SB, s * 3 + c, none⟩ (.int .u8 3))) := HL8.out.setCell (sto_thing (U.heap.size + 2) (st.alloc ((s : Int), (c : Int)) 1) (2 * j + 2)) (p := ⟨SB, s * 3 + c, none⟩) (.inl rfl) (by show U.heap.size ≤ SB; omega)
          have : SB < (X8.setCell ⟨SB, s * 3 + c, none⟩ (.int .u8 3)).heap.size := by first | omega | (rw [World.size_alloc]; omega) | (rw [setCell_size]; omega)
          have : (SB + 1) < (X8.setCell ⟨SB, s * 3 + c, none⟩ (.int .u8 3)).heap.size := by first | omega | (rw [World.size_alloc]; omega) | (rw [setCell_size]; omega)
          have : wr.heap.size < (X8.setCell ⟨SB, s * 3 + c, none⟩ (.int .u8 3)).heap.size := by first | omega | (rw [World.size_alloc]; omega) | (rw [setCell_size]; omega)
          have : (wr.heap.size + 1) < (X8.setCell ⟨SB, s * 3 + c, none⟩ (.int .u8 3)).heap.size := by first | omega | (rw [World.size_alloc]; omega) | (rw [setCell_size]; omega)
          have : X4.heap.size < (X8.setCell ⟨SB, s * 3 + c, none⟩ (.int .u8 3)).heap.size := by first | omega | (rw [World.size_alloc]; omega) | (rw [setCell_size]; omega)
          have : (X4.heap.size + 1) < (X8.setCell ⟨SB, s * 3 + c, none⟩ (.int .u8 3)).heap.size := by first | omega | (rw [World.size_alloc]; omega) | (rw [setCell_size]; omega)
          have ls9 : U.heap.size ≤ (X8.setCell ⟨SB, s * 3 + c, none⟩ (.int .u8 3)).heap.size := by first | omega | (rw [World.size_alloc]; omega) | (rw [setCell_size]; omega)
          have lt9 : X8.heap.size ≤ (X8.setCell ⟨SB, s * 3 + c, none⟩ (.int .u8 3)).heap.size := by first | omega | (rw [World.size_alloc]; omega) | (rw [setCell_size]; omega)
          clear hK HL8 H8_0 H8_1 H8_2 H8_3 H8_4 H8_5
          generalize (X8.setCell ⟨SB, s * 3 + c, none⟩ (.int .u8 3)) = X9 at *
          have c2_0 : X9.cell? ⟨wr.heap.size, 0, none⟩ = some (.int .u8 k) := by rw [cell_of_row _ _ _ _ _ _ H9_2.out]; rfl
          have c2_1 : X9.cell? ⟨wr.heap.size, 1, none⟩ = some (.int .u8 s0) := by rw [cell_of_row _ _ _ _ _ _ H9_2.out]; rfl
          have c2_2 : X9.cell? ⟨wr.heap.size, 2, none⟩ = some (.int .u8 c0) := by rw [cell_of_row _ _ _ _ _ _ H9_2.out]; rfl
          have c2_3 : X9.cell? ⟨wr.heap.size, 3, none⟩ = some (.int .u8 1) := by rw [cell_of_row _ _ _ _ _ _ H9_2.out]; rfl
          have c3_0 : X9.cell? ⟨(wr.heap.size + 1), 0, none⟩ = some (.int .u8 3) := by rw [cell_of_row _ _ _ _ _ _ H9_3.out]; rfl
          have c3_1 : X9.cell? ⟨(wr.heap.size + 1), 1, none⟩ = some (.int .i64 s) := by rw [cell_of_row _ _ _ _ _ _ H9_3.out]; rfl
          have c3_2 : X9.cell? ⟨(wr.heap.size + 1), 2, none⟩ = some (.int .i64 c) := by rw [cell_of_row _ _ _ _ _ _ H9_3.out]; rfl
          have c3_3 : X9.cell? ⟨(wr.heap.size + 1), 3, none⟩ = some (.int .i64 0) := by rw [cell_of_row _ _ _ _ _ _ H9_3.out]; rfl
          have c3_4 : X9.cell? ⟨(wr.heap.size + 1), 4, none⟩ = some (.int .i64 0) := by rw [cell_of_row _ _ _ _ _ _ H9_3.out]; rfl
          have c3_5 : X9.cell? ⟨(wr.heap.size + 1), 5, none⟩ = some (.int .u8 0) := by rw [cell_of_row _ _ _ _ _ _ H9_3.out]; rfl
          go_wp2
          have HS0 : Hid ((fun w' : World => w'.cell? ⟨(wr.heap.size + 1), 1, none⟩ = some (.int .i64 s) ∧ w'.cell? ⟨(wr.heap.size + 1), 2, none⟩ = some (.int .i64 c)) X9.drew) := ⟨by rw [cell_of_row _ _ _ _ _ _ (show X9.drew.heap[_]? = _ from H9_3.out)]; rfl, by rw [cell_of_row _ _ _ _ _ _ (show X9.drew.heap[_]? = _ from H9_3.out)]; rfl⟩
          refine lane_start (ord := [0, 1, 2, 3, 4, 5, 6]) (S := (fun w' : World => w'.cell? ⟨(wr.heap.size + 1), 1, none⟩ = some (.int .i64 s) ∧ w'.cell? ⟨(wr.heap.size + 1), 2, none⟩ = some (.int .i64 c))) rfl (by kernel_rfl) (by exact HS0.out) (fun _ => ?_)
          iterate 6 (refine lane_take (v := ?_) rfl (by kernel_rfl) (by kernel_rfl) (by rfl) ?_ (by exact HS0.out) ?_; rotate_left; (focus (intro w9 hSw; obtain ⟨x0, x1⟩ := hSw; (try go_simp); try (with_reducible rfl))); simp only [Act.put, List.setIfInBounds_toArray, List.set_cons_zero, List.set_cons_succ])
          refine lane_alone rfl (by kernel_rfl) (by rfl) (fun KK hKK => ?_)
          have hA9 : ArrB X9.drew SB 51 9 (fun i => if i = s * 3 + c then .int .u8 3 else gSaid st i) := H9_0.out
          refine wp_of_skip (exec_store_one rfl (by rfl) rfl (by kernel_rfl) rfl (hA9.cell (i := s * 3 + c) (by omega)) (hA9.frozen _)) ?_
          have hS9 : (fun w' : World => w'.cell? ⟨(wr.heap.size + 1), 1, none⟩ = some (.int .i64 s) ∧ w'.cell? ⟨(wr.heap.size + 1), 2, none⟩ = some (.int .i64 c)) (X9.drew.setCell ⟨SB, s * 3 + c, none⟩ (.int .u8 1)) := ⟨by rw [cell_of_row _ _ _ _ _ _ (show (X9.drew.setCell ⟨SB, s * 3 + c, none⟩ (.int .u8 1)).heap[_]? = _ from (setCell_other (by omega)).trans H9_3.out)]; rfl, by rw [cell_of_row _ _ _ _ _ _ (show (X9.drew.setCell ⟨SB, s * 3 + c, none⟩ (.int .u8 1)).heap[_]? = _ from (setCell_other (by omega)).trans H9_3.out)]; rfl⟩
          refine hKK _ _ (by exact hS9) (fun _ => ?_)
          clear hKK KK hA9 HS0 hS9
          refine lane_end (by kernel_rfl) ?_
          change Exit.then _ _ Exit.normal _ (X9.drew.setCell ⟨SB, s * 3 + c, none⟩ (.int .u8 1))
          have hK : ∀ i, i < X9.heap.size → X9.drew.heap[i]? = X9.heap[i]? := fun i hi => rfl
          have H10_0 : Hid (ArrB X9.drew SB 51 9 (fun i => if i = s * 3 + c then .int .u8 3 else gSaid st i)) := H9_0.out.kept (hK SB (by omega))
          have H10_1 : Hid (ArrB X9.drew (SB + 1) 53 9 (gAside st)) := H9_1.out.kept (hK (SB + 1) (by omega))
          have H10_2 : Hid (X9.drew.heap[wr.heap.size]? = some (.cells #[.int .u8 k, .int .u8 s0, .int .u8 c0, .int .u8 1] 55 (0, 0))) := (hK wr.heap.size (by omega)).trans H9_2.out
          have H10_3 : Hid (X9.drew.heap[(wr.heap.size + 1)]? = some (.cells #[.int .u8 3, .int .i64 s, .int .i64 c, .int .i64 0, .int .i64 0, .int .u8 0] 31 (0, 0))) := (hK (wr.heap.size + 1) (by omega)).trans H9_3.out
          have H10_4 : Hid (X9.drew.heap[X4.heap.size]? = some (.cells #[.int .u8 3, .int .i64 s, .int .i64 c, .int .i64 0, .int .i64 0, .int .u8 1] 31 (0, 0))) := (hK X4.heap.size (by omega)).trans H9_4.out
          have H10_5 : Hid (X9.drew.heap[(X4.heap.size + 1)]? = some (.cells #[.int .u8 3, .int .i64 s, .int .i64 c, .int .i64 0, .int .i64 0, .int .u8 0] 31 (0, 0))) := (hK (X4.heap.size + 1) (by omega)).trans H9_5.out
          have HL10 : Hid (LiveO (StoB (U.heap.size + 2) (st.alloc ((s : Int), (c : Int)) 1) (2 * j + 2)) U (fun (i : Nat) => i = SB ∨ i = (SB + 1) ∨ i = wr.heap.size ∨ i = (wr.heap.size + 1) ∨ i = X4.heap.size ∨ i = (X4.heap.size + 1)) X9.drew) := HL9.out.drew (sto_thing (U.heap.size + 2) (st.alloc ((s : Int), (c : Int)) 1) (2 * j + 2))
          have : SB < X9.drew.heap.size := by show _ < X9.heap.size; first | omega | (rw [World.size_alloc]; omega) | (rw [setCell_size]; omega)
          have : (SB + 1) < X9.drew.heap.size := by show _ < X9.heap.size; first | omega | (rw [World.size_alloc]; omega) | (rw [setCell_size]; omega)
          have : wr.heap.size < X9.drew.heap.size := by show _ < X9.heap.size; first | omega | (rw [World.size_alloc]; omega) | (rw [setCell_size]; omega)
          have : (wr.heap.size + 1) < X9.drew.heap.size := by show _ < X9.heap.size; first | omega | (rw [World.size_alloc]; omega) | (rw [setCell_size]; omega)
          have : X4.heap.size < X9.drew.heap.size := by show _ < X9.heap.size; first | omega | (rw [World.size_alloc]; omega) | (rw [setCell_size]; omega)
          have : (X4.heap.size + 1) < X9.drew.heap.size := by show _ < X9.heap.size; first | omega | (rw [World.size_alloc]; omega) | (rw [setCell_size]; omega)
          have ls10 : U.heap.size ≤ X9.drew.heap.size := by show _ ≤ X9.heap.size; first | omega | (rw [World.size_alloc]; omega) | (rw [setCell_size]; omega)
          have lt10 : X9.heap.size ≤ X9.drew.heap.size := by show _ ≤ X9.heap.size; first | omega | (rw [World.size_alloc]; omega) | (rw [setCell_size]; omega)
          clear hK HL9 H9_0 H9_1 H9_2 H9_3 H9_4 H9_5 c2_0 c2_1 c2_2 c2_3 c3_0 c3_1 c3_2 c3_3 c3_4 c3_5
          generalize X9.drew = X10 at *
          have hK : ∀ i, i < X10.heap.size → i ≠ SB → (X10.setCell ⟨SB, s * 3 + c, none⟩ (.int .u8 1)).heap[i]? = X10.heap[i]? := fun i _ hi => setCell_other hi
          have H11_0 : Hid (ArrB (X10.setCell ⟨SB, s * 3 + c, none⟩ (.int .u8 1)) SB 51 9 (gSaid (st.alloc ((s : Int), (c : Int)) 1))) := (H10_0.out.set (s * 3 + c) _).congr (fun i _ => by rw [← said_alloc c3 HSD.out i]; by_cases e9 : i = s * 3 + c <;> simp [e9])
          have H11_1 : Hid (ArrB (X10.setCell ⟨SB, s * 3 + c, none⟩ (.int .u8 1)) (SB + 1) 53 9 (gAside st)) := H10_1.out.kept (hK (SB + 1) (by omega) (by omega))
          have H11_2 : Hid ((X10.setCell ⟨SB, s * 3 + c, none⟩ (.int .u8 1)).heap[wr.heap.size]? = some (.cells #[.int .u8 k, .int .u8 s0, .int .u8 c0, .int .u8 1] 55 (0, 0))) := (hK wr.heap.size (by omega) (by omega)).trans H10_2.out
          have H11_3 : Hid ((X10.setCell ⟨SB, s * 3 + c, none⟩ (.int .u8 1)).heap[(wr.heap.size + 1)]? = some (.cells #[.int .u8 3, .int .i64 s, .int .i64 c, .int .i64 0, .int .i64 0, .int .u8 0] 31 (0, 0))) := (hK (wr.heap.size + 1) (by omega) (by omega)).trans H10_3.out
          have H11_4 : Hid ((X10.setCell ⟨SB, s * 3 + c, none⟩ (.int .u8 1)).heap[X4.heap.size]? = some (.cells #[.int .u8 3, .int .i64 s, .int .i64 c, .int .i64 0, .int .i64 0, .int .u8 1] 31 (0, 0))) := (hK X4.heap.size (by omega) (by omega)).trans H10_4.out
          have H11_5 : Hid ((X10.setCell ⟨SB, s * 3 + c, none⟩ (.int .u8 1)).heap[(X4.heap.size + 1)]? = some (.cells #[.int .u8 3, .int .i64 s, .int .i64 c, .int .i64 0, .int .i64 0, .int .u8 0] 31 (0, 0))) := (hK (X4.heap.size + 1) (by omega) (by omega)).trans H10_5.out
          have HL11 : Hid (LiveO (StoB (U.heap.size + 2) (st.alloc ((s : Int), (c : Int)) 1) (2 * j + 2)) U (fun (i : Nat) => i = SB ∨ i = (SB + 1) ∨ i = wr.heap.size ∨ i = (wr.heap.size + 1) ∨ i = X4.heap.size ∨ i = (X4.heap.size + 1)) (X10.setCell ⟨SB, s * 3 + c, none⟩ (.int .u8 1))) := HL10.out.setCell (sto_thing (U.heap.size + 2) (st.alloc ((s : Int), (c : Int)) 1) (2 * j + 2)) (p := ⟨SB, s * 3 + c, none⟩) (.inl rfl) (by show U.heap.size ≤ SB; omega)
          have : SB < (X10.setCell ⟨SB, s * 3 + c, none⟩ (.int .u8 1)).heap.size := by first | omega | (rw [World.size_alloc]; omega) | (rw [setCell_size]; omega)
          have : (SB + 1) < (X10.setCell ⟨SB, s * 3 + c, none⟩ (.int .u8 1)).heap.size := by first | omega | (rw [World.size_alloc]; omega) | (rw [setCell_size]; omega)
          have : wr.heap.size < (X10.setCell ⟨SB, s * 3 + c, none⟩ (.int .u8 1)).heap.size := by first | omega | (rw [World.size_alloc]; omega) | (rw [setCell_size]; omega)
          have : (wr.heap.size + 1) < (X10.setCell ⟨SB, s * 3 + c, none⟩ (.int .u8 1)).heap.size := by first | omega | (rw [World.size_alloc]; omega) | (rw [setCell_size]; omega)
          have : X4.heap.size < (X10.setCell ⟨SB, s * 3 + c, none⟩ (.int .u8 1)).heap.size := by first | omega | (rw [World.size_alloc]; omega) | (rw [setCell_size]; omega)
          have : (X4.heap.size + 1) < (X10.setCell ⟨SB, s * 3 + c, none⟩ (.int .u8 1)).heap.size := by first | omega | (rw [World.size_alloc]; omega) | (rw [setCell_size]; omega)
          have ls11 : U.heap.size ≤ (X10.setCell ⟨SB, s * 3 + c, none⟩ (.int .u8 1)).heap.size := by first | omega | (rw [World.size_alloc]; omega) | (rw [setCell_size]; omega)
          have lt11 : X10.heap.size ≤ (X10.setCell ⟨SB, s * 3 + c, none⟩ (.int .u8 1)).heap.size := by first | omega | (rw [World.size_alloc]; omega) | (rw [setCell_size]; omega)
          clear hK HL10 H10_0 H10_1 H10_2 H10_3 H10_4 H10_5
          generalize (X10.setCell ⟨SB, s * 3 + c, none⟩ (.int .u8 1)) = X11 at *
          go_wp2
          have HS0 : Hid ((fun w' : World => w'.cell? ⟨(wr.heap.size + 1), 1, none⟩ = some (.int .i64 s) ∧ w'.cell? ⟨(wr.heap.size + 1), 2, none⟩ = some (.int .i64 c)) X11.drew) := ⟨by rw [cell_of_row _ _ _ _ _ _ (show X11.drew.heap[_]? = _ from H11_3.out)]; rfl, by rw [cell_of_row _ _ _ _ _ _ (show X11.drew.heap[_]? = _ from H11_3.out)]; rfl⟩
          refine lane_start (ord := [0, 1, 2, 3, 4, 5, 6]) (S := (fun w' : World => w'.cell? ⟨(wr.heap.size + 1), 1, none⟩ = some (.int .i64 s) ∧ w'.cell? ⟨(wr.heap.size + 1), 2, none⟩ = some (.int .i64 c))) rfl (by kernel_rfl) (by exact HS0.out) (fun _ => ?_)
          iterate 6 (refine lane_take (v := ?_) rfl (by kernel_rfl) (by kernel_rfl) (by rfl) ?_ (by exact HS0.out) ?_; rotate_left; (focus (intro w9 hSw; obtain ⟨x0, x1⟩ := hSw; (try go_simp); try (with_reducible rfl))); simp only [Act.put, List.setIfInBounds_toArray, List.set_cons_zero, List.set_cons_succ])
          refine lane_alone rfl (by kernel_rfl) (by rfl) (fun KK hKK => ?_)
          have hA9 : ArrB X11.drew (SB + 1) 53 9 (gAside st) := H11_1.out
          refine wp_of_skip (exec_store_one rfl (by rfl) rfl (by kernel_rfl) rfl (hA9.cell (i := s * 3 + c) (by omega)) (hA9.frozen _)) ?_
          have hS9 : (fun w' : World => w'.cell? ⟨(wr.heap.size + 1), 1, none⟩ = some (.int .i64 s) ∧ w'.cell? ⟨(wr.heap.size + 1), 2, none⟩ = some (.int .i64 c)) (X11.drew.setCell ⟨(SB + 1), s * 3 + c, none⟩ (.bool true)) := ⟨by rw [cell_of_row _ _ _ _ _ _ (show (X11.drew.setCell ⟨(SB + 1), s * 3 + c, none⟩ (.bool true)).heap[_]? = _ from (setCell_other (by omega)).trans H11_3.out)]; rfl, by rw [cell_of_row _ _ _ _ _ _ (show (X11.drew.setCell ⟨(SB + 1), s * 3 + c, none⟩ (.bool true)).heap[_]? = _ from (setCell_other (by omega)).trans H11_3.out)]; rfl⟩
          refine hKK _ _ (by exact hS9) (fun _ => ?_)
          clear hKK KK hA9 HS0 hS9
          refine lane_end (by kernel_rfl) ?_
          change Exit.then _ _ Exit.normal _ (X11.drew.setCell ⟨(SB + 1), s * 3 + c, none⟩ (.bool true))
          have hK : ∀ i, i < X11.heap.size → X11.drew.heap[i]? = X11.heap[i]? := fun i hi => rfl
          have H12_0 : Hid (ArrB X11.drew SB 51 9 (gSaid (st.alloc ((s : Int), (c : Int)) 1))) := H11_0.out.kept (hK SB (by omega))
          have H12_1 : Hid (ArrB X11.drew (SB + 1) 53 9 (gAside st)) := H11_1.out.kept (hK (SB + 1) (by omega))
          have H12_2 : Hid (X11.drew.heap[wr.heap.size]? = some (.cells #[.int .u8 k, .int .u8 s0, .int .u8 c0, .int .u8 1] 55 (0, 0))) := (hK wr.heap.size (by omega)).trans H11_2.out
          have H12_3 : Hid (X11.drew.heap[(wr.heap.size + 1)]? = some (.cells #[.int .u8 3, .int .i64 s, .int .i64 c, .int .i64 0, .int .i64 0, .int .u8 0] 31 (0, 0))) := (hK (wr.heap.size + 1) (by omega)).trans H11_3.out
          have H12_4 : Hid (X11.drew.heap[X4.heap.size]? = some (.cells #[.int .u8 3, .int .i64 s, .int .i64 c, .int .i64 0, .int .i64 0, .int .u8 1] 31 (0, 0))) := (hK X4.heap.size (by omega)).trans H11_4.out
          have H12_5 : Hid (X11.drew.heap[(X4.heap.size + 1)]? = some (.cells #[.int .u8 3, .int .i64 s, .int .i64 c, .int .i64 0, .int .i64 0, .int .u8 0] 31 (0, 0))) := (hK (X4.heap.size + 1) (by omega)).trans H11_5.out
          have HL12 : Hid (LiveO (StoB (U.heap.size + 2) (st.alloc ((s : Int), (c : Int)) 1) (2 * j + 2)) U (fun (i : Nat) => i = SB ∨ i = (SB + 1) ∨ i = wr.heap.size ∨ i = (wr.heap.size + 1) ∨ i = X4.heap.size ∨ i = (X4.heap.size + 1)) X11.drew) := HL11.out.drew (sto_thing (U.heap.size + 2) (st.alloc ((s : Int), (c : Int)) 1) (2 * j + 2))
          have : SB < X11.drew.heap.size := by show _ < X11.heap.size; first | omega | (rw [World.size_alloc]; omega) | (rw [setCell_size]; omega)
          have : (SB + 1) < X11.drew.heap.size := by show _ < X11.heap.size; first | omega | (rw [World.size_alloc]; omega) | (rw [setCell_size]; omega)
          have : wr.heap.size < X11.drew.heap.size := by show _ < X11.heap.size; first | omega | (rw [World.size_alloc]; omega) | (rw [setCell_size]; omega)
          have : (wr.heap.size + 1) < X11.drew.heap.size := by show _ < X11.heap.size; first | omega | (rw [World.size_alloc]; omega) | (rw [setCell_size]; omega)
          have : X4.heap.size < X11.drew.heap.size := by show _ < X11.heap.size; first | omega | (rw [World.size_alloc]; omega) | (rw [setCell_size]; omega)
          have : (X4.heap.size + 1) < X11.drew.heap.size := by show _ < X11.heap.size; first | omega | (rw [World.size_alloc]; omega) | (rw [setCell_size]; omega)
          have ls12 : U.heap.size ≤ X11.drew.heap.size := by show _ ≤ X11.heap.size; first | omega | (rw [World.size_alloc]; omega) | (rw [setCell_size]; omega)
          have lt12 : X11.heap.size ≤ X11.drew.heap.size := by show _ ≤ X11.heap.size; first | omega | (rw [World.size_alloc]; omega) | (rw [setCell_size]; omega)
          clear hK HL11 H11_0 H11_1 H11_2 H11_3 H11_4 H11_5
          generalize X11.drew = X12 at *
          have hK : ∀ i, i < X12.heap.size → i ≠ (SB + 1) → (X12.setCell ⟨(SB + 1), s * 3 + c, none⟩ (.bool true)).heap[i]? = X12.heap[i]? := fun i _ hi => setCell_other hi
          have H13_0 : Hid (ArrB (X12.setCell ⟨(SB + 1), s * 3 + c, none⟩ (.bool true)) SB 51 9 (gSaid (st.alloc ((s : Int), (c : Int)) 1))) := H12_0.out.kept (hK SB (by omega) (by omega))
          have H13_1 : Hid (ArrB (X12.setCell ⟨(SB + 1), s * 3 + c, none⟩ (.bool true)) (SB + 1) 53 9 (gAside (st.alloc ((s : Int), (c : Int)) 1))) := (H12_1.out.set (s * 3 + c) _).congr (fun i _ => aside_alloc c3 HSD.out i)
          have H13_2 : Hid ((X12.setCell ⟨(SB + 1), s * 3 + c, none⟩ (.bool true)).heap[wr.heap.size]? = some (.cells #[.int .u8 k, .int .u8 s0, .int .u8 c0, .int .u8 1] 55 (0, 0))) := (hK wr.heap.size (by omega) (by omega)).trans H12_2.out
          have H13_3 : Hid ((X12.setCell ⟨(SB + 1), s * 3 + c, none⟩ (.bool true)).heap[(wr.heap.size + 1)]? = some (.cells #[.int .u8 3, .int .i64 s, .int .i64 c, .int .i64 0, .int .i64 0, .int .u8 0] 31 (0, 0))) := (hK (wr.heap.size + 1) (by omega) (by omega)).trans H12_3.out
          have H13_4 : Hid ((X12.setCell ⟨(SB + 1), s * 3 + c, none⟩ (.bool true)).heap[X4.heap.size]? = some (.cells #[.int .u8 3, .int .i64 s, .int .i64 c, .int .i64 0, .int .i64 0, .int .u8 1] 31 (0, 0))) := (hK X4.heap.size (by omega) (by omega)).trans H12_4.out
          have H13_5 : Hid ((X12.setCell ⟨(SB + 1), s * 3 + c, none⟩ (.bool true)).heap[(X4.heap.size + 1)]? = some (.cells #[.int .u8 3, .int .i64 s, .int .i64 c, .int .i64 0, .int .i64 0, .int .u8 0] 31 (0, 0))) := (hK (X4.heap.size + 1) (by omega) (by omega)).trans H12_5.out
          have HL13 : Hid (LiveO (StoB (U.heap.size + 2) (st.alloc ((s : Int), (c : Int)) 1) (2 * j + 2)) U (fun (i : Nat) => i = SB ∨ i = (SB + 1) ∨ i = wr.heap.size ∨ i = (wr.heap.size + 1) ∨ i = X4.heap.size ∨ i = (X4.heap.size + 1)) (X12.setCell ⟨(SB + 1), s * 3 + c, none⟩ (.bool true))) := HL12.out.setCell (sto_thing (U.heap.size + 2) (st.alloc ((s : Int), (c : Int)) 1) (2 * j + 2)) (p := ⟨(SB + 1), s * 3 + c, none⟩) (.inr (.inl rfl)) (by show U.heap.size ≤ (SB + 1); omega)
          have : SB < (X12.setCell ⟨(SB + 1), s * 3 + c, none⟩ (.bool true)).heap.size := by first | omega | (rw [World.size_alloc]; omega) | (rw [setCell_size]; omega)
          have : (SB + 1) < (X12.setCell ⟨(SB + 1), s * 3 + c, none⟩ (.bool true)).heap.size := by first | omega | (rw [World.size_alloc]; omega) | (rw [setCell_size]; omega)
          have : wr.heap.size < (X12.setCell ⟨(SB + 1), s * 3 + c, none⟩ (.bool true)).heap.size := by first | omega | (rw [World.size_alloc]; omega) | (rw [setCell_size]; omega)
          have : (wr.heap.size + 1) < (X12.setCell ⟨(SB + 1), s * 3 + c, none⟩ (.bool true)).heap.size := by first | omega | (rw [World.size_alloc]; omega) | (rw [setCell_size]; omega)
          have : X4.heap.size < (X12.setCell ⟨(SB + 1), s * 3 + c, none⟩ (.bool true)).heap.size := by first | omega | (rw [World.size_alloc]; omega) | (rw [setCell_size]; omega)
          have : (X4.heap.size + 1) < (X12.setCell ⟨(SB + 1), s * 3 + c, none⟩ (.bool true)).heap.size := by first | omega | (rw [World.size_alloc]; omega) | (rw [setCell_size]; omega)
          have ls13 : U.heap.size ≤ (X12.setCell ⟨(SB + 1), s * 3 + c, none⟩ (.bool true)).heap.size := by first | omega | (rw [World.size_alloc]; omega) | (rw [setCell_size]; omega)
          have lt13 : X12.heap.size ≤ (X12.setCell ⟨(SB + 1), s * 3 + c, none⟩ (.bool true)).heap.size := by first | omega | (rw [World.size_alloc]; omega) | (rw [setCell_size]; omega)
          clear hK HL12 H12_0 H12_1 H12_2 H12_3 H12_4 H12_5
          generalize (X12.setCell ⟨(SB + 1), s * 3 + c, none⟩ (.bool true)) = X13 at *
          go_wp2
          have c3_0 : X13.cell? ⟨(wr.heap.size + 1), 0, none⟩ = some (.int .u8 3) := by rw [cell_of_row _ _ _ _ _ _ H13_3.out]; rfl
          have c3_1 : X13.cell? ⟨(wr.heap.size + 1), 1, none⟩ = some (.int .i64 s) := by rw [cell_of_row _ _ _ _ _ _ H13_3.out]; rfl
          have c3_2 : X13.cell? ⟨(wr.heap.size + 1), 2, none⟩ = some (.int .i64 c) := by rw [cell_of_row _ _ _ _ _ _ H13_3.out]; rfl
          have c3_3 : X13.cell? ⟨(wr.heap.size + 1), 3, none⟩ = some (.int .i64 0) := by rw [cell_of_row _ _ _ _ _ _ H13_3.out]; rfl
          have c3_4 : X13.cell? ⟨(wr.heap.size + 1), 4, none⟩ = some (.int .i64 0) := by rw [cell_of_row _ _ _ _ _ _ H13_3.out]; rfl
          have c3_5 : X13.cell? ⟨(wr.heap.size + 1), 5, none⟩ = some (.int .u8 0) := by rw [cell_of_row _ _ _ _ _ _ H13_3.out]; rfl
          have z1 : X13.cell? ⟨SB, s * 3 + c, none⟩ = some (.int .u8 1) := by rw [H13_0.out.cell (by omega), gSaid_at c3]; exact congrArg (fun u => some (Value.int .u8 u)) (by show (((st.alloc ((s : Int), (c : Int)) 1).said ((s : Int), (c : Int))).getD 0) = _; unfold Sto.alloc; rw [HSD.out]; simp)
          have HZ1 := Lib.hid z1
          clear z1
          have HS0 : Hid ((fun w' : World => w'.cell? ⟨(wr.heap.size + 1), 1, none⟩ = some (.int .i64 s) ∧ w'.cell? ⟨(wr.heap.size + 1), 2, none⟩ = some (.int .i64 c) ∧ w'.cell? (⟨SB, s * 3 + c, none⟩) = some (.int .u8 1)) X13.drew) := ⟨by rw [cell_of_row _ _ _ _ _ _ (show X13.drew.heap[_]? = _ from H13_3.out)]; rfl, by rw [cell_of_row _ _ _ _ _ _ (show X13.drew.heap[_]? = _ from H13_3.out)]; rfl, HZ1.out⟩
          refine lane_start (ord := [0, 1, 2, 3, 4, 5, 6, 7, 8]) (S := (fun w' : World => w'.cell? ⟨(wr.heap.size + 1), 1, none⟩ = some (.int .i64 s) ∧ w'.cell? ⟨(wr.heap.size + 1), 2, none⟩ = some (.int .i64 c) ∧ w'.cell? (⟨SB, s * 3 + c, none⟩) = some (.int .u8 1))) rfl (by kernel_rfl) (by exact HS0.out) (fun _ => ?_)
          iterate 8 (refine lane_take (v := ?_) rfl (by kernel_rfl) (by kernel_rfl) (by rfl) ?_ (by exact HS0.out) ?_; rotate_left; (focus (intro w9 hSw; obtain ⟨x0, x1, x2⟩ := hSw; (try go_simp); try (with_reducible rfl))); simp only [Act.put, List.setIfInBounds_toArray, List.set_cons_zero, List.set_cons_succ])
          refine lane_alone rfl (by kernel_rfl) (by rfl) (fun KK hKK => ?_)
          have hA9 : X13.drew.heap[(X4.heap.size + 1)]? = some (.cells #[.int .u8 3, .int .i64 s, .int .i64 c, .int .i64 0, .int .i64 0, .int .u8 0] 31 (0, 0)) := H13_5.out
          have hA8 : X13.drew.cell? ⟨(X4.heap.size + 1), 5, none⟩ = some (.int .u8 0) := by rw [cell_of_row _ _ _ _ _ _ hA9]; rfl
          refine wp_of_skip (exec_store_one rfl (by rfl) rfl (by kernel_rfl) rfl hA8 (by rw [World.frozen?, hA9]; simp)) ?_
          clear hA8
          have hS9 : (fun w' : World => w'.cell? ⟨(wr.heap.size + 1), 1, none⟩ = some (.int .i64 s) ∧ w'.cell? ⟨(wr.heap.size + 1), 2, none⟩ = some (.int .i64 c) ∧ w'.cell? (⟨SB, s * 3 + c, none⟩) = some (.int .u8 1)) (X13.drew.setCell ⟨(X4.heap.size + 1), 5, none⟩ (.int .u8 1)) := ⟨by rw [cell_of_row _ _ _ _ _ _ (show (X13.drew.setCell ⟨(X4.heap.size + 1), 5, none⟩ (.int .u8 1)).heap[_]? = _ from (setCell_other (by omega)).trans H13_3.out)]; rfl, by rw [cell_of_row _ _ _ _ _ _ (show (X13.drew.setCell ⟨(X4.heap.size + 1), 5, none⟩ (.int .u8 1)).heap[_]? = _ from (setCell_other (by omega)).trans H13_3.out)]; rfl, (World.cell?_of_block (w' := (X13.drew.setCell ⟨(X4.heap.size + 1), 5, none⟩ (.int .u8 1))) (a := ⟨SB, s * 3 + c, none⟩) (setCell_other (by show (Addr.block ⟨SB, s * 3 + c, none⟩) ≠ (X4.heap.size + 1); show SB ≠ (X4.heap.size + 1); omega))).trans HZ1.out⟩
          refine hKK _ _ (by exact hS9) (fun _ => ?_)
          clear hKK KK hA9 HS0 hS9
          refine lane_end (by kernel_rfl) ?_
          change Exit.then _ _ Exit.normal _ (X13.drew.setCell ⟨(X4.heap.size + 1), 5, none⟩ (.int .u8 1))
          have hK : ∀ i, i < X13.heap.size → X13.drew.heap[i]? = X13.heap[i]? := fun i hi => rfl
          have H14_0 : Hid (ArrB X13.drew SB 51 9 (gSaid (st.alloc ((s : Int), (c : Int)) 1))) := H13_0.out.kept (hK SB (by omega))
          have H14_1 : Hid (ArrB X13.drew (SB + 1) 53 9 (gAside (st.alloc ((s : Int), (c : Int)) 1))) := H13_1.out.kept (hK (SB + 1) (by omega))
          have H14_2 : Hid (X13.drew.heap[wr.heap.size]? = some (.cells #[.int .u8 k, .int .u8 s0, .int .u8 c0, .int .u8 1] 55 (0, 0))) := (hK wr.heap.size (by omega)).trans H13_2.out
          have H14_3 : Hid (X13.drew.heap[(wr.heap.size + 1)]? = some (.cells #[.int .u8 3, .int .i64 s, .int .i64 c, .int .i64 0, .int .i64 0, .int .u8 0] 31 (0, 0))) := (hK (wr.heap.size + 1) (by omega)).trans H13_3.out
          have H14_4 : Hid (X13.drew.heap[X4.heap.size]? = some (.cells #[.int .u8 3, .int .i64 s, .int .i64 c, .int .i64 0, .int .i64 0, .int .u8 1] 31 (0, 0))) := (hK X4.heap.size (by omega)).trans H13_4.out
          have H14_5 : Hid (X13.drew.heap[(X4.heap.size + 1)]? = some (.cells #[.int .u8 3, .int .i64 s, .int .i64 c, .int .i64 0, .int .i64 0, .int .u8 0] 31 (0, 0))) := (hK (X4.heap.size + 1) (by omega)).trans H13_5.out
          have HL14 : Hid (LiveO (StoB (U.heap.size + 2) (st.alloc ((s : Int), (c : Int)) 1) (2 * j + 2)) U (fun (i : Nat) => i = SB ∨ i = (SB + 1) ∨ i = wr.heap.size ∨ i = (wr.heap.size + 1) ∨ i = X4.heap.size ∨ i = (X4.heap.size + 1)) X13.drew) := HL13.out.drew (sto_thing (U.heap.size + 2) (st.alloc ((s : Int), (c : Int)) 1) (2 * j + 2))
          have : SB < X13.drew.heap.size := by show _ < X13.heap.size; first | omega | (rw [World.size_alloc]; omega) | (rw [setCell_size]; omega)
          have : (SB + 1) < X13.drew.heap.size := by show _ < X13.heap.size; first | omega | (rw [World.size_alloc]; omega) | (rw [setCell_size]; omega)
          have : wr.heap.size < X13.drew.heap.size := by show _ < X13.heap.size; first | omega | (rw [World.size_alloc]; omega) | (rw [setCell_size]; omega)
          have : (wr.heap.size + 1) < X13.drew.heap.size := by show _ < X13.heap.size; first | omega | (rw [World.size_alloc]; omega) | (rw [setCell_size]; omega)
          have : X4.heap.size < X13.drew.heap.size := by show _ < X13.heap.size; first | omega | (rw [World.size_alloc]; omega) | (rw [setCell_size]; omega)
          have : (X4.heap.size + 1) < X13.drew.heap.size := by show _ < X13.heap.size; first | omega | (rw [World.size_alloc]; omega) | (rw [setCell_size]; omega)
          have ls14 : U.heap.size ≤ X13.drew.heap.size := by show _ ≤ X13.heap.size; first | omega | (rw [World.size_alloc]; omega) | (rw [setCell_size]; omega)
          have lt14 : X13.heap.size ≤ X13.drew.heap.size := by show _ ≤ X13.heap.size; first | omega | (rw [World.size_alloc]; omega) | (rw [setCell_size]; omega)
          clear hK HL13 H13_0 H13_1 H13_2 H13_3 H13_4 H13_5 c3_0 c3_1 c3_2 c3_3 c3_4 c3_5
          generalize X13.drew = X14 at *
          have hK : ∀ i, i < X14.heap.size → i ≠ (X4.heap.size + 1) → (X14.setCell ⟨(X4.heap.size + 1), 5, none⟩ (.int .u8 1)).heap[i]? = X14.heap[i]? := fun i _ hi => setCell_other hi
          have H15_0 : Hid (ArrB (X14.setCell ⟨(X4.heap.size + 1), 5, none⟩ (.int .u8 1)) SB 51 9 (gSaid (st.alloc ((s : Int), (c : Int)) 1))) := H14_0.out.kept (hK SB (by omega) (by omega))
          have H15_1 : Hid (ArrB (X14.setCell ⟨(X4.heap.size + 1), 5, none⟩ (.int .u8 1)) (SB + 1) 53 9 (gAside (st.alloc ((s : Int), (c : Int)) 1))) := H14_1.out.kept (hK (SB + 1) (by omega) (by omega))
          have H15_2 : Hid ((X14.setCell ⟨(X4.heap.size + 1), 5, none⟩ (.int .u8 1)).heap[wr.heap.size]? = some (.cells #[.int .u8 k, .int .u8 s0, .int .u8 c0, .int .u8 1] 55 (0, 0))) := (hK wr.heap.size (by omega) (by omega)).trans H14_2.out
          have H15_3 : Hid ((X14.setCell ⟨(X4.heap.size + 1), 5, none⟩ (.int .u8 1)).heap[(wr.heap.size + 1)]? = some (.cells #[.int .u8 3, .int .i64 s, .int .i64 c, .int .i64 0, .int .i64 0, .int .u8 0] 31 (0, 0))) := (hK (wr.heap.size + 1) (by omega) (by omega)).trans H14_3.out
          have H15_4 : Hid ((X14.setCell ⟨(X4.heap.size + 1), 5, none⟩ (.int .u8 1)).heap[X4.heap.size]? = some (.cells #[.int .u8 3, .int .i64 s, .int .i64 c, .int .i64 0, .int .i64 0, .int .u8 1] 31 (0, 0))) := (hK X4.heap.size (by omega) (by omega)).trans H14_4.out
          have H15_5 : Hid ((X14.setCell ⟨(X4.heap.size + 1), 5, none⟩ (.int .u8 1)).heap[(X4.heap.size + 1)]? = some (.cells #[.int .u8 3, .int .i64 s, .int .i64 c, .int .i64 0, .int .i64 0, .int .u8 1] 31 (0, 0))) := blk_set H14_5.out (5) _
          have HL15 : Hid (LiveO (StoB (U.heap.size + 2) (st.alloc ((s : Int), (c : Int)) 1) (2 * j + 2)) U (fun (i : Nat) => i = SB ∨ i = (SB + 1) ∨ i = wr.heap.size ∨ i = (wr.heap.size + 1) ∨ i = X4.heap.size ∨ i = (X4.heap.size + 1)) (X14.setCell ⟨(X4.heap.size + 1), 5, none⟩ (.int .u8 1))) := HL14.out.setCell (sto_thing (U.heap.size + 2) (st.alloc ((s : Int), (c : Int)) 1) (2 * j + 2)) (p := ⟨(X4.heap.size + 1), 5, none⟩) (.inr (.inr (.inr (.inr (.inr rfl))))) (by show U.heap.size ≤ (X4.heap.size + 1); omega)
          have : SB < (X14.setCell ⟨(X4.heap.size + 1), 5, none⟩ (.int .u8 1)).heap.size := by first | omega | (rw [World.size_alloc]; omega) | (rw [setCell_size]; omega)
          have : (SB + 1) < (X14.setCell ⟨(X4.heap.size + 1), 5, none⟩ (.int .u8 1)).heap.size := by first | omega | (rw [World.size_alloc]; omega) | (rw [setCell_size]; omega)
          have : wr.heap.size < (X14.setCell ⟨(X4.heap.size + 1), 5, none⟩ (.int .u8 1)).heap.size := by first | omega | (rw [World.size_alloc]; omega) | (rw [setCell_size]; omega)
          have : (wr.heap.size + 1) < (X14.setCell ⟨(X4.heap.size + 1), 5, none⟩ (.int .u8 1)).heap.size := by first | omega | (rw [World.size_alloc]; omega) | (rw [setCell_size]; omega)
          have : X4.heap.size < (X14.setCell ⟨(X4.heap.size + 1), 5, none⟩ (.int .u8 1)).heap.size := by first | omega | (rw [World.size_alloc]; omega) | (rw [setCell_size]; omega)
          have : (X4.heap.size + 1) < (X14.setCell ⟨(X4.heap.size + 1), 5, none⟩ (.int .u8 1)).heap.size := by first | omega | (rw [World.size_alloc]; omega) | (rw [setCell_size]; omega)
          have ls15 : U.heap.size ≤ (X14.setCell ⟨(X4.heap.size + 1), 5, none⟩ (.int .u8 1)).heap.size := by first | omega | (rw [World.size_alloc]; omega) | (rw [setCell_size]; omega)
          have lt15 : X14.heap.size ≤ (X14.setCell ⟨(X4.heap.size + 1), 5, none⟩ (.int .u8 1)).heap.size := by first | omega | (rw [World.size_alloc]; omega) | (rw [setCell_size]; omega)
          clear hK HL14 H14_0 H14_1 H14_2 H14_3 H14_4 H14_5
          generalize (X14.setCell ⟨(X4.heap.size + 1), 5, none⟩ (.int .u8 1)) = X15 at *
          have c3_0 : X15.cell? ⟨(wr.heap.size + 1), 0, none⟩ = some (.int .u8 3) := by rw [cell_of_row _ _ _ _ _ _ H15_3.out]; rfl
          have c3_1 : X15.cell? ⟨(wr.heap.size + 1), 1, none⟩ = some (.int .i64 s) := by rw [cell_of_row _ _ _ _ _ _ H15_3.out]; rfl
          have c3_2 : X15.cell? ⟨(wr.heap.size + 1), 2, none⟩ = some (.int .i64 c) := by rw [cell_of_row _ _ _ _ _ _ H15_3.out]; rfl
          have c3_3 : X15.cell? ⟨(wr.heap.size + 1), 3, none⟩ = some (.int .i64 0) := by rw [cell_of_row _ _ _ _ _ _ H15_3.out]; rfl
          have c3_4 : X15.cell? ⟨(wr.heap.size + 1), 4, none⟩ = some (.int .i64 0) := by rw [cell_of_row _ _ _ _ _ _ H15_3.out]; rfl
          have c3_5 : X15.cell? ⟨(wr.heap.size + 1), 5, none⟩ = some (.int .u8 0) := by rw [cell_of_row _ _ _ _ _ _ H15_3.out]; rfl
          have c4_0 : X15.cell? ⟨X4.heap.size, 0, none⟩ = some (.int .u8 3) := by rw [cell_of_row _ _ _ _ _ _ H15_4.out]; rfl
          have c4_1 : X15.cell? ⟨X4.heap.size, 1, none⟩ = some (.int .i64 s) := by rw [cell_of_row _ _ _ _ _ _ H15_4.out]; rfl
          have c4_2 : X15.cell? ⟨X4.heap.size, 2, none⟩ = some (.int .i64 c) := by rw [cell_of_row _ _ _ _ _ _ H15_4.out]; rfl
          have c4_3 : X15.cell? ⟨X4.heap.size, 3, none⟩ = some (.int .i64 0) := by rw [cell_of_row _ _ _ _ _ _ H15_4.out]; rfl
          have c4_4 : X15.cell? ⟨X4.heap.size, 4, none⟩ = some (.int .i64 0) := by rw [cell_of_row _ _ _ _ _ _ H15_4.out]; rfl
          have c4_5 : X15.cell? ⟨X4.heap.size, 5, none⟩ = some (.int .u8 1) := by rw [cell_of_row _ _ _ _ _ _ H15_4.out]; rfl
          have c5_0 : X15.cell? ⟨(X4.heap.size + 1), 0, none⟩ = some (.int .u8 3) := by rw [cell_of_row _ _ _ _ _ _ H15_5.out]; rfl
          have c5_1 : X15.cell? ⟨(X4.heap.size + 1), 1, none⟩ = some (.int .i64 s) := by rw [cell_of_row _ _ _ _ _ _ H15_5.out]; rfl
          have c5_2 : X15.cell? ⟨(X4.heap.size + 1), 2, none⟩ = some (.int .i64 c) := by rw [cell_of_row _ _ _ _ _ _ H15_5.out]; rfl
          have c5_3 : X15.cell? ⟨(X4.heap.size + 1), 3, none⟩ = some (.int .i64 0) := by rw [cell_of_row _ _ _ _ _ _ H15_5.out]; rfl
          have c5_4 : X15.cell? ⟨(X4.heap.size + 1), 4, none⟩ = some (.int .i64 0) := by rw [cell_of_row _ _ _ _ _ _ H15_5.out]; rfl
          have c5_5 : X15.cell? ⟨(X4.heap.size + 1), 5, none⟩ = some (.int .u8 1) := by rw [cell_of_row _ _ _ _ _ _ H15_5.out]; rfl
          go_wp2
          go_roundw
          case rel => exact ⟨j + 1, (st.alloc ((s : Int), (c : Int)) 1), by omega, by go_num, (HF.out.alloc s3 c3 _), (HL15.out.less (fun i hi => by rcases hi with rfl | rfl; exact .inl rfl; exact .inr (.inl rfl))).imp (fun F hF => stoB_mono hF (by omega)), H15_0, H15_1⟩
          case measure => simp [intOf]; omega
        · skip
          skip
          go_wp2_with (refine wpList_load_mid rfl _ _ rfl gg (oo + j * 4) rfl [.int .u8 k, .int .u8 s0, .int .u8 c0, .int .u8 v] _ HRG.out Try.underlying55 rfl (by kernel_rfl) ?_)
          have HL1 := HL
          have ls1 : U.heap.size ≤ wr.heap.size := HL1.out.old.size
          have H1_0 := HS
          have H1_1 := HA
          have : SB < wr.heap.size := H1_0.out.lt
          have : (SB + 1) < wr.heap.size := H1_1.out.lt
          have hK : ∀ i, i < wr.heap.size → (wr.alloc (.cells #[.int .u8 k, .int .u8 s0, .int .u8 c0, .int .u8 v] 55)).heap[i]? = wr.heap[i]? := fun i hi => alloc_block_old hi
          have H2_0 : Hid (ArrB (wr.alloc (.cells #[.int .u8 k, .int .u8 s0, .int .u8 c0, .int .u8 v] 55)) SB 51 9 (gSaid st)) := H1_0.out.kept (hK SB (by omega))
          have H2_1 : Hid (ArrB (wr.alloc (.cells #[.int .u8 k, .int .u8 s0, .int .u8 c0, .int .u8 v] 55)) (SB + 1) 53 9 (gAside st)) := H1_1.out.kept (hK (SB + 1) (by omega))
          have H2_2 : Hid ((wr.alloc (.cells #[.int .u8 k, .int .u8 s0, .int .u8 c0, .int .u8 v] 55)).heap[wr.heap.size]? = some (.cells #[.int .u8 k, .int .u8 s0, .int .u8 c0, .int .u8 v] 55 (0, 0))) := alloc_at (by omega)
          have HL2 : Hid (LiveO (StoB (U.heap.size + 2) st (2 * j)) U (fun (i : Nat) => i = SB ∨ i = (SB + 1) ∨ i = wr.heap.size) (wr.alloc (.cells #[.int .u8 k, .int .u8 s0, .int .u8 c0, .int .u8 v] 55))) := (HL1.out.alloc (sto_thing (U.heap.size + 2) st (2 * j)) (.cells #[.int .u8 k, .int .u8 s0, .int .u8 c0, .int .u8 v] 55)).less (N' := (fun (i : Nat) => i = SB ∨ i = (SB + 1) ∨ i = wr.heap.size)) (fun i hi => by rcases hi with h0 | h1 | h2; exact .inl (.inl h0); exact .inl (.inr h1); exact .inr (by omega))
          have : SB < (wr.alloc (.cells #[.int .u8 k, .int .u8 s0, .int .u8 c0, .int .u8 v] 55)).heap.size := by first | omega | (rw [World.size_alloc]; omega) | (rw [setCell_size]; omega)
          have : (SB + 1) < (wr.alloc (.cells #[.int .u8 k, .int .u8 s0, .int .u8 c0, .int .u8 v] 55)).heap.size := by first | omega | (rw [World.size_alloc]; omega) | (rw [setCell_size]; omega)
          have ls2 : U.heap.size ≤ (wr.alloc (.cells #[.int .u8 k, .int .u8 s0, .int .u8 c0, .int .u8 v] 55)).heap.size := by first | omega | (rw [World.size_alloc]; omega) | (rw [setCell_size]; omega)
          have lt2 : wr.heap.size ≤ (wr.alloc (.cells #[.int .u8 k, .int .u8 s0, .int .u8 c0, .int .u8 v] 55)).heap.size := by first | omega | (rw [World.size_alloc]; omega) | (rw [setCell_size]; omega)
          have : wr.heap.size < (wr.alloc (.cells #[.int .u8 k, .int .u8 s0, .int .u8 c0, .int .u8 v] 55)).heap.size := by rw [World.size_alloc]; omega
          have lg2 : (wr.alloc (.cells #[.int .u8 k, .int .u8 s0, .int .u8 c0, .int .u8 v] 55)).heap.size ≤ wr.heap.size + 1 ∧ wr.heap.size + 1 ≤ (wr.alloc (.cells #[.int .u8 k, .int .u8 s0, .int .u8 c0, .int .u8 v] 55)).heap.size := by rw [World.size_alloc]; omega
          have : SB < wr.heap.size := by omega
          have : (SB + 1) < wr.heap.size := by omega
          clear hK HL1 H1_0 H1_1
          generalize (wr.alloc (.cells #[.int .u8 k, .int .u8 s0, .int .u8 c0, .int .u8 v] 55)) = X2 at *
          have hK : ∀ i, i < X2.heap.size → (X2.alloc (.cells #[.int .u8 3, .int .i64 s, .int .i64 c, .int .i64 0, .int .i64 0, .int .u8 0] 31)).heap[i]? = X2.heap[i]? := fun i hi => alloc_block_old hi
          have H3_0 : Hid (ArrB (X2.alloc (.cells #[.int .u8 3, .int .i64 s, .int .i64 c, .int .i64 0, .int .i64 0, .int .u8 0] 31)) SB 51 9 (gSaid st)) := H2_0.out.kept (hK SB (by omega))
          have H3_1 : Hid (ArrB (X2.alloc (.cells #[.int .u8 3, .int .i64 s, .int .i64 c, .int .i64 0, .int .i64 0, .int .u8 0] 31)) (SB + 1) 53 9 (gAside st)) := H2_1.out.kept (hK (SB + 1) (by omega))
          have H3_2 : Hid ((X2.alloc (.cells #[.int .u8 3, .int .i64 s, .int .i64 c, .int .i64 0, .int .i64 0, .int .u8 0] 31)).heap[wr.heap.size]? = some (.cells #[.int .u8 k, .int .u8 s0, .int .u8 c0, .int .u8 v] 55 (0, 0))) := (hK wr.heap.size (by omega)).trans H2_2.out
          have H3_3 : Hid ((X2.alloc (.cells #[.int .u8 3, .int .i64 s, .int .i64 c, .int .i64 0, .int .i64 0, .int .u8 0] 31)).heap[(wr.heap.size + 1)]? = some (.cells #[.int .u8 3, .int .i64 s, .int .i64 c, .int .i64 0, .int .i64 0, .int .u8 0] 31 (0, 0))) := alloc_at (by omega)
          have HL3 : Hid (LiveO (StoB (U.heap.size + 2) st (2 * j)) U (fun (i : Nat) => i = SB ∨ i = (SB + 1) ∨ i = wr.heap.size ∨ i = (wr.heap.size + 1)) (X2.alloc (.cells #[.int .u8 3, .int .i64 s, .int .i64 c, .int .i64 0, .int .i64 0, .int .u8 0] 31))) := (HL2.out.alloc (sto_thing (U.heap.size + 2) st (2 * j)) (.cells #[.int .u8 3, .int .i64 s, .int .i64 c, .int .i64 0, .int .i64 0, .int .u8 0] 31)).less (N' := (fun (i : Nat) => i = SB ∨ i = (SB + 1) ∨ i = wr.heap.size ∨ i = (wr.heap.size + 1))) (fun i hi => by rcases hi with h0 | h1 | h2 | h3; exact .inl (.inl h0); exact .inl (.inr (.inl h1)); exact .inl (.inr (.inr h2)); exact .inr (by omega))
          have : SB < (X2.alloc (.cells #[.int .u8 3, .int .i64 s, .int .i64 c, .int .i64 0, .int .i64 0, .int .u8 0] 31)).heap.size := by first | omega | (rw [World.size_alloc]; omega) | (rw [setCell_size]; omega)
          have : (SB + 1) < (X2.alloc (.cells #[.int .u8 3, .int .i64 s, .int .i64 c, .int .i64 0, .int .i64 0, .int .u8 0] 31)).heap.size := by first | omega | (rw [World.size_alloc]; omega) | (rw [setCell_size]; omega)
          have : wr.heap.size < (X2.alloc (.cells #[.int .u8 3, .int .i64 s, .int .i64 c, .int .i64 0, .int .i64 0, .int .u8 0] 31)).heap.size := by first | omega | (rw [World.size_alloc]; omega) | (rw [setCell_size]; omega)
          have ls3 : U.heap.size ≤ (X2.alloc (.cells #[.int .u8 3, .int .i64 s, .int .i64 c, .int .i64 0, .int .i64 0, .int .u8 0] 31)).heap.size := by first | omega | (rw [World.size_alloc]; omega) | (rw [setCell_size]; omega)
          have lt3 : X2.heap.size ≤ (X2.alloc (.cells #[.int .u8 3, .int .i64 s, .int .i64 c, .int .i64 0, .int .i64 0, .int .u8 0] 31)).heap.size := by first | omega | (rw [World.size_alloc]; omega) | (rw [setCell_size]; omega)
          have : (wr.heap.size + 1) < (X2.alloc (.cells #[.int .u8 3, .int .i64 s, .int .i64 c, .int .i64 0, .int .i64 0, .int .u8 0] 31)).heap.size := by rw [World.size_alloc]; omega
          have lg3 : (X2.alloc (.cells #[.int .u8 3, .int .i64 s, .int .i64 c, .int .i64 0, .int .i64 0, .int .u8 0] 31)).heap.size ≤ X2.heap.size + 1 ∧ X2.heap.size + 1 ≤ (X2.alloc (.cells #[.int .u8 3, .int .i64 s, .int .i64 c, .int .i64 0, .int .i64 0, .int .u8 0] 31)).heap.size := by rw [World.size_alloc]; omega
          have : SB < (wr.heap.size + 1) := by omega
          have : (SB + 1) < (wr.heap.size + 1) := by omega
          have : wr.heap.size < (wr.heap.size + 1) := by omega
          clear hK HL2 H2_0 H2_1 H2_2
          generalize (X2.alloc (.cells #[.int .u8 3, .int .i64 s, .int .i64 c, .int .i64 0, .int .i64 0, .int .u8 0] 31)) = X3 at *
          refine (shear_alloc_live HL3.out (fun i hx0 => (hx0.elim (fun (hi : i = SB) => by omega) (fun hx1 => (hx1.elim (fun (hi : i = (SB + 1)) => by omega) (fun hx2 => (hx2.elim (fun (hi : i = wr.heap.size) => by omega) (fun hx3 => ((fun (hi : i = (wr.heap.size + 1)) => by omega) hx3)))))))) hk (by omega)).mono ?_
          rintro e X4 ⟨rfl, hl, hk⟩
          have hsz : X3.heap.size ≤ X4.heap.size := hk.size
          have H4_0 : Hid (ArrB X4 SB 51 9 (gSaid st)) := H3_0.out.kept (hk.block SB (.inl rfl))
          have H4_1 : Hid (ArrB X4 (SB + 1) 53 9 (gAside st)) := H3_1.out.kept (hk.block (SB + 1) (.inr (.inl rfl)))
          have H4_2 : Hid (X4.heap[wr.heap.size]? = some (.cells #[.int .u8 k, .int .u8 s0, .int .u8 c0, .int .u8 v] 55 (0, 0))) := (hk.block wr.heap.size (.inr (.inr (.inl rfl)))).trans H3_2.out
          have H4_3 : Hid (X4.heap[(wr.heap.size + 1)]? = some (.cells #[.int .u8 3, .int .i64 s, .int .i64 c, .int .i64 0, .int .i64 0, .int .u8 0] 31 (0, 0))) := (hk.block (wr.heap.size + 1) (.inr (.inr (.inr rfl)))).trans H3_3.out
          have HL4 := Lib.hid hl
          have : SB < X4.heap.size := by omega
          have : (SB + 1) < X4.heap.size := by omega
          have : wr.heap.size < X4.heap.size := by omega
          have : (wr.heap.size + 1) < X4.heap.size := by omega
          have ls4 : U.heap.size ≤ X4.heap.size := by omega
          clear hl hk hsz HL3 H3_0 H3_1 H3_2 H3_3
          have c3_0 : X4.cell? ⟨(wr.heap.size + 1), 0, none⟩ = some (.int .u8 3) := by rw [cell_of_row _ _ _ _ _ _ H4_3.out]; rfl
          have c3_1 : X4.cell? ⟨(wr.heap.size + 1), 1, none⟩ = some (.int .i64 s) := by rw [cell_of_row _ _ _ _ _ _ H4_3.out]; rfl
          have c3_2 : X4.cell? ⟨(wr.heap.size + 1), 2, none⟩ = some (.int .i64 c) := by rw [cell_of_row _ _ _ _ _ _ H4_3.out]; rfl
          have c3_3 : X4.cell? ⟨(wr.heap.size + 1), 3, none⟩ = some (.int .i64 0) := by rw [cell_of_row _ _ _ _ _ _ H4_3.out]; rfl
          have c3_4 : X4.cell? ⟨(wr.heap.size + 1), 4, none⟩ = some (.int .i64 0) := by rw [cell_of_row _ _ _ _ _ _ H4_3.out]; rfl
          have c3_5 : X4.cell? ⟨(wr.heap.size + 1), 5, none⟩ = some (.int .u8 0) := by rw [cell_of_row _ _ _ _ _ _ H4_3.out]; rfl
          have HSD : Hid (st.said ((s : Int), (c : Int)) = none) := hsd
          have ha : st.ans ((s : Int), (c : Int)) v = 3 := by unfold Sto.ans; rw [hsd]; exact if_neg hv1
          rw [ha]
          clear ha
          go_wp2
          have hK : ∀ i, i < X4.heap.size → (X4.alloc (.cells #[.int .u8 3, .int .i64 s, .int .i64 c, .int .i64 0, .int .i64 0, .int .u8 3] 31)).heap[i]? = X4.heap[i]? := fun i hi => alloc_block_old hi
          have H5_0 : Hid (ArrB (X4.alloc (.cells #[.int .u8 3, .int .i64 s, .int .i64 c, .int .i64 0, .int .i64 0, .int .u8 3] 31)) SB 51 9 (gSaid st)) := H4_0.out.kept (hK SB (by omega))
          have H5_1 : Hid (ArrB (X4.alloc (.cells #[.int .u8 3, .int .i64 s, .int .i64 c, .int .i64 0, .int .i64 0, .int .u8 3] 31)) (SB + 1) 53 9 (gAside st)) := H4_1.out.kept (hK (SB + 1) (by omega))
          have H5_2 : Hid ((X4.alloc (.cells #[.int .u8 3, .int .i64 s, .int .i64 c, .int .i64 0, .int .i64 0, .int .u8 3] 31)).heap[wr.heap.size]? = some (.cells #[.int .u8 k, .int .u8 s0, .int .u8 c0, .int .u8 v] 55 (0, 0))) := (hK wr.heap.size (by omega)).trans H4_2.out
          have H5_3 : Hid ((X4.alloc (.cells #[.int .u8 3, .int .i64 s, .int .i64 c, .int .i64 0, .int .i64 0, .int .u8 3] 31)).heap[(wr.heap.size + 1)]? = some (.cells #[.int .u8 3, .int .i64 s, .int .i64 c, .int .i64 0, .int .i64 0, .int .u8 0] 31 (0, 0))) := (hK (wr.heap.size + 1) (by omega)).trans H4_3.out
          have H5_4 : Hid ((X4.alloc (.cells #[.int .u8 3, .int .i64 s, .int .i64 c, .int .i64 0, .int .i64 0, .int .u8 3] 31)).heap[X4.heap.size]? = some (.cells #[.int .u8 3, .int .i64 s, .int .i64 c, .int .i64 0, .int .i64 0, .int .u8 3] 31 (0, 0))) := alloc_at (by omega)
          have HL5 : Hid (LiveO (StoB (U.heap.size + 2) (st.alloc ((s : Int), (c : Int)) v) (2 * j + 2)) U (fun (i : Nat) => i = SB ∨ i = (SB + 1) ∨ i = wr.heap.size ∨ i = (wr.heap.size + 1) ∨ i = X4.heap.size) (X4.alloc (.cells #[.int .u8 3, .int .i64 s, .int .i64 c, .int .i64 0, .int .i64 0, .int .u8 3] 31))) := (HL4.out.alloc (sto_thing (U.heap.size + 2) (st.alloc ((s : Int), (c : Int)) v) (2 * j + 2)) (.cells #[.int .u8 3, .int .i64 s, .int .i64 c, .int .i64 0, .int .i64 0, .int .u8 3] 31)).less (N' := (fun (i : Nat) => i = SB ∨ i = (SB + 1) ∨ i = wr.heap.size ∨ i = (wr.heap.size + 1) ∨ i = X4.heap.size)) (fun i hi => by rcases hi with h0 | h1 | h2 | h3 | h4; exact .inl (.inl h0); exact .inl (.inr (.inl h1)); exact .inl (.inr (.inr (.inl h2))); exact .inl (.inr (.inr (.inr h3))); exact .inr (by omega))
          have : SB < (X4.alloc (.cells #[.int .u8 3, .int .i64 s, .int .i64 c, .int .i64 0, .int .i64 0, .int .u8 3] 31)).heap.size := by first | omega | (rw [World.size_alloc]; omega) | (rw [setCell_size]; omega)
          have : (SB + 1) < (X4.alloc (.cells #[.int .u8 3, .int .i64 s, .int .i64 c, .int .i64 0, .int .i64 0, .int .u8 3] 31)).heap.size := by first | omega | (rw [World.size_alloc]; omega) | (rw [setCell_size]; omega)
          have : wr.heap.size < (X4.alloc (.cells #[.int .u8 3, .int .i64 s, .int .i64 c, .int .i64 0, .int .i64 0, .int .u8 3] 31)).heap.size := by first | omega | (rw [World.size_alloc]; omega) | (rw [setCell_size]; omega)
          have : (wr.heap.size + 1) < (X4.alloc (.cells #[.int .u8 3, .int .i64 s, .int .i64 c, .int .i64 0, .int .i64 0, .int .u8 3] 31)).heap.size := by first | omega | (rw [World.size_alloc]; omega) | (rw [setCell_size]; omega)
          have ls5 : U.heap.size ≤ (X4.alloc (.cells #[.int .u8 3, .int .i64 s, .int .i64 c, .int .i64 0, .int .i64 0, .int .u8 3] 31)).heap.size := by first | omega | (rw [World.size_alloc]; omega) | (rw [setCell_size]; omega)
          have lt5 : X4.heap.size ≤ (X4.alloc (.cells #[.int .u8 3, .int .i64 s, .int .i64 c, .int .i64 0, .int .i64 0, .int .u8 3] 31)).heap.size := by first | omega | (rw [World.size_alloc]; omega) | (rw [setCell_size]; omega)
          have : X4.heap.size < (X4.alloc (.cells #[.int .u8 3, .int .i64 s, .int .i64 c, .int .i64 0, .int .i64 0, .int .u8 3] 31)).heap.size := by rw [World.size_alloc]; omega
          have lg5 : (X4.alloc (.cells #[.int .u8 3, .int .i64 s, .int .i64 c, .int .i64 0, .int .i64 0, .int .u8 3] 31)).heap.size ≤ X4.heap.size + 1 ∧ X4.heap.size + 1 ≤ (X4.alloc (.cells #[.int .u8 3, .int .i64 s, .int .i64 c, .int .i64 0, .int .i64 0, .int .u8 3] 31)).heap.size := by rw [World.size_alloc]; omega
          have : SB < X4.heap.size := by omega
          have : (SB + 1) < X4.heap.size := by omega
          have : wr.heap.size < X4.heap.size := by omega
          have : (wr.heap.size + 1) < X4.heap.size := by omega
          clear hK HL4 H4_0 H4_1 H4_2 H4_3 c3_0 c3_1 c3_2 c3_3 c3_4 c3_5
          generalize (X4.alloc (.cells #[.int .u8 3, .int .i64 s, .int .i64 c, .int .i64 0, .int .i64 0, .int .u8 3] 31)) = X5 at *
          have hK : ∀ i, i < X5.heap.size → (X5.alloc (.cells #[.int .u8 3, .int .i64 s, .int .i64 c, .int .i64 0, .int .i64 0, .int .u8 0] 31)).heap[i]? = X5.heap[i]? := fun i hi => alloc_block_old hi
          have H6_0 : Hid (ArrB (X5.alloc (.cells #[.int .u8 3, .int .i64 s, .int .i64 c, .int .i64 0, .int .i64 0, .int .u8 0] 31)) SB 51 9 (gSaid st)) := H5_0.out.kept (hK SB (by omega))
          have H6_1 : Hid (ArrB (X5.alloc (.cells #[.int .u8 3, .int .i64 s, .int .i64 c, .int .i64 0, .int .i64 0, .int .u8 0] 31)) (SB + 1) 53 9 (gAside st)) := H5_1.out.kept (hK (SB + 1) (by omega))
          have H6_2 : Hid ((X5.alloc (.cells #[.int .u8 3, .int .i64 s, .int .i64 c, .int .i64 0, .int .i64 0, .int .u8 0] 31)).heap[wr.heap.size]? = some (.cells #[.int .u8 k, .int .u8 s0, .int .u8 c0, .int .u8 v] 55 (0, 0))) := (hK wr.heap.size (by omega)).trans H5_2.out
          have H6_3 : Hid ((X5.alloc (.cells #[.int .u8 3, .int .i64 s, .int .i64 c, .int .i64 0, .int .i64 0, .int .u8 0] 31)).heap[(wr.heap.size + 1)]? = some (.cells #[.int .u8 3, .int .i64 s, .int .i64 c, .int .i64 0, .int .i64 0, .int .u8 0] 31 (0, 0))) := (hK (wr.heap.size + 1) (by omega)).trans H5_3.out
          have H6_4 : Hid ((X5.alloc (.cells #[.int .u8 3, .int .i64 s, .int .i64 c, .int .i64 0, .int .i64 0, .int .u8 0] 31)).heap[X4.heap.size]? = some (.cells #[.int .u8 3, .int .i64 s, .int .i64 c, .int .i64 0, .int .i64 0, .int .u8 3] 31 (0, 0))) := (hK X4.heap.size (by omega)).trans H5_4.out
          have H6_5 : Hid ((X5.alloc (.cells #[.int .u8 3, .int .i64 s, .int .i64 c, .int .i64 0, .int .i64 0, .int .u8 0] 31)).heap[(X4.heap.size + 1)]? = some (.cells #[.int .u8 3, .int .i64 s, .int .i64 c, .int .i64 0, .int .i64 0, .int .u8 0] 31 (0, 0))) := alloc_at (by omega)
          have HL6 : Hid (LiveO (StoB (U.heap.size + 2) (st.alloc ((s : Int), (c : Int)) v) (2 * j + 2)) U (fun (i : Nat) => i = SB ∨ i = (SB + 1) ∨ i = wr.heap.size ∨ i = (wr.heap.size + 1) ∨ i = X4.heap.size ∨ i = (X4.heap.size + 1)) (X5.alloc (.cells #[.int .u8 3, .int .i64 s, .int .i64 c, .int .i64 0, .int .i64 0, .int .u8 0] 31))) := (HL5.out.alloc (sto_thing (U.heap.size + 2) (st.alloc ((s : Int), (c : Int)) v) (2 * j + 2)) (.cells #[.int .u8 3, .int .i64 s, .int .i64 c, .int .i64 0, .int .i64 0, .int .u8 0] 31)).less (N' := (fun (i : Nat) => i = SB ∨ i = (SB + 1) ∨ i = wr.heap.size ∨ i = (wr.heap.size + 1) ∨ i = X4.heap.size ∨ i = (X4.heap.size + 1))) (fun i hi => by rcases hi with h0 | h1 | h2 | h3 | h4 | h5; exact .inl (.inl h0); exact .inl (.inr (.inl h1)); exact .inl (.inr (.inr (.inl h2))); exact .inl (.inr (.inr (.inr (.inl h3)))); exact .inl (.inr (.inr (.inr (.inr h4)))); exact .inr (by omega))
          have : SB < (X5.alloc (.cells #[.int .u8 3, .int .i64 s, .int .i64 c, .int .i64 0, .int .i64 0, .int .u8 0] 31)).heap.size := by first | omega | (rw [World.size_alloc]; omega) | (rw [setCell_size]; omega)
          have : (SB + 1) < (X5.alloc (.cells #[.int .u8 3, .int .i64 s, .int .i64 c, .int .i64 0, .int .i64 0, .int .u8 0] 31)).heap.size := by first | omega | (rw [World.size_alloc]; omega) | (rw [setCell_size]; omega)
          have : wr.heap.size < (X5.alloc (.cells #[.int .u8 3, .int .i64 s, .int .i64 c, .int .i64 0, .int .i64 0, .int .u8 0] 31)).heap.size := by first | omega | (rw [World.size_alloc]; omega) | (rw [setCell_size]; omega)
          have : (wr.heap.size + 1) < (X5.alloc (.cells #[.int .u8 3, .int .i64 s, .int .i64 c, .int .i64 0, .int .i64 0, .int .u8 0] 31)).heap.size := by first | omega | (rw [World.size_alloc]; omega) | (rw [setCell_size]; omega)
          have : X4.heap.size < (X5.alloc (.cells #[.int .u8 3, .int .i64 s, .int .i64 c, .int .i64 0, .int .i64 0, .int .u8 0] 31)).heap.size := by first | omega | (rw [World.size_alloc]; omega) | (rw [setCell_size]; omega)
          have ls6 : U.heap.size ≤ (X5.alloc (.cells #[.int .u8 3, .int .i64 s, .int .i64 c, .int .i64 0, .int .i64 0, .int .u8 0] 31)).heap.size := by first | omega | (rw [World.size_alloc]; omega) | (rw [setCell_size]; omega)
          have lt6 : X5.heap.size ≤ (X5.alloc (.cells #[.int .u8 3, .int .i64 s, .int .i64 c, .int .i64 0, .int .i64 0, .int .u8 0] 31)).heap.size := by first | omega | (rw [World.size_alloc]; omega) | (rw [setCell_size]; omega)
          have : (X4.heap.size + 1) < (X5.alloc (.cells #[.int .u8 3, .int .i64 s, .int .i64 c, .int .i64 0, .int .i64 0, .int .u8 0] 31)).heap.size := by rw [World.size_alloc]; omega
          have lg6 : (X5.alloc (.cells #[.int .u8 3, .int .i64 s, .int .i64 c, .int .i64 0, .int .i64 0, .int .u8 0] 31)).heap.size ≤ X5.heap.size + 1 ∧ X5.heap.size + 1 ≤ (X5.alloc (.cells #[.int .u8 3, .int .i64 s, .int .i64 c, .int .i64 0, .int .i64 0, .int .u8 0] 31)).heap.size := by rw [World.size_alloc]; omega
          have : SB < (X4.heap.size + 1) := by omega
          have : (SB + 1) < (X4.heap.size + 1) := by omega
          have : wr.heap.size < (X4.heap.size + 1) := by omega
          have : (wr.heap.size + 1) < (X4.heap.size + 1) := by omega
          have : X4.heap.size < (X4.heap.size + 1) := by omega
          clear hK HL5 H5_0 H5_1 H5_2 H5_3 H5_4
          generalize (X5.alloc (.cells #[.int .u8 3, .int .i64 s, .int .i64 c, .int .i64 0, .int .i64 0, .int .u8 0] 31)) = X6 at *
          have c3_0 : X6.cell? ⟨(wr.heap.size + 1), 0, none⟩ = some (.int .u8 3) := by rw [cell_of_row _ _ _ _ _ _ H6_3.out]; rfl
          have c3_1 : X6.cell? ⟨(wr.heap.size + 1), 1, none⟩ = some (.int .i64 s) := by rw [cell_of_row _ _ _ _ _ _ H6_3.out]; rfl
          have c3_2 : X6.cell? ⟨(wr.heap.size + 1), 2, none⟩ = some (.int .i64 c) := by rw [cell_of_row _ _ _ _ _ _ H6_3.out]; rfl
          have c3_3 : X6.cell? ⟨(wr.heap.size + 1), 3, none⟩ = some (.int .i64 0) := by rw [cell_of_row _ _ _ _ _ _ H6_3.out]; rfl
          have c3_4 : X6.cell? ⟨(wr.heap.size + 1), 4, none⟩ = some (.int .i64 0) := by rw [cell_of_row _ _ _ _ _ _ H6_3.out]; rfl
          have c3_5 : X6.cell? ⟨(wr.heap.size + 1), 5, none⟩ = some (.int .u8 0) := by rw [cell_of_row _ _ _ _ _ _ H6_3.out]; rfl
          have z0 : X6.cell? ⟨SB, s * 3 + c, none⟩ = some (.int .u8 0) := by rw [H6_0.out.cell (by omega), gSaid_at c3, hsd]; rfl
          go_quiet (fail)
          have hK : ∀ i, i < X6.heap.size → (X6.drewN nq).heap[i]? = X6.heap[i]? := fun i hi => rfl
          have H7_0 : Hid (ArrB (X6.drewN nq) SB 51 9 (gSaid st)) := H6_0.out.kept (hK SB (by omega))
          have H7_1 : Hid (ArrB (X6.drewN nq) (SB + 1) 53 9 (gAside st)) := H6_1.out.kept (hK (SB + 1) (by omega))
          have H7_2 : Hid ((X6.drewN nq).heap[wr.heap.size]? = some (.cells #[.int .u8 k, .int .u8 s0, .int .u8 c0, .int .u8 v] 55 (0, 0))) := (hK wr.heap.size (by omega)).trans H6_2.out
          have H7_3 : Hid ((X6.drewN nq).heap[(wr.heap.size + 1)]? = some (.cells #[.int .u8 3, .int .i64 s, .int .i64 c, .int .i64 0, .int .i64 0, .int .u8 0] 31 (0, 0))) := (hK (wr.heap.size + 1) (by omega)).trans H6_3.out
          have H7_4 : Hid ((X6.drewN nq).heap[X4.heap.size]? = some (.cells #[.int .u8 3, .int .i64 s, .int .i64 c, .int .i64 0, .int .i64 0, .int .u8 3] 31 (0, 0))) := (hK X4.heap.size (by omega)).trans H6_4.out
          have H7_5 : Hid ((X6.drewN nq).heap[(X4.heap.size + 1)]? = some (.cells #[.int .u8 3, .int .i64 s, .int .i64 c, .int .i64 0, .int .i64 0, .int .u8 0] 31 (0, 0))) := (hK (X4.heap.size + 1) (by omega)).trans H6_5.out
          have HL7 : Hid (LiveO (StoB (U.heap.size + 2) (st.alloc ((s : Int), (c : Int)) v) (2 * j + 2)) U (fun (i : Nat) => i = SB ∨ i = (SB + 1) ∨ i = wr.heap.size ∨ i = (wr.heap.size + 1) ∨ i = X4.heap.size ∨ i = (X4.heap.size + 1)) (X6.drewN nq)) := HL6.out.below (sto_thing (U.heap.size + 2) (st.alloc ((s : Int), (c : Int)) v) (2 * j + 2)) (Below.drewN' (Below.refl _ _) _)
          have : SB < (X6.drewN nq).heap.size := by show _ < X6.heap.size; first | omega | (rw [World.size_alloc]; omega) | (rw [setCell_size]; omega)
          have : (SB + 1) < (X6.drewN nq).heap.size := by show _ < X6.heap.size; first | omega | (rw [World.size_alloc]; omega) | (rw [setCell_size]; omega)
          have : wr.heap.size < (X6.drewN nq).heap.size := by show _ < X6.heap.size; first | omega | (rw [World.size_alloc]; omega) | (rw [setCell_size]; omega)
          have : (wr.heap.size + 1) < (X6.drewN nq).heap.size := by show _ < X6.heap.size; first | omega | (rw [World.size_alloc]; omega) | (rw [setCell_size]; omega)
          have : X4.heap.size < (X6.drewN nq).heap.size := by show _ < X6.heap.size; first | omega | (rw [World.size_alloc]; omega) | (rw [setCell_size]; omega)
          have : (X4.heap.size + 1) < (X6.drewN nq).heap.size := by show _ < X6.heap.size; first | omega | (rw [World.size_alloc]; omega) | (rw [setCell_size]; omega)
          have ls7 : U.heap.size ≤ (X6.drewN nq).heap.size := by show _ ≤ X6.heap.size; first | omega | (rw [World.size_alloc]; omega) | (rw [setCell_size]; omega)
          have lt7 : X6.heap.size ≤ (X6.drewN nq).heap.size := by show _ ≤ X6.heap.size; first | omega | (rw [World.size_alloc]; omega) | (rw [setCell_size]; omega)
          clear hK HL6 H6_0 H6_1 H6_2 H6_3 H6_4 H6_5 c3_0 c3_1 c3_2 c3_3 c3_4 c3_5 z0
          generalize (X6.drewN nq) = X7 at *
          go_wp2_with (fail)
          have HS0 : Hid ((fun w' : World => w'.cell? ⟨(wr.heap.size + 1), 1, none⟩ = some (.int .i64 s) ∧ w'.cell? ⟨(wr.heap.size + 1), 2, none⟩ = some (.int .i64 c)) X7.drew) := ⟨by rw [cell_of_row _ _ _ _ _ _ (show X7.drew.heap[_]? = _ from H7_3.out)]; rfl, by rw [cell_of_row _ _ _ _ _ _ (show X7.drew.heap[_]? = _ from H7_3.out)]; rfl⟩
          refine lane_start (ord := [0, 1, 2, 3, 4, 5, 6]) (S := (fun w' : World => w'.cell? ⟨(wr.heap.size + 1), 1, none⟩ = some (.int .i64 s) ∧ w'.cell? ⟨(wr.heap.size + 1), 2, none⟩ = some (.int .i64 c))) rfl (by kernel_rfl) (by exact HS0.out) (fun _ => ?_)
          iterate 6 (refine lane_take (v := ?_) rfl (by kernel_rfl) (by kernel_rfl) (by rfl) ?_ (by exact HS0.out) ?_; rotate_left; (focus (intro w9 hSw; obtain ⟨x0, x1⟩ := hSw; (try go_simp); try (with_reducible rfl))); simp only [Act.put, List.setIfInBounds_toArray, List.set_cons_zero, List.set_cons_succ])
          refine lane_alone rfl (by kernel_rfl) (by rfl) (fun KK hKK => ?_)
          have hA9 : ArrB X7.drew SB 51 9 (gSaid st) := H7_0.out
          refine wp_of_skip (exec_store_one rfl (by rfl) rfl (by kernel_rfl) rfl (hA9.cell (i := s * 3 + c) (by omega)) (hA9.frozen _)) ?_
          have hS9 : (fun w' : World => w'.cell? ⟨(wr.heap.size + 1), 1, none⟩ = some (.int .i64 s) ∧ w'.cell? ⟨(wr.heap.size + 1), 2, none⟩ = some (.int .i64 c)) (X7.drew.setCell ⟨SB, s * 3 + c, none⟩ (.int .u8 3)) := ⟨by rw [cell_of_row _ _ _ _ _ _ (show (X7.drew.setCell ⟨SB, s * 3 + c, none⟩ (.int .u8 3)).heap[_]? = _ from (setCell_other (by omega)).trans H7_3.out)]; rfl, by rw [cell_of_row _ _ _ _ _ _ (show (X7.drew.setCell ⟨SB, s * 3 + c, none⟩ (.int .u8 3)).heap[_]? = _ from (setCell_other (by omega)).trans H7_3.out)]; rfl⟩
          refine hKK _ _ (by exact hS9) (fun _ => ?_)
          clear hKK KK hA9 HS0 hS9
          refine lane_end (by kernel_rfl) ?_
          change Exit.then _ _ Exit.normal _ (X7.drew.setCell ⟨SB, s * 3 + c, none⟩ (.int .u8 3))
          have hK : ∀ i, i < X7.heap.size → X7.drew.heap[i]? = X7.heap[i]? := fun i hi => rfl
          have H8_0 : Hid (ArrB X7.drew SB 51 9 (gSaid st)) := H7_0.out.kept (hK SB (by omega))
          have H8_1 : Hid (ArrB X7.drew (SB + 1) 53 9 (gAside st)) := H7_1.out.kept (hK (SB + 1) (by omega))
          have H8_2 : Hid (X7.drew.heap[wr.heap.size]? = some (.cells #[.int .u8 k, .int .u8 s0, .int .u8 c0, .int .u8 v] 55 (0, 0))) := (hK wr.heap.size (by omega)).trans H7_2.out
          have H8_3 : Hid (X7.drew.heap[(wr.heap.size + 1)]? = some (.cells #[.int .u8 3, .int .i64 s, .int .i64 c, .int .i64 0, .int .i64 0, .int .u8 0] 31 (0, 0))) := (hK (wr.heap.size + 1) (by omega)).trans H7_3.out
          have H8_4 : Hid (X7.drew.heap[X4.heap.size]? = some (.cells #[.int .u8 3, .int .i64 s, .int .i64 c, .int .i64 0, .int .i64 0, .int .u8 3] 31 (0, 0))) := (hK X4.heap.size (by omega)).trans H7_4.out
          have H8_5 : Hid (X7.drew.heap[(X4.heap.size + 1)]? = some (.cells #[.int .u8 3, .int .i64 s, .int .i64 c, .int .i64 0, .int .i64 0, .int .u8 0] 31 (0, 0))) := (hK (X4.heap.size + 1) (by omega)).trans H7_5.out
          have HL8 : Hid (LiveO (StoB (U.heap.size + 2) (st.alloc ((s : Int), (c : Int)) v) (2 * j + 2)) U (fun (i : Nat) => i = SB ∨ i = (SB + 1) ∨ i = wr.heap.size ∨ i = (wr.heap.size + 1) ∨ i = X4.heap.size ∨ i = (X4.heap.size + 1)) X7.drew) := HL7.out.drew (sto_thing (U.heap.size + 2) (st.alloc ((s : Int), (c : Int)) v) (2 * j + 2))
          have : SB < X7.drew.heap.size := by show _ < X7.heap.size; first | omega | (rw [World.size_alloc]; omega) | (rw [setCell_size]; omega)
          have : (SB + 1) < X7.drew.heap.size := by show _ < X7.heap.size; first | omega | (rw [World.size_alloc]; omega) | (rw [setCell_size]; omega)
          have : wr.heap.size < X7.drew.heap.size := by show _ < X7.heap.size; first | omega | (rw [World.size_alloc]; omega) | (rw [setCell_size]; omega)
          have : (wr.heap.size + 1) < X7.drew.heap.size := by show _ < X7.heap.size; first | omega | (rw [World.size_alloc]; omega) | (rw [setCell_size]; omega)
          have : X4.heap.size < X7.drew.heap.size := by show _ < X7.heap.size; first | omega | (rw [World.size_alloc]; omega) | (rw [setCell_size]; omega)
          have : (X4.heap.size + 1) < X7.drew.heap.size := by show _ < X7.heap.size; first | omega | (rw [World.size_alloc]; omega) | (rw [setCell_size]; omega)
          have ls8 : U.heap.size ≤ X7.drew.heap.size := by show _ ≤ X7.heap.size; first | omega | (rw [World.size_alloc]; omega) | (rw [setCell_size]; omega)
          have lt8 : X7.heap.size ≤ X7.drew.heap.size := by show _ ≤ X7.heap.size; first | omega | (rw [World.size_alloc]; omega) | (rw [setCell_size]; omega)
          clear hK HL7 H7_0 H7_1 H7_2 H7_3 H7_4 H7_5
          generalize X7.drew = X8 at *
          have hK : ∀ i, i < X8.heap.size → i ≠ SB → (X8.setCell ⟨SB, s * 3 + c, none⟩ (.int .u8 3)).heap[i]? = X8.heap[i]? := fun i _ hi => setCell_other hi
          have H9_0 : Hid (ArrB (X8.setCell ⟨SB, s * 3 + c, none⟩ (.int .u8 3)) SB 51 9 (gSaid (st.alloc ((s : Int), (c : Int)) v))) := (H8_0.out.set (s * 3 + c) _).congr (fun i _ => by rw [← said_alloc c3 HSD.out i, if_neg hv1])
          have H9_1 : Hid (ArrB (X8.setCell ⟨SB, s * 3 + c, none⟩ (.int .u8 3)) (SB + 1) 53 9 (gAside st)) := H8_1.out.kept (hK (SB + 1) (by omega) (by omega))
          have H9_2 : Hid ((X8.setCell ⟨SB, s * 3 + c, none⟩ (.int .u8 3)).heap[wr.heap.size]? = some (.cells #[.int .u8 k, .int .u8 s0, .int .u8 c0, .int .u8 v] 55 (0, 0))) := (hK wr.heap.size (by omega) (by omega)).trans H8_2.out
          have H9_3 : Hid ((X8.setCell ⟨SB, s * 3 + c, none⟩ (.int .u8 3)).heap[(wr.heap.size + 1)]? = some (.cells #[.int .u8 3, .int .i64 s, .int .i64 c, .int .i64 0, .int .i64 0, .int .u8 0] 31 (0, 0))) := (hK (wr.heap.size + 1) (by omega) (by omega)).trans H8_3.out
          have H9_4 : Hid ((X8.setCell ⟨SB, s * 3 + c, none⟩ (.int .u8 3)).heap[X4.heap.size]? = some (.cells #[.int .u8 3, .int .i64 s, .int .i64 c, .int .i64 0, .int .i64 0, .int .u8 3] 31 (0, 0))) := (hK X4.heap.size (by omega) (by omega)).trans H8_4.out
          have H9_5 : Hid ((X8.setCell ⟨SB, s * 3 + c, none⟩ (.int .u8 3)).heap[(X4.heap.size + 1)]? = some (.cells #[.int .u8 3, .int .i64 s, .int .i64 c, .int .i64 0, .int .i64 0, .int .u8 0] 31 (0, 0))) := (hK (X4.heap.size + 1) (by omega) (by omega)).trans H8_5.out
          have HL9 : Hid (LiveO (StoB (U.heap.size + 2) (st.alloc ((s : Int), (c : Int)) v) (2 * j + 2)) U (fun (i : Nat) => i = SB ∨ i = (SB + 1) ∨ i = wr.heap.size ∨ i = (wr.heap.size + 1) ∨ i = X4.heap.size ∨ i = (X4.heap.size + 1)) (X8.setCell ⟨SB, s * 3 + c, none⟩ (.int .u8 3))) := HL8.out.setCell (sto_thing (U.heap.size + 2) (st.alloc ((s : Int), (c : Int)) v) (2 * j + 2)) (p := ⟨SB, s * 3 + c, none⟩) (.inl rfl) (by show U.heap.size ≤ SB; omega)
          have : SB < (X8.setCell ⟨SB, s * 3 + c, none⟩ (.int .u8 3)).heap.size := by first | omega | (rw [World.size_alloc]; omega) | (rw [setCell_size]; omega)
          have : (SB + 1) < (X8.setCell ⟨SB, s * 3 + c, none⟩ (.int .u8 3)).heap.size := by first | omega | (rw [World.size_alloc]; omega) | (rw [setCell_size]; omega)
          have : wr.heap.size < (X8.setCell ⟨SB, s * 3 + c, none⟩ (.int .u8 3)).heap.size := by first | omega | (rw [World.size_alloc]; omega) | (rw [setCell_size]; omega)
          have : (wr.heap.size + 1) < (X8.setCell ⟨SB, s * 3 + c, none⟩ (.int .u8 3)).heap.size := by first | omega | (rw [World.size_alloc]; omega) | (rw [setCell_size]; omega)
          have : X4.heap.size < (X8.setCell ⟨SB, s * 3 + c, none⟩ (.int .u8 3)).heap.size := by first | omega | (rw [World.size_alloc]; omega) | (rw [setCell_size]; omega)
          have : (X4.heap.size + 1) < (X8.setCell ⟨SB, s * 3 + c, none⟩ (.int .u8 3)).heap.size := by first | omega | (rw [World.size_alloc]; omega) | (rw [setCell_size]; omega)
          have ls9 : U.heap.size ≤ (X8.setCell ⟨SB, s * 3 + c, none⟩ (.int .u8 3)).heap.size := by first | omega | (rw [World.size_alloc]; omega) | (rw [setCell_size]; omega)
          have lt9 : X8.heap.size ≤ (X8.setCell ⟨SB, s * 3 + c, none⟩ (.int .u8 3)).heap.size := by first | omega | (rw [World.size_alloc]; omega) | (rw [setCell_size]; omega)
          clear hK HL8 H8_0 H8_1 H8_2 H8_3 H8_4 H8_5
          generalize (X8.setCell ⟨SB, s * 3 + c, none⟩ (.int .u8 3)) = X9 at *
          have c2_0 : X9.cell? ⟨wr.heap.size, 0, none⟩ = some (.int .u8 k) := by rw [cell_of_row _ _ _ _ _ _ H9_2.out]; rfl
          have c2_1 : X9.cell? ⟨wr.heap.size, 1, none⟩ = some (.int .u8 s0) := by rw [cell_of_row _ _ _ _ _ _ H9_2.out]; rfl
          have c2_2 : X9.cell? ⟨wr.heap.size, 2, none⟩ = some (.int .u8 c0) := by rw [cell_of_row _ _ _ _ _ _ H9_2.out]; rfl
          have c2_3 : X9.cell? ⟨wr.heap.size, 3, none⟩ = some (.int .u8 v) := by rw [cell_of_row _ _ _ _ _ _ H9_2.out]; rfl
          have c3_0 : X9.cell? ⟨(wr.heap.size + 1), 0, none⟩ = some (.int .u8 3) := by rw [cell_of_row _ _ _ _ _ _ H9_3.out]; rfl
          have c3_1 : X9.cell? ⟨(wr.heap.size + 1), 1, none⟩ = some (.int .i64 s) := by rw [cell_of_row _ _ _ _ _ _ H9_3.out]; rfl
          have c3_2 : X9.cell? ⟨(wr.heap.size + 1), 2, none⟩ = some (.int .i64 c) := by rw [cell_of_row _ _ _ _ _ _ H9_3.out]; rfl
          have c3_3 : X9.cell? ⟨(wr.heap.size + 1), 3, none⟩ = some (.int .i64 0) := by rw [cell_of_row _ _ _ _ _ _ H9_3.out]; rfl
          have c3_4 : X9.cell? ⟨(wr.heap.size + 1), 4, none⟩ = some (.int .i64 0) := by rw [cell_of_row _ _ _ _ _ _ H9_3.out]; rfl
          have c3_5 : X9.cell? ⟨(wr.heap.size + 1), 5, none⟩ = some (.int .u8 0) := by rw [cell_of_row _ _ _ _ _ _ H9_3.out]; rfl
          go_wp2
          have HG : Hid (ArrB X9 (SB + 1) 53 9 (gAside (st.alloc ((s : Int), (c : Int)) v))) := H9_1.out.congr (fun i _ => aside_alloc_no HSD.out hv1 i)
          clear H9_1
          have H9_1 := HG
          clear HG
          have z1 : X9.cell? ⟨SB, s * 3 + c, none⟩ = some (.int .u8 3) := by rw [H9_0.out.cell (by omega), gSaid_at c3]; exact congrArg (fun u => some (Value.int .u8 u)) (by show (((st.alloc ((s : Int), (c : Int)) v).said ((s : Int), (c : Int))).getD 0) = _; unfold Sto.alloc; rw [HSD.out]; simp [hv1])
          have HZ1 := Lib.hid z1
          clear z1
          have HS0 : Hid ((fun w' : World => w'.cell? ⟨(wr.heap.size + 1), 1, none⟩ = some (.int .i64 s) ∧ w'.cell? ⟨(wr.heap.size + 1), 2, none⟩ = some (.int .i64 c) ∧ w'.cell? (⟨SB, s * 3 + c, none⟩) = some (.int .u8 3)) X9.drew) := ⟨by rw [cell_of_row _ _ _ _ _ _ (show X9.drew.heap[_]? = _ from H9_3.out)]; rfl, by rw [cell_of_row _ _ _ _ _ _ (show X9.drew.heap[_]? = _ from H9_3.out)]; rfl, HZ1.out⟩
          refine lane_start (ord := [0, 1, 2, 3, 4, 5, 6, 7, 8]) (S := (fun w' : World => w'.cell? ⟨(wr.heap.size + 1), 1, none⟩ = some (.int .i64 s) ∧ w'.cell? ⟨(wr.heap.size + 1), 2, none⟩ = some (.int .i64 c) ∧ w'.cell? (⟨SB, s * 3 + c, none⟩) = some (.int .u8 3))) rfl (by kernel_rfl) (by exact HS0.out) (fun _ => ?_)
          iterate 8 (refine lane_take (v := ?_) rfl (by kernel_rfl) (by kernel_rfl) (by rfl) ?_ (by exact HS0.out) ?_; rotate_left; (focus (intro w9 hSw; obtain ⟨x0, x1, x2⟩ := hSw; (try go_simp); try (with_reducible rfl))); simp only [Act.put, List.setIfInBounds_toArray, List.set_cons_zero, List.set_cons_succ])
          refine lane_alone rfl (by kernel_rfl) (by rfl) (fun KK hKK => ?_)
          have hA9 : X9.drew.heap[(X4.heap.size + 1)]? = some (.cells #[.int .u8 3, .int .i64 s, .int .i64 c, .int .i64 0, .int .i64 0, .int .u8 0] 31 (0, 0)) := H9_5.out
          have hA8 : X9.drew.cell? ⟨(X4.heap.size + 1), 5, none⟩ = some (.int .u8 0) := by rw [cell_of_row _ _ _ _ _ _ hA9]; rfl
          refine wp_of_skip (exec_store_one rfl (by rfl) rfl (by kernel_rfl) rfl hA8 (by rw [World.frozen?, hA9]; simp)) ?_
          clear hA8
          have hS9 : (fun w' : World => w'.cell? ⟨(wr.heap.size + 1), 1, none⟩ = some (.int .i64 s) ∧ w'.cell? ⟨(wr.heap.size + 1), 2, none⟩ = some (.int .i64 c) ∧ w'.cell? (⟨SB, s * 3 + c, none⟩) = some (.int .u8 3)) (X9.drew.setCell ⟨(X4.heap.size + 1), 5, none⟩ (.int .u8 3)) := ⟨by rw [cell_of_row _ _ _ _ _ _ (show (X9.drew.setCell ⟨(X4.heap.size + 1), 5, none⟩ (.int .u8 3)).heap[_]? = _ from (setCell_other (by omega)).trans H9_3.out)]; rfl, by rw [cell_of_row _ _ _ _ _ _ (show (X9.drew.setCell ⟨(X4.heap.size + 1), 5, none⟩ (.int .u8 3)).heap[_]? = _ from (setCell_other (by omega)).trans H9_3.out)]; rfl, (World.cell?_of_block (w' := (X9.drew.setCell ⟨(X4.heap.size + 1), 5, none⟩ (.int .u8 3))) (a := ⟨SB, s * 3 + c, none⟩) (setCell_other (by show (Addr.block ⟨SB, s * 3 + c, none⟩) ≠ (X4.heap.size + 1); show SB ≠ (X4.heap.size + 1); omega))).trans HZ1.out⟩
          refine hKK _ _ (by exact hS9) (fun _ => ?_)
          clear hKK KK hA9 HS0 hS9
          refine lane_end (by kernel_rfl) ?_
          change Exit.then _ _ Exit.normal _ (X9.drew.setCell ⟨(X4.heap.size + 1), 5, none⟩ (.int .u8 3))
          have hK : ∀ i, i < X9.heap.size → X9.drew.heap[i]? = X9.heap[i]? := fun i hi => rfl
          have H10_0 : Hid (ArrB X9.drew SB 51 9 (gSaid (st.alloc ((s : Int), (c : Int)) v))) := H9_0.out.kept (hK SB (by omega))
          have H10_1 : Hid (ArrB X9.drew (SB + 1) 53 9 (gAside (st.alloc ((s : Int), (c : Int)) v))) := H9_1.out.kept (hK (SB + 1) (by omega))
          have H10_2 : Hid (X9.drew.heap[wr.heap.size]? = some (.cells #[.int .u8 k, .int .u8 s0, .int .u8 c0, .int .u8 v] 55 (0, 0))) := (hK wr.heap.size (by omega)).trans H9_2.out
          have H10_3 : Hid (X9.drew.heap[(wr.heap.size + 1)]? = some (.cells #[.int .u8 3, .int .i64 s, .int .i64 c, .int .i64 0, .int .i64 0, .int .u8 0] 31 (0, 0))) := (hK (wr.heap.size + 1) (by omega)).trans H9_3.out
          have H10_4 : Hid (X9.drew.heap[X4.heap.size]? = some (.cells #[.int .u8 3, .int .i64 s, .int .i64 c, .int .i64 0, .int .i64 0, .int .u8 3] 31 (0, 0))) := (hK X4.heap.size (by omega)).trans H9_4.out
          have H10_5 : Hid (X9.drew.heap[(X4.heap.size + 1)]? = some (.cells #[.int .u8 3, .int .i64 s, .int .i64 c, .int .i64 0, .int .i64 0, .int .u8 0] 31 (0, 0))) := (hK (X4.heap.size + 1) (by omega)).trans H9_5.out
          have HL10 : Hid (LiveO (StoB (U.heap.size + 2) (st.alloc ((s : Int), (c : Int)) v) (2 * j + 2)) U (fun (i : Nat) => i = SB ∨ i = (SB + 1) ∨ i = wr.heap.size ∨ i = (wr.heap.size + 1) ∨ i = X4.heap.size ∨ i = (X4.heap.size + 1)) X9.drew) := HL9.out.drew (sto_thing (U.heap.size + 2) (st.alloc ((s : Int), (c : Int)) v) (2 * j + 2))
          have : SB < X9.drew.heap.size := by show _ < X9.heap.size; first | omega | (rw [World.size_alloc]; omega) | (rw [setCell_size]; omega)
          have : (SB + 1) < X9.drew.heap.size := by show _ < X9.heap.size; first | omega | (rw [World.size_alloc]; omega) | (rw [setCell_size]; omega)
          have : wr.heap.size < X9.drew.heap.size := by show _ < X9.heap.size; first | omega | (rw [World.size_alloc]; omega) | (rw [setCell_size]; omega)
          have : (wr.heap.size + 1) < X9.drew.heap.size := by show _ < X9.heap.size; first | omega | (rw [World.size_alloc]; omega) | (rw [setCell_size]; omega)
          have : X4.heap.size < X9.drew.heap.size := by show _ < X9.heap.size; first | omega | (rw [World.size_alloc]; omega) | (rw [setCell_size]; omega)
          have : (X4.heap.size + 1) < X9.drew.heap.size := by show _ < X9.heap.size; first | omega | (rw [World.size_alloc]; omega) | (rw [setCell_size]; omega)
          have ls10 : U.heap.size ≤ X9.drew.heap.size := by show _ ≤ X9.heap.size; first | omega | (rw [World.size_alloc]; omega) | (rw [setCell_size]; omega)
          have lt10 : X9.heap.size ≤ X9.drew.heap.size := by show _ ≤ X9.heap.size; first | omega | (rw [World.size_alloc]; omega) | (rw [setCell_size]; omega)
          clear hK HL9 H9_0 H9_1 H9_2 H9_3 H9_4 H9_5 c2_0 c2_1 c2_2 c2_3 c3_0 c3_1 c3_2 c3_3 c3_4 c3_5
          generalize X9.drew = X10 at *
          have hK : ∀ i, i < X10.heap.size → i ≠ (X4.heap.size + 1) → (X10.setCell ⟨(X4.heap.size + 1), 5, none⟩ (.int .u8 3)).heap[i]? = X10.heap[i]? := fun i _ hi => setCell_other hi
          have H11_0 : Hid (ArrB (X10.setCell ⟨(X4.heap.size + 1), 5, none⟩ (.int .u8 3)) SB 51 9 (gSaid (st.alloc ((s : Int), (c : Int)) v))) := H10_0.out.kept (hK SB (by omega) (by omega))
          have H11_1 : Hid (ArrB (X10.setCell ⟨(X4.heap.size + 1), 5, none⟩ (.int .u8 3)) (SB + 1) 53 9 (gAside (st.alloc ((s : Int), (c : Int)) v))) := H10_1.out.kept (hK (SB + 1) (by omega) (by omega))
          have H11_2 : Hid ((X10.setCell ⟨(X4.heap.size + 1), 5, none⟩ (.int .u8 3)).heap[wr.heap.size]? = some (.cells #[.int .u8 k, .int .u8 s0, .int .u8 c0, .int .u8 v] 55 (0, 0))) := (hK wr.heap.size (by omega) (by omega)).trans H10_2.out
          have H11_3 : Hid ((X10.setCell ⟨(X4.heap.size + 1), 5, none⟩ (.int .u8 3)).heap[(wr.heap.size + 1)]? = some (.cells #[.int .u8 3, .int .i64 s, .int .i64 c, .int .i64 0, .int .i64 0, .int .u8 0] 31 (0, 0))) := (hK (wr.heap.size + 1) (by omega) (by omega)).trans H10_3.out
          have H11_4 : Hid ((X10.setCell ⟨(X4.heap.size + 1), 5, none⟩ (.int .u8 3)).heap[X4.heap.size]? = some (.cells #[.int .u8 3, .int .i64 s, .int .i64 c, .int .i64 0, .int .i64 0, .int .u8 3] 31 (0, 0))) := (hK X4.heap.size (by omega) (by omega)).trans H10_4.out
          have H11_5 : Hid ((X10.setCell ⟨(X4.heap.size + 1), 5, none⟩ (.int .u8 3)).heap[(X4.heap.size + 1)]? = some (.cells #[.int .u8 3, .int .i64 s, .int .i64 c, .int .i64 0, .int .i64 0, .int .u8 3] 31 (0, 0))) := blk_set H10_5.out (5) _
          have HL11 : Hid (LiveO (StoB (U.heap.size + 2) (st.alloc ((s : Int), (c : Int)) v) (2 * j + 2)) U (fun (i : Nat) => i = SB ∨ i = (SB + 1) ∨ i = wr.heap.size ∨ i = (wr.heap.size + 1) ∨ i = X4.heap.size ∨ i = (X4.heap.size + 1)) (X10.setCell ⟨(X4.heap.size + 1), 5, none⟩ (.int .u8 3))) := HL10.out.setCell (sto_thing (U.heap.size + 2) (st.alloc ((s : Int), (c : Int)) v) (2 * j + 2)) (p := ⟨(X4.heap.size + 1), 5, none⟩) (.inr (.inr (.inr (.inr (.inr rfl))))) (by show U.heap.size ≤ (X4.heap.size + 1); omega)
          have : SB < (X10.setCell ⟨(X4.heap.size + 1), 5, none⟩ (.int .u8 3)).heap.size := by first | omega | (rw [World.size_alloc]; omega) | (rw [setCell_size]; omega)
          have : (SB + 1) < (X10.setCell ⟨(X4.heap.size + 1), 5, none⟩ (.int .u8 3)).heap.size := by first | omega | (rw [World.size_alloc]; omega) | (rw [setCell_size]; omega)
          have : wr.heap.size < (X10.setCell ⟨(X4.heap.size + 1), 5, none⟩ (.int .u8 3)).heap.size := by first | omega | (rw [World.size_alloc]; omega) | (rw [setCell_size]; omega)
          have : (wr.heap.size + 1) < (X10.setCell ⟨(X4.heap.size + 1), 5, none⟩ (.int .u8 3)).heap.size := by first | omega | (rw [World.size_alloc]; omega) | (rw [setCell_size]; omega)
          have : X4.heap.size < (X10.setCell ⟨(X4.heap.size + 1), 5, none⟩ (.int .u8 3)).heap.size := by first | omega | (rw [World.size_alloc]; omega) | (rw [setCell_size]; omega)
          have : (X4.heap.size + 1) < (X10.setCell ⟨(X4.heap.size + 1), 5, none⟩ (.int .u8 3)).heap.size := by first | omega | (rw [World.size_alloc]; omega) | (rw [setCell_size]; omega)
          have ls11 : U.heap.size ≤ (X10.setCell ⟨(X4.heap.size + 1), 5, none⟩ (.int .u8 3)).heap.size := by first | omega | (rw [World.size_alloc]; omega) | (rw [setCell_size]; omega)
          have lt11 : X10.heap.size ≤ (X10.setCell ⟨(X4.heap.size + 1), 5, none⟩ (.int .u8 3)).heap.size := by first | omega | (rw [World.size_alloc]; omega) | (rw [setCell_size]; omega)
          clear hK HL10 H10_0 H10_1 H10_2 H10_3 H10_4 H10_5
          generalize (X10.setCell ⟨(X4.heap.size + 1), 5, none⟩ (.int .u8 3)) = X11 at *
          have c3_0 : X11.cell? ⟨(wr.heap.size + 1), 0, none⟩ = some (.int .u8 3) := by rw [cell_of_row _ _ _ _ _ _ H11_3.out]; rfl
          have c3_1 : X11.cell? ⟨(wr.heap.size + 1), 1, none⟩ = some (.int .i64 s) := by rw [cell_of_row _ _ _ _ _ _ H11_3.out]; rfl
          have c3_2 : X11.cell? ⟨(wr.heap.size + 1), 2, none⟩ = some (.int .i64 c) := by rw [cell_of_row _ _ _ _ _ _ H11_3.out]; rfl
          have c3_3 : X11.cell? ⟨(wr.heap.size + 1), 3, none⟩ = some (.int .i64 0) := by rw [cell_of_row _ _ _ _ _ _ H11_3.out]; rfl
          have c3_4 : X11.cell? ⟨(wr.heap.size + 1), 4, none⟩ = some (.int .i64 0) := by rw [cell_of_row _ _ _ _ _ _ H11_3.out]; rfl
          have c3_5 : X11.cell? ⟨(wr.heap.size + 1), 5, none⟩ = some (.int .u8 0) := by rw [cell_of_row _ _ _ _ _ _ H11_3.out]; rfl
          have c4_0 : X11.cell? ⟨X4.heap.size, 0, none⟩ = some (.int .u8 3) := by rw [cell_of_row _ _ _ _ _ _ H11_4.out]; rfl
          have c4_1 : X11.cell? ⟨X4.heap.size, 1, none⟩ = some (.int .i64 s) := by rw [cell_of_row _ _ _ _ _ _ H11_4.out]; rfl
          have c4_2 : X11.cell? ⟨X4.heap.size, 2, none⟩ = some (.int .i64 c) := by rw [cell_of_row _ _ _ _ _ _ H11_4.out]; rfl
          have c4_3 : X11.cell? ⟨X4.heap.size, 3, none⟩ = some (.int .i64 0) := by rw [cell_of_row _ _ _ _ _ _ H11_4.out]; rfl
          have c4_4 : X11.cell? ⟨X4.heap.size, 4, none⟩ = some (.int .i64 0) := by rw [cell_of_row _ _ _ _ _ _ H11_4.out]; rfl
          have c4_5 : X11.cell? ⟨X4.heap.size, 5, none⟩ = some (.int .u8 3) := by rw [cell_of_row _ _ _ _ _ _ H11_4.out]; rfl
          have c5_0 : X11.cell? ⟨(X4.heap.size + 1), 0, none⟩ = some (.int .u8 3) := by rw [cell_of_row _ _ _ _ _ _ H11_5.out]; rfl
          have c5_1 : X11.cell? ⟨(X4.heap.size + 1), 1, none⟩ = some (.int .i64 s) := by rw [cell_of_row _ _ _ _ _ _ H11_5.out]; rfl
          have c5_2 : X11.cell? ⟨(X4.heap.size + 1), 2, none⟩ = some (.int .i64 c) := by rw [cell_of_row _ _ _ _ _ _ H11_5.out]; rfl
          have c5_3 : X11.cell? ⟨(X4.heap.size + 1), 3, none⟩ = some (.int .i64 0) := by rw [cell_of_row _ _ _ _ _ _ H11_5.out]; rfl
          have c5_4 : X11.cell? ⟨(X4.heap.size + 1), 4, none⟩ = some (.int .i64 0) := by rw [cell_of_row _ _ _ _ _ _ H11_5.out]; rfl
          have c5_5 : X11.cell? ⟨(X4.heap.size + 1), 5, none⟩ = some (.int .u8 3) := by rw [cell_of_row _ _ _ _ _ _ H11_5.out]; rfl
          go_wp2
          go_roundw
          case rel => exact ⟨j + 1, (st.alloc ((s : Int), (c : Int)) v), by omega, by go_num, (HF.out.alloc s3 c3 _), (HL11.out.less (fun i hi => by rcases hi with rfl | rfl; exact .inl rfl; exact .inr (.inl rfl))).imp (fun F hF => stoB_mono hF (by omega)), H11_0, H11_1⟩
          case measure => simp [intOf]; omega
      | some x =>
        skip
        go_wp2_with (refine wpList_load_mid rfl _ _ rfl gg (oo + j * 4) rfl [.int .u8 k, .int .u8 s0, .int .u8 c0, .int .u8 v] _ HRG.out Try.underlying55 rfl (by kernel_rfl) ?_)
        have HL1 := HL
        have ls1 : U.heap.size ≤ wr.heap.size := HL1.out.old.size
        have H1_0 := HS
        have H1_1 := HA
        have : SB < wr.heap.size := H1_0.out.lt
        have : (SB + 1) < wr.heap.size := H1_1.out.lt
        have hK : ∀ i, i < wr.heap.size → (wr.alloc (.cells #[.int .u8 k, .int .u8 s0, .int .u8 c0, .int .u8 v] 55)).heap[i]? = wr.heap[i]? := fun i hi => alloc_block_old hi
        have H2_0 : Hid (ArrB (wr.alloc (.cells #[.int .u8 k, .int .u8 s0, .int .u8 c0, .int .u8 v] 55)) SB 51 9 (gSaid st)) := H1_0.out.kept (hK SB (by omega))
        have H2_1 : Hid (ArrB (wr.alloc (.cells #[.int .u8 k, .int .u8 s0, .int .u8 c0, .int .u8 v] 55)) (SB + 1) 53 9 (gAside st)) := H1_1.out.kept (hK (SB + 1) (by omega))
        have H2_2 : Hid ((wr.alloc (.cells #[.int .u8 k, .int .u8 s0, .int .u8 c0, .int .u8 v] 55)).heap[wr.heap.size]? = some (.cells #[.int .u8 k, .int .u8 s0, .int .u8 c0, .int .u8 v] 55 (0, 0))) := alloc_at (by omega)
        have HL2 : Hid (LiveO (StoB (U.heap.size + 2) st (2 * j)) U (fun (i : Nat) => i = SB ∨ i = (SB + 1) ∨ i = wr.heap.size) (wr.alloc (.cells #[.int .u8 k, .int .u8 s0, .int .u8 c0, .int .u8 v] 55))) := (HL1.out.alloc (sto_thing (U.heap.size + 2) st (2 * j)) (.cells #[.int .u8 k, .int .u8 s0, .int .u8 c0, .int .u8 v] 55)).less (N' := (fun (i : Nat) => i = SB ∨ i = (SB + 1) ∨ i = wr.heap.size)) (fun i hi => by rcases hi with h0 | h1 | h2; exact .inl (.inl h0); exact .inl (.inr h1); exact .inr (by omega))
        have : SB < (wr.alloc (.cells #[.int .u8 k, .int .u8 s0, .int .u8 c0, .int .u8 v] 55)).heap.size := by first | omega | (rw [World.size_alloc]; omega) | (rw [setCell_size]; omega)
        have : (SB + 1) < (wr.alloc (.cells #[.int .u8 k, .int .u8 s0, .int .u8 c0, .int .u8 v] 55)).heap.size := by first | omega | (rw [World.size_alloc]; omega) | (rw [setCell_size]; omega)
        have ls2 : U.heap.size ≤ (wr.alloc (.cells #[.int .u8 k, .int .u8 s0, .int .u8 c0, .int .u8 v] 55)).heap.size := by first | omega | (rw [World.size_alloc]; omega) | (rw [setCell_size]; omega)
        have lt2 : wr.heap.size ≤ (wr.alloc (.cells #[.int .u8 k, .int .u8 s0, .int .u8 c0, .int .u8 v] 55)).heap.size := by first | omega | (rw [World.size_alloc]; omega) | (rw [setCell_size]; omega)
        have : wr.heap.size < (wr.alloc (.cells #[.int .u8 k, .int .u8 s0, .int .u8 c0, .int .u8 v] 55)).heap.size := by rw [World.size_alloc]; omega
        have lg2 : (wr.alloc (.cells #[.int .u8 k, .int .u8 s0, .int .u8 c0, .int .u8 v] 55)).heap.size ≤ wr.heap.size + 1 ∧ wr.heap.size + 1 ≤ (wr.alloc (.cells #[.int .u8 k, .int .u8 s0, .int .u8 c0, .int .u8 v] 55)).heap.size := by rw [World.size_alloc]; omega
        have : SB < wr.heap.size := by omega
        have : (SB + 1) < wr.heap.size := by omega
        clear hK HL1 H1_0 H1_1
        generalize (wr.alloc (.cells #[.int .u8 k, .int .u8 s0, .int .u8 c0, .int .u8 v] 55)) = X2 at *
        have hK : ∀ i, i < X2.heap.size → (X2.alloc (.cells #[.int .u8 3, .int .i64 s, .int .i64 c, .int .i64 0, .int .i64 0, .int .u8 0] 31)).heap[i]? = X2.heap[i]? := fun i hi => alloc_block_old hi
        have H3_0 : Hid (ArrB (X2.alloc (.cells #[.int .u8 3, .int .i64 s, .int .i64 c, .int .i64 0, .int .i64 0, .int .u8 0] 31)) SB 51 9 (gSaid st)) := H2_0.out.kept (hK SB (by omega))
        have H3_1 : Hid (ArrB (X2.alloc (.cells #[.int .u8 3, .int .i64 s, .int .i64 c, .int .i64 0, .int .i64 0, .int .u8 0] 31)) (SB + 1) 53 9 (gAside st)) := H2_1.out.kept (hK (SB + 1) (by omega))
        have H3_2 : Hid ((X2.alloc (.cells #[.int .u8 3, .int .i64 s, .int .i64 c, .int .i64 0, .int .i64 0, .int .u8 0] 31)).heap[wr.heap.size]? = some (.cells #[.int .u8 k, .int .u8 s0, .int .u8 c0, .int .u8 v] 55 (0, 0))) := (hK wr.heap.size (by omega)).trans H2_2.out
        have H3_3 : Hid ((X2.alloc (.cells #[.int .u8 3, .int .i64 s, .int .i64 c, .int .i64 0, .int .i64 0, .int .u8 0] 31)).heap[(wr.heap.size + 1)]? = some (.cells #[.int .u8 3, .int .i64 s, .int .i64 c, .int .i64 0, .int .i64 0, .int .u8 0] 31 (0, 0))) := alloc_at (by omega)
        have HL3 : Hid (LiveO (StoB (U.heap.size + 2) st (2 * j)) U (fun (i : Nat) => i = SB ∨ i = (SB + 1) ∨ i = wr.heap.size ∨ i = (wr.heap.size + 1)) (X2.alloc (.cells #[.int .u8 3, .int .i64 s, .int .i64 c, .int .i64 0, .int .i64 0, .int .u8 0] 31))) := (HL2.out.alloc (sto_thing (U.heap.size + 2) st (2 * j)) (.cells #[.int .u8 3, .int .i64 s, .int .i64 c, .int .i64 0, .int .i64 0, .int .u8 0] 31)).less (N' := (fun (i : Nat) => i = SB ∨ i = (SB + 1) ∨ i = wr.heap.size ∨ i = (wr.heap.size + 1))) (fun i hi => by rcases hi with h0 | h1 | h2 | h3; exact .inl (.inl h0); exact .inl (.inr (.inl h1)); exact .inl (.inr (.inr h2)); exact .inr (by omega))
        have : SB < (X2.alloc (.cells #[.int .u8 3, .int .i64 s, .int .i64 c, .int .i64 0, .int .i64 0, .int .u8 0] 31)).heap.size := by first | omega | (rw [World.size_alloc]; omega) | (rw [setCell_size]; omega)
        have : (SB + 1) < (X2.alloc (.cells #[.int .u8 3, .int .i64 s, .int .i64 c, .int .i64 0, .int .i64 0, .int .u8 0] 31)).heap.size := by first | omega | (rw [World.size_alloc]; omega) | (rw [setCell_size]; omega)
        have : wr.heap.size < (X2.alloc (.cells #[.int .u8 3, .int .i64 s, .int .i64 c, .int .i64 0, .int .i64 0, .int .u8 0] 31)).heap.size := by first | omega | (rw [World.size_alloc]; omega) | (rw [setCell_size]; omega)
        have ls3 : U.heap.size ≤ (X2.alloc (.cells #[.int .u8 3, .int .i64 s, .int .i64 c, .int .i64 0, .int .i64 0, .int .u8 0] 31)).heap.size := by first | omega | (rw [World.size_alloc]; omega) | (rw [setCell_size]; omega)
        have lt3 : X2.heap.size ≤ (X2.alloc (.cells #[.int .u8 3, .int .i64 s, .int .i64 c, .int .i64 0, .int .i64 0, .int .u8 0] 31)).heap.size := by first | omega | (rw [World.size_alloc]; omega) | (rw [setCell_size]; omega)
        have : (wr.heap.size + 1) < (X2.alloc (.cells #[.int .u8 3, .int .i64 s, .int .i64 c, .int .i64 0, .int .i64 0, .int .u8 0] 31)).heap.size := by rw [World.size_alloc]; omega
        have lg3 : (X2.alloc (.cells #[.int .u8 3, .int .i64 s, .int .i64 c, .int .i64 0, .int .i64 0, .int .u8 0] 31)).heap.size ≤ X2.heap.size + 1 ∧ X2.heap.size + 1 ≤ (X2.alloc (.cells #[.int .u8 3, .int .i64 s, .int .i64 c, .int .i64 0, .int .i64 0, .int .u8 0] 31)).heap.size := by rw [World.size_alloc]; omega
        have : SB < (wr.heap.size + 1) := by omega
        have : (SB + 1) < (wr.heap.size + 1) := by omega
        have : wr.heap.size < (wr.heap.size + 1) := by omega
        clear hK HL2 H2_0 H2_1 H2_2
        generalize (X2.alloc (.cells #[.int .u8 3, .int .i64 s, .int .i64 c, .int .i64 0, .int .i64 0, .int .u8 0] 31)) = X3 at *
        refine (shear_again2_live hsd HL3.out (fun i hx0 => (hx0.elim (fun (hi : i = SB) => by omega) (fun hx1 => (hx1.elim (fun (hi : i = (SB + 1)) => by omega) (fun hx2 => (hx2.elim (fun (hi : i = wr.heap.size) => by omega) (fun hx3 => ((fun (hi : i = (wr.heap.size + 1)) => by omega) hx3)))))))) hk (by omega)).mono ?_
        rintro e X4 ⟨rfl, hl, hk⟩
        have hsz : X3.heap.size ≤ X4.heap.size := hk.size
        have H4_0 : Hid (ArrB X4 SB 51 9 (gSaid st)) := H3_0.out.kept (hk.block SB (.inl rfl))
        have H4_1 : Hid (ArrB X4 (SB + 1) 53 9 (gAside st)) := H3_1.out.kept (hk.block (SB + 1) (.inr (.inl rfl)))
        have H4_2 : Hid (X4.heap[wr.heap.size]? = some (.cells #[.int .u8 k, .int .u8 s0, .int .u8 c0, .int .u8 v] 55 (0, 0))) := (hk.block wr.heap.size (.inr (.inr (.inl rfl)))).trans H3_2.out
        have H4_3 : Hid (X4.heap[(wr.heap.size + 1)]? = some (.cells #[.int .u8 3, .int .i64 s, .int .i64 c, .int .i64 0, .int .i64 0, .int .u8 0] 31 (0, 0))) := (hk.block (wr.heap.size + 1) (.inr (.inr (.inr rfl)))).trans H3_3.out
        have HL4 := Lib.hid hl
        have : SB < X4.heap.size := by omega
        have : (SB + 1) < X4.heap.size := by omega
        have : wr.heap.size < X4.heap.size := by omega
        have : (wr.heap.size + 1) < X4.heap.size := by omega
        have ls4 : U.heap.size ≤ X4.heap.size := by omega
        clear hl hk hsz HL3 H3_0 H3_1 H3_2 H3_3
        have c3_0 : X4.cell? ⟨(wr.heap.size + 1), 0, none⟩ = some (.int .u8 3) := by rw [cell_of_row _ _ _ _ _ _ H4_3.out]; rfl
        have c3_1 : X4.cell? ⟨(wr.heap.size + 1), 1, none⟩ = some (.int .i64 s) := by rw [cell_of_row _ _ _ _ _ _ H4_3.out]; rfl
        have c3_2 : X4.cell? ⟨(wr.heap.size + 1), 2, none⟩ = some (.int .i64 c) := by rw [cell_of_row _ _ _ _ _ _ H4_3.out]; rfl
        have c3_3 : X4.cell? ⟨(wr.heap.size + 1), 3, none⟩ = some (.int .i64 0) := by rw [cell_of_row _ _ _ _ _ _ H4_3.out]; rfl
        have c3_4 : X4.cell? ⟨(wr.heap.size + 1), 4, none⟩ = some (.int .i64 0) := by rw [cell_of_row _ _ _ _ _ _ H4_3.out]; rfl
        have c3_5 : X4.cell? ⟨(wr.heap.size + 1), 5, none⟩ = some (.int .u8 0) := by rw [cell_of_row _ _ _ _ _ _ H4_3.out]; rfl
        have HSD : Hid (st.said ((s : Int), (c : Int)) = some x) := hsd
        have hx0 : (x == 0) = false := by have := HF.out.said _ _ hsd; simp; omega
        go_wp2
        have hK : ∀ i, i < X4.heap.size → (X4.alloc (.cells #[.int .u8 3, .int .i64 s, .int .i64 c, .int .i64 0, .int .i64 0, .int .u8 x] 31)).heap[i]? = X4.heap[i]? := fun i hi => alloc_block_old hi
        have H5_0 : Hid (ArrB (X4.alloc (.cells #[.int .u8 3, .int .i64 s, .int .i64 c, .int .i64 0, .int .i64 0, .int .u8 x] 31)) SB 51 9 (gSaid st)) := H4_0.out.kept (hK SB (by omega))
        have H5_1 : Hid (ArrB (X4.alloc (.cells #[.int .u8 3, .int .i64 s, .int .i64 c, .int .i64 0, .int .i64 0, .int .u8 x] 31)) (SB + 1) 53 9 (gAside st)) := H4_1.out.kept (hK (SB + 1) (by omega))
        have H5_2 : Hid ((X4.alloc (.cells #[.int .u8 3, .int .i64 s, .int .i64 c, .int .i64 0, .int .i64 0, .int .u8 x] 31)).heap[wr.heap.size]? = some (.cells #[.int .u8 k, .int .u8 s0, .int .u8 c0, .int .u8 v] 55 (0, 0))) := (hK wr.heap.size (by omega)).trans H4_2.out
        have H5_3 : Hid ((X4.alloc (.cells #[.int .u8 3, .int .i64 s, .int .i64 c, .int .i64 0, .int .i64 0, .int .u8 x] 31)).heap[(wr.heap.size + 1)]? = some (.cells #[.int .u8 3, .int .i64 s, .int .i64 c, .int .i64 0, .int .i64 0, .int .u8 0] 31 (0, 0))) := (hK (wr.heap.size + 1) (by omega)).trans H4_3.out
        have H5_4 : Hid ((X4.alloc (.cells #[.int .u8 3, .int .i64 s, .int .i64 c, .int .i64 0, .int .i64 0, .int .u8 x] 31)).heap[X4.heap.size]? = some (.cells #[.int .u8 3, .int .i64 s, .int .i64 c, .int .i64 0, .int .i64 0, .int .u8 x] 31 (0, 0))) := alloc_at (by omega)
        have HL5 : Hid (LiveO (StoB (U.heap.size + 2) st (2 * j + 2)) U (fun (i : Nat) => i = SB ∨ i = (SB + 1) ∨ i = wr.heap.size ∨ i = (wr.heap.size + 1) ∨ i = X4.heap.size) (X4.alloc (.cells #[.int .u8 3, .int .i64 s, .int .i64 c, .int .i64 0, .int .i64 0, .int .u8 x] 31))) := (HL4.out.alloc (sto_thing (U.heap.size + 2) st (2 * j + 2)) (.cells #[.int .u8 3, .int .i64 s, .int .i64 c, .int .i64 0, .int .i64 0, .int .u8 x] 31)).less (N' := (fun (i : Nat) => i = SB ∨ i = (SB + 1) ∨ i = wr.heap.size ∨ i = (wr.heap.size + 1) ∨ i = X4.heap.size)) (fun i hi => by rcases hi with h0 | h1 | h2 | h3 | h4; exact .inl (.inl h0); exact .inl (.inr (.inl h1)); exact .inl (.inr (.inr (.inl h2))); exact .inl (.inr (.inr (.inr h3))); exact .inr (by omega))
        have : SB < (X4.alloc (.cells #[.int .u8 3, .int .i64 s, .int .i64 c, .int .i64 0, .int .i64 0, .int .u8 x] 31)).heap.size := by first | omega | (rw [World.size_alloc]; omega) | (rw [setCell_size]; omega)
        have : (SB + 1) < (X4.alloc (.cells #[.int .u8 3, .int .i64 s, .int .i64 c, .int .i64 0, .int .i64 0, .int .u8 x] 31)).heap.size := by first | omega | (rw [World.size_alloc]; omega) | (rw [setCell_size]; omega)
        have : wr.heap.size < (X4.alloc (.cells #[.int .u8 3, .int .i64 s, .int .i64 c, .int .i64 0, .int .i64 0, .int .u8 x] 31)).heap.size := by first | omega | (rw [World.size_alloc]; omega) | (rw [setCell_size]; omega)
        have : (wr.heap.size + 1) < (X4.alloc (.cells #[.int .u8 3, .int .i64 s, .int .i64 c, .int .i64 0, .int .i64 0, .int .u8 x] 31)).heap.size := by first | omega | (rw [World.size_alloc]; omega) | (rw [setCell_size]; omega)
        have ls5 : U.heap.size ≤ (X4.alloc (.cells #[.int .u8 3, .int .i64 s, .int .i64 c, .int .i64 0, .int .i64 0, .int .u8 x] 31)).heap.size := by first | omega | (rw [World.size_alloc]; omega) | (rw [setCell_size]; omega)
        have lt5 : X4.heap.size ≤ (X4.alloc (.cells #[.int .u8 3, .int .i64 s, .int .i64 c, .int .i64 0, .int .i64 0, .int .u8 x] 31)).heap.size := by first | omega | (rw [World.size_alloc]; omega) | (rw [setCell_size]; omega)
        have : X4.heap.size < (X4.alloc (.cells #[.int .u8 3, .int .i64 s, .int .i64 c, .int .i64 0, .int .i64 0, .int .u8 x] 31)).heap.size := by rw [World.size_alloc]; omega
        have lg5 : (X4.alloc (.cells #[.int .u8 3, .int .i64 s, .int .i64 c, .int .i64 0, .int .i64 0, .int .u8 x] 31)).heap.size ≤ X4.heap.size + 1 ∧ X4.heap.size + 1 ≤ (X4.alloc (.cells #[.int .u8 3, .int .i64 s, .int .i64 c, .int .i64 0, .int .i64 0, .int .u8 x] 31)).heap.size := by rw [World.size_alloc]; omega
        have : SB < X4.heap.size := by omega
        have : (SB + 1) < X4.heap.size := by omega
        have : wr.heap.size < X4.heap.size := by omega
        have : (wr.heap.size + 1) < X4.heap.size := by omega
        clear hK HL4 H4_0 H4_1 H4_2 H4_3 c3_0 c3_1 c3_2 c3_3 c3_4 c3_5
        generalize (X4.alloc (.cells #[.int .u8 3, .int .i64 s, .int .i64 c, .int .i64 0, .int .i64 0, .int .u8 x] 31)) = X5 at *
        have hK : ∀ i, i < X5.heap.size → (X5.alloc (.cells #[.int .u8 3, .int .i64 s, .int .i64 c, .int .i64 0, .int .i64 0, .int .u8 0] 31)).heap[i]? = X5.heap[i]? := fun i hi => alloc_block_old hi
        have H6_0 : Hid (ArrB (X5.alloc (.cells #[.int .u8 3, .int .i64 s, .int .i64 c, .int .i64 0, .int .i64 0, .int .u8 0] 31)) SB 51 9 (gSaid st)) := H5_0.out.kept (hK SB (by omega))
        have H6_1 : Hid (ArrB (X5.alloc (.cells #[.int .u8 3, .int .i64 s, .int .i64 c, .int .i64 0, .int .i64 0, .int .u8 0] 31)) (SB + 1) 53 9 (gAside st)) := H5_1.out.kept (hK (SB + 1) (by omega))
        have H6_2 : Hid ((X5.alloc (.cells #[.int .u8 3, .int .i64 s, .int .i64 c, .int .i64 0, .int .i64 0, .int .u8 0] 31)).heap[wr.heap.size]? = some (.cells #[.int .u8 k, .int .u8 s0, .int .u8 c0, .int .u8 v] 55 (0, 0))) := (hK wr.heap.size (by omega)).trans H5_2.out
        have H6_3 : Hid ((X5.alloc (.cells #[.int .u8 3, .int .i64 s, .int .i64 c, .int .i64 0, .int .i64 0, .int .u8 0] 31)).heap[(wr.heap.size + 1)]? = some (.cells #[.int .u8 3, .int .i64 s, .int .i64 c, .int .i64 0, .int .i64 0, .int .u8 0] 31 (0, 0))) := (hK (wr.heap.size + 1) (by omega)).trans H5_3.out
        have H6_4 : Hid ((X5.alloc (.cells #[.int .u8 3, .int .i64 s, .int .i64 c, .int .i64 0, .int .i64 0, .int .u8 0] 31)).heap[X4.heap.size]? = some (.cells #[.int .u8 3, .int .i64 s, .int .i64 c, .int .i64 0, .int .i64 0, .int .u8 x] 31 (0, 0))) := (hK X4.heap.size (by omega)).trans H5_4.out
        have H6_5 : Hid ((X5.alloc (.cells #[.int .u8 3, .int .i64 s, .int .i64 c, .int .i64 0, .int .i64 0, .int .u8 0] 31)).heap[(X4.heap.size + 1)]? = some (.cells #[.int .u8 3, .int .i64 s, .int .i64 c, .int .i64 0, .int .i64 0, .int .u8 0] 31 (0, 0))) := alloc_at (by omega)
        have HL6 : Hid (LiveO (StoB (U.heap.size + 2) st (2 * j + 2)) U (fun (i : Nat) => i = SB ∨ i = (SB + 1) ∨ i = wr.heap.size ∨ i = (wr.heap.size + 1) ∨ i = X4.heap.size ∨ i = (X4.heap.size + 1)) (X5.alloc (.cells #[.int .u8 3, .int .i64 s, .int .i64 c, .int .i64 0, .int .i64 0, .int .u8 0] 31))) := (HL5.out.alloc (sto_thing (U.heap.size + 2) st (2 * j + 2)) (.cells #[.int .u8 3, .int .i64 s, .int .i64 c, .int .i64 0, .int .i64 0, .int .u8 0] 31)).less (N' := (fun (i : Nat) => i = SB ∨ i = (SB + 1) ∨ i = wr.heap.size ∨ i = (wr.heap.size + 1) ∨ i = X4.heap.size ∨ i = (X4.heap.size + 1))) (fun i hi => by rcases hi with h0 | h1 | h2 | h3 | h4 | h5; exact .inl (.inl h0); exact .inl (.inr (.inl h1)); exact .inl (.inr (.inr (.inl h2))); exact .inl (.inr (.inr (.inr (.inl h3)))); exact .inl (.inr (.inr (.inr (.inr h4)))); exact .inr (by omega))
        have : SB < (X5.alloc (.cells #[.int .u8 3, .int .i64 s, .int .i64 c, .int .i64 0, .int .i64 0, .int .u8 0] 31)).heap.size := by first | omega | (rw [World.size_alloc]; omega) | (rw [setCell_size]; omega)
        have : (SB + 1) < (X5.alloc (.cells #[.int .u8 3, .int .i64 s, .int .i64 c, .int .i64 0, .int .i64 0, .int .u8 0] 31)).heap.size := by first | omega | (rw [World.size_alloc]; omega) | (rw [setCell_size]; omega)
        have : wr.heap.size < (X5.alloc (.cells #[.int .u8 3, .int .i64 s, .int .i64 c, .int .i64 0, .int .i64 0, .int .u8 0] 31)).heap.size := by first | omega | (rw [World.size_alloc]; omega) | (rw [setCell_size]; omega)
        have : (wr.heap.size + 1) < (X5.alloc (.cells #[.int .u8 3, .int .i64 s, .int .i64 c, .int .i64 0, .int .i64 0, .int .u8 0] 31)).heap.size := by first | omega | (rw [World.size_alloc]; omega) | (rw [setCell_size]; omega)
        have : X4.heap.size < (X5.alloc (.cells #[.int .u8 3, .int .i64 s, .int .i64 c, .int .i64 0, .int .i64 0, .int .u8 0] 31)).heap.size := by first | omega | (rw [World.size_alloc]; omega) | (rw [setCell_size]; omega)
        have ls6 : U.heap.size ≤ (X5.alloc (.cells #[.int .u8 3, .int .i64 s, .int .i64 c, .int .i64 0, .int .i64 0, .int .u8 0] 31)).heap.size := by first | omega | (rw [World.size_alloc]; omega) | (rw [setCell_size]; omega)
        have lt6 : X5.heap.size ≤ (X5.alloc (.cells #[.int .u8 3, .int .i64 s, .int .i64 c, .int .i64 0, .int .i64 0, .int .u8 0] 31)).heap.size := by first | omega | (rw [World.size_alloc]; omega) | (rw [setCell_size]; omega)
        have : (X4.heap.size + 1) < (X5.alloc (.cells #[.int .u8 3, .int .i64 s, .int .i64 c, .int .i64 0, .int .i64 0, .int .u8 0] 31)).heap.size := by rw [World.size_alloc]; omega
        have lg6 : (X5.alloc (.cells #[.int .u8 3, .int .i64 s, .int .i64 c, .int .i64 0, .int .i64 0, .int .u8 0] 31)).heap.size ≤ X5.heap.size + 1 ∧ X5.heap.size + 1 ≤ (X5.alloc (.cells #[.int .u8 3, .int .i64 s, .int .i64 c, .int .i64 0, .int .i64 0, .int .u8 0] 31)).heap.size := by rw [World.size_alloc]; omega
        have : SB < (X4.heap.size + 1) := by omega
        have : (SB + 1) < (X4.heap.size + 1) := by omega
        have : wr.heap.size < (X4.heap.size + 1) := by omega
        have : (wr.heap.size + 1) < (X4.heap.size + 1) := by omega
        have : X4.heap.size < (X4.heap.size + 1) := by omega
        clear hK HL5 H5_0 H5_1 H5_2 H5_3 H5_4
        generalize (X5.alloc (.cells #[.int .u8 3, .int .i64 s, .int .i64 c, .int .i64 0, .int .i64 0, .int .u8 0] 31)) = X6 at *
        have c3_0 : X6.cell? ⟨(wr.heap.size + 1), 0, none⟩ = some (.int .u8 3) := by rw [cell_of_row _ _ _ _ _ _ H6_3.out]; rfl
        have c3_1 : X6.cell? ⟨(wr.heap.size + 1), 1, none⟩ = some (.int .i64 s) := by rw [cell_of_row _ _ _ _ _ _ H6_3.out]; rfl
        have c3_2 : X6.cell? ⟨(wr.heap.size + 1), 2, none⟩ = some (.int .i64 c) := by rw [cell_of_row _ _ _ _ _ _ H6_3.out]; rfl
        have c3_3 : X6.cell? ⟨(wr.heap.size + 1), 3, none⟩ = some (.int .i64 0) := by rw [cell_of_row _ _ _ _ _ _ H6_3.out]; rfl
        have c3_4 : X6.cell? ⟨(wr.heap.size + 1), 4, none⟩ = some (.int .i64 0) := by rw [cell_of_row _ _ _ _ _ _ H6_3.out]; rfl
        have c3_5 : X6.cell? ⟨(wr.heap.size + 1), 5, none⟩ = some (.int .u8 0) := by rw [cell_of_row _ _ _ _ _ _ H6_3.out]; rfl
        have z0 : X6.cell? ⟨SB, s * 3 + c, none⟩ = some (.int .u8 x) := by rw [H6_0.out.cell (by omega), gSaid_at c3, hsd]; rfl
        go_quiet (fail)
        have hK : ∀ i, i < X6.heap.size → (X6.drewN nq).heap[i]? = X6.heap[i]? := fun i hi => rfl
        have H7_0 : Hid (ArrB (X6.drewN nq) SB 51 9 (gSaid st)) := H6_0.out.kept (hK SB (by omega))
        have H7_1 : Hid (ArrB (X6.drewN nq) (SB + 1) 53 9 (gAside st)) := H6_1.out.kept (hK (SB + 1) (by omega))
        have H7_2 : Hid ((X6.drewN nq).heap[wr.heap.size]? = some (.cells #[.int .u8 k, .int .u8 s0, .int .u8 c0, .int .u8 v] 55 (0, 0))) := (hK wr.heap.size (by omega)).trans H6_2.out
        have H7_3 : Hid ((X6.drewN nq).heap[(wr.heap.size + 1)]? = some (.cells #[.int .u8 3, .int .i64 s, .int .i64 c, .int .i64 0, .int .i64 0, .int .u8 0] 31 (0, 0))) := (hK (wr.heap.size + 1) (by omega)).trans H6_3.out
        have H7_4 : Hid ((X6.drewN nq).heap[X4.heap.size]? = some (.cells #[.int .u8 3, .int .i64 s, .int .i64 c, .int .i64 0, .int .i64 0, .int .u8 x] 31 (0, 0))) := (hK X4.heap.size (by omega)).trans H6_4.out
        have H7_5 : Hid ((X6.drewN nq).heap[(X4.heap.size + 1)]? = some (.cells #[.int .u8 3, .int .i64 s, .int .i64 c, .int .i64 0, .int .i64 0, .int .u8 0] 31 (0, 0))) := (hK (X4.heap.size + 1) (by omega)).trans H6_5.out
        have HL7 : Hid (LiveO (StoB (U.heap.size + 2) st (2 * j + 2)) U (fun (i : Nat) => i = SB ∨ i = (SB + 1) ∨ i = wr.heap.size ∨ i = (wr.heap.size + 1) ∨ i = X4.heap.size ∨ i = (X4.heap.size + 1)) (X6.drewN nq)) := HL6.out.below (sto_thing (U.heap.size + 2) st (2 * j + 2)) (Below.drewN' (Below.refl _ _) _)
        have : SB < (X6.drewN nq).heap.size := by show _ < X6.heap.size; first | omega | (rw [World.size_alloc]; omega) | (rw [setCell_size]; omega)
        have : (SB + 1) < (X6.drewN nq).heap.size := by show _ < X6.heap.size; first | omega | (rw [World.size_alloc]; omega) | (rw [setCell_size]; omega)
        have : wr.heap.size < (X6.drewN nq).heap.size := by show _ < X6.heap.size; first | omega | (rw [World.size_alloc]; omega) | (rw [setCell_size]; omega)
        have : (wr.heap.size + 1) < (X6.drewN nq).heap.size := by show _ < X6.heap.size; first | omega | (rw [World.size_alloc]; omega) | (rw [setCell_size]; omega)
        have : X4.heap.size < (X6.drewN nq).heap.size := by show _ < X6.heap.size; first | omega | (rw [World.size_alloc]; omega) | (rw [setCell_size]; omega)
        have : (X4.heap.size + 1) < (X6.drewN nq).heap.size := by show _ < X6.heap.size; first | omega | (rw [World.size_alloc]; omega) | (rw [setCell_size]; omega)
        have ls7 : U.heap.size ≤ (X6.drewN nq).heap.size := by show _ ≤ X6.heap.size; first | omega | (rw [World.size_alloc]; omega) | (rw [setCell_size]; omega)
        have lt7 : X6.heap.size ≤ (X6.drewN nq).heap.size := by show _ ≤ X6.heap.size; first | omega | (rw [World.size_alloc]; omega) | (rw [setCell_size]; omega)
        clear hK HL6 H6_0 H6_1 H6_2 H6_3 H6_4 H6_5 c3_0 c3_1 c3_2 c3_3 c3_4 c3_5 z0
        generalize (X6.drewN nq) = X7 at *
        go_wp2
        have c3_0 : X7.cell? ⟨(wr.heap.size + 1), 0, none⟩ = some (.int .u8 3) := by rw [cell_of_row _ _ _ _ _ _ H7_3.out]; rfl
        have c3_1 : X7.cell? ⟨(wr.heap.size + 1), 1, none⟩ = some (.int .i64 s) := by rw [cell_of_row _ _ _ _ _ _ H7_3.out]; rfl
        have c3_2 : X7.cell? ⟨(wr.heap.size + 1), 2, none⟩ = some (.int .i64 c) := by rw [cell_of_row _ _ _ _ _ _ H7_3.out]; rfl
        have c3_3 : X7.cell? ⟨(wr.heap.size + 1), 3, none⟩ = some (.int .i64 0) := by rw [cell_of_row _ _ _ _ _ _ H7_3.out]; rfl
        have c3_4 : X7.cell? ⟨(wr.heap.size + 1), 4, none⟩ = some (.int .i64 0) := by rw [cell_of_row _ _ _ _ _ _ H7_3.out]; rfl
        have c3_5 : X7.cell? ⟨(wr.heap.size + 1), 5, none⟩ = some (.int .u8 0) := by rw [cell_of_row _ _ _ _ _ _ H7_3.out]; rfl
        have z1 : X7.cell? ⟨SB, s * 3 + c, none⟩ = some (.int .u8 x) := by rw [H7_0.out.cell (by omega), gSaid_at c3]; exact congrArg (fun u => some (Value.int .u8 u)) (by rw [HSD.out]; rfl)
        have HZ1 := Lib.hid z1
        clear z1
        have HS0 : Hid ((fun w' : World => w'.cell? ⟨(wr.heap.size + 1), 1, none⟩ = some (.int .i64 s) ∧ w'.cell? ⟨(wr.heap.size + 1), 2, none⟩ = some (.int .i64 c) ∧ w'.cell? (⟨SB, s * 3 + c, none⟩) = some (.int .u8 x)) X7.drew) := ⟨by rw [cell_of_row _ _ _ _ _ _ (show X7.drew.heap[_]? = _ from H7_3.out)]; rfl, by rw [cell_of_row _ _ _ _ _ _ (show X7.drew.heap[_]? = _ from H7_3.out)]; rfl, HZ1.out⟩
        refine lane_start (ord := [0, 1, 2, 3, 4, 5, 6, 7, 8]) (S := (fun w' : World => w'.cell? ⟨(wr.heap.size + 1), 1, none⟩ = some (.int .i64 s) ∧ w'.cell? ⟨(wr.heap.size + 1), 2, none⟩ = some (.int .i64 c) ∧ w'.cell? (⟨SB, s * 3 + c, none⟩) = some (.int .u8 x))) rfl (by kernel_rfl) (by exact HS0.out) (fun _ => ?_)
        iterate 8 (refine lane_take (v := ?_) rfl (by kernel_rfl) (by kernel_rfl) (by rfl) ?_ (by exact HS0.out) ?_; rotate_left; (focus (intro w9 hSw; obtain ⟨x0, x1, x2⟩ := hSw; (try go_simp); try (with_reducible rfl))); simp only [Act.put, List.setIfInBounds_toArray, List.set_cons_zero, List.set_cons_succ])
        refine lane_alone rfl (by kernel_rfl) (by rfl) (fun KK hKK => ?_)
        have hA9 : X7.drew.heap[(X4.heap.size + 1)]? = some (.cells #[.int .u8 3, .int .i64 s, .int .i64 c, .int .i64 0, .int .i64 0, .int .u8 0] 31 (0, 0)) := H7_5.out
        have hA8 : X7.drew.cell? ⟨(X4.heap.size + 1), 5, none⟩ = some (.int .u8 0) := by rw [cell_of_row _ _ _ _ _ _ hA9]; rfl
        refine wp_of_skip (exec_store_one rfl (by rfl) rfl (by kernel_rfl) rfl hA8 (by rw [World.frozen?, hA9]; simp)) ?_
        clear hA8
        have hS9 : (fun w' : World => w'.cell? ⟨(wr.heap.size + 1), 1, none⟩ = some (.int .i64 s) ∧ w'.cell? ⟨(wr.heap.size + 1), 2, none⟩ = some (.int .i64 c) ∧ w'.cell? (⟨SB, s * 3 + c, none⟩) = some (.int .u8 x)) (X7.drew.setCell ⟨(X4.heap.size + 1), 5, none⟩ (.int .u8 x)) := ⟨by rw [cell_of_row _ _ _ _ _ _ (show (X7.drew.setCell ⟨(X4.heap.size + 1), 5, none⟩ (.int .u8 x)).heap[_]? = _ from (setCell_other (by omega)).trans H7_3.out)]; rfl, by rw [cell_of_row _ _ _ _ _ _ (show (X7.drew.setCell ⟨(X4.heap.size + 1), 5, none⟩ (.int .u8 x)).heap[_]? = _ from (setCell_other (by omega)).trans H7_3.out)]; rfl, (World.cell?_of_block (w' := (X7.drew.setCell ⟨(X4.heap.size + 1), 5, none⟩ (.int .u8 x))) (a := ⟨SB, s * 3 + c, none⟩) (setCell_other (by show (Addr.block ⟨SB, s * 3 + c, none⟩) ≠ (X4.heap.size + 1); show SB ≠ (X4.heap.size + 1); omega))).trans HZ1.out⟩
        refine hKK _ _ (by exact hS9) (fun _ => ?_)
        clear hKK KK hA9 HS0 hS9
        refine lane_end (by kernel_rfl) ?_
        change Exit.then _ _ Exit.normal _ (X7.drew.setCell ⟨(X4.heap.size + 1), 5, none⟩ (.int .u8 x))
        have hK : ∀ i, i < X7.heap.size → X7.drew.heap[i]? = X7.heap[i]? := fun i hi => rfl
        have H8_0 : Hid (ArrB X7.drew SB 51 9 (gSaid st)) := H7_0.out.kept (hK SB (by omega))
        have H8_1 : Hid (ArrB X7.drew (SB + 1) 53 9 (gAside st)) := H7_1.out.kept (hK (SB + 1) (by omega))
        have H8_2 : Hid (X7.drew.heap[wr.heap.size]? = some (.cells #[.int .u8 k, .int .u8 s0, .int .u8 c0, .int .u8 v] 55 (0, 0))) := (hK wr.heap.size (by omega)).trans H7_2.out
        have H8_3 : Hid (X7.drew.heap[(wr.heap.size + 1)]? = some (.cells #[.int .u8 3, .int .i64 s, .int .i64 c, .int .i64 0, .int .i64 0, .int .u8 0] 31 (0, 0))) := (hK (wr.heap.size + 1) (by omega)).trans H7_3.out
        have H8_4 : Hid (X7.drew.heap[X4.heap.size]? = some (.cells #[.int .u8 3, .int .i64 s, .int .i64 c, .int .i64 0, .int .i64 0, .int .u8 x] 31 (0, 0))) := (hK X4.heap.size (by omega)).trans H7_4.out
        have H8_5 : Hid (X7.drew.heap[(X4.heap.size + 1)]? = some (.cells #[.int .u8 3, .int .i64 s, .int .i64 c, .int .i64 0, .int .i64 0, .int .u8 0] 31 (0, 0))) := (hK (X4.heap.size + 1) (by omega)).trans H7_5.out
        have HL8 : Hid (LiveO (StoB (U.heap.size + 2) st (2 * j + 2)) U (fun (i : Nat) => i = SB ∨ i = (SB + 1) ∨ i = wr.heap.size ∨ i = (wr.heap.size + 1) ∨ i = X4.heap.size ∨ i = (X4.heap.size + 1)) X7.drew) := HL7.out.drew (sto_thing (U.heap.size + 2) st (2 * j + 2))
        have : SB < X7.drew.heap.size := by show _ < X7.heap.size; first | omega | (rw [World.size_alloc]; omega) | (rw [setCell_size]; omega)
        have : (SB + 1) < X7.drew.heap.size := by show _ < X7.heap.size; first | omega | (rw [World.size_alloc]; omega) | (rw [setCell_size]; omega)
        have : wr.heap.size < X7.drew.heap.size := by show _ < X7.heap.size; first | omega | (rw [World.size_alloc]; omega) | (rw [setCell_size]; omega)
        have : (wr.heap.size + 1) < X7.drew.heap.size := by show _ < X7.heap.size; first | omega | (rw [World.size_alloc]; omega) | (rw [setCell_size]; omega)
        have : X4.heap.size < X7.drew.heap.size := by show _ < X7.heap.size; first | omega | (rw [World.size_alloc]; omega) | (rw [setCell_size]; omega)
        have : (X4.heap.size + 1) < X7.drew.heap.size := by show _ < X7.heap.size; first | omega | (rw [World.size_alloc]; omega) | (rw [setCell_size]; omega)
        have ls8 : U.heap.size ≤ X7.drew.heap.size := by show _ ≤ X7.heap.size; first | omega | (rw [World.size_alloc]; omega) | (rw [setCell_size]; omega)
        have lt8 : X7.heap.size ≤ X7.drew.heap.size := by show _ ≤ X7.heap.size; first | omega | (rw [World.size_alloc]; omega) | (rw [setCell_size]; omega)
        clear hK HL7 H7_0 H7_1 H7_2 H7_3 H7_4 H7_5 c3_0 c3_1 c3_2 c3_3 c3_4 c3_5
        generalize X7.drew = X8 at *
        have hK : ∀ i, i < X8.heap.size → i ≠ (X4.heap.size + 1) → (X8.setCell ⟨(X4.heap.size + 1), 5, none⟩ (.int .u8 x)).heap[i]? = X8.heap[i]? := fun i _ hi => setCell_other hi
        have H9_0 : Hid (ArrB (X8.setCell ⟨(X4.heap.size + 1), 5, none⟩ (.int .u8 x)) SB 51 9 (gSaid st)) := H8_0.out.kept (hK SB (by omega) (by omega))
        have H9_1 : Hid (ArrB (X8.setCell ⟨(X4.heap.size + 1), 5, none⟩ (.int .u8 x)) (SB + 1) 53 9 (gAside st)) := H8_1.out.kept (hK (SB + 1) (by omega) (by omega))
        have H9_2 : Hid ((X8.setCell ⟨(X4.heap.size + 1), 5, none⟩ (.int .u8 x)).heap[wr.heap.size]? = some (.cells #[.int .u8 k, .int .u8 s0, .int .u8 c0, .int .u8 v] 55 (0, 0))) := (hK wr.heap.size (by omega) (by omega)).trans H8_2.out
        have H9_3 : Hid ((X8.setCell ⟨(X4.heap.size + 1), 5, none⟩ (.int .u8 x)).heap[(wr.heap.size + 1)]? = some (.cells #[.int .u8 3, .int .i64 s, .int .i64 c, .int .i64 0, .int .i64 0, .int .u8 0] 31 (0, 0))) := (hK (wr.heap.size + 1) (by omega) (by omega)).trans H8_3.out
        have H9_4 : Hid ((X8.setCell ⟨(X4.heap.size + 1), 5, none⟩ (.int .u8 x)).heap[X4.heap.size]? = some (.cells #[.int .u8 3, .int .i64 s, .int .i64 c, .int .i64 0, .int .i64 0, .int .u8 x] 31 (0, 0))) := (hK X4.heap.size (by omega) (by omega)).trans H8_4.out
        have H9_5 : Hid ((X8.setCell ⟨(X4.heap.size + 1), 5, none⟩ (.int .u8 x)).heap[(X4.heap.size + 1)]? = some (.cells #[.int .u8 3, .int .i64 s, .int .i64 c, .int .i64 0, .int .i64 0, .int .u8 x] 31 (0, 0))) := blk_set H8_5.out (5) _
        have HL9 : Hid (LiveO (StoB (U.heap.size + 2) st (2 * j + 2)) U (fun (i : Nat) => i = SB ∨ i = (SB + 1) ∨ i = wr.heap.size ∨ i = (wr.heap.size + 1) ∨ i = X4.heap.size ∨ i = (X4.heap.size + 1)) (X8.setCell ⟨(X4.heap.size + 1), 5, none⟩ (.int .u8 x))) := HL8.out.setCell (sto_thing (U.heap.size + 2) st (2 * j + 2)) (p := ⟨(X4.heap.size + 1), 5, none⟩) (.inr (.inr (.inr (.inr (.inr rfl))))) (by show U.heap.size ≤ (X4.heap.size + 1); omega)
        have : SB < (X8.setCell ⟨(X4.heap.size + 1), 5, none⟩ (.int .u8 x)).heap.size := by first | omega | (rw [World.size_alloc]; omega) | (rw [setCell_size]; omega)
        have : (SB + 1) < (X8.setCell ⟨(X4.heap.size + 1), 5, none⟩ (.int .u8 x)).heap.size := by first | omega | (rw [World.size_alloc]; omega) | (rw [setCell_size]; omega)
        have : wr.heap.size < (X8.setCell ⟨(X4.heap.size + 1), 5, none⟩ (.int .u8 x)).heap.size := by first | omega | (rw [World.size_alloc]; omega) | (rw [setCell_size]; omega)
        have : (wr.heap.size + 1) < (X8.setCell ⟨(X4.heap.size + 1), 5, none⟩ (.int .u8 x)).heap.size := by first | omega | (rw [World.size_alloc]; omega) | (rw [setCell_size]; omega)
        have : X4.heap.size < (X8.setCell ⟨(X4.heap.size + 1), 5, none⟩ (.int .u8 x)).heap.size := by first | omega | (rw [World.size_alloc]; omega) | (rw [setCell_size]; omega)
        have : (X4.heap.size + 1) < (X8.setCell ⟨(X4.heap.size + 1), 5, none⟩ (.int .u8 x)).heap.size := by first | omega | (rw [World.size_alloc]; omega) | (rw [setCell_size]; omega)
        have ls9 : U.heap.size ≤ (X8.setCell ⟨(X4.heap.size + 1), 5, none⟩ (.int .u8 x)).heap.size := by first | omega | (rw [World.size_alloc]; omega) | (rw [setCell_size]; omega)
        have lt9 : X8.heap.size ≤ (X8.setCell ⟨(X4.heap.size + 1), 5, none⟩ (.int .u8 x)).heap.size := by first | omega | (rw [World.size_alloc]; omega) | (rw [setCell_size]; omega)
        clear hK HL8 H8_0 H8_1 H8_2 H8_3 H8_4 H8_5
        generalize (X8.setCell ⟨(X4.heap.size + 1), 5, none⟩ (.int .u8 x)) = X9 at *
        have c3_0 : X9.cell? ⟨(wr.heap.size + 1), 0, none⟩ = some (.int .u8 3) := by rw [cell_of_row _ _ _ _ _ _ H9_3.out]; rfl
        have c3_1 : X9.cell? ⟨(wr.heap.size + 1), 1, none⟩ = some (.int .i64 s) := by rw [cell_of_row _ _ _ _ _ _ H9_3.out]; rfl
        have c3_2 : X9.cell? ⟨(wr.heap.size + 1), 2, none⟩ = some (.int .i64 c) := by rw [cell_of_row _ _ _ _ _ _ H9_3.out]; rfl
        have c3_3 : X9.cell? ⟨(wr.heap.size + 1), 3, none⟩ = some (.int .i64 0) := by rw [cell_of_row _ _ _ _ _ _ H9_3.out]; rfl
        have c3_4 : X9.cell? ⟨(wr.heap.size + 1), 4, none⟩ = some (.int .i64 0) := by rw [cell_of_row _ _ _ _ _ _ H9_3.out]; rfl
        have c3_5 : X9.cell? ⟨(wr.heap.size + 1), 5, none⟩ = some (.int .u8 0) := by rw [cell_of_row _ _ _ _ _ _ H9_3.out]; rfl
        have c4_0 : X9.cell? ⟨X4.heap.size, 0, none⟩ = some (.int .u8 3) := by rw [cell_of_row _ _ _ _ _ _ H9_4.out]; rfl
        have c4_1 : X9.cell? ⟨X4.heap.size, 1, none⟩ = some (.int .i64 s) := by rw [cell_of_row _ _ _ _ _ _ H9_4.out]; rfl
        have c4_2 : X9.cell? ⟨X4.heap.size, 2, none⟩ = some (.int .i64 c) := by rw [cell_of_row _ _ _ _ _ _ H9_4.out]; rfl
        have c4_3 : X9.cell? ⟨X4.heap.size, 3, none⟩ = some (.int .i64 0) := by rw [cell_of_row _ _ _ _ _ _ H9_4.out]; rfl
        have c4_4 : X9.cell? ⟨X4.heap.size, 4, none⟩ = some (.int .i64 0) := by rw [cell_of_row _ _ _ _ _ _ H9_4.out]; rfl
        have c4_5 : X9.cell? ⟨X4.heap.size, 5, none⟩ = some (.int .u8 x) := by rw [cell_of_row _ _ _ _ _ _ H9_4.out]; rfl
        have c5_0 : X9.cell? ⟨(X4.heap.size + 1), 0, none⟩ = some (.int .u8 3) := by rw [cell_of_row _ _ _ _ _ _ H9_5.out]; rfl
        have c5_1 : X9.cell? ⟨(X4.heap.size + 1), 1, none⟩ = some (.int .i64 s) := by rw [cell_of_row _ _ _ _ _ _ H9_5.out]; rfl
        have c5_2 : X9.cell? ⟨(X4.heap.size + 1), 2, none⟩ = some (.int .i64 c) := by rw [cell_of_row _ _ _ _ _ _ H9_5.out]; rfl
        have c5_3 : X9.cell? ⟨(X4.heap.size + 1), 3, none⟩ = some (.int .i64 0) := by rw [cell_of_row _ _ _ _ _ _ H9_5.out]; rfl
        have c5_4 : X9.cell? ⟨(X4.heap.size + 1), 4, none⟩ = some (.int .i64 0) := by rw [cell_of_row _ _ _ _ _ _ H9_5.out]; rfl
        have c5_5 : X9.cell? ⟨(X4.heap.size + 1), 5, none⟩ = some (.int .u8 x) := by rw [cell_of_row _ _ _ _ _ _ H9_5.out]; rfl
        go_wp2
        go_roundw
        case rel => exact ⟨j + 1, st, by omega, by go_num, HF, (HL9.out.less (fun i hi => by rcases hi with rfl | rfl; exact .inl rfl; exact .inr (.inl rfl))).imp (fun F hF => stoB_mono hF (by omega)), H9_0, H9_1⟩
        case measure => simp [intOf]; omega
theorem storePlays_walk {w : World} (A : Option Addr) (c : Nat) (l : List As4) (hr : RdAs4 w w.heap.size A l) (hw : ∀ p ∈ l, p.Wf) : Calls Try.prog 6 #[.slice A l.length c] w fun e w' => e = .returned (.bool true) ∧ Below w.heap.size w w' := by
  by_cases h : l.length ≤ 60
  · exact storePlays_in A _ c l hr hw rfl h
  · exact storePlays_far A _ c (by omega)
end Go.Proofs.Ytcjhgckkbekhoaa
