/-
  The walk of the law TillPlays. No conditions.
-/
import Derived.Test.YtcjhgckkbekhoaaTilPlays
import Derived.Test.YtcjhgckkbekhoaaActTil
import Derived.Test.YtcjhgckkbekhoaaPartyKit
namespace Go.Proofs.Ytcjhgckkbekhoaa
set_option maxRecDepth 20000
set_option linter.unusedSimpArgs false
set_option linter.unusedVariables false
open Go.ChangeShapes Go.WideShapes Go.ChangeAt Go.RowKit

set_option maxHeartbeats 1000000 in
theorem tillPlays_far {w : World} (A : Option Addr) (n c : Nat) (h : 60 < n) : Calls Try.prog 3 #[.slice A n c] w fun e w' => e = .returned (.bool true) ∧ Below w.heap.size w w' := by
  have d1 : decide ((60 : Int) < (n : Int)) = true := by simp; omega
  go_enter Try.func3, Try.ntmps3
  go_wp2_with (fail)
  refine (tilAwake_any _).mono ?_
  rintro e w1 ⟨rfl, hb1⟩
  go_wp2_with (fail)
  refine (tilAwake_any _).mono ?_
  rintro e w2 ⟨rfl, hb2⟩
  go_wp2
  go_ret
  exact ⟨rfl, hb1.trans (hb2.mono hb1.size)⟩
set_option maxHeartbeats 16000000 in
theorem tillPlays_in {w : World} (A : Option Addr) (n c : Nat) (l : List At6) (hr : RdAt6 w w.heap.size A l) (hw : ∀ p ∈ l, p.Wf) (hn : l.length = n) (h : n ≤ 60) : Calls Try.prog 3 #[.slice A n c] w fun e w' => e = .returned (.bool true) ∧ Below w.heap.size w w' := by
  have d1 : decide ((60 : Int) < (n : Int)) = false := by simp; omega
  have HR := Lib.hid hr
  have HW := Lib.hid hw
  have HN := Lib.hid hn
  clear hr hn hw
  go_enter Try.func3, Try.ntmps3
  go_wp2_with (fail)
  refine (tilAwake_any _).mono ?_
  rintro e U ⟨rfl, hU⟩
  have HU := Lib.hid hU
  have hUs : w.heap.size ≤ U.heap.size := hU.size
  clear hU
  go_wp2_with (fail)
  refine tnew_live.mono ?_
  rintro e W1 ⟨rfl, hl, hz1⟩
  have l1 : U.heap.size ≤ W1.heap.size := hl.old.size
  clear hz1
  have HL1 := Lib.hid hl
  clear hl
  go_wp2
  generalize hSB : W1.heap.size = SB at *
  go_loopw [4, 6] (fun sl i wq => ∃ (j : Nat) (st : Til) (A9 : Option Addr) (c9 : Nat), j ≤ n ∧ i = .int .i64 j ∧ sl = .slice A9 st.es.length c9 ∧ Hid (st.Ok j) ∧ st.es.length ≤ j ∧ Hid (LiveO (TilB (U.heap.size + 4) st (4 * j)) U (fun i => i = SB ∨ (Value.slice A9 st.es.length c9).ownBlock = some i) wq) ∧ Hid (ArrB wq SB 29 36 (gT st)) ∧ Hid (wq.ownsRow U.heap.size 39 4 (.slice A9 st.es.length c9) st.es.length (ecl st.es))) (fun sl i _ => n - (intOf i).toNat)
  case atStart =>
    subst hSB
    refine ⟨0, .new, none, 0, by omega, rfl, rfl, til_ok_new, Nat.le_refl _, (HL1.out.alloc (til_thing _ _ _) _).less (fun i hi => ?_), arrB_of alloc_block rfl ?_, World.ownsRow_nil _ _ _ _⟩
    · rcases hi with rfl | hi
      · exact .inr rfl
      · simp [Value.ownBlock] at hi
    · intro i hi
      have e : (#[.int .u8 0, .int .u8 0, .int .u8 0, .int .u8 0, .int .u8 0, .int .u8 0, .int .u8 0, .int .u8 0, .int .u8 0, .int .u8 0, .int .u8 0, .int .u8 0, .int .u8 0, .int .u8 0, .int .u8 0, .int .u8 0, .int .u8 0, .int .u8 0, .int .u8 0, .int .u8 0, .int .u8 0, .int .u8 0, .int .u8 0, .int .u8 0, .int .u8 0, .int .u8 0, .int .u8 0, .int .u8 0, .int .u8 0, .int .u8 0, .int .u8 0, .int .u8 0, .int .u8 0, .int .u8 0, .int .u8 0, .int .u8 0] : Array Value) = Array.replicate 36 (.int .u8 0) := rfl
      have e2 : gT Til.new i = .int .u8 0 := by unfold gT; split <;> rfl
      show (#[.int .u8 0, .int .u8 0, .int .u8 0, .int .u8 0, .int .u8 0, .int .u8 0, .int .u8 0, .int .u8 0, .int .u8 0, .int .u8 0, .int .u8 0, .int .u8 0, .int .u8 0, .int .u8 0, .int .u8 0, .int .u8 0, .int .u8 0, .int .u8 0, .int .u8 0, .int .u8 0, .int .u8 0, .int .u8 0, .int .u8 0, .int .u8 0, .int .u8 0, .int .u8 0, .int .u8 0, .int .u8 0, .int .u8 0, .int .u8 0, .int .u8 0, .int .u8 0, .int .u8 0, .int .u8 0, .int .u8 0, .int .u8 0] : Array Value)[i]? = _
      rw [e, e2, Array.getElem?_replicate, if_pos hi]
  case round =>
    clear HL1
    obtain ⟨j, st, A9, c9, hj, rfl, rfl, HF, hlj, HL, HS, HO⟩ := hrel
    by_cases hlt : j < n
    case neg =>
      obtain rfl : j = n := by omega
      have dlt : decide ((j : Int) < (j : Int)) = false := by simp
      clear HW HR HN HS
      have hlw : U.heap.size ≤ wr.heap.size := HL.out.old.size
      go_wp2_with (fail)
      refine (entries_live HL.out (by omega)).mono ?_
      rintro e X2 ⟨v9, rfl, ho9, hb9⟩
      obtain ⟨A8, c8, rfl, _, _⟩ := own_form ho9
      have HL2 := Lib.hid (HL.out.below (til_thing _ _ _) hb9)
      have HO2 : Hid (X2.ownsRow U.heap.size 39 4 (.slice A9 st.es.length c9) st.es.length (ecl st.es)) := own_kept HO.out (fun i hi => hb9.block i (HO.out.lt i hi).2)
      have HG2 := Lib.hid ho9
      have l2 : wr.heap.size ≤ X2.heap.size := hb9.size
      clear ho9 hb9 HL HO
      go_wp2
      have HB0 : Hid (Below X2.heap.size X2 (X2.alloc (.cells #[.int .i64 0, .int .i64 0, .int .i64 0] 41))) := (Below.refl _ _).alloc (Nat.le_refl _) _
      have HA0 : Hid (ArrB (X2.alloc (.cells #[.int .i64 0, .int .i64 0, .int .i64 0] 41)) X2.heap.size 41 3 (gN [])) := arrB_of alloc_block rfl (fun i hi => by match i, hi with | 0, _ | 1, _ | 2, _ => rfl)
      generalize hX3 : X2.alloc (.cells #[.int .i64 0, .int .i64 0, .int .i64 0] 41) = X3 at *
      clear hX3
      go_loopw [17] (fun i wq => ∃ a : Nat, a ≤ st.es.length ∧ i = .int .i64 a ∧ Hid (Below X2.heap.size X2 wq) ∧ Hid (ArrB wq X2.heap.size 41 3 (gN (st.es.take a)))) (fun i _ => st.es.length - (intOf i).toNat)
      case atStart => exact ⟨0, by omega, rfl, HB0, HA0⟩
      case round =>
        clear HB0 HA0
        obtain ⟨a, ha, rfl, HB, HA⟩ := hrel
        have lb : X2.heap.size ≤ wr.heap.size := HB.out.size
        by_cases hat : a < st.es.length
        case neg =>
          obtain rfl : a = st.es.length := by omega
          have da : decide ((st.es.length : Int) < (st.es.length : Int)) = false := by simp
          have HL := Lib.hid (HL2.out.below (til_thing _ _ _) HB.out)
          rw [List.take_length] at HA
          clear HB HL2 HO2 HG2
          rename World => X5
          have hwr : X2.heap.size < X5.heap.size := HA.out.lt
          go_wp2
          go_loopw [18] (fun i wq => ∃ a : Nat, a ≤ 3 ∧ i = .int .i64 a ∧ Hid (Below X5.heap.size X5 wq)) (fun i _ => 3 - (intOf i).toNat)
          case atStart => exact ⟨0, by omega, rfl, Below.refl _ _⟩
          case round =>
            obtain ⟨a, ha3, rfl, HB⟩ := hrel
            have HL5 := Lib.hid (HL.out.below (til_thing _ _ _) HB.out)
            have lb5 : X5.heap.size ≤ wr.heap.size := HB.out.size
            by_cases h3 : a < 3
            case neg =>
              obtain rfl : a = 3 := by omega
              go_wp2
              go_ret
              exact ⟨rfl, HU.out.trans (HL5.out.old.mono hUs)⟩
            case pos =>
              have d3 : decide ((a : Int) < 3) = true := by simp; omega
              have k0 : (0 : Int) ≤ (a : Int) := by omega
              have k3 : (a : Int) < 3 := by omega
              have kw : (Lit.int .i64 (a : Int)).wf = true := wf_of (by omega)
              have HNT := Lib.hid (HF.out.nt (a : Int))
              have HN3 := Lib.hid (HF.out.net (a : Int))
              have hbd := fun b : Nat => HF.out.num.tk ((a : Int), (b : Int))
              have HBD := Lib.hid hbd
              have z : wr.cell? ⟨X2.heap.size, a, none⟩ = some (.int .i64 ((st.nt (a : Int)).getD 0)) := (World.cell?_of_block (a := ⟨X2.heap.size, a, none⟩) (HB.out.block _ hwr)).trans (by rw [HA.out.cell h3, HNT.out]; rfl)
              clear hbd
              go_wp2
              go_loopw [19, 20] (fun sm i wq => ∃ b : Nat, b ≤ 3 ∧ i = .int .i64 b ∧ sm = .int .i64 (tk3 st a b) ∧ wq = wr) (fun sm i _ => 3 - (intOf i).toNat)
              case atStart => exact ⟨0, by omega, rfl, rfl, rfl⟩
              case round =>
                obtain ⟨b, hb3, rfl, rfl, hwq⟩ := hrel
                subst hwq
                by_cases h4 : b < 3
                case neg =>
                  obtain rfl : b = 3 := by omega
                  rw [← HN3.out]
                  have hx2 : X2.heap.size < wr.heap.size := by omega
                  have HNC : Hid (∀ y : Later wr, Calls Try.prog 19 #[.pointer (some ⟨U.heap.size + 4, 0, none⟩), .int .i64 a] (over wr y) fun e w' => e = .returned (.int .i64 ((st.nt (a : Int)).getD 0)) ∧ over wr y = w') := fun y => net_live (HL5.out.below (til_thing _ _ _) (over_below wr y)) kw
                  generalize (st.nt (a : Int)).getD 0 = nn at *
                  go_wp2
                  refine region_over (by kernel_rfl) (by kernel_rfl) ?_
                  repeat (go_big_quiet_step (first | (go_at_call 19; exact over_same (HNC.out _))))
                  refine wpQuiet_nil ?_
                  rintro _ ⟨y, rfl⟩
                  have HY := Lib.hid (HB.out.trans ((over_below wr y).mono lb5))
                  go_wp2
                  go_roundw
                  case rel => exact ⟨a + 1, by omega, by go_num, HY⟩
                  case measure => simp [intOf]; omega
                case pos =>
                  have d4 : decide ((b : Int) < 3) = true := by simp; omega
                  have kb : (Lit.int .i64 (b : Int)).wf = true := wf_of (by omega)
                  have q0 : ∀ b : Nat, b ≤ 3 → 0 ≤ tk3 st a b ∧ tk3 st a b ≤ 4000000 * (b : Int) := fun b hb => by
                    induction b with
                    | zero => simp [tk3]
                    | succ b ih =>
                      have h1 := ih (by omega)
                      have h2 := HBD.out b
                      unfold tk3
                      omega
                  have q1 := q0 b (by omega)
                  have q2 := HBD.out b
                  have HS1 : Hid (tk3 st a (b + 1) = tk3 st a b + (st.tk ((a : Int), (b : Int))).getD 0) := rfl
                  clear q0
                  go_wp2_with (fail)
                  refine (taken_live HL5.out ⟨kw, kb⟩).mono ?_
                  rintro e _ ⟨rfl, rfl⟩
                  generalize tk3 st a b = s1 at *
                  generalize (st.tk ((a : Int), (b : Int))).getD 0 = s2 at *
                  go_wp2
                  go_roundw
                  case rel => exact ⟨b + 1, by omega, by go_num, by rw [HS1.out], by first | rfl | trivial⟩
                  case measure => simp [intOf]; omega
        case pos =>
          have da : decide ((a : Int) < (st.es.length : Int)) = true := by simpa using hat
          obtain ⟨e0, hej⟩ : ∃ e, st.es[a]? = some e := ⟨st.es[a], List.getElem?_eq_getElem hat⟩
          obtain ⟨q1, rfl⟩ : ∃ q, A9 = some ⟨q, 0, none⟩ := by
            rcases HO2.out.2 with ⟨_, hn⟩ | ⟨q, cap, cur, hv, _⟩
            · omega
            · injection hv with hA; exact ⟨q, hA⟩
          obtain ⟨q2, rfl⟩ : ∃ q, A8 = some ⟨q, 0, none⟩ := by
            rcases HG2.out.2 with ⟨_, hn⟩ | ⟨q, cap, cur, hv, _⟩
            · omega
            · injection hv with hA; exact ⟨q, hA⟩
          have hq1X : q1 < X2.heap.size := (HO2.out.lt q1 rfl).2
          have hq2X : q2 < X2.heap.size := (HG2.out.lt q2 rfl).2
          have hq1 : q1 < wr.heap.size := by omega
          have hq2 : q2 < wr.heap.size := by omega
          have bu0 : X2.cell? ⟨q1, a * 4, none⟩ = some (.int .i64 e0.s) := by have := HO2.out.cells (g := q1) rfl (a * 4) _ (ecl_at hej).1; rwa [ad_head] at this
          have u0 : wr.cell? ⟨q1, a * 4, none⟩ = some (.int .i64 e0.s) := (World.cell?_of_block (a := ⟨q1, a * 4, none⟩) (HB.out.block q1 hq1X)).trans bu0
          have bu1 : X2.cell? ⟨q1, a * 4 + 1, none⟩ = some (.int .i64 e0.c) := by have := HO2.out.cells (g := q1) rfl (a * 4 + 1) _ (ecl_at hej).2.1; rwa [ad_head] at this
          have u1 : wr.cell? ⟨q1, a * 4 + 1, none⟩ = some (.int .i64 e0.c) := (World.cell?_of_block (a := ⟨q1, a * 4 + 1, none⟩) (HB.out.block q1 hq1X)).trans bu1
          have bu2 : X2.cell? ⟨q1, a * 4 + 2, none⟩ = some (.int .i64 e0.t) := by have := HO2.out.cells (g := q1) rfl (a * 4 + 2) _ (ecl_at hej).2.2.1; rwa [ad_head] at this
          have u2 : wr.cell? ⟨q1, a * 4 + 2, none⟩ = some (.int .i64 e0.t) := (World.cell?_of_block (a := ⟨q1, a * 4 + 2, none⟩) (HB.out.block q1 hq1X)).trans bu2
          have bu3 : X2.cell? ⟨q1, a * 4 + 3, none⟩ = some (.int .i64 e0.a) := by have := HO2.out.cells (g := q1) rfl (a * 4 + 3) _ (ecl_at hej).2.2.2; rwa [ad_head] at this
          have u3 : wr.cell? ⟨q1, a * 4 + 3, none⟩ = some (.int .i64 e0.a) := (World.cell?_of_block (a := ⟨q1, a * 4 + 3, none⟩) (HB.out.block q1 hq1X)).trans bu3
          have by0 : X2.cell? ⟨q2, a * 4, none⟩ = some (.int .i64 e0.s) := by have := HG2.out.cells (g := q2) rfl (a * 4) _ (ecl_at hej).1; rwa [ad_head] at this
          have y0 : wr.cell? ⟨q2, a * 4, none⟩ = some (.int .i64 e0.s) := (World.cell?_of_block (a := ⟨q2, a * 4, none⟩) (HB.out.block q2 hq2X)).trans by0
          have by1 : X2.cell? ⟨q2, a * 4 + 1, none⟩ = some (.int .i64 e0.c) := by have := HG2.out.cells (g := q2) rfl (a * 4 + 1) _ (ecl_at hej).2.1; rwa [ad_head] at this
          have y1 : wr.cell? ⟨q2, a * 4 + 1, none⟩ = some (.int .i64 e0.c) := (World.cell?_of_block (a := ⟨q2, a * 4 + 1, none⟩) (HB.out.block q2 hq2X)).trans by1
          have by2 : X2.cell? ⟨q2, a * 4 + 2, none⟩ = some (.int .i64 e0.t) := by have := HG2.out.cells (g := q2) rfl (a * 4 + 2) _ (ecl_at hej).2.2.1; rwa [ad_head] at this
          have y2 : wr.cell? ⟨q2, a * 4 + 2, none⟩ = some (.int .i64 e0.t) := (World.cell?_of_block (a := ⟨q2, a * 4 + 2, none⟩) (HB.out.block q2 hq2X)).trans by2
          have by3 : X2.cell? ⟨q2, a * 4 + 3, none⟩ = some (.int .i64 e0.a) := by have := HG2.out.cells (g := q2) rfl (a * 4 + 3) _ (ecl_at hej).2.2.2; rwa [ad_head] at this
          have y3 : wr.cell? ⟨q2, a * 4 + 3, none⟩ = some (.int .i64 e0.a) := (World.cell?_of_block (a := ⟨q2, a * 4 + 3, none⟩) (HB.out.block q2 hq2X)).trans by3
          have k0 : (0 : Int) ≤ (a : Int) := by omega
          have kt : (a : Int) < (st.es.length : Int) := by omega
          have hEO := HF.out.es e0 (List.mem_of_getElem? hej)
          have HEO := Lib.hid hEO
          have hes := hEO.s
          have hea := hEO.a
          have HNX : Hid (∀ s : Int, sumN (st.es.take (a + 1)) s = sumN (st.es.take a) s + (if e0.s = s then e0.val else 0)) := fun s => by
            rw [List.take_succ_eq_append_getElem hat, sumN_append, sumN_one]; rw [List.getElem?_eq_getElem hat] at hej; injection hej with hej; rw [hej]
          have hsm := fun s => sumN_le (l := st.es.take a) (fun e he => HF.out.es e (List.mem_of_mem_take he)) s
          rw [List.length_take] at hsm
          have HSM : Hid (∀ s, -240000000 ≤ sumN (st.es.take a) s ∧ sumN (st.es.take a) s ≤ 240000000) := fun s => by have := hsm s; omega
          clear hsm hej
          obtain ⟨s, hs⟩ : ∃ s : Nat, e0.s = (s : Int) := ⟨e0.s.toNat, by omega⟩
          have s3 : s < 3 := by omega
          have s0i : (0 : Int) ≤ (s : Int) := by omega
          have s3i : (s : Int) < 3 := by omega
          have hsm1 := HSM.out (s : Int)
          have HZ : Hid (wr.cell? ⟨X2.heap.size, s, none⟩ = some (.int .i64 (sumN (st.es.take a) s))) := HA.out.cell s3
          have HGS : Hid (∀ u : Int, u = sumN (st.es.take a) s + e0.val → ∀ i, i < 3 → (if i = s then Value.int .i64 u else gN (st.es.take a) i) = gN (st.es.take (a + 1)) i) := fun u hu i hi => by
            unfold gN
            rw [HNX.out, hs]
            by_cases e : i = s
            · subst e; rw [if_pos rfl, if_pos rfl, hu]
            · rw [if_neg e, if_neg (fun h => e (by omega))]; simp
          generalize hS1 : sumN (st.es.take a) (s : Int) = s1 at *
          have HS1 := Lib.hid hS1
          clear hS1 HNX HSM HEO hEO
          have HU1 := Lib.hid bu0
          have HU3 := Lib.hid bu3
          clear bu0 bu1 bu2 bu3 by0 by1 by2 by3
          obtain ⟨es, ec, et, ea⟩ := e0
          simp only at hs hes hea u0 u1 u2 u3 y0 y1 y2 y3 HGS
          subst hs
          unfold Ent.val at HGS
          simp only at HGS
          by_cases h3 : 0 < et
          · skip
            have p3 : decide (0 < et) = true := by simpa using h3
            have HGU : Hid (∀ i, i < 3 → (if i = s then Value.int .i64 (s1 + ea) else gN (st.es.take a) i) = gN (st.es.take (a + 1)) i) := HGS.out _ (by rw [if_pos h3])
            clear HGS h3
            have HQ : Hid (LiveO (NilB 0 0 0) X2 (fun i => i = X2.heap.size) wr) := nil_live HB.out
            clear HZ
            go_wp2_with (fail)
            go_quiet (fail)
            have HL50 := HQ
            have ls50 : X2.heap.size ≤ wr.heap.size := HL50.out.old.size
            have H50_0 := HA
            have : X2.heap.size < wr.heap.size := H50_0.out.lt
            have m2 : (wr.drewN nq).cell? ⟨q1, a * 4 + 2, none⟩ = some (.int .i64 et) := u2
            have hK : ∀ i, i < wr.heap.size → (wr.drewN nq).heap[i]? = wr.heap[i]? := fun i hi => rfl
            obtain ⟨X51, hXe⟩ : ∃ X, (wr.drewN nq) = X := ⟨_, rfl⟩
            rw [hXe] at hK
            have hz9 : X51.heap.size = wr.heap.size := by rw [← hXe]; rfl
            have H51_0 : Hid (ArrB X51 X2.heap.size 41 3 (gN (st.es.take a))) := H50_0.out.kept (hK X2.heap.size (by omega))
            have HL51 : Hid (LiveO (NilB 0 0 0) X2 (fun (i : Nat) => i = X2.heap.size) X51) := by rw [← hXe]; exact HL50.out.below (nil_thing _ _ _) (Below.drewN' (Below.refl _ _) _)
            have : X2.heap.size < X51.heap.size := by omega
            have ls51 : X2.heap.size ≤ X51.heap.size := by omega
            have lt51 : wr.heap.size ≤ X51.heap.size := by omega
            clear hK HL50 H50_0 u0 u1 u2 u3 y0 y1 y2 y3
            rw [hXe] at m2
            rw [hXe]
            clear hXe hz9
            have HZ5 : Hid (X51.cell? ⟨X2.heap.size, s, none⟩ = some (.int .i64 s1)) := by have h9 := H51_0.out.cell s3; unfold gN at h9; rw [HS1.out] at h9; exact h9
            go_wp2_with (fail)
            have HWR : Hid (IntKind.i64.wrap (s1 + ea) = s1 + ea) := by show _ = _; rw [IntKind.wrap_i64]; omega
            obtain ⟨SW, hSW⟩ : ∃ S : World → Prop, S = (fun w' : World => w'.cell? (⟨q1, a * 4, none⟩) = some (.int .i64 s) ∧ w'.cell? (⟨q1, a * 4 + 3, none⟩) = some (.int .i64 ea) ∧ w'.cell? (⟨X2.heap.size, s, none⟩) = some (.int .i64 s1)) := ⟨_, rfl⟩
            have HS0 : Hid (SW X51.drew) := by rw [hSW]; exact ⟨(World.cell?_of_block (w' := X51.drew) (a := ⟨q1, a * 4, none⟩) (by (try rw [ad_block]); exact (HL51.out.old).block _ hq1X)).trans HU1.out, (World.cell?_of_block (w' := X51.drew) (a := ⟨q1, a * 4 + 3, none⟩) (by (try rw [ad_block]); exact (HL51.out.old).block _ hq1X)).trans HU3.out, HZ5.out⟩
            refine laneT_start [0, 1, 2, 3, 4, 5, 6, 7, 8, 9, 10, 11, 12, 13, 14] 14 rfl (by kernel_rfl) (S := SW) ?_
            iterate 14 (refine laneT_take1 (v := ?_) rfl (by kernel_rfl) (by kernel_rfl) (by rfl) ?_ (by exact HS0.out) ?_; rotate_left; (focus (intro w9 hSw; rw [hSW] at hSw; obtain ⟨z0, z1, z2⟩ := hSw; (try go_simp); try (with_reducible rfl))); simp only [Act.put, List.setIfInBounds_toArray, List.set_cons_zero, List.set_cons_succ])
            refine laneT_alone rfl (by kernel_rfl) (by rfl) (fun KK hKK => ?_)
            have hA9 : ArrB X51.drew X2.heap.size 41 3 (gN (st.es.take a)) := H51_0.out
            refine wp_of_skip (exec_store_one rfl (by rfl) rfl (by kernel_rfl) rfl (hA9.cell (i := s) s3) (hA9.frozen _)) ?_
            refine hKK _ _ (fun h => (h rfl).elim) ?_
            clear hKK KK hA9 HS0
            refine laneT_end (by kernel_rfl) ?_
            change Exit.inBlock _ (Exit.then _ _) Exit.normal _ (X51.drew.setCell ⟨X2.heap.size, s, none⟩ (.int .i64 (IntKind.i64.wrap (s1 + ea))))
            rw [HWR.out]
            have hK : ∀ i, i < X51.heap.size → X51.drew.heap[i]? = X51.heap[i]? := fun i hi => rfl
            obtain ⟨X52, hXe⟩ : ∃ X, X51.drew = X := ⟨_, rfl⟩
            rw [hXe] at hK
            have hz9 : X52.heap.size = X51.heap.size := by rw [← hXe]; rfl
            have H52_0 : Hid (ArrB X52 X2.heap.size 41 3 (gN (st.es.take a))) := H51_0.out.kept (hK X2.heap.size (by omega))
            have HL52 : Hid (LiveO (NilB 0 0 0) X2 (fun (i : Nat) => i = X2.heap.size) X52) := by rw [← hXe]; exact HL51.out.drew (nil_thing _ _ _)
            have : X2.heap.size < X52.heap.size := by omega
            have ls52 : X2.heap.size ≤ X52.heap.size := by omega
            have lt52 : X51.heap.size ≤ X52.heap.size := by omega
            have lu52 : X52.heap.size ≤ X51.heap.size := by omega
            clear hK HL51 H51_0
            rw [hXe]
            clear hXe hz9
            have hK : ∀ i, i < X52.heap.size → i ≠ X2.heap.size → (X52.setCell ⟨X2.heap.size, s, none⟩ (.int .i64 (s1 + ea))).heap[i]? = X52.heap[i]? := fun i _ hi => setCell_other hi
            obtain ⟨X53, hXe⟩ : ∃ X, (X52.setCell ⟨X2.heap.size, s, none⟩ (.int .i64 (s1 + ea))) = X := ⟨_, rfl⟩
            rw [hXe] at hK
            have hz9 : X53.heap.size = X52.heap.size := by rw [← hXe, setCell_size]
            have H53_0 : Hid (ArrB X53 X2.heap.size 41 3 (gN (st.es.take (a + 1)))) := by rw [← hXe]; exact (H52_0.out.set (s) _).congr (fun i hi => HGU.out i hi)
            have HL53 : Hid (LiveO (NilB 0 0 0) X2 (fun (i : Nat) => i = X2.heap.size) X53) := by rw [← hXe]; exact HL52.out.setCell (nil_thing _ _ _) (p := ⟨X2.heap.size, s, none⟩) (rfl) (by show X2.heap.size ≤ X2.heap.size; omega)
            have : X2.heap.size < X53.heap.size := by omega
            have ls53 : X2.heap.size ≤ X53.heap.size := by omega
            have lt53 : X52.heap.size ≤ X53.heap.size := by omega
            clear hK HL52 H52_0
            rw [hXe]
            clear hXe hz9
            have HB9 := Lib.hid HL53.out.old
            go_wp2
            go_roundw
            case rel => exact ⟨a + 1, by omega, by go_num, HB9, H53_0⟩
            case measure => simp [intOf]; omega
          · skip
            have p3 : decide (0 < et) = false := by simpa using h3
            have HGU : Hid (∀ i, i < 3 → (if i = s then Value.int .i64 (s1 - ea) else gN (st.es.take a) i) = gN (st.es.take (a + 1)) i) := HGS.out _ (by rw [if_neg h3]; rfl)
            clear HGS h3
            have HQ : Hid (LiveO (NilB 0 0 0) X2 (fun i => i = X2.heap.size) wr) := nil_live HB.out
            clear HZ
            go_wp2_with (fail)
            go_quiet (fail)
            have HL50 := HQ
            have ls50 : X2.heap.size ≤ wr.heap.size := HL50.out.old.size
            have H50_0 := HA
            have : X2.heap.size < wr.heap.size := H50_0.out.lt
            have m2 : (wr.drewN nq).cell? ⟨q1, a * 4 + 2, none⟩ = some (.int .i64 et) := u2
            have hK : ∀ i, i < wr.heap.size → (wr.drewN nq).heap[i]? = wr.heap[i]? := fun i hi => rfl
            obtain ⟨X51, hXe⟩ : ∃ X, (wr.drewN nq) = X := ⟨_, rfl⟩
            rw [hXe] at hK
            have hz9 : X51.heap.size = wr.heap.size := by rw [← hXe]; rfl
            have H51_0 : Hid (ArrB X51 X2.heap.size 41 3 (gN (st.es.take a))) := H50_0.out.kept (hK X2.heap.size (by omega))
            have HL51 : Hid (LiveO (NilB 0 0 0) X2 (fun (i : Nat) => i = X2.heap.size) X51) := by rw [← hXe]; exact HL50.out.below (nil_thing _ _ _) (Below.drewN' (Below.refl _ _) _)
            have : X2.heap.size < X51.heap.size := by omega
            have ls51 : X2.heap.size ≤ X51.heap.size := by omega
            have lt51 : wr.heap.size ≤ X51.heap.size := by omega
            clear hK HL50 H50_0 u0 u1 u2 u3 y0 y1 y2 y3
            rw [hXe] at m2
            rw [hXe]
            clear hXe hz9
            have HZ5 : Hid (X51.cell? ⟨X2.heap.size, s, none⟩ = some (.int .i64 s1)) := by have h9 := H51_0.out.cell s3; unfold gN at h9; rw [HS1.out] at h9; exact h9
            go_wp2_with (fail)
            have HWR : Hid (IntKind.i64.wrap (s1 - ea) = s1 - ea) := by show _ = _; rw [IntKind.wrap_i64]; omega
            obtain ⟨SW, hSW⟩ : ∃ S : World → Prop, S = (fun w' : World => w'.cell? (⟨q1, a * 4, none⟩) = some (.int .i64 s) ∧ w'.cell? (⟨q1, a * 4 + 3, none⟩) = some (.int .i64 ea) ∧ w'.cell? (⟨X2.heap.size, s, none⟩) = some (.int .i64 s1)) := ⟨_, rfl⟩
            have HS0 : Hid (SW X51.drew) := by rw [hSW]; exact ⟨(World.cell?_of_block (w' := X51.drew) (a := ⟨q1, a * 4, none⟩) (by (try rw [ad_block]); exact (HL51.out.old).block _ hq1X)).trans HU1.out, (World.cell?_of_block (w' := X51.drew) (a := ⟨q1, a * 4 + 3, none⟩) (by (try rw [ad_block]); exact (HL51.out.old).block _ hq1X)).trans HU3.out, HZ5.out⟩
            refine laneT_start [0, 1, 2, 3, 4, 5, 6, 7, 8, 9, 10, 11, 12, 13, 14] 14 rfl (by kernel_rfl) (S := SW) ?_
            iterate 14 (refine laneT_take1 (v := ?_) rfl (by kernel_rfl) (by kernel_rfl) (by rfl) ?_ (by exact HS0.out) ?_; rotate_left; (focus (intro w9 hSw; rw [hSW] at hSw; obtain ⟨z0, z1, z2⟩ := hSw; (try go_simp); try (with_reducible rfl))); simp only [Act.put, List.setIfInBounds_toArray, List.set_cons_zero, List.set_cons_succ])
            refine laneT_alone rfl (by kernel_rfl) (by rfl) (fun KK hKK => ?_)
            have hA9 : ArrB X51.drew X2.heap.size 41 3 (gN (st.es.take a)) := H51_0.out
            refine wp_of_skip (exec_store_one rfl (by rfl) rfl (by kernel_rfl) rfl (hA9.cell (i := s) s3) (hA9.frozen _)) ?_
            refine hKK _ _ (fun h => (h rfl).elim) ?_
            clear hKK KK hA9 HS0
            refine laneT_end (by kernel_rfl) ?_
            change Exit.inBlock _ (Exit.then _ _) Exit.normal _ (X51.drew.setCell ⟨X2.heap.size, s, none⟩ (.int .i64 (IntKind.i64.wrap (s1 - ea))))
            rw [HWR.out]
            have hK : ∀ i, i < X51.heap.size → X51.drew.heap[i]? = X51.heap[i]? := fun i hi => rfl
            obtain ⟨X52, hXe⟩ : ∃ X, X51.drew = X := ⟨_, rfl⟩
            rw [hXe] at hK
            have hz9 : X52.heap.size = X51.heap.size := by rw [← hXe]; rfl
            have H52_0 : Hid (ArrB X52 X2.heap.size 41 3 (gN (st.es.take a))) := H51_0.out.kept (hK X2.heap.size (by omega))
            have HL52 : Hid (LiveO (NilB 0 0 0) X2 (fun (i : Nat) => i = X2.heap.size) X52) := by rw [← hXe]; exact HL51.out.drew (nil_thing _ _ _)
            have : X2.heap.size < X52.heap.size := by omega
            have ls52 : X2.heap.size ≤ X52.heap.size := by omega
            have lt52 : X51.heap.size ≤ X52.heap.size := by omega
            have lu52 : X52.heap.size ≤ X51.heap.size := by omega
            clear hK HL51 H51_0
            rw [hXe]
            clear hXe hz9
            have hK : ∀ i, i < X52.heap.size → i ≠ X2.heap.size → (X52.setCell ⟨X2.heap.size, s, none⟩ (.int .i64 (s1 - ea))).heap[i]? = X52.heap[i]? := fun i _ hi => setCell_other hi
            obtain ⟨X53, hXe⟩ : ∃ X, (X52.setCell ⟨X2.heap.size, s, none⟩ (.int .i64 (s1 - ea))) = X := ⟨_, rfl⟩
            rw [hXe] at hK
            have hz9 : X53.heap.size = X52.heap.size := by rw [← hXe, setCell_size]
            have H53_0 : Hid (ArrB X53 X2.heap.size 41 3 (gN (st.es.take (a + 1)))) := by rw [← hXe]; exact (H52_0.out.set (s) _).congr (fun i hi => HGU.out i hi)
            have HL53 : Hid (LiveO (NilB 0 0 0) X2 (fun (i : Nat) => i = X2.heap.size) X53) := by rw [← hXe]; exact HL52.out.setCell (nil_thing _ _ _) (p := ⟨X2.heap.size, s, none⟩) (rfl) (by show X2.heap.size ≤ X2.heap.size; omega)
            have : X2.heap.size < X53.heap.size := by omega
            have ls53 : X2.heap.size ≤ X53.heap.size := by omega
            have lt53 : X52.heap.size ≤ X53.heap.size := by omega
            clear hK HL52 H52_0
            rw [hXe]
            clear hXe hz9
            have HB9 := Lib.hid HL53.out.old
            go_wp2
            go_roundw
            case rel => exact ⟨a + 1, by omega, by go_num, HB9, H53_0⟩
            case measure => simp [intOf]; omega
    case pos =>
      have dlt : decide ((j : Int) < (n : Int)) = true := by simpa using hlt
      obtain ⟨p, hp⟩ : ∃ p, l[j]? = some p := ⟨l[j]'(by have := HN.out; omega), List.getElem?_eq_getElem _⟩
      have hpw := HW.out p (List.mem_of_getElem? hp)
      obtain ⟨gg, oo, rfl, hgg, hcx⟩ := HR.out j _ hp
      obtain ⟨k, s0, c0, t0, a, v⟩ := p
      obtain ⟨wk, ws, wc, wt, wa, wv⟩ := hpw
      have wa : 0 ≤ a ∧ a < 65536 := wa
      have ws : 0 ≤ s0 ∧ s0 < 256 := ws
      have wc : 0 ≤ c0 ∧ c0 < 256 := wc
      have wt : 0 ≤ t0 ∧ t0 < 256 := wt
      have wk : 0 ≤ k ∧ k < 256 := wk
      have wv : 0 ≤ v ∧ v < 256 := wv
      have lsw : U.heap.size ≤ wr.heap.size := HL.out.old.size
      have HRG : Hid (wr.rangeAt gg (oo + j * 6) [.int .u8 k, .int .u8 s0, .int .u8 c0, .int .u8 t0, .int .u16 a, .int .u8 v]) := fun i u hu =>
        (World.cell?_of_block (a := ⟨gg, oo + j * 6 + i, none⟩) ((HL.out.old.block gg (by omega)).trans (HU.out.block gg hgg))).trans (hcx i u hu)
      have HV : Hid (U.cell? ⟨gg, oo + j * 6 + 5, none⟩ = some (.int .u8 v)) := (World.cell?_of_block (a := ⟨gg, oo + j * 6 + 5, none⟩) (HU.out.block gg hgg)).trans (hcx 5 _ rfl)
      clear hcx hp
      have k0 : (0 : Int) ≤ (j : Int) := by omega
      have gz : gg < wr.heap.size := by omega
      have gU : gg < U.heap.size := by omega
      obtain ⟨s, hs⟩ : ∃ s : Nat, s0 % 3 = (s : Int) := ⟨(s0 % 3).toNat, by omega⟩
      obtain ⟨c, hc⟩ : ∃ c : Nat, c0 % 3 = (c : Int) := ⟨(c0 % 3).toNat, by omega⟩
      obtain ⟨t, ht⟩ : ∃ c : Nat, t0 % 3 = (c : Int) := ⟨(t0 % 3).toNat, by omega⟩
      have s3 : s < 3 := by omega
      have c3 : c < 3 := by omega
      have t3 : t < 3 := by omega
      have HASK : Hid (∀ w : World, Calls Try.prog 15 #[.agg #[.int .u8 k, .int .u8 s0, .int .u8 c0, .int .u8 t0, .int .u16 a, .int .u8 v]] w fun e w' => e = .returned (.agg #[.int .u8 (askK k s), .int .i64 s, .int .i64 c, .int .i64 (1 + t), .int .i64 (1 + a), .int .u8 0]) ∧ Below w.heap.size w w') := fun w => ask_any w k s0 c0 t0 a v s c t wk ws.1 wc.1 wt.1 wa hs hc ht
      have hM : 0 < 1 + a ∧ 1 + a ≤ 65536 := by omega
      obtain ⟨K, hK⟩ : ∃ K, K = askK k s := ⟨_, rfl⟩
      obtain ⟨T, hT⟩ : ∃ T : Nat, (T : Int) = 1 + t := ⟨1 + t, by omega⟩
      obtain ⟨M, hM2⟩ : ∃ M : Int, M = 1 + a := ⟨_, rfl⟩
      rw [← hK, ← hT, ← hM2] at HASK
      rw [← hM2] at hM
      have HMM := Lib.hid hM
      have hT3 : 1 ≤ T ∧ T ≤ 3 := by omega
      have T0i : (0 : Int) ≤ (T : Int) := by omega
      have T4i : (T : Int) < 4 := by omega
      have hk : ypok ((s : Int), (c : Int), (T : Int)) := ⟨wf_of (x := (s : Int)) (by omega), wf_of (x := (c : Int)) (by omega), wf_of (x := (T : Int)) (by omega)⟩
      have hkc : cpok ((s : Int), (c : Int)) := ⟨hk.1, hk.2.1⟩
      have s3i : (s : Int) < 3 := by omega
      have c3i : (c : Int) < 3 := by omega
      have s0i : (0 : Int) ≤ (s : Int) := by omega
      have c0i : (0 : Int) ≤ (c : Int) := by omega
      have HTOLD : Hid (Til.told (T : Int) M v = if v = 1 ∨ v = 2 then v else 3) := if_neg (by omega)
      have hKc : K = 1 ∨ K = 2 ∨ (¬ K = 1 ∧ ¬ K = 2) := by omega
      clear hs hc ht wk ws wc wt wa hK hM hM2 hT
      go_wp2_with (refine wpList_load_mid rfl _ _ rfl gg (oo + j * 6) rfl [.int .u8 k, .int .u8 s0, .int .u8 c0, .int .u8 t0, .int .u16 a, .int .u8 v] _ HRG.out Try.underlying35 rfl (by kernel_rfl) ?_)
      have HL1 := HL
      have ls1 : U.heap.size ≤ wr.heap.size := HL1.out.old.size
      have H1_0 := HS
      have H1_1 := HO
      have : SB < wr.heap.size := H1_0.out.lt
      have hN9 : True := trivial
      refine (HASK.out _).mono ?_
      rintro e X2 ⟨rfl, hk2⟩
      have hK : ∀ i, i < wr.heap.size → X2.heap[i]? = wr.heap[i]? := fun i hi => hk2.block i hi
      have hsz : wr.heap.size ≤ X2.heap.size := hk2.size
      have H2_0 : Hid (ArrB X2 SB 29 36 (gT st)) := H1_0.out.kept (hK SB (by omega))
      have H2_1 : Hid (X2.ownsRow U.heap.size 39 4 (Value.slice A9 st.es.length c9) st.es.length (ecl st.es)) := own_kept H1_1.out (fun i hi => hK i (H1_1.out.lt i hi).2)
      have HL2 : Hid (LiveO (TilB (U.heap.size + 4) st (4 * j)) U (fun (i : Nat) => i = SB ∨ (Value.slice A9 st.es.length c9).ownBlock = some i) X2) := HL1.out.below (til_thing _ _ _) hk2
      have : SB < X2.heap.size := by omega
      have ls2 : U.heap.size ≤ X2.heap.size := by omega
      have lt2 : wr.heap.size ≤ X2.heap.size := by omega
      clear hsz hk2
      clear hK HL1 H1_0 H1_1
      go_wp2_with (fail)
      have hK : ∀ i, i < X2.heap.size → (X2.alloc (.cells #[.int .u8 K, .int .i64 s, .int .i64 c, .int .i64 T, .int .i64 M, .int .u8 0] 31)).heap[i]? = X2.heap[i]? := fun i hi => alloc_block_old hi
      obtain ⟨X3, hXe⟩ : ∃ X, (X2.alloc (.cells #[.int .u8 K, .int .i64 s, .int .i64 c, .int .i64 T, .int .i64 M, .int .u8 0] 31)) = X := ⟨_, rfl⟩
      rw [hXe] at hK
      have hz9 : X3.heap.size = X2.heap.size + 1 := by rw [← hXe]; simp
      have H3_0 : Hid (ArrB X3 SB 29 36 (gT st)) := H2_0.out.kept (hK SB (by omega))
      have H3_1 : Hid (X3.ownsRow U.heap.size 39 4 (Value.slice A9 st.es.length c9) st.es.length (ecl st.es)) := own_kept H2_1.out (fun i hi => hK i (H2_1.out.lt i hi).2)
      have H3_2 : Hid (X3.heap[X2.heap.size]? = some (.cells #[.int .u8 K, .int .i64 s, .int .i64 c, .int .i64 T, .int .i64 M, .int .u8 0] 31 (0, 0))) := by rw [← hXe]; exact alloc_at (by omega)
      have HL3 : Hid (LiveO (TilB (U.heap.size + 4) st (4 * j)) U (fun (i : Nat) => i = SB ∨ (Value.slice A9 st.es.length c9).ownBlock = some i ∨ i = X2.heap.size) X3) := by rw [← hXe]; exact (HL2.out.alloc (til_thing _ _ _) (.cells #[.int .u8 K, .int .i64 s, .int .i64 c, .int .i64 T, .int .i64 M, .int .u8 0] 31)).less (N' := (fun (i : Nat) => i = SB ∨ (Value.slice A9 st.es.length c9).ownBlock = some i ∨ i = X2.heap.size)) (fun i hi => by rcases hi with h0 | h1 | h2; exact .inl (.inl h0); exact .inl (.inr h1); exact .inr (by omega))
      have : SB < X3.heap.size := by omega
      have ls3 : U.heap.size ≤ X3.heap.size := by omega
      have lt3 : X2.heap.size ≤ X3.heap.size := by omega
      have : X2.heap.size < X3.heap.size := by omega
      have lg3 : X3.heap.size ≤ X2.heap.size + 1 ∧ X2.heap.size + 1 ≤ X3.heap.size := by omega
      have : SB < X2.heap.size := by omega
      clear hK HL2 H2_0 H2_1
      rw [hXe]
      clear hXe hz9
      rcases hKc with rfl | rfl | ⟨hk1, hk2⟩
      · cases hsd : st.ch ((s : Int), (c : Int), (T : Int)) with
        | some x =>
          as_aux_lemma =>
          have ha : st.chargeA s c T (Til.told T M v) = x := by unfold Til.chargeA; rw [hsd]; rfl
          have hst : st.charge s c T M (Til.told T M v) = st := by unfold Til.charge; rw [hsd]
          have hx0 : (x == 0) = false := by have := HF.out.ch _ _ hsd; simp; omega
          have HAN := Lib.hid ha
          have HST := Lib.hid hst
          have HSD := Lib.hid hsd
          clear ha hst hsd
          obtain ⟨c2_0, c2_1, c2_2, c2_3, c2_4, c2_5⟩ := cells6 H3_2.out
          obtain ⟨SW, hSW⟩ : ∃ S : World → Prop, S = (fun w' : World => w'.heap[X2.heap.size]? = some (.cells #[.int .u8 1, .int .i64 s, .int .i64 c, .int .i64 T, .int .i64 M, .int .u8 0] 31 (0, 0)) ∧ w'.cell? (⟨gg, oo + j * 6 + 5, none⟩) = some (.int .u8 v)) := ⟨_, rfl⟩
          have HS0 : Hid (SW X3.drew) := by rw [hSW]; exact ⟨H3_2.out, (World.cell?_of_block (w' := X3.drew) (a := ⟨gg, oo + j * 6 + 5, none⟩) (by (try rw [ad_block]); exact (HL3.out.old).block _ gU)).trans HV.out⟩
          have hN9 : ∀ i, (fun (i : Nat) => i = SB ∨ (Value.slice A9 st.es.length c9).ownBlock = some i ∨ i = X2.heap.size) i → i < X3.heap.size := (fun i hx0 => (hx0.elim (fun (hi : i = SB) => by omega) (fun hx1 => (hx1.elim (fun (hi : _) => (H3_1.out.lt i hi).2) (fun hx2 => ((fun (hi : i = X2.heap.size) => by omega) hx2))))))
          apply region_frame1 (fun Zq w9 => Hid (LiveO (TilB (U.heap.size + 4) st (4 * j + 4)) U (fun (i : Nat) => i = SB ∨ (Value.slice A9 st.es.length c9).ownBlock = some i ∨ i = X2.heap.size ∨ i = Zq) w9) ∧ Hid (ArrB w9 SB 29 36 (gT st)) ∧ Hid (w9.ownsRow U.heap.size 39 4 (Value.slice A9 st.es.length c9) st.es.length (ecl st.es)) ∧ Hid (w9.heap[X2.heap.size]? = some (.cells #[.int .u8 1, .int .i64 s, .int .i64 c, .int .i64 T, .int .i64 M, .int .u8 0] 31 (0, 0))) ∧ Hid (w9.heap[Zq]? = some (.cells #[.int .u8 1, .int .i64 s, .int .i64 c, .int .i64 T, .int .i64 M, .int .u8 x] 31 (0, 0))) ∧ U.heap.size ≤ w9.heap.size ∧ SB < w9.heap.size ∧ X2.heap.size < w9.heap.size ∧ SB < Zq ∧ X2.heap.size < Zq ∧ Zq < w9.heap.size ∧ U.heap.size ≤ Zq ∧ X3.heap.size ≤ Zq)
          · skip
            refine lane_start (ord := [0, 1, 2, 3, 4, 5, 6, 7, 8, 9, 10, 11, 12, 13]) (S := SW) rfl (by kernel_rfl) (by exact HS0.out) (fun _ => ?_)
            iterate 7 (refine lane_take (v := ?_) rfl (by kernel_rfl) (by kernel_rfl) (by rfl) ?_ (by exact HS0.out) ?_; rotate_left; (focus (intro w9 hSw; rw [hSW] at hSw; obtain ⟨z0, z1⟩ := hSw; obtain ⟨x0, x1, x2, x3, x4, x5⟩ := cells6 z0; (try go_simp); try (with_reducible rfl))); simp only [Act.put, List.setIfInBounds_toArray, List.set_cons_zero, List.set_cons_succ])
            refine lane_two (i := 7) (j := 11) (ordI := [8, 9, 10, 11, 12, 13]) (ordJ := [7, 8, 9, 10, 12, 13]) rfl rfl (by kernel_rfl) rfl (by rfl) (by rfl) (fun KK hKK => ?_) (fun KK hKK => ?_)
            · skip
              go_simp
              refine (tcharge_as_live HAN.out HST.out (HF.out.num.room (by omega) HMM.out) (HL3.out.drew (til_thing _ _ _)) (fun i hi => hN9 i hi) hk (by omega)).mono ?_
              rintro e V9 ⟨rfl, hl, hk⟩
              have hsz : X3.heap.size ≤ V9.heap.size := hk.size
              have hb0 : ArrB V9 SB 29 36 (gT st) := H3_0.out.kept (hk.block SB (.inl rfl))
              have hb1 : V9.ownsRow U.heap.size 39 4 (Value.slice A9 st.es.length c9) st.es.length (ecl st.es) := own_kept H3_1.out (fun i hi => hk.block i (.inr (.inl hi)))
              have hb2 : V9.heap[X2.heap.size]? = some (.cells #[.int .u8 1, .int .i64 s, .int .i64 c, .int .i64 T, .int .i64 M, .int .u8 0] 31 (0, 0)) := (hk.block X2.heap.size (.inr (.inr rfl))).trans H3_2.out
              have HLv := Lib.hid hl
              have hS1 : SW V9 := by rw [hSW]; exact ⟨hb2, (World.cell?_of_block (w' := V9) (a := ⟨gg, oo + j * 6 + 5, none⟩) (by (try rw [ad_block]); exact (HLv.out.old).block _ gU)).trans HV.out⟩
              have HS1 := Lib.hid hS1
              refine hKK _ _ HS1.out (fun _ => ?_)
              clear hKK KK hS1 hl hk
              iterate 3 (refine lane_take (v := ?_) rfl (by kernel_rfl) (by kernel_rfl) (by rfl) ?_ (by exact HS1.out) ?_; rotate_left; (focus (intro w9 hSw; rw [hSW] at hSw; obtain ⟨z0, z1⟩ := hSw; obtain ⟨x0, x1, x2, x3, x4, x5⟩ := cells6 z0; (try go_simp); try (with_reducible rfl))); simp only [Act.put, List.setIfInBounds_toArray, List.set_cons_zero, List.set_cons_succ])
              refine lane_alone rfl (by kernel_rfl) (by rfl) (fun KK hKK => ?_)
              go_simp
              obtain ⟨VA, hVA⟩ : ∃ X, V9.alloc (.cells #[.int .u8 0, .int .i64 0, .int .i64 0, .int .i64 0, .int .i64 0, .int .u8 0] 31) = X := ⟨_, rfl⟩
              rw [hVA]
              have hK9 : ∀ i, i < V9.heap.size → VA.heap[i]? = V9.heap[i]? := fun i hi => by rw [← hVA]; exact alloc_block_old hi
              have HZ : Hid (VA.heap[V9.heap.size]? = some (.cells #[.int .u8 0, .int .i64 0, .int .i64 0, .int .i64 0, .int .i64 0, .int .u8 0] 31 (0, 0))) := by rw [← hVA]; exact alloc_block
              have HLx := HLv.out.alloc (til_thing _ _ _) (.cells #[.int .u8 0, .int .i64 0, .int .i64 0, .int .i64 0, .int .i64 0, .int .u8 0] 31)
              rw [hVA] at HLx
              have HLx := Lib.hid HLx
              have hzz : V9.heap.size < VA.heap.size := by rw [← hVA, World.size_alloc]; omega
              have hzl : X3.heap.size ≤ V9.heap.size := by omega
              have HC0 : Hid (ArrB VA SB 29 36 (gT st)) := hb0.kept (hK9 SB (by omega))
              have HC1 : Hid (VA.ownsRow U.heap.size 39 4 (Value.slice A9 st.es.length c9) st.es.length (ecl st.es)) := own_kept hb1 (fun i hi => hK9 i (hb1.lt i hi).2)
              have hrz1 : ∀ i, (Value.slice A9 st.es.length c9).ownBlock = some i → i ≠ V9.heap.size := fun i hi e => by have := (H3_1.out.lt i hi).2; omega
              have HC2 : Hid (VA.heap[X2.heap.size]? = some (.cells #[.int .u8 1, .int .i64 s, .int .i64 c, .int .i64 T, .int .i64 M, .int .u8 0] 31 (0, 0))) := (hK9 X2.heap.size (by omega)).trans hb2
              have hS2 : SW VA := by rw [hSW]; exact ⟨HC2.out, (World.cell?_of_block (w' := VA) (a := ⟨gg, oo + j * 6 + 5, none⟩) (by (try rw [ad_block]); exact (HLx.out.old).block _ gU)).trans HV.out⟩
              have HS2 := Lib.hid hS2
              refine hKK _ _ HS2.out (fun _ => ?_)
              clear hKK KK hS2
              clear hb0 hb1 hb2
              generalize hzn : V9.heap.size = ZZ at *
              refine lane_alone rfl (by kernel_rfl) (by rfl) (fun KK hKK => ?_)
              refine wp_store_row _ _ _ rfl ZZ _ rfl rfl _ _ HZ.out (by exact tnotice_info) rfl (by simp [Value.oneCell']) ?_
              rw [row_boxed HZ.out]
              obtain ⟨VB, hVB⟩ : ∃ X, boxed VA ZZ #[.int .u8 1, .int .i64 s, .int .i64 c, .int .i64 T, .int .i64 M, .int .u8 x] 31 = X := ⟨_, rfl⟩
              rw [hVB]
              have hzB : VB.heap.size = VA.heap.size := by rw [← hVB, boxed_size]
              have HD0 : Hid (ArrB VB SB 29 36 (gT st)) := by rw [← hVB]; exact HC0.out.kept (boxed_block_other (by omega))
              have HD1 : Hid (VB.ownsRow U.heap.size 39 4 (Value.slice A9 st.es.length c9) st.es.length (ecl st.es)) := by rw [← hVB]; exact own_kept HC1.out (fun i hi => boxed_block_other (hrz1 i hi))
              have HD2 : Hid (VB.heap[X2.heap.size]? = some (.cells #[.int .u8 1, .int .i64 s, .int .i64 c, .int .i64 T, .int .i64 M, .int .u8 0] 31 (0, 0))) := by rw [← hVB]; exact boxed_old (by omega) HC2.out
              have HLy := HLx.out.boxed (til_thing _ _ _) (g := ZZ) (cs := #[.int .u8 1, .int .i64 s, .int .i64 c, .int .i64 T, .int .i64 M, .int .u8 x]) (t := 31) (.inr rfl) (by omega)
              rw [hVB] at HLy
              have HLy := Lib.hid HLy
              have hS4 : SW VB := by rw [hSW]; exact ⟨HD2.out, (World.cell?_of_block (w' := VB) (a := ⟨gg, oo + j * 6 + 5, none⟩) (by (try rw [ad_block]); exact (HLy.out.old).block _ gU)).trans HV.out⟩
              have HS4 := Lib.hid hS4
              refine hKK _ _ (by exact HS4.out) (fun _ => ?_)
              clear hKK KK hS4
              iterate 1 (refine lane_take (v := ?_) rfl (by kernel_rfl) (by kernel_rfl) (by rfl) ?_ (by exact HS4.out) ?_; rotate_left; (focus (intro w9 hSw; rw [hSW] at hSw; obtain ⟨z0, z1⟩ := hSw; obtain ⟨x0, x1, x2, x3, x4, x5⟩ := cells6 z0; (try go_simp); try (with_reducible rfl))); simp only [Act.put, List.setIfInBounds_toArray, List.set_cons_zero, List.set_cons_succ])
              refine lane_end (by kernel_rfl) ?_
              refine ⟨rfl, ZZ, rfl, (HLy.out.less (fun i hi => by rcases hi with h0 | h1 | h2 | h3; exact .inl (.inl h0); exact .inl (.inr (.inl h1)); exact .inl (.inr (.inr h2)); exact .inr h3)), HD0.out, HD1.out, HD2.out, (by rw [← hVB]; exact boxed_at hzz), by omega, by omega, by omega, by omega, by omega, by omega, by omega, by omega⟩
            · skip
              go_simp
              have hK9 : ∀ i, i < X3.heap.size → ((X3.alloc (.cells #[.int .u8 0, .int .i64 0, .int .i64 0, .int .i64 0, .int .i64 0, .int .u8 0] 31)).drew).heap[i]? = X3.heap[i]? := fun i hi => alloc_block_old (w := X3) hi
              have hd0 : ArrB ((X3.alloc (.cells #[.int .u8 0, .int .i64 0, .int .i64 0, .int .i64 0, .int .i64 0, .int .u8 0] 31)).drew) SB 29 36 (gT st) := H3_0.out.kept (hK9 SB (by omega))
              have hd1 : ((X3.alloc (.cells #[.int .u8 0, .int .i64 0, .int .i64 0, .int .i64 0, .int .i64 0, .int .u8 0] 31)).drew).ownsRow U.heap.size 39 4 (Value.slice A9 st.es.length c9) st.es.length (ecl st.es) := own_kept H3_1.out (fun i hi => hK9 i (H3_1.out.lt i hi).2)
              have hd2 : ((X3.alloc (.cells #[.int .u8 0, .int .i64 0, .int .i64 0, .int .i64 0, .int .i64 0, .int .u8 0] 31)).drew).heap[X2.heap.size]? = some (.cells #[.int .u8 1, .int .i64 s, .int .i64 c, .int .i64 T, .int .i64 M, .int .u8 0] 31 (0, 0)) := (hK9 X2.heap.size (by omega)).trans H3_2.out
              have hS2 : SW ((X3.alloc (.cells #[.int .u8 0, .int .i64 0, .int .i64 0, .int .i64 0, .int .i64 0, .int .u8 0] 31)).drew) := by rw [hSW]; exact ⟨hd2, (World.cell?_of_block (w' := ((X3.alloc (.cells #[.int .u8 0, .int .i64 0, .int .i64 0, .int .i64 0, .int .i64 0, .int .u8 0] 31)).drew)) (a := ⟨gg, oo + j * 6 + 5, none⟩) (by (try rw [ad_block]); exact ((HL3.out.old.alloc HL3.out.old.size (.cells #[.int .u8 0, .int .i64 0, .int .i64 0, .int .i64 0, .int .i64 0, .int .u8 0] 31))).block _ gU)).trans HV.out⟩
              have HS2 := Lib.hid hS2
              refine hKK _ _ HS2.out (fun _ => ?_)
              clear hKK KK hS2
              refine lane_alone rfl (by kernel_rfl) (by rfl) (fun KK hKK => ?_)
              go_simp
              refine (tcharge_as_live HAN.out HST.out (HF.out.num.room (by omega) HMM.out) ((HL3.out.alloc (til_thing _ _ _) (.cells #[.int .u8 0, .int .i64 0, .int .i64 0, .int .i64 0, .int .i64 0, .int .u8 0] 31)).drew (til_thing _ _ _)) (fun i hi => by show i < (X3.alloc (.cells #[.int .u8 0, .int .i64 0, .int .i64 0, .int .i64 0, .int .i64 0, .int .u8 0] 31)).heap.size; rw [World.size_alloc]; rcases hi with hi | hi; exact Nat.lt_succ_of_lt (hN9 i hi); omega) hk (by omega)).mono ?_
              rintro e V9 ⟨rfl, hl, hk0⟩
              have hk : KeptO U (fun (i : Nat) => i = SB ∨ (Value.slice A9 st.es.length c9).ownBlock = some i ∨ i = X2.heap.size) ((X3.alloc (.cells #[.int .u8 0, .int .i64 0, .int .i64 0, .int .i64 0, .int .i64 0, .int .u8 0] 31)).drew) V9 := ⟨hk0.size, fun i hi => hk0.block i (.inl hi), hk0.old⟩
              have hsz : (X3.alloc (.cells #[.int .u8 0, .int .i64 0, .int .i64 0, .int .i64 0, .int .i64 0, .int .u8 0] 31)).heap.size ≤ V9.heap.size := hk.size
              rw [World.size_alloc] at hsz
              have hb0 : ArrB V9 SB 29 36 (gT st) := hd0.kept (hk.block SB (.inl rfl))
              have hb1 : V9.ownsRow U.heap.size 39 4 (Value.slice A9 st.es.length c9) st.es.length (ecl st.es) := own_kept hd1 (fun i hi => hk.block i (.inr (.inl hi)))
              have hb2 : V9.heap[X2.heap.size]? = some (.cells #[.int .u8 1, .int .i64 s, .int .i64 c, .int .i64 T, .int .i64 M, .int .u8 0] 31 (0, 0)) := (hk.block X2.heap.size (.inr (.inr rfl))).trans hd2
              have HZ : Hid (V9.heap[X3.heap.size]? = some (.cells #[.int .u8 0, .int .i64 0, .int .i64 0, .int .i64 0, .int .i64 0, .int .u8 0] 31 (0, 0))) := (hk0.block _ (.inr rfl)).trans (show (X3.alloc (.cells #[.int .u8 0, .int .i64 0, .int .i64 0, .int .i64 0, .int .i64 0, .int .u8 0] 31)).heap[_]? = _ from alloc_block)
              have HLx := Lib.hid hl
              have hS3 : SW V9 := by rw [hSW]; exact ⟨hb2, (World.cell?_of_block (w' := V9) (a := ⟨gg, oo + j * 6 + 5, none⟩) (by (try rw [ad_block]); exact (HLx.out.old).block _ gU)).trans HV.out⟩
              have HS2 := Lib.hid hS3
              refine hKK _ _ HS2.out (fun _ => ?_)
              clear hKK KK hS3 hl hk hk0
              iterate 3 (refine lane_take (v := ?_) rfl (by kernel_rfl) (by kernel_rfl) (by rfl) ?_ (by exact HS2.out) ?_; rotate_left; (focus (intro w9 hSw; rw [hSW] at hSw; obtain ⟨z0, z1⟩ := hSw; obtain ⟨x0, x1, x2, x3, x4, x5⟩ := cells6 z0; (try go_simp); try (with_reducible rfl))); simp only [Act.put, List.setIfInBounds_toArray, List.set_cons_zero, List.set_cons_succ])
              have hzz : X3.heap.size < V9.heap.size := by omega
              have hzl : X3.heap.size ≤ X3.heap.size := by omega
              have HC0 : Hid (ArrB V9 SB 29 36 (gT st)) := hb0
              have HC1 : Hid (V9.ownsRow U.heap.size 39 4 (Value.slice A9 st.es.length c9) st.es.length (ecl st.es)) := hb1
              have hrz1 : ∀ i, (Value.slice A9 st.es.length c9).ownBlock = some i → i ≠ X3.heap.size := fun i hi e => by have := (H3_1.out.lt i hi).2; omega
              have HC2 : Hid (V9.heap[X2.heap.size]? = some (.cells #[.int .u8 1, .int .i64 s, .int .i64 c, .int .i64 T, .int .i64 M, .int .u8 0] 31 (0, 0))) := hb2
              clear hb0 hb1 hb2
              generalize hzn : X3.heap.size = ZZ at *
              refine lane_alone rfl (by kernel_rfl) (by rfl) (fun KK hKK => ?_)
              refine wp_store_row _ _ _ rfl ZZ _ rfl rfl _ _ HZ.out (by exact tnotice_info) rfl (by simp [Value.oneCell']) ?_
              rw [row_boxed HZ.out]
              obtain ⟨VB, hVB⟩ : ∃ X, boxed V9 ZZ #[.int .u8 1, .int .i64 s, .int .i64 c, .int .i64 T, .int .i64 M, .int .u8 x] 31 = X := ⟨_, rfl⟩
              rw [hVB]
              have hzB : VB.heap.size = V9.heap.size := by rw [← hVB, boxed_size]
              have HD0 : Hid (ArrB VB SB 29 36 (gT st)) := by rw [← hVB]; exact HC0.out.kept (boxed_block_other (by omega))
              have HD1 : Hid (VB.ownsRow U.heap.size 39 4 (Value.slice A9 st.es.length c9) st.es.length (ecl st.es)) := by rw [← hVB]; exact own_kept HC1.out (fun i hi => boxed_block_other (hrz1 i hi))
              have HD2 : Hid (VB.heap[X2.heap.size]? = some (.cells #[.int .u8 1, .int .i64 s, .int .i64 c, .int .i64 T, .int .i64 M, .int .u8 0] 31 (0, 0))) := by rw [← hVB]; exact boxed_old (by omega) HC2.out
              have HLy := HLx.out.boxed (til_thing _ _ _) (g := ZZ) (cs := #[.int .u8 1, .int .i64 s, .int .i64 c, .int .i64 T, .int .i64 M, .int .u8 x]) (t := 31) (.inr rfl) (by omega)
              rw [hVB] at HLy
              have HLy := Lib.hid HLy
              have hS4 : SW VB := by rw [hSW]; exact ⟨HD2.out, (World.cell?_of_block (w' := VB) (a := ⟨gg, oo + j * 6 + 5, none⟩) (by (try rw [ad_block]); exact (HLy.out.old).block _ gU)).trans HV.out⟩
              have HS4 := Lib.hid hS4
              refine hKK _ _ (by exact HS4.out) (fun _ => ?_)
              clear hKK KK hS4
              iterate 1 (refine lane_take (v := ?_) rfl (by kernel_rfl) (by kernel_rfl) (by rfl) ?_ (by exact HS4.out) ?_; rotate_left; (focus (intro w9 hSw; rw [hSW] at hSw; obtain ⟨z0, z1⟩ := hSw; obtain ⟨x0, x1, x2, x3, x4, x5⟩ := cells6 z0; (try go_simp); try (with_reducible rfl))); simp only [Act.put, List.setIfInBounds_toArray, List.set_cons_zero, List.set_cons_succ])
              refine lane_end (by kernel_rfl) ?_
              refine ⟨rfl, ZZ, rfl, (HLy.out.less (fun i hi => by rcases hi with h0 | h1 | h2 | h3; exact .inl (.inl h0); exact .inl (.inr (.inl h1)); exact .inl (.inr (.inr h2)); exact .inr h3)), HD0.out, HD1.out, HD2.out, (by rw [← hVB]; exact boxed_at hzz), by omega, by omega, by omega, by omega, by omega, by omega, by omega, by omega⟩
          rintro Zh X4 ⟨HL4, H4_0, H4_1, H4_2, HZ9, ls4, lc9_0, lc9_1, ld9_0, ld9_1, le9, lf9, lt4⟩
          have H4_3 := HZ9
          clear HZ9
          obtain ⟨c2_0, c2_1, c2_2, c2_3, c2_4, c2_5⟩ := cells6 H4_2.out
          go_wp2_with (fail)
          have z0 : X4.cell? ⟨SB, s * 12 + c * 4 + T, none⟩ = some (.int .u8 x) := by rw [H4_0.out.cell (by omega), gT_ch c3 hT3, HSD.out]; rfl
          go_quiet (fail)
          have hK : ∀ i, i < X4.heap.size → (X4.drewN nq).heap[i]? = X4.heap[i]? := fun i hi => rfl
          obtain ⟨X5, hXe⟩ : ∃ X, (X4.drewN nq) = X := ⟨_, rfl⟩
          rw [hXe] at hK
          have hz9 : X5.heap.size = X4.heap.size := by rw [← hXe]; rfl
          have H5_0 : Hid (ArrB X5 SB 29 36 (gT st)) := H4_0.out.kept (hK SB (by omega))
          have H5_1 : Hid (X5.ownsRow U.heap.size 39 4 (Value.slice A9 st.es.length c9) st.es.length (ecl st.es)) := own_kept H4_1.out (fun i hi => hK i (H4_1.out.lt i hi).2)
          have H5_2 : Hid (X5.heap[X2.heap.size]? = some (.cells #[.int .u8 1, .int .i64 s, .int .i64 c, .int .i64 T, .int .i64 M, .int .u8 0] 31 (0, 0))) := (hK X2.heap.size (by omega)).trans H4_2.out
          have H5_3 : Hid (X5.heap[Zh]? = some (.cells #[.int .u8 1, .int .i64 s, .int .i64 c, .int .i64 T, .int .i64 M, .int .u8 x] 31 (0, 0))) := (hK Zh (by omega)).trans H4_3.out
          have HL5 : Hid (LiveO (TilB (U.heap.size + 4) st (4 * j + 4)) U (fun (i : Nat) => i = SB ∨ (Value.slice A9 st.es.length c9).ownBlock = some i ∨ i = X2.heap.size ∨ i = Zh) X5) := by rw [← hXe]; exact HL4.out.below (til_thing _ _ _) (Below.drewN' (Below.refl _ _) _)
          have : SB < X5.heap.size := by omega
          have : X2.heap.size < X5.heap.size := by omega
          have : Zh < X5.heap.size := by omega
          have ls5 : U.heap.size ≤ X5.heap.size := by omega
          have lt5 : X4.heap.size ≤ X5.heap.size := by omega
          clear hK HL4 H4_0 H4_1 H4_2 H4_3 c2_0 c2_1 c2_2 c2_3 c2_4 c2_5 z0
          rw [hXe]
          clear hXe hz9
          obtain ⟨c2_0, c2_1, c2_2, c2_3, c2_4, c2_5⟩ := cells6 H5_2.out
          obtain ⟨c3_0, c3_1, c3_2, c3_3, c3_4, c3_5⟩ := cells6 H5_3.out
          go_wp2
          have hK : ∀ i, i < X5.heap.size → (X5.alloc (.cells #[.int .u8 1, .int .i64 s, .int .i64 c, .int .i64 T, .int .i64 M, .int .u8 x] 31)).heap[i]? = X5.heap[i]? := fun i hi => alloc_block_old hi
          obtain ⟨X6, hXe⟩ : ∃ X, (X5.alloc (.cells #[.int .u8 1, .int .i64 s, .int .i64 c, .int .i64 T, .int .i64 M, .int .u8 x] 31)) = X := ⟨_, rfl⟩
          rw [hXe] at hK
          have hz9 : X6.heap.size = X5.heap.size + 1 := by rw [← hXe]; simp
          have H6_0 : Hid (ArrB X6 SB 29 36 (gT st)) := H5_0.out.kept (hK SB (by omega))
          have H6_1 : Hid (X6.ownsRow U.heap.size 39 4 (Value.slice A9 st.es.length c9) st.es.length (ecl st.es)) := own_kept H5_1.out (fun i hi => hK i (H5_1.out.lt i hi).2)
          have H6_2 : Hid (X6.heap[X2.heap.size]? = some (.cells #[.int .u8 1, .int .i64 s, .int .i64 c, .int .i64 T, .int .i64 M, .int .u8 0] 31 (0, 0))) := (hK X2.heap.size (by omega)).trans H5_2.out
          have H6_3 : Hid (X6.heap[Zh]? = some (.cells #[.int .u8 1, .int .i64 s, .int .i64 c, .int .i64 T, .int .i64 M, .int .u8 x] 31 (0, 0))) := (hK Zh (by omega)).trans H5_3.out
          have H6_4 : Hid (X6.heap[X5.heap.size]? = some (.cells #[.int .u8 1, .int .i64 s, .int .i64 c, .int .i64 T, .int .i64 M, .int .u8 x] 31 (0, 0))) := by rw [← hXe]; exact alloc_at (by omega)
          have HL6 : Hid (LiveO (TilB (U.heap.size + 4) st (4 * j + 4)) U (fun (i : Nat) => i = SB ∨ (Value.slice A9 st.es.length c9).ownBlock = some i ∨ i = X2.heap.size ∨ i = Zh ∨ i = X5.heap.size) X6) := by rw [← hXe]; exact (HL5.out.alloc (til_thing _ _ _) (.cells #[.int .u8 1, .int .i64 s, .int .i64 c, .int .i64 T, .int .i64 M, .int .u8 x] 31)).less (N' := (fun (i : Nat) => i = SB ∨ (Value.slice A9 st.es.length c9).ownBlock = some i ∨ i = X2.heap.size ∨ i = Zh ∨ i = X5.heap.size)) (fun i hi => by rcases hi with h0 | h1 | h2 | h3 | h4; exact .inl (.inl h0); exact .inl (.inr (.inl h1)); exact .inl (.inr (.inr (.inl h2))); exact .inl (.inr (.inr (.inr h3))); exact .inr (by omega))
          have : SB < X6.heap.size := by omega
          have : X2.heap.size < X6.heap.size := by omega
          have : Zh < X6.heap.size := by omega
          have ls6 : U.heap.size ≤ X6.heap.size := by omega
          have lt6 : X5.heap.size ≤ X6.heap.size := by omega
          have : X5.heap.size < X6.heap.size := by omega
          have lg6 : X6.heap.size ≤ X5.heap.size + 1 ∧ X5.heap.size + 1 ≤ X6.heap.size := by omega
          have : SB < X5.heap.size := by omega
          have : X2.heap.size < X5.heap.size := by omega
          have : Zh < X5.heap.size := by omega
          clear hK HL5 H5_0 H5_1 H5_2 H5_3 c2_0 c2_1 c2_2 c2_3 c2_4 c2_5 c3_0 c3_1 c3_2 c3_3 c3_4 c3_5
          rw [hXe]
          clear hXe hz9
          go_roundw
          case rel => exact ⟨j + 1, st, A9, c9, by omega, by go_num, rfl, HF.out.up, by omega, (HL6.out.less (fun i hi => by rcases hi with rfl | hi; exact .inl rfl; exact .inr (.inl (by first | exact hi | (rw [HT] at hi; exact hi))))).imp (fun F hF => hF.mono (by omega)), H6_0, H6_1⟩
          case measure => simp [intOf]; omega
        | none =>
          obtain ⟨x, hx⟩ : ∃ x, x = Til.told (T : Int) M v := ⟨_, rfl⟩
          have ha : st.chargeA s c T (Til.told T M v) = x := by unfold Til.chargeA; rw [hsd, hx]; rfl
          have hst : st.charge s c T M (Til.told T M v) = (st.charge s c T M x) := by rw [hx]
          rw [HTOLD.out] at hx
          have HX := Lib.hid hx
          have HAN := Lib.hid ha
          have HST := Lib.hid hst
          have HSD := Lib.hid hsd
          clear hx ha hst hsd
          obtain ⟨c2_0, c2_1, c2_2, c2_3, c2_4, c2_5⟩ := cells6 H3_2.out
          obtain ⟨SW, hSW⟩ : ∃ S : World → Prop, S = (fun w' : World => w'.heap[X2.heap.size]? = some (.cells #[.int .u8 1, .int .i64 s, .int .i64 c, .int .i64 T, .int .i64 M, .int .u8 0] 31 (0, 0)) ∧ w'.cell? (⟨gg, oo + j * 6 + 5, none⟩) = some (.int .u8 v)) := ⟨_, rfl⟩
          have HS0 : Hid (SW X3.drew) := by rw [hSW]; exact ⟨H3_2.out, (World.cell?_of_block (w' := X3.drew) (a := ⟨gg, oo + j * 6 + 5, none⟩) (by (try rw [ad_block]); exact (HL3.out.old).block _ gU)).trans HV.out⟩
          have hN9 : ∀ i, (fun (i : Nat) => i = SB ∨ (Value.slice A9 st.es.length c9).ownBlock = some i ∨ i = X2.heap.size) i → i < X3.heap.size := (fun i hx0 => (hx0.elim (fun (hi : i = SB) => by omega) (fun hx1 => (hx1.elim (fun (hi : _) => (H3_1.out.lt i hi).2) (fun hx2 => ((fun (hi : i = X2.heap.size) => by omega) hx2))))))
          apply region_frame1 (fun Zq w9 => Hid (LiveO (TilB (U.heap.size + 4) (st.charge s c T M x) (4 * j + 4)) U (fun (i : Nat) => i = SB ∨ (Value.slice A9 st.es.length c9).ownBlock = some i ∨ i = X2.heap.size ∨ i = Zq) w9) ∧ Hid (ArrB w9 SB 29 36 (gT st)) ∧ Hid (w9.ownsRow U.heap.size 39 4 (Value.slice A9 st.es.length c9) st.es.length (ecl st.es)) ∧ Hid (w9.heap[X2.heap.size]? = some (.cells #[.int .u8 1, .int .i64 s, .int .i64 c, .int .i64 T, .int .i64 M, .int .u8 0] 31 (0, 0))) ∧ Hid (w9.heap[Zq]? = some (.cells #[.int .u8 1, .int .i64 s, .int .i64 c, .int .i64 T, .int .i64 M, .int .u8 x] 31 (0, 0))) ∧ U.heap.size ≤ w9.heap.size ∧ SB < w9.heap.size ∧ X2.heap.size < w9.heap.size ∧ SB < Zq ∧ X2.heap.size < Zq ∧ Zq < w9.heap.size ∧ U.heap.size ≤ Zq ∧ X3.heap.size ≤ Zq)
          · skip
            refine lane_start (ord := [0, 1, 2, 3, 4, 5, 6, 7, 8, 9, 10, 11, 12, 13]) (S := SW) rfl (by kernel_rfl) (by exact HS0.out) (fun _ => ?_)
            iterate 7 (refine lane_take (v := ?_) rfl (by kernel_rfl) (by kernel_rfl) (by rfl) ?_ (by exact HS0.out) ?_; rotate_left; (focus (intro w9 hSw; rw [hSW] at hSw; obtain ⟨z0, z1⟩ := hSw; obtain ⟨x0, x1, x2, x3, x4, x5⟩ := cells6 z0; (try go_simp); try (with_reducible rfl))); simp only [Act.put, List.setIfInBounds_toArray, List.set_cons_zero, List.set_cons_succ])
            refine lane_two (i := 7) (j := 11) (ordI := [8, 9, 10, 11, 12, 13]) (ordJ := [7, 8, 9, 10, 12, 13]) rfl rfl (by kernel_rfl) rfl (by rfl) (by rfl) (fun KK hKK => ?_) (fun KK hKK => ?_)
            · skip
              go_simp
              refine (tcharge_as_live HAN.out HST.out (HF.out.num.room (by omega) HMM.out) (HL3.out.drew (til_thing _ _ _)) (fun i hi => hN9 i hi) hk (by omega)).mono ?_
              rintro e V9 ⟨rfl, hl, hk⟩
              have hsz : X3.heap.size ≤ V9.heap.size := hk.size
              have hb0 : ArrB V9 SB 29 36 (gT st) := H3_0.out.kept (hk.block SB (.inl rfl))
              have hb1 : V9.ownsRow U.heap.size 39 4 (Value.slice A9 st.es.length c9) st.es.length (ecl st.es) := own_kept H3_1.out (fun i hi => hk.block i (.inr (.inl hi)))
              have hb2 : V9.heap[X2.heap.size]? = some (.cells #[.int .u8 1, .int .i64 s, .int .i64 c, .int .i64 T, .int .i64 M, .int .u8 0] 31 (0, 0)) := (hk.block X2.heap.size (.inr (.inr rfl))).trans H3_2.out
              have HLv := Lib.hid hl
              have hS1 : SW V9 := by rw [hSW]; exact ⟨hb2, (World.cell?_of_block (w' := V9) (a := ⟨gg, oo + j * 6 + 5, none⟩) (by (try rw [ad_block]); exact (HLv.out.old).block _ gU)).trans HV.out⟩
              have HS1 := Lib.hid hS1
              refine hKK _ _ HS1.out (fun _ => ?_)
              clear hKK KK hS1 hl hk
              iterate 3 (refine lane_take (v := ?_) rfl (by kernel_rfl) (by kernel_rfl) (by rfl) ?_ (by exact HS1.out) ?_; rotate_left; (focus (intro w9 hSw; rw [hSW] at hSw; obtain ⟨z0, z1⟩ := hSw; obtain ⟨x0, x1, x2, x3, x4, x5⟩ := cells6 z0; (try go_simp); try (with_reducible rfl))); simp only [Act.put, List.setIfInBounds_toArray, List.set_cons_zero, List.set_cons_succ])
              refine lane_alone rfl (by kernel_rfl) (by rfl) (fun KK hKK => ?_)
              go_simp
              obtain ⟨VA, hVA⟩ : ∃ X, V9.alloc (.cells #[.int .u8 0, .int .i64 0, .int .i64 0, .int .i64 0, .int .i64 0, .int .u8 0] 31) = X := ⟨_, rfl⟩
              rw [hVA]
              have hK9 : ∀ i, i < V9.heap.size → VA.heap[i]? = V9.heap[i]? := fun i hi => by rw [← hVA]; exact alloc_block_old hi
              have HZ : Hid (VA.heap[V9.heap.size]? = some (.cells #[.int .u8 0, .int .i64 0, .int .i64 0, .int .i64 0, .int .i64 0, .int .u8 0] 31 (0, 0))) := by rw [← hVA]; exact alloc_block
              have HLx := HLv.out.alloc (til_thing _ _ _) (.cells #[.int .u8 0, .int .i64 0, .int .i64 0, .int .i64 0, .int .i64 0, .int .u8 0] 31)
              rw [hVA] at HLx
              have HLx := Lib.hid HLx
              have hzz : V9.heap.size < VA.heap.size := by rw [← hVA, World.size_alloc]; omega
              have hzl : X3.heap.size ≤ V9.heap.size := by omega
              have HC0 : Hid (ArrB VA SB 29 36 (gT st)) := hb0.kept (hK9 SB (by omega))
              have HC1 : Hid (VA.ownsRow U.heap.size 39 4 (Value.slice A9 st.es.length c9) st.es.length (ecl st.es)) := own_kept hb1 (fun i hi => hK9 i (hb1.lt i hi).2)
              have hrz1 : ∀ i, (Value.slice A9 st.es.length c9).ownBlock = some i → i ≠ V9.heap.size := fun i hi e => by have := (H3_1.out.lt i hi).2; omega
              have HC2 : Hid (VA.heap[X2.heap.size]? = some (.cells #[.int .u8 1, .int .i64 s, .int .i64 c, .int .i64 T, .int .i64 M, .int .u8 0] 31 (0, 0))) := (hK9 X2.heap.size (by omega)).trans hb2
              have hS2 : SW VA := by rw [hSW]; exact ⟨HC2.out, (World.cell?_of_block (w' := VA) (a := ⟨gg, oo + j * 6 + 5, none⟩) (by (try rw [ad_block]); exact (HLx.out.old).block _ gU)).trans HV.out⟩
              have HS2 := Lib.hid hS2
              refine hKK _ _ HS2.out (fun _ => ?_)
              clear hKK KK hS2
              clear hb0 hb1 hb2
              generalize hzn : V9.heap.size = ZZ at *
              refine lane_alone rfl (by kernel_rfl) (by rfl) (fun KK hKK => ?_)
              refine wp_store_row _ _ _ rfl ZZ _ rfl rfl _ _ HZ.out (by exact tnotice_info) rfl (by simp [Value.oneCell']) ?_
              rw [row_boxed HZ.out]
              obtain ⟨VB, hVB⟩ : ∃ X, boxed VA ZZ #[.int .u8 1, .int .i64 s, .int .i64 c, .int .i64 T, .int .i64 M, .int .u8 x] 31 = X := ⟨_, rfl⟩
              rw [hVB]
              have hzB : VB.heap.size = VA.heap.size := by rw [← hVB, boxed_size]
              have HD0 : Hid (ArrB VB SB 29 36 (gT st)) := by rw [← hVB]; exact HC0.out.kept (boxed_block_other (by omega))
              have HD1 : Hid (VB.ownsRow U.heap.size 39 4 (Value.slice A9 st.es.length c9) st.es.length (ecl st.es)) := by rw [← hVB]; exact own_kept HC1.out (fun i hi => boxed_block_other (hrz1 i hi))
              have HD2 : Hid (VB.heap[X2.heap.size]? = some (.cells #[.int .u8 1, .int .i64 s, .int .i64 c, .int .i64 T, .int .i64 M, .int .u8 0] 31 (0, 0))) := by rw [← hVB]; exact boxed_old (by omega) HC2.out
              have HLy := HLx.out.boxed (til_thing _ _ _) (g := ZZ) (cs := #[.int .u8 1, .int .i64 s, .int .i64 c, .int .i64 T, .int .i64 M, .int .u8 x]) (t := 31) (.inr rfl) (by omega)
              rw [hVB] at HLy
              have HLy := Lib.hid HLy
              have hS4 : SW VB := by rw [hSW]; exact ⟨HD2.out, (World.cell?_of_block (w' := VB) (a := ⟨gg, oo + j * 6 + 5, none⟩) (by (try rw [ad_block]); exact (HLy.out.old).block _ gU)).trans HV.out⟩
              have HS4 := Lib.hid hS4
              refine hKK _ _ (by exact HS4.out) (fun _ => ?_)
              clear hKK KK hS4
              iterate 1 (refine lane_take (v := ?_) rfl (by kernel_rfl) (by kernel_rfl) (by rfl) ?_ (by exact HS4.out) ?_; rotate_left; (focus (intro w9 hSw; rw [hSW] at hSw; obtain ⟨z0, z1⟩ := hSw; obtain ⟨x0, x1, x2, x3, x4, x5⟩ := cells6 z0; (try go_simp); try (with_reducible rfl))); simp only [Act.put, List.setIfInBounds_toArray, List.set_cons_zero, List.set_cons_succ])
              refine lane_end (by kernel_rfl) ?_
              refine ⟨rfl, ZZ, rfl, (HLy.out.less (fun i hi => by rcases hi with h0 | h1 | h2 | h3; exact .inl (.inl h0); exact .inl (.inr (.inl h1)); exact .inl (.inr (.inr h2)); exact .inr h3)), HD0.out, HD1.out, HD2.out, (by rw [← hVB]; exact boxed_at hzz), by omega, by omega, by omega, by omega, by omega, by omega, by omega, by omega⟩
            · skip
              go_simp
              have hK9 : ∀ i, i < X3.heap.size → ((X3.alloc (.cells #[.int .u8 0, .int .i64 0, .int .i64 0, .int .i64 0, .int .i64 0, .int .u8 0] 31)).drew).heap[i]? = X3.heap[i]? := fun i hi => alloc_block_old (w := X3) hi
              have hd0 : ArrB ((X3.alloc (.cells #[.int .u8 0, .int .i64 0, .int .i64 0, .int .i64 0, .int .i64 0, .int .u8 0] 31)).drew) SB 29 36 (gT st) := H3_0.out.kept (hK9 SB (by omega))
              have hd1 : ((X3.alloc (.cells #[.int .u8 0, .int .i64 0, .int .i64 0, .int .i64 0, .int .i64 0, .int .u8 0] 31)).drew).ownsRow U.heap.size 39 4 (Value.slice A9 st.es.length c9) st.es.length (ecl st.es) := own_kept H3_1.out (fun i hi => hK9 i (H3_1.out.lt i hi).2)
              have hd2 : ((X3.alloc (.cells #[.int .u8 0, .int .i64 0, .int .i64 0, .int .i64 0, .int .i64 0, .int .u8 0] 31)).drew).heap[X2.heap.size]? = some (.cells #[.int .u8 1, .int .i64 s, .int .i64 c, .int .i64 T, .int .i64 M, .int .u8 0] 31 (0, 0)) := (hK9 X2.heap.size (by omega)).trans H3_2.out
              have hS2 : SW ((X3.alloc (.cells #[.int .u8 0, .int .i64 0, .int .i64 0, .int .i64 0, .int .i64 0, .int .u8 0] 31)).drew) := by rw [hSW]; exact ⟨hd2, (World.cell?_of_block (w' := ((X3.alloc (.cells #[.int .u8 0, .int .i64 0, .int .i64 0, .int .i64 0, .int .i64 0, .int .u8 0] 31)).drew)) (a := ⟨gg, oo + j * 6 + 5, none⟩) (by (try rw [ad_block]); exact ((HL3.out.old.alloc HL3.out.old.size (.cells #[.int .u8 0, .int .i64 0, .int .i64 0, .int .i64 0, .int .i64 0, .int .u8 0] 31))).block _ gU)).trans HV.out⟩
              have HS2 := Lib.hid hS2
              refine hKK _ _ HS2.out (fun _ => ?_)
              clear hKK KK hS2
              refine lane_alone rfl (by kernel_rfl) (by rfl) (fun KK hKK => ?_)
              go_simp
              refine (tcharge_as_live HAN.out HST.out (HF.out.num.room (by omega) HMM.out) ((HL3.out.alloc (til_thing _ _ _) (.cells #[.int .u8 0, .int .i64 0, .int .i64 0, .int .i64 0, .int .i64 0, .int .u8 0] 31)).drew (til_thing _ _ _)) (fun i hi => by show i < (X3.alloc (.cells #[.int .u8 0, .int .i64 0, .int .i64 0, .int .i64 0, .int .i64 0, .int .u8 0] 31)).heap.size; rw [World.size_alloc]; rcases hi with hi | hi; exact Nat.lt_succ_of_lt (hN9 i hi); omega) hk (by omega)).mono ?_
              rintro e V9 ⟨rfl, hl, hk0⟩
              have hk : KeptO U (fun (i : Nat) => i = SB ∨ (Value.slice A9 st.es.length c9).ownBlock = some i ∨ i = X2.heap.size) ((X3.alloc (.cells #[.int .u8 0, .int .i64 0, .int .i64 0, .int .i64 0, .int .i64 0, .int .u8 0] 31)).drew) V9 := ⟨hk0.size, fun i hi => hk0.block i (.inl hi), hk0.old⟩
              have hsz : (X3.alloc (.cells #[.int .u8 0, .int .i64 0, .int .i64 0, .int .i64 0, .int .i64 0, .int .u8 0] 31)).heap.size ≤ V9.heap.size := hk.size
              rw [World.size_alloc] at hsz
              have hb0 : ArrB V9 SB 29 36 (gT st) := hd0.kept (hk.block SB (.inl rfl))
              have hb1 : V9.ownsRow U.heap.size 39 4 (Value.slice A9 st.es.length c9) st.es.length (ecl st.es) := own_kept hd1 (fun i hi => hk.block i (.inr (.inl hi)))
              have hb2 : V9.heap[X2.heap.size]? = some (.cells #[.int .u8 1, .int .i64 s, .int .i64 c, .int .i64 T, .int .i64 M, .int .u8 0] 31 (0, 0)) := (hk.block X2.heap.size (.inr (.inr rfl))).trans hd2
              have HZ : Hid (V9.heap[X3.heap.size]? = some (.cells #[.int .u8 0, .int .i64 0, .int .i64 0, .int .i64 0, .int .i64 0, .int .u8 0] 31 (0, 0))) := (hk0.block _ (.inr rfl)).trans (show (X3.alloc (.cells #[.int .u8 0, .int .i64 0, .int .i64 0, .int .i64 0, .int .i64 0, .int .u8 0] 31)).heap[_]? = _ from alloc_block)
              have HLx := Lib.hid hl
              have hS3 : SW V9 := by rw [hSW]; exact ⟨hb2, (World.cell?_of_block (w' := V9) (a := ⟨gg, oo + j * 6 + 5, none⟩) (by (try rw [ad_block]); exact (HLx.out.old).block _ gU)).trans HV.out⟩
              have HS2 := Lib.hid hS3
              refine hKK _ _ HS2.out (fun _ => ?_)
              clear hKK KK hS3 hl hk hk0
              iterate 3 (refine lane_take (v := ?_) rfl (by kernel_rfl) (by kernel_rfl) (by rfl) ?_ (by exact HS2.out) ?_; rotate_left; (focus (intro w9 hSw; rw [hSW] at hSw; obtain ⟨z0, z1⟩ := hSw; obtain ⟨x0, x1, x2, x3, x4, x5⟩ := cells6 z0; (try go_simp); try (with_reducible rfl))); simp only [Act.put, List.setIfInBounds_toArray, List.set_cons_zero, List.set_cons_succ])
              have hzz : X3.heap.size < V9.heap.size := by omega
              have hzl : X3.heap.size ≤ X3.heap.size := by omega
              have HC0 : Hid (ArrB V9 SB 29 36 (gT st)) := hb0
              have HC1 : Hid (V9.ownsRow U.heap.size 39 4 (Value.slice A9 st.es.length c9) st.es.length (ecl st.es)) := hb1
              have hrz1 : ∀ i, (Value.slice A9 st.es.length c9).ownBlock = some i → i ≠ X3.heap.size := fun i hi e => by have := (H3_1.out.lt i hi).2; omega
              have HC2 : Hid (V9.heap[X2.heap.size]? = some (.cells #[.int .u8 1, .int .i64 s, .int .i64 c, .int .i64 T, .int .i64 M, .int .u8 0] 31 (0, 0))) := hb2
              clear hb0 hb1 hb2
              generalize hzn : X3.heap.size = ZZ at *
              refine lane_alone rfl (by kernel_rfl) (by rfl) (fun KK hKK => ?_)
              refine wp_store_row _ _ _ rfl ZZ _ rfl rfl _ _ HZ.out (by exact tnotice_info) rfl (by simp [Value.oneCell']) ?_
              rw [row_boxed HZ.out]
              obtain ⟨VB, hVB⟩ : ∃ X, boxed V9 ZZ #[.int .u8 1, .int .i64 s, .int .i64 c, .int .i64 T, .int .i64 M, .int .u8 x] 31 = X := ⟨_, rfl⟩
              rw [hVB]
              have hzB : VB.heap.size = V9.heap.size := by rw [← hVB, boxed_size]
              have HD0 : Hid (ArrB VB SB 29 36 (gT st)) := by rw [← hVB]; exact HC0.out.kept (boxed_block_other (by omega))
              have HD1 : Hid (VB.ownsRow U.heap.size 39 4 (Value.slice A9 st.es.length c9) st.es.length (ecl st.es)) := by rw [← hVB]; exact own_kept HC1.out (fun i hi => boxed_block_other (hrz1 i hi))
              have HD2 : Hid (VB.heap[X2.heap.size]? = some (.cells #[.int .u8 1, .int .i64 s, .int .i64 c, .int .i64 T, .int .i64 M, .int .u8 0] 31 (0, 0))) := by rw [← hVB]; exact boxed_old (by omega) HC2.out
              have HLy := HLx.out.boxed (til_thing _ _ _) (g := ZZ) (cs := #[.int .u8 1, .int .i64 s, .int .i64 c, .int .i64 T, .int .i64 M, .int .u8 x]) (t := 31) (.inr rfl) (by omega)
              rw [hVB] at HLy
              have HLy := Lib.hid HLy
              have hS4 : SW VB := by rw [hSW]; exact ⟨HD2.out, (World.cell?_of_block (w' := VB) (a := ⟨gg, oo + j * 6 + 5, none⟩) (by (try rw [ad_block]); exact (HLy.out.old).block _ gU)).trans HV.out⟩
              have HS4 := Lib.hid hS4
              refine hKK _ _ (by exact HS4.out) (fun _ => ?_)
              clear hKK KK hS4
              iterate 1 (refine lane_take (v := ?_) rfl (by kernel_rfl) (by kernel_rfl) (by rfl) ?_ (by exact HS4.out) ?_; rotate_left; (focus (intro w9 hSw; rw [hSW] at hSw; obtain ⟨z0, z1⟩ := hSw; obtain ⟨x0, x1, x2, x3, x4, x5⟩ := cells6 z0; (try go_simp); try (with_reducible rfl))); simp only [Act.put, List.setIfInBounds_toArray, List.set_cons_zero, List.set_cons_succ])
              refine lane_end (by kernel_rfl) ?_
              refine ⟨rfl, ZZ, rfl, (HLy.out.less (fun i hi => by rcases hi with h0 | h1 | h2 | h3; exact .inl (.inl h0); exact .inl (.inr (.inl h1)); exact .inl (.inr (.inr h2)); exact .inr h3)), HD0.out, HD1.out, HD2.out, (by rw [← hVB]; exact boxed_at hzz), by omega, by omega, by omega, by omega, by omega, by omega, by omega, by omega⟩
          rintro Zh X4 ⟨HL4, H4_0, H4_1, H4_2, HZ9, ls4, lc9_0, lc9_1, ld9_0, ld9_1, le9, lf9, lt4⟩
          have H4_3 := HZ9
          clear HZ9
          obtain ⟨c2_0, c2_1, c2_2, c2_3, c2_4, c2_5⟩ := cells6 H4_2.out
          go_wp2_with (fail)
          have z0 : X4.cell? ⟨SB, s * 12 + c * 4 + T, none⟩ = some (.int .u8 0) := by rw [H4_0.out.cell (by omega), gT_ch c3 hT3, HSD.out]; rfl
          go_quiet (fail)
          have hK : ∀ i, i < X4.heap.size → (X4.drewN nq).heap[i]? = X4.heap[i]? := fun i hi => rfl
          obtain ⟨X5, hXe⟩ : ∃ X, (X4.drewN nq) = X := ⟨_, rfl⟩
          rw [hXe] at hK
          have hz9 : X5.heap.size = X4.heap.size := by rw [← hXe]; rfl
          have H5_0 : Hid (ArrB X5 SB 29 36 (gT st)) := H4_0.out.kept (hK SB (by omega))
          have H5_1 : Hid (X5.ownsRow U.heap.size 39 4 (Value.slice A9 st.es.length c9) st.es.length (ecl st.es)) := own_kept H4_1.out (fun i hi => hK i (H4_1.out.lt i hi).2)
          have H5_2 : Hid (X5.heap[X2.heap.size]? = some (.cells #[.int .u8 1, .int .i64 s, .int .i64 c, .int .i64 T, .int .i64 M, .int .u8 0] 31 (0, 0))) := (hK X2.heap.size (by omega)).trans H4_2.out
          have H5_3 : Hid (X5.heap[Zh]? = some (.cells #[.int .u8 1, .int .i64 s, .int .i64 c, .int .i64 T, .int .i64 M, .int .u8 x] 31 (0, 0))) := (hK Zh (by omega)).trans H4_3.out
          have HL5 : Hid (LiveO (TilB (U.heap.size + 4) (st.charge s c T M x) (4 * j + 4)) U (fun (i : Nat) => i = SB ∨ (Value.slice A9 st.es.length c9).ownBlock = some i ∨ i = X2.heap.size ∨ i = Zh) X5) := by rw [← hXe]; exact HL4.out.below (til_thing _ _ _) (Below.drewN' (Below.refl _ _) _)
          have : SB < X5.heap.size := by omega
          have : X2.heap.size < X5.heap.size := by omega
          have : Zh < X5.heap.size := by omega
          have ls5 : U.heap.size ≤ X5.heap.size := by omega
          have lt5 : X4.heap.size ≤ X5.heap.size := by omega
          clear hK HL4 H4_0 H4_1 H4_2 H4_3 c2_0 c2_1 c2_2 c2_3 c2_4 c2_5 z0
          rw [hXe]
          clear hXe hz9
          go_wp2
          go_loopw [12, 13] (fun tk i wq => ∃ a : Nat, a ≤ st.es.length ∧ i = .int .i64 a ∧ tk = .int .i64 (sumC (st.es.take a) s c) ∧ Hid (Below X5.heap.size X5 wq)) (fun tk i _ => st.es.length - (intOf i).toNat)
          case atStart => exact ⟨0, by omega, rfl, rfl, Below.refl _ _⟩
          case round =>
            obtain ⟨a, ha, rfl, rfl, HB9⟩ := hrel
            have lb : X5.heap.size ≤ wr.heap.size := HB9.out.size
            by_cases hat : a < st.es.length
            case pos =>
              have da : decide ((a : Int) < (st.es.length : Int)) = true := by simpa using hat
              obtain ⟨e0, hej⟩ : ∃ e, st.es[a]? = some e := ⟨st.es[a], List.getElem?_eq_getElem hat⟩
              obtain ⟨q1, rfl⟩ : ∃ q, A9 = some ⟨q, 0, none⟩ := by
                rcases H5_1.out.2 with ⟨_, hn⟩ | ⟨q, cap, cur, hv, _⟩
                · omega
                · injection hv with hA; exact ⟨q, hA⟩
              have hq1 : q1 < wr.heap.size := by have := (H5_1.out.lt q1 rfl).2; omega
              have hnb : X2.heap.size < wr.heap.size := by omega
              have u0 : wr.cell? ⟨q1, a * 4, none⟩ = some (.int .i64 e0.s) := (World.cell?_of_block (a := ⟨q1, a * 4, none⟩) (HB9.out.block q1 (H5_1.out.lt q1 rfl).2)).trans (by have := H5_1.out.cells (g := q1) rfl (a * 4) _ (ecl_at hej).1; rwa [ad_head] at this)
              have u1 : wr.cell? ⟨q1, a * 4 + 1, none⟩ = some (.int .i64 e0.c) := (World.cell?_of_block (a := ⟨q1, a * 4 + 1, none⟩) (HB9.out.block q1 (H5_1.out.lt q1 rfl).2)).trans (by have := H5_1.out.cells (g := q1) rfl (a * 4 + 1) _ (ecl_at hej).2.1; rwa [ad_head] at this)
              have u2 : wr.cell? ⟨q1, a * 4 + 2, none⟩ = some (.int .i64 e0.t) := (World.cell?_of_block (a := ⟨q1, a * 4 + 2, none⟩) (HB9.out.block q1 (H5_1.out.lt q1 rfl).2)).trans (by have := H5_1.out.cells (g := q1) rfl (a * 4 + 2) _ (ecl_at hej).2.2.1; rwa [ad_head] at this)
              have u3 : wr.cell? ⟨q1, a * 4 + 3, none⟩ = some (.int .i64 e0.a) := (World.cell?_of_block (a := ⟨q1, a * 4 + 3, none⟩) (HB9.out.block q1 (H5_1.out.lt q1 rfl).2)).trans (by have := H5_1.out.cells (g := q1) rfl (a * 4 + 3) _ (ecl_at hej).2.2.2; rwa [ad_head] at this)
              have y1 : wr.cell? ⟨X2.heap.size, 1, none⟩ = some (.int .i64 s) := (World.cell?_of_block (a := ⟨X2.heap.size, 1, none⟩) (HB9.out.block _ (by show X2.heap.size < _; omega))).trans (by rw [cell_of_row _ _ _ _ _ _ H5_2.out]; rfl)
              have y2 : wr.cell? ⟨X2.heap.size, 2, none⟩ = some (.int .i64 c) := (World.cell?_of_block (a := ⟨X2.heap.size, 2, none⟩) (HB9.out.block _ (by show X2.heap.size < _; omega))).trans (by rw [cell_of_row _ _ _ _ _ _ H5_2.out]; rfl)
              have ka0 : (0 : Int) ≤ (a : Int) := by omega
              have kat : (a : Int) < (st.es.length : Int) := by omega
              have HNX : Hid (sumC (st.es.take (a + 1)) s c = sumC (st.es.take a) s c + (if e0.s = s ∧ e0.c = c then e0.val else 0)) := by show _ = _; rw [List.take_succ_eq_append_getElem hat, sumC_append, sumC_one]; rw [List.getElem?_eq_getElem hat] at hej; injection hej with hej; rw [hej]
              have hEO := (HF.out.es e0 (List.mem_of_getElem? hej)).a
              have hsm := sumC_le (l := st.es.take a) (fun e he => HF.out.es e (List.mem_of_mem_take he)) (s : Int) (c : Int)
              rw [List.length_take] at hsm
              have hsm1 : -240000000 ≤ sumC (st.es.take a) s c ∧ sumC (st.es.take a) s c ≤ 240000000 := by omega
              unfold Ent.val at HNX
              generalize sumC (st.es.take a) s c = sm at *
              clear hej hsm
              obtain ⟨es, ec, et, ea⟩ := e0
              simp only at u0 u1 u2 u3 HNX hEO
              by_cases h1 : es = (s : Int)
              · have p1 : (es == (s : Int)) = true := by simpa using h1
                by_cases h2 : ec = (c : Int)
                · have p2 : (ec == (c : Int)) = true := by simpa using h2
                  by_cases h3 : 0 < et
                  · skip
                    have HNY : Hid (sumC (st.es.take (a + 1)) s c = sm + ea) := by show _ = _; rw [HNX.out, if_pos ⟨h1, h2⟩, if_pos h3]
                    have p3 : decide (0 < et) = true := by simpa using h3
                    clear h1 h2 h3
                    clear HNX
                    go_wp2_with (fail)
                    go_quiet (fail)
                    go_wp2
                    go_roundw
                    case rel => exact ⟨a + 1, by omega, by go_num, by rw [HNY.out], Below.drewN' HB9.out _⟩
                    case measure => simp [intOf]; omega
                  · skip
                    have HNY : Hid (sumC (st.es.take (a + 1)) s c = sm - ea) := by show _ = _; rw [HNX.out, if_pos ⟨h1, h2⟩, if_neg h3]; omega
                    have p3 : decide (0 < et) = false := by simpa using h3
                    clear h1 h2 h3
                    clear HNX
                    go_wp2_with (fail)
                    go_quiet (fail)
                    go_wp2
                    go_roundw
                    case rel => exact ⟨a + 1, by omega, by go_num, by rw [HNY.out], Below.drewN' HB9.out _⟩
                    case measure => simp [intOf]; omega
                · have p2 : (ec == (c : Int)) = false := by simpa using h2
                  have HNY : Hid (sumC (st.es.take (a + 1)) s c = sm) := by show _ = _; rw [HNX.out, if_neg (fun e => h2 e.2)]; omega
                  clear h1 h2
                  clear HNX
                  go_wp2_with (fail)
                  go_quiet (fail)
                  go_wp2
                  go_roundw
                  case rel => exact ⟨a + 1, by omega, by go_num, by rw [HNY.out], Below.drewN' HB9.out _⟩
                  case measure => simp [intOf]; omega
              · have p1 : (es == (s : Int)) = false := by simpa using h1
                have HNY : Hid (sumC (st.es.take (a + 1)) s c = sm) := by show _ = _; rw [HNX.out, if_neg (fun e => h1 e.1)]; omega
                clear h1
                clear HNX
                go_wp2_with (fail)
                go_quiet (fail)
                go_wp2
                go_roundw
                case rel => exact ⟨a + 1, by omega, by go_num, by rw [HNY.out], Below.drewN' HB9.out _⟩
                case measure => simp [intOf]; omega
            case neg =>
              obtain rfl : a = st.es.length := by omega
              have da : decide ((st.es.length : Int) < (st.es.length : Int)) = false := by simp
              rw [List.take_length, ← HF.out.tk s c]
              have hb9 := HB9.out
              clear hat lb ha
              have hK : ∀ i, i < X5.heap.size → wr.heap[i]? = X5.heap[i]? := fun i hi => hb9.block i hi
              have hsz : X5.heap.size ≤ wr.heap.size := hb9.size
              have H6_0 : Hid (ArrB wr SB 29 36 (gT st)) := H5_0.out.kept (hK SB (by omega))
              have H6_1 : Hid (wr.ownsRow U.heap.size 39 4 (Value.slice A9 st.es.length c9) st.es.length (ecl st.es)) := own_kept H5_1.out (fun i hi => hK i (H5_1.out.lt i hi).2)
              have H6_2 : Hid (wr.heap[X2.heap.size]? = some (.cells #[.int .u8 1, .int .i64 s, .int .i64 c, .int .i64 T, .int .i64 M, .int .u8 0] 31 (0, 0))) := (hK X2.heap.size (by omega)).trans H5_2.out
              have H6_3 : Hid (wr.heap[Zh]? = some (.cells #[.int .u8 1, .int .i64 s, .int .i64 c, .int .i64 T, .int .i64 M, .int .u8 x] 31 (0, 0))) := (hK Zh (by omega)).trans H5_3.out
              have HL6 : Hid (LiveO (TilB (U.heap.size + 4) (st.charge s c T M x) (4 * j + 4)) U (fun (i : Nat) => i = SB ∨ (Value.slice A9 st.es.length c9).ownBlock = some i ∨ i = X2.heap.size ∨ i = Zh) wr) := HL5.out.below (til_thing _ _ _) hb9
              have : SB < wr.heap.size := by omega
              have : X2.heap.size < wr.heap.size := by omega
              have : Zh < wr.heap.size := by omega
              have ls6 : U.heap.size ≤ wr.heap.size := by omega
              have lt6 : X5.heap.size ≤ wr.heap.size := by omega
              clear hsz hb9
              clear hK HL5 H5_0 H5_1 H5_2 H5_3
              clear HAN HST
              have z3 : wr.cell? ⟨gg, oo + j * 6 + 5, none⟩ = some (.int .u8 v) := (World.cell?_of_block (a := ⟨gg, oo + j * 6 + 5, none⟩) (HL6.out.old.block _ gU)).trans HV.out
              have hT0 : ((T : Int) == 0) = false := by simp; omega
              have hvs : v = 1 ∨ v = 2 ∨ v = 3 ∨ v = 0 ∨ 3 < v := by omega
              rcases hvs with rfl | rfl | rfl | rfl | hv
              · obtain rfl : x = 1 := HX.out
                as_aux_lemma =>
                obtain ⟨c2_0, c2_1, c2_2, c2_3, c2_4, c2_5⟩ := cells6 H6_2.out
                obtain ⟨it9, hit, hz0, hz1, hz2⟩ := info_parts ent_info
                go_wp2_with (at_builtin; refine wpList_append_own_at _ rfl _ _ 26 rfl U.heap.size 39 it9 _ 4 32 Try.underlying26 hit hz0 hz1 hz2 rfl (by decide) _ _ _ rfl (show (wr.alloc (.cells #[.int .i64 s, .int .i64 c, .int .i64 T, .int .i64 M] 39)).ownsRow _ _ _ _ _ _ from own_kept H6_1.out fun i hi => alloc_block_old (H6_1.out.lt i hi).2) ⟨wr.heap.size, 0, none⟩ 1 1 (ecl [(⟨s, c, T, M⟩ : Ent)]) rfl rfl (fun j u hu => by rw [ad_head, cell_of_row _ _ _ _ _ (0, 0) alloc_block]; simpa [ecl] using hu) (ecl_one _) (by unfold maxLen; omega) (by omega) (by rw [World.size_alloc]; omega) ?_; intro v9 X7 ho9 hg9 hn9 hat9; obtain ⟨A10, c10, rfl, hnc9, hcm9⟩ := own_form ho9)
                have hsz9 : wr.heap.size ≤ X7.heap.size := by have := hg9.size; rw [World.size_alloc] at this; omega
                have hK : ∀ i, i < wr.heap.size → (Value.slice A9 st.es.length c9).ownBlock ≠ some i → X7.heap[i]? = wr.heap[i]? := fun i hi hne => (hg9.block i (by rw [World.size_alloc]; omega) fun e => hne e.symm).trans (alloc_block_old hi)
                have hE9 : wr.heap.size ≤ (wr.alloc (.cells #[.int .i64 s, .int .i64 c, .int .i64 T, .int .i64 M] 39)).heap.size := by rw [World.size_alloc]; omega
                have H7_0 : Hid (ArrB X7 SB 29 36 (gT st)) := H6_0.out.kept (hK SB (by omega) (own_ne_arr H6_1.out H6_0.out (by decide)))
                have H7_1 : Hid (X7.ownsRow U.heap.size 39 4 (Value.slice A10 (st.es.length + 1) c10) (st.charge s c T M 1).es.length (ecl (st.charge s c T M 1).es)) := by have h9 := ho9; rw [← ecl_append] at h9; rw [es_yes HSD.out, List.length_append]; exact h9
                have H7_2 : Hid (X7.heap[X2.heap.size]? = some (.cells #[.int .u8 1, .int .i64 s, .int .i64 c, .int .i64 T, .int .i64 M, .int .u8 0] 31 (0, 0))) := (hK X2.heap.size (by omega) (own_ne H6_1.out H6_2.out (by decide))).trans H6_2.out
                have H7_3 : Hid (X7.heap[Zh]? = some (.cells #[.int .u8 1, .int .i64 s, .int .i64 c, .int .i64 T, .int .i64 M, .int .u8 1] 31 (0, 0))) := (hK Zh (by omega) (own_ne H6_1.out H6_3.out (by decide))).trans H6_3.out
                have HL7 : Hid (LiveO (TilB (U.heap.size + 4) (st.charge s c T M 1) (4 * j + 4)) U (fun (i : Nat) => i = SB ∨ (Value.slice A10 (st.es.length + 1) c10).ownBlock = some i ∨ i = X2.heap.size ∨ i = Zh) X7) := (HL6.out.grown (til_thing _ _ _) hsz9 (fun j hj hn => hK j hj (fun e => hn (.inr (.inl e)))) (Below.grown (HL6.out.old.alloc ls6 (.cells #[.int .i64 s, .int .i64 c, .int .i64 T, .int .i64 M] 39)) hg9 (by rw [World.size_alloc]; omega) (fun k hk => (H6_1.out.lt k hk).1))).less (N' := (fun (i : Nat) => i = SB ∨ (Value.slice A10 (st.es.length + 1) c10).ownBlock = some i ∨ i = X2.heap.size ∨ i = Zh)) (fun i hi => by rcases hi with h0 | h1 | h2 | h3; exact .inl (.inl h0); exact (hat9.elim (fun e => .inl (.inr (.inl (e.symm.trans h1)))) (fun e => .inr (by have h8 := h1; rw [e] at h8; injection h8 with h8; subst h8; exact hE9))); exact .inl (.inr (.inr (.inl h2))); exact .inl (.inr (.inr (.inr h3))))
                have : SB < X7.heap.size := by omega
                have : X2.heap.size < X7.heap.size := by omega
                have : Zh < X7.heap.size := by omega
                have ls7 : U.heap.size ≤ X7.heap.size := by omega
                have lt7 : wr.heap.size ≤ X7.heap.size := by omega
                clear hK HL6 H6_0 H6_1 H6_2 H6_3 z3 c2_0 c2_1 c2_2 c2_3 c2_4 c2_5
                clear hsz9 hE9 ho9 hg9 hat9
                go_wp2_with (fail)
                obtain ⟨SW, hSW⟩ : ∃ S : World → Prop, S = (fun w' : World => w'.heap[X2.heap.size]? = some (.cells #[.int .u8 1, .int .i64 s, .int .i64 c, .int .i64 T, .int .i64 M, .int .u8 0] 31 (0, 0))) := ⟨_, rfl⟩
                have HS0 : Hid (SW X7.drew) := by rw [hSW]; exact (show _ from H7_2.out)
                refine lane_start (ord := [0, 1, 2, 3, 4, 5, 6, 7, 8, 9]) (S := SW) rfl (by kernel_rfl) (by exact HS0.out) (fun _ => ?_)
                iterate 9 (refine lane_take (v := ?_) rfl (by kernel_rfl) (by kernel_rfl) (by rfl) ?_ (by exact HS0.out) ?_; rotate_left; (focus (intro w9 hSw; rw [hSW] at hSw; have z0 := hSw; obtain ⟨x0, x1, x2, x3, x4, x5⟩ := cells6 z0; (try go_simp); try (with_reducible rfl))); simp only [Act.put, List.setIfInBounds_toArray, List.set_cons_zero, List.set_cons_succ])
                refine lane_alone rfl (by kernel_rfl) (by rfl) (fun KK hKK => ?_)
                have hA9 : ArrB X7.drew SB 29 36 (gT st) := H7_0.out
                refine wp_of_skip (exec_store_one rfl (by rfl) rfl (by kernel_rfl) rfl (hA9.cell (i := s * 12 + c * 4 + T) (by omega)) (hA9.frozen _)) ?_
                have hS9 : SW (X7.drew.setCell ⟨SB, s * 12 + c * 4 + T, none⟩ (.int .u8 1)) := by rw [hSW]; exact (setCell_other (by omega)).trans H7_2.out
                refine hKK _ _ (by exact hS9) (fun _ => ?_)
                clear hKK KK hA9 HS0 hS9
                refine lane_end (by kernel_rfl) ?_
                change Exit.then _ _ Exit.normal _ (X7.drew.setCell ⟨SB, s * 12 + c * 4 + T, none⟩ (.int .u8 1))
                have hK : ∀ i, i < X7.heap.size → X7.drew.heap[i]? = X7.heap[i]? := fun i hi => rfl
                obtain ⟨X8, hXe⟩ : ∃ X, X7.drew = X := ⟨_, rfl⟩
                rw [hXe] at hK
                have hz9 : X8.heap.size = X7.heap.size := by rw [← hXe]; rfl
                have H8_0 : Hid (ArrB X8 SB 29 36 (gT st)) := H7_0.out.kept (hK SB (by omega))
                have H8_1 : Hid (X8.ownsRow U.heap.size 39 4 (Value.slice A10 (st.es.length + 1) c10) (st.charge s c T M 1).es.length (ecl (st.charge s c T M 1).es)) := own_kept H7_1.out (fun i hi => hK i (H7_1.out.lt i hi).2)
                have H8_2 : Hid (X8.heap[X2.heap.size]? = some (.cells #[.int .u8 1, .int .i64 s, .int .i64 c, .int .i64 T, .int .i64 M, .int .u8 0] 31 (0, 0))) := (hK X2.heap.size (by omega)).trans H7_2.out
                have H8_3 : Hid (X8.heap[Zh]? = some (.cells #[.int .u8 1, .int .i64 s, .int .i64 c, .int .i64 T, .int .i64 M, .int .u8 1] 31 (0, 0))) := (hK Zh (by omega)).trans H7_3.out
                have HL8 : Hid (LiveO (TilB (U.heap.size + 4) (st.charge s c T M 1) (4 * j + 4)) U (fun (i : Nat) => i = SB ∨ (Value.slice A10 (st.es.length + 1) c10).ownBlock = some i ∨ i = X2.heap.size ∨ i = Zh) X8) := by rw [← hXe]; exact HL7.out.drew (til_thing _ _ _)
                have : SB < X8.heap.size := by omega
                have : X2.heap.size < X8.heap.size := by omega
                have : Zh < X8.heap.size := by omega
                have ls8 : U.heap.size ≤ X8.heap.size := by omega
                have lt8 : X7.heap.size ≤ X8.heap.size := by omega
                have lu8 : X8.heap.size ≤ X7.heap.size := by omega
                clear hK HL7 H7_0 H7_1 H7_2 H7_3
                rw [hXe]
                clear hXe hz9
                have hK : ∀ i, i < X8.heap.size → i ≠ SB → (X8.setCell ⟨SB, s * 12 + c * 4 + T, none⟩ (.int .u8 1)).heap[i]? = X8.heap[i]? := fun i _ hi => setCell_other hi
                obtain ⟨X9, hXe⟩ : ∃ X, (X8.setCell ⟨SB, s * 12 + c * 4 + T, none⟩ (.int .u8 1)) = X := ⟨_, rfl⟩
                rw [hXe] at hK
                have hz9 : X9.heap.size = X8.heap.size := by rw [← hXe, setCell_size]
                have H9_0 : Hid (ArrB X9 SB 29 36 (gT (st.charge s c T M 1))) := by rw [← hXe]; exact (H8_0.out.set (s * 12 + c * 4 + T) _).congr (fun i _ => said_charge c3 hT3 HSD.out i)
                have H9_1 : Hid (X9.ownsRow U.heap.size 39 4 (Value.slice A10 (st.es.length + 1) c10) (st.charge s c T M 1).es.length (ecl (st.charge s c T M 1).es)) := own_kept H8_1.out (fun i hi => hK i (H8_1.out.lt i hi).2 (fun e => own_ne_arr H8_1.out H8_0.out (by decide) (hi.trans (by rw [e]))))
                have H9_2 : Hid (X9.heap[X2.heap.size]? = some (.cells #[.int .u8 1, .int .i64 s, .int .i64 c, .int .i64 T, .int .i64 M, .int .u8 0] 31 (0, 0))) := (hK X2.heap.size (by omega) (by omega)).trans H8_2.out
                have H9_3 : Hid (X9.heap[Zh]? = some (.cells #[.int .u8 1, .int .i64 s, .int .i64 c, .int .i64 T, .int .i64 M, .int .u8 1] 31 (0, 0))) := (hK Zh (by omega) (by omega)).trans H8_3.out
                have HL9 : Hid (LiveO (TilB (U.heap.size + 4) (st.charge s c T M 1) (4 * j + 4)) U (fun (i : Nat) => i = SB ∨ (Value.slice A10 (st.es.length + 1) c10).ownBlock = some i ∨ i = X2.heap.size ∨ i = Zh) X9) := by rw [← hXe]; exact HL8.out.setCell (til_thing _ _ _) (p := ⟨SB, s * 12 + c * 4 + T, none⟩) (.inl rfl) (by show U.heap.size ≤ SB; omega)
                have : SB < X9.heap.size := by omega
                have : X2.heap.size < X9.heap.size := by omega
                have : Zh < X9.heap.size := by omega
                have ls9 : U.heap.size ≤ X9.heap.size := by omega
                have lt9 : X8.heap.size ≤ X9.heap.size := by omega
                clear hK HL8 H8_0 H8_1 H8_2 H8_3
                rw [hXe]
                clear hXe hz9
                have HT : (st.charge s c T M 1).es.length = st.es.length + 1 := by rw [es_yes HSD.out, List.length_append, List.length_singleton]
                obtain ⟨c2_0, c2_1, c2_2, c2_3, c2_4, c2_5⟩ := cells6 H9_2.out
                obtain ⟨c3_0, c3_1, c3_2, c3_3, c3_4, c3_5⟩ := cells6 H9_3.out
                go_wp2
                have hK : ∀ i, i < X9.heap.size → (X9.alloc (.cells #[.int .u8 1, .int .i64 s, .int .i64 c, .int .i64 T, .int .i64 M, .int .u8 1] 31)).heap[i]? = X9.heap[i]? := fun i hi => alloc_block_old hi
                obtain ⟨X10, hXe⟩ : ∃ X, (X9.alloc (.cells #[.int .u8 1, .int .i64 s, .int .i64 c, .int .i64 T, .int .i64 M, .int .u8 1] 31)) = X := ⟨_, rfl⟩
                rw [hXe] at hK
                have hz9 : X10.heap.size = X9.heap.size + 1 := by rw [← hXe]; simp
                have H10_0 : Hid (ArrB X10 SB 29 36 (gT (st.charge s c T M 1))) := H9_0.out.kept (hK SB (by omega))
                have H10_1 : Hid (X10.ownsRow U.heap.size 39 4 (Value.slice A10 (st.es.length + 1) c10) (st.charge s c T M 1).es.length (ecl (st.charge s c T M 1).es)) := own_kept H9_1.out (fun i hi => hK i (H9_1.out.lt i hi).2)
                have H10_2 : Hid (X10.heap[X2.heap.size]? = some (.cells #[.int .u8 1, .int .i64 s, .int .i64 c, .int .i64 T, .int .i64 M, .int .u8 0] 31 (0, 0))) := (hK X2.heap.size (by omega)).trans H9_2.out
                have H10_3 : Hid (X10.heap[Zh]? = some (.cells #[.int .u8 1, .int .i64 s, .int .i64 c, .int .i64 T, .int .i64 M, .int .u8 1] 31 (0, 0))) := (hK Zh (by omega)).trans H9_3.out
                have H10_4 : Hid (X10.heap[X9.heap.size]? = some (.cells #[.int .u8 1, .int .i64 s, .int .i64 c, .int .i64 T, .int .i64 M, .int .u8 1] 31 (0, 0))) := by rw [← hXe]; exact alloc_at (by omega)
                have HL10 : Hid (LiveO (TilB (U.heap.size + 4) (st.charge s c T M 1) (4 * j + 4)) U (fun (i : Nat) => i = SB ∨ (Value.slice A10 (st.es.length + 1) c10).ownBlock = some i ∨ i = X2.heap.size ∨ i = Zh ∨ i = X9.heap.size) X10) := by rw [← hXe]; exact (HL9.out.alloc (til_thing _ _ _) (.cells #[.int .u8 1, .int .i64 s, .int .i64 c, .int .i64 T, .int .i64 M, .int .u8 1] 31)).less (N' := (fun (i : Nat) => i = SB ∨ (Value.slice A10 (st.es.length + 1) c10).ownBlock = some i ∨ i = X2.heap.size ∨ i = Zh ∨ i = X9.heap.size)) (fun i hi => by rcases hi with h0 | h1 | h2 | h3 | h4; exact .inl (.inl h0); exact .inl (.inr (.inl h1)); exact .inl (.inr (.inr (.inl h2))); exact .inl (.inr (.inr (.inr h3))); exact .inr (by omega))
                have : SB < X10.heap.size := by omega
                have : X2.heap.size < X10.heap.size := by omega
                have : Zh < X10.heap.size := by omega
                have ls10 : U.heap.size ≤ X10.heap.size := by omega
                have lt10 : X9.heap.size ≤ X10.heap.size := by omega
                have : X9.heap.size < X10.heap.size := by omega
                have lg10 : X10.heap.size ≤ X9.heap.size + 1 ∧ X9.heap.size + 1 ≤ X10.heap.size := by omega
                have : SB < X9.heap.size := by omega
                have : X2.heap.size < X9.heap.size := by omega
                have : Zh < X9.heap.size := by omega
                clear hK HL9 H9_0 H9_1 H9_2 H9_3 c2_0 c2_1 c2_2 c2_3 c2_4 c2_5 c3_0 c3_1 c3_2 c3_3 c3_4 c3_5
                rw [hXe]
                clear hXe hz9
                go_roundw
                case rel => exact ⟨j + 1, (st.charge s c T M 1), A10, c10, by omega, by go_num, by rw [HT], (HF.out.charge s3 c3 (by omega) HMM.out (by omega)), by rw [HT]; omega, (HL10.out.less (fun i hi => by rcases hi with rfl | hi; exact .inl rfl; exact .inr (.inl (by first | exact hi | (rw [HT] at hi; exact hi))))).imp (fun F hF => hF.mono (by omega)), H10_0, by have h9 := H10_1; rw [← HT] at h9; exact h9⟩
                case measure => simp [intOf]; omega
              · obtain rfl : x = 2 := HX.out
                as_aux_lemma =>
                obtain ⟨c2_0, c2_1, c2_2, c2_3, c2_4, c2_5⟩ := cells6 H6_2.out
                go_wp2_with (fail)
                obtain ⟨SW, hSW⟩ : ∃ S : World → Prop, S = (fun w' : World => w'.heap[X2.heap.size]? = some (.cells #[.int .u8 1, .int .i64 s, .int .i64 c, .int .i64 T, .int .i64 M, .int .u8 0] 31 (0, 0))) := ⟨_, rfl⟩
                have HS0 : Hid (SW wr.drew) := by rw [hSW]; exact (show _ from H6_2.out)
                refine lane_start (ord := [0, 1, 2, 3, 4, 5, 6, 7, 8, 9]) (S := SW) rfl (by kernel_rfl) (by exact HS0.out) (fun _ => ?_)
                iterate 9 (refine lane_take (v := ?_) rfl (by kernel_rfl) (by kernel_rfl) (by rfl) ?_ (by exact HS0.out) ?_; rotate_left; (focus (intro w9 hSw; rw [hSW] at hSw; have z0 := hSw; obtain ⟨x0, x1, x2, x3, x4, x5⟩ := cells6 z0; (try go_simp); try (with_reducible rfl))); simp only [Act.put, List.setIfInBounds_toArray, List.set_cons_zero, List.set_cons_succ])
                refine lane_alone rfl (by kernel_rfl) (by rfl) (fun KK hKK => ?_)
                have hA9 : ArrB wr.drew SB 29 36 (gT st) := H6_0.out
                refine wp_of_skip (exec_store_one rfl (by rfl) rfl (by kernel_rfl) rfl (hA9.cell (i := s * 12 + c * 4 + T) (by omega)) (hA9.frozen _)) ?_
                have hS9 : SW (wr.drew.setCell ⟨SB, s * 12 + c * 4 + T, none⟩ (.int .u8 2)) := by rw [hSW]; exact (setCell_other (by omega)).trans H6_2.out
                refine hKK _ _ (by exact hS9) (fun _ => ?_)
                clear hKK KK hA9 HS0 hS9
                refine lane_end (by kernel_rfl) ?_
                change Exit.then _ _ Exit.normal _ (wr.drew.setCell ⟨SB, s * 12 + c * 4 + T, none⟩ (.int .u8 2))
                have hK : ∀ i, i < wr.heap.size → wr.drew.heap[i]? = wr.heap[i]? := fun i hi => rfl
                obtain ⟨X7, hXe⟩ : ∃ X, wr.drew = X := ⟨_, rfl⟩
                rw [hXe] at hK
                have hz9 : X7.heap.size = wr.heap.size := by rw [← hXe]; rfl
                have H7_0 : Hid (ArrB X7 SB 29 36 (gT st)) := H6_0.out.kept (hK SB (by omega))
                have H7_1 : Hid (X7.ownsRow U.heap.size 39 4 (Value.slice A9 st.es.length c9) st.es.length (ecl st.es)) := own_kept H6_1.out (fun i hi => hK i (H6_1.out.lt i hi).2)
                have H7_2 : Hid (X7.heap[X2.heap.size]? = some (.cells #[.int .u8 1, .int .i64 s, .int .i64 c, .int .i64 T, .int .i64 M, .int .u8 0] 31 (0, 0))) := (hK X2.heap.size (by omega)).trans H6_2.out
                have H7_3 : Hid (X7.heap[Zh]? = some (.cells #[.int .u8 1, .int .i64 s, .int .i64 c, .int .i64 T, .int .i64 M, .int .u8 2] 31 (0, 0))) := (hK Zh (by omega)).trans H6_3.out
                have HL7 : Hid (LiveO (TilB (U.heap.size + 4) (st.charge s c T M 2) (4 * j + 4)) U (fun (i : Nat) => i = SB ∨ (Value.slice A9 st.es.length c9).ownBlock = some i ∨ i = X2.heap.size ∨ i = Zh) X7) := by rw [← hXe]; exact HL6.out.drew (til_thing _ _ _)
                have : SB < X7.heap.size := by omega
                have : X2.heap.size < X7.heap.size := by omega
                have : Zh < X7.heap.size := by omega
                have ls7 : U.heap.size ≤ X7.heap.size := by omega
                have lt7 : wr.heap.size ≤ X7.heap.size := by omega
                have lu7 : X7.heap.size ≤ wr.heap.size := by omega
                clear hK HL6 H6_0 H6_1 H6_2 H6_3 z3 c2_0 c2_1 c2_2 c2_3 c2_4 c2_5
                rw [hXe]
                clear hXe hz9
                have hK : ∀ i, i < X7.heap.size → i ≠ SB → (X7.setCell ⟨SB, s * 12 + c * 4 + T, none⟩ (.int .u8 2)).heap[i]? = X7.heap[i]? := fun i _ hi => setCell_other hi
                obtain ⟨X8, hXe⟩ : ∃ X, (X7.setCell ⟨SB, s * 12 + c * 4 + T, none⟩ (.int .u8 2)) = X := ⟨_, rfl⟩
                rw [hXe] at hK
                have hz9 : X8.heap.size = X7.heap.size := by rw [← hXe, setCell_size]
                have H8_0 : Hid (ArrB X8 SB 29 36 (gT (st.charge s c T M 2))) := by rw [← hXe]; exact (H7_0.out.set (s * 12 + c * 4 + T) _).congr (fun i _ => said_charge c3 hT3 HSD.out i)
                have H8_1 : Hid (X8.ownsRow U.heap.size 39 4 (Value.slice A9 st.es.length c9) st.es.length (ecl st.es)) := own_kept H7_1.out (fun i hi => hK i (H7_1.out.lt i hi).2 (fun e => own_ne_arr H7_1.out H7_0.out (by decide) (hi.trans (by rw [e]))))
                have H8_2 : Hid (X8.heap[X2.heap.size]? = some (.cells #[.int .u8 1, .int .i64 s, .int .i64 c, .int .i64 T, .int .i64 M, .int .u8 0] 31 (0, 0))) := (hK X2.heap.size (by omega) (by omega)).trans H7_2.out
                have H8_3 : Hid (X8.heap[Zh]? = some (.cells #[.int .u8 1, .int .i64 s, .int .i64 c, .int .i64 T, .int .i64 M, .int .u8 2] 31 (0, 0))) := (hK Zh (by omega) (by omega)).trans H7_3.out
                have HL8 : Hid (LiveO (TilB (U.heap.size + 4) (st.charge s c T M 2) (4 * j + 4)) U (fun (i : Nat) => i = SB ∨ (Value.slice A9 st.es.length c9).ownBlock = some i ∨ i = X2.heap.size ∨ i = Zh) X8) := by rw [← hXe]; exact HL7.out.setCell (til_thing _ _ _) (p := ⟨SB, s * 12 + c * 4 + T, none⟩) (.inl rfl) (by show U.heap.size ≤ SB; omega)
                have : SB < X8.heap.size := by omega
                have : X2.heap.size < X8.heap.size := by omega
                have : Zh < X8.heap.size := by omega
                have ls8 : U.heap.size ≤ X8.heap.size := by omega
                have lt8 : X7.heap.size ≤ X8.heap.size := by omega
                clear hK HL7 H7_0 H7_1 H7_2 H7_3
                rw [hXe]
                clear hXe hz9
                have HT : (st.charge s c T M 2).es.length = st.es.length := by rw [es_no HSD.out (by decide)]
                obtain ⟨c2_0, c2_1, c2_2, c2_3, c2_4, c2_5⟩ := cells6 H8_2.out
                obtain ⟨c3_0, c3_1, c3_2, c3_3, c3_4, c3_5⟩ := cells6 H8_3.out
                go_wp2
                have hK : ∀ i, i < X8.heap.size → (X8.alloc (.cells #[.int .u8 1, .int .i64 s, .int .i64 c, .int .i64 T, .int .i64 M, .int .u8 2] 31)).heap[i]? = X8.heap[i]? := fun i hi => alloc_block_old hi
                obtain ⟨X9, hXe⟩ : ∃ X, (X8.alloc (.cells #[.int .u8 1, .int .i64 s, .int .i64 c, .int .i64 T, .int .i64 M, .int .u8 2] 31)) = X := ⟨_, rfl⟩
                rw [hXe] at hK
                have hz9 : X9.heap.size = X8.heap.size + 1 := by rw [← hXe]; simp
                have H9_0 : Hid (ArrB X9 SB 29 36 (gT (st.charge s c T M 2))) := H8_0.out.kept (hK SB (by omega))
                have H9_1 : Hid (X9.ownsRow U.heap.size 39 4 (Value.slice A9 st.es.length c9) st.es.length (ecl st.es)) := own_kept H8_1.out (fun i hi => hK i (H8_1.out.lt i hi).2)
                have H9_2 : Hid (X9.heap[X2.heap.size]? = some (.cells #[.int .u8 1, .int .i64 s, .int .i64 c, .int .i64 T, .int .i64 M, .int .u8 0] 31 (0, 0))) := (hK X2.heap.size (by omega)).trans H8_2.out
                have H9_3 : Hid (X9.heap[Zh]? = some (.cells #[.int .u8 1, .int .i64 s, .int .i64 c, .int .i64 T, .int .i64 M, .int .u8 2] 31 (0, 0))) := (hK Zh (by omega)).trans H8_3.out
                have H9_4 : Hid (X9.heap[X8.heap.size]? = some (.cells #[.int .u8 1, .int .i64 s, .int .i64 c, .int .i64 T, .int .i64 M, .int .u8 2] 31 (0, 0))) := by rw [← hXe]; exact alloc_at (by omega)
                have HL9 : Hid (LiveO (TilB (U.heap.size + 4) (st.charge s c T M 2) (4 * j + 4)) U (fun (i : Nat) => i = SB ∨ (Value.slice A9 st.es.length c9).ownBlock = some i ∨ i = X2.heap.size ∨ i = Zh ∨ i = X8.heap.size) X9) := by rw [← hXe]; exact (HL8.out.alloc (til_thing _ _ _) (.cells #[.int .u8 1, .int .i64 s, .int .i64 c, .int .i64 T, .int .i64 M, .int .u8 2] 31)).less (N' := (fun (i : Nat) => i = SB ∨ (Value.slice A9 st.es.length c9).ownBlock = some i ∨ i = X2.heap.size ∨ i = Zh ∨ i = X8.heap.size)) (fun i hi => by rcases hi with h0 | h1 | h2 | h3 | h4; exact .inl (.inl h0); exact .inl (.inr (.inl h1)); exact .inl (.inr (.inr (.inl h2))); exact .inl (.inr (.inr (.inr h3))); exact .inr (by omega))
                have : SB < X9.heap.size := by omega
                have : X2.heap.size < X9.heap.size := by omega
                have : Zh < X9.heap.size := by omega
                have ls9 : U.heap.size ≤ X9.heap.size := by omega
                have lt9 : X8.heap.size ≤ X9.heap.size := by omega
                have : X8.heap.size < X9.heap.size := by omega
                have lg9 : X9.heap.size ≤ X8.heap.size + 1 ∧ X8.heap.size + 1 ≤ X9.heap.size := by omega
                have : SB < X8.heap.size := by omega
                have : X2.heap.size < X8.heap.size := by omega
                have : Zh < X8.heap.size := by omega
                clear hK HL8 H8_0 H8_1 H8_2 H8_3 c2_0 c2_1 c2_2 c2_3 c2_4 c2_5 c3_0 c3_1 c3_2 c3_3 c3_4 c3_5
                rw [hXe]
                clear hXe hz9
                go_roundw
                case rel => exact ⟨j + 1, (st.charge s c T M 2), A9, c9, by omega, by go_num, by rw [HT], (HF.out.charge s3 c3 (by omega) HMM.out (by omega)), by rw [HT]; omega, (HL9.out.less (fun i hi => by rcases hi with rfl | hi; exact .inl rfl; exact .inr (.inl (by first | exact hi | (rw [HT] at hi; exact hi))))).imp (fun F hF => hF.mono (by omega)), H9_0, by rw [es_no HSD.out (by decide)]; exact H9_1⟩
                case measure => simp [intOf]; omega
              · obtain rfl : x = 3 := HX.out
                as_aux_lemma =>
                obtain ⟨c2_0, c2_1, c2_2, c2_3, c2_4, c2_5⟩ := cells6 H6_2.out
                go_wp2_with (fail)
                obtain ⟨SW, hSW⟩ : ∃ S : World → Prop, S = (fun w' : World => w'.heap[X2.heap.size]? = some (.cells #[.int .u8 1, .int .i64 s, .int .i64 c, .int .i64 T, .int .i64 M, .int .u8 0] 31 (0, 0))) := ⟨_, rfl⟩
                have HS0 : Hid (SW wr.drew) := by rw [hSW]; exact (show _ from H6_2.out)
                refine lane_start (ord := [0, 1, 2, 3, 4, 5, 6, 7, 8, 9]) (S := SW) rfl (by kernel_rfl) (by exact HS0.out) (fun _ => ?_)
                iterate 9 (refine lane_take (v := ?_) rfl (by kernel_rfl) (by kernel_rfl) (by rfl) ?_ (by exact HS0.out) ?_; rotate_left; (focus (intro w9 hSw; rw [hSW] at hSw; have z0 := hSw; obtain ⟨x0, x1, x2, x3, x4, x5⟩ := cells6 z0; (try go_simp); try (with_reducible rfl))); simp only [Act.put, List.setIfInBounds_toArray, List.set_cons_zero, List.set_cons_succ])
                refine lane_alone rfl (by kernel_rfl) (by rfl) (fun KK hKK => ?_)
                have hA9 : ArrB wr.drew SB 29 36 (gT st) := H6_0.out
                refine wp_of_skip (exec_store_one rfl (by rfl) rfl (by kernel_rfl) rfl (hA9.cell (i := s * 12 + c * 4 + T) (by omega)) (hA9.frozen _)) ?_
                have hS9 : SW (wr.drew.setCell ⟨SB, s * 12 + c * 4 + T, none⟩ (.int .u8 3)) := by rw [hSW]; exact (setCell_other (by omega)).trans H6_2.out
                refine hKK _ _ (by exact hS9) (fun _ => ?_)
                clear hKK KK hA9 HS0 hS9
                refine lane_end (by kernel_rfl) ?_
                change Exit.then _ _ Exit.normal _ (wr.drew.setCell ⟨SB, s * 12 + c * 4 + T, none⟩ (.int .u8 3))
                have hK : ∀ i, i < wr.heap.size → wr.drew.heap[i]? = wr.heap[i]? := fun i hi => rfl
                obtain ⟨X7, hXe⟩ : ∃ X, wr.drew = X := ⟨_, rfl⟩
                rw [hXe] at hK
                have hz9 : X7.heap.size = wr.heap.size := by rw [← hXe]; rfl
                have H7_0 : Hid (ArrB X7 SB 29 36 (gT st)) := H6_0.out.kept (hK SB (by omega))
                have H7_1 : Hid (X7.ownsRow U.heap.size 39 4 (Value.slice A9 st.es.length c9) st.es.length (ecl st.es)) := own_kept H6_1.out (fun i hi => hK i (H6_1.out.lt i hi).2)
                have H7_2 : Hid (X7.heap[X2.heap.size]? = some (.cells #[.int .u8 1, .int .i64 s, .int .i64 c, .int .i64 T, .int .i64 M, .int .u8 0] 31 (0, 0))) := (hK X2.heap.size (by omega)).trans H6_2.out
                have H7_3 : Hid (X7.heap[Zh]? = some (.cells #[.int .u8 1, .int .i64 s, .int .i64 c, .int .i64 T, .int .i64 M, .int .u8 3] 31 (0, 0))) := (hK Zh (by omega)).trans H6_3.out
                have HL7 : Hid (LiveO (TilB (U.heap.size + 4) (st.charge s c T M 3) (4 * j + 4)) U (fun (i : Nat) => i = SB ∨ (Value.slice A9 st.es.length c9).ownBlock = some i ∨ i = X2.heap.size ∨ i = Zh) X7) := by rw [← hXe]; exact HL6.out.drew (til_thing _ _ _)
                have : SB < X7.heap.size := by omega
                have : X2.heap.size < X7.heap.size := by omega
                have : Zh < X7.heap.size := by omega
                have ls7 : U.heap.size ≤ X7.heap.size := by omega
                have lt7 : wr.heap.size ≤ X7.heap.size := by omega
                have lu7 : X7.heap.size ≤ wr.heap.size := by omega
                clear hK HL6 H6_0 H6_1 H6_2 H6_3 z3 c2_0 c2_1 c2_2 c2_3 c2_4 c2_5
                rw [hXe]
                clear hXe hz9
                have hK : ∀ i, i < X7.heap.size → i ≠ SB → (X7.setCell ⟨SB, s * 12 + c * 4 + T, none⟩ (.int .u8 3)).heap[i]? = X7.heap[i]? := fun i _ hi => setCell_other hi
                obtain ⟨X8, hXe⟩ : ∃ X, (X7.setCell ⟨SB, s * 12 + c * 4 + T, none⟩ (.int .u8 3)) = X := ⟨_, rfl⟩
                rw [hXe] at hK
                have hz9 : X8.heap.size = X7.heap.size := by rw [← hXe, setCell_size]
                have H8_0 : Hid (ArrB X8 SB 29 36 (gT (st.charge s c T M 3))) := by rw [← hXe]; exact (H7_0.out.set (s * 12 + c * 4 + T) _).congr (fun i _ => said_charge c3 hT3 HSD.out i)
                have H8_1 : Hid (X8.ownsRow U.heap.size 39 4 (Value.slice A9 st.es.length c9) st.es.length (ecl st.es)) := own_kept H7_1.out (fun i hi => hK i (H7_1.out.lt i hi).2 (fun e => own_ne_arr H7_1.out H7_0.out (by decide) (hi.trans (by rw [e]))))
                have H8_2 : Hid (X8.heap[X2.heap.size]? = some (.cells #[.int .u8 1, .int .i64 s, .int .i64 c, .int .i64 T, .int .i64 M, .int .u8 0] 31 (0, 0))) := (hK X2.heap.size (by omega) (by omega)).trans H7_2.out
                have H8_3 : Hid (X8.heap[Zh]? = some (.cells #[.int .u8 1, .int .i64 s, .int .i64 c, .int .i64 T, .int .i64 M, .int .u8 3] 31 (0, 0))) := (hK Zh (by omega) (by omega)).trans H7_3.out
                have HL8 : Hid (LiveO (TilB (U.heap.size + 4) (st.charge s c T M 3) (4 * j + 4)) U (fun (i : Nat) => i = SB ∨ (Value.slice A9 st.es.length c9).ownBlock = some i ∨ i = X2.heap.size ∨ i = Zh) X8) := by rw [← hXe]; exact HL7.out.setCell (til_thing _ _ _) (p := ⟨SB, s * 12 + c * 4 + T, none⟩) (.inl rfl) (by show U.heap.size ≤ SB; omega)
                have : SB < X8.heap.size := by omega
                have : X2.heap.size < X8.heap.size := by omega
                have : Zh < X8.heap.size := by omega
                have ls8 : U.heap.size ≤ X8.heap.size := by omega
                have lt8 : X7.heap.size ≤ X8.heap.size := by omega
                clear hK HL7 H7_0 H7_1 H7_2 H7_3
                rw [hXe]
                clear hXe hz9
                have HT : (st.charge s c T M 3).es.length = st.es.length := by rw [es_no HSD.out (by decide)]
                obtain ⟨c2_0, c2_1, c2_2, c2_3, c2_4, c2_5⟩ := cells6 H8_2.out
                obtain ⟨c3_0, c3_1, c3_2, c3_3, c3_4, c3_5⟩ := cells6 H8_3.out
                go_wp2
                have hK : ∀ i, i < X8.heap.size → (X8.alloc (.cells #[.int .u8 1, .int .i64 s, .int .i64 c, .int .i64 T, .int .i64 M, .int .u8 3] 31)).heap[i]? = X8.heap[i]? := fun i hi => alloc_block_old hi
                obtain ⟨X9, hXe⟩ : ∃ X, (X8.alloc (.cells #[.int .u8 1, .int .i64 s, .int .i64 c, .int .i64 T, .int .i64 M, .int .u8 3] 31)) = X := ⟨_, rfl⟩
                rw [hXe] at hK
                have hz9 : X9.heap.size = X8.heap.size + 1 := by rw [← hXe]; simp
                have H9_0 : Hid (ArrB X9 SB 29 36 (gT (st.charge s c T M 3))) := H8_0.out.kept (hK SB (by omega))
                have H9_1 : Hid (X9.ownsRow U.heap.size 39 4 (Value.slice A9 st.es.length c9) st.es.length (ecl st.es)) := own_kept H8_1.out (fun i hi => hK i (H8_1.out.lt i hi).2)
                have H9_2 : Hid (X9.heap[X2.heap.size]? = some (.cells #[.int .u8 1, .int .i64 s, .int .i64 c, .int .i64 T, .int .i64 M, .int .u8 0] 31 (0, 0))) := (hK X2.heap.size (by omega)).trans H8_2.out
                have H9_3 : Hid (X9.heap[Zh]? = some (.cells #[.int .u8 1, .int .i64 s, .int .i64 c, .int .i64 T, .int .i64 M, .int .u8 3] 31 (0, 0))) := (hK Zh (by omega)).trans H8_3.out
                have H9_4 : Hid (X9.heap[X8.heap.size]? = some (.cells #[.int .u8 1, .int .i64 s, .int .i64 c, .int .i64 T, .int .i64 M, .int .u8 3] 31 (0, 0))) := by rw [← hXe]; exact alloc_at (by omega)
                have HL9 : Hid (LiveO (TilB (U.heap.size + 4) (st.charge s c T M 3) (4 * j + 4)) U (fun (i : Nat) => i = SB ∨ (Value.slice A9 st.es.length c9).ownBlock = some i ∨ i = X2.heap.size ∨ i = Zh ∨ i = X8.heap.size) X9) := by rw [← hXe]; exact (HL8.out.alloc (til_thing _ _ _) (.cells #[.int .u8 1, .int .i64 s, .int .i64 c, .int .i64 T, .int .i64 M, .int .u8 3] 31)).less (N' := (fun (i : Nat) => i = SB ∨ (Value.slice A9 st.es.length c9).ownBlock = some i ∨ i = X2.heap.size ∨ i = Zh ∨ i = X8.heap.size)) (fun i hi => by rcases hi with h0 | h1 | h2 | h3 | h4; exact .inl (.inl h0); exact .inl (.inr (.inl h1)); exact .inl (.inr (.inr (.inl h2))); exact .inl (.inr (.inr (.inr h3))); exact .inr (by omega))
                have : SB < X9.heap.size := by omega
                have : X2.heap.size < X9.heap.size := by omega
                have : Zh < X9.heap.size := by omega
                have ls9 : U.heap.size ≤ X9.heap.size := by omega
                have lt9 : X8.heap.size ≤ X9.heap.size := by omega
                have : X8.heap.size < X9.heap.size := by omega
                have lg9 : X9.heap.size ≤ X8.heap.size + 1 ∧ X8.heap.size + 1 ≤ X9.heap.size := by omega
                have : SB < X8.heap.size := by omega
                have : X2.heap.size < X8.heap.size := by omega
                have : Zh < X8.heap.size := by omega
                clear hK HL8 H8_0 H8_1 H8_2 H8_3 c2_0 c2_1 c2_2 c2_3 c2_4 c2_5 c3_0 c3_1 c3_2 c3_3 c3_4 c3_5
                rw [hXe]
                clear hXe hz9
                go_roundw
                case rel => exact ⟨j + 1, (st.charge s c T M 3), A9, c9, by omega, by go_num, by rw [HT], (HF.out.charge s3 c3 (by omega) HMM.out (by omega)), by rw [HT]; omega, (HL9.out.less (fun i hi => by rcases hi with rfl | hi; exact .inl rfl; exact .inr (.inl (by first | exact hi | (rw [HT] at hi; exact hi))))).imp (fun F hF => hF.mono (by omega)), H9_0, by rw [es_no HSD.out (by decide)]; exact H9_1⟩
                case measure => simp [intOf]; omega
              · obtain rfl : x = 3 := HX.out
                as_aux_lemma =>
                obtain ⟨c2_0, c2_1, c2_2, c2_3, c2_4, c2_5⟩ := cells6 H6_2.out
                go_wp2_with (fail)
                obtain ⟨SW, hSW⟩ : ∃ S : World → Prop, S = (fun w' : World => w'.heap[X2.heap.size]? = some (.cells #[.int .u8 1, .int .i64 s, .int .i64 c, .int .i64 T, .int .i64 M, .int .u8 0] 31 (0, 0))) := ⟨_, rfl⟩
                have HS0 : Hid (SW wr.drew) := by rw [hSW]; exact (show _ from H6_2.out)
                refine lane_start (ord := [0, 1, 2, 3, 4, 5, 6, 7, 8, 9]) (S := SW) rfl (by kernel_rfl) (by exact HS0.out) (fun _ => ?_)
                iterate 9 (refine lane_take (v := ?_) rfl (by kernel_rfl) (by kernel_rfl) (by rfl) ?_ (by exact HS0.out) ?_; rotate_left; (focus (intro w9 hSw; rw [hSW] at hSw; have z0 := hSw; obtain ⟨x0, x1, x2, x3, x4, x5⟩ := cells6 z0; (try go_simp); try (with_reducible rfl))); simp only [Act.put, List.setIfInBounds_toArray, List.set_cons_zero, List.set_cons_succ])
                refine lane_alone rfl (by kernel_rfl) (by rfl) (fun KK hKK => ?_)
                have hA9 : ArrB wr.drew SB 29 36 (gT st) := H6_0.out
                refine wp_of_skip (exec_store_one rfl (by rfl) rfl (by kernel_rfl) rfl (hA9.cell (i := s * 12 + c * 4 + T) (by omega)) (hA9.frozen _)) ?_
                have hS9 : SW (wr.drew.setCell ⟨SB, s * 12 + c * 4 + T, none⟩ (.int .u8 3)) := by rw [hSW]; exact (setCell_other (by omega)).trans H6_2.out
                refine hKK _ _ (by exact hS9) (fun _ => ?_)
                clear hKK KK hA9 HS0 hS9
                refine lane_end (by kernel_rfl) ?_
                change Exit.then _ _ Exit.normal _ (wr.drew.setCell ⟨SB, s * 12 + c * 4 + T, none⟩ (.int .u8 3))
                have hK : ∀ i, i < wr.heap.size → wr.drew.heap[i]? = wr.heap[i]? := fun i hi => rfl
                obtain ⟨X7, hXe⟩ : ∃ X, wr.drew = X := ⟨_, rfl⟩
                rw [hXe] at hK
                have hz9 : X7.heap.size = wr.heap.size := by rw [← hXe]; rfl
                have H7_0 : Hid (ArrB X7 SB 29 36 (gT st)) := H6_0.out.kept (hK SB (by omega))
                have H7_1 : Hid (X7.ownsRow U.heap.size 39 4 (Value.slice A9 st.es.length c9) st.es.length (ecl st.es)) := own_kept H6_1.out (fun i hi => hK i (H6_1.out.lt i hi).2)
                have H7_2 : Hid (X7.heap[X2.heap.size]? = some (.cells #[.int .u8 1, .int .i64 s, .int .i64 c, .int .i64 T, .int .i64 M, .int .u8 0] 31 (0, 0))) := (hK X2.heap.size (by omega)).trans H6_2.out
                have H7_3 : Hid (X7.heap[Zh]? = some (.cells #[.int .u8 1, .int .i64 s, .int .i64 c, .int .i64 T, .int .i64 M, .int .u8 3] 31 (0, 0))) := (hK Zh (by omega)).trans H6_3.out
                have HL7 : Hid (LiveO (TilB (U.heap.size + 4) (st.charge s c T M 3) (4 * j + 4)) U (fun (i : Nat) => i = SB ∨ (Value.slice A9 st.es.length c9).ownBlock = some i ∨ i = X2.heap.size ∨ i = Zh) X7) := by rw [← hXe]; exact HL6.out.drew (til_thing _ _ _)
                have : SB < X7.heap.size := by omega
                have : X2.heap.size < X7.heap.size := by omega
                have : Zh < X7.heap.size := by omega
                have ls7 : U.heap.size ≤ X7.heap.size := by omega
                have lt7 : wr.heap.size ≤ X7.heap.size := by omega
                have lu7 : X7.heap.size ≤ wr.heap.size := by omega
                clear hK HL6 H6_0 H6_1 H6_2 H6_3 z3 c2_0 c2_1 c2_2 c2_3 c2_4 c2_5
                rw [hXe]
                clear hXe hz9
                have hK : ∀ i, i < X7.heap.size → i ≠ SB → (X7.setCell ⟨SB, s * 12 + c * 4 + T, none⟩ (.int .u8 3)).heap[i]? = X7.heap[i]? := fun i _ hi => setCell_other hi
                obtain ⟨X8, hXe⟩ : ∃ X, (X7.setCell ⟨SB, s * 12 + c * 4 + T, none⟩ (.int .u8 3)) = X := ⟨_, rfl⟩
                rw [hXe] at hK
                have hz9 : X8.heap.size = X7.heap.size := by rw [← hXe, setCell_size]
                have H8_0 : Hid (ArrB X8 SB 29 36 (gT (st.charge s c T M 3))) := by rw [← hXe]; exact (H7_0.out.set (s * 12 + c * 4 + T) _).congr (fun i _ => said_charge c3 hT3 HSD.out i)
                have H8_1 : Hid (X8.ownsRow U.heap.size 39 4 (Value.slice A9 st.es.length c9) st.es.length (ecl st.es)) := own_kept H7_1.out (fun i hi => hK i (H7_1.out.lt i hi).2 (fun e => own_ne_arr H7_1.out H7_0.out (by decide) (hi.trans (by rw [e]))))
                have H8_2 : Hid (X8.heap[X2.heap.size]? = some (.cells #[.int .u8 1, .int .i64 s, .int .i64 c, .int .i64 T, .int .i64 M, .int .u8 0] 31 (0, 0))) := (hK X2.heap.size (by omega) (by omega)).trans H7_2.out
                have H8_3 : Hid (X8.heap[Zh]? = some (.cells #[.int .u8 1, .int .i64 s, .int .i64 c, .int .i64 T, .int .i64 M, .int .u8 3] 31 (0, 0))) := (hK Zh (by omega) (by omega)).trans H7_3.out
                have HL8 : Hid (LiveO (TilB (U.heap.size + 4) (st.charge s c T M 3) (4 * j + 4)) U (fun (i : Nat) => i = SB ∨ (Value.slice A9 st.es.length c9).ownBlock = some i ∨ i = X2.heap.size ∨ i = Zh) X8) := by rw [← hXe]; exact HL7.out.setCell (til_thing _ _ _) (p := ⟨SB, s * 12 + c * 4 + T, none⟩) (.inl rfl) (by show U.heap.size ≤ SB; omega)
                have : SB < X8.heap.size := by omega
                have : X2.heap.size < X8.heap.size := by omega
                have : Zh < X8.heap.size := by omega
                have ls8 : U.heap.size ≤ X8.heap.size := by omega
                have lt8 : X7.heap.size ≤ X8.heap.size := by omega
                clear hK HL7 H7_0 H7_1 H7_2 H7_3
                rw [hXe]
                clear hXe hz9
                have HT : (st.charge s c T M 3).es.length = st.es.length := by rw [es_no HSD.out (by decide)]
                obtain ⟨c2_0, c2_1, c2_2, c2_3, c2_4, c2_5⟩ := cells6 H8_2.out
                obtain ⟨c3_0, c3_1, c3_2, c3_3, c3_4, c3_5⟩ := cells6 H8_3.out
                go_wp2
                have hK : ∀ i, i < X8.heap.size → (X8.alloc (.cells #[.int .u8 1, .int .i64 s, .int .i64 c, .int .i64 T, .int .i64 M, .int .u8 3] 31)).heap[i]? = X8.heap[i]? := fun i hi => alloc_block_old hi
                obtain ⟨X9, hXe⟩ : ∃ X, (X8.alloc (.cells #[.int .u8 1, .int .i64 s, .int .i64 c, .int .i64 T, .int .i64 M, .int .u8 3] 31)) = X := ⟨_, rfl⟩
                rw [hXe] at hK
                have hz9 : X9.heap.size = X8.heap.size + 1 := by rw [← hXe]; simp
                have H9_0 : Hid (ArrB X9 SB 29 36 (gT (st.charge s c T M 3))) := H8_0.out.kept (hK SB (by omega))
                have H9_1 : Hid (X9.ownsRow U.heap.size 39 4 (Value.slice A9 st.es.length c9) st.es.length (ecl st.es)) := own_kept H8_1.out (fun i hi => hK i (H8_1.out.lt i hi).2)
                have H9_2 : Hid (X9.heap[X2.heap.size]? = some (.cells #[.int .u8 1, .int .i64 s, .int .i64 c, .int .i64 T, .int .i64 M, .int .u8 0] 31 (0, 0))) := (hK X2.heap.size (by omega)).trans H8_2.out
                have H9_3 : Hid (X9.heap[Zh]? = some (.cells #[.int .u8 1, .int .i64 s, .int .i64 c, .int .i64 T, .int .i64 M, .int .u8 3] 31 (0, 0))) := (hK Zh (by omega)).trans H8_3.out
                have H9_4 : Hid (X9.heap[X8.heap.size]? = some (.cells #[.int .u8 1, .int .i64 s, .int .i64 c, .int .i64 T, .int .i64 M, .int .u8 3] 31 (0, 0))) := by rw [← hXe]; exact alloc_at (by omega)
                have HL9 : Hid (LiveO (TilB (U.heap.size + 4) (st.charge s c T M 3) (4 * j + 4)) U (fun (i : Nat) => i = SB ∨ (Value.slice A9 st.es.length c9).ownBlock = some i ∨ i = X2.heap.size ∨ i = Zh ∨ i = X8.heap.size) X9) := by rw [← hXe]; exact (HL8.out.alloc (til_thing _ _ _) (.cells #[.int .u8 1, .int .i64 s, .int .i64 c, .int .i64 T, .int .i64 M, .int .u8 3] 31)).less (N' := (fun (i : Nat) => i = SB ∨ (Value.slice A9 st.es.length c9).ownBlock = some i ∨ i = X2.heap.size ∨ i = Zh ∨ i = X8.heap.size)) (fun i hi => by rcases hi with h0 | h1 | h2 | h3 | h4; exact .inl (.inl h0); exact .inl (.inr (.inl h1)); exact .inl (.inr (.inr (.inl h2))); exact .inl (.inr (.inr (.inr h3))); exact .inr (by omega))
                have : SB < X9.heap.size := by omega
                have : X2.heap.size < X9.heap.size := by omega
                have : Zh < X9.heap.size := by omega
                have ls9 : U.heap.size ≤ X9.heap.size := by omega
                have lt9 : X8.heap.size ≤ X9.heap.size := by omega
                have : X8.heap.size < X9.heap.size := by omega
                have lg9 : X9.heap.size ≤ X8.heap.size + 1 ∧ X8.heap.size + 1 ≤ X9.heap.size := by omega
                have : SB < X8.heap.size := by omega
                have : X2.heap.size < X8.heap.size := by omega
                have : Zh < X8.heap.size := by omega
                clear hK HL8 H8_0 H8_1 H8_2 H8_3 c2_0 c2_1 c2_2 c2_3 c2_4 c2_5 c3_0 c3_1 c3_2 c3_3 c3_4 c3_5
                rw [hXe]
                clear hXe hz9
                go_roundw
                case rel => exact ⟨j + 1, (st.charge s c T M 3), A9, c9, by omega, by go_num, by rw [HT], (HF.out.charge s3 c3 (by omega) HMM.out (by omega)), by rw [HT]; omega, (HL9.out.less (fun i hi => by rcases hi with rfl | hi; exact .inl rfl; exact .inr (.inl (by first | exact hi | (rw [HT] at hi; exact hi))))).imp (fun F hF => hF.mono (by omega)), H9_0, by rw [es_no HSD.out (by decide)]; exact H9_1⟩
                case measure => simp [intOf]; omega
              · obtain rfl : x = 3 := HX.out.trans (if_neg (by omega))
                as_aux_lemma =>
                have e1 : decide (v < 1) = false := by simp; omega
                have e2 : decide (3 < v) = true := by simp; omega
                obtain ⟨c2_0, c2_1, c2_2, c2_3, c2_4, c2_5⟩ := cells6 H6_2.out
                go_wp2_with (fail)
                obtain ⟨SW, hSW⟩ : ∃ S : World → Prop, S = (fun w' : World => w'.heap[X2.heap.size]? = some (.cells #[.int .u8 1, .int .i64 s, .int .i64 c, .int .i64 T, .int .i64 M, .int .u8 0] 31 (0, 0))) := ⟨_, rfl⟩
                have HS0 : Hid (SW wr.drew) := by rw [hSW]; exact (show _ from H6_2.out)
                refine lane_start (ord := [0, 1, 2, 3, 4, 5, 6, 7, 8, 9]) (S := SW) rfl (by kernel_rfl) (by exact HS0.out) (fun _ => ?_)
                iterate 9 (refine lane_take (v := ?_) rfl (by kernel_rfl) (by kernel_rfl) (by rfl) ?_ (by exact HS0.out) ?_; rotate_left; (focus (intro w9 hSw; rw [hSW] at hSw; have z0 := hSw; obtain ⟨x0, x1, x2, x3, x4, x5⟩ := cells6 z0; (try go_simp); try (with_reducible rfl))); simp only [Act.put, List.setIfInBounds_toArray, List.set_cons_zero, List.set_cons_succ])
                refine lane_alone rfl (by kernel_rfl) (by rfl) (fun KK hKK => ?_)
                have hA9 : ArrB wr.drew SB 29 36 (gT st) := H6_0.out
                refine wp_of_skip (exec_store_one rfl (by rfl) rfl (by kernel_rfl) rfl (hA9.cell (i := s * 12 + c * 4 + T) (by omega)) (hA9.frozen _)) ?_
                have hS9 : SW (wr.drew.setCell ⟨SB, s * 12 + c * 4 + T, none⟩ (.int .u8 3)) := by rw [hSW]; exact (setCell_other (by omega)).trans H6_2.out
                refine hKK _ _ (by exact hS9) (fun _ => ?_)
                clear hKK KK hA9 HS0 hS9
                refine lane_end (by kernel_rfl) ?_
                change Exit.then _ _ Exit.normal _ (wr.drew.setCell ⟨SB, s * 12 + c * 4 + T, none⟩ (.int .u8 3))
                have hK : ∀ i, i < wr.heap.size → wr.drew.heap[i]? = wr.heap[i]? := fun i hi => rfl
                obtain ⟨X7, hXe⟩ : ∃ X, wr.drew = X := ⟨_, rfl⟩
                rw [hXe] at hK
                have hz9 : X7.heap.size = wr.heap.size := by rw [← hXe]; rfl
                have H7_0 : Hid (ArrB X7 SB 29 36 (gT st)) := H6_0.out.kept (hK SB (by omega))
                have H7_1 : Hid (X7.ownsRow U.heap.size 39 4 (Value.slice A9 st.es.length c9) st.es.length (ecl st.es)) := own_kept H6_1.out (fun i hi => hK i (H6_1.out.lt i hi).2)
                have H7_2 : Hid (X7.heap[X2.heap.size]? = some (.cells #[.int .u8 1, .int .i64 s, .int .i64 c, .int .i64 T, .int .i64 M, .int .u8 0] 31 (0, 0))) := (hK X2.heap.size (by omega)).trans H6_2.out
                have H7_3 : Hid (X7.heap[Zh]? = some (.cells #[.int .u8 1, .int .i64 s, .int .i64 c, .int .i64 T, .int .i64 M, .int .u8 3] 31 (0, 0))) := (hK Zh (by omega)).trans H6_3.out
                have HL7 : Hid (LiveO (TilB (U.heap.size + 4) (st.charge s c T M 3) (4 * j + 4)) U (fun (i : Nat) => i = SB ∨ (Value.slice A9 st.es.length c9).ownBlock = some i ∨ i = X2.heap.size ∨ i = Zh) X7) := by rw [← hXe]; exact HL6.out.drew (til_thing _ _ _)
                have : SB < X7.heap.size := by omega
                have : X2.heap.size < X7.heap.size := by omega
                have : Zh < X7.heap.size := by omega
                have ls7 : U.heap.size ≤ X7.heap.size := by omega
                have lt7 : wr.heap.size ≤ X7.heap.size := by omega
                have lu7 : X7.heap.size ≤ wr.heap.size := by omega
                clear hK HL6 H6_0 H6_1 H6_2 H6_3 z3 c2_0 c2_1 c2_2 c2_3 c2_4 c2_5
                rw [hXe]
                clear hXe hz9
                have hK : ∀ i, i < X7.heap.size → i ≠ SB → (X7.setCell ⟨SB, s * 12 + c * 4 + T, none⟩ (.int .u8 3)).heap[i]? = X7.heap[i]? := fun i _ hi => setCell_other hi
                obtain ⟨X8, hXe⟩ : ∃ X, (X7.setCell ⟨SB, s * 12 + c * 4 + T, none⟩ (.int .u8 3)) = X := ⟨_, rfl⟩
                rw [hXe] at hK
                have hz9 : X8.heap.size = X7.heap.size := by rw [← hXe, setCell_size]
                have H8_0 : Hid (ArrB X8 SB 29 36 (gT (st.charge s c T M 3))) := by rw [← hXe]; exact (H7_0.out.set (s * 12 + c * 4 + T) _).congr (fun i _ => said_charge c3 hT3 HSD.out i)
                have H8_1 : Hid (X8.ownsRow U.heap.size 39 4 (Value.slice A9 st.es.length c9) st.es.length (ecl st.es)) := own_kept H7_1.out (fun i hi => hK i (H7_1.out.lt i hi).2 (fun e => own_ne_arr H7_1.out H7_0.out (by decide) (hi.trans (by rw [e]))))
                have H8_2 : Hid (X8.heap[X2.heap.size]? = some (.cells #[.int .u8 1, .int .i64 s, .int .i64 c, .int .i64 T, .int .i64 M, .int .u8 0] 31 (0, 0))) := (hK X2.heap.size (by omega) (by omega)).trans H7_2.out
                have H8_3 : Hid (X8.heap[Zh]? = some (.cells #[.int .u8 1, .int .i64 s, .int .i64 c, .int .i64 T, .int .i64 M, .int .u8 3] 31 (0, 0))) := (hK Zh (by omega) (by omega)).trans H7_3.out
                have HL8 : Hid (LiveO (TilB (U.heap.size + 4) (st.charge s c T M 3) (4 * j + 4)) U (fun (i : Nat) => i = SB ∨ (Value.slice A9 st.es.length c9).ownBlock = some i ∨ i = X2.heap.size ∨ i = Zh) X8) := by rw [← hXe]; exact HL7.out.setCell (til_thing _ _ _) (p := ⟨SB, s * 12 + c * 4 + T, none⟩) (.inl rfl) (by show U.heap.size ≤ SB; omega)
                have : SB < X8.heap.size := by omega
                have : X2.heap.size < X8.heap.size := by omega
                have : Zh < X8.heap.size := by omega
                have ls8 : U.heap.size ≤ X8.heap.size := by omega
                have lt8 : X7.heap.size ≤ X8.heap.size := by omega
                clear hK HL7 H7_0 H7_1 H7_2 H7_3
                rw [hXe]
                clear hXe hz9
                have HT : (st.charge s c T M 3).es.length = st.es.length := by rw [es_no HSD.out (by decide)]
                obtain ⟨c2_0, c2_1, c2_2, c2_3, c2_4, c2_5⟩ := cells6 H8_2.out
                obtain ⟨c3_0, c3_1, c3_2, c3_3, c3_4, c3_5⟩ := cells6 H8_3.out
                go_wp2
                have hK : ∀ i, i < X8.heap.size → (X8.alloc (.cells #[.int .u8 1, .int .i64 s, .int .i64 c, .int .i64 T, .int .i64 M, .int .u8 3] 31)).heap[i]? = X8.heap[i]? := fun i hi => alloc_block_old hi
                obtain ⟨X9, hXe⟩ : ∃ X, (X8.alloc (.cells #[.int .u8 1, .int .i64 s, .int .i64 c, .int .i64 T, .int .i64 M, .int .u8 3] 31)) = X := ⟨_, rfl⟩
                rw [hXe] at hK
                have hz9 : X9.heap.size = X8.heap.size + 1 := by rw [← hXe]; simp
                have H9_0 : Hid (ArrB X9 SB 29 36 (gT (st.charge s c T M 3))) := H8_0.out.kept (hK SB (by omega))
                have H9_1 : Hid (X9.ownsRow U.heap.size 39 4 (Value.slice A9 st.es.length c9) st.es.length (ecl st.es)) := own_kept H8_1.out (fun i hi => hK i (H8_1.out.lt i hi).2)
                have H9_2 : Hid (X9.heap[X2.heap.size]? = some (.cells #[.int .u8 1, .int .i64 s, .int .i64 c, .int .i64 T, .int .i64 M, .int .u8 0] 31 (0, 0))) := (hK X2.heap.size (by omega)).trans H8_2.out
                have H9_3 : Hid (X9.heap[Zh]? = some (.cells #[.int .u8 1, .int .i64 s, .int .i64 c, .int .i64 T, .int .i64 M, .int .u8 3] 31 (0, 0))) := (hK Zh (by omega)).trans H8_3.out
                have H9_4 : Hid (X9.heap[X8.heap.size]? = some (.cells #[.int .u8 1, .int .i64 s, .int .i64 c, .int .i64 T, .int .i64 M, .int .u8 3] 31 (0, 0))) := by rw [← hXe]; exact alloc_at (by omega)
                have HL9 : Hid (LiveO (TilB (U.heap.size + 4) (st.charge s c T M 3) (4 * j + 4)) U (fun (i : Nat) => i = SB ∨ (Value.slice A9 st.es.length c9).ownBlock = some i ∨ i = X2.heap.size ∨ i = Zh ∨ i = X8.heap.size) X9) := by rw [← hXe]; exact (HL8.out.alloc (til_thing _ _ _) (.cells #[.int .u8 1, .int .i64 s, .int .i64 c, .int .i64 T, .int .i64 M, .int .u8 3] 31)).less (N' := (fun (i : Nat) => i = SB ∨ (Value.slice A9 st.es.length c9).ownBlock = some i ∨ i = X2.heap.size ∨ i = Zh ∨ i = X8.heap.size)) (fun i hi => by rcases hi with h0 | h1 | h2 | h3 | h4; exact .inl (.inl h0); exact .inl (.inr (.inl h1)); exact .inl (.inr (.inr (.inl h2))); exact .inl (.inr (.inr (.inr h3))); exact .inr (by omega))
                have : SB < X9.heap.size := by omega
                have : X2.heap.size < X9.heap.size := by omega
                have : Zh < X9.heap.size := by omega
                have ls9 : U.heap.size ≤ X9.heap.size := by omega
                have lt9 : X8.heap.size ≤ X9.heap.size := by omega
                have : X8.heap.size < X9.heap.size := by omega
                have lg9 : X9.heap.size ≤ X8.heap.size + 1 ∧ X8.heap.size + 1 ≤ X9.heap.size := by omega
                have : SB < X8.heap.size := by omega
                have : X2.heap.size < X8.heap.size := by omega
                have : Zh < X8.heap.size := by omega
                clear hK HL8 H8_0 H8_1 H8_2 H8_3 c2_0 c2_1 c2_2 c2_3 c2_4 c2_5 c3_0 c3_1 c3_2 c3_3 c3_4 c3_5
                rw [hXe]
                clear hXe hz9
                go_roundw
                case rel => exact ⟨j + 1, (st.charge s c T M 3), A9, c9, by omega, by go_num, by rw [HT], (HF.out.charge s3 c3 (by omega) HMM.out (by omega)), by rw [HT]; omega, (HL9.out.less (fun i hi => by rcases hi with rfl | hi; exact .inl rfl; exact .inr (.inl (by first | exact hi | (rw [HT] at hi; exact hi))))).imp (fun F hF => hF.mono (by omega)), H9_0, by rw [es_no HSD.out (by decide)]; exact H9_1⟩
                case measure => simp [intOf]; omega
      · cases hsd : st.rf ((s : Int), (c : Int)) with
        | some x =>
          as_aux_lemma =>
          have ha : st.refundA s c = x := by unfold Til.refundA; rw [hsd]; rfl
          have hst : st.refund s c = st := by unfold Til.refund; rw [hsd]
          have hx0 : (x == 0) = false := by have := HF.out.rf _ _ hsd; simp; omega
          have HAN := Lib.hid ha
          have HST := Lib.hid hst
          have HSD := Lib.hid hsd
          clear ha hst hsd
          obtain ⟨c2_0, c2_1, c2_2, c2_3, c2_4, c2_5⟩ := cells6 H3_2.out
          obtain ⟨SW, hSW⟩ : ∃ S : World → Prop, S = (fun w' : World => w'.heap[X2.heap.size]? = some (.cells #[.int .u8 2, .int .i64 s, .int .i64 c, .int .i64 T, .int .i64 M, .int .u8 0] 31 (0, 0)) ∧ w'.cell? (⟨gg, oo + j * 6 + 5, none⟩) = some (.int .u8 v)) := ⟨_, rfl⟩
          have HS0 : Hid (SW X3.drew) := by rw [hSW]; exact ⟨H3_2.out, (World.cell?_of_block (w' := X3.drew) (a := ⟨gg, oo + j * 6 + 5, none⟩) (by (try rw [ad_block]); exact (HL3.out.old).block _ gU)).trans HV.out⟩
          have hN9 : ∀ i, (fun (i : Nat) => i = SB ∨ (Value.slice A9 st.es.length c9).ownBlock = some i ∨ i = X2.heap.size) i → i < X3.heap.size := (fun i hx0 => (hx0.elim (fun (hi : i = SB) => by omega) (fun hx1 => (hx1.elim (fun (hi : _) => (H3_1.out.lt i hi).2) (fun hx2 => ((fun (hi : i = X2.heap.size) => by omega) hx2))))))
          apply region_frame1 (fun Zq w9 => Hid (LiveO (TilB (U.heap.size + 4) st (4 * j + 4)) U (fun (i : Nat) => i = SB ∨ (Value.slice A9 st.es.length c9).ownBlock = some i ∨ i = X2.heap.size ∨ i = Zq) w9) ∧ Hid (ArrB w9 SB 29 36 (gT st)) ∧ Hid (w9.ownsRow U.heap.size 39 4 (Value.slice A9 st.es.length c9) st.es.length (ecl st.es)) ∧ Hid (w9.heap[X2.heap.size]? = some (.cells #[.int .u8 2, .int .i64 s, .int .i64 c, .int .i64 T, .int .i64 M, .int .u8 0] 31 (0, 0))) ∧ Hid (w9.heap[Zq]? = some (.cells #[.int .u8 2, .int .i64 s, .int .i64 c, .int .i64 T, .int .i64 M, .int .u8 x] 31 (0, 0))) ∧ U.heap.size ≤ w9.heap.size ∧ SB < w9.heap.size ∧ X2.heap.size < w9.heap.size ∧ SB < Zq ∧ X2.heap.size < Zq ∧ Zq < w9.heap.size ∧ U.heap.size ≤ Zq ∧ X3.heap.size ≤ Zq)
          · skip
            refine lane_start (ord := [0, 1, 2, 3, 4, 5, 6, 7, 8, 9, 10, 11, 12, 13]) (S := SW) rfl (by kernel_rfl) (by exact HS0.out) (fun _ => ?_)
            iterate 7 (refine lane_take (v := ?_) rfl (by kernel_rfl) (by kernel_rfl) (by rfl) ?_ (by exact HS0.out) ?_; rotate_left; (focus (intro w9 hSw; rw [hSW] at hSw; obtain ⟨z0, z1⟩ := hSw; obtain ⟨x0, x1, x2, x3, x4, x5⟩ := cells6 z0; (try go_simp); try (with_reducible rfl))); simp only [Act.put, List.setIfInBounds_toArray, List.set_cons_zero, List.set_cons_succ])
            refine lane_two (i := 7) (j := 11) (ordI := [8, 9, 10, 11, 12, 13]) (ordJ := [7, 8, 9, 10, 12, 13]) rfl rfl (by kernel_rfl) rfl (by rfl) (by rfl) (fun KK hKK => ?_) (fun KK hKK => ?_)
            · skip
              go_simp
              refine (trefund_as_live HAN.out HST.out (HF.out.num.back (by omega)) (HL3.out.drew (til_thing _ _ _)) (fun i hi => hN9 i hi) hkc (by omega)).mono ?_
              rintro e V9 ⟨rfl, hl, hk⟩
              have hsz : X3.heap.size ≤ V9.heap.size := hk.size
              have hb0 : ArrB V9 SB 29 36 (gT st) := H3_0.out.kept (hk.block SB (.inl rfl))
              have hb1 : V9.ownsRow U.heap.size 39 4 (Value.slice A9 st.es.length c9) st.es.length (ecl st.es) := own_kept H3_1.out (fun i hi => hk.block i (.inr (.inl hi)))
              have hb2 : V9.heap[X2.heap.size]? = some (.cells #[.int .u8 2, .int .i64 s, .int .i64 c, .int .i64 T, .int .i64 M, .int .u8 0] 31 (0, 0)) := (hk.block X2.heap.size (.inr (.inr rfl))).trans H3_2.out
              have HLv := Lib.hid hl
              have hS1 : SW V9 := by rw [hSW]; exact ⟨hb2, (World.cell?_of_block (w' := V9) (a := ⟨gg, oo + j * 6 + 5, none⟩) (by (try rw [ad_block]); exact (HLv.out.old).block _ gU)).trans HV.out⟩
              have HS1 := Lib.hid hS1
              refine hKK _ _ HS1.out (fun _ => ?_)
              clear hKK KK hS1 hl hk
              iterate 3 (refine lane_take (v := ?_) rfl (by kernel_rfl) (by kernel_rfl) (by rfl) ?_ (by exact HS1.out) ?_; rotate_left; (focus (intro w9 hSw; rw [hSW] at hSw; obtain ⟨z0, z1⟩ := hSw; obtain ⟨x0, x1, x2, x3, x4, x5⟩ := cells6 z0; (try go_simp); try (with_reducible rfl))); simp only [Act.put, List.setIfInBounds_toArray, List.set_cons_zero, List.set_cons_succ])
              refine lane_alone rfl (by kernel_rfl) (by rfl) (fun KK hKK => ?_)
              go_simp
              obtain ⟨VA, hVA⟩ : ∃ X, V9.alloc (.cells #[.int .u8 0, .int .i64 0, .int .i64 0, .int .i64 0, .int .i64 0, .int .u8 0] 31) = X := ⟨_, rfl⟩
              rw [hVA]
              have hK9 : ∀ i, i < V9.heap.size → VA.heap[i]? = V9.heap[i]? := fun i hi => by rw [← hVA]; exact alloc_block_old hi
              have HZ : Hid (VA.heap[V9.heap.size]? = some (.cells #[.int .u8 0, .int .i64 0, .int .i64 0, .int .i64 0, .int .i64 0, .int .u8 0] 31 (0, 0))) := by rw [← hVA]; exact alloc_block
              have HLx := HLv.out.alloc (til_thing _ _ _) (.cells #[.int .u8 0, .int .i64 0, .int .i64 0, .int .i64 0, .int .i64 0, .int .u8 0] 31)
              rw [hVA] at HLx
              have HLx := Lib.hid HLx
              have hzz : V9.heap.size < VA.heap.size := by rw [← hVA, World.size_alloc]; omega
              have hzl : X3.heap.size ≤ V9.heap.size := by omega
              have HC0 : Hid (ArrB VA SB 29 36 (gT st)) := hb0.kept (hK9 SB (by omega))
              have HC1 : Hid (VA.ownsRow U.heap.size 39 4 (Value.slice A9 st.es.length c9) st.es.length (ecl st.es)) := own_kept hb1 (fun i hi => hK9 i (hb1.lt i hi).2)
              have hrz1 : ∀ i, (Value.slice A9 st.es.length c9).ownBlock = some i → i ≠ V9.heap.size := fun i hi e => by have := (H3_1.out.lt i hi).2; omega
              have HC2 : Hid (VA.heap[X2.heap.size]? = some (.cells #[.int .u8 2, .int .i64 s, .int .i64 c, .int .i64 T, .int .i64 M, .int .u8 0] 31 (0, 0))) := (hK9 X2.heap.size (by omega)).trans hb2
              have hS2 : SW VA := by rw [hSW]; exact ⟨HC2.out, (World.cell?_of_block (w' := VA) (a := ⟨gg, oo + j * 6 + 5, none⟩) (by (try rw [ad_block]); exact (HLx.out.old).block _ gU)).trans HV.out⟩
              have HS2 := Lib.hid hS2
              refine hKK _ _ HS2.out (fun _ => ?_)
              clear hKK KK hS2
              clear hb0 hb1 hb2
              generalize hzn : V9.heap.size = ZZ at *
              refine lane_alone rfl (by kernel_rfl) (by rfl) (fun KK hKK => ?_)
              refine wp_store_row _ _ _ rfl ZZ _ rfl rfl _ _ HZ.out (by exact tnotice_info) rfl (by simp [Value.oneCell']) ?_
              rw [row_boxed HZ.out]
              obtain ⟨VB, hVB⟩ : ∃ X, boxed VA ZZ #[.int .u8 2, .int .i64 s, .int .i64 c, .int .i64 T, .int .i64 M, .int .u8 x] 31 = X := ⟨_, rfl⟩
              rw [hVB]
              have hzB : VB.heap.size = VA.heap.size := by rw [← hVB, boxed_size]
              have HD0 : Hid (ArrB VB SB 29 36 (gT st)) := by rw [← hVB]; exact HC0.out.kept (boxed_block_other (by omega))
              have HD1 : Hid (VB.ownsRow U.heap.size 39 4 (Value.slice A9 st.es.length c9) st.es.length (ecl st.es)) := by rw [← hVB]; exact own_kept HC1.out (fun i hi => boxed_block_other (hrz1 i hi))
              have HD2 : Hid (VB.heap[X2.heap.size]? = some (.cells #[.int .u8 2, .int .i64 s, .int .i64 c, .int .i64 T, .int .i64 M, .int .u8 0] 31 (0, 0))) := by rw [← hVB]; exact boxed_old (by omega) HC2.out
              have HLy := HLx.out.boxed (til_thing _ _ _) (g := ZZ) (cs := #[.int .u8 2, .int .i64 s, .int .i64 c, .int .i64 T, .int .i64 M, .int .u8 x]) (t := 31) (.inr rfl) (by omega)
              rw [hVB] at HLy
              have HLy := Lib.hid HLy
              have hS4 : SW VB := by rw [hSW]; exact ⟨HD2.out, (World.cell?_of_block (w' := VB) (a := ⟨gg, oo + j * 6 + 5, none⟩) (by (try rw [ad_block]); exact (HLy.out.old).block _ gU)).trans HV.out⟩
              have HS4 := Lib.hid hS4
              refine hKK _ _ (by exact HS4.out) (fun _ => ?_)
              clear hKK KK hS4
              iterate 1 (refine lane_take (v := ?_) rfl (by kernel_rfl) (by kernel_rfl) (by rfl) ?_ (by exact HS4.out) ?_; rotate_left; (focus (intro w9 hSw; rw [hSW] at hSw; obtain ⟨z0, z1⟩ := hSw; obtain ⟨x0, x1, x2, x3, x4, x5⟩ := cells6 z0; (try go_simp); try (with_reducible rfl))); simp only [Act.put, List.setIfInBounds_toArray, List.set_cons_zero, List.set_cons_succ])
              refine lane_end (by kernel_rfl) ?_
              refine ⟨rfl, ZZ, rfl, (HLy.out.less (fun i hi => by rcases hi with h0 | h1 | h2 | h3; exact .inl (.inl h0); exact .inl (.inr (.inl h1)); exact .inl (.inr (.inr h2)); exact .inr h3)), HD0.out, HD1.out, HD2.out, (by rw [← hVB]; exact boxed_at hzz), by omega, by omega, by omega, by omega, by omega, by omega, by omega, by omega⟩
            · skip
              go_simp
              have hK9 : ∀ i, i < X3.heap.size → ((X3.alloc (.cells #[.int .u8 0, .int .i64 0, .int .i64 0, .int .i64 0, .int .i64 0, .int .u8 0] 31)).drew).heap[i]? = X3.heap[i]? := fun i hi => alloc_block_old (w := X3) hi
              have hd0 : ArrB ((X3.alloc (.cells #[.int .u8 0, .int .i64 0, .int .i64 0, .int .i64 0, .int .i64 0, .int .u8 0] 31)).drew) SB 29 36 (gT st) := H3_0.out.kept (hK9 SB (by omega))
              have hd1 : ((X3.alloc (.cells #[.int .u8 0, .int .i64 0, .int .i64 0, .int .i64 0, .int .i64 0, .int .u8 0] 31)).drew).ownsRow U.heap.size 39 4 (Value.slice A9 st.es.length c9) st.es.length (ecl st.es) := own_kept H3_1.out (fun i hi => hK9 i (H3_1.out.lt i hi).2)
              have hd2 : ((X3.alloc (.cells #[.int .u8 0, .int .i64 0, .int .i64 0, .int .i64 0, .int .i64 0, .int .u8 0] 31)).drew).heap[X2.heap.size]? = some (.cells #[.int .u8 2, .int .i64 s, .int .i64 c, .int .i64 T, .int .i64 M, .int .u8 0] 31 (0, 0)) := (hK9 X2.heap.size (by omega)).trans H3_2.out
              have hS2 : SW ((X3.alloc (.cells #[.int .u8 0, .int .i64 0, .int .i64 0, .int .i64 0, .int .i64 0, .int .u8 0] 31)).drew) := by rw [hSW]; exact ⟨hd2, (World.cell?_of_block (w' := ((X3.alloc (.cells #[.int .u8 0, .int .i64 0, .int .i64 0, .int .i64 0, .int .i64 0, .int .u8 0] 31)).drew)) (a := ⟨gg, oo + j * 6 + 5, none⟩) (by (try rw [ad_block]); exact ((HL3.out.old.alloc HL3.out.old.size (.cells #[.int .u8 0, .int .i64 0, .int .i64 0, .int .i64 0, .int .i64 0, .int .u8 0] 31))).block _ gU)).trans HV.out⟩
              have HS2 := Lib.hid hS2
              refine hKK _ _ HS2.out (fun _ => ?_)
              clear hKK KK hS2
              refine lane_alone rfl (by kernel_rfl) (by rfl) (fun KK hKK => ?_)
              go_simp
              refine (trefund_as_live HAN.out HST.out (HF.out.num.back (by omega)) ((HL3.out.alloc (til_thing _ _ _) (.cells #[.int .u8 0, .int .i64 0, .int .i64 0, .int .i64 0, .int .i64 0, .int .u8 0] 31)).drew (til_thing _ _ _)) (fun i hi => by show i < (X3.alloc (.cells #[.int .u8 0, .int .i64 0, .int .i64 0, .int .i64 0, .int .i64 0, .int .u8 0] 31)).heap.size; rw [World.size_alloc]; rcases hi with hi | hi; exact Nat.lt_succ_of_lt (hN9 i hi); omega) hkc (by omega)).mono ?_
              rintro e V9 ⟨rfl, hl, hk0⟩
              have hk : KeptO U (fun (i : Nat) => i = SB ∨ (Value.slice A9 st.es.length c9).ownBlock = some i ∨ i = X2.heap.size) ((X3.alloc (.cells #[.int .u8 0, .int .i64 0, .int .i64 0, .int .i64 0, .int .i64 0, .int .u8 0] 31)).drew) V9 := ⟨hk0.size, fun i hi => hk0.block i (.inl hi), hk0.old⟩
              have hsz : (X3.alloc (.cells #[.int .u8 0, .int .i64 0, .int .i64 0, .int .i64 0, .int .i64 0, .int .u8 0] 31)).heap.size ≤ V9.heap.size := hk.size
              rw [World.size_alloc] at hsz
              have hb0 : ArrB V9 SB 29 36 (gT st) := hd0.kept (hk.block SB (.inl rfl))
              have hb1 : V9.ownsRow U.heap.size 39 4 (Value.slice A9 st.es.length c9) st.es.length (ecl st.es) := own_kept hd1 (fun i hi => hk.block i (.inr (.inl hi)))
              have hb2 : V9.heap[X2.heap.size]? = some (.cells #[.int .u8 2, .int .i64 s, .int .i64 c, .int .i64 T, .int .i64 M, .int .u8 0] 31 (0, 0)) := (hk.block X2.heap.size (.inr (.inr rfl))).trans hd2
              have HZ : Hid (V9.heap[X3.heap.size]? = some (.cells #[.int .u8 0, .int .i64 0, .int .i64 0, .int .i64 0, .int .i64 0, .int .u8 0] 31 (0, 0))) := (hk0.block _ (.inr rfl)).trans (show (X3.alloc (.cells #[.int .u8 0, .int .i64 0, .int .i64 0, .int .i64 0, .int .i64 0, .int .u8 0] 31)).heap[_]? = _ from alloc_block)
              have HLx := Lib.hid hl
              have hS3 : SW V9 := by rw [hSW]; exact ⟨hb2, (World.cell?_of_block (w' := V9) (a := ⟨gg, oo + j * 6 + 5, none⟩) (by (try rw [ad_block]); exact (HLx.out.old).block _ gU)).trans HV.out⟩
              have HS2 := Lib.hid hS3
              refine hKK _ _ HS2.out (fun _ => ?_)
              clear hKK KK hS3 hl hk hk0
              iterate 3 (refine lane_take (v := ?_) rfl (by kernel_rfl) (by kernel_rfl) (by rfl) ?_ (by exact HS2.out) ?_; rotate_left; (focus (intro w9 hSw; rw [hSW] at hSw; obtain ⟨z0, z1⟩ := hSw; obtain ⟨x0, x1, x2, x3, x4, x5⟩ := cells6 z0; (try go_simp); try (with_reducible rfl))); simp only [Act.put, List.setIfInBounds_toArray, List.set_cons_zero, List.set_cons_succ])
              have hzz : X3.heap.size < V9.heap.size := by omega
              have hzl : X3.heap.size ≤ X3.heap.size := by omega
              have HC0 : Hid (ArrB V9 SB 29 36 (gT st)) := hb0
              have HC1 : Hid (V9.ownsRow U.heap.size 39 4 (Value.slice A9 st.es.length c9) st.es.length (ecl st.es)) := hb1
              have hrz1 : ∀ i, (Value.slice A9 st.es.length c9).ownBlock = some i → i ≠ X3.heap.size := fun i hi e => by have := (H3_1.out.lt i hi).2; omega
              have HC2 : Hid (V9.heap[X2.heap.size]? = some (.cells #[.int .u8 2, .int .i64 s, .int .i64 c, .int .i64 T, .int .i64 M, .int .u8 0] 31 (0, 0))) := hb2
              clear hb0 hb1 hb2
              generalize hzn : X3.heap.size = ZZ at *
              refine lane_alone rfl (by kernel_rfl) (by rfl) (fun KK hKK => ?_)
              refine wp_store_row _ _ _ rfl ZZ _ rfl rfl _ _ HZ.out (by exact tnotice_info) rfl (by simp [Value.oneCell']) ?_
              rw [row_boxed HZ.out]
              obtain ⟨VB, hVB⟩ : ∃ X, boxed V9 ZZ #[.int .u8 2, .int .i64 s, .int .i64 c, .int .i64 T, .int .i64 M, .int .u8 x] 31 = X := ⟨_, rfl⟩
              rw [hVB]
              have hzB : VB.heap.size = V9.heap.size := by rw [← hVB, boxed_size]
              have HD0 : Hid (ArrB VB SB 29 36 (gT st)) := by rw [← hVB]; exact HC0.out.kept (boxed_block_other (by omega))
              have HD1 : Hid (VB.ownsRow U.heap.size 39 4 (Value.slice A9 st.es.length c9) st.es.length (ecl st.es)) := by rw [← hVB]; exact own_kept HC1.out (fun i hi => boxed_block_other (hrz1 i hi))
              have HD2 : Hid (VB.heap[X2.heap.size]? = some (.cells #[.int .u8 2, .int .i64 s, .int .i64 c, .int .i64 T, .int .i64 M, .int .u8 0] 31 (0, 0))) := by rw [← hVB]; exact boxed_old (by omega) HC2.out
              have HLy := HLx.out.boxed (til_thing _ _ _) (g := ZZ) (cs := #[.int .u8 2, .int .i64 s, .int .i64 c, .int .i64 T, .int .i64 M, .int .u8 x]) (t := 31) (.inr rfl) (by omega)
              rw [hVB] at HLy
              have HLy := Lib.hid HLy
              have hS4 : SW VB := by rw [hSW]; exact ⟨HD2.out, (World.cell?_of_block (w' := VB) (a := ⟨gg, oo + j * 6 + 5, none⟩) (by (try rw [ad_block]); exact (HLy.out.old).block _ gU)).trans HV.out⟩
              have HS4 := Lib.hid hS4
              refine hKK _ _ (by exact HS4.out) (fun _ => ?_)
              clear hKK KK hS4
              iterate 1 (refine lane_take (v := ?_) rfl (by kernel_rfl) (by kernel_rfl) (by rfl) ?_ (by exact HS4.out) ?_; rotate_left; (focus (intro w9 hSw; rw [hSW] at hSw; obtain ⟨z0, z1⟩ := hSw; obtain ⟨x0, x1, x2, x3, x4, x5⟩ := cells6 z0; (try go_simp); try (with_reducible rfl))); simp only [Act.put, List.setIfInBounds_toArray, List.set_cons_zero, List.set_cons_succ])
              refine lane_end (by kernel_rfl) ?_
              refine ⟨rfl, ZZ, rfl, (HLy.out.less (fun i hi => by rcases hi with h0 | h1 | h2 | h3; exact .inl (.inl h0); exact .inl (.inr (.inl h1)); exact .inl (.inr (.inr h2)); exact .inr h3)), HD0.out, HD1.out, HD2.out, (by rw [← hVB]; exact boxed_at hzz), by omega, by omega, by omega, by omega, by omega, by omega, by omega, by omega⟩
          rintro Zh X4 ⟨HL4, H4_0, H4_1, H4_2, HZ9, ls4, lc9_0, lc9_1, ld9_0, ld9_1, le9, lf9, lt4⟩
          have H4_3 := HZ9
          clear HZ9
          obtain ⟨c2_0, c2_1, c2_2, c2_3, c2_4, c2_5⟩ := cells6 H4_2.out
          go_wp2_with (fail)
          have z0 : X4.cell? ⟨SB, s * 12 + c * 4, none⟩ = some (.int .u8 x) := by rw [H4_0.out.cell (by omega), gT_rf c3, HSD.out]; rfl
          go_quiet (fail)
          have hK : ∀ i, i < X4.heap.size → (X4.drewN nq).heap[i]? = X4.heap[i]? := fun i hi => rfl
          obtain ⟨X5, hXe⟩ : ∃ X, (X4.drewN nq) = X := ⟨_, rfl⟩
          rw [hXe] at hK
          have hz9 : X5.heap.size = X4.heap.size := by rw [← hXe]; rfl
          have H5_0 : Hid (ArrB X5 SB 29 36 (gT st)) := H4_0.out.kept (hK SB (by omega))
          have H5_1 : Hid (X5.ownsRow U.heap.size 39 4 (Value.slice A9 st.es.length c9) st.es.length (ecl st.es)) := own_kept H4_1.out (fun i hi => hK i (H4_1.out.lt i hi).2)
          have H5_2 : Hid (X5.heap[X2.heap.size]? = some (.cells #[.int .u8 2, .int .i64 s, .int .i64 c, .int .i64 T, .int .i64 M, .int .u8 0] 31 (0, 0))) := (hK X2.heap.size (by omega)).trans H4_2.out
          have H5_3 : Hid (X5.heap[Zh]? = some (.cells #[.int .u8 2, .int .i64 s, .int .i64 c, .int .i64 T, .int .i64 M, .int .u8 x] 31 (0, 0))) := (hK Zh (by omega)).trans H4_3.out
          have HL5 : Hid (LiveO (TilB (U.heap.size + 4) st (4 * j + 4)) U (fun (i : Nat) => i = SB ∨ (Value.slice A9 st.es.length c9).ownBlock = some i ∨ i = X2.heap.size ∨ i = Zh) X5) := by rw [← hXe]; exact HL4.out.below (til_thing _ _ _) (Below.drewN' (Below.refl _ _) _)
          have : SB < X5.heap.size := by omega
          have : X2.heap.size < X5.heap.size := by omega
          have : Zh < X5.heap.size := by omega
          have ls5 : U.heap.size ≤ X5.heap.size := by omega
          have lt5 : X4.heap.size ≤ X5.heap.size := by omega
          clear hK HL4 H4_0 H4_1 H4_2 H4_3 c2_0 c2_1 c2_2 c2_3 c2_4 c2_5 z0
          rw [hXe]
          clear hXe hz9
          obtain ⟨c2_0, c2_1, c2_2, c2_3, c2_4, c2_5⟩ := cells6 H5_2.out
          obtain ⟨c3_0, c3_1, c3_2, c3_3, c3_4, c3_5⟩ := cells6 H5_3.out
          go_wp2
          have hK : ∀ i, i < X5.heap.size → (X5.alloc (.cells #[.int .u8 2, .int .i64 s, .int .i64 c, .int .i64 T, .int .i64 M, .int .u8 x] 31)).heap[i]? = X5.heap[i]? := fun i hi => alloc_block_old hi
          obtain ⟨X6, hXe⟩ : ∃ X, (X5.alloc (.cells #[.int .u8 2, .int .i64 s, .int .i64 c, .int .i64 T, .int .i64 M, .int .u8 x] 31)) = X := ⟨_, rfl⟩
          rw [hXe] at hK
          have hz9 : X6.heap.size = X5.heap.size + 1 := by rw [← hXe]; simp
          have H6_0 : Hid (ArrB X6 SB 29 36 (gT st)) := H5_0.out.kept (hK SB (by omega))
          have H6_1 : Hid (X6.ownsRow U.heap.size 39 4 (Value.slice A9 st.es.length c9) st.es.length (ecl st.es)) := own_kept H5_1.out (fun i hi => hK i (H5_1.out.lt i hi).2)
          have H6_2 : Hid (X6.heap[X2.heap.size]? = some (.cells #[.int .u8 2, .int .i64 s, .int .i64 c, .int .i64 T, .int .i64 M, .int .u8 0] 31 (0, 0))) := (hK X2.heap.size (by omega)).trans H5_2.out
          have H6_3 : Hid (X6.heap[Zh]? = some (.cells #[.int .u8 2, .int .i64 s, .int .i64 c, .int .i64 T, .int .i64 M, .int .u8 x] 31 (0, 0))) := (hK Zh (by omega)).trans H5_3.out
          have H6_4 : Hid (X6.heap[X5.heap.size]? = some (.cells #[.int .u8 2, .int .i64 s, .int .i64 c, .int .i64 T, .int .i64 M, .int .u8 x] 31 (0, 0))) := by rw [← hXe]; exact alloc_at (by omega)
          have HL6 : Hid (LiveO (TilB (U.heap.size + 4) st (4 * j + 4)) U (fun (i : Nat) => i = SB ∨ (Value.slice A9 st.es.length c9).ownBlock = some i ∨ i = X2.heap.size ∨ i = Zh ∨ i = X5.heap.size) X6) := by rw [← hXe]; exact (HL5.out.alloc (til_thing _ _ _) (.cells #[.int .u8 2, .int .i64 s, .int .i64 c, .int .i64 T, .int .i64 M, .int .u8 x] 31)).less (N' := (fun (i : Nat) => i = SB ∨ (Value.slice A9 st.es.length c9).ownBlock = some i ∨ i = X2.heap.size ∨ i = Zh ∨ i = X5.heap.size)) (fun i hi => by rcases hi with h0 | h1 | h2 | h3 | h4; exact .inl (.inl h0); exact .inl (.inr (.inl h1)); exact .inl (.inr (.inr (.inl h2))); exact .inl (.inr (.inr (.inr h3))); exact .inr (by omega))
          have : SB < X6.heap.size := by omega
          have : X2.heap.size < X6.heap.size := by omega
          have : Zh < X6.heap.size := by omega
          have ls6 : U.heap.size ≤ X6.heap.size := by omega
          have lt6 : X5.heap.size ≤ X6.heap.size := by omega
          have : X5.heap.size < X6.heap.size := by omega
          have lg6 : X6.heap.size ≤ X5.heap.size + 1 ∧ X5.heap.size + 1 ≤ X6.heap.size := by omega
          have : SB < X5.heap.size := by omega
          have : X2.heap.size < X5.heap.size := by omega
          have : Zh < X5.heap.size := by omega
          clear hK HL5 H5_0 H5_1 H5_2 H5_3 c2_0 c2_1 c2_2 c2_3 c2_4 c2_5 c3_0 c3_1 c3_2 c3_3 c3_4 c3_5
          rw [hXe]
          clear hXe hz9
          go_roundw
          case rel => exact ⟨j + 1, st, A9, c9, by omega, by go_num, rfl, HF.out.up, by omega, (HL6.out.less (fun i hi => by rcases hi with rfl | hi; exact .inl rfl; exact .inr (.inl (by first | exact hi | (rw [HT] at hi; exact hi))))).imp (fun F hF => hF.mono (by omega)), H6_0, H6_1⟩
          case measure => simp [intOf]; omega
        | none =>
          obtain ⟨am, ham⟩ : ∃ x, x = (st.tk ((s : Int), (c : Int))).getD 0 := ⟨_, rfl⟩
          have hamz := HF.out.num.tk ((s : Int), (c : Int))
          rw [← ham] at hamz
          have HAM := Lib.hid ham
          clear ham
          have HSD := Lib.hid hsd
          clear hsd
          by_cases h0 : am = 0
          · skip
            as_aux_lemma =>
            have HA0 : Hid ((st.tk ((s : Int), (c : Int))).getD 0 = 0) := HAM.out.symm.trans h0
            have ha : st.refundA s c = 3 := by unfold Til.refundA; rw [HSD.out, if_pos HA0.out]; rfl
            subst h0
            have HAN := Lib.hid ha
            clear ha
            obtain ⟨c2_0, c2_1, c2_2, c2_3, c2_4, c2_5⟩ := cells6 H3_2.out
            obtain ⟨SW, hSW⟩ : ∃ S : World → Prop, S = (fun w' : World => w'.heap[X2.heap.size]? = some (.cells #[.int .u8 2, .int .i64 s, .int .i64 c, .int .i64 T, .int .i64 M, .int .u8 0] 31 (0, 0)) ∧ w'.cell? (⟨gg, oo + j * 6 + 5, none⟩) = some (.int .u8 v)) := ⟨_, rfl⟩
            have HS0 : Hid (SW X3.drew) := by rw [hSW]; exact ⟨H3_2.out, (World.cell?_of_block (w' := X3.drew) (a := ⟨gg, oo + j * 6 + 5, none⟩) (by (try rw [ad_block]); exact (HL3.out.old).block _ gU)).trans HV.out⟩
            have hN9 : ∀ i, (fun (i : Nat) => i = SB ∨ (Value.slice A9 st.es.length c9).ownBlock = some i ∨ i = X2.heap.size) i → i < X3.heap.size := (fun i hx0 => (hx0.elim (fun (hi : i = SB) => by omega) (fun hx1 => (hx1.elim (fun (hi : _) => (H3_1.out.lt i hi).2) (fun hx2 => ((fun (hi : i = X2.heap.size) => by omega) hx2))))))
            apply region_frame1 (fun Zq w9 => Hid (LiveO (TilB (U.heap.size + 4) (st.refund s c) (4 * j + 4)) U (fun (i : Nat) => i = SB ∨ (Value.slice A9 st.es.length c9).ownBlock = some i ∨ i = X2.heap.size ∨ i = Zq) w9) ∧ Hid (ArrB w9 SB 29 36 (gT st)) ∧ Hid (w9.ownsRow U.heap.size 39 4 (Value.slice A9 st.es.length c9) st.es.length (ecl st.es)) ∧ Hid (w9.heap[X2.heap.size]? = some (.cells #[.int .u8 2, .int .i64 s, .int .i64 c, .int .i64 T, .int .i64 M, .int .u8 0] 31 (0, 0))) ∧ Hid (w9.heap[Zq]? = some (.cells #[.int .u8 2, .int .i64 s, .int .i64 c, .int .i64 T, .int .i64 M, .int .u8 3] 31 (0, 0))) ∧ U.heap.size ≤ w9.heap.size ∧ SB < w9.heap.size ∧ X2.heap.size < w9.heap.size ∧ SB < Zq ∧ X2.heap.size < Zq ∧ Zq < w9.heap.size ∧ U.heap.size ≤ Zq ∧ X3.heap.size ≤ Zq)
            · skip
              refine lane_start (ord := [0, 1, 2, 3, 4, 5, 6, 7, 8, 9, 10, 11, 12, 13]) (S := SW) rfl (by kernel_rfl) (by exact HS0.out) (fun _ => ?_)
              iterate 7 (refine lane_take (v := ?_) rfl (by kernel_rfl) (by kernel_rfl) (by rfl) ?_ (by exact HS0.out) ?_; rotate_left; (focus (intro w9 hSw; rw [hSW] at hSw; obtain ⟨z0, z1⟩ := hSw; obtain ⟨x0, x1, x2, x3, x4, x5⟩ := cells6 z0; (try go_simp); try (with_reducible rfl))); simp only [Act.put, List.setIfInBounds_toArray, List.set_cons_zero, List.set_cons_succ])
              refine lane_two (i := 7) (j := 11) (ordI := [8, 9, 10, 11, 12, 13]) (ordJ := [7, 8, 9, 10, 12, 13]) rfl rfl (by kernel_rfl) rfl (by rfl) (by rfl) (fun KK hKK => ?_) (fun KK hKK => ?_)
              · skip
                go_simp
                refine (trefund_as_live HAN.out rfl (HF.out.num.back (by omega)) (HL3.out.drew (til_thing _ _ _)) (fun i hi => hN9 i hi) hkc (by omega)).mono ?_
                rintro e V9 ⟨rfl, hl, hk⟩
                have hsz : X3.heap.size ≤ V9.heap.size := hk.size
                have hb0 : ArrB V9 SB 29 36 (gT st) := H3_0.out.kept (hk.block SB (.inl rfl))
                have hb1 : V9.ownsRow U.heap.size 39 4 (Value.slice A9 st.es.length c9) st.es.length (ecl st.es) := own_kept H3_1.out (fun i hi => hk.block i (.inr (.inl hi)))
                have hb2 : V9.heap[X2.heap.size]? = some (.cells #[.int .u8 2, .int .i64 s, .int .i64 c, .int .i64 T, .int .i64 M, .int .u8 0] 31 (0, 0)) := (hk.block X2.heap.size (.inr (.inr rfl))).trans H3_2.out
                have HLv := Lib.hid hl
                have hS1 : SW V9 := by rw [hSW]; exact ⟨hb2, (World.cell?_of_block (w' := V9) (a := ⟨gg, oo + j * 6 + 5, none⟩) (by (try rw [ad_block]); exact (HLv.out.old).block _ gU)).trans HV.out⟩
                have HS1 := Lib.hid hS1
                refine hKK _ _ HS1.out (fun _ => ?_)
                clear hKK KK hS1 hl hk
                iterate 3 (refine lane_take (v := ?_) rfl (by kernel_rfl) (by kernel_rfl) (by rfl) ?_ (by exact HS1.out) ?_; rotate_left; (focus (intro w9 hSw; rw [hSW] at hSw; obtain ⟨z0, z1⟩ := hSw; obtain ⟨x0, x1, x2, x3, x4, x5⟩ := cells6 z0; (try go_simp); try (with_reducible rfl))); simp only [Act.put, List.setIfInBounds_toArray, List.set_cons_zero, List.set_cons_succ])
                refine lane_alone rfl (by kernel_rfl) (by rfl) (fun KK hKK => ?_)
                go_simp
                obtain ⟨VA, hVA⟩ : ∃ X, V9.alloc (.cells #[.int .u8 0, .int .i64 0, .int .i64 0, .int .i64 0, .int .i64 0, .int .u8 0] 31) = X := ⟨_, rfl⟩
                rw [hVA]
                have hK9 : ∀ i, i < V9.heap.size → VA.heap[i]? = V9.heap[i]? := fun i hi => by rw [← hVA]; exact alloc_block_old hi
                have HZ : Hid (VA.heap[V9.heap.size]? = some (.cells #[.int .u8 0, .int .i64 0, .int .i64 0, .int .i64 0, .int .i64 0, .int .u8 0] 31 (0, 0))) := by rw [← hVA]; exact alloc_block
                have HLx := HLv.out.alloc (til_thing _ _ _) (.cells #[.int .u8 0, .int .i64 0, .int .i64 0, .int .i64 0, .int .i64 0, .int .u8 0] 31)
                rw [hVA] at HLx
                have HLx := Lib.hid HLx
                have hzz : V9.heap.size < VA.heap.size := by rw [← hVA, World.size_alloc]; omega
                have hzl : X3.heap.size ≤ V9.heap.size := by omega
                have HC0 : Hid (ArrB VA SB 29 36 (gT st)) := hb0.kept (hK9 SB (by omega))
                have HC1 : Hid (VA.ownsRow U.heap.size 39 4 (Value.slice A9 st.es.length c9) st.es.length (ecl st.es)) := own_kept hb1 (fun i hi => hK9 i (hb1.lt i hi).2)
                have hrz1 : ∀ i, (Value.slice A9 st.es.length c9).ownBlock = some i → i ≠ V9.heap.size := fun i hi e => by have := (H3_1.out.lt i hi).2; omega
                have HC2 : Hid (VA.heap[X2.heap.size]? = some (.cells #[.int .u8 2, .int .i64 s, .int .i64 c, .int .i64 T, .int .i64 M, .int .u8 0] 31 (0, 0))) := (hK9 X2.heap.size (by omega)).trans hb2
                have hS2 : SW VA := by rw [hSW]; exact ⟨HC2.out, (World.cell?_of_block (w' := VA) (a := ⟨gg, oo + j * 6 + 5, none⟩) (by (try rw [ad_block]); exact (HLx.out.old).block _ gU)).trans HV.out⟩
                have HS2 := Lib.hid hS2
                refine hKK _ _ HS2.out (fun _ => ?_)
                clear hKK KK hS2
                clear hb0 hb1 hb2
                generalize hzn : V9.heap.size = ZZ at *
                refine lane_alone rfl (by kernel_rfl) (by rfl) (fun KK hKK => ?_)
                refine wp_store_row _ _ _ rfl ZZ _ rfl rfl _ _ HZ.out (by exact tnotice_info) rfl (by simp [Value.oneCell']) ?_
                rw [row_boxed HZ.out]
                obtain ⟨VB, hVB⟩ : ∃ X, boxed VA ZZ #[.int .u8 2, .int .i64 s, .int .i64 c, .int .i64 T, .int .i64 M, .int .u8 3] 31 = X := ⟨_, rfl⟩
                rw [hVB]
                have hzB : VB.heap.size = VA.heap.size := by rw [← hVB, boxed_size]
                have HD0 : Hid (ArrB VB SB 29 36 (gT st)) := by rw [← hVB]; exact HC0.out.kept (boxed_block_other (by omega))
                have HD1 : Hid (VB.ownsRow U.heap.size 39 4 (Value.slice A9 st.es.length c9) st.es.length (ecl st.es)) := by rw [← hVB]; exact own_kept HC1.out (fun i hi => boxed_block_other (hrz1 i hi))
                have HD2 : Hid (VB.heap[X2.heap.size]? = some (.cells #[.int .u8 2, .int .i64 s, .int .i64 c, .int .i64 T, .int .i64 M, .int .u8 0] 31 (0, 0))) := by rw [← hVB]; exact boxed_old (by omega) HC2.out
                have HLy := HLx.out.boxed (til_thing _ _ _) (g := ZZ) (cs := #[.int .u8 2, .int .i64 s, .int .i64 c, .int .i64 T, .int .i64 M, .int .u8 3]) (t := 31) (.inr rfl) (by omega)
                rw [hVB] at HLy
                have HLy := Lib.hid HLy
                have hS4 : SW VB := by rw [hSW]; exact ⟨HD2.out, (World.cell?_of_block (w' := VB) (a := ⟨gg, oo + j * 6 + 5, none⟩) (by (try rw [ad_block]); exact (HLy.out.old).block _ gU)).trans HV.out⟩
                have HS4 := Lib.hid hS4
                refine hKK _ _ (by exact HS4.out) (fun _ => ?_)
                clear hKK KK hS4
                iterate 1 (refine lane_take (v := ?_) rfl (by kernel_rfl) (by kernel_rfl) (by rfl) ?_ (by exact HS4.out) ?_; rotate_left; (focus (intro w9 hSw; rw [hSW] at hSw; obtain ⟨z0, z1⟩ := hSw; obtain ⟨x0, x1, x2, x3, x4, x5⟩ := cells6 z0; (try go_simp); try (with_reducible rfl))); simp only [Act.put, List.setIfInBounds_toArray, List.set_cons_zero, List.set_cons_succ])
                refine lane_end (by kernel_rfl) ?_
                refine ⟨rfl, ZZ, rfl, (HLy.out.less (fun i hi => by rcases hi with h0 | h1 | h2 | h3; exact .inl (.inl h0); exact .inl (.inr (.inl h1)); exact .inl (.inr (.inr h2)); exact .inr h3)), HD0.out, HD1.out, HD2.out, (by rw [← hVB]; exact boxed_at hzz), by omega, by omega, by omega, by omega, by omega, by omega, by omega, by omega⟩
              · skip
                go_simp
                have hK9 : ∀ i, i < X3.heap.size → ((X3.alloc (.cells #[.int .u8 0, .int .i64 0, .int .i64 0, .int .i64 0, .int .i64 0, .int .u8 0] 31)).drew).heap[i]? = X3.heap[i]? := fun i hi => alloc_block_old (w := X3) hi
                have hd0 : ArrB ((X3.alloc (.cells #[.int .u8 0, .int .i64 0, .int .i64 0, .int .i64 0, .int .i64 0, .int .u8 0] 31)).drew) SB 29 36 (gT st) := H3_0.out.kept (hK9 SB (by omega))
                have hd1 : ((X3.alloc (.cells #[.int .u8 0, .int .i64 0, .int .i64 0, .int .i64 0, .int .i64 0, .int .u8 0] 31)).drew).ownsRow U.heap.size 39 4 (Value.slice A9 st.es.length c9) st.es.length (ecl st.es) := own_kept H3_1.out (fun i hi => hK9 i (H3_1.out.lt i hi).2)
                have hd2 : ((X3.alloc (.cells #[.int .u8 0, .int .i64 0, .int .i64 0, .int .i64 0, .int .i64 0, .int .u8 0] 31)).drew).heap[X2.heap.size]? = some (.cells #[.int .u8 2, .int .i64 s, .int .i64 c, .int .i64 T, .int .i64 M, .int .u8 0] 31 (0, 0)) := (hK9 X2.heap.size (by omega)).trans H3_2.out
                have hS2 : SW ((X3.alloc (.cells #[.int .u8 0, .int .i64 0, .int .i64 0, .int .i64 0, .int .i64 0, .int .u8 0] 31)).drew) := by rw [hSW]; exact ⟨hd2, (World.cell?_of_block (w' := ((X3.alloc (.cells #[.int .u8 0, .int .i64 0, .int .i64 0, .int .i64 0, .int .i64 0, .int .u8 0] 31)).drew)) (a := ⟨gg, oo + j * 6 + 5, none⟩) (by (try rw [ad_block]); exact ((HL3.out.old.alloc HL3.out.old.size (.cells #[.int .u8 0, .int .i64 0, .int .i64 0, .int .i64 0, .int .i64 0, .int .u8 0] 31))).block _ gU)).trans HV.out⟩
                have HS2 := Lib.hid hS2
                refine hKK _ _ HS2.out (fun _ => ?_)
                clear hKK KK hS2
                refine lane_alone rfl (by kernel_rfl) (by rfl) (fun KK hKK => ?_)
                go_simp
                refine (trefund_as_live HAN.out rfl (HF.out.num.back (by omega)) ((HL3.out.alloc (til_thing _ _ _) (.cells #[.int .u8 0, .int .i64 0, .int .i64 0, .int .i64 0, .int .i64 0, .int .u8 0] 31)).drew (til_thing _ _ _)) (fun i hi => by show i < (X3.alloc (.cells #[.int .u8 0, .int .i64 0, .int .i64 0, .int .i64 0, .int .i64 0, .int .u8 0] 31)).heap.size; rw [World.size_alloc]; rcases hi with hi | hi; exact Nat.lt_succ_of_lt (hN9 i hi); omega) hkc (by omega)).mono ?_
                rintro e V9 ⟨rfl, hl, hk0⟩
                have hk : KeptO U (fun (i : Nat) => i = SB ∨ (Value.slice A9 st.es.length c9).ownBlock = some i ∨ i = X2.heap.size) ((X3.alloc (.cells #[.int .u8 0, .int .i64 0, .int .i64 0, .int .i64 0, .int .i64 0, .int .u8 0] 31)).drew) V9 := ⟨hk0.size, fun i hi => hk0.block i (.inl hi), hk0.old⟩
                have hsz : (X3.alloc (.cells #[.int .u8 0, .int .i64 0, .int .i64 0, .int .i64 0, .int .i64 0, .int .u8 0] 31)).heap.size ≤ V9.heap.size := hk.size
                rw [World.size_alloc] at hsz
                have hb0 : ArrB V9 SB 29 36 (gT st) := hd0.kept (hk.block SB (.inl rfl))
                have hb1 : V9.ownsRow U.heap.size 39 4 (Value.slice A9 st.es.length c9) st.es.length (ecl st.es) := own_kept hd1 (fun i hi => hk.block i (.inr (.inl hi)))
                have hb2 : V9.heap[X2.heap.size]? = some (.cells #[.int .u8 2, .int .i64 s, .int .i64 c, .int .i64 T, .int .i64 M, .int .u8 0] 31 (0, 0)) := (hk.block X2.heap.size (.inr (.inr rfl))).trans hd2
                have HZ : Hid (V9.heap[X3.heap.size]? = some (.cells #[.int .u8 0, .int .i64 0, .int .i64 0, .int .i64 0, .int .i64 0, .int .u8 0] 31 (0, 0))) := (hk0.block _ (.inr rfl)).trans (show (X3.alloc (.cells #[.int .u8 0, .int .i64 0, .int .i64 0, .int .i64 0, .int .i64 0, .int .u8 0] 31)).heap[_]? = _ from alloc_block)
                have HLx := Lib.hid hl
                have hS3 : SW V9 := by rw [hSW]; exact ⟨hb2, (World.cell?_of_block (w' := V9) (a := ⟨gg, oo + j * 6 + 5, none⟩) (by (try rw [ad_block]); exact (HLx.out.old).block _ gU)).trans HV.out⟩
                have HS2 := Lib.hid hS3
                refine hKK _ _ HS2.out (fun _ => ?_)
                clear hKK KK hS3 hl hk hk0
                iterate 3 (refine lane_take (v := ?_) rfl (by kernel_rfl) (by kernel_rfl) (by rfl) ?_ (by exact HS2.out) ?_; rotate_left; (focus (intro w9 hSw; rw [hSW] at hSw; obtain ⟨z0, z1⟩ := hSw; obtain ⟨x0, x1, x2, x3, x4, x5⟩ := cells6 z0; (try go_simp); try (with_reducible rfl))); simp only [Act.put, List.setIfInBounds_toArray, List.set_cons_zero, List.set_cons_succ])
                have hzz : X3.heap.size < V9.heap.size := by omega
                have hzl : X3.heap.size ≤ X3.heap.size := by omega
                have HC0 : Hid (ArrB V9 SB 29 36 (gT st)) := hb0
                have HC1 : Hid (V9.ownsRow U.heap.size 39 4 (Value.slice A9 st.es.length c9) st.es.length (ecl st.es)) := hb1
                have hrz1 : ∀ i, (Value.slice A9 st.es.length c9).ownBlock = some i → i ≠ X3.heap.size := fun i hi e => by have := (H3_1.out.lt i hi).2; omega
                have HC2 : Hid (V9.heap[X2.heap.size]? = some (.cells #[.int .u8 2, .int .i64 s, .int .i64 c, .int .i64 T, .int .i64 M, .int .u8 0] 31 (0, 0))) := hb2
                clear hb0 hb1 hb2
                generalize hzn : X3.heap.size = ZZ at *
                refine lane_alone rfl (by kernel_rfl) (by rfl) (fun KK hKK => ?_)
                refine wp_store_row _ _ _ rfl ZZ _ rfl rfl _ _ HZ.out (by exact tnotice_info) rfl (by simp [Value.oneCell']) ?_
                rw [row_boxed HZ.out]
                obtain ⟨VB, hVB⟩ : ∃ X, boxed V9 ZZ #[.int .u8 2, .int .i64 s, .int .i64 c, .int .i64 T, .int .i64 M, .int .u8 3] 31 = X := ⟨_, rfl⟩
                rw [hVB]
                have hzB : VB.heap.size = V9.heap.size := by rw [← hVB, boxed_size]
                have HD0 : Hid (ArrB VB SB 29 36 (gT st)) := by rw [← hVB]; exact HC0.out.kept (boxed_block_other (by omega))
                have HD1 : Hid (VB.ownsRow U.heap.size 39 4 (Value.slice A9 st.es.length c9) st.es.length (ecl st.es)) := by rw [← hVB]; exact own_kept HC1.out (fun i hi => boxed_block_other (hrz1 i hi))
                have HD2 : Hid (VB.heap[X2.heap.size]? = some (.cells #[.int .u8 2, .int .i64 s, .int .i64 c, .int .i64 T, .int .i64 M, .int .u8 0] 31 (0, 0))) := by rw [← hVB]; exact boxed_old (by omega) HC2.out
                have HLy := HLx.out.boxed (til_thing _ _ _) (g := ZZ) (cs := #[.int .u8 2, .int .i64 s, .int .i64 c, .int .i64 T, .int .i64 M, .int .u8 3]) (t := 31) (.inr rfl) (by omega)
                rw [hVB] at HLy
                have HLy := Lib.hid HLy
                have hS4 : SW VB := by rw [hSW]; exact ⟨HD2.out, (World.cell?_of_block (w' := VB) (a := ⟨gg, oo + j * 6 + 5, none⟩) (by (try rw [ad_block]); exact (HLy.out.old).block _ gU)).trans HV.out⟩
                have HS4 := Lib.hid hS4
                refine hKK _ _ (by exact HS4.out) (fun _ => ?_)
                clear hKK KK hS4
                iterate 1 (refine lane_take (v := ?_) rfl (by kernel_rfl) (by kernel_rfl) (by rfl) ?_ (by exact HS4.out) ?_; rotate_left; (focus (intro w9 hSw; rw [hSW] at hSw; obtain ⟨z0, z1⟩ := hSw; obtain ⟨x0, x1, x2, x3, x4, x5⟩ := cells6 z0; (try go_simp); try (with_reducible rfl))); simp only [Act.put, List.setIfInBounds_toArray, List.set_cons_zero, List.set_cons_succ])
                refine lane_end (by kernel_rfl) ?_
                refine ⟨rfl, ZZ, rfl, (HLy.out.less (fun i hi => by rcases hi with h0 | h1 | h2 | h3; exact .inl (.inl h0); exact .inl (.inr (.inl h1)); exact .inl (.inr (.inr h2)); exact .inr h3)), HD0.out, HD1.out, HD2.out, (by rw [← hVB]; exact boxed_at hzz), by omega, by omega, by omega, by omega, by omega, by omega, by omega, by omega⟩
            rintro Zh X4 ⟨HL4, H4_0, H4_1, H4_2, HZ9, ls4, lc9_0, lc9_1, ld9_0, ld9_1, le9, lf9, lt4⟩
            have H4_3 := HZ9
            clear HZ9
            obtain ⟨c2_0, c2_1, c2_2, c2_3, c2_4, c2_5⟩ := cells6 H4_2.out
            go_wp2_with (fail)
            have z0 : X4.cell? ⟨SB, s * 12 + c * 4, none⟩ = some (.int .u8 0) := by rw [H4_0.out.cell (by omega), gT_rf c3, HSD.out]; rfl
            go_quiet (fail)
            have hK : ∀ i, i < X4.heap.size → (X4.drewN nq).heap[i]? = X4.heap[i]? := fun i hi => rfl
            obtain ⟨X5, hXe⟩ : ∃ X, (X4.drewN nq) = X := ⟨_, rfl⟩
            rw [hXe] at hK
            have hz9 : X5.heap.size = X4.heap.size := by rw [← hXe]; rfl
            have H5_0 : Hid (ArrB X5 SB 29 36 (gT st)) := H4_0.out.kept (hK SB (by omega))
            have H5_1 : Hid (X5.ownsRow U.heap.size 39 4 (Value.slice A9 st.es.length c9) st.es.length (ecl st.es)) := own_kept H4_1.out (fun i hi => hK i (H4_1.out.lt i hi).2)
            have H5_2 : Hid (X5.heap[X2.heap.size]? = some (.cells #[.int .u8 2, .int .i64 s, .int .i64 c, .int .i64 T, .int .i64 M, .int .u8 0] 31 (0, 0))) := (hK X2.heap.size (by omega)).trans H4_2.out
            have H5_3 : Hid (X5.heap[Zh]? = some (.cells #[.int .u8 2, .int .i64 s, .int .i64 c, .int .i64 T, .int .i64 M, .int .u8 3] 31 (0, 0))) := (hK Zh (by omega)).trans H4_3.out
            have HL5 : Hid (LiveO (TilB (U.heap.size + 4) (st.refund s c) (4 * j + 4)) U (fun (i : Nat) => i = SB ∨ (Value.slice A9 st.es.length c9).ownBlock = some i ∨ i = X2.heap.size ∨ i = Zh) X5) := by rw [← hXe]; exact HL4.out.below (til_thing _ _ _) (Below.drewN' (Below.refl _ _) _)
            have : SB < X5.heap.size := by omega
            have : X2.heap.size < X5.heap.size := by omega
            have : Zh < X5.heap.size := by omega
            have ls5 : U.heap.size ≤ X5.heap.size := by omega
            have lt5 : X4.heap.size ≤ X5.heap.size := by omega
            clear hK HL4 H4_0 H4_1 H4_2 H4_3 c2_0 c2_1 c2_2 c2_3 c2_4 c2_5 z0
            rw [hXe]
            clear hXe hz9
            go_wp2
            go_loopw [12, 13] (fun tk i wq => ∃ a : Nat, a ≤ st.es.length ∧ i = .int .i64 a ∧ tk = .int .i64 (sumC (st.es.take a) s c) ∧ Hid (Below X5.heap.size X5 wq)) (fun tk i _ => st.es.length - (intOf i).toNat)
            case atStart => exact ⟨0, by omega, rfl, rfl, Below.refl _ _⟩
            case round =>
              obtain ⟨a, ha, rfl, rfl, HB9⟩ := hrel
              have lb : X5.heap.size ≤ wr.heap.size := HB9.out.size
              by_cases hat : a < st.es.length
              case pos =>
                have da : decide ((a : Int) < (st.es.length : Int)) = true := by simpa using hat
                obtain ⟨e0, hej⟩ : ∃ e, st.es[a]? = some e := ⟨st.es[a], List.getElem?_eq_getElem hat⟩
                obtain ⟨q1, rfl⟩ : ∃ q, A9 = some ⟨q, 0, none⟩ := by
                  rcases H5_1.out.2 with ⟨_, hn⟩ | ⟨q, cap, cur, hv, _⟩
                  · omega
                  · injection hv with hA; exact ⟨q, hA⟩
                have hq1 : q1 < wr.heap.size := by have := (H5_1.out.lt q1 rfl).2; omega
                have hnb : X2.heap.size < wr.heap.size := by omega
                have u0 : wr.cell? ⟨q1, a * 4, none⟩ = some (.int .i64 e0.s) := (World.cell?_of_block (a := ⟨q1, a * 4, none⟩) (HB9.out.block q1 (H5_1.out.lt q1 rfl).2)).trans (by have := H5_1.out.cells (g := q1) rfl (a * 4) _ (ecl_at hej).1; rwa [ad_head] at this)
                have u1 : wr.cell? ⟨q1, a * 4 + 1, none⟩ = some (.int .i64 e0.c) := (World.cell?_of_block (a := ⟨q1, a * 4 + 1, none⟩) (HB9.out.block q1 (H5_1.out.lt q1 rfl).2)).trans (by have := H5_1.out.cells (g := q1) rfl (a * 4 + 1) _ (ecl_at hej).2.1; rwa [ad_head] at this)
                have u2 : wr.cell? ⟨q1, a * 4 + 2, none⟩ = some (.int .i64 e0.t) := (World.cell?_of_block (a := ⟨q1, a * 4 + 2, none⟩) (HB9.out.block q1 (H5_1.out.lt q1 rfl).2)).trans (by have := H5_1.out.cells (g := q1) rfl (a * 4 + 2) _ (ecl_at hej).2.2.1; rwa [ad_head] at this)
                have u3 : wr.cell? ⟨q1, a * 4 + 3, none⟩ = some (.int .i64 e0.a) := (World.cell?_of_block (a := ⟨q1, a * 4 + 3, none⟩) (HB9.out.block q1 (H5_1.out.lt q1 rfl).2)).trans (by have := H5_1.out.cells (g := q1) rfl (a * 4 + 3) _ (ecl_at hej).2.2.2; rwa [ad_head] at this)
                have y1 : wr.cell? ⟨X2.heap.size, 1, none⟩ = some (.int .i64 s) := (World.cell?_of_block (a := ⟨X2.heap.size, 1, none⟩) (HB9.out.block _ (by show X2.heap.size < _; omega))).trans (by rw [cell_of_row _ _ _ _ _ _ H5_2.out]; rfl)
                have y2 : wr.cell? ⟨X2.heap.size, 2, none⟩ = some (.int .i64 c) := (World.cell?_of_block (a := ⟨X2.heap.size, 2, none⟩) (HB9.out.block _ (by show X2.heap.size < _; omega))).trans (by rw [cell_of_row _ _ _ _ _ _ H5_2.out]; rfl)
                have ka0 : (0 : Int) ≤ (a : Int) := by omega
                have kat : (a : Int) < (st.es.length : Int) := by omega
                have HNX : Hid (sumC (st.es.take (a + 1)) s c = sumC (st.es.take a) s c + (if e0.s = s ∧ e0.c = c then e0.val else 0)) := by show _ = _; rw [List.take_succ_eq_append_getElem hat, sumC_append, sumC_one]; rw [List.getElem?_eq_getElem hat] at hej; injection hej with hej; rw [hej]
                have hEO := (HF.out.es e0 (List.mem_of_getElem? hej)).a
                have hsm := sumC_le (l := st.es.take a) (fun e he => HF.out.es e (List.mem_of_mem_take he)) (s : Int) (c : Int)
                rw [List.length_take] at hsm
                have hsm1 : -240000000 ≤ sumC (st.es.take a) s c ∧ sumC (st.es.take a) s c ≤ 240000000 := by omega
                unfold Ent.val at HNX
                generalize sumC (st.es.take a) s c = sm at *
                clear hej hsm
                obtain ⟨es, ec, et, ea⟩ := e0
                simp only at u0 u1 u2 u3 HNX hEO
                by_cases h1 : es = (s : Int)
                · have p1 : (es == (s : Int)) = true := by simpa using h1
                  by_cases h2 : ec = (c : Int)
                  · have p2 : (ec == (c : Int)) = true := by simpa using h2
                    by_cases h3 : 0 < et
                    · skip
                      have HNY : Hid (sumC (st.es.take (a + 1)) s c = sm + ea) := by show _ = _; rw [HNX.out, if_pos ⟨h1, h2⟩, if_pos h3]
                      have p3 : decide (0 < et) = true := by simpa using h3
                      clear h1 h2 h3
                      clear HNX
                      go_wp2_with (fail)
                      go_quiet (fail)
                      go_wp2
                      go_roundw
                      case rel => exact ⟨a + 1, by omega, by go_num, by rw [HNY.out], Below.drewN' HB9.out _⟩
                      case measure => simp [intOf]; omega
                    · skip
                      have HNY : Hid (sumC (st.es.take (a + 1)) s c = sm - ea) := by show _ = _; rw [HNX.out, if_pos ⟨h1, h2⟩, if_neg h3]; omega
                      have p3 : decide (0 < et) = false := by simpa using h3
                      clear h1 h2 h3
                      clear HNX
                      go_wp2_with (fail)
                      go_quiet (fail)
                      go_wp2
                      go_roundw
                      case rel => exact ⟨a + 1, by omega, by go_num, by rw [HNY.out], Below.drewN' HB9.out _⟩
                      case measure => simp [intOf]; omega
                  · have p2 : (ec == (c : Int)) = false := by simpa using h2
                    have HNY : Hid (sumC (st.es.take (a + 1)) s c = sm) := by show _ = _; rw [HNX.out, if_neg (fun e => h2 e.2)]; omega
                    clear h1 h2
                    clear HNX
                    go_wp2_with (fail)
                    go_quiet (fail)
                    go_wp2
                    go_roundw
                    case rel => exact ⟨a + 1, by omega, by go_num, by rw [HNY.out], Below.drewN' HB9.out _⟩
                    case measure => simp [intOf]; omega
                · have p1 : (es == (s : Int)) = false := by simpa using h1
                  have HNY : Hid (sumC (st.es.take (a + 1)) s c = sm) := by show _ = _; rw [HNX.out, if_neg (fun e => h1 e.1)]; omega
                  clear h1
                  clear HNX
                  go_wp2_with (fail)
                  go_quiet (fail)
                  go_wp2
                  go_roundw
                  case rel => exact ⟨a + 1, by omega, by go_num, by rw [HNY.out], Below.drewN' HB9.out _⟩
                  case measure => simp [intOf]; omega
              case neg =>
                obtain rfl : a = st.es.length := by omega
                have da : decide ((st.es.length : Int) < (st.es.length : Int)) = false := by simp
                rw [List.take_length, ← HF.out.tk s c]
                have hb9 := HB9.out
                clear hat lb ha
                have hK : ∀ i, i < X5.heap.size → wr.heap[i]? = X5.heap[i]? := fun i hi => hb9.block i hi
                have hsz : X5.heap.size ≤ wr.heap.size := hb9.size
                have H6_0 : Hid (ArrB wr SB 29 36 (gT st)) := H5_0.out.kept (hK SB (by omega))
                have H6_1 : Hid (wr.ownsRow U.heap.size 39 4 (Value.slice A9 st.es.length c9) st.es.length (ecl st.es)) := own_kept H5_1.out (fun i hi => hK i (H5_1.out.lt i hi).2)
                have H6_2 : Hid (wr.heap[X2.heap.size]? = some (.cells #[.int .u8 2, .int .i64 s, .int .i64 c, .int .i64 T, .int .i64 M, .int .u8 0] 31 (0, 0))) := (hK X2.heap.size (by omega)).trans H5_2.out
                have H6_3 : Hid (wr.heap[Zh]? = some (.cells #[.int .u8 2, .int .i64 s, .int .i64 c, .int .i64 T, .int .i64 M, .int .u8 3] 31 (0, 0))) := (hK Zh (by omega)).trans H5_3.out
                have HL6 : Hid (LiveO (TilB (U.heap.size + 4) (st.refund s c) (4 * j + 4)) U (fun (i : Nat) => i = SB ∨ (Value.slice A9 st.es.length c9).ownBlock = some i ∨ i = X2.heap.size ∨ i = Zh) wr) := HL5.out.below (til_thing _ _ _) hb9
                have : SB < wr.heap.size := by omega
                have : X2.heap.size < wr.heap.size := by omega
                have : Zh < wr.heap.size := by omega
                have ls6 : U.heap.size ≤ wr.heap.size := by omega
                have lt6 : X5.heap.size ≤ wr.heap.size := by omega
                clear hsz hb9
                clear hK HL5 H5_0 H5_1 H5_2 H5_3
                rw [← HAM.out]
                clear HAN
                have z3 : wr.cell? ⟨gg, oo + j * 6 + 5, none⟩ = some (.int .u8 v) := (World.cell?_of_block (a := ⟨gg, oo + j * 6 + 5, none⟩) (HL6.out.old.block _ gU)).trans HV.out
                have hvs : v < 1 ∨ 3 < v ∨ (¬ v < 1 ∧ ¬ 3 < v) := by omega
                rcases hvs with hv | hv | hv
                · skip
                  as_aux_lemma =>
                  have e1 : decide (v < 1) = true := by simpa using hv
                  obtain ⟨c2_0, c2_1, c2_2, c2_3, c2_4, c2_5⟩ := cells6 H6_2.out
                  go_wp2_with (fail)
                  obtain ⟨SW, hSW⟩ : ∃ S : World → Prop, S = (fun w' : World => w'.heap[X2.heap.size]? = some (.cells #[.int .u8 2, .int .i64 s, .int .i64 c, .int .i64 T, .int .i64 M, .int .u8 0] 31 (0, 0))) := ⟨_, rfl⟩
                  have HS0 : Hid (SW wr.drew) := by rw [hSW]; exact (show _ from H6_2.out)
                  refine lane_start (ord := [0, 1, 2, 3, 4, 5, 6, 7, 8, 9]) (S := SW) rfl (by kernel_rfl) (by exact HS0.out) (fun _ => ?_)
                  iterate 9 (refine lane_take (v := ?_) rfl (by kernel_rfl) (by kernel_rfl) (by rfl) ?_ (by exact HS0.out) ?_; rotate_left; (focus (intro w9 hSw; rw [hSW] at hSw; have z0 := hSw; obtain ⟨x0, x1, x2, x3, x4, x5⟩ := cells6 z0; (try go_simp); try (with_reducible rfl))); simp only [Act.put, List.setIfInBounds_toArray, List.set_cons_zero, List.set_cons_succ])
                  refine lane_alone rfl (by kernel_rfl) (by rfl) (fun KK hKK => ?_)
                  have hA9 : ArrB wr.drew SB 29 36 (gT st) := H6_0.out
                  refine wp_of_skip (exec_store_one rfl (by rfl) rfl (by kernel_rfl) rfl (hA9.cell (i := s * 12 + c * 4) (by omega)) (hA9.frozen _)) ?_
                  have hS9 : SW (wr.drew.setCell ⟨SB, s * 12 + c * 4, none⟩ (.int .u8 3)) := by rw [hSW]; exact (setCell_other (by omega)).trans H6_2.out
                  refine hKK _ _ (by exact hS9) (fun _ => ?_)
                  clear hKK KK hA9 HS0 hS9
                  refine lane_end (by kernel_rfl) ?_
                  change Exit.then _ _ Exit.normal _ (wr.drew.setCell ⟨SB, s * 12 + c * 4, none⟩ (.int .u8 3))
                  have hK : ∀ i, i < wr.heap.size → wr.drew.heap[i]? = wr.heap[i]? := fun i hi => rfl
                  obtain ⟨X7, hXe⟩ : ∃ X, wr.drew = X := ⟨_, rfl⟩
                  rw [hXe] at hK
                  have hz9 : X7.heap.size = wr.heap.size := by rw [← hXe]; rfl
                  have H7_0 : Hid (ArrB X7 SB 29 36 (gT st)) := H6_0.out.kept (hK SB (by omega))
                  have H7_1 : Hid (X7.ownsRow U.heap.size 39 4 (Value.slice A9 st.es.length c9) st.es.length (ecl st.es)) := own_kept H6_1.out (fun i hi => hK i (H6_1.out.lt i hi).2)
                  have H7_2 : Hid (X7.heap[X2.heap.size]? = some (.cells #[.int .u8 2, .int .i64 s, .int .i64 c, .int .i64 T, .int .i64 M, .int .u8 0] 31 (0, 0))) := (hK X2.heap.size (by omega)).trans H6_2.out
                  have H7_3 : Hid (X7.heap[Zh]? = some (.cells #[.int .u8 2, .int .i64 s, .int .i64 c, .int .i64 T, .int .i64 M, .int .u8 3] 31 (0, 0))) := (hK Zh (by omega)).trans H6_3.out
                  have HL7 : Hid (LiveO (TilB (U.heap.size + 4) (st.refund s c) (4 * j + 4)) U (fun (i : Nat) => i = SB ∨ (Value.slice A9 st.es.length c9).ownBlock = some i ∨ i = X2.heap.size ∨ i = Zh) X7) := by rw [← hXe]; exact HL6.out.drew (til_thing _ _ _)
                  have : SB < X7.heap.size := by omega
                  have : X2.heap.size < X7.heap.size := by omega
                  have : Zh < X7.heap.size := by omega
                  have ls7 : U.heap.size ≤ X7.heap.size := by omega
                  have lt7 : wr.heap.size ≤ X7.heap.size := by omega
                  have lu7 : X7.heap.size ≤ wr.heap.size := by omega
                  clear hK HL6 H6_0 H6_1 H6_2 H6_3 z3 c2_0 c2_1 c2_2 c2_3 c2_4 c2_5
                  rw [hXe]
                  clear hXe hz9
                  have hK : ∀ i, i < X7.heap.size → i ≠ SB → (X7.setCell ⟨SB, s * 12 + c * 4, none⟩ (.int .u8 3)).heap[i]? = X7.heap[i]? := fun i _ hi => setCell_other hi
                  obtain ⟨X8, hXe⟩ : ∃ X, (X7.setCell ⟨SB, s * 12 + c * 4, none⟩ (.int .u8 3)) = X := ⟨_, rfl⟩
                  rw [hXe] at hK
                  have hz9 : X8.heap.size = X7.heap.size := by rw [← hXe, setCell_size]
                  have H8_0 : Hid (ArrB X8 SB 29 36 (gT (st.refund s c))) := by rw [← hXe]; exact (H7_0.out.set (s * 12 + c * 4) _).congr (fun i _ => by have h9 := said_refund (st := st) (s := s) c3 HSD.out i; rw [if_pos HA0.out] at h9; exact h9)
                  have H8_1 : Hid (X8.ownsRow U.heap.size 39 4 (Value.slice A9 st.es.length c9) st.es.length (ecl st.es)) := own_kept H7_1.out (fun i hi => hK i (H7_1.out.lt i hi).2 (fun e => own_ne_arr H7_1.out H7_0.out (by decide) (hi.trans (by rw [e]))))
                  have H8_2 : Hid (X8.heap[X2.heap.size]? = some (.cells #[.int .u8 2, .int .i64 s, .int .i64 c, .int .i64 T, .int .i64 M, .int .u8 0] 31 (0, 0))) := (hK X2.heap.size (by omega) (by omega)).trans H7_2.out
                  have H8_3 : Hid (X8.heap[Zh]? = some (.cells #[.int .u8 2, .int .i64 s, .int .i64 c, .int .i64 T, .int .i64 M, .int .u8 3] 31 (0, 0))) := (hK Zh (by omega) (by omega)).trans H7_3.out
                  have HL8 : Hid (LiveO (TilB (U.heap.size + 4) (st.refund s c) (4 * j + 4)) U (fun (i : Nat) => i = SB ∨ (Value.slice A9 st.es.length c9).ownBlock = some i ∨ i = X2.heap.size ∨ i = Zh) X8) := by rw [← hXe]; exact HL7.out.setCell (til_thing _ _ _) (p := ⟨SB, s * 12 + c * 4, none⟩) (.inl rfl) (by show U.heap.size ≤ SB; omega)
                  have : SB < X8.heap.size := by omega
                  have : X2.heap.size < X8.heap.size := by omega
                  have : Zh < X8.heap.size := by omega
                  have ls8 : U.heap.size ≤ X8.heap.size := by omega
                  have lt8 : X7.heap.size ≤ X8.heap.size := by omega
                  clear hK HL7 H7_0 H7_1 H7_2 H7_3
                  rw [hXe]
                  clear hXe hz9
                  have HT : (st.refund s c).es.length = st.es.length := by rw [es_none HSD.out HA0.out]
                  obtain ⟨c2_0, c2_1, c2_2, c2_3, c2_4, c2_5⟩ := cells6 H8_2.out
                  obtain ⟨c3_0, c3_1, c3_2, c3_3, c3_4, c3_5⟩ := cells6 H8_3.out
                  go_wp2
                  have hK : ∀ i, i < X8.heap.size → (X8.alloc (.cells #[.int .u8 2, .int .i64 s, .int .i64 c, .int .i64 T, .int .i64 M, .int .u8 3] 31)).heap[i]? = X8.heap[i]? := fun i hi => alloc_block_old hi
                  obtain ⟨X9, hXe⟩ : ∃ X, (X8.alloc (.cells #[.int .u8 2, .int .i64 s, .int .i64 c, .int .i64 T, .int .i64 M, .int .u8 3] 31)) = X := ⟨_, rfl⟩
                  rw [hXe] at hK
                  have hz9 : X9.heap.size = X8.heap.size + 1 := by rw [← hXe]; simp
                  have H9_0 : Hid (ArrB X9 SB 29 36 (gT (st.refund s c))) := H8_0.out.kept (hK SB (by omega))
                  have H9_1 : Hid (X9.ownsRow U.heap.size 39 4 (Value.slice A9 st.es.length c9) st.es.length (ecl st.es)) := own_kept H8_1.out (fun i hi => hK i (H8_1.out.lt i hi).2)
                  have H9_2 : Hid (X9.heap[X2.heap.size]? = some (.cells #[.int .u8 2, .int .i64 s, .int .i64 c, .int .i64 T, .int .i64 M, .int .u8 0] 31 (0, 0))) := (hK X2.heap.size (by omega)).trans H8_2.out
                  have H9_3 : Hid (X9.heap[Zh]? = some (.cells #[.int .u8 2, .int .i64 s, .int .i64 c, .int .i64 T, .int .i64 M, .int .u8 3] 31 (0, 0))) := (hK Zh (by omega)).trans H8_3.out
                  have H9_4 : Hid (X9.heap[X8.heap.size]? = some (.cells #[.int .u8 2, .int .i64 s, .int .i64 c, .int .i64 T, .int .i64 M, .int .u8 3] 31 (0, 0))) := by rw [← hXe]; exact alloc_at (by omega)
                  have HL9 : Hid (LiveO (TilB (U.heap.size + 4) (st.refund s c) (4 * j + 4)) U (fun (i : Nat) => i = SB ∨ (Value.slice A9 st.es.length c9).ownBlock = some i ∨ i = X2.heap.size ∨ i = Zh ∨ i = X8.heap.size) X9) := by rw [← hXe]; exact (HL8.out.alloc (til_thing _ _ _) (.cells #[.int .u8 2, .int .i64 s, .int .i64 c, .int .i64 T, .int .i64 M, .int .u8 3] 31)).less (N' := (fun (i : Nat) => i = SB ∨ (Value.slice A9 st.es.length c9).ownBlock = some i ∨ i = X2.heap.size ∨ i = Zh ∨ i = X8.heap.size)) (fun i hi => by rcases hi with h0 | h1 | h2 | h3 | h4; exact .inl (.inl h0); exact .inl (.inr (.inl h1)); exact .inl (.inr (.inr (.inl h2))); exact .inl (.inr (.inr (.inr h3))); exact .inr (by omega))
                  have : SB < X9.heap.size := by omega
                  have : X2.heap.size < X9.heap.size := by omega
                  have : Zh < X9.heap.size := by omega
                  have ls9 : U.heap.size ≤ X9.heap.size := by omega
                  have lt9 : X8.heap.size ≤ X9.heap.size := by omega
                  have : X8.heap.size < X9.heap.size := by omega
                  have lg9 : X9.heap.size ≤ X8.heap.size + 1 ∧ X8.heap.size + 1 ≤ X9.heap.size := by omega
                  have : SB < X8.heap.size := by omega
                  have : X2.heap.size < X8.heap.size := by omega
                  have : Zh < X8.heap.size := by omega
                  clear hK HL8 H8_0 H8_1 H8_2 H8_3 c2_0 c2_1 c2_2 c2_3 c2_4 c2_5 c3_0 c3_1 c3_2 c3_3 c3_4 c3_5
                  rw [hXe]
                  clear hXe hz9
                  go_roundw
                  case rel => exact ⟨j + 1, (st.refund s c), A9, c9, by omega, by go_num, by rw [HT], (HF.out.refund (by omega) s3 c3), by rw [HT]; omega, (HL9.out.less (fun i hi => by rcases hi with rfl | hi; exact .inl rfl; exact .inr (.inl (by first | exact hi | (rw [HT] at hi; exact hi))))).imp (fun F hF => hF.mono (by omega)), H9_0, by rw [es_none HSD.out HA0.out]; exact H9_1⟩
                  case measure => simp [intOf]; omega
                · skip
                  as_aux_lemma =>
                  have e1 : decide (v < 1) = false := by simp; omega
                  have e2 : decide (3 < v) = true := by simpa using hv
                  obtain ⟨c2_0, c2_1, c2_2, c2_3, c2_4, c2_5⟩ := cells6 H6_2.out
                  go_wp2_with (fail)
                  obtain ⟨SW, hSW⟩ : ∃ S : World → Prop, S = (fun w' : World => w'.heap[X2.heap.size]? = some (.cells #[.int .u8 2, .int .i64 s, .int .i64 c, .int .i64 T, .int .i64 M, .int .u8 0] 31 (0, 0))) := ⟨_, rfl⟩
                  have HS0 : Hid (SW wr.drew) := by rw [hSW]; exact (show _ from H6_2.out)
                  refine lane_start (ord := [0, 1, 2, 3, 4, 5, 6, 7, 8, 9]) (S := SW) rfl (by kernel_rfl) (by exact HS0.out) (fun _ => ?_)
                  iterate 9 (refine lane_take (v := ?_) rfl (by kernel_rfl) (by kernel_rfl) (by rfl) ?_ (by exact HS0.out) ?_; rotate_left; (focus (intro w9 hSw; rw [hSW] at hSw; have z0 := hSw; obtain ⟨x0, x1, x2, x3, x4, x5⟩ := cells6 z0; (try go_simp); try (with_reducible rfl))); simp only [Act.put, List.setIfInBounds_toArray, List.set_cons_zero, List.set_cons_succ])
                  refine lane_alone rfl (by kernel_rfl) (by rfl) (fun KK hKK => ?_)
                  have hA9 : ArrB wr.drew SB 29 36 (gT st) := H6_0.out
                  refine wp_of_skip (exec_store_one rfl (by rfl) rfl (by kernel_rfl) rfl (hA9.cell (i := s * 12 + c * 4) (by omega)) (hA9.frozen _)) ?_
                  have hS9 : SW (wr.drew.setCell ⟨SB, s * 12 + c * 4, none⟩ (.int .u8 3)) := by rw [hSW]; exact (setCell_other (by omega)).trans H6_2.out
                  refine hKK _ _ (by exact hS9) (fun _ => ?_)
                  clear hKK KK hA9 HS0 hS9
                  refine lane_end (by kernel_rfl) ?_
                  change Exit.then _ _ Exit.normal _ (wr.drew.setCell ⟨SB, s * 12 + c * 4, none⟩ (.int .u8 3))
                  have hK : ∀ i, i < wr.heap.size → wr.drew.heap[i]? = wr.heap[i]? := fun i hi => rfl
                  obtain ⟨X7, hXe⟩ : ∃ X, wr.drew = X := ⟨_, rfl⟩
                  rw [hXe] at hK
                  have hz9 : X7.heap.size = wr.heap.size := by rw [← hXe]; rfl
                  have H7_0 : Hid (ArrB X7 SB 29 36 (gT st)) := H6_0.out.kept (hK SB (by omega))
                  have H7_1 : Hid (X7.ownsRow U.heap.size 39 4 (Value.slice A9 st.es.length c9) st.es.length (ecl st.es)) := own_kept H6_1.out (fun i hi => hK i (H6_1.out.lt i hi).2)
                  have H7_2 : Hid (X7.heap[X2.heap.size]? = some (.cells #[.int .u8 2, .int .i64 s, .int .i64 c, .int .i64 T, .int .i64 M, .int .u8 0] 31 (0, 0))) := (hK X2.heap.size (by omega)).trans H6_2.out
                  have H7_3 : Hid (X7.heap[Zh]? = some (.cells #[.int .u8 2, .int .i64 s, .int .i64 c, .int .i64 T, .int .i64 M, .int .u8 3] 31 (0, 0))) := (hK Zh (by omega)).trans H6_3.out
                  have HL7 : Hid (LiveO (TilB (U.heap.size + 4) (st.refund s c) (4 * j + 4)) U (fun (i : Nat) => i = SB ∨ (Value.slice A9 st.es.length c9).ownBlock = some i ∨ i = X2.heap.size ∨ i = Zh) X7) := by rw [← hXe]; exact HL6.out.drew (til_thing _ _ _)
                  have : SB < X7.heap.size := by omega
                  have : X2.heap.size < X7.heap.size := by omega
                  have : Zh < X7.heap.size := by omega
                  have ls7 : U.heap.size ≤ X7.heap.size := by omega
                  have lt7 : wr.heap.size ≤ X7.heap.size := by omega
                  have lu7 : X7.heap.size ≤ wr.heap.size := by omega
                  clear hK HL6 H6_0 H6_1 H6_2 H6_3 z3 c2_0 c2_1 c2_2 c2_3 c2_4 c2_5
                  rw [hXe]
                  clear hXe hz9
                  have hK : ∀ i, i < X7.heap.size → i ≠ SB → (X7.setCell ⟨SB, s * 12 + c * 4, none⟩ (.int .u8 3)).heap[i]? = X7.heap[i]? := fun i _ hi => setCell_other hi
                  obtain ⟨X8, hXe⟩ : ∃ X, (X7.setCell ⟨SB, s * 12 + c * 4, none⟩ (.int .u8 3)) = X := ⟨_, rfl⟩
                  rw [hXe] at hK
                  have hz9 : X8.heap.size = X7.heap.size := by rw [← hXe, setCell_size]
                  have H8_0 : Hid (ArrB X8 SB 29 36 (gT (st.refund s c))) := by rw [← hXe]; exact (H7_0.out.set (s * 12 + c * 4) _).congr (fun i _ => by have h9 := said_refund (st := st) (s := s) c3 HSD.out i; rw [if_pos HA0.out] at h9; exact h9)
                  have H8_1 : Hid (X8.ownsRow U.heap.size 39 4 (Value.slice A9 st.es.length c9) st.es.length (ecl st.es)) := own_kept H7_1.out (fun i hi => hK i (H7_1.out.lt i hi).2 (fun e => own_ne_arr H7_1.out H7_0.out (by decide) (hi.trans (by rw [e]))))
                  have H8_2 : Hid (X8.heap[X2.heap.size]? = some (.cells #[.int .u8 2, .int .i64 s, .int .i64 c, .int .i64 T, .int .i64 M, .int .u8 0] 31 (0, 0))) := (hK X2.heap.size (by omega) (by omega)).trans H7_2.out
                  have H8_3 : Hid (X8.heap[Zh]? = some (.cells #[.int .u8 2, .int .i64 s, .int .i64 c, .int .i64 T, .int .i64 M, .int .u8 3] 31 (0, 0))) := (hK Zh (by omega) (by omega)).trans H7_3.out
                  have HL8 : Hid (LiveO (TilB (U.heap.size + 4) (st.refund s c) (4 * j + 4)) U (fun (i : Nat) => i = SB ∨ (Value.slice A9 st.es.length c9).ownBlock = some i ∨ i = X2.heap.size ∨ i = Zh) X8) := by rw [← hXe]; exact HL7.out.setCell (til_thing _ _ _) (p := ⟨SB, s * 12 + c * 4, none⟩) (.inl rfl) (by show U.heap.size ≤ SB; omega)
                  have : SB < X8.heap.size := by omega
                  have : X2.heap.size < X8.heap.size := by omega
                  have : Zh < X8.heap.size := by omega
                  have ls8 : U.heap.size ≤ X8.heap.size := by omega
                  have lt8 : X7.heap.size ≤ X8.heap.size := by omega
                  clear hK HL7 H7_0 H7_1 H7_2 H7_3
                  rw [hXe]
                  clear hXe hz9
                  have HT : (st.refund s c).es.length = st.es.length := by rw [es_none HSD.out HA0.out]
                  obtain ⟨c2_0, c2_1, c2_2, c2_3, c2_4, c2_5⟩ := cells6 H8_2.out
                  obtain ⟨c3_0, c3_1, c3_2, c3_3, c3_4, c3_5⟩ := cells6 H8_3.out
                  go_wp2
                  have hK : ∀ i, i < X8.heap.size → (X8.alloc (.cells #[.int .u8 2, .int .i64 s, .int .i64 c, .int .i64 T, .int .i64 M, .int .u8 3] 31)).heap[i]? = X8.heap[i]? := fun i hi => alloc_block_old hi
                  obtain ⟨X9, hXe⟩ : ∃ X, (X8.alloc (.cells #[.int .u8 2, .int .i64 s, .int .i64 c, .int .i64 T, .int .i64 M, .int .u8 3] 31)) = X := ⟨_, rfl⟩
                  rw [hXe] at hK
                  have hz9 : X9.heap.size = X8.heap.size + 1 := by rw [← hXe]; simp
                  have H9_0 : Hid (ArrB X9 SB 29 36 (gT (st.refund s c))) := H8_0.out.kept (hK SB (by omega))
                  have H9_1 : Hid (X9.ownsRow U.heap.size 39 4 (Value.slice A9 st.es.length c9) st.es.length (ecl st.es)) := own_kept H8_1.out (fun i hi => hK i (H8_1.out.lt i hi).2)
                  have H9_2 : Hid (X9.heap[X2.heap.size]? = some (.cells #[.int .u8 2, .int .i64 s, .int .i64 c, .int .i64 T, .int .i64 M, .int .u8 0] 31 (0, 0))) := (hK X2.heap.size (by omega)).trans H8_2.out
                  have H9_3 : Hid (X9.heap[Zh]? = some (.cells #[.int .u8 2, .int .i64 s, .int .i64 c, .int .i64 T, .int .i64 M, .int .u8 3] 31 (0, 0))) := (hK Zh (by omega)).trans H8_3.out
                  have H9_4 : Hid (X9.heap[X8.heap.size]? = some (.cells #[.int .u8 2, .int .i64 s, .int .i64 c, .int .i64 T, .int .i64 M, .int .u8 3] 31 (0, 0))) := by rw [← hXe]; exact alloc_at (by omega)
                  have HL9 : Hid (LiveO (TilB (U.heap.size + 4) (st.refund s c) (4 * j + 4)) U (fun (i : Nat) => i = SB ∨ (Value.slice A9 st.es.length c9).ownBlock = some i ∨ i = X2.heap.size ∨ i = Zh ∨ i = X8.heap.size) X9) := by rw [← hXe]; exact (HL8.out.alloc (til_thing _ _ _) (.cells #[.int .u8 2, .int .i64 s, .int .i64 c, .int .i64 T, .int .i64 M, .int .u8 3] 31)).less (N' := (fun (i : Nat) => i = SB ∨ (Value.slice A9 st.es.length c9).ownBlock = some i ∨ i = X2.heap.size ∨ i = Zh ∨ i = X8.heap.size)) (fun i hi => by rcases hi with h0 | h1 | h2 | h3 | h4; exact .inl (.inl h0); exact .inl (.inr (.inl h1)); exact .inl (.inr (.inr (.inl h2))); exact .inl (.inr (.inr (.inr h3))); exact .inr (by omega))
                  have : SB < X9.heap.size := by omega
                  have : X2.heap.size < X9.heap.size := by omega
                  have : Zh < X9.heap.size := by omega
                  have ls9 : U.heap.size ≤ X9.heap.size := by omega
                  have lt9 : X8.heap.size ≤ X9.heap.size := by omega
                  have : X8.heap.size < X9.heap.size := by omega
                  have lg9 : X9.heap.size ≤ X8.heap.size + 1 ∧ X8.heap.size + 1 ≤ X9.heap.size := by omega
                  have : SB < X8.heap.size := by omega
                  have : X2.heap.size < X8.heap.size := by omega
                  have : Zh < X8.heap.size := by omega
                  clear hK HL8 H8_0 H8_1 H8_2 H8_3 c2_0 c2_1 c2_2 c2_3 c2_4 c2_5 c3_0 c3_1 c3_2 c3_3 c3_4 c3_5
                  rw [hXe]
                  clear hXe hz9
                  go_roundw
                  case rel => exact ⟨j + 1, (st.refund s c), A9, c9, by omega, by go_num, by rw [HT], (HF.out.refund (by omega) s3 c3), by rw [HT]; omega, (HL9.out.less (fun i hi => by rcases hi with rfl | hi; exact .inl rfl; exact .inr (.inl (by first | exact hi | (rw [HT] at hi; exact hi))))).imp (fun F hF => hF.mono (by omega)), H9_0, by rw [es_none HSD.out HA0.out]; exact H9_1⟩
                  case measure => simp [intOf]; omega
                · skip
                  as_aux_lemma =>
                  have e1 : decide (v < 1) = false := by simpa using hv.1
                  have e2 : decide (3 < v) = false := by simpa using hv.2
                  obtain ⟨c2_0, c2_1, c2_2, c2_3, c2_4, c2_5⟩ := cells6 H6_2.out
                  go_wp2_with (fail)
                  obtain ⟨SW, hSW⟩ : ∃ S : World → Prop, S = (fun w' : World => w'.heap[X2.heap.size]? = some (.cells #[.int .u8 2, .int .i64 s, .int .i64 c, .int .i64 T, .int .i64 M, .int .u8 0] 31 (0, 0))) := ⟨_, rfl⟩
                  have HS0 : Hid (SW wr.drew) := by rw [hSW]; exact (show _ from H6_2.out)
                  refine lane_start (ord := [0, 1, 2, 3, 4, 5, 6, 7, 8, 9]) (S := SW) rfl (by kernel_rfl) (by exact HS0.out) (fun _ => ?_)
                  iterate 9 (refine lane_take (v := ?_) rfl (by kernel_rfl) (by kernel_rfl) (by rfl) ?_ (by exact HS0.out) ?_; rotate_left; (focus (intro w9 hSw; rw [hSW] at hSw; have z0 := hSw; obtain ⟨x0, x1, x2, x3, x4, x5⟩ := cells6 z0; (try go_simp); try (with_reducible rfl))); simp only [Act.put, List.setIfInBounds_toArray, List.set_cons_zero, List.set_cons_succ])
                  refine lane_alone rfl (by kernel_rfl) (by rfl) (fun KK hKK => ?_)
                  have hA9 : ArrB wr.drew SB 29 36 (gT st) := H6_0.out
                  refine wp_of_skip (exec_store_one rfl (by rfl) rfl (by kernel_rfl) rfl (hA9.cell (i := s * 12 + c * 4) (by omega)) (hA9.frozen _)) ?_
                  have hS9 : SW (wr.drew.setCell ⟨SB, s * 12 + c * 4, none⟩ (.int .u8 3)) := by rw [hSW]; exact (setCell_other (by omega)).trans H6_2.out
                  refine hKK _ _ (by exact hS9) (fun _ => ?_)
                  clear hKK KK hA9 HS0 hS9
                  refine lane_end (by kernel_rfl) ?_
                  change Exit.then _ _ Exit.normal _ (wr.drew.setCell ⟨SB, s * 12 + c * 4, none⟩ (.int .u8 3))
                  have hK : ∀ i, i < wr.heap.size → wr.drew.heap[i]? = wr.heap[i]? := fun i hi => rfl
                  obtain ⟨X7, hXe⟩ : ∃ X, wr.drew = X := ⟨_, rfl⟩
                  rw [hXe] at hK
                  have hz9 : X7.heap.size = wr.heap.size := by rw [← hXe]; rfl
                  have H7_0 : Hid (ArrB X7 SB 29 36 (gT st)) := H6_0.out.kept (hK SB (by omega))
                  have H7_1 : Hid (X7.ownsRow U.heap.size 39 4 (Value.slice A9 st.es.length c9) st.es.length (ecl st.es)) := own_kept H6_1.out (fun i hi => hK i (H6_1.out.lt i hi).2)
                  have H7_2 : Hid (X7.heap[X2.heap.size]? = some (.cells #[.int .u8 2, .int .i64 s, .int .i64 c, .int .i64 T, .int .i64 M, .int .u8 0] 31 (0, 0))) := (hK X2.heap.size (by omega)).trans H6_2.out
                  have H7_3 : Hid (X7.heap[Zh]? = some (.cells #[.int .u8 2, .int .i64 s, .int .i64 c, .int .i64 T, .int .i64 M, .int .u8 3] 31 (0, 0))) := (hK Zh (by omega)).trans H6_3.out
                  have HL7 : Hid (LiveO (TilB (U.heap.size + 4) (st.refund s c) (4 * j + 4)) U (fun (i : Nat) => i = SB ∨ (Value.slice A9 st.es.length c9).ownBlock = some i ∨ i = X2.heap.size ∨ i = Zh) X7) := by rw [← hXe]; exact HL6.out.drew (til_thing _ _ _)
                  have : SB < X7.heap.size := by omega
                  have : X2.heap.size < X7.heap.size := by omega
                  have : Zh < X7.heap.size := by omega
                  have ls7 : U.heap.size ≤ X7.heap.size := by omega
                  have lt7 : wr.heap.size ≤ X7.heap.size := by omega
                  have lu7 : X7.heap.size ≤ wr.heap.size := by omega
                  clear hK HL6 H6_0 H6_1 H6_2 H6_3 z3 c2_0 c2_1 c2_2 c2_3 c2_4 c2_5
                  rw [hXe]
                  clear hXe hz9
                  have hK : ∀ i, i < X7.heap.size → i ≠ SB → (X7.setCell ⟨SB, s * 12 + c * 4, none⟩ (.int .u8 3)).heap[i]? = X7.heap[i]? := fun i _ hi => setCell_other hi
                  obtain ⟨X8, hXe⟩ : ∃ X, (X7.setCell ⟨SB, s * 12 + c * 4, none⟩ (.int .u8 3)) = X := ⟨_, rfl⟩
                  rw [hXe] at hK
                  have hz9 : X8.heap.size = X7.heap.size := by rw [← hXe, setCell_size]
                  have H8_0 : Hid (ArrB X8 SB 29 36 (gT (st.refund s c))) := by rw [← hXe]; exact (H7_0.out.set (s * 12 + c * 4) _).congr (fun i _ => by have h9 := said_refund (st := st) (s := s) c3 HSD.out i; rw [if_pos HA0.out] at h9; exact h9)
                  have H8_1 : Hid (X8.ownsRow U.heap.size 39 4 (Value.slice A9 st.es.length c9) st.es.length (ecl st.es)) := own_kept H7_1.out (fun i hi => hK i (H7_1.out.lt i hi).2 (fun e => own_ne_arr H7_1.out H7_0.out (by decide) (hi.trans (by rw [e]))))
                  have H8_2 : Hid (X8.heap[X2.heap.size]? = some (.cells #[.int .u8 2, .int .i64 s, .int .i64 c, .int .i64 T, .int .i64 M, .int .u8 0] 31 (0, 0))) := (hK X2.heap.size (by omega) (by omega)).trans H7_2.out
                  have H8_3 : Hid (X8.heap[Zh]? = some (.cells #[.int .u8 2, .int .i64 s, .int .i64 c, .int .i64 T, .int .i64 M, .int .u8 3] 31 (0, 0))) := (hK Zh (by omega) (by omega)).trans H7_3.out
                  have HL8 : Hid (LiveO (TilB (U.heap.size + 4) (st.refund s c) (4 * j + 4)) U (fun (i : Nat) => i = SB ∨ (Value.slice A9 st.es.length c9).ownBlock = some i ∨ i = X2.heap.size ∨ i = Zh) X8) := by rw [← hXe]; exact HL7.out.setCell (til_thing _ _ _) (p := ⟨SB, s * 12 + c * 4, none⟩) (.inl rfl) (by show U.heap.size ≤ SB; omega)
                  have : SB < X8.heap.size := by omega
                  have : X2.heap.size < X8.heap.size := by omega
                  have : Zh < X8.heap.size := by omega
                  have ls8 : U.heap.size ≤ X8.heap.size := by omega
                  have lt8 : X7.heap.size ≤ X8.heap.size := by omega
                  clear hK HL7 H7_0 H7_1 H7_2 H7_3
                  rw [hXe]
                  clear hXe hz9
                  have HT : (st.refund s c).es.length = st.es.length := by rw [es_none HSD.out HA0.out]
                  obtain ⟨c2_0, c2_1, c2_2, c2_3, c2_4, c2_5⟩ := cells6 H8_2.out
                  obtain ⟨c3_0, c3_1, c3_2, c3_3, c3_4, c3_5⟩ := cells6 H8_3.out
                  go_wp2
                  have hK : ∀ i, i < X8.heap.size → (X8.alloc (.cells #[.int .u8 2, .int .i64 s, .int .i64 c, .int .i64 T, .int .i64 M, .int .u8 3] 31)).heap[i]? = X8.heap[i]? := fun i hi => alloc_block_old hi
                  obtain ⟨X9, hXe⟩ : ∃ X, (X8.alloc (.cells #[.int .u8 2, .int .i64 s, .int .i64 c, .int .i64 T, .int .i64 M, .int .u8 3] 31)) = X := ⟨_, rfl⟩
                  rw [hXe] at hK
                  have hz9 : X9.heap.size = X8.heap.size + 1 := by rw [← hXe]; simp
                  have H9_0 : Hid (ArrB X9 SB 29 36 (gT (st.refund s c))) := H8_0.out.kept (hK SB (by omega))
                  have H9_1 : Hid (X9.ownsRow U.heap.size 39 4 (Value.slice A9 st.es.length c9) st.es.length (ecl st.es)) := own_kept H8_1.out (fun i hi => hK i (H8_1.out.lt i hi).2)
                  have H9_2 : Hid (X9.heap[X2.heap.size]? = some (.cells #[.int .u8 2, .int .i64 s, .int .i64 c, .int .i64 T, .int .i64 M, .int .u8 0] 31 (0, 0))) := (hK X2.heap.size (by omega)).trans H8_2.out
                  have H9_3 : Hid (X9.heap[Zh]? = some (.cells #[.int .u8 2, .int .i64 s, .int .i64 c, .int .i64 T, .int .i64 M, .int .u8 3] 31 (0, 0))) := (hK Zh (by omega)).trans H8_3.out
                  have H9_4 : Hid (X9.heap[X8.heap.size]? = some (.cells #[.int .u8 2, .int .i64 s, .int .i64 c, .int .i64 T, .int .i64 M, .int .u8 3] 31 (0, 0))) := by rw [← hXe]; exact alloc_at (by omega)
                  have HL9 : Hid (LiveO (TilB (U.heap.size + 4) (st.refund s c) (4 * j + 4)) U (fun (i : Nat) => i = SB ∨ (Value.slice A9 st.es.length c9).ownBlock = some i ∨ i = X2.heap.size ∨ i = Zh ∨ i = X8.heap.size) X9) := by rw [← hXe]; exact (HL8.out.alloc (til_thing _ _ _) (.cells #[.int .u8 2, .int .i64 s, .int .i64 c, .int .i64 T, .int .i64 M, .int .u8 3] 31)).less (N' := (fun (i : Nat) => i = SB ∨ (Value.slice A9 st.es.length c9).ownBlock = some i ∨ i = X2.heap.size ∨ i = Zh ∨ i = X8.heap.size)) (fun i hi => by rcases hi with h0 | h1 | h2 | h3 | h4; exact .inl (.inl h0); exact .inl (.inr (.inl h1)); exact .inl (.inr (.inr (.inl h2))); exact .inl (.inr (.inr (.inr h3))); exact .inr (by omega))
                  have : SB < X9.heap.size := by omega
                  have : X2.heap.size < X9.heap.size := by omega
                  have : Zh < X9.heap.size := by omega
                  have ls9 : U.heap.size ≤ X9.heap.size := by omega
                  have lt9 : X8.heap.size ≤ X9.heap.size := by omega
                  have : X8.heap.size < X9.heap.size := by omega
                  have lg9 : X9.heap.size ≤ X8.heap.size + 1 ∧ X8.heap.size + 1 ≤ X9.heap.size := by omega
                  have : SB < X8.heap.size := by omega
                  have : X2.heap.size < X8.heap.size := by omega
                  have : Zh < X8.heap.size := by omega
                  clear hK HL8 H8_0 H8_1 H8_2 H8_3 c2_0 c2_1 c2_2 c2_3 c2_4 c2_5 c3_0 c3_1 c3_2 c3_3 c3_4 c3_5
                  rw [hXe]
                  clear hXe hz9
                  go_roundw
                  case rel => exact ⟨j + 1, (st.refund s c), A9, c9, by omega, by go_num, by rw [HT], (HF.out.refund (by omega) s3 c3), by rw [HT]; omega, (HL9.out.less (fun i hi => by rcases hi with rfl | hi; exact .inl rfl; exact .inr (.inl (by first | exact hi | (rw [HT] at hi; exact hi))))).imp (fun F hF => hF.mono (by omega)), H9_0, by rw [es_none HSD.out HA0.out]; exact H9_1⟩
                  case measure => simp [intOf]; omega
          · skip
            as_aux_lemma =>
            have HA0 : Hid (¬ (st.tk ((s : Int), (c : Int))).getD 0 = 0) := fun e => h0 (HAM.out.trans e)
            have ha : st.refundA s c = 1 := by unfold Til.refundA; rw [HSD.out, if_neg HA0.out]; rfl
            have HAN := Lib.hid ha
            clear ha
            obtain ⟨c2_0, c2_1, c2_2, c2_3, c2_4, c2_5⟩ := cells6 H3_2.out
            obtain ⟨SW, hSW⟩ : ∃ S : World → Prop, S = (fun w' : World => w'.heap[X2.heap.size]? = some (.cells #[.int .u8 2, .int .i64 s, .int .i64 c, .int .i64 T, .int .i64 M, .int .u8 0] 31 (0, 0)) ∧ w'.cell? (⟨gg, oo + j * 6 + 5, none⟩) = some (.int .u8 v)) := ⟨_, rfl⟩
            have HS0 : Hid (SW X3.drew) := by rw [hSW]; exact ⟨H3_2.out, (World.cell?_of_block (w' := X3.drew) (a := ⟨gg, oo + j * 6 + 5, none⟩) (by (try rw [ad_block]); exact (HL3.out.old).block _ gU)).trans HV.out⟩
            have hN9 : ∀ i, (fun (i : Nat) => i = SB ∨ (Value.slice A9 st.es.length c9).ownBlock = some i ∨ i = X2.heap.size) i → i < X3.heap.size := (fun i hx0 => (hx0.elim (fun (hi : i = SB) => by omega) (fun hx1 => (hx1.elim (fun (hi : _) => (H3_1.out.lt i hi).2) (fun hx2 => ((fun (hi : i = X2.heap.size) => by omega) hx2))))))
            apply region_frame1 (fun Zq w9 => Hid (LiveO (TilB (U.heap.size + 4) (st.refund s c) (4 * j + 4)) U (fun (i : Nat) => i = SB ∨ (Value.slice A9 st.es.length c9).ownBlock = some i ∨ i = X2.heap.size ∨ i = Zq) w9) ∧ Hid (ArrB w9 SB 29 36 (gT st)) ∧ Hid (w9.ownsRow U.heap.size 39 4 (Value.slice A9 st.es.length c9) st.es.length (ecl st.es)) ∧ Hid (w9.heap[X2.heap.size]? = some (.cells #[.int .u8 2, .int .i64 s, .int .i64 c, .int .i64 T, .int .i64 M, .int .u8 0] 31 (0, 0))) ∧ Hid (w9.heap[Zq]? = some (.cells #[.int .u8 2, .int .i64 s, .int .i64 c, .int .i64 T, .int .i64 M, .int .u8 1] 31 (0, 0))) ∧ U.heap.size ≤ w9.heap.size ∧ SB < w9.heap.size ∧ X2.heap.size < w9.heap.size ∧ SB < Zq ∧ X2.heap.size < Zq ∧ Zq < w9.heap.size ∧ U.heap.size ≤ Zq ∧ X3.heap.size ≤ Zq)
            · skip
              refine lane_start (ord := [0, 1, 2, 3, 4, 5, 6, 7, 8, 9, 10, 11, 12, 13]) (S := SW) rfl (by kernel_rfl) (by exact HS0.out) (fun _ => ?_)
              iterate 7 (refine lane_take (v := ?_) rfl (by kernel_rfl) (by kernel_rfl) (by rfl) ?_ (by exact HS0.out) ?_; rotate_left; (focus (intro w9 hSw; rw [hSW] at hSw; obtain ⟨z0, z1⟩ := hSw; obtain ⟨x0, x1, x2, x3, x4, x5⟩ := cells6 z0; (try go_simp); try (with_reducible rfl))); simp only [Act.put, List.setIfInBounds_toArray, List.set_cons_zero, List.set_cons_succ])
              refine lane_two (i := 7) (j := 11) (ordI := [8, 9, 10, 11, 12, 13]) (ordJ := [7, 8, 9, 10, 12, 13]) rfl rfl (by kernel_rfl) rfl (by rfl) (by rfl) (fun KK hKK => ?_) (fun KK hKK => ?_)
              · skip
                go_simp
                refine (trefund_as_live HAN.out rfl (HF.out.num.back (by omega)) (HL3.out.drew (til_thing _ _ _)) (fun i hi => hN9 i hi) hkc (by omega)).mono ?_
                rintro e V9 ⟨rfl, hl, hk⟩
                have hsz : X3.heap.size ≤ V9.heap.size := hk.size
                have hb0 : ArrB V9 SB 29 36 (gT st) := H3_0.out.kept (hk.block SB (.inl rfl))
                have hb1 : V9.ownsRow U.heap.size 39 4 (Value.slice A9 st.es.length c9) st.es.length (ecl st.es) := own_kept H3_1.out (fun i hi => hk.block i (.inr (.inl hi)))
                have hb2 : V9.heap[X2.heap.size]? = some (.cells #[.int .u8 2, .int .i64 s, .int .i64 c, .int .i64 T, .int .i64 M, .int .u8 0] 31 (0, 0)) := (hk.block X2.heap.size (.inr (.inr rfl))).trans H3_2.out
                have HLv := Lib.hid hl
                have hS1 : SW V9 := by rw [hSW]; exact ⟨hb2, (World.cell?_of_block (w' := V9) (a := ⟨gg, oo + j * 6 + 5, none⟩) (by (try rw [ad_block]); exact (HLv.out.old).block _ gU)).trans HV.out⟩
                have HS1 := Lib.hid hS1
                refine hKK _ _ HS1.out (fun _ => ?_)
                clear hKK KK hS1 hl hk
                iterate 3 (refine lane_take (v := ?_) rfl (by kernel_rfl) (by kernel_rfl) (by rfl) ?_ (by exact HS1.out) ?_; rotate_left; (focus (intro w9 hSw; rw [hSW] at hSw; obtain ⟨z0, z1⟩ := hSw; obtain ⟨x0, x1, x2, x3, x4, x5⟩ := cells6 z0; (try go_simp); try (with_reducible rfl))); simp only [Act.put, List.setIfInBounds_toArray, List.set_cons_zero, List.set_cons_succ])
                refine lane_alone rfl (by kernel_rfl) (by rfl) (fun KK hKK => ?_)
                go_simp
                obtain ⟨VA, hVA⟩ : ∃ X, V9.alloc (.cells #[.int .u8 0, .int .i64 0, .int .i64 0, .int .i64 0, .int .i64 0, .int .u8 0] 31) = X := ⟨_, rfl⟩
                rw [hVA]
                have hK9 : ∀ i, i < V9.heap.size → VA.heap[i]? = V9.heap[i]? := fun i hi => by rw [← hVA]; exact alloc_block_old hi
                have HZ : Hid (VA.heap[V9.heap.size]? = some (.cells #[.int .u8 0, .int .i64 0, .int .i64 0, .int .i64 0, .int .i64 0, .int .u8 0] 31 (0, 0))) := by rw [← hVA]; exact alloc_block
                have HLx := HLv.out.alloc (til_thing _ _ _) (.cells #[.int .u8 0, .int .i64 0, .int .i64 0, .int .i64 0, .int .i64 0, .int .u8 0] 31)
                rw [hVA] at HLx
                have HLx := Lib.hid HLx
                have hzz : V9.heap.size < VA.heap.size := by rw [← hVA, World.size_alloc]; omega
                have hzl : X3.heap.size ≤ V9.heap.size := by omega
                have HC0 : Hid (ArrB VA SB 29 36 (gT st)) := hb0.kept (hK9 SB (by omega))
                have HC1 : Hid (VA.ownsRow U.heap.size 39 4 (Value.slice A9 st.es.length c9) st.es.length (ecl st.es)) := own_kept hb1 (fun i hi => hK9 i (hb1.lt i hi).2)
                have hrz1 : ∀ i, (Value.slice A9 st.es.length c9).ownBlock = some i → i ≠ V9.heap.size := fun i hi e => by have := (H3_1.out.lt i hi).2; omega
                have HC2 : Hid (VA.heap[X2.heap.size]? = some (.cells #[.int .u8 2, .int .i64 s, .int .i64 c, .int .i64 T, .int .i64 M, .int .u8 0] 31 (0, 0))) := (hK9 X2.heap.size (by omega)).trans hb2
                have hS2 : SW VA := by rw [hSW]; exact ⟨HC2.out, (World.cell?_of_block (w' := VA) (a := ⟨gg, oo + j * 6 + 5, none⟩) (by (try rw [ad_block]); exact (HLx.out.old).block _ gU)).trans HV.out⟩
                have HS2 := Lib.hid hS2
                refine hKK _ _ HS2.out (fun _ => ?_)
                clear hKK KK hS2
                clear hb0 hb1 hb2
                generalize hzn : V9.heap.size = ZZ at *
                refine lane_alone rfl (by kernel_rfl) (by rfl) (fun KK hKK => ?_)
                refine wp_store_row _ _ _ rfl ZZ _ rfl rfl _ _ HZ.out (by exact tnotice_info) rfl (by simp [Value.oneCell']) ?_
                rw [row_boxed HZ.out]
                obtain ⟨VB, hVB⟩ : ∃ X, boxed VA ZZ #[.int .u8 2, .int .i64 s, .int .i64 c, .int .i64 T, .int .i64 M, .int .u8 1] 31 = X := ⟨_, rfl⟩
                rw [hVB]
                have hzB : VB.heap.size = VA.heap.size := by rw [← hVB, boxed_size]
                have HD0 : Hid (ArrB VB SB 29 36 (gT st)) := by rw [← hVB]; exact HC0.out.kept (boxed_block_other (by omega))
                have HD1 : Hid (VB.ownsRow U.heap.size 39 4 (Value.slice A9 st.es.length c9) st.es.length (ecl st.es)) := by rw [← hVB]; exact own_kept HC1.out (fun i hi => boxed_block_other (hrz1 i hi))
                have HD2 : Hid (VB.heap[X2.heap.size]? = some (.cells #[.int .u8 2, .int .i64 s, .int .i64 c, .int .i64 T, .int .i64 M, .int .u8 0] 31 (0, 0))) := by rw [← hVB]; exact boxed_old (by omega) HC2.out
                have HLy := HLx.out.boxed (til_thing _ _ _) (g := ZZ) (cs := #[.int .u8 2, .int .i64 s, .int .i64 c, .int .i64 T, .int .i64 M, .int .u8 1]) (t := 31) (.inr rfl) (by omega)
                rw [hVB] at HLy
                have HLy := Lib.hid HLy
                have hS4 : SW VB := by rw [hSW]; exact ⟨HD2.out, (World.cell?_of_block (w' := VB) (a := ⟨gg, oo + j * 6 + 5, none⟩) (by (try rw [ad_block]); exact (HLy.out.old).block _ gU)).trans HV.out⟩
                have HS4 := Lib.hid hS4
                refine hKK _ _ (by exact HS4.out) (fun _ => ?_)
                clear hKK KK hS4
                iterate 1 (refine lane_take (v := ?_) rfl (by kernel_rfl) (by kernel_rfl) (by rfl) ?_ (by exact HS4.out) ?_; rotate_left; (focus (intro w9 hSw; rw [hSW] at hSw; obtain ⟨z0, z1⟩ := hSw; obtain ⟨x0, x1, x2, x3, x4, x5⟩ := cells6 z0; (try go_simp); try (with_reducible rfl))); simp only [Act.put, List.setIfInBounds_toArray, List.set_cons_zero, List.set_cons_succ])
                refine lane_end (by kernel_rfl) ?_
                refine ⟨rfl, ZZ, rfl, (HLy.out.less (fun i hi => by rcases hi with h0 | h1 | h2 | h3; exact .inl (.inl h0); exact .inl (.inr (.inl h1)); exact .inl (.inr (.inr h2)); exact .inr h3)), HD0.out, HD1.out, HD2.out, (by rw [← hVB]; exact boxed_at hzz), by omega, by omega, by omega, by omega, by omega, by omega, by omega, by omega⟩
              · skip
                go_simp
                have hK9 : ∀ i, i < X3.heap.size → ((X3.alloc (.cells #[.int .u8 0, .int .i64 0, .int .i64 0, .int .i64 0, .int .i64 0, .int .u8 0] 31)).drew).heap[i]? = X3.heap[i]? := fun i hi => alloc_block_old (w := X3) hi
                have hd0 : ArrB ((X3.alloc (.cells #[.int .u8 0, .int .i64 0, .int .i64 0, .int .i64 0, .int .i64 0, .int .u8 0] 31)).drew) SB 29 36 (gT st) := H3_0.out.kept (hK9 SB (by omega))
                have hd1 : ((X3.alloc (.cells #[.int .u8 0, .int .i64 0, .int .i64 0, .int .i64 0, .int .i64 0, .int .u8 0] 31)).drew).ownsRow U.heap.size 39 4 (Value.slice A9 st.es.length c9) st.es.length (ecl st.es) := own_kept H3_1.out (fun i hi => hK9 i (H3_1.out.lt i hi).2)
                have hd2 : ((X3.alloc (.cells #[.int .u8 0, .int .i64 0, .int .i64 0, .int .i64 0, .int .i64 0, .int .u8 0] 31)).drew).heap[X2.heap.size]? = some (.cells #[.int .u8 2, .int .i64 s, .int .i64 c, .int .i64 T, .int .i64 M, .int .u8 0] 31 (0, 0)) := (hK9 X2.heap.size (by omega)).trans H3_2.out
                have hS2 : SW ((X3.alloc (.cells #[.int .u8 0, .int .i64 0, .int .i64 0, .int .i64 0, .int .i64 0, .int .u8 0] 31)).drew) := by rw [hSW]; exact ⟨hd2, (World.cell?_of_block (w' := ((X3.alloc (.cells #[.int .u8 0, .int .i64 0, .int .i64 0, .int .i64 0, .int .i64 0, .int .u8 0] 31)).drew)) (a := ⟨gg, oo + j * 6 + 5, none⟩) (by (try rw [ad_block]); exact ((HL3.out.old.alloc HL3.out.old.size (.cells #[.int .u8 0, .int .i64 0, .int .i64 0, .int .i64 0, .int .i64 0, .int .u8 0] 31))).block _ gU)).trans HV.out⟩
                have HS2 := Lib.hid hS2
                refine hKK _ _ HS2.out (fun _ => ?_)
                clear hKK KK hS2
                refine lane_alone rfl (by kernel_rfl) (by rfl) (fun KK hKK => ?_)
                go_simp
                refine (trefund_as_live HAN.out rfl (HF.out.num.back (by omega)) ((HL3.out.alloc (til_thing _ _ _) (.cells #[.int .u8 0, .int .i64 0, .int .i64 0, .int .i64 0, .int .i64 0, .int .u8 0] 31)).drew (til_thing _ _ _)) (fun i hi => by show i < (X3.alloc (.cells #[.int .u8 0, .int .i64 0, .int .i64 0, .int .i64 0, .int .i64 0, .int .u8 0] 31)).heap.size; rw [World.size_alloc]; rcases hi with hi | hi; exact Nat.lt_succ_of_lt (hN9 i hi); omega) hkc (by omega)).mono ?_
                rintro e V9 ⟨rfl, hl, hk0⟩
                have hk : KeptO U (fun (i : Nat) => i = SB ∨ (Value.slice A9 st.es.length c9).ownBlock = some i ∨ i = X2.heap.size) ((X3.alloc (.cells #[.int .u8 0, .int .i64 0, .int .i64 0, .int .i64 0, .int .i64 0, .int .u8 0] 31)).drew) V9 := ⟨hk0.size, fun i hi => hk0.block i (.inl hi), hk0.old⟩
                have hsz : (X3.alloc (.cells #[.int .u8 0, .int .i64 0, .int .i64 0, .int .i64 0, .int .i64 0, .int .u8 0] 31)).heap.size ≤ V9.heap.size := hk.size
                rw [World.size_alloc] at hsz
                have hb0 : ArrB V9 SB 29 36 (gT st) := hd0.kept (hk.block SB (.inl rfl))
                have hb1 : V9.ownsRow U.heap.size 39 4 (Value.slice A9 st.es.length c9) st.es.length (ecl st.es) := own_kept hd1 (fun i hi => hk.block i (.inr (.inl hi)))
                have hb2 : V9.heap[X2.heap.size]? = some (.cells #[.int .u8 2, .int .i64 s, .int .i64 c, .int .i64 T, .int .i64 M, .int .u8 0] 31 (0, 0)) := (hk.block X2.heap.size (.inr (.inr rfl))).trans hd2
                have HZ : Hid (V9.heap[X3.heap.size]? = some (.cells #[.int .u8 0, .int .i64 0, .int .i64 0, .int .i64 0, .int .i64 0, .int .u8 0] 31 (0, 0))) := (hk0.block _ (.inr rfl)).trans (show (X3.alloc (.cells #[.int .u8 0, .int .i64 0, .int .i64 0, .int .i64 0, .int .i64 0, .int .u8 0] 31)).heap[_]? = _ from alloc_block)
                have HLx := Lib.hid hl
                have hS3 : SW V9 := by rw [hSW]; exact ⟨hb2, (World.cell?_of_block (w' := V9) (a := ⟨gg, oo + j * 6 + 5, none⟩) (by (try rw [ad_block]); exact (HLx.out.old).block _ gU)).trans HV.out⟩
                have HS2 := Lib.hid hS3
                refine hKK _ _ HS2.out (fun _ => ?_)
                clear hKK KK hS3 hl hk hk0
                iterate 3 (refine lane_take (v := ?_) rfl (by kernel_rfl) (by kernel_rfl) (by rfl) ?_ (by exact HS2.out) ?_; rotate_left; (focus (intro w9 hSw; rw [hSW] at hSw; obtain ⟨z0, z1⟩ := hSw; obtain ⟨x0, x1, x2, x3, x4, x5⟩ := cells6 z0; (try go_simp); try (with_reducible rfl))); simp only [Act.put, List.setIfInBounds_toArray, List.set_cons_zero, List.set_cons_succ])
                have hzz : X3.heap.size < V9.heap.size := by omega
                have hzl : X3.heap.size ≤ X3.heap.size := by omega
                have HC0 : Hid (ArrB V9 SB 29 36 (gT st)) := hb0
                have HC1 : Hid (V9.ownsRow U.heap.size 39 4 (Value.slice A9 st.es.length c9) st.es.length (ecl st.es)) := hb1
                have hrz1 : ∀ i, (Value.slice A9 st.es.length c9).ownBlock = some i → i ≠ X3.heap.size := fun i hi e => by have := (H3_1.out.lt i hi).2; omega
                have HC2 : Hid (V9.heap[X2.heap.size]? = some (.cells #[.int .u8 2, .int .i64 s, .int .i64 c, .int .i64 T, .int .i64 M, .int .u8 0] 31 (0, 0))) := hb2
                clear hb0 hb1 hb2
                generalize hzn : X3.heap.size = ZZ at *
                refine lane_alone rfl (by kernel_rfl) (by rfl) (fun KK hKK => ?_)
                refine wp_store_row _ _ _ rfl ZZ _ rfl rfl _ _ HZ.out (by exact tnotice_info) rfl (by simp [Value.oneCell']) ?_
                rw [row_boxed HZ.out]
                obtain ⟨VB, hVB⟩ : ∃ X, boxed V9 ZZ #[.int .u8 2, .int .i64 s, .int .i64 c, .int .i64 T, .int .i64 M, .int .u8 1] 31 = X := ⟨_, rfl⟩
                rw [hVB]
                have hzB : VB.heap.size = V9.heap.size := by rw [← hVB, boxed_size]
                have HD0 : Hid (ArrB VB SB 29 36 (gT st)) := by rw [← hVB]; exact HC0.out.kept (boxed_block_other (by omega))
                have HD1 : Hid (VB.ownsRow U.heap.size 39 4 (Value.slice A9 st.es.length c9) st.es.length (ecl st.es)) := by rw [← hVB]; exact own_kept HC1.out (fun i hi => boxed_block_other (hrz1 i hi))
                have HD2 : Hid (VB.heap[X2.heap.size]? = some (.cells #[.int .u8 2, .int .i64 s, .int .i64 c, .int .i64 T, .int .i64 M, .int .u8 0] 31 (0, 0))) := by rw [← hVB]; exact boxed_old (by omega) HC2.out
                have HLy := HLx.out.boxed (til_thing _ _ _) (g := ZZ) (cs := #[.int .u8 2, .int .i64 s, .int .i64 c, .int .i64 T, .int .i64 M, .int .u8 1]) (t := 31) (.inr rfl) (by omega)
                rw [hVB] at HLy
                have HLy := Lib.hid HLy
                have hS4 : SW VB := by rw [hSW]; exact ⟨HD2.out, (World.cell?_of_block (w' := VB) (a := ⟨gg, oo + j * 6 + 5, none⟩) (by (try rw [ad_block]); exact (HLy.out.old).block _ gU)).trans HV.out⟩
                have HS4 := Lib.hid hS4
                refine hKK _ _ (by exact HS4.out) (fun _ => ?_)
                clear hKK KK hS4
                iterate 1 (refine lane_take (v := ?_) rfl (by kernel_rfl) (by kernel_rfl) (by rfl) ?_ (by exact HS4.out) ?_; rotate_left; (focus (intro w9 hSw; rw [hSW] at hSw; obtain ⟨z0, z1⟩ := hSw; obtain ⟨x0, x1, x2, x3, x4, x5⟩ := cells6 z0; (try go_simp); try (with_reducible rfl))); simp only [Act.put, List.setIfInBounds_toArray, List.set_cons_zero, List.set_cons_succ])
                refine lane_end (by kernel_rfl) ?_
                refine ⟨rfl, ZZ, rfl, (HLy.out.less (fun i hi => by rcases hi with h0 | h1 | h2 | h3; exact .inl (.inl h0); exact .inl (.inr (.inl h1)); exact .inl (.inr (.inr h2)); exact .inr h3)), HD0.out, HD1.out, HD2.out, (by rw [← hVB]; exact boxed_at hzz), by omega, by omega, by omega, by omega, by omega, by omega, by omega, by omega⟩
            rintro Zh X4 ⟨HL4, H4_0, H4_1, H4_2, HZ9, ls4, lc9_0, lc9_1, ld9_0, ld9_1, le9, lf9, lt4⟩
            have H4_3 := HZ9
            clear HZ9
            obtain ⟨c2_0, c2_1, c2_2, c2_3, c2_4, c2_5⟩ := cells6 H4_2.out
            go_wp2_with (fail)
            have z0 : X4.cell? ⟨SB, s * 12 + c * 4, none⟩ = some (.int .u8 0) := by rw [H4_0.out.cell (by omega), gT_rf c3, HSD.out]; rfl
            go_quiet (fail)
            have hK : ∀ i, i < X4.heap.size → (X4.drewN nq).heap[i]? = X4.heap[i]? := fun i hi => rfl
            obtain ⟨X5, hXe⟩ : ∃ X, (X4.drewN nq) = X := ⟨_, rfl⟩
            rw [hXe] at hK
            have hz9 : X5.heap.size = X4.heap.size := by rw [← hXe]; rfl
            have H5_0 : Hid (ArrB X5 SB 29 36 (gT st)) := H4_0.out.kept (hK SB (by omega))
            have H5_1 : Hid (X5.ownsRow U.heap.size 39 4 (Value.slice A9 st.es.length c9) st.es.length (ecl st.es)) := own_kept H4_1.out (fun i hi => hK i (H4_1.out.lt i hi).2)
            have H5_2 : Hid (X5.heap[X2.heap.size]? = some (.cells #[.int .u8 2, .int .i64 s, .int .i64 c, .int .i64 T, .int .i64 M, .int .u8 0] 31 (0, 0))) := (hK X2.heap.size (by omega)).trans H4_2.out
            have H5_3 : Hid (X5.heap[Zh]? = some (.cells #[.int .u8 2, .int .i64 s, .int .i64 c, .int .i64 T, .int .i64 M, .int .u8 1] 31 (0, 0))) := (hK Zh (by omega)).trans H4_3.out
            have HL5 : Hid (LiveO (TilB (U.heap.size + 4) (st.refund s c) (4 * j + 4)) U (fun (i : Nat) => i = SB ∨ (Value.slice A9 st.es.length c9).ownBlock = some i ∨ i = X2.heap.size ∨ i = Zh) X5) := by rw [← hXe]; exact HL4.out.below (til_thing _ _ _) (Below.drewN' (Below.refl _ _) _)
            have : SB < X5.heap.size := by omega
            have : X2.heap.size < X5.heap.size := by omega
            have : Zh < X5.heap.size := by omega
            have ls5 : U.heap.size ≤ X5.heap.size := by omega
            have lt5 : X4.heap.size ≤ X5.heap.size := by omega
            clear hK HL4 H4_0 H4_1 H4_2 H4_3 c2_0 c2_1 c2_2 c2_3 c2_4 c2_5 z0
            rw [hXe]
            clear hXe hz9
            go_wp2
            go_loopw [12, 13] (fun tk i wq => ∃ a : Nat, a ≤ st.es.length ∧ i = .int .i64 a ∧ tk = .int .i64 (sumC (st.es.take a) s c) ∧ Hid (Below X5.heap.size X5 wq)) (fun tk i _ => st.es.length - (intOf i).toNat)
            case atStart => exact ⟨0, by omega, rfl, rfl, Below.refl _ _⟩
            case round =>
              obtain ⟨a, ha, rfl, rfl, HB9⟩ := hrel
              have lb : X5.heap.size ≤ wr.heap.size := HB9.out.size
              by_cases hat : a < st.es.length
              case pos =>
                have da : decide ((a : Int) < (st.es.length : Int)) = true := by simpa using hat
                obtain ⟨e0, hej⟩ : ∃ e, st.es[a]? = some e := ⟨st.es[a], List.getElem?_eq_getElem hat⟩
                obtain ⟨q1, rfl⟩ : ∃ q, A9 = some ⟨q, 0, none⟩ := by
                  rcases H5_1.out.2 with ⟨_, hn⟩ | ⟨q, cap, cur, hv, _⟩
                  · omega
                  · injection hv with hA; exact ⟨q, hA⟩
                have hq1 : q1 < wr.heap.size := by have := (H5_1.out.lt q1 rfl).2; omega
                have hnb : X2.heap.size < wr.heap.size := by omega
                have u0 : wr.cell? ⟨q1, a * 4, none⟩ = some (.int .i64 e0.s) := (World.cell?_of_block (a := ⟨q1, a * 4, none⟩) (HB9.out.block q1 (H5_1.out.lt q1 rfl).2)).trans (by have := H5_1.out.cells (g := q1) rfl (a * 4) _ (ecl_at hej).1; rwa [ad_head] at this)
                have u1 : wr.cell? ⟨q1, a * 4 + 1, none⟩ = some (.int .i64 e0.c) := (World.cell?_of_block (a := ⟨q1, a * 4 + 1, none⟩) (HB9.out.block q1 (H5_1.out.lt q1 rfl).2)).trans (by have := H5_1.out.cells (g := q1) rfl (a * 4 + 1) _ (ecl_at hej).2.1; rwa [ad_head] at this)
                have u2 : wr.cell? ⟨q1, a * 4 + 2, none⟩ = some (.int .i64 e0.t) := (World.cell?_of_block (a := ⟨q1, a * 4 + 2, none⟩) (HB9.out.block q1 (H5_1.out.lt q1 rfl).2)).trans (by have := H5_1.out.cells (g := q1) rfl (a * 4 + 2) _ (ecl_at hej).2.2.1; rwa [ad_head] at this)
                have u3 : wr.cell? ⟨q1, a * 4 + 3, none⟩ = some (.int .i64 e0.a) := (World.cell?_of_block (a := ⟨q1, a * 4 + 3, none⟩) (HB9.out.block q1 (H5_1.out.lt q1 rfl).2)).trans (by have := H5_1.out.cells (g := q1) rfl (a * 4 + 3) _ (ecl_at hej).2.2.2; rwa [ad_head] at this)
                have y1 : wr.cell? ⟨X2.heap.size, 1, none⟩ = some (.int .i64 s) := (World.cell?_of_block (a := ⟨X2.heap.size, 1, none⟩) (HB9.out.block _ (by show X2.heap.size < _; omega))).trans (by rw [cell_of_row _ _ _ _ _ _ H5_2.out]; rfl)
                have y2 : wr.cell? ⟨X2.heap.size, 2, none⟩ = some (.int .i64 c) := (World.cell?_of_block (a := ⟨X2.heap.size, 2, none⟩) (HB9.out.block _ (by show X2.heap.size < _; omega))).trans (by rw [cell_of_row _ _ _ _ _ _ H5_2.out]; rfl)
                have ka0 : (0 : Int) ≤ (a : Int) := by omega
                have kat : (a : Int) < (st.es.length : Int) := by omega
                have HNX : Hid (sumC (st.es.take (a + 1)) s c = sumC (st.es.take a) s c + (if e0.s = s ∧ e0.c = c then e0.val else 0)) := by show _ = _; rw [List.take_succ_eq_append_getElem hat, sumC_append, sumC_one]; rw [List.getElem?_eq_getElem hat] at hej; injection hej with hej; rw [hej]
                have hEO := (HF.out.es e0 (List.mem_of_getElem? hej)).a
                have hsm := sumC_le (l := st.es.take a) (fun e he => HF.out.es e (List.mem_of_mem_take he)) (s : Int) (c : Int)
                rw [List.length_take] at hsm
                have hsm1 : -240000000 ≤ sumC (st.es.take a) s c ∧ sumC (st.es.take a) s c ≤ 240000000 := by omega
                unfold Ent.val at HNX
                generalize sumC (st.es.take a) s c = sm at *
                clear hej hsm
                obtain ⟨es, ec, et, ea⟩ := e0
                simp only at u0 u1 u2 u3 HNX hEO
                by_cases h1 : es = (s : Int)
                · have p1 : (es == (s : Int)) = true := by simpa using h1
                  by_cases h2 : ec = (c : Int)
                  · have p2 : (ec == (c : Int)) = true := by simpa using h2
                    by_cases h3 : 0 < et
                    · skip
                      have HNY : Hid (sumC (st.es.take (a + 1)) s c = sm + ea) := by show _ = _; rw [HNX.out, if_pos ⟨h1, h2⟩, if_pos h3]
                      have p3 : decide (0 < et) = true := by simpa using h3
                      clear h1 h2 h3
                      clear HNX
                      go_wp2_with (fail)
                      go_quiet (fail)
                      go_wp2
                      go_roundw
                      case rel => exact ⟨a + 1, by omega, by go_num, by rw [HNY.out], Below.drewN' HB9.out _⟩
                      case measure => simp [intOf]; omega
                    · skip
                      have HNY : Hid (sumC (st.es.take (a + 1)) s c = sm - ea) := by show _ = _; rw [HNX.out, if_pos ⟨h1, h2⟩, if_neg h3]; omega
                      have p3 : decide (0 < et) = false := by simpa using h3
                      clear h1 h2 h3
                      clear HNX
                      go_wp2_with (fail)
                      go_quiet (fail)
                      go_wp2
                      go_roundw
                      case rel => exact ⟨a + 1, by omega, by go_num, by rw [HNY.out], Below.drewN' HB9.out _⟩
                      case measure => simp [intOf]; omega
                  · have p2 : (ec == (c : Int)) = false := by simpa using h2
                    have HNY : Hid (sumC (st.es.take (a + 1)) s c = sm) := by show _ = _; rw [HNX.out, if_neg (fun e => h2 e.2)]; omega
                    clear h1 h2
                    clear HNX
                    go_wp2_with (fail)
                    go_quiet (fail)
                    go_wp2
                    go_roundw
                    case rel => exact ⟨a + 1, by omega, by go_num, by rw [HNY.out], Below.drewN' HB9.out _⟩
                    case measure => simp [intOf]; omega
                · have p1 : (es == (s : Int)) = false := by simpa using h1
                  have HNY : Hid (sumC (st.es.take (a + 1)) s c = sm) := by show _ = _; rw [HNX.out, if_neg (fun e => h1 e.1)]; omega
                  clear h1
                  clear HNX
                  go_wp2_with (fail)
                  go_quiet (fail)
                  go_wp2
                  go_roundw
                  case rel => exact ⟨a + 1, by omega, by go_num, by rw [HNY.out], Below.drewN' HB9.out _⟩
                  case measure => simp [intOf]; omega
              case neg =>
                obtain rfl : a = st.es.length := by omega
                have da : decide ((st.es.length : Int) < (st.es.length : Int)) = false := by simp
                rw [List.take_length, ← HF.out.tk s c]
                have hb9 := HB9.out
                clear hat lb ha
                have hK : ∀ i, i < X5.heap.size → wr.heap[i]? = X5.heap[i]? := fun i hi => hb9.block i hi
                have hsz : X5.heap.size ≤ wr.heap.size := hb9.size
                have H6_0 : Hid (ArrB wr SB 29 36 (gT st)) := H5_0.out.kept (hK SB (by omega))
                have H6_1 : Hid (wr.ownsRow U.heap.size 39 4 (Value.slice A9 st.es.length c9) st.es.length (ecl st.es)) := own_kept H5_1.out (fun i hi => hK i (H5_1.out.lt i hi).2)
                have H6_2 : Hid (wr.heap[X2.heap.size]? = some (.cells #[.int .u8 2, .int .i64 s, .int .i64 c, .int .i64 T, .int .i64 M, .int .u8 0] 31 (0, 0))) := (hK X2.heap.size (by omega)).trans H5_2.out
                have H6_3 : Hid (wr.heap[Zh]? = some (.cells #[.int .u8 2, .int .i64 s, .int .i64 c, .int .i64 T, .int .i64 M, .int .u8 1] 31 (0, 0))) := (hK Zh (by omega)).trans H5_3.out
                have HL6 : Hid (LiveO (TilB (U.heap.size + 4) (st.refund s c) (4 * j + 4)) U (fun (i : Nat) => i = SB ∨ (Value.slice A9 st.es.length c9).ownBlock = some i ∨ i = X2.heap.size ∨ i = Zh) wr) := HL5.out.below (til_thing _ _ _) hb9
                have : SB < wr.heap.size := by omega
                have : X2.heap.size < wr.heap.size := by omega
                have : Zh < wr.heap.size := by omega
                have ls6 : U.heap.size ≤ wr.heap.size := by omega
                have lt6 : X5.heap.size ≤ wr.heap.size := by omega
                clear hsz hb9
                clear hK HL5 H5_0 H5_1 H5_2 H5_3
                rw [← HAM.out]
                clear HAN
                have hpos : decide (0 < am) = true := by simp; omega
                have z3 : wr.cell? ⟨gg, oo + j * 6 + 5, none⟩ = some (.int .u8 v) := (World.cell?_of_block (a := ⟨gg, oo + j * 6 + 5, none⟩) (HL6.out.old.block _ gU)).trans HV.out
                have hvs : v < 1 ∨ 3 < v ∨ (¬ v < 1 ∧ ¬ 3 < v) := by omega
                rcases hvs with hv | hv | hv
                · skip
                  as_aux_lemma =>
                  have e1 : decide (v < 1) = true := by simpa using hv
                  obtain ⟨c2_0, c2_1, c2_2, c2_3, c2_4, c2_5⟩ := cells6 H6_2.out
                  obtain ⟨it9, hit, hz0, hz1, hz2⟩ := info_parts ent_info
                  go_wp2_with (at_builtin; refine wpList_append_own_at _ rfl _ _ 26 rfl U.heap.size 39 it9 _ 4 32 Try.underlying26 hit hz0 hz1 hz2 rfl (by decide) _ _ _ rfl (show (wr.alloc (.cells #[.int .i64 s, .int .i64 c, .int .i64 0, .int .i64 am] 39)).ownsRow _ _ _ _ _ _ from own_kept H6_1.out fun i hi => alloc_block_old (H6_1.out.lt i hi).2) ⟨wr.heap.size, 0, none⟩ 1 1 (ecl [(⟨s, c, 0, am⟩ : Ent)]) rfl rfl (fun j u hu => by rw [ad_head, cell_of_row _ _ _ _ _ (0, 0) alloc_block]; simpa [ecl] using hu) (ecl_one _) (by unfold maxLen; omega) (by omega) (by rw [World.size_alloc]; omega) ?_; intro v9 X7 ho9 hg9 hn9 hat9; obtain ⟨A10, c10, rfl, hnc9, hcm9⟩ := own_form ho9)
                  have hsz9 : wr.heap.size ≤ X7.heap.size := by have := hg9.size; rw [World.size_alloc] at this; omega
                  have hK : ∀ i, i < wr.heap.size → (Value.slice A9 st.es.length c9).ownBlock ≠ some i → X7.heap[i]? = wr.heap[i]? := fun i hi hne => (hg9.block i (by rw [World.size_alloc]; omega) fun e => hne e.symm).trans (alloc_block_old hi)
                  have hE9 : wr.heap.size ≤ (wr.alloc (.cells #[.int .i64 s, .int .i64 c, .int .i64 0, .int .i64 am] 39)).heap.size := by rw [World.size_alloc]; omega
                  have H7_0 : Hid (ArrB X7 SB 29 36 (gT st)) := H6_0.out.kept (hK SB (by omega) (own_ne_arr H6_1.out H6_0.out (by decide)))
                  have H7_1 : Hid (X7.ownsRow U.heap.size 39 4 (Value.slice A10 (st.es.length + 1) c10) (st.refund s c).es.length (ecl (st.refund s c).es)) := by have h9 := ho9; rw [← ecl_append] at h9; rw [es_back HSD.out HA0.out, List.length_append, ← HAM.out]; exact h9
                  have H7_2 : Hid (X7.heap[X2.heap.size]? = some (.cells #[.int .u8 2, .int .i64 s, .int .i64 c, .int .i64 T, .int .i64 M, .int .u8 0] 31 (0, 0))) := (hK X2.heap.size (by omega) (own_ne H6_1.out H6_2.out (by decide))).trans H6_2.out
                  have H7_3 : Hid (X7.heap[Zh]? = some (.cells #[.int .u8 2, .int .i64 s, .int .i64 c, .int .i64 T, .int .i64 M, .int .u8 1] 31 (0, 0))) := (hK Zh (by omega) (own_ne H6_1.out H6_3.out (by decide))).trans H6_3.out
                  have HL7 : Hid (LiveO (TilB (U.heap.size + 4) (st.refund s c) (4 * j + 4)) U (fun (i : Nat) => i = SB ∨ (Value.slice A10 (st.es.length + 1) c10).ownBlock = some i ∨ i = X2.heap.size ∨ i = Zh) X7) := (HL6.out.grown (til_thing _ _ _) hsz9 (fun j hj hn => hK j hj (fun e => hn (.inr (.inl e)))) (Below.grown (HL6.out.old.alloc ls6 (.cells #[.int .i64 s, .int .i64 c, .int .i64 0, .int .i64 am] 39)) hg9 (by rw [World.size_alloc]; omega) (fun k hk => (H6_1.out.lt k hk).1))).less (N' := (fun (i : Nat) => i = SB ∨ (Value.slice A10 (st.es.length + 1) c10).ownBlock = some i ∨ i = X2.heap.size ∨ i = Zh)) (fun i hi => by rcases hi with h0 | h1 | h2 | h3; exact .inl (.inl h0); exact (hat9.elim (fun e => .inl (.inr (.inl (e.symm.trans h1)))) (fun e => .inr (by have h8 := h1; rw [e] at h8; injection h8 with h8; subst h8; exact hE9))); exact .inl (.inr (.inr (.inl h2))); exact .inl (.inr (.inr (.inr h3))))
                  have : SB < X7.heap.size := by omega
                  have : X2.heap.size < X7.heap.size := by omega
                  have : Zh < X7.heap.size := by omega
                  have ls7 : U.heap.size ≤ X7.heap.size := by omega
                  have lt7 : wr.heap.size ≤ X7.heap.size := by omega
                  clear hK HL6 H6_0 H6_1 H6_2 H6_3 z3 c2_0 c2_1 c2_2 c2_3 c2_4 c2_5
                  clear hsz9 hE9 ho9 hg9 hat9
                  go_wp2_with (fail)
                  obtain ⟨SW, hSW⟩ : ∃ S : World → Prop, S = (fun w' : World => w'.heap[X2.heap.size]? = some (.cells #[.int .u8 2, .int .i64 s, .int .i64 c, .int .i64 T, .int .i64 M, .int .u8 0] 31 (0, 0))) := ⟨_, rfl⟩
                  have HS0 : Hid (SW X7.drew) := by rw [hSW]; exact (show _ from H7_2.out)
                  refine lane_start (ord := [0, 1, 2, 3, 4, 5, 6, 7, 8, 9]) (S := SW) rfl (by kernel_rfl) (by exact HS0.out) (fun _ => ?_)
                  iterate 9 (refine lane_take (v := ?_) rfl (by kernel_rfl) (by kernel_rfl) (by rfl) ?_ (by exact HS0.out) ?_; rotate_left; (focus (intro w9 hSw; rw [hSW] at hSw; have z0 := hSw; obtain ⟨x0, x1, x2, x3, x4, x5⟩ := cells6 z0; (try go_simp); try (with_reducible rfl))); simp only [Act.put, List.setIfInBounds_toArray, List.set_cons_zero, List.set_cons_succ])
                  refine lane_alone rfl (by kernel_rfl) (by rfl) (fun KK hKK => ?_)
                  have hA9 : ArrB X7.drew SB 29 36 (gT st) := H7_0.out
                  refine wp_of_skip (exec_store_one rfl (by rfl) rfl (by kernel_rfl) rfl (hA9.cell (i := s * 12 + c * 4) (by omega)) (hA9.frozen _)) ?_
                  have hS9 : SW (X7.drew.setCell ⟨SB, s * 12 + c * 4, none⟩ (.int .u8 1)) := by rw [hSW]; exact (setCell_other (by omega)).trans H7_2.out
                  refine hKK _ _ (by exact hS9) (fun _ => ?_)
                  clear hKK KK hA9 HS0 hS9
                  refine lane_end (by kernel_rfl) ?_
                  change Exit.then _ _ Exit.normal _ (X7.drew.setCell ⟨SB, s * 12 + c * 4, none⟩ (.int .u8 1))
                  have hK : ∀ i, i < X7.heap.size → X7.drew.heap[i]? = X7.heap[i]? := fun i hi => rfl
                  obtain ⟨X8, hXe⟩ : ∃ X, X7.drew = X := ⟨_, rfl⟩
                  rw [hXe] at hK
                  have hz9 : X8.heap.size = X7.heap.size := by rw [← hXe]; rfl
                  have H8_0 : Hid (ArrB X8 SB 29 36 (gT st)) := H7_0.out.kept (hK SB (by omega))
                  have H8_1 : Hid (X8.ownsRow U.heap.size 39 4 (Value.slice A10 (st.es.length + 1) c10) (st.refund s c).es.length (ecl (st.refund s c).es)) := own_kept H7_1.out (fun i hi => hK i (H7_1.out.lt i hi).2)
                  have H8_2 : Hid (X8.heap[X2.heap.size]? = some (.cells #[.int .u8 2, .int .i64 s, .int .i64 c, .int .i64 T, .int .i64 M, .int .u8 0] 31 (0, 0))) := (hK X2.heap.size (by omega)).trans H7_2.out
                  have H8_3 : Hid (X8.heap[Zh]? = some (.cells #[.int .u8 2, .int .i64 s, .int .i64 c, .int .i64 T, .int .i64 M, .int .u8 1] 31 (0, 0))) := (hK Zh (by omega)).trans H7_3.out
                  have HL8 : Hid (LiveO (TilB (U.heap.size + 4) (st.refund s c) (4 * j + 4)) U (fun (i : Nat) => i = SB ∨ (Value.slice A10 (st.es.length + 1) c10).ownBlock = some i ∨ i = X2.heap.size ∨ i = Zh) X8) := by rw [← hXe]; exact HL7.out.drew (til_thing _ _ _)
                  have : SB < X8.heap.size := by omega
                  have : X2.heap.size < X8.heap.size := by omega
                  have : Zh < X8.heap.size := by omega
                  have ls8 : U.heap.size ≤ X8.heap.size := by omega
                  have lt8 : X7.heap.size ≤ X8.heap.size := by omega
                  have lu8 : X8.heap.size ≤ X7.heap.size := by omega
                  clear hK HL7 H7_0 H7_1 H7_2 H7_3
                  rw [hXe]
                  clear hXe hz9
                  have hK : ∀ i, i < X8.heap.size → i ≠ SB → (X8.setCell ⟨SB, s * 12 + c * 4, none⟩ (.int .u8 1)).heap[i]? = X8.heap[i]? := fun i _ hi => setCell_other hi
                  obtain ⟨X9, hXe⟩ : ∃ X, (X8.setCell ⟨SB, s * 12 + c * 4, none⟩ (.int .u8 1)) = X := ⟨_, rfl⟩
                  rw [hXe] at hK
                  have hz9 : X9.heap.size = X8.heap.size := by rw [← hXe, setCell_size]
                  have H9_0 : Hid (ArrB X9 SB 29 36 (gT (st.refund s c))) := by rw [← hXe]; exact (H8_0.out.set (s * 12 + c * 4) _).congr (fun i _ => by have h9 := said_refund (st := st) (s := s) c3 HSD.out i; rw [if_neg HA0.out] at h9; exact h9)
                  have H9_1 : Hid (X9.ownsRow U.heap.size 39 4 (Value.slice A10 (st.es.length + 1) c10) (st.refund s c).es.length (ecl (st.refund s c).es)) := own_kept H8_1.out (fun i hi => hK i (H8_1.out.lt i hi).2 (fun e => own_ne_arr H8_1.out H8_0.out (by decide) (hi.trans (by rw [e]))))
                  have H9_2 : Hid (X9.heap[X2.heap.size]? = some (.cells #[.int .u8 2, .int .i64 s, .int .i64 c, .int .i64 T, .int .i64 M, .int .u8 0] 31 (0, 0))) := (hK X2.heap.size (by omega) (by omega)).trans H8_2.out
                  have H9_3 : Hid (X9.heap[Zh]? = some (.cells #[.int .u8 2, .int .i64 s, .int .i64 c, .int .i64 T, .int .i64 M, .int .u8 1] 31 (0, 0))) := (hK Zh (by omega) (by omega)).trans H8_3.out
                  have HL9 : Hid (LiveO (TilB (U.heap.size + 4) (st.refund s c) (4 * j + 4)) U (fun (i : Nat) => i = SB ∨ (Value.slice A10 (st.es.length + 1) c10).ownBlock = some i ∨ i = X2.heap.size ∨ i = Zh) X9) := by rw [← hXe]; exact HL8.out.setCell (til_thing _ _ _) (p := ⟨SB, s * 12 + c * 4, none⟩) (.inl rfl) (by show U.heap.size ≤ SB; omega)
                  have : SB < X9.heap.size := by omega
                  have : X2.heap.size < X9.heap.size := by omega
                  have : Zh < X9.heap.size := by omega
                  have ls9 : U.heap.size ≤ X9.heap.size := by omega
                  have lt9 : X8.heap.size ≤ X9.heap.size := by omega
                  clear hK HL8 H8_0 H8_1 H8_2 H8_3
                  rw [hXe]
                  clear hXe hz9
                  have HT : (st.refund s c).es.length = st.es.length + 1 := by rw [es_back HSD.out HA0.out, List.length_append, List.length_singleton]
                  obtain ⟨c2_0, c2_1, c2_2, c2_3, c2_4, c2_5⟩ := cells6 H9_2.out
                  obtain ⟨c3_0, c3_1, c3_2, c3_3, c3_4, c3_5⟩ := cells6 H9_3.out
                  go_wp2
                  have hK : ∀ i, i < X9.heap.size → (X9.alloc (.cells #[.int .u8 2, .int .i64 s, .int .i64 c, .int .i64 T, .int .i64 M, .int .u8 1] 31)).heap[i]? = X9.heap[i]? := fun i hi => alloc_block_old hi
                  obtain ⟨X10, hXe⟩ : ∃ X, (X9.alloc (.cells #[.int .u8 2, .int .i64 s, .int .i64 c, .int .i64 T, .int .i64 M, .int .u8 1] 31)) = X := ⟨_, rfl⟩
                  rw [hXe] at hK
                  have hz9 : X10.heap.size = X9.heap.size + 1 := by rw [← hXe]; simp
                  have H10_0 : Hid (ArrB X10 SB 29 36 (gT (st.refund s c))) := H9_0.out.kept (hK SB (by omega))
                  have H10_1 : Hid (X10.ownsRow U.heap.size 39 4 (Value.slice A10 (st.es.length + 1) c10) (st.refund s c).es.length (ecl (st.refund s c).es)) := own_kept H9_1.out (fun i hi => hK i (H9_1.out.lt i hi).2)
                  have H10_2 : Hid (X10.heap[X2.heap.size]? = some (.cells #[.int .u8 2, .int .i64 s, .int .i64 c, .int .i64 T, .int .i64 M, .int .u8 0] 31 (0, 0))) := (hK X2.heap.size (by omega)).trans H9_2.out
                  have H10_3 : Hid (X10.heap[Zh]? = some (.cells #[.int .u8 2, .int .i64 s, .int .i64 c, .int .i64 T, .int .i64 M, .int .u8 1] 31 (0, 0))) := (hK Zh (by omega)).trans H9_3.out
                  have H10_4 : Hid (X10.heap[X9.heap.size]? = some (.cells #[.int .u8 2, .int .i64 s, .int .i64 c, .int .i64 T, .int .i64 M, .int .u8 1] 31 (0, 0))) := by rw [← hXe]; exact alloc_at (by omega)
                  have HL10 : Hid (LiveO (TilB (U.heap.size + 4) (st.refund s c) (4 * j + 4)) U (fun (i : Nat) => i = SB ∨ (Value.slice A10 (st.es.length + 1) c10).ownBlock = some i ∨ i = X2.heap.size ∨ i = Zh ∨ i = X9.heap.size) X10) := by rw [← hXe]; exact (HL9.out.alloc (til_thing _ _ _) (.cells #[.int .u8 2, .int .i64 s, .int .i64 c, .int .i64 T, .int .i64 M, .int .u8 1] 31)).less (N' := (fun (i : Nat) => i = SB ∨ (Value.slice A10 (st.es.length + 1) c10).ownBlock = some i ∨ i = X2.heap.size ∨ i = Zh ∨ i = X9.heap.size)) (fun i hi => by rcases hi with h0 | h1 | h2 | h3 | h4; exact .inl (.inl h0); exact .inl (.inr (.inl h1)); exact .inl (.inr (.inr (.inl h2))); exact .inl (.inr (.inr (.inr h3))); exact .inr (by omega))
                  have : SB < X10.heap.size := by omega
                  have : X2.heap.size < X10.heap.size := by omega
                  have : Zh < X10.heap.size := by omega
                  have ls10 : U.heap.size ≤ X10.heap.size := by omega
                  have lt10 : X9.heap.size ≤ X10.heap.size := by omega
                  have : X9.heap.size < X10.heap.size := by omega
                  have lg10 : X10.heap.size ≤ X9.heap.size + 1 ∧ X9.heap.size + 1 ≤ X10.heap.size := by omega
                  have : SB < X9.heap.size := by omega
                  have : X2.heap.size < X9.heap.size := by omega
                  have : Zh < X9.heap.size := by omega
                  clear hK HL9 H9_0 H9_1 H9_2 H9_3 c2_0 c2_1 c2_2 c2_3 c2_4 c2_5 c3_0 c3_1 c3_2 c3_3 c3_4 c3_5
                  rw [hXe]
                  clear hXe hz9
                  go_roundw
                  case rel => exact ⟨j + 1, (st.refund s c), A10, c10, by omega, by go_num, by rw [HT], (HF.out.refund (by omega) s3 c3), by rw [HT]; omega, (HL10.out.less (fun i hi => by rcases hi with rfl | hi; exact .inl rfl; exact .inr (.inl (by first | exact hi | (rw [HT] at hi; exact hi))))).imp (fun F hF => hF.mono (by omega)), H10_0, by have h9 := H10_1; rw [← HT] at h9; exact h9⟩
                  case measure => simp [intOf]; omega
                · skip
                  as_aux_lemma =>
                  have e1 : decide (v < 1) = false := by simp; omega
                  have e2 : decide (3 < v) = true := by simpa using hv
                  obtain ⟨c2_0, c2_1, c2_2, c2_3, c2_4, c2_5⟩ := cells6 H6_2.out
                  obtain ⟨it9, hit, hz0, hz1, hz2⟩ := info_parts ent_info
                  go_wp2_with (at_builtin; refine wpList_append_own_at _ rfl _ _ 26 rfl U.heap.size 39 it9 _ 4 32 Try.underlying26 hit hz0 hz1 hz2 rfl (by decide) _ _ _ rfl (show (wr.alloc (.cells #[.int .i64 s, .int .i64 c, .int .i64 0, .int .i64 am] 39)).ownsRow _ _ _ _ _ _ from own_kept H6_1.out fun i hi => alloc_block_old (H6_1.out.lt i hi).2) ⟨wr.heap.size, 0, none⟩ 1 1 (ecl [(⟨s, c, 0, am⟩ : Ent)]) rfl rfl (fun j u hu => by rw [ad_head, cell_of_row _ _ _ _ _ (0, 0) alloc_block]; simpa [ecl] using hu) (ecl_one _) (by unfold maxLen; omega) (by omega) (by rw [World.size_alloc]; omega) ?_; intro v9 X7 ho9 hg9 hn9 hat9; obtain ⟨A10, c10, rfl, hnc9, hcm9⟩ := own_form ho9)
                  have hsz9 : wr.heap.size ≤ X7.heap.size := by have := hg9.size; rw [World.size_alloc] at this; omega
                  have hK : ∀ i, i < wr.heap.size → (Value.slice A9 st.es.length c9).ownBlock ≠ some i → X7.heap[i]? = wr.heap[i]? := fun i hi hne => (hg9.block i (by rw [World.size_alloc]; omega) fun e => hne e.symm).trans (alloc_block_old hi)
                  have hE9 : wr.heap.size ≤ (wr.alloc (.cells #[.int .i64 s, .int .i64 c, .int .i64 0, .int .i64 am] 39)).heap.size := by rw [World.size_alloc]; omega
                  have H7_0 : Hid (ArrB X7 SB 29 36 (gT st)) := H6_0.out.kept (hK SB (by omega) (own_ne_arr H6_1.out H6_0.out (by decide)))
                  have H7_1 : Hid (X7.ownsRow U.heap.size 39 4 (Value.slice A10 (st.es.length + 1) c10) (st.refund s c).es.length (ecl (st.refund s c).es)) := by have h9 := ho9; rw [← ecl_append] at h9; rw [es_back HSD.out HA0.out, List.length_append, ← HAM.out]; exact h9
                  have H7_2 : Hid (X7.heap[X2.heap.size]? = some (.cells #[.int .u8 2, .int .i64 s, .int .i64 c, .int .i64 T, .int .i64 M, .int .u8 0] 31 (0, 0))) := (hK X2.heap.size (by omega) (own_ne H6_1.out H6_2.out (by decide))).trans H6_2.out
                  have H7_3 : Hid (X7.heap[Zh]? = some (.cells #[.int .u8 2, .int .i64 s, .int .i64 c, .int .i64 T, .int .i64 M, .int .u8 1] 31 (0, 0))) := (hK Zh (by omega) (own_ne H6_1.out H6_3.out (by decide))).trans H6_3.out
                  have HL7 : Hid (LiveO (TilB (U.heap.size + 4) (st.refund s c) (4 * j + 4)) U (fun (i : Nat) => i = SB ∨ (Value.slice A10 (st.es.length + 1) c10).ownBlock = some i ∨ i = X2.heap.size ∨ i = Zh) X7) := (HL6.out.grown (til_thing _ _ _) hsz9 (fun j hj hn => hK j hj (fun e => hn (.inr (.inl e)))) (Below.grown (HL6.out.old.alloc ls6 (.cells #[.int .i64 s, .int .i64 c, .int .i64 0, .int .i64 am] 39)) hg9 (by rw [World.size_alloc]; omega) (fun k hk => (H6_1.out.lt k hk).1))).less (N' := (fun (i : Nat) => i = SB ∨ (Value.slice A10 (st.es.length + 1) c10).ownBlock = some i ∨ i = X2.heap.size ∨ i = Zh)) (fun i hi => by rcases hi with h0 | h1 | h2 | h3; exact .inl (.inl h0); exact (hat9.elim (fun e => .inl (.inr (.inl (e.symm.trans h1)))) (fun e => .inr (by have h8 := h1; rw [e] at h8; injection h8 with h8; subst h8; exact hE9))); exact .inl (.inr (.inr (.inl h2))); exact .inl (.inr (.inr (.inr h3))))
                  have : SB < X7.heap.size := by omega
                  have : X2.heap.size < X7.heap.size := by omega
                  have : Zh < X7.heap.size := by omega
                  have ls7 : U.heap.size ≤ X7.heap.size := by omega
                  have lt7 : wr.heap.size ≤ X7.heap.size := by omega
                  clear hK HL6 H6_0 H6_1 H6_2 H6_3 z3 c2_0 c2_1 c2_2 c2_3 c2_4 c2_5
                  clear hsz9 hE9 ho9 hg9 hat9
                  go_wp2_with (fail)
                  obtain ⟨SW, hSW⟩ : ∃ S : World → Prop, S = (fun w' : World => w'.heap[X2.heap.size]? = some (.cells #[.int .u8 2, .int .i64 s, .int .i64 c, .int .i64 T, .int .i64 M, .int .u8 0] 31 (0, 0))) := ⟨_, rfl⟩
                  have HS0 : Hid (SW X7.drew) := by rw [hSW]; exact (show _ from H7_2.out)
                  refine lane_start (ord := [0, 1, 2, 3, 4, 5, 6, 7, 8, 9]) (S := SW) rfl (by kernel_rfl) (by exact HS0.out) (fun _ => ?_)
                  iterate 9 (refine lane_take (v := ?_) rfl (by kernel_rfl) (by kernel_rfl) (by rfl) ?_ (by exact HS0.out) ?_; rotate_left; (focus (intro w9 hSw; rw [hSW] at hSw; have z0 := hSw; obtain ⟨x0, x1, x2, x3, x4, x5⟩ := cells6 z0; (try go_simp); try (with_reducible rfl))); simp only [Act.put, List.setIfInBounds_toArray, List.set_cons_zero, List.set_cons_succ])
                  refine lane_alone rfl (by kernel_rfl) (by rfl) (fun KK hKK => ?_)
                  have hA9 : ArrB X7.drew SB 29 36 (gT st) := H7_0.out
                  refine wp_of_skip (exec_store_one rfl (by rfl) rfl (by kernel_rfl) rfl (hA9.cell (i := s * 12 + c * 4) (by omega)) (hA9.frozen _)) ?_
                  have hS9 : SW (X7.drew.setCell ⟨SB, s * 12 + c * 4, none⟩ (.int .u8 1)) := by rw [hSW]; exact (setCell_other (by omega)).trans H7_2.out
                  refine hKK _ _ (by exact hS9) (fun _ => ?_)
                  clear hKK KK hA9 HS0 hS9
                  refine lane_end (by kernel_rfl) ?_
                  change Exit.then _ _ Exit.normal _ (X7.drew.setCell ⟨SB, s * 12 + c * 4, none⟩ (.int .u8 1))
                  have hK : ∀ i, i < X7.heap.size → X7.drew.heap[i]? = X7.heap[i]? := fun i hi => rfl
                  obtain ⟨X8, hXe⟩ : ∃ X, X7.drew = X := ⟨_, rfl⟩
                  rw [hXe] at hK
                  have hz9 : X8.heap.size = X7.heap.size := by rw [← hXe]; rfl
                  have H8_0 : Hid (ArrB X8 SB 29 36 (gT st)) := H7_0.out.kept (hK SB (by omega))
                  have H8_1 : Hid (X8.ownsRow U.heap.size 39 4 (Value.slice A10 (st.es.length + 1) c10) (st.refund s c).es.length (ecl (st.refund s c).es)) := own_kept H7_1.out (fun i hi => hK i (H7_1.out.lt i hi).2)
                  have H8_2 : Hid (X8.heap[X2.heap.size]? = some (.cells #[.int .u8 2, .int .i64 s, .int .i64 c, .int .i64 T, .int .i64 M, .int .u8 0] 31 (0, 0))) := (hK X2.heap.size (by omega)).trans H7_2.out
                  have H8_3 : Hid (X8.heap[Zh]? = some (.cells #[.int .u8 2, .int .i64 s, .int .i64 c, .int .i64 T, .int .i64 M, .int .u8 1] 31 (0, 0))) := (hK Zh (by omega)).trans H7_3.out
                  have HL8 : Hid (LiveO (TilB (U.heap.size + 4) (st.refund s c) (4 * j + 4)) U (fun (i : Nat) => i = SB ∨ (Value.slice A10 (st.es.length + 1) c10).ownBlock = some i ∨ i = X2.heap.size ∨ i = Zh) X8) := by rw [← hXe]; exact HL7.out.drew (til_thing _ _ _)
                  have : SB < X8.heap.size := by omega
                  have : X2.heap.size < X8.heap.size := by omega
                  have : Zh < X8.heap.size := by omega
                  have ls8 : U.heap.size ≤ X8.heap.size := by omega
                  have lt8 : X7.heap.size ≤ X8.heap.size := by omega
                  have lu8 : X8.heap.size ≤ X7.heap.size := by omega
                  clear hK HL7 H7_0 H7_1 H7_2 H7_3
                  rw [hXe]
                  clear hXe hz9
                  have hK : ∀ i, i < X8.heap.size → i ≠ SB → (X8.setCell ⟨SB, s * 12 + c * 4, none⟩ (.int .u8 1)).heap[i]? = X8.heap[i]? := fun i _ hi => setCell_other hi
                  obtain ⟨X9, hXe⟩ : ∃ X, (X8.setCell ⟨SB, s * 12 + c * 4, none⟩ (.int .u8 1)) = X := ⟨_, rfl⟩
                  rw [hXe] at hK
                  have hz9 : X9.heap.size = X8.heap.size := by rw [← hXe, setCell_size]
                  have H9_0 : Hid (ArrB X9 SB 29 36 (gT (st.refund s c))) := by rw [← hXe]; exact (H8_0.out.set (s * 12 + c * 4) _).congr (fun i _ => by have h9 := said_refund (st := st) (s := s) c3 HSD.out i; rw [if_neg HA0.out] at h9; exact h9)
                  have H9_1 : Hid (X9.ownsRow U.heap.size 39 4 (Value.slice A10 (st.es.length + 1) c10) (st.refund s c).es.length (ecl (st.refund s c).es)) := own_kept H8_1.out (fun i hi => hK i (H8_1.out.lt i hi).2 (fun e => own_ne_arr H8_1.out H8_0.out (by decide) (hi.trans (by rw [e]))))
                  have H9_2 : Hid (X9.heap[X2.heap.size]? = some (.cells #[.int .u8 2, .int .i64 s, .int .i64 c, .int .i64 T, .int .i64 M, .int .u8 0] 31 (0, 0))) := (hK X2.heap.size (by omega) (by omega)).trans H8_2.out
                  have H9_3 : Hid (X9.heap[Zh]? = some (.cells #[.int .u8 2, .int .i64 s, .int .i64 c, .int .i64 T, .int .i64 M, .int .u8 1] 31 (0, 0))) := (hK Zh (by omega) (by omega)).trans H8_3.out
                  have HL9 : Hid (LiveO (TilB (U.heap.size + 4) (st.refund s c) (4 * j + 4)) U (fun (i : Nat) => i = SB ∨ (Value.slice A10 (st.es.length + 1) c10).ownBlock = some i ∨ i = X2.heap.size ∨ i = Zh) X9) := by rw [← hXe]; exact HL8.out.setCell (til_thing _ _ _) (p := ⟨SB, s * 12 + c * 4, none⟩) (.inl rfl) (by show U.heap.size ≤ SB; omega)
                  have : SB < X9.heap.size := by omega
                  have : X2.heap.size < X9.heap.size := by omega
                  have : Zh < X9.heap.size := by omega
                  have ls9 : U.heap.size ≤ X9.heap.size := by omega
                  have lt9 : X8.heap.size ≤ X9.heap.size := by omega
                  clear hK HL8 H8_0 H8_1 H8_2 H8_3
                  rw [hXe]
                  clear hXe hz9
                  have HT : (st.refund s c).es.length = st.es.length + 1 := by rw [es_back HSD.out HA0.out, List.length_append, List.length_singleton]
                  obtain ⟨c2_0, c2_1, c2_2, c2_3, c2_4, c2_5⟩ := cells6 H9_2.out
                  obtain ⟨c3_0, c3_1, c3_2, c3_3, c3_4, c3_5⟩ := cells6 H9_3.out
                  go_wp2
                  have hK : ∀ i, i < X9.heap.size → (X9.alloc (.cells #[.int .u8 2, .int .i64 s, .int .i64 c, .int .i64 T, .int .i64 M, .int .u8 1] 31)).heap[i]? = X9.heap[i]? := fun i hi => alloc_block_old hi
                  obtain ⟨X10, hXe⟩ : ∃ X, (X9.alloc (.cells #[.int .u8 2, .int .i64 s, .int .i64 c, .int .i64 T, .int .i64 M, .int .u8 1] 31)) = X := ⟨_, rfl⟩
                  rw [hXe] at hK
                  have hz9 : X10.heap.size = X9.heap.size + 1 := by rw [← hXe]; simp
                  have H10_0 : Hid (ArrB X10 SB 29 36 (gT (st.refund s c))) := H9_0.out.kept (hK SB (by omega))
                  have H10_1 : Hid (X10.ownsRow U.heap.size 39 4 (Value.slice A10 (st.es.length + 1) c10) (st.refund s c).es.length (ecl (st.refund s c).es)) := own_kept H9_1.out (fun i hi => hK i (H9_1.out.lt i hi).2)
                  have H10_2 : Hid (X10.heap[X2.heap.size]? = some (.cells #[.int .u8 2, .int .i64 s, .int .i64 c, .int .i64 T, .int .i64 M, .int .u8 0] 31 (0, 0))) := (hK X2.heap.size (by omega)).trans H9_2.out
                  have H10_3 : Hid (X10.heap[Zh]? = some (.cells #[.int .u8 2, .int .i64 s, .int .i64 c, .int .i64 T, .int .i64 M, .int .u8 1] 31 (0, 0))) := (hK Zh (by omega)).trans H9_3.out
                  have H10_4 : Hid (X10.heap[X9.heap.size]? = some (.cells #[.int .u8 2, .int .i64 s, .int .i64 c, .int .i64 T, .int .i64 M, .int .u8 1] 31 (0, 0))) := by rw [← hXe]; exact alloc_at (by omega)
                  have HL10 : Hid (LiveO (TilB (U.heap.size + 4) (st.refund s c) (4 * j + 4)) U (fun (i : Nat) => i = SB ∨ (Value.slice A10 (st.es.length + 1) c10).ownBlock = some i ∨ i = X2.heap.size ∨ i = Zh ∨ i = X9.heap.size) X10) := by rw [← hXe]; exact (HL9.out.alloc (til_thing _ _ _) (.cells #[.int .u8 2, .int .i64 s, .int .i64 c, .int .i64 T, .int .i64 M, .int .u8 1] 31)).less (N' := (fun (i : Nat) => i = SB ∨ (Value.slice A10 (st.es.length + 1) c10).ownBlock = some i ∨ i = X2.heap.size ∨ i = Zh ∨ i = X9.heap.size)) (fun i hi => by rcases hi with h0 | h1 | h2 | h3 | h4; exact .inl (.inl h0); exact .inl (.inr (.inl h1)); exact .inl (.inr (.inr (.inl h2))); exact .inl (.inr (.inr (.inr h3))); exact .inr (by omega))
                  have : SB < X10.heap.size := by omega
                  have : X2.heap.size < X10.heap.size := by omega
                  have : Zh < X10.heap.size := by omega
                  have ls10 : U.heap.size ≤ X10.heap.size := by omega
                  have lt10 : X9.heap.size ≤ X10.heap.size := by omega
                  have : X9.heap.size < X10.heap.size := by omega
                  have lg10 : X10.heap.size ≤ X9.heap.size + 1 ∧ X9.heap.size + 1 ≤ X10.heap.size := by omega
                  have : SB < X9.heap.size := by omega
                  have : X2.heap.size < X9.heap.size := by omega
                  have : Zh < X9.heap.size := by omega
                  clear hK HL9 H9_0 H9_1 H9_2 H9_3 c2_0 c2_1 c2_2 c2_3 c2_4 c2_5 c3_0 c3_1 c3_2 c3_3 c3_4 c3_5
                  rw [hXe]
                  clear hXe hz9
                  go_roundw
                  case rel => exact ⟨j + 1, (st.refund s c), A10, c10, by omega, by go_num, by rw [HT], (HF.out.refund (by omega) s3 c3), by rw [HT]; omega, (HL10.out.less (fun i hi => by rcases hi with rfl | hi; exact .inl rfl; exact .inr (.inl (by first | exact hi | (rw [HT] at hi; exact hi))))).imp (fun F hF => hF.mono (by omega)), H10_0, by have h9 := H10_1; rw [← HT] at h9; exact h9⟩
                  case measure => simp [intOf]; omega
                · skip
                  as_aux_lemma =>
                  have e1 : decide (v < 1) = false := by simpa using hv.1
                  have e2 : decide (3 < v) = false := by simpa using hv.2
                  obtain ⟨c2_0, c2_1, c2_2, c2_3, c2_4, c2_5⟩ := cells6 H6_2.out
                  obtain ⟨it9, hit, hz0, hz1, hz2⟩ := info_parts ent_info
                  go_wp2_with (at_builtin; refine wpList_append_own_at _ rfl _ _ 26 rfl U.heap.size 39 it9 _ 4 32 Try.underlying26 hit hz0 hz1 hz2 rfl (by decide) _ _ _ rfl (show (wr.alloc (.cells #[.int .i64 s, .int .i64 c, .int .i64 0, .int .i64 am] 39)).ownsRow _ _ _ _ _ _ from own_kept H6_1.out fun i hi => alloc_block_old (H6_1.out.lt i hi).2) ⟨wr.heap.size, 0, none⟩ 1 1 (ecl [(⟨s, c, 0, am⟩ : Ent)]) rfl rfl (fun j u hu => by rw [ad_head, cell_of_row _ _ _ _ _ (0, 0) alloc_block]; simpa [ecl] using hu) (ecl_one _) (by unfold maxLen; omega) (by omega) (by rw [World.size_alloc]; omega) ?_; intro v9 X7 ho9 hg9 hn9 hat9; obtain ⟨A10, c10, rfl, hnc9, hcm9⟩ := own_form ho9)
                  have hsz9 : wr.heap.size ≤ X7.heap.size := by have := hg9.size; rw [World.size_alloc] at this; omega
                  have hK : ∀ i, i < wr.heap.size → (Value.slice A9 st.es.length c9).ownBlock ≠ some i → X7.heap[i]? = wr.heap[i]? := fun i hi hne => (hg9.block i (by rw [World.size_alloc]; omega) fun e => hne e.symm).trans (alloc_block_old hi)
                  have hE9 : wr.heap.size ≤ (wr.alloc (.cells #[.int .i64 s, .int .i64 c, .int .i64 0, .int .i64 am] 39)).heap.size := by rw [World.size_alloc]; omega
                  have H7_0 : Hid (ArrB X7 SB 29 36 (gT st)) := H6_0.out.kept (hK SB (by omega) (own_ne_arr H6_1.out H6_0.out (by decide)))
                  have H7_1 : Hid (X7.ownsRow U.heap.size 39 4 (Value.slice A10 (st.es.length + 1) c10) (st.refund s c).es.length (ecl (st.refund s c).es)) := by have h9 := ho9; rw [← ecl_append] at h9; rw [es_back HSD.out HA0.out, List.length_append, ← HAM.out]; exact h9
                  have H7_2 : Hid (X7.heap[X2.heap.size]? = some (.cells #[.int .u8 2, .int .i64 s, .int .i64 c, .int .i64 T, .int .i64 M, .int .u8 0] 31 (0, 0))) := (hK X2.heap.size (by omega) (own_ne H6_1.out H6_2.out (by decide))).trans H6_2.out
                  have H7_3 : Hid (X7.heap[Zh]? = some (.cells #[.int .u8 2, .int .i64 s, .int .i64 c, .int .i64 T, .int .i64 M, .int .u8 1] 31 (0, 0))) := (hK Zh (by omega) (own_ne H6_1.out H6_3.out (by decide))).trans H6_3.out
                  have HL7 : Hid (LiveO (TilB (U.heap.size + 4) (st.refund s c) (4 * j + 4)) U (fun (i : Nat) => i = SB ∨ (Value.slice A10 (st.es.length + 1) c10).ownBlock = some i ∨ i = X2.heap.size ∨ i = Zh) X7) := (HL6.out.grown (til_thing _ _ _) hsz9 (fun j hj hn => hK j hj (fun e => hn (.inr (.inl e)))) (Below.grown (HL6.out.old.alloc ls6 (.cells #[.int .i64 s, .int .i64 c, .int .i64 0, .int .i64 am] 39)) hg9 (by rw [World.size_alloc]; omega) (fun k hk => (H6_1.out.lt k hk).1))).less (N' := (fun (i : Nat) => i = SB ∨ (Value.slice A10 (st.es.length + 1) c10).ownBlock = some i ∨ i = X2.heap.size ∨ i = Zh)) (fun i hi => by rcases hi with h0 | h1 | h2 | h3; exact .inl (.inl h0); exact (hat9.elim (fun e => .inl (.inr (.inl (e.symm.trans h1)))) (fun e => .inr (by have h8 := h1; rw [e] at h8; injection h8 with h8; subst h8; exact hE9))); exact .inl (.inr (.inr (.inl h2))); exact .inl (.inr (.inr (.inr h3))))
                  have : SB < X7.heap.size := by omega
                  have : X2.heap.size < X7.heap.size := by omega
                  have : Zh < X7.heap.size := by omega
                  have ls7 : U.heap.size ≤ X7.heap.size := by omega
                  have lt7 : wr.heap.size ≤ X7.heap.size := by omega
                  clear hK HL6 H6_0 H6_1 H6_2 H6_3 z3 c2_0 c2_1 c2_2 c2_3 c2_4 c2_5
                  clear hsz9 hE9 ho9 hg9 hat9
                  go_wp2_with (fail)
                  obtain ⟨SW, hSW⟩ : ∃ S : World → Prop, S = (fun w' : World => w'.heap[X2.heap.size]? = some (.cells #[.int .u8 2, .int .i64 s, .int .i64 c, .int .i64 T, .int .i64 M, .int .u8 0] 31 (0, 0))) := ⟨_, rfl⟩
                  have HS0 : Hid (SW X7.drew) := by rw [hSW]; exact (show _ from H7_2.out)
                  refine lane_start (ord := [0, 1, 2, 3, 4, 5, 6, 7, 8, 9]) (S := SW) rfl (by kernel_rfl) (by exact HS0.out) (fun _ => ?_)
                  iterate 9 (refine lane_take (v := ?_) rfl (by kernel_rfl) (by kernel_rfl) (by rfl) ?_ (by exact HS0.out) ?_; rotate_left; (focus (intro w9 hSw; rw [hSW] at hSw; have z0 := hSw; obtain ⟨x0, x1, x2, x3, x4, x5⟩ := cells6 z0; (try go_simp); try (with_reducible rfl))); simp only [Act.put, List.setIfInBounds_toArray, List.set_cons_zero, List.set_cons_succ])
                  refine lane_alone rfl (by kernel_rfl) (by rfl) (fun KK hKK => ?_)
                  have hA9 : ArrB X7.drew SB 29 36 (gT st) := H7_0.out
                  refine wp_of_skip (exec_store_one rfl (by rfl) rfl (by kernel_rfl) rfl (hA9.cell (i := s * 12 + c * 4) (by omega)) (hA9.frozen _)) ?_
                  have hS9 : SW (X7.drew.setCell ⟨SB, s * 12 + c * 4, none⟩ (.int .u8 1)) := by rw [hSW]; exact (setCell_other (by omega)).trans H7_2.out
                  refine hKK _ _ (by exact hS9) (fun _ => ?_)
                  clear hKK KK hA9 HS0 hS9
                  refine lane_end (by kernel_rfl) ?_
                  change Exit.then _ _ Exit.normal _ (X7.drew.setCell ⟨SB, s * 12 + c * 4, none⟩ (.int .u8 1))
                  have hK : ∀ i, i < X7.heap.size → X7.drew.heap[i]? = X7.heap[i]? := fun i hi => rfl
                  obtain ⟨X8, hXe⟩ : ∃ X, X7.drew = X := ⟨_, rfl⟩
                  rw [hXe] at hK
                  have hz9 : X8.heap.size = X7.heap.size := by rw [← hXe]; rfl
                  have H8_0 : Hid (ArrB X8 SB 29 36 (gT st)) := H7_0.out.kept (hK SB (by omega))
                  have H8_1 : Hid (X8.ownsRow U.heap.size 39 4 (Value.slice A10 (st.es.length + 1) c10) (st.refund s c).es.length (ecl (st.refund s c).es)) := own_kept H7_1.out (fun i hi => hK i (H7_1.out.lt i hi).2)
                  have H8_2 : Hid (X8.heap[X2.heap.size]? = some (.cells #[.int .u8 2, .int .i64 s, .int .i64 c, .int .i64 T, .int .i64 M, .int .u8 0] 31 (0, 0))) := (hK X2.heap.size (by omega)).trans H7_2.out
                  have H8_3 : Hid (X8.heap[Zh]? = some (.cells #[.int .u8 2, .int .i64 s, .int .i64 c, .int .i64 T, .int .i64 M, .int .u8 1] 31 (0, 0))) := (hK Zh (by omega)).trans H7_3.out
                  have HL8 : Hid (LiveO (TilB (U.heap.size + 4) (st.refund s c) (4 * j + 4)) U (fun (i : Nat) => i = SB ∨ (Value.slice A10 (st.es.length + 1) c10).ownBlock = some i ∨ i = X2.heap.size ∨ i = Zh) X8) := by rw [← hXe]; exact HL7.out.drew (til_thing _ _ _)
                  have : SB < X8.heap.size := by omega
                  have : X2.heap.size < X8.heap.size := by omega
                  have : Zh < X8.heap.size := by omega
                  have ls8 : U.heap.size ≤ X8.heap.size := by omega
                  have lt8 : X7.heap.size ≤ X8.heap.size := by omega
                  have lu8 : X8.heap.size ≤ X7.heap.size := by omega
                  clear hK HL7 H7_0 H7_1 H7_2 H7_3
                  rw [hXe]
                  clear hXe hz9
                  have hK : ∀ i, i < X8.heap.size → i ≠ SB → (X8.setCell ⟨SB, s * 12 + c * 4, none⟩ (.int .u8 1)).heap[i]? = X8.heap[i]? := fun i _ hi => setCell_other hi
                  obtain ⟨X9, hXe⟩ : ∃ X, (X8.setCell ⟨SB, s * 12 + c * 4, none⟩ (.int .u8 1)) = X := ⟨_, rfl⟩
                  rw [hXe] at hK
                  have hz9 : X9.heap.size = X8.heap.size := by rw [← hXe, setCell_size]
                  have H9_0 : Hid (ArrB X9 SB 29 36 (gT (st.refund s c))) := by rw [← hXe]; exact (H8_0.out.set (s * 12 + c * 4) _).congr (fun i _ => by have h9 := said_refund (st := st) (s := s) c3 HSD.out i; rw [if_neg HA0.out] at h9; exact h9)
                  have H9_1 : Hid (X9.ownsRow U.heap.size 39 4 (Value.slice A10 (st.es.length + 1) c10) (st.refund s c).es.length (ecl (st.refund s c).es)) := own_kept H8_1.out (fun i hi => hK i (H8_1.out.lt i hi).2 (fun e => own_ne_arr H8_1.out H8_0.out (by decide) (hi.trans (by rw [e]))))
                  have H9_2 : Hid (X9.heap[X2.heap.size]? = some (.cells #[.int .u8 2, .int .i64 s, .int .i64 c, .int .i64 T, .int .i64 M, .int .u8 0] 31 (0, 0))) := (hK X2.heap.size (by omega) (by omega)).trans H8_2.out
                  have H9_3 : Hid (X9.heap[Zh]? = some (.cells #[.int .u8 2, .int .i64 s, .int .i64 c, .int .i64 T, .int .i64 M, .int .u8 1] 31 (0, 0))) := (hK Zh (by omega) (by omega)).trans H8_3.out
                  have HL9 : Hid (LiveO (TilB (U.heap.size + 4) (st.refund s c) (4 * j + 4)) U (fun (i : Nat) => i = SB ∨ (Value.slice A10 (st.es.length + 1) c10).ownBlock = some i ∨ i = X2.heap.size ∨ i = Zh) X9) := by rw [← hXe]; exact HL8.out.setCell (til_thing _ _ _) (p := ⟨SB, s * 12 + c * 4, none⟩) (.inl rfl) (by show U.heap.size ≤ SB; omega)
                  have : SB < X9.heap.size := by omega
                  have : X2.heap.size < X9.heap.size := by omega
                  have : Zh < X9.heap.size := by omega
                  have ls9 : U.heap.size ≤ X9.heap.size := by omega
                  have lt9 : X8.heap.size ≤ X9.heap.size := by omega
                  clear hK HL8 H8_0 H8_1 H8_2 H8_3
                  rw [hXe]
                  clear hXe hz9
                  have HT : (st.refund s c).es.length = st.es.length + 1 := by rw [es_back HSD.out HA0.out, List.length_append, List.length_singleton]
                  obtain ⟨c2_0, c2_1, c2_2, c2_3, c2_4, c2_5⟩ := cells6 H9_2.out
                  obtain ⟨c3_0, c3_1, c3_2, c3_3, c3_4, c3_5⟩ := cells6 H9_3.out
                  go_wp2
                  have hK : ∀ i, i < X9.heap.size → (X9.alloc (.cells #[.int .u8 2, .int .i64 s, .int .i64 c, .int .i64 T, .int .i64 M, .int .u8 1] 31)).heap[i]? = X9.heap[i]? := fun i hi => alloc_block_old hi
                  obtain ⟨X10, hXe⟩ : ∃ X, (X9.alloc (.cells #[.int .u8 2, .int .i64 s, .int .i64 c, .int .i64 T, .int .i64 M, .int .u8 1] 31)) = X := ⟨_, rfl⟩
                  rw [hXe] at hK
                  have hz9 : X10.heap.size = X9.heap.size + 1 := by rw [← hXe]; simp
                  have H10_0 : Hid (ArrB X10 SB 29 36 (gT (st.refund s c))) := H9_0.out.kept (hK SB (by omega))
                  have H10_1 : Hid (X10.ownsRow U.heap.size 39 4 (Value.slice A10 (st.es.length + 1) c10) (st.refund s c).es.length (ecl (st.refund s c).es)) := own_kept H9_1.out (fun i hi => hK i (H9_1.out.lt i hi).2)
                  have H10_2 : Hid (X10.heap[X2.heap.size]? = some (.cells #[.int .u8 2, .int .i64 s, .int .i64 c, .int .i64 T, .int .i64 M, .int .u8 0] 31 (0, 0))) := (hK X2.heap.size (by omega)).trans H9_2.out
                  have H10_3 : Hid (X10.heap[Zh]? = some (.cells #[.int .u8 2, .int .i64 s, .int .i64 c, .int .i64 T, .int .i64 M, .int .u8 1] 31 (0, 0))) := (hK Zh (by omega)).trans H9_3.out
                  have H10_4 : Hid (X10.heap[X9.heap.size]? = some (.cells #[.int .u8 2, .int .i64 s, .int .i64 c, .int .i64 T, .int .i64 M, .int .u8 1] 31 (0, 0))) := by rw [← hXe]; exact alloc_at (by omega)
                  have HL10 : Hid (LiveO (TilB (U.heap.size + 4) (st.refund s c) (4 * j + 4)) U (fun (i : Nat) => i = SB ∨ (Value.slice A10 (st.es.length + 1) c10).ownBlock = some i ∨ i = X2.heap.size ∨ i = Zh ∨ i = X9.heap.size) X10) := by rw [← hXe]; exact (HL9.out.alloc (til_thing _ _ _) (.cells #[.int .u8 2, .int .i64 s, .int .i64 c, .int .i64 T, .int .i64 M, .int .u8 1] 31)).less (N' := (fun (i : Nat) => i = SB ∨ (Value.slice A10 (st.es.length + 1) c10).ownBlock = some i ∨ i = X2.heap.size ∨ i = Zh ∨ i = X9.heap.size)) (fun i hi => by rcases hi with h0 | h1 | h2 | h3 | h4; exact .inl (.inl h0); exact .inl (.inr (.inl h1)); exact .inl (.inr (.inr (.inl h2))); exact .inl (.inr (.inr (.inr h3))); exact .inr (by omega))
                  have : SB < X10.heap.size := by omega
                  have : X2.heap.size < X10.heap.size := by omega
                  have : Zh < X10.heap.size := by omega
                  have ls10 : U.heap.size ≤ X10.heap.size := by omega
                  have lt10 : X9.heap.size ≤ X10.heap.size := by omega
                  have : X9.heap.size < X10.heap.size := by omega
                  have lg10 : X10.heap.size ≤ X9.heap.size + 1 ∧ X9.heap.size + 1 ≤ X10.heap.size := by omega
                  have : SB < X9.heap.size := by omega
                  have : X2.heap.size < X9.heap.size := by omega
                  have : Zh < X9.heap.size := by omega
                  clear hK HL9 H9_0 H9_1 H9_2 H9_3 c2_0 c2_1 c2_2 c2_3 c2_4 c2_5 c3_0 c3_1 c3_2 c3_3 c3_4 c3_5
                  rw [hXe]
                  clear hXe hz9
                  go_roundw
                  case rel => exact ⟨j + 1, (st.refund s c), A10, c10, by omega, by go_num, by rw [HT], (HF.out.refund (by omega) s3 c3), by rw [HT]; omega, (HL10.out.less (fun i hi => by rcases hi with rfl | hi; exact .inl rfl; exact .inr (.inl (by first | exact hi | (rw [HT] at hi; exact hi))))).imp (fun F hF => hF.mono (by omega)), H10_0, by have h9 := H10_1; rw [← HT] at h9; exact h9⟩
                  case measure => simp [intOf]; omega
      · skip
        obtain ⟨c2_0, c2_1, c2_2, c2_3, c2_4, c2_5⟩ := cells6 H3_2.out
        obtain ⟨SW, hSW⟩ : ∃ S : World → Prop, S = (fun w' : World => w'.heap[X2.heap.size]? = some (.cells #[.int .u8 K, .int .i64 s, .int .i64 c, .int .i64 T, .int .i64 M, .int .u8 0] 31 (0, 0)) ∧ w'.cell? (⟨gg, oo + j * 6 + 5, none⟩) = some (.int .u8 v)) := ⟨_, rfl⟩
        have HS0 : Hid (SW X3.drew) := by rw [hSW]; exact ⟨H3_2.out, (World.cell?_of_block (w' := X3.drew) (a := ⟨gg, oo + j * 6 + 5, none⟩) (by (try rw [ad_block]); exact (HL3.out.old).block _ gU)).trans HV.out⟩
        have hN9 : ∀ i, (fun (i : Nat) => i = SB ∨ (Value.slice A9 st.es.length c9).ownBlock = some i ∨ i = X2.heap.size) i → i < X3.heap.size := (fun i hx0 => (hx0.elim (fun (hi : i = SB) => by omega) (fun hx1 => (hx1.elim (fun (hi : _) => (H3_1.out.lt i hi).2) (fun hx2 => ((fun (hi : i = X2.heap.size) => by omega) hx2))))))
        apply region_frame1 (fun Zq w9 => Hid (LiveO (TilB (U.heap.size + 4) st (4 * j)) U (fun (i : Nat) => i = SB ∨ (Value.slice A9 st.es.length c9).ownBlock = some i ∨ i = X2.heap.size ∨ i = Zq) w9) ∧ Hid (ArrB w9 SB 29 36 (gT st)) ∧ Hid (w9.ownsRow U.heap.size 39 4 (Value.slice A9 st.es.length c9) st.es.length (ecl st.es)) ∧ Hid (w9.heap[X2.heap.size]? = some (.cells #[.int .u8 K, .int .i64 s, .int .i64 c, .int .i64 T, .int .i64 M, .int .u8 0] 31 (0, 0))) ∧ Hid (w9.heap[Zq]? = some (.cells #[.int .u8 0, .int .i64 0, .int .i64 0, .int .i64 0, .int .i64 0, .int .u8 0] 31 (0, 0))) ∧ U.heap.size ≤ w9.heap.size ∧ SB < w9.heap.size ∧ X2.heap.size < w9.heap.size ∧ SB < Zq ∧ X2.heap.size < Zq ∧ Zq < w9.heap.size ∧ U.heap.size ≤ Zq ∧ X3.heap.size ≤ Zq)
        · skip
          refine lane_start (ord := [0, 1, 2, 3, 4, 5, 6, 7, 8, 9, 10, 11, 12, 13]) (S := SW) rfl (by kernel_rfl) (by exact HS0.out) (fun _ => ?_)
          iterate 7 (refine lane_take (v := ?_) rfl (by kernel_rfl) (by kernel_rfl) (by rfl) ?_ (by exact HS0.out) ?_; rotate_left; (focus (intro w9 hSw; rw [hSW] at hSw; obtain ⟨z0, z1⟩ := hSw; obtain ⟨x0, x1, x2, x3, x4, x5⟩ := cells6 z0; (try go_simp); try (with_reducible rfl))); simp only [Act.put, List.setIfInBounds_toArray, List.set_cons_zero, List.set_cons_succ])
          refine lane_two (i := 7) (j := 11) (ordI := [8, 9, 10, 11, 12, 13]) (ordJ := [7, 8, 9, 10, 12, 13]) rfl rfl (by kernel_rfl) rfl (by rfl) (by rfl) (fun KK hKK => ?_) (fun KK hKK => ?_)
          · skip
            go_simp
            refine (thear_other_live hk1 hk2 (HL3.out.drew (til_thing _ _ _)) (fun i hi => hN9 i hi)).mono ?_
            rintro e V9 ⟨rfl, hl, hk⟩
            have hsz : X3.heap.size ≤ V9.heap.size := hk.size
            have hb0 : ArrB V9 SB 29 36 (gT st) := H3_0.out.kept (hk.block SB (.inl rfl))
            have hb1 : V9.ownsRow U.heap.size 39 4 (Value.slice A9 st.es.length c9) st.es.length (ecl st.es) := own_kept H3_1.out (fun i hi => hk.block i (.inr (.inl hi)))
            have hb2 : V9.heap[X2.heap.size]? = some (.cells #[.int .u8 K, .int .i64 s, .int .i64 c, .int .i64 T, .int .i64 M, .int .u8 0] 31 (0, 0)) := (hk.block X2.heap.size (.inr (.inr rfl))).trans H3_2.out
            have HLv := Lib.hid hl
            have hS1 : SW V9 := by rw [hSW]; exact ⟨hb2, (World.cell?_of_block (w' := V9) (a := ⟨gg, oo + j * 6 + 5, none⟩) (by (try rw [ad_block]); exact (HLv.out.old).block _ gU)).trans HV.out⟩
            have HS1 := Lib.hid hS1
            refine hKK _ _ HS1.out (fun _ => ?_)
            clear hKK KK hS1 hl hk
            iterate 3 (refine lane_take (v := ?_) rfl (by kernel_rfl) (by kernel_rfl) (by rfl) ?_ (by exact HS1.out) ?_; rotate_left; (focus (intro w9 hSw; rw [hSW] at hSw; obtain ⟨z0, z1⟩ := hSw; obtain ⟨x0, x1, x2, x3, x4, x5⟩ := cells6 z0; (try go_simp); try (with_reducible rfl))); simp only [Act.put, List.setIfInBounds_toArray, List.set_cons_zero, List.set_cons_succ])
            refine lane_alone rfl (by kernel_rfl) (by rfl) (fun KK hKK => ?_)
            go_simp
            obtain ⟨VA, hVA⟩ : ∃ X, V9.alloc (.cells #[.int .u8 0, .int .i64 0, .int .i64 0, .int .i64 0, .int .i64 0, .int .u8 0] 31) = X := ⟨_, rfl⟩
            rw [hVA]
            have hK9 : ∀ i, i < V9.heap.size → VA.heap[i]? = V9.heap[i]? := fun i hi => by rw [← hVA]; exact alloc_block_old hi
            have HZ : Hid (VA.heap[V9.heap.size]? = some (.cells #[.int .u8 0, .int .i64 0, .int .i64 0, .int .i64 0, .int .i64 0, .int .u8 0] 31 (0, 0))) := by rw [← hVA]; exact alloc_block
            have HLx := HLv.out.alloc (til_thing _ _ _) (.cells #[.int .u8 0, .int .i64 0, .int .i64 0, .int .i64 0, .int .i64 0, .int .u8 0] 31)
            rw [hVA] at HLx
            have HLx := Lib.hid HLx
            have hzz : V9.heap.size < VA.heap.size := by rw [← hVA, World.size_alloc]; omega
            have hzl : X3.heap.size ≤ V9.heap.size := by omega
            have HC0 : Hid (ArrB VA SB 29 36 (gT st)) := hb0.kept (hK9 SB (by omega))
            have HC1 : Hid (VA.ownsRow U.heap.size 39 4 (Value.slice A9 st.es.length c9) st.es.length (ecl st.es)) := own_kept hb1 (fun i hi => hK9 i (hb1.lt i hi).2)
            have hrz1 : ∀ i, (Value.slice A9 st.es.length c9).ownBlock = some i → i ≠ V9.heap.size := fun i hi e => by have := (H3_1.out.lt i hi).2; omega
            have HC2 : Hid (VA.heap[X2.heap.size]? = some (.cells #[.int .u8 K, .int .i64 s, .int .i64 c, .int .i64 T, .int .i64 M, .int .u8 0] 31 (0, 0))) := (hK9 X2.heap.size (by omega)).trans hb2
            have hS2 : SW VA := by rw [hSW]; exact ⟨HC2.out, (World.cell?_of_block (w' := VA) (a := ⟨gg, oo + j * 6 + 5, none⟩) (by (try rw [ad_block]); exact (HLx.out.old).block _ gU)).trans HV.out⟩
            have HS2 := Lib.hid hS2
            refine hKK _ _ HS2.out (fun _ => ?_)
            clear hKK KK hS2
            clear hb0 hb1 hb2
            generalize hzn : V9.heap.size = ZZ at *
            refine lane_alone rfl (by kernel_rfl) (by rfl) (fun KK hKK => ?_)
            refine wp_store_row _ _ _ rfl ZZ _ rfl rfl _ _ HZ.out (by exact tnotice_info) rfl (by simp [Value.oneCell']) ?_
            rw [row_boxed HZ.out]
            obtain ⟨VB, hVB⟩ : ∃ X, boxed VA ZZ #[.int .u8 0, .int .i64 0, .int .i64 0, .int .i64 0, .int .i64 0, .int .u8 0] 31 = X := ⟨_, rfl⟩
            rw [hVB]
            have hzB : VB.heap.size = VA.heap.size := by rw [← hVB, boxed_size]
            have HD0 : Hid (ArrB VB SB 29 36 (gT st)) := by rw [← hVB]; exact HC0.out.kept (boxed_block_other (by omega))
            have HD1 : Hid (VB.ownsRow U.heap.size 39 4 (Value.slice A9 st.es.length c9) st.es.length (ecl st.es)) := by rw [← hVB]; exact own_kept HC1.out (fun i hi => boxed_block_other (hrz1 i hi))
            have HD2 : Hid (VB.heap[X2.heap.size]? = some (.cells #[.int .u8 K, .int .i64 s, .int .i64 c, .int .i64 T, .int .i64 M, .int .u8 0] 31 (0, 0))) := by rw [← hVB]; exact boxed_old (by omega) HC2.out
            have HLy := HLx.out.boxed (til_thing _ _ _) (g := ZZ) (cs := #[.int .u8 0, .int .i64 0, .int .i64 0, .int .i64 0, .int .i64 0, .int .u8 0]) (t := 31) (.inr rfl) (by omega)
            rw [hVB] at HLy
            have HLy := Lib.hid HLy
            have hS4 : SW VB := by rw [hSW]; exact ⟨HD2.out, (World.cell?_of_block (w' := VB) (a := ⟨gg, oo + j * 6 + 5, none⟩) (by (try rw [ad_block]); exact (HLy.out.old).block _ gU)).trans HV.out⟩
            have HS4 := Lib.hid hS4
            refine hKK _ _ (by exact HS4.out) (fun _ => ?_)
            clear hKK KK hS4
            iterate 1 (refine lane_take (v := ?_) rfl (by kernel_rfl) (by kernel_rfl) (by rfl) ?_ (by exact HS4.out) ?_; rotate_left; (focus (intro w9 hSw; rw [hSW] at hSw; obtain ⟨z0, z1⟩ := hSw; obtain ⟨x0, x1, x2, x3, x4, x5⟩ := cells6 z0; (try go_simp); try (with_reducible rfl))); simp only [Act.put, List.setIfInBounds_toArray, List.set_cons_zero, List.set_cons_succ])
            refine lane_end (by kernel_rfl) ?_
            refine ⟨rfl, ZZ, rfl, (HLy.out.less (fun i hi => by rcases hi with h0 | h1 | h2 | h3; exact .inl (.inl h0); exact .inl (.inr (.inl h1)); exact .inl (.inr (.inr h2)); exact .inr h3)), HD0.out, HD1.out, HD2.out, (by rw [← hVB]; exact boxed_at hzz), by omega, by omega, by omega, by omega, by omega, by omega, by omega, by omega⟩
          · skip
            go_simp
            have hK9 : ∀ i, i < X3.heap.size → ((X3.alloc (.cells #[.int .u8 0, .int .i64 0, .int .i64 0, .int .i64 0, .int .i64 0, .int .u8 0] 31)).drew).heap[i]? = X3.heap[i]? := fun i hi => alloc_block_old (w := X3) hi
            have hd0 : ArrB ((X3.alloc (.cells #[.int .u8 0, .int .i64 0, .int .i64 0, .int .i64 0, .int .i64 0, .int .u8 0] 31)).drew) SB 29 36 (gT st) := H3_0.out.kept (hK9 SB (by omega))
            have hd1 : ((X3.alloc (.cells #[.int .u8 0, .int .i64 0, .int .i64 0, .int .i64 0, .int .i64 0, .int .u8 0] 31)).drew).ownsRow U.heap.size 39 4 (Value.slice A9 st.es.length c9) st.es.length (ecl st.es) := own_kept H3_1.out (fun i hi => hK9 i (H3_1.out.lt i hi).2)
            have hd2 : ((X3.alloc (.cells #[.int .u8 0, .int .i64 0, .int .i64 0, .int .i64 0, .int .i64 0, .int .u8 0] 31)).drew).heap[X2.heap.size]? = some (.cells #[.int .u8 K, .int .i64 s, .int .i64 c, .int .i64 T, .int .i64 M, .int .u8 0] 31 (0, 0)) := (hK9 X2.heap.size (by omega)).trans H3_2.out
            have hS2 : SW ((X3.alloc (.cells #[.int .u8 0, .int .i64 0, .int .i64 0, .int .i64 0, .int .i64 0, .int .u8 0] 31)).drew) := by rw [hSW]; exact ⟨hd2, (World.cell?_of_block (w' := ((X3.alloc (.cells #[.int .u8 0, .int .i64 0, .int .i64 0, .int .i64 0, .int .i64 0, .int .u8 0] 31)).drew)) (a := ⟨gg, oo + j * 6 + 5, none⟩) (by (try rw [ad_block]); exact ((HL3.out.old.alloc HL3.out.old.size (.cells #[.int .u8 0, .int .i64 0, .int .i64 0, .int .i64 0, .int .i64 0, .int .u8 0] 31))).block _ gU)).trans HV.out⟩
            have HS2 := Lib.hid hS2
            refine hKK _ _ HS2.out (fun _ => ?_)
            clear hKK KK hS2
            refine lane_alone rfl (by kernel_rfl) (by rfl) (fun KK hKK => ?_)
            go_simp
            refine (thear_other_live hk1 hk2 ((HL3.out.alloc (til_thing _ _ _) (.cells #[.int .u8 0, .int .i64 0, .int .i64 0, .int .i64 0, .int .i64 0, .int .u8 0] 31)).drew (til_thing _ _ _)) (fun i hi => by show i < (X3.alloc (.cells #[.int .u8 0, .int .i64 0, .int .i64 0, .int .i64 0, .int .i64 0, .int .u8 0] 31)).heap.size; rw [World.size_alloc]; rcases hi with hi | hi; exact Nat.lt_succ_of_lt (hN9 i hi); omega)).mono ?_
            rintro e V9 ⟨rfl, hl, hk0⟩
            have hk : KeptO U (fun (i : Nat) => i = SB ∨ (Value.slice A9 st.es.length c9).ownBlock = some i ∨ i = X2.heap.size) ((X3.alloc (.cells #[.int .u8 0, .int .i64 0, .int .i64 0, .int .i64 0, .int .i64 0, .int .u8 0] 31)).drew) V9 := ⟨hk0.size, fun i hi => hk0.block i (.inl hi), hk0.old⟩
            have hsz : (X3.alloc (.cells #[.int .u8 0, .int .i64 0, .int .i64 0, .int .i64 0, .int .i64 0, .int .u8 0] 31)).heap.size ≤ V9.heap.size := hk.size
            rw [World.size_alloc] at hsz
            have hb0 : ArrB V9 SB 29 36 (gT st) := hd0.kept (hk.block SB (.inl rfl))
            have hb1 : V9.ownsRow U.heap.size 39 4 (Value.slice A9 st.es.length c9) st.es.length (ecl st.es) := own_kept hd1 (fun i hi => hk.block i (.inr (.inl hi)))
            have hb2 : V9.heap[X2.heap.size]? = some (.cells #[.int .u8 K, .int .i64 s, .int .i64 c, .int .i64 T, .int .i64 M, .int .u8 0] 31 (0, 0)) := (hk.block X2.heap.size (.inr (.inr rfl))).trans hd2
            have HZ : Hid (V9.heap[X3.heap.size]? = some (.cells #[.int .u8 0, .int .i64 0, .int .i64 0, .int .i64 0, .int .i64 0, .int .u8 0] 31 (0, 0))) := (hk0.block _ (.inr rfl)).trans (show (X3.alloc (.cells #[.int .u8 0, .int .i64 0, .int .i64 0, .int .i64 0, .int .i64 0, .int .u8 0] 31)).heap[_]? = _ from alloc_block)
            have HLx := Lib.hid hl
            have hS3 : SW V9 := by rw [hSW]; exact ⟨hb2, (World.cell?_of_block (w' := V9) (a := ⟨gg, oo + j * 6 + 5, none⟩) (by (try rw [ad_block]); exact (HLx.out.old).block _ gU)).trans HV.out⟩
            have HS2 := Lib.hid hS3
            refine hKK _ _ HS2.out (fun _ => ?_)
            clear hKK KK hS3 hl hk hk0
            iterate 3 (refine lane_take (v := ?_) rfl (by kernel_rfl) (by kernel_rfl) (by rfl) ?_ (by exact HS2.out) ?_; rotate_left; (focus (intro w9 hSw; rw [hSW] at hSw; obtain ⟨z0, z1⟩ := hSw; obtain ⟨x0, x1, x2, x3, x4, x5⟩ := cells6 z0; (try go_simp); try (with_reducible rfl))); simp only [Act.put, List.setIfInBounds_toArray, List.set_cons_zero, List.set_cons_succ])
            have hzz : X3.heap.size < V9.heap.size := by omega
            have hzl : X3.heap.size ≤ X3.heap.size := by omega
            have HC0 : Hid (ArrB V9 SB 29 36 (gT st)) := hb0
            have HC1 : Hid (V9.ownsRow U.heap.size 39 4 (Value.slice A9 st.es.length c9) st.es.length (ecl st.es)) := hb1
            have hrz1 : ∀ i, (Value.slice A9 st.es.length c9).ownBlock = some i → i ≠ X3.heap.size := fun i hi e => by have := (H3_1.out.lt i hi).2; omega
            have HC2 : Hid (V9.heap[X2.heap.size]? = some (.cells #[.int .u8 K, .int .i64 s, .int .i64 c, .int .i64 T, .int .i64 M, .int .u8 0] 31 (0, 0))) := hb2
            clear hb0 hb1 hb2
            generalize hzn : X3.heap.size = ZZ at *
            refine lane_alone rfl (by kernel_rfl) (by rfl) (fun KK hKK => ?_)
            refine wp_store_row _ _ _ rfl ZZ _ rfl rfl _ _ HZ.out (by exact tnotice_info) rfl (by simp [Value.oneCell']) ?_
            rw [row_boxed HZ.out]
            obtain ⟨VB, hVB⟩ : ∃ X, boxed V9 ZZ #[.int .u8 0, .int .i64 0, .int .i64 0, .int .i64 0, .int .i64 0, .int .u8 0] 31 = X := ⟨_, rfl⟩
            rw [hVB]
            have hzB : VB.heap.size = V9.heap.size := by rw [← hVB, boxed_size]
            have HD0 : Hid (ArrB VB SB 29 36 (gT st)) := by rw [← hVB]; exact HC0.out.kept (boxed_block_other (by omega))
            have HD1 : Hid (VB.ownsRow U.heap.size 39 4 (Value.slice A9 st.es.length c9) st.es.length (ecl st.es)) := by rw [← hVB]; exact own_kept HC1.out (fun i hi => boxed_block_other (hrz1 i hi))
            have HD2 : Hid (VB.heap[X2.heap.size]? = some (.cells #[.int .u8 K, .int .i64 s, .int .i64 c, .int .i64 T, .int .i64 M, .int .u8 0] 31 (0, 0))) := by rw [← hVB]; exact boxed_old (by omega) HC2.out
            have HLy := HLx.out.boxed (til_thing _ _ _) (g := ZZ) (cs := #[.int .u8 0, .int .i64 0, .int .i64 0, .int .i64 0, .int .i64 0, .int .u8 0]) (t := 31) (.inr rfl) (by omega)
            rw [hVB] at HLy
            have HLy := Lib.hid HLy
            have hS4 : SW VB := by rw [hSW]; exact ⟨HD2.out, (World.cell?_of_block (w' := VB) (a := ⟨gg, oo + j * 6 + 5, none⟩) (by (try rw [ad_block]); exact (HLy.out.old).block _ gU)).trans HV.out⟩
            have HS4 := Lib.hid hS4
            refine hKK _ _ (by exact HS4.out) (fun _ => ?_)
            clear hKK KK hS4
            iterate 1 (refine lane_take (v := ?_) rfl (by kernel_rfl) (by kernel_rfl) (by rfl) ?_ (by exact HS4.out) ?_; rotate_left; (focus (intro w9 hSw; rw [hSW] at hSw; obtain ⟨z0, z1⟩ := hSw; obtain ⟨x0, x1, x2, x3, x4, x5⟩ := cells6 z0; (try go_simp); try (with_reducible rfl))); simp only [Act.put, List.setIfInBounds_toArray, List.set_cons_zero, List.set_cons_succ])
            refine lane_end (by kernel_rfl) ?_
            refine ⟨rfl, ZZ, rfl, (HLy.out.less (fun i hi => by rcases hi with h0 | h1 | h2 | h3; exact .inl (.inl h0); exact .inl (.inr (.inl h1)); exact .inl (.inr (.inr h2)); exact .inr h3)), HD0.out, HD1.out, HD2.out, (by rw [← hVB]; exact boxed_at hzz), by omega, by omega, by omega, by omega, by omega, by omega, by omega, by omega⟩
        rintro Zh X4 ⟨HL4, H4_0, H4_1, H4_2, HZ9, ls4, lc9_0, lc9_1, ld9_0, ld9_1, le9, lf9, lt4⟩
        have H4_3 := HZ9
        clear HZ9
        have b1 : (K != 1) = true := by simpa using hk1
        have b2 : (K != 2) = true := by simpa using hk2
        obtain ⟨c2_0, c2_1, c2_2, c2_3, c2_4, c2_5⟩ := cells6 H4_2.out
        obtain ⟨c3_0, c3_1, c3_2, c3_3, c3_4, c3_5⟩ := cells6 H4_3.out
        go_wp2
        go_roundw
        case rel => exact ⟨j + 1, st, A9, c9, by omega, by go_num, rfl, HF.out.up, by omega, (HL4.out.less (fun i hi => by rcases hi with rfl | hi; exact .inl rfl; exact .inr (.inl (by first | exact hi | (rw [HT] at hi; exact hi))))).imp (fun F hF => hF.mono (by omega)), H4_0, H4_1⟩
        case measure => simp [intOf]; omega
end Go.Proofs.Ytcjhgckkbekhoaa
