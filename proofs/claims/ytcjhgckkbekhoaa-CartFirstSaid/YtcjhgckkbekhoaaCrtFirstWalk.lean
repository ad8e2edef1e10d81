/-
  The walk of the law CartFirst. No conditions.
-/
import Derived.Test.YtcjhgckkbekhoaaCrtAwake
import Derived.Test.YtcjhgckkbekhoaaPartyKit
import Derived.Test.YtcjhgckkbekhoaaNvRow
namespace Go.Proofs.Ytcjhgckkbekhoaa
set_option maxRecDepth 20000
set_option linter.unusedSimpArgs false
set_option linter.unusedVariables false
open Go.ChangeShapes Go.WideShapes Go.ChangeAt Go.RowKit

theorem gnotice_info : (Try.prog.info? 31).map (·.size) = some (#[Value.int .u8 0, .int .i64 0, .int .i64 0, .int .i64 0, .int .i64 0, .int .u8 0].size) := by kernel_rfl
theorem cfirst_said (k : Int × Int) (v : Int) : (Crt.new.ship k v).said k = some ((Crt.new).ans k v) := by show (if k = k then some (if v = 1 then 1 else 3) else none) = _; rw [if_pos rfl]; rfl
set_option maxHeartbeats 1000000 in
theorem cartFirst_far {w : World} (K S C T M V : Int) (A : Option Addr) (n c : Nat) (h : n = 0 ∨ 30 < n) : Calls Try.prog 12 #[.agg #[.int .u8 K, .int .i64 S, .int .i64 C, .int .i64 T, .int .i64 M, .int .u8 V], .slice A n c] w fun e w' => e = .returned (.bool true) ∧ Below w.heap.size w w' := by
  have hz : ∀ o : Obj, Below w.heap.size w (w.alloc o) := fun o => (Below.refl _ _).alloc (Nat.le_refl _) _
  rcases h with rfl | h
  · go_enter Try.func12, Try.ntmps12
    go_wp2_with (fail)
    refine (crtAwake_any _).mono ?_
    rintro e w1 ⟨rfl, hb1⟩
    have hs1 := hb1.size
    rw [World.size_alloc] at hs1
    have hb1' := (hz _).trans (hb1.mono (by simp))
    go_wp2_with (fail)
    refine (crtAwake_any _).mono ?_
    rintro e w2 ⟨rfl, hb2⟩
    go_wp2
    go_ret
    exact ⟨rfl, hb1'.trans (hb2.mono (by omega))⟩
  · have d0 : ((n : Int) == 0) = false := by simp; omega
    have d1 : decide ((30 : Int) < (n : Int)) = true := by simp; omega
    go_enter Try.func12, Try.ntmps12
    go_wp2_with (fail)
    refine (crtAwake_any _).mono ?_
    rintro e w1 ⟨rfl, hb1⟩
    have hs1 := hb1.size
    rw [World.size_alloc] at hs1
    have hb1' := (hz _).trans (hb1.mono (by simp))
    go_wp2_with (fail)
    refine (crtAwake_any _).mono ?_
    rintro e w2 ⟨rfl, hb2⟩
    go_wp2
    go_ret
    exact ⟨rfl, hb1'.trans (hb2.mono (by omega))⟩
set_option maxHeartbeats 4000000 in
theorem cartFirst_in {w : World} (K S C T M V : Int) (A : Option Addr) (n c : Nat) (l : List Int) (hk : tpok (S, C)) (hr : Rd w .u8 w.heap.size A l) (hn : l.length = n) (h0 : 0 < n) (h : n ≤ 30) : Calls Try.prog 12 #[.agg #[.int .u8 K, .int .i64 S, .int .i64 C, .int .i64 T, .int .i64 M, .int .u8 V], .slice A n c] w fun e w' => e = .returned (.bool true) ∧ Below w.heap.size w w' := by
  have d1 : decide ((30 : Int) < (n : Int)) = false := by simp; omega
  have d0 : ((n : Int) == 0) = false := by simp; omega
  have HR := Lib.hid hr
  have HN := Lib.hid hn
  clear hr hn
  go_enter Try.func12, Try.ntmps12
  go_wp2_with (fail)
  refine (crtAwake_any _).mono ?_
  rintro e U0 ⟨rfl, hU⟩
  have hn0 : U0.heap[w.heap.size]? = some (.cells #[.int .u8 K, .int .i64 S, .int .i64 C, .int .i64 T, .int .i64 M, .int .u8 V] 31 (0, 0)) := below_block hU (alloc_at rfl)
  have hUw : Below w.heap.size w U0 := ((Below.refl _ _).alloc (Nat.le_refl _) _).trans (hU.mono (by simp))
  have hlt : w.heap.size < U0.heap.size := (Array.getElem?_eq_some_iff.1 hn0).1
  have HUB := Lib.hid hUw
  have e0 := boxed_self hn0
  rw [e0]
  clear e0 hn0 hU hUw
  go_wp2_with (fail)
  have HU : Hid (Below w.heap.size w (boxed U0 w.heap.size #[.int .u8 5, .int .i64 S, .int .i64 C, .int .i64 T, .int .i64 M, .int .u8 0] 31)) := boxed_below HUB.out (Nat.le_refl _)
  have HB0_0 : Hid ((boxed U0 w.heap.size #[.int .u8 5, .int .i64 S, .int .i64 C, .int .i64 T, .int .i64 M, .int .u8 0] 31).heap[w.heap.size]? = some (.cells #[.int .u8 5, .int .i64 S, .int .i64 C, .int .i64 T, .int .i64 M, .int .u8 0] 31 (0, 0))) := boxed_at hlt
  have hUs : w.heap.size < (boxed U0 w.heap.size #[.int .u8 5, .int .i64 S, .int .i64 C, .int .i64 T, .int .i64 M, .int .u8 0] 31).heap.size := by rw [boxed_size]; exact hlt
  clear HUB hlt
  generalize boxed U0 w.heap.size #[.int .u8 5, .int .i64 S, .int .i64 C, .int .i64 T, .int .i64 M, .int .u8 0] 31 = U at *
  obtain ⟨a, rfl, ha, hv0⟩ := HR.out.at_ (j := 0) (by have := HN.out; omega)
  obtain ⟨v, hv⟩ : ∃ v, l[0]'(by have := HN.out; omega) = v := ⟨_, rfl⟩
  rw [hv, ad_zero] at hv0
  have HV0 : Hid (U.cell? a = some (.int .u8 v)) := ((World.cell?_of_block (a := a) (HU.out.block a.block ha)).trans hv0)
  have haU : a.block < U.heap.size := by omega
  clear hv hv0
  refine (cnew_live).mono ?_
  rintro e W1 ⟨rfl, hl, hz1⟩
  have HL1 := Lib.hid hl
  have l1 : U.heap.size ≤ W1.heap.size := hl.old.size
  have hb0 : W1.heap[w.heap.size]? = some (.cells #[.int .u8 5, .int .i64 S, .int .i64 C, .int .i64 T, .int .i64 M, .int .u8 0] 31 (0, 0)) := below_block hl.old HB0_0.out
  clear hl hz1
  have HB1_0 := Lib.hid hb0
  have c0_0 : W1.cell? ⟨w.heap.size, 0, none⟩ = some (.int .u8 5) := by rw [cell_of_row _ _ _ _ _ _ hb0]; rfl
  have c0_1 : W1.cell? ⟨w.heap.size, 1, none⟩ = some (.int .i64 S) := by rw [cell_of_row _ _ _ _ _ _ hb0]; rfl
  have c0_2 : W1.cell? ⟨w.heap.size, 2, none⟩ = some (.int .i64 C) := by rw [cell_of_row _ _ _ _ _ _ hb0]; rfl
  have c0_3 : W1.cell? ⟨w.heap.size, 3, none⟩ = some (.int .i64 T) := by rw [cell_of_row _ _ _ _ _ _ hb0]; rfl
  have c0_4 : W1.cell? ⟨w.heap.size, 4, none⟩ = some (.int .i64 M) := by rw [cell_of_row _ _ _ _ _ _ hb0]; rfl
  have c0_5 : W1.cell? ⟨w.heap.size, 5, none⟩ = some (.int .u8 0) := by rw [cell_of_row _ _ _ _ _ _ hb0]; rfl
  clear hb0
  go_wp2
  have HLE : LiveO (CrtB (U.heap.size + 1) .new 0) U (fun (_ : Nat) => False) W1 := HL1.out
  have hNE : ∀ i : Nat, (fun (_ : Nat) => False) i → i < W1.heap.size := fun i hi => hi.elim
  have HB2_0 : Hid (W1.heap[w.heap.size]? = some (.cells #[.int .u8 5, .int .i64 S, .int .i64 C, .int .i64 T, .int .i64 M, .int .u8 0] 31 (0, 0))) := HB1_0.out
  have HL2 := Lib.hid HLE
  have lx : U.heap.size ≤ W1.heap.size := by first | omega | (simp only [World.size_alloc, boxed_size]; omega) | (simp [World.size_alloc, boxed_size]; done) | (simp [World.size_alloc, boxed_size]; omega)
  have hx0 : w.heap.size < W1.heap.size := by first | omega | (simp only [World.size_alloc, boxed_size]; omega) | (simp [World.size_alloc, boxed_size]; done) | (simp [World.size_alloc, boxed_size]; omega)
  clear HLE hNE HB1_0 c0_0 c0_1 c0_2 c0_3 c0_4 c0_5
  generalize W1 = W2 at *
  have hHeld : (fun w' : World => w'.cell? ⟨w.heap.size, 0, none⟩ = some (.int .u8 5) ∧ w'.cell? ⟨w.heap.size, 1, none⟩ = some (.int .i64 S) ∧ w'.cell? ⟨w.heap.size, 2, none⟩ = some (.int .i64 C) ∧ w'.cell? ⟨w.heap.size, 3, none⟩ = some (.int .i64 T) ∧ w'.cell? ⟨w.heap.size, 4, none⟩ = some (.int .i64 M) ∧ w'.cell? ⟨w.heap.size, 5, none⟩ = some (.int .u8 0) ∧ w'.cell? (a) = some (.int .u8 v)) W2.drew := ⟨by rw [cell_of_row _ _ _ _ _ _ (show W2.drew.heap[_]? = _ from HB2_0.out)]; rfl, by rw [cell_of_row _ _ _ _ _ _ (show W2.drew.heap[_]? = _ from HB2_0.out)]; rfl, by rw [cell_of_row _ _ _ _ _ _ (show W2.drew.heap[_]? = _ from HB2_0.out)]; rfl, by rw [cell_of_row _ _ _ _ _ _ (show W2.drew.heap[_]? = _ from HB2_0.out)]; rfl, by rw [cell_of_row _ _ _ _ _ _ (show W2.drew.heap[_]? = _ from HB2_0.out)]; rfl, by rw [cell_of_row _ _ _ _ _ _ (show W2.drew.heap[_]? = _ from HB2_0.out)]; rfl, (World.cell?_of_block (a := a) (by (try rw [ad_block]); exact (HL2.out.old).block _ haU)).trans HV0.out⟩
  have HS0 := Lib.hid hHeld
  clear hHeld
  apply region_frame1 (fun Zq w' => Hid (LiveO (CrtB (U.heap.size + 1) (Crt.new.ship (S, C) v) (0 + 1)) U (fun i => i = Zq) w') ∧ Hid (w'.heap[w.heap.size]? = some (.cells #[.int .u8 5, .int .i64 S, .int .i64 C, .int .i64 T, .int .i64 M, .int .u8 0] 31 (0, 0))) ∧ Hid (w'.heap[Zq]? = some (.cells #[.int .u8 5, .int .i64 S, .int .i64 C, .int .i64 T, .int .i64 M, .int .u8 ((Crt.new).ans (S, C) v)] 31 (0, 0))) ∧ U.heap.size ≤ w'.heap.size ∧ w.heap.size < w'.heap.size ∧ w.heap.size < Zq ∧ Zq < w'.heap.size ∧ U.heap.size ≤ Zq)
  · skip
    refine lane_start (ord := [0, 1, 2, 3, 4, 5, 6, 7, 8, 9, 10, 11]) (S := (fun w' : World => w'.cell? ⟨w.heap.size, 0, none⟩ = some (.int .u8 5) ∧ w'.cell? ⟨w.heap.size, 1, none⟩ = some (.int .i64 S) ∧ w'.cell? ⟨w.heap.size, 2, none⟩ = some (.int .i64 C) ∧ w'.cell? ⟨w.heap.size, 3, none⟩ = some (.int .i64 T) ∧ w'.cell? ⟨w.heap.size, 4, none⟩ = some (.int .i64 M) ∧ w'.cell? ⟨w.heap.size, 5, none⟩ = some (.int .u8 0) ∧ w'.cell? (a) = some (.int .u8 v))) rfl (by kernel_rfl) (by exact HS0.out) (fun _ => ?_)
    iterate 5 (refine lane_take (v := ?_) rfl (by kernel_rfl) (by kernel_rfl) (by rfl) ?_ (by exact HS0.out) ?_; rotate_left; (focus (intro w9 hSw; obtain ⟨x0, x1, x2, x3, x4, x5, x6⟩ := hSw; (try go_simp); try (with_reducible rfl))); simp only [Act.put, List.setIfInBounds_toArray, List.set_cons_zero, List.set_cons_succ])
    refine lane_two (i := 5) (j := 9) (ordI := [6, 7, 8, 9, 10, 11]) (ordJ := [5, 6, 7, 8, 10, 11]) rfl rfl (by kernel_rfl) rfl (by rfl) (by rfl) (fun KK hKK => ?_) (fun KK hKK => ?_)
    · skip
      go_simp
      refine (chear_live (HL2.out.drew (crt_thing (U.heap.size + 1) .new 0)) (fun i hi => hi.elim) hk (by omega)).mono ?_
      rintro e W3 ⟨rfl, hl, hk⟩
      have hsz : W2.heap.size ≤ W3.heap.size := hk.size
      have hb0 : W3.heap[w.heap.size]? = some (.cells #[.int .u8 5, .int .i64 S, .int .i64 C, .int .i64 T, .int .i64 M, .int .u8 0] 31 (0, 0)) := hk.old_at (by omega) HB2_0.out
      have hS1 : (fun w' : World => w'.cell? ⟨w.heap.size, 0, none⟩ = some (.int .u8 5) ∧ w'.cell? ⟨w.heap.size, 1, none⟩ = some (.int .i64 S) ∧ w'.cell? ⟨w.heap.size, 2, none⟩ = some (.int .i64 C) ∧ w'.cell? ⟨w.heap.size, 3, none⟩ = some (.int .i64 T) ∧ w'.cell? ⟨w.heap.size, 4, none⟩ = some (.int .i64 M) ∧ w'.cell? ⟨w.heap.size, 5, none⟩ = some (.int .u8 0) ∧ w'.cell? (a) = some (.int .u8 v)) W3 := ⟨by rw [cell_of_row _ _ _ _ _ _ (hb0)]; rfl, by rw [cell_of_row _ _ _ _ _ _ (hb0)]; rfl, by rw [cell_of_row _ _ _ _ _ _ (hb0)]; rfl, by rw [cell_of_row _ _ _ _ _ _ (hb0)]; rfl, by rw [cell_of_row _ _ _ _ _ _ (hb0)]; rfl, by rw [cell_of_row _ _ _ _ _ _ (hb0)]; rfl, (World.cell?_of_block (a := a) (by (try rw [ad_block]); exact (hl.old).block _ haU)).trans HV0.out⟩
      have HS1 := Lib.hid hS1
      have HLv := Lib.hid hl
      refine hKK _ _ HS1.out (fun _ => ?_)
      clear hKK KK hS1 hl hk
      iterate 3 (refine lane_take (v := ?_) rfl (by kernel_rfl) (by kernel_rfl) (by rfl) ?_ (by exact HS1.out) ?_; rotate_left; (focus (intro w9 hSw; obtain ⟨x0, x1, x2, x3, x4, x5, x6⟩ := hSw; (try go_simp); try (with_reducible rfl))); simp only [Act.put, List.setIfInBounds_toArray, List.set_cons_zero, List.set_cons_succ])
      refine lane_alone rfl (by kernel_rfl) (by rfl) (fun KK hKK => ?_)
      go_simp
      have hS2 : (fun w' : World => w'.cell? ⟨w.heap.size, 0, none⟩ = some (.int .u8 5) ∧ w'.cell? ⟨w.heap.size, 1, none⟩ = some (.int .i64 S) ∧ w'.cell? ⟨w.heap.size, 2, none⟩ = some (.int .i64 C) ∧ w'.cell? ⟨w.heap.size, 3, none⟩ = some (.int .i64 T) ∧ w'.cell? ⟨w.heap.size, 4, none⟩ = some (.int .i64 M) ∧ w'.cell? ⟨w.heap.size, 5, none⟩ = some (.int .u8 0) ∧ w'.cell? (a) = some (.int .u8 v)) (W3.alloc (.cells #[.int .u8 0, .int .i64 0, .int .i64 0, .int .i64 0, .int .i64 0, .int .u8 0] 31)) := ⟨by rw [cell_of_row _ _ _ _ _ _ (alloc_old (by omega) hb0)]; rfl, by rw [cell_of_row _ _ _ _ _ _ (alloc_old (by omega) hb0)]; rfl, by rw [cell_of_row _ _ _ _ _ _ (alloc_old (by omega) hb0)]; rfl, by rw [cell_of_row _ _ _ _ _ _ (alloc_old (by omega) hb0)]; rfl, by rw [cell_of_row _ _ _ _ _ _ (alloc_old (by omega) hb0)]; rfl, by rw [cell_of_row _ _ _ _ _ _ (alloc_old (by omega) hb0)]; rfl, (World.cell?_of_block (a := a) (by (try rw [ad_block]); exact ((HLv.out.old.alloc HLv.out.old.size (.cells #[.int .u8 0, .int .i64 0, .int .i64 0, .int .i64 0, .int .i64 0, .int .u8 0] 31))).block _ haU)).trans HV0.out⟩
      have HS2 := Lib.hid hS2
      refine hKK _ _ HS2.out (fun _ => ?_)
      clear hKK KK hS2
      have HC0 : Hid ((W3.alloc (.cells #[.int .u8 0, .int .i64 0, .int .i64 0, .int .i64 0, .int .i64 0, .int .u8 0] 31)).heap[w.heap.size]? = some (.cells #[.int .u8 5, .int .i64 S, .int .i64 C, .int .i64 T, .int .i64 M, .int .u8 0] 31 (0, 0))) := alloc_old (by omega) hb0
      have HZ : Hid ((W3.alloc (.cells #[.int .u8 0, .int .i64 0, .int .i64 0, .int .i64 0, .int .i64 0, .int .u8 0] 31)).heap[W3.heap.size]? = some (.cells #[.int .u8 0, .int .i64 0, .int .i64 0, .int .i64 0, .int .i64 0, .int .u8 0] 31 (0, 0))) := alloc_block
      have HLx := Lib.hid ((HLv.out.alloc (crt_thing (U.heap.size + 1) (Crt.new.ship (S, C) v) (0 + 1)) (.cells #[.int .u8 0, .int .i64 0, .int .i64 0, .int .i64 0, .int .i64 0, .int .u8 0] 31)))
      have hzz : W3.heap.size < (W3.alloc (.cells #[.int .u8 0, .int .i64 0, .int .i64 0, .int .i64 0, .int .i64 0, .int .u8 0] 31)).heap.size := by rw [World.size_alloc]; omega
      have hzl : W2.heap.size ≤ W3.heap.size := by omega
      clear hb0
      generalize hzn : W3.heap.size = ZZ at *
      skip
      refine lane_alone rfl (by kernel_rfl) (by rfl) (fun KK hKK => ?_)
      refine wp_store_row _ _ _ rfl ZZ _ rfl rfl _ _ HZ.out (by exact gnotice_info) rfl (by simp [Value.oneCell']) ?_
      rw [row_boxed HZ.out]
      have hlt : w.heap.size < ZZ ∧ U.heap.size ≤ ZZ := by (try simp only [and_assoc]); (repeat' (first | omega | refine ⟨?_, ?_⟩))
      have HD0 : Hid ((boxed (W3.alloc (.cells #[.int .u8 0, .int .i64 0, .int .i64 0, .int .i64 0, .int .i64 0, .int .u8 0] 31)) ZZ #[.int .u8 5, .int .i64 S, .int .i64 C, .int .i64 T, .int .i64 M, .int .u8 ((Crt.new).ans (S, C) v)] 31).heap[w.heap.size]? = some (.cells #[.int .u8 5, .int .i64 S, .int .i64 C, .int .i64 T, .int .i64 M, .int .u8 0] 31 (0, 0))) := boxed_old (by omega) HC0.out
      have HLy := Lib.hid (HLx.out.boxed (crt_thing (U.heap.size + 1) (Crt.new.ship (S, C) v) (0 + 1)) (g := ZZ) (cs := #[.int .u8 5, .int .i64 S, .int .i64 C, .int .i64 T, .int .i64 M, .int .u8 ((Crt.new).ans (S, C) v)]) (t := 31) (by simp) (by omega))
      have hS4 : (fun w' : World => w'.cell? ⟨w.heap.size, 0, none⟩ = some (.int .u8 5) ∧ w'.cell? ⟨w.heap.size, 1, none⟩ = some (.int .i64 S) ∧ w'.cell? ⟨w.heap.size, 2, none⟩ = some (.int .i64 C) ∧ w'.cell? ⟨w.heap.size, 3, none⟩ = some (.int .i64 T) ∧ w'.cell? ⟨w.heap.size, 4, none⟩ = some (.int .i64 M) ∧ w'.cell? ⟨w.heap.size, 5, none⟩ = some (.int .u8 0) ∧ w'.cell? (a) = some (.int .u8 v)) (boxed (W3.alloc (.cells #[.int .u8 0, .int .i64 0, .int .i64 0, .int .i64 0, .int .i64 0, .int .u8 0] 31)) ZZ #[.int .u8 5, .int .i64 S, .int .i64 C, .int .i64 T, .int .i64 M, .int .u8 ((Crt.new).ans (S, C) v)] 31) := ⟨by rw [cell_of_row _ _ _ _ _ _ (HD0.out)]; rfl, by rw [cell_of_row _ _ _ _ _ _ (HD0.out)]; rfl, by rw [cell_of_row _ _ _ _ _ _ (HD0.out)]; rfl, by rw [cell_of_row _ _ _ _ _ _ (HD0.out)]; rfl, by rw [cell_of_row _ _ _ _ _ _ (HD0.out)]; rfl, by rw [cell_of_row _ _ _ _ _ _ (HD0.out)]; rfl, (World.cell?_of_block (a := a) (by (try rw [ad_block]); exact (HLy.out.old).block _ haU)).trans HV0.out⟩
      have HS4 := Lib.hid hS4
      refine hKK _ _ HS4.out (fun _ => ?_)
      clear hKK KK hS4
      refine lane_take (v := ?_) rfl (by kernel_rfl) (by kernel_rfl) (by rfl) ?_ (by exact HS4.out) ?_; rotate_left; (focus (intro w9 hSw; obtain ⟨x0, x1, x2, x3, x4, x5, x6⟩ := hSw; (try go_simp); try (with_reducible rfl))); simp only [Act.put, List.setIfInBounds_toArray, List.set_cons_zero, List.set_cons_succ]
      refine lane_end (by kernel_rfl) ?_
      refine ⟨rfl, ZZ, rfl, (HLy.out.less (fun i hi => by have hi2 := hi; (try simp only at hi2); (try simp only [false_or]); omega)), HD0.out, boxed_at hzz, by rw [boxed_size]; omega, by rw [boxed_size]; omega, by omega, by rw [boxed_size]; omega, by omega⟩
    · skip
      go_simp
      have hS2 : (fun w' : World => w'.cell? ⟨w.heap.size, 0, none⟩ = some (.int .u8 5) ∧ w'.cell? ⟨w.heap.size, 1, none⟩ = some (.int .i64 S) ∧ w'.cell? ⟨w.heap.size, 2, none⟩ = some (.int .i64 C) ∧ w'.cell? ⟨w.heap.size, 3, none⟩ = some (.int .i64 T) ∧ w'.cell? ⟨w.heap.size, 4, none⟩ = some (.int .i64 M) ∧ w'.cell? ⟨w.heap.size, 5, none⟩ = some (.int .u8 0) ∧ w'.cell? (a) = some (.int .u8 v)) ((W2.alloc (.cells #[.int .u8 0, .int .i64 0, .int .i64 0, .int .i64 0, .int .i64 0, .int .u8 0] 31)).drew) := ⟨by rw [cell_of_row _ _ _ _ _ _ (show ((W2.alloc (.cells #[.int .u8 0, .int .i64 0, .int .i64 0, .int .i64 0, .int .i64 0, .int .u8 0] 31)).drew).heap[_]? = _ from alloc_old (by omega) HB2_0.out)]; rfl, by rw [cell_of_row _ _ _ _ _ _ (show ((W2.alloc (.cells #[.int .u8 0, .int .i64 0, .int .i64 0, .int .i64 0, .int .i64 0, .int .u8 0] 31)).drew).heap[_]? = _ from alloc_old (by omega) HB2_0.out)]; rfl, by rw [cell_of_row _ _ _ _ _ _ (show ((W2.alloc (.cells #[.int .u8 0, .int .i64 0, .int .i64 0, .int .i64 0, .int .i64 0, .int .u8 0] 31)).drew).heap[_]? = _ from alloc_old (by omega) HB2_0.out)]; rfl, by rw [cell_of_row _ _ _ _ _ _ (show ((W2.alloc (.cells #[.int .u8 0, .int .i64 0, .int .i64 0, .int .i64 0, .int .i64 0, .int .u8 0] 31)).drew).heap[_]? = _ from alloc_old (by omega) HB2_0.out)]; rfl, by rw [cell_of_row _ _ _ _ _ _ (show ((W2.alloc (.cells #[.int .u8 0, .int .i64 0, .int .i64 0, .int .i64 0, .int .i64 0, .int .u8 0] 31)).drew).heap[_]? = _ from alloc_old (by omega) HB2_0.out)]; rfl, by rw [cell_of_row _ _ _ _ _ _ (show ((W2.alloc (.cells #[.int .u8 0, .int .i64 0, .int .i64 0, .int .i64 0, .int .i64 0, .int .u8 0] 31)).drew).heap[_]? = _ from alloc_old (by omega) HB2_0.out)]; rfl, (World.cell?_of_block (a := a) (by (try rw [ad_block]); exact ((HL2.out.old.alloc HL2.out.old.size (.cells #[.int .u8 0, .int .i64 0, .int .i64 0, .int .i64 0, .int .i64 0, .int .u8 0] 31))).block _ haU)).trans HV0.out⟩
      have HS2 := Lib.hid hS2
      refine hKK _ _ HS2.out (fun _ => ?_)
      clear hKK KK hS2
      refine lane_alone rfl (by kernel_rfl) (by rfl) (fun KK hKK => ?_)
      go_simp
      refine (chear_live ((HL2.out.alloc (crt_thing (U.heap.size + 1) .new 0) (.cells #[.int .u8 0, .int .i64 0, .int .i64 0, .int .i64 0, .int .i64 0, .int .u8 0] 31)).drew (crt_thing (U.heap.size + 1) .new 0)) (fun i hi => by have hi2 := hi; (try simp only [false_or] at hi2); show i < (W2.alloc (.cells #[.int .u8 0, .int .i64 0, .int .i64 0, .int .i64 0, .int .i64 0, .int .u8 0] 31)).heap.size; rw [World.size_alloc]; omega) hk (by omega)).mono ?_
      rintro e W3 ⟨rfl, hl, hk⟩
      have hsz : (W2.alloc (.cells #[.int .u8 0, .int .i64 0, .int .i64 0, .int .i64 0, .int .i64 0, .int .u8 0] 31)).heap.size ≤ W3.heap.size := hk.size
      rw [World.size_alloc] at hsz
      have hb0 : W3.heap[w.heap.size]? = some (.cells #[.int .u8 5, .int .i64 S, .int .i64 C, .int .i64 T, .int .i64 M, .int .u8 0] 31 (0, 0)) := hk.old_at (by omega) (show (W2.alloc (.cells #[.int .u8 0, .int .i64 0, .int .i64 0, .int .i64 0, .int .i64 0, .int .u8 0] 31)).heap[_]? = _ from alloc_old (by omega) HB2_0.out)
      have HZ : Hid (W3.heap[W2.heap.size]? = some (.cells #[.int .u8 0, .int .i64 0, .int .i64 0, .int .i64 0, .int .i64 0, .int .u8 0] 31 (0, 0))) := hk.at_ (by simp) (show (W2.alloc (.cells #[.int .u8 0, .int .i64 0, .int .i64 0, .int .i64 0, .int .i64 0, .int .u8 0] 31)).heap[_]? = _ from alloc_block)
      have hS3 : (fun w' : World => w'.cell? ⟨w.heap.size, 0, none⟩ = some (.int .u8 5) ∧ w'.cell? ⟨w.heap.size, 1, none⟩ = some (.int .i64 S) ∧ w'.cell? ⟨w.heap.size, 2, none⟩ = some (.int .i64 C) ∧ w'.cell? ⟨w.heap.size, 3, none⟩ = some (.int .i64 T) ∧ w'.cell? ⟨w.heap.size, 4, none⟩ = some (.int .i64 M) ∧ w'.cell? ⟨w.heap.size, 5, none⟩ = some (.int .u8 0) ∧ w'.cell? (a) = some (.int .u8 v)) W3 := ⟨by rw [cell_of_row _ _ _ _ _ _ (hb0)]; rfl, by rw [cell_of_row _ _ _ _ _ _ (hb0)]; rfl, by rw [cell_of_row _ _ _ _ _ _ (hb0)]; rfl, by rw [cell_of_row _ _ _ _ _ _ (hb0)]; rfl, by rw [cell_of_row _ _ _ _ _ _ (hb0)]; rfl, by rw [cell_of_row _ _ _ _ _ _ (hb0)]; rfl, (World.cell?_of_block (a := a) (by (try rw [ad_block]); exact (hl.old).block _ haU)).trans HV0.out⟩
      have HS2 := Lib.hid hS3
      have HLx := Lib.hid hl
      refine hKK _ _ HS2.out (fun _ => ?_)
      clear hKK KK hS3 hl hk
      iterate 3 (refine lane_take (v := ?_) rfl (by kernel_rfl) (by kernel_rfl) (by rfl) ?_ (by exact HS2.out) ?_; rotate_left; (focus (intro w9 hSw; obtain ⟨x0, x1, x2, x3, x4, x5, x6⟩ := hSw; (try go_simp); try (with_reducible rfl))); simp only [Act.put, List.setIfInBounds_toArray, List.set_cons_zero, List.set_cons_succ])
      have HC0 := Lib.hid hb0
      have hzz : W2.heap.size < W3.heap.size := by omega
      have hzl : W2.heap.size ≤ W2.heap.size := by omega
      clear hb0
      generalize hzn : W2.heap.size = ZZ at *
      refine lane_alone rfl (by kernel_rfl) (by rfl) (fun KK hKK => ?_)
      refine wp_store_row _ _ _ rfl ZZ _ rfl rfl _ _ HZ.out (by exact gnotice_info) rfl (by simp [Value.oneCell']) ?_
      rw [row_boxed HZ.out]
      have hlt : w.heap.size < ZZ ∧ U.heap.size ≤ ZZ := by (try simp only [and_assoc]); (repeat' (first | omega | refine ⟨?_, ?_⟩))
      have HD0 : Hid ((boxed W3 ZZ #[.int .u8 5, .int .i64 S, .int .i64 C, .int .i64 T, .int .i64 M, .int .u8 ((Crt.new).ans (S, C) v)] 31).heap[w.heap.size]? = some (.cells #[.int .u8 5, .int .i64 S, .int .i64 C, .int .i64 T, .int .i64 M, .int .u8 0] 31 (0, 0))) := boxed_old (by omega) HC0.out
      have HLy := Lib.hid (HLx.out.boxed (crt_thing (U.heap.size + 1) (Crt.new.ship (S, C) v) (0 + 1)) (g := ZZ) (cs := #[.int .u8 5, .int .i64 S, .int .i64 C, .int .i64 T, .int .i64 M, .int .u8 ((Crt.new).ans (S, C) v)]) (t := 31) (by simp) (by omega))
      have hS4 : (fun w' : World => w'.cell? ⟨w.heap.size, 0, none⟩ = some (.int .u8 5) ∧ w'.cell? ⟨w.heap.size, 1, none⟩ = some (.int .i64 S) ∧ w'.cell? ⟨w.heap.size, 2, none⟩ = some (.int .i64 C) ∧ w'.cell? ⟨w.heap.size, 3, none⟩ = some (.int .i64 T) ∧ w'.cell? ⟨w.heap.size, 4, none⟩ = some (.int .i64 M) ∧ w'.cell? ⟨w.heap.size, 5, none⟩ = some (.int .u8 0) ∧ w'.cell? (a) = some (.int .u8 v)) (boxed W3 ZZ #[.int .u8 5, .int .i64 S, .int .i64 C, .int .i64 T, .int .i64 M, .int .u8 ((Crt.new).ans (S, C) v)] 31) := ⟨by rw [cell_of_row _ _ _ _ _ _ (HD0.out)]; rfl, by rw [cell_of_row _ _ _ _ _ _ (HD0.out)]; rfl, by rw [cell_of_row _ _ _ _ _ _ (HD0.out)]; rfl, by rw [cell_of_row _ _ _ _ _ _ (HD0.out)]; rfl, by rw [cell_of_row _ _ _ _ _ _ (HD0.out)]; rfl, by rw [cell_of_row _ _ _ _ _ _ (HD0.out)]; rfl, (World.cell?_of_block (a := a) (by (try rw [ad_block]); exact (HLy.out.old).block _ haU)).trans HV0.out⟩
      have HS4 := Lib.hid hS4
      refine hKK _ _ HS4.out (fun _ => ?_)
      clear hKK KK hS4
      refine lane_take (v := ?_) rfl (by kernel_rfl) (by kernel_rfl) (by rfl) ?_ (by exact HS4.out) ?_; rotate_left; (focus (intro w9 hSw; obtain ⟨x0, x1, x2, x3, x4, x5, x6⟩ := hSw; (try go_simp); try (with_reducible rfl))); simp only [Act.put, List.setIfInBounds_toArray, List.set_cons_zero, List.set_cons_succ]
      refine lane_end (by kernel_rfl) ?_
      refine ⟨rfl, ZZ, rfl, (HLy.out.less (fun i hi => by have hi2 := hi; (try simp only at hi2); (try simp only [false_or]); omega)), HD0.out, boxed_at hzz, by rw [boxed_size]; omega, by rw [boxed_size]; omega, by omega, by rw [boxed_size]; omega, by omega⟩
  rintro Z W3 ⟨HL3, hb0, hbZ, lb, lc0, ld0, le, lf⟩
  have HB3_0 := hb0
  skip
  have c0_0 : W3.cell? ⟨w.heap.size, 0, none⟩ = some (.int .u8 5) := by rw [cell_of_row _ _ _ _ _ _ HB3_0.out]; rfl
  have c0_1 : W3.cell? ⟨w.heap.size, 1, none⟩ = some (.int .i64 S) := by rw [cell_of_row _ _ _ _ _ _ HB3_0.out]; rfl
  have c0_2 : W3.cell? ⟨w.heap.size, 2, none⟩ = some (.int .i64 C) := by rw [cell_of_row _ _ _ _ _ _ HB3_0.out]; rfl
  have c0_3 : W3.cell? ⟨w.heap.size, 3, none⟩ = some (.int .i64 T) := by rw [cell_of_row _ _ _ _ _ _ HB3_0.out]; rfl
  have c0_4 : W3.cell? ⟨w.heap.size, 4, none⟩ = some (.int .i64 M) := by rw [cell_of_row _ _ _ _ _ _ HB3_0.out]; rfl
  have c0_5 : W3.cell? ⟨w.heap.size, 5, none⟩ = some (.int .u8 0) := by rw [cell_of_row _ _ _ _ _ _ HB3_0.out]; rfl
  have HB3_1 := hbZ
  skip
  have c1_0 : W3.cell? ⟨Z, 0, none⟩ = some (.int .u8 5) := by rw [cell_of_row _ _ _ _ _ _ HB3_1.out]; rfl
  have c1_1 : W3.cell? ⟨Z, 1, none⟩ = some (.int .i64 S) := by rw [cell_of_row _ _ _ _ _ _ HB3_1.out]; rfl
  have c1_2 : W3.cell? ⟨Z, 2, none⟩ = some (.int .i64 C) := by rw [cell_of_row _ _ _ _ _ _ HB3_1.out]; rfl
  have c1_3 : W3.cell? ⟨Z, 3, none⟩ = some (.int .i64 T) := by rw [cell_of_row _ _ _ _ _ _ HB3_1.out]; rfl
  have c1_4 : W3.cell? ⟨Z, 4, none⟩ = some (.int .i64 M) := by rw [cell_of_row _ _ _ _ _ _ HB3_1.out]; rfl
  have c1_5 : W3.cell? ⟨Z, 5, none⟩ = some (.int .u8 ((Crt.new).ans (S, C) v)) := by rw [cell_of_row _ _ _ _ _ _ HB3_1.out]; rfl
  obtain ⟨st, hst⟩ : ∃ st, st = Crt.new.ship (S, C) v := ⟨_, rfl⟩
  obtain ⟨x, hx⟩ : ∃ x, x = (Crt.new).ans (S, C) v := ⟨_, rfl⟩
  have HSAID : Hid (st.said (S, C) = some x) := by rw [hst, hx]; exact cfirst_said _ _
  have HXV : Hid (x = if v = 1 then 1 else 3) := by rw [hx]; rfl
  have HAS : Hid (sentOf st.trips (S, C) = if v = 1 then 1 else 0) := by rw [hst]; show sentOf (if v = 1 then [] ++ [(S, C)] else []) (S, C) = _; by_cases e : v = 1 <;> simp [e, sentOf]
  rw [← hst] at HL3
  rw [← hx] at HB3_1 c1_5
  simp only [← hx]
  clear hst hx
  go_wp2
  go_loopw [8] (fun i wq => ∃ j : Nat, 1 ≤ j ∧ j ≤ n ∧ i = .int .i64 j ∧ Hid (LiveO (CrtB (U.heap.size + 1) st j) U (fun i => i = Z) wq) ∧ Hid (wq.heap[w.heap.size]? = some (.cells #[.int .u8 5, .int .i64 S, .int .i64 C, .int .i64 T, .int .i64 M, .int .u8 0] 31 (0, 0))) ∧ Hid (wq.heap[Z]? = some (.cells #[.int .u8 5, .int .i64 S, .int .i64 C, .int .i64 T, .int .i64 M, .int .u8 x] 31 (0, 0))) ∧ Z < wq.heap.size) (fun i _ => n - (intOf i).toNat)
  case atStart => exact ⟨1, by omega, by omega, rfl, HL3, HB3_0, HB3_1, le⟩
  case round =>
    clear c0_0 c1_0 c0_1 c1_1 c0_2 c1_2 c0_3 c1_3 c0_4 c1_4 c0_5 c1_5
    obtain ⟨j, hj0, hj, rfl, HL, HBa, HBz, lwz⟩ := hrel
    have lu : U.heap.size ≤ wr.heap.size := HL.out.old.size
    by_cases hlt : j < n
    case neg =>
      obtain rfl : j = n := by omega
      have dlt : decide ((j : Int) < (j : Int)) = false := by simp
      have f5 : wr.cell? ⟨Z, 5, none⟩ = some (.int .u8 x) := by rw [cell_of_row _ _ _ _ _ _ HBz.out]; rfl
      have g1 : wr.cell? ⟨w.heap.size, 1, none⟩ = some (.int .i64 S) := by rw [cell_of_row _ _ _ _ _ _ HBa.out]; rfl
      have g2 : wr.cell? ⟨w.heap.size, 2, none⟩ = some (.int .i64 C) := by rw [cell_of_row _ _ _ _ _ _ HBa.out]; rfl
      have fa : wr.cell? a = some (.int .u8 v) := (World.cell?_of_block (HL.out.old.block _ haU)).trans HV0.out
      have HASD : Hid (∀ y : Later wr, Calls Try.prog 29 #[.pointer (some ⟨U.heap.size + 1, 0, none⟩), .int .i64 S, .int .i64 C] (over wr y) fun e w' => e = .returned (.int .i64 (if v = 1 then 1 else 0)) ∧ Below (over wr y).heap.size (over wr y) w') := fun y => by
        have := sent_live (a := S) (b := C) (HL.out.below (crt_thing _ _ _) (over_below wr y)) (by omega)
        rw [HAS.out] at this
        exact this
      have fb : ∀ y : Later wr, (over wr y).cell? a = some (.int .u8 v) := fun y => (World.cell?_of_block ((over_below wr y).block _ (by omega))).trans fa
      have lw : w.heap.size < wr.heap.size := by omega
      by_cases hv1 : v = 1
      · skip
        subst hv1
        rw [if_pos rfl] at HXV
        have hxv : x = 1 := HXV.out
        subst hxv
        simp only [if_true] at HASD
        go_wp2_with (fail)
        refine region_over (by kernel_rfl) (by kernel_rfl) ?_
        repeat (go_big_quiet_step (first | (go_at_call 29; exact over_call (HASD.out _))))
        refine wpQuiet_nil ?_
        rintro _ ⟨y, rfl⟩
        go_wp2
        go_ret
        exact ⟨rfl, HU.out.trans ((HL.out.old.trans ((over_below wr y).mono lu)).mono (by omega))⟩
      · skip
        have hv2 : (v == 1) = false := by simpa using hv1
        rw [if_neg hv1] at HXV
        have hxv : x = 3 := HXV.out
        subst hxv
        simp only [if_neg hv1] at HASD
        go_wp2_with (fail)
        refine region_over (by kernel_rfl) (by kernel_rfl) ?_
        repeat (go_big_quiet_step (first | (go_at_call 29; exact over_call (HASD.out _))))
        refine wpQuiet_nil ?_
        rintro _ ⟨y, rfl⟩
        go_wp2
        go_ret
        exact ⟨rfl, HU.out.trans ((HL.out.old.trans ((over_below wr y).mono lu)).mono (by omega))⟩
    case pos =>
      have dlt : decide ((j : Int) < (n : Int)) = true := by simpa using hlt
      obtain ⟨a9, ha9, _, hvj⟩ := HR.out.at_ (j := j) (by have := HN.out; omega)
      injection ha9 with ha9
      subst ha9
      obtain ⟨y, hy⟩ : ∃ y, l[j]'(by have := HN.out; omega) = y := ⟨_, rfl⟩
      rw [hy] at hvj
      have HVJ : Hid (U.cell? (a.add j) = some (.int .u8 y)) := (World.cell?_of_block (by rw [ad_block]; exact HU.out.block a.block ha)).trans hvj
      clear hy hvj
      have k0 : (0 : Int) ≤ (j : Int) := by omega
      go_wp2_with (fail)
      have HB1_0 := HBa
      have HB1_1 := HBz
      have HL1 := HL
      have l1 : U.heap.size ≤ wr.heap.size := HL1.out.old.size
      have hHeld : (fun w' : World => w'.cell? ⟨w.heap.size, 0, none⟩ = some (.int .u8 5) ∧ w'.cell? ⟨w.heap.size, 1, none⟩ = some (.int .i64 S) ∧ w'.cell? ⟨w.heap.size, 2, none⟩ = some (.int .i64 C) ∧ w'.cell? ⟨w.heap.size, 3, none⟩ = some (.int .i64 T) ∧ w'.cell? ⟨w.heap.size, 4, none⟩ = some (.int .i64 M) ∧ w'.cell? ⟨w.heap.size, 5, none⟩ = some (.int .u8 0) ∧ w'.cell? (a.add j) = some (.int .u8 y)) wr.drew := ⟨by rw [cell_of_row _ _ _ _ _ _ (show wr.drew.heap[_]? = _ from HB1_0.out)]; rfl, by rw [cell_of_row _ _ _ _ _ _ (show wr.drew.heap[_]? = _ from HB1_0.out)]; rfl, by rw [cell_of_row _ _ _ _ _ _ (show wr.drew.heap[_]? = _ from HB1_0.out)]; rfl, by rw [cell_of_row _ _ _ _ _ _ (show wr.drew.heap[_]? = _ from HB1_0.out)]; rfl, by rw [cell_of_row _ _ _ _ _ _ (show wr.drew.heap[_]? = _ from HB1_0.out)]; rfl, by rw [cell_of_row _ _ _ _ _ _ (show wr.drew.heap[_]? = _ from HB1_0.out)]; rfl, (World.cell?_of_block (a := a.add j) (by (try rw [ad_block]); exact (HL1.out.old).block _ haU)).trans HVJ.out⟩
      have HS0 := Lib.hid hHeld
      clear hHeld
      apply region_frame1 (fun Zq w' => Hid (LiveO (CrtB (U.heap.size + 1) st (j + 1)) U (fun i => i = Z ∨ i = Zq) w') ∧ Hid (w'.heap[w.heap.size]? = some (.cells #[.int .u8 5, .int .i64 S, .int .i64 C, .int .i64 T, .int .i64 M, .int .u8 0] 31 (0, 0))) ∧ Hid (w'.heap[Z]? = some (.cells #[.int .u8 5, .int .i64 S, .int .i64 C, .int .i64 T, .int .i64 M, .int .u8 x] 31 (0, 0))) ∧ Hid (w'.heap[Zq]? = some (.cells #[.int .u8 5, .int .i64 S, .int .i64 C, .int .i64 T, .int .i64 M, .int .u8 x] 31 (0, 0))) ∧ U.heap.size ≤ w'.heap.size ∧ w.heap.size < w'.heap.size ∧ Z < w'.heap.size ∧ w.heap.size < Zq ∧ Z < Zq ∧ Zq < w'.heap.size ∧ U.heap.size ≤ Zq)
      · skip
        refine lane_start (ord := [0, 1, 2, 3, 4, 5, 6, 7, 8, 9, 10, 11, 12]) (S := (fun w' : World => w'.cell? ⟨w.heap.size, 0, none⟩ = some (.int .u8 5) ∧ w'.cell? ⟨w.heap.size, 1, none⟩ = some (.int .i64 S) ∧ w'.cell? ⟨w.heap.size, 2, none⟩ = some (.int .i64 C) ∧ w'.cell? ⟨w.heap.size, 3, none⟩ = some (.int .i64 T) ∧ w'.cell? ⟨w.heap.size, 4, none⟩ = some (.int .i64 M) ∧ w'.cell? ⟨w.heap.size, 5, none⟩ = some (.int .u8 0) ∧ w'.cell? (a.add j) = some (.int .u8 y))) rfl (by kernel_rfl) (by exact HS0.out) (fun _ => ?_)
        iterate 6 (refine lane_take (v := ?_) rfl (by kernel_rfl) (by kernel_rfl) (by rfl) ?_ (by exact HS0.out) ?_; rotate_left; (focus (intro w9 hSw; obtain ⟨x0, x1, x2, x3, x4, x5, x6⟩ := hSw; (try go_simp); try (with_reducible rfl))); simp only [Act.put, List.setIfInBounds_toArray, List.set_cons_zero, List.set_cons_succ])
        refine lane_two (i := 6) (j := 10) (ordI := [7, 8, 9, 10, 11, 12]) (ordJ := [6, 7, 8, 9, 11, 12]) rfl rfl (by kernel_rfl) rfl (by rfl) (by rfl) (fun KK hKK => ?_) (fun KK hKK => ?_)
        · skip
          go_simp
          refine (chear_again_live HSAID.out (HL1.out.drew (crt_thing (U.heap.size + 1) st j)) (fun i hi => by have hi2 := hi; (try simp only at hi2); show i < wr.heap.size; omega) hk (by omega)).mono ?_
          rintro e W2 ⟨rfl, hl, hk⟩
          have hsz : wr.heap.size ≤ W2.heap.size := hk.size
          have hb0 : W2.heap[w.heap.size]? = some (.cells #[.int .u8 5, .int .i64 S, .int .i64 C, .int .i64 T, .int .i64 M, .int .u8 0] 31 (0, 0)) := hk.old_at (by omega) HB1_0.out
          have hb1 : W2.heap[Z]? = some (.cells #[.int .u8 5, .int .i64 S, .int .i64 C, .int .i64 T, .int .i64 M, .int .u8 x] 31 (0, 0)) := hk.at_ (by simp) HB1_1.out
          have hS1 : (fun w' : World => w'.cell? ⟨w.heap.size, 0, none⟩ = some (.int .u8 5) ∧ w'.cell? ⟨w.heap.size, 1, none⟩ = some (.int .i64 S) ∧ w'.cell? ⟨w.heap.size, 2, none⟩ = some (.int .i64 C) ∧ w'.cell? ⟨w.heap.size, 3, none⟩ = some (.int .i64 T) ∧ w'.cell? ⟨w.heap.size, 4, none⟩ = some (.int .i64 M) ∧ w'.cell? ⟨w.heap.size, 5, none⟩ = some (.int .u8 0) ∧ w'.cell? (a.add j) = some (.int .u8 y)) W2 := ⟨by rw [cell_of_row _ _ _ _ _ _ (hb0)]; rfl, by rw [cell_of_row _ _ _ _ _ _ (hb0)]; rfl, by rw [cell_of_row _ _ _ _ _ _ (hb0)]; rfl, by rw [cell_of_row _ _ _ _ _ _ (hb0)]; rfl, by rw [cell_of_row _ _ _ _ _ _ (hb0)]; rfl, by rw [cell_of_row _ _ _ _ _ _ (hb0)]; rfl, (World.cell?_of_block (a := a.add j) (by (try rw [ad_block]); exact (hl.old).block _ haU)).trans HVJ.out⟩
          have HS1 := Lib.hid hS1
          have HLv := Lib.hid hl
          refine hKK _ _ HS1.out (fun _ => ?_)
          clear hKK KK hS1 hl hk
          iterate 3 (refine lane_take (v := ?_) rfl (by kernel_rfl) (by kernel_rfl) (by rfl) ?_ (by exact HS1.out) ?_; rotate_left; (focus (intro w9 hSw; obtain ⟨x0, x1, x2, x3, x4, x5, x6⟩ := hSw; (try go_simp); try (with_reducible rfl))); simp only [Act.put, List.setIfInBounds_toArray, List.set_cons_zero, List.set_cons_succ])
          refine lane_alone rfl (by kernel_rfl) (by rfl) (fun KK hKK => ?_)
          go_simp
          have hS2 : (fun w' : World => w'.cell? ⟨w.heap.size, 0, none⟩ = some (.int .u8 5) ∧ w'.cell? ⟨w.heap.size, 1, none⟩ = some (.int .i64 S) ∧ w'.cell? ⟨w.heap.size, 2, none⟩ = some (.int .i64 C) ∧ w'.cell? ⟨w.heap.size, 3, none⟩ = some (.int .i64 T) ∧ w'.cell? ⟨w.heap.size, 4, none⟩ = some (.int .i64 M) ∧ w'.cell? ⟨w.heap.size, 5, none⟩ = some (.int .u8 0) ∧ w'.cell? (a.add j) = some (.int .u8 y)) (W2.alloc (.cells #[.int .u8 0, .int .i64 0, .int .i64 0, .int .i64 0, .int .i64 0, .int .u8 0] 31)) := ⟨by rw [cell_of_row _ _ _ _ _ _ (alloc_old (by omega) hb0)]; rfl, by rw [cell_of_row _ _ _ _ _ _ (alloc_old (by omega) hb0)]; rfl, by rw [cell_of_row _ _ _ _ _ _ (alloc_old (by omega) hb0)]; rfl, by rw [cell_of_row _ _ _ _ _ _ (alloc_old (by omega) hb0)]; rfl, by rw [cell_of_row _ _ _ _ _ _ (alloc_old (by omega) hb0)]; rfl, by rw [cell_of_row _ _ _ _ _ _ (alloc_old (by omega) hb0)]; rfl, (World.cell?_of_block (a := a.add j) (by (try rw [ad_block]); exact ((HLv.out.old.alloc HLv.out.old.size (.cells #[.int .u8 0, .int .i64 0, .int .i64 0, .int .i64 0, .int .i64 0, .int .u8 0] 31))).block _ haU)).trans HVJ.out⟩
          have HS2 := Lib.hid hS2
          refine hKK _ _ HS2.out (fun _ => ?_)
          clear hKK KK hS2
          have HC0 : Hid ((W2.alloc (.cells #[.int .u8 0, .int .i64 0, .int .i64 0, .int .i64 0, .int .i64 0, .int .u8 0] 31)).heap[w.heap.size]? = some (.cells #[.int .u8 5, .int .i64 S, .int .i64 C, .int .i64 T, .int .i64 M, .int .u8 0] 31 (0, 0))) := alloc_old (by omega) hb0
          have HC1 : Hid ((W2.alloc (.cells #[.int .u8 0, .int .i64 0, .int .i64 0, .int .i64 0, .int .i64 0, .int .u8 0] 31)).heap[Z]? = some (.cells #[.int .u8 5, .int .i64 S, .int .i64 C, .int .i64 T, .int .i64 M, .int .u8 x] 31 (0, 0))) := alloc_old (by omega) hb1
          have HZ : Hid ((W2.alloc (.cells #[.int .u8 0, .int .i64 0, .int .i64 0, .int .i64 0, .int .i64 0, .int .u8 0] 31)).heap[W2.heap.size]? = some (.cells #[.int .u8 0, .int .i64 0, .int .i64 0, .int .i64 0, .int .i64 0, .int .u8 0] 31 (0, 0))) := alloc_block
          have HLx := Lib.hid ((HLv.out.alloc (crt_thing (U.heap.size + 1) st (j + 1)) (.cells #[.int .u8 0, .int .i64 0, .int .i64 0, .int .i64 0, .int .i64 0, .int .u8 0] 31)))
          have hzz : W2.heap.size < (W2.alloc (.cells #[.int .u8 0, .int .i64 0, .int .i64 0, .int .i64 0, .int .i64 0, .int .u8 0] 31)).heap.size := by rw [World.size_alloc]; omega
          have hzl : wr.heap.size ≤ W2.heap.size := by omega
          clear hb0 hb1
          generalize hzn : W2.heap.size = ZZ at *
          skip
          refine lane_alone rfl (by kernel_rfl) (by rfl) (fun KK hKK => ?_)
          refine wp_store_row _ _ _ rfl ZZ _ rfl rfl _ _ HZ.out (by exact gnotice_info) rfl (by simp [Value.oneCell']) ?_
          rw [row_boxed HZ.out]
          have hlt : w.heap.size < ZZ ∧ Z < ZZ ∧ U.heap.size ≤ ZZ := by (try simp only [and_assoc]); (repeat' (first | omega | refine ⟨?_, ?_⟩))
          have HD0 : Hid ((boxed (W2.alloc (.cells #[.int .u8 0, .int .i64 0, .int .i64 0, .int .i64 0, .int .i64 0, .int .u8 0] 31)) ZZ #[.int .u8 5, .int .i64 S, .int .i64 C, .int .i64 T, .int .i64 M, .int .u8 x] 31).heap[w.heap.size]? = some (.cells #[.int .u8 5, .int .i64 S, .int .i64 C, .int .i64 T, .int .i64 M, .int .u8 0] 31 (0, 0))) := boxed_old (by omega) HC0.out
          have HD1 : Hid ((boxed (W2.alloc (.cells #[.int .u8 0, .int .i64 0, .int .i64 0, .int .i64 0, .int .i64 0, .int .u8 0] 31)) ZZ #[.int .u8 5, .int .i64 S, .int .i64 C, .int .i64 T, .int .i64 M, .int .u8 x] 31).heap[Z]? = some (.cells #[.int .u8 5, .int .i64 S, .int .i64 C, .int .i64 T, .int .i64 M, .int .u8 x] 31 (0, 0))) := boxed_old (by omega) HC1.out
          have HLy := Lib.hid (HLx.out.boxed (crt_thing (U.heap.size + 1) st (j + 1)) (g := ZZ) (cs := #[.int .u8 5, .int .i64 S, .int .i64 C, .int .i64 T, .int .i64 M, .int .u8 x]) (t := 31) (by simp) (by omega))
          have hS4 : (fun w' : World => w'.cell? ⟨w.heap.size, 0, none⟩ = some (.int .u8 5) ∧ w'.cell? ⟨w.heap.size, 1, none⟩ = some (.int .i64 S) ∧ w'.cell? ⟨w.heap.size, 2, none⟩ = some (.int .i64 C) ∧ w'.cell? ⟨w.heap.size, 3, none⟩ = some (.int .i64 T) ∧ w'.cell? ⟨w.heap.size, 4, none⟩ = some (.int .i64 M) ∧ w'.cell? ⟨w.heap.size, 5, none⟩ = some (.int .u8 0) ∧ w'.cell? (a.add j) = some (.int .u8 y)) (boxed (W2.alloc (.cells #[.int .u8 0, .int .i64 0, .int .i64 0, .int .i64 0, .int .i64 0, .int .u8 0] 31)) ZZ #[.int .u8 5, .int .i64 S, .int .i64 C, .int .i64 T, .int .i64 M, .int .u8 x] 31) := ⟨by rw [cell_of_row _ _ _ _ _ _ (HD0.out)]; rfl, by rw [cell_of_row _ _ _ _ _ _ (HD0.out)]; rfl, by rw [cell_of_row _ _ _ _ _ _ (HD0.out)]; rfl, by rw [cell_of_row _ _ _ _ _ _ (HD0.out)]; rfl, by rw [cell_of_row _ _ _ _ _ _ (HD0.out)]; rfl, by rw [cell_of_row _ _ _ _ _ _ (HD0.out)]; rfl, (World.cell?_of_block (a := a.add j) (by (try rw [ad_block]); exact (HLy.out.old).block _ haU)).trans HVJ.out⟩
          have HS4 := Lib.hid hS4
          refine hKK _ _ HS4.out (fun _ => ?_)
          clear hKK KK hS4
          refine lane_take (v := ?_) rfl (by kernel_rfl) (by kernel_rfl) (by rfl) ?_ (by exact HS4.out) ?_; rotate_left; (focus (intro w9 hSw; obtain ⟨x0, x1, x2, x3, x4, x5, x6⟩ := hSw; (try go_simp); try (with_reducible rfl))); simp only [Act.put, List.setIfInBounds_toArray, List.set_cons_zero, List.set_cons_succ]
          refine lane_end (by kernel_rfl) ?_
          refine ⟨rfl, ZZ, rfl, (HLy.out.less (fun i hi => by have hi2 := hi; (try simp only at hi2); (try simp only [false_or]); omega)), HD0.out, HD1.out, boxed_at hzz, by rw [boxed_size]; omega, by rw [boxed_size]; omega, by rw [boxed_size]; omega, by omega, by omega, by rw [boxed_size]; omega, by omega⟩
        · skip
          go_simp
          have hS2 : (fun w' : World => w'.cell? ⟨w.heap.size, 0, none⟩ = some (.int .u8 5) ∧ w'.cell? ⟨w.heap.size, 1, none⟩ = some (.int .i64 S) ∧ w'.cell? ⟨w.heap.size, 2, none⟩ = some (.int .i64 C) ∧ w'.cell? ⟨w.heap.size, 3, none⟩ = some (.int .i64 T) ∧ w'.cell? ⟨w.heap.size, 4, none⟩ = some (.int .i64 M) ∧ w'.cell? ⟨w.heap.size, 5, none⟩ = some (.int .u8 0) ∧ w'.cell? (a.add j) = some (.int .u8 y)) ((wr.alloc (.cells #[.int .u8 0, .int .i64 0, .int .i64 0, .int .i64 0, .int .i64 0, .int .u8 0] 31)).drew) := ⟨by rw [cell_of_row _ _ _ _ _ _ (show ((wr.alloc (.cells #[.int .u8 0, .int .i64 0, .int .i64 0, .int .i64 0, .int .i64 0, .int .u8 0] 31)).drew).heap[_]? = _ from alloc_old (by omega) HB1_0.out)]; rfl, by rw [cell_of_row _ _ _ _ _ _ (show ((wr.alloc (.cells #[.int .u8 0, .int .i64 0, .int .i64 0, .int .i64 0, .int .i64 0, .int .u8 0] 31)).drew).heap[_]? = _ from alloc_old (by omega) HB1_0.out)]; rfl, by rw [cell_of_row _ _ _ _ _ _ (show ((wr.alloc (.cells #[.int .u8 0, .int .i64 0, .int .i64 0, .int .i64 0, .int .i64 0, .int .u8 0] 31)).drew).heap[_]? = _ from alloc_old (by omega) HB1_0.out)]; rfl, by rw [cell_of_row _ _ _ _ _ _ (show ((wr.alloc (.cells #[.int .u8 0, .int .i64 0, .int .i64 0, .int .i64 0, .int .i64 0, .int .u8 0] 31)).drew).heap[_]? = _ from alloc_old (by omega) HB1_0.out)]; rfl, by rw [cell_of_row _ _ _ _ _ _ (show ((wr.alloc (.cells #[.int .u8 0, .int .i64 0, .int .i64 0, .int .i64 0, .int .i64 0, .int .u8 0] 31)).drew).heap[_]? = _ from alloc_old (by omega) HB1_0.out)]; rfl, by rw [cell_of_row _ _ _ _ _ _ (show ((wr.alloc (.cells #[.int .u8 0, .int .i64 0, .int .i64 0, .int .i64 0, .int .i64 0, .int .u8 0] 31)).drew).heap[_]? = _ from alloc_old (by omega) HB1_0.out)]; rfl, (World.cell?_of_block (a := a.add j) (by (try rw [ad_block]); exact ((HL1.out.old.alloc HL1.out.old.size (.cells #[.int .u8 0, .int .i64 0, .int .i64 0, .int .i64 0, .int .i64 0, .int .u8 0] 31))).block _ haU)).trans HVJ.out⟩
          have HS2 := Lib.hid hS2
          refine hKK _ _ HS2.out (fun _ => ?_)
          clear hKK KK hS2
          refine lane_alone rfl (by kernel_rfl) (by rfl) (fun KK hKK => ?_)
          go_simp
          refine (chear_again_live HSAID.out ((HL1.out.alloc (crt_thing (U.heap.size + 1) st j) (.cells #[.int .u8 0, .int .i64 0, .int .i64 0, .int .i64 0, .int .i64 0, .int .u8 0] 31)).drew (crt_thing (U.heap.size + 1) st j)) (fun i hi => by have hi2 := hi; (try simp only [false_or] at hi2); show i < (wr.alloc (.cells #[.int .u8 0, .int .i64 0, .int .i64 0, .int .i64 0, .int .i64 0, .int .u8 0] 31)).heap.size; rw [World.size_alloc]; omega) hk (by omega)).mono ?_
          rintro e W2 ⟨rfl, hl, hk⟩
          have hsz : (wr.alloc (.cells #[.int .u8 0, .int .i64 0, .int .i64 0, .int .i64 0, .int .i64 0, .int .u8 0] 31)).heap.size ≤ W2.heap.size := hk.size
          rw [World.size_alloc] at hsz
          have hb0 : W2.heap[w.heap.size]? = some (.cells #[.int .u8 5, .int .i64 S, .int .i64 C, .int .i64 T, .int .i64 M, .int .u8 0] 31 (0, 0)) := hk.old_at (by omega) (show (wr.alloc (.cells #[.int .u8 0, .int .i64 0, .int .i64 0, .int .i64 0, .int .i64 0, .int .u8 0] 31)).heap[_]? = _ from alloc_old (by omega) HB1_0.out)
          have hb1 : W2.heap[Z]? = some (.cells #[.int .u8 5, .int .i64 S, .int .i64 C, .int .i64 T, .int .i64 M, .int .u8 x] 31 (0, 0)) := hk.at_ (by simp) (show (wr.alloc (.cells #[.int .u8 0, .int .i64 0, .int .i64 0, .int .i64 0, .int .i64 0, .int .u8 0] 31)).heap[_]? = _ from alloc_old (by omega) HB1_1.out)
          have HZ : Hid (W2.heap[wr.heap.size]? = some (.cells #[.int .u8 0, .int .i64 0, .int .i64 0, .int .i64 0, .int .i64 0, .int .u8 0] 31 (0, 0))) := hk.at_ (by simp) (show (wr.alloc (.cells #[.int .u8 0, .int .i64 0, .int .i64 0, .int .i64 0, .int .i64 0, .int .u8 0] 31)).heap[_]? = _ from alloc_block)
          have hS3 : (fun w' : World => w'.cell? ⟨w.heap.size, 0, none⟩ = some (.int .u8 5) ∧ w'.cell? ⟨w.heap.size, 1, none⟩ = some (.int .i64 S) ∧ w'.cell? ⟨w.heap.size, 2, none⟩ = some (.int .i64 C) ∧ w'.cell? ⟨w.heap.size, 3, none⟩ = some (.int .i64 T) ∧ w'.cell? ⟨w.heap.size, 4, none⟩ = some (.int .i64 M) ∧ w'.cell? ⟨w.heap.size, 5, none⟩ = some (.int .u8 0) ∧ w'.cell? (a.add j) = some (.int .u8 y)) W2 := ⟨by rw [cell_of_row _ _ _ _ _ _ (hb0)]; rfl, by rw [cell_of_row _ _ _ _ _ _ (hb0)]; rfl, by rw [cell_of_row _ _ _ _ _ _ (hb0)]; rfl, by rw [cell_of_row _ _ _ _ _ _ (hb0)]; rfl, by rw [cell_of_row _ _ _ _ _ _ (hb0)]; rfl, by rw [cell_of_row _ _ _ _ _ _ (hb0)]; rfl, (World.cell?_of_block (a := a.add j) (by (try rw [ad_block]); exact (hl.old).block _ haU)).trans HVJ.out⟩
          have HS2 := Lib.hid hS3
          have HLx := Lib.hid hl
          refine hKK _ _ HS2.out (fun _ => ?_)
          clear hKK KK hS3 hl hk
          iterate 3 (refine lane_take (v := ?_) rfl (by kernel_rfl) (by kernel_rfl) (by rfl) ?_ (by exact HS2.out) ?_; rotate_left; (focus (intro w9 hSw; obtain ⟨x0, x1, x2, x3, x4, x5, x6⟩ := hSw; (try go_simp); try (with_reducible rfl))); simp only [Act.put, List.setIfInBounds_toArray, List.set_cons_zero, List.set_cons_succ])
          have HC0 := Lib.hid hb0
          have HC1 := Lib.hid hb1
          have hzz : wr.heap.size < W2.heap.size := by omega
          have hzl : wr.heap.size ≤ wr.heap.size := by omega
          clear hb0 hb1
          generalize hzn : wr.heap.size = ZZ at *
          refine lane_alone rfl (by kernel_rfl) (by rfl) (fun KK hKK => ?_)
          refine wp_store_row _ _ _ rfl ZZ _ rfl rfl _ _ HZ.out (by exact gnotice_info) rfl (by simp [Value.oneCell']) ?_
          rw [row_boxed HZ.out]
          have hlt : w.heap.size < ZZ ∧ Z < ZZ ∧ U.heap.size ≤ ZZ := by (try simp only [and_assoc]); (repeat' (first | omega | refine ⟨?_, ?_⟩))
          have HD0 : Hid ((boxed W2 ZZ #[.int .u8 5, .int .i64 S, .int .i64 C, .int .i64 T, .int .i64 M, .int .u8 x] 31).heap[w.heap.size]? = some (.cells #[.int .u8 5, .int .i64 S, .int .i64 C, .int .i64 T, .int .i64 M, .int .u8 0] 31 (0, 0))) := boxed_old (by omega) HC0.out
          have HD1 : Hid ((boxed W2 ZZ #[.int .u8 5, .int .i64 S, .int .i64 C, .int .i64 T, .int .i64 M, .int .u8 x] 31).heap[Z]? = some (.cells #[.int .u8 5, .int .i64 S, .int .i64 C, .int .i64 T, .int .i64 M, .int .u8 x] 31 (0, 0))) := boxed_old (by omega) HC1.out
          have HLy := Lib.hid (HLx.out.boxed (crt_thing (U.heap.size + 1) st (j + 1)) (g := ZZ) (cs := #[.int .u8 5, .int .i64 S, .int .i64 C, .int .i64 T, .int .i64 M, .int .u8 x]) (t := 31) (by simp) (by omega))
          have hS4 : (fun w' : World => w'.cell? ⟨w.heap.size, 0, none⟩ = some (.int .u8 5) ∧ w'.cell? ⟨w.heap.size, 1, none⟩ = some (.int .i64 S) ∧ w'.cell? ⟨w.heap.size, 2, none⟩ = some (.int .i64 C) ∧ w'.cell? ⟨w.heap.size, 3, none⟩ = some (.int .i64 T) ∧ w'.cell? ⟨w.heap.size, 4, none⟩ = some (.int .i64 M) ∧ w'.cell? ⟨w.heap.size, 5, none⟩ = some (.int .u8 0) ∧ w'.cell? (a.add j) = some (.int .u8 y)) (boxed W2 ZZ #[.int .u8 5, .int .i64 S, .int .i64 C, .int .i64 T, .int .i64 M, .int .u8 x] 31) := ⟨by rw [cell_of_row _ _ _ _ _ _ (HD0.out)]; rfl, by rw [cell_of_row _ _ _ _ _ _ (HD0.out)]; rfl, by rw [cell_of_row _ _ _ _ _ _ (HD0.out)]; rfl, by rw [cell_of_row _ _ _ _ _ _ (HD0.out)]; rfl, by rw [cell_of_row _ _ _ _ _ _ (HD0.out)]; rfl, by rw [cell_of_row _ _ _ _ _ _ (HD0.out)]; rfl, (World.cell?_of_block (a := a.add j) (by (try rw [ad_block]); exact (HLy.out.old).block _ haU)).trans HVJ.out⟩
          have HS4 := Lib.hid hS4
          refine hKK _ _ HS4.out (fun _ => ?_)
          clear hKK KK hS4
          refine lane_take (v := ?_) rfl (by kernel_rfl) (by kernel_rfl) (by rfl) ?_ (by exact HS4.out) ?_; rotate_left; (focus (intro w9 hSw; obtain ⟨x0, x1, x2, x3, x4, x5, x6⟩ := hSw; (try go_simp); try (with_reducible rfl))); simp only [Act.put, List.setIfInBounds_toArray, List.set_cons_zero, List.set_cons_succ]
          refine lane_end (by kernel_rfl) ?_
          refine ⟨rfl, ZZ, rfl, (HLy.out.less (fun i hi => by have hi2 := hi; (try simp only at hi2); (try simp only [false_or]); omega)), HD0.out, HD1.out, boxed_at hzz, by rw [boxed_size]; omega, by rw [boxed_size]; omega, by rw [boxed_size]; omega, by omega, by omega, by rw [boxed_size]; omega, by omega⟩
      rintro Z2 W2 ⟨HL2, hb0, hb1, hbZ, lb, lc0, lc1, ld0, ld1, le, lf⟩
      have HB2_0 := hb0
      skip
      have c0_0 : W2.cell? ⟨w.heap.size, 0, none⟩ = some (.int .u8 5) := by rw [cell_of_row _ _ _ _ _ _ HB2_0.out]; rfl
      have c0_1 : W2.cell? ⟨w.heap.size, 1, none⟩ = some (.int .i64 S) := by rw [cell_of_row _ _ _ _ _ _ HB2_0.out]; rfl
      have c0_2 : W2.cell? ⟨w.heap.size, 2, none⟩ = some (.int .i64 C) := by rw [cell_of_row _ _ _ _ _ _ HB2_0.out]; rfl
      have c0_3 : W2.cell? ⟨w.heap.size, 3, none⟩ = some (.int .i64 T) := by rw [cell_of_row _ _ _ _ _ _ HB2_0.out]; rfl
      have c0_4 : W2.cell? ⟨w.heap.size, 4, none⟩ = some (.int .i64 M) := by rw [cell_of_row _ _ _ _ _ _ HB2_0.out]; rfl
      have c0_5 : W2.cell? ⟨w.heap.size, 5, none⟩ = some (.int .u8 0) := by rw [cell_of_row _ _ _ _ _ _ HB2_0.out]; rfl
      have HB2_1 := hb1
      skip
      have c1_0 : W2.cell? ⟨Z, 0, none⟩ = some (.int .u8 5) := by rw [cell_of_row _ _ _ _ _ _ HB2_1.out]; rfl
      have c1_1 : W2.cell? ⟨Z, 1, none⟩ = some (.int .i64 S) := by rw [cell_of_row _ _ _ _ _ _ HB2_1.out]; rfl
      have c1_2 : W2.cell? ⟨Z, 2, none⟩ = some (.int .i64 C) := by rw [cell_of_row _ _ _ _ _ _ HB2_1.out]; rfl
      have c1_3 : W2.cell? ⟨Z, 3, none⟩ = some (.int .i64 T) := by rw [cell_of_row _ _ _ _ _ _ HB2_1.out]; rfl
      have c1_4 : W2.cell? ⟨Z, 4, none⟩ = some (.int .i64 M) := by rw [cell_of_row _ _ _ _ _ _ HB2_1.out]; rfl
      have c1_5 : W2.cell? ⟨Z, 5, none⟩ = some (.int .u8 x) := by rw [cell_of_row _ _ _ _ _ _ HB2_1.out]; rfl
      have HB2_2 := hbZ
      skip
      have c2_0 : W2.cell? ⟨Z2, 0, none⟩ = some (.int .u8 5) := by rw [cell_of_row _ _ _ _ _ _ HB2_2.out]; rfl
      have c2_1 : W2.cell? ⟨Z2, 1, none⟩ = some (.int .i64 S) := by rw [cell_of_row _ _ _ _ _ _ HB2_2.out]; rfl
      have c2_2 : W2.cell? ⟨Z2, 2, none⟩ = some (.int .i64 C) := by rw [cell_of_row _ _ _ _ _ _ HB2_2.out]; rfl
      have c2_3 : W2.cell? ⟨Z2, 3, none⟩ = some (.int .i64 T) := by rw [cell_of_row _ _ _ _ _ _ HB2_2.out]; rfl
      have c2_4 : W2.cell? ⟨Z2, 4, none⟩ = some (.int .i64 M) := by rw [cell_of_row _ _ _ _ _ _ HB2_2.out]; rfl
      have c2_5 : W2.cell? ⟨Z2, 5, none⟩ = some (.int .u8 x) := by rw [cell_of_row _ _ _ _ _ _ HB2_2.out]; rfl
      go_wp2
      go_roundw
      case rel => exact ⟨j + 1, by omega, by omega, by go_num, (HL2.out.less (fun i hi => by have hi2 := hi; (try simp only at hi2); (try simp only); omega)), HB2_0, HB2_1, by omega⟩
      case measure => simp [intOf]; omega
theorem cartFirst_walk {w : World} (K S C T M V : Int) (hw : (⟨K, S, C, T, M, V⟩ : Nv).Wf) (A : Option Addr) (c : Nat) (l : List Int) (hr : Rd w .u8 w.heap.size A l) (_ : ∀ x ∈ l, (Lit.int .u8 x).wf = true) :
    Calls Try.prog 12 #[.agg #[.int .u8 K, .int .i64 S, .int .i64 C, .int .i64 T, .int .i64 M, .int .u8 V], .slice A l.length c] w fun e w' => e = .returned (.bool true) ∧ Below w.heap.size w w' := by
  obtain ⟨_, hS, hC, _⟩ := hw
  by_cases h : l.length = 0 ∨ 30 < l.length
  · exact cartFirst_far K S C T M V A _ c h
  · exact cartFirst_in K S C T M V A _ c l ⟨WalkArith.wf_i64 hS, WalkArith.wf_i64 hC⟩ hr rfl (by omega) (by omega)
end Go.Proofs.Ytcjhgckkbekhoaa
