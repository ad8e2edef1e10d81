/-
  The walk of the law StoreFirst. No conditions.
-/
import Derived.Test.YtcjhgckkbekhoaaStoAwake
import Derived.Test.YtcjhgckkbekhoaaPartyKit
import Derived.Test.YtcjhgckkbekhoaaRow
namespace Go.Proofs.Ytcjhgckkbekhoaa
set_option maxRecDepth 20000
set_option linter.unusedSimpArgs false
set_option linter.unusedVariables false
open Go.ChangeShapes Go.WideShapes Go.ChangeAt Go.RowKit

theorem fnotice_info : (Try.prog.info? 31).map (·.size) = some (#[Value.int .u8 0, .int .i64 0, .int .i64 0, .int .i64 0, .int .i64 0, .int .u8 0].size) := by kernel_rfl
theorem alloc_someF {st : Sto} {k : Int × Int} {v x : Int} (h : st.said k = some x) : st.alloc k v = st ∧ st.ans k v = x := by unfold Sto.alloc Sto.ans; rw [h]; exact ⟨rfl, rfl⟩
theorem first_said (k : Int × Int) (v : Int) : (Sto.new.alloc k v).said k = some ((Sto.new).ans k v) := by show (if k = k then some (if v = 1 then 1 else 3) else none) = _; rw [if_pos rfl]; rfl
theorem shear_again_live {w0 w : World} {N : Nat → Prop} {g : Nat} {st : Sto} {m : Nat} {S C T M v x : Int} (hs : st.said (S, C) = some x) (h : LiveO (StoB g st m) w0 N w) (hN : ∀ i, N i → i < w.heap.size) (hk : pok (S, C)) (hm : m + 2 ≤ 100000) :
    Calls Try.prog 22 #[.pointer (some ⟨g, 0, none⟩), .agg #[.int .u8 3, .int .i64 S, .int .i64 C, .int .i64 T, .int .i64 M, .int .u8 0], .int .u8 v] w fun e w' => e = .returned (.tuple #[.agg #[.int .u8 3, .int .i64 S, .int .i64 C, .int .i64 T, .int .i64 M, .int .u8 x], .bool true]) ∧ LiveO (StoB g st (m + 2)) w0 N w' ∧ KeptO w0 N w w' := by
  have := shear_alloc_live (T := T) (M := M) (v := v) h hN hk hm
  rw [(alloc_someF hs).1, (alloc_someF hs).2] at this
  exact this
set_option maxHeartbeats 1000000 in
theorem storeFirst_far {w : World} (S C : Int) (A : Option Addr) (n c : Nat) (h : n = 0 ∨ 30 < n) : Calls Try.prog 9 #[.int .i64 S, .int .i64 C, .slice A n c] w fun e w' => e = .returned (.bool true) ∧ Below w.heap.size w w' := by
  rcases h with rfl | h
  · go_enter Try.func9, Try.ntmps9
    go_wp2_with (fail)
    refine (stoAwake_any _).mono ?_
    rintro e w1 ⟨rfl, hb1⟩
    go_wp2_with (fail)
    refine (stoAwake_any _).mono ?_
    rintro e w2 ⟨rfl, hb2⟩
    go_wp2
    go_ret
    exact ⟨rfl, hb1.trans (hb2.mono hb1.size)⟩
  · have d0 : ((n : Int) == 0) = false := by simp; omega
    have d1 : decide ((30 : Int) < (n : Int)) = true := by simp; omega
    go_enter Try.func9, Try.ntmps9
    go_wp2_with (fail)
    refine (stoAwake_any _).mono ?_
    rintro e w1 ⟨rfl, hb1⟩
    go_wp2_with (fail)
    refine (stoAwake_any _).mono ?_
    rintro e w2 ⟨rfl, hb2⟩
    go_wp2
    go_ret
    exact ⟨rfl, hb1.trans (hb2.mono hb1.size)⟩
set_option maxHeartbeats 4000000 in
theorem storeFirst_in {w : World} (S C : Int) (A : Option Addr) (n c : Nat) (l : List Int) (hk : pok (S, C)) (hr : Rd w .u8 w.heap.size A l) (hn : l.length = n) (h0 : 0 < n) (h : n ≤ 30) : Calls Try.prog 9 #[.int .i64 S, .int .i64 C, .slice A n c] w fun e w' => e = .returned (.bool true) ∧ Below w.heap.size w w' := by
  have d1 : decide ((30 : Int) < (n : Int)) = false := by simp; omega
  have d0 : ((n : Int) == 0) = false := by simp; omega
  have HR := Lib.hid hr
  have HN := Lib.hid hn
  clear hr hn
  go_enter Try.func9, Try.ntmps9
  go_wp2_with (fail)
  refine (stoAwake_any _).mono ?_
  rintro e U ⟨rfl, hU⟩
  have HU := Lib.hid hU
  have hUs : w.heap.size ≤ U.heap.size := hU.size
  clear hU
  go_wp2_with (fail)
  obtain ⟨a, rfl, ha, hv0⟩ := HR.out.at_ (j := 0) (by have := HN.out; omega)
  obtain ⟨v, hv⟩ : ∃ v, l[0]'(by have := HN.out; omega) = v := ⟨_, rfl⟩
  rw [hv] at hv0
  rw [ad_zero] at hv0
  have HV0 : Hid (U.cell? a = some (.int .u8 v)) := ((World.cell?_of_block (a := a) (HU.out.block a.block ha)).trans hv0)
  have haU : a.block < U.heap.size := by omega
  clear hv hv0
  refine (snew_live).mono ?_
  rintro e W1 ⟨rfl, hl, hz1⟩
  have HL1 := Lib.hid hl
  have l1 : U.heap.size ≤ W1.heap.size := hl.old.size
  clear hl hz1
  go_wp2
  have HLE : LiveO (StoB (U.heap.size + 2) .new 0) U (fun i => i = W1.heap.size) (W1.alloc (.cells #[.int .u8 3, .int .i64 S, .int .i64 C, .int .i64 0, .int .i64 0, .int .u8 0] 31)) := ((HL1.out).alloc (sto_thing (U.heap.size + 2) .new 0) (.cells #[.int .u8 3, .int .i64 S, .int .i64 C, .int .i64 0, .int .i64 0, .int .u8 0] 31)).less (fun i hi => by have hi2 := hi; (try simp only [World.size_alloc, boxed_size]); (try simp only at hi2); (try simp only [false_or]); omega)
  have hNE : ∀ i, (fun i => i = W1.heap.size) i → i < (W1.alloc (.cells #[.int .u8 3, .int .i64 S, .int .i64 C, .int .i64 0, .int .i64 0, .int .u8 0] 31)).heap.size := fun i hi => by have hi2 := hi; (try simp only [World.size_alloc, boxed_size]); (try simp only at hi2); omega
  have HB2_0 : Hid ((W1.alloc (.cells #[.int .u8 3, .int .i64 S, .int .i64 C, .int .i64 0, .int .i64 0, .int .u8 0] 31)).heap[W1.heap.size]? = some (.cells #[.int .u8 3, .int .i64 S, .int .i64 C, .int .i64 0, .int .i64 0, .int .u8 0] 31 (0, 0))) := alloc_at (by first | rfl | simp only [World.size_alloc, boxed_size])
  have HL2 := Lib.hid HLE
  have lx : U.heap.size ≤ (W1.alloc (.cells #[.int .u8 3, .int .i64 S, .int .i64 C, .int .i64 0, .int .i64 0, .int .u8 0] 31)).heap.size := by first | omega | (simp only [World.size_alloc, boxed_size]; omega) | (simp [World.size_alloc, boxed_size]; done) | (simp [World.size_alloc, boxed_size]; omega)
  have hx0 : W1.heap.size < (W1.alloc (.cells #[.int .u8 3, .int .i64 S, .int .i64 C, .int .i64 0, .int .i64 0, .int .u8 0] 31)).heap.size := by first | omega | (simp only [World.size_alloc, boxed_size]; omega) | (simp [World.size_alloc, boxed_size]; done) | (simp [World.size_alloc, boxed_size]; omega)
  clear HLE hNE
  generalize (W1.alloc (.cells #[.int .u8 3, .int .i64 S, .int .i64 C, .int .i64 0, .int .i64 0, .int .u8 0] 31)) = W2 at *
  have hHeld : (fun w' : World => w'.cell? ⟨W1.heap.size, 0, none⟩ = some (.int .u8 3) ∧ w'.cell? ⟨W1.heap.size, 1, none⟩ = some (.int .i64 S) ∧ w'.cell? ⟨W1.heap.size, 2, none⟩ = some (.int .i64 C) ∧ w'.cell? ⟨W1.heap.size, 3, none⟩ = some (.int .i64 0) ∧ w'.cell? ⟨W1.heap.size, 4, none⟩ = some (.int .i64 0) ∧ w'.cell? ⟨W1.heap.size, 5, none⟩ = some (.int .u8 0) ∧ w'.cell? (a) = some (.int .u8 v)) W2.drew := ⟨by rw [cell_of_row _ _ _ _ _ _ (show W2.drew.heap[_]? = _ from HB2_0.out)]; rfl, by rw [cell_of_row _ _ _ _ _ _ (show W2.drew.heap[_]? = _ from HB2_0.out)]; rfl, by rw [cell_of_row _ _ _ _ _ _ (show W2.drew.heap[_]? = _ from HB2_0.out)]; rfl, by rw [cell_of_row _ _ _ _ _ _ (show W2.drew.heap[_]? = _ from HB2_0.out)]; rfl, by rw [cell_of_row _ _ _ _ _ _ (show W2.drew.heap[_]? = _ from HB2_0.out)]; rfl, by rw [cell_of_row _ _ _ _ _ _ (show W2.drew.heap[_]? = _ from HB2_0.out)]; rfl, (World.cell?_of_block (a := a) (by (try rw [ad_block]); exact (HL2.out.old).block _ haU)).trans HV0.out⟩
  have HS0 := Lib.hid hHeld
  clear hHeld
  apply region_frame1 (fun Zq w' => Hid (LiveO (StoB (U.heap.size + 2) (Sto.new.alloc (S, C) v) (0 + 2)) U (fun i => i = W1.heap.size ∨ i = Zq) w') ∧ Hid (w'.heap[W1.heap.size]? = some (.cells #[.int .u8 3, .int .i64 S, .int .i64 C, .int .i64 0, .int .i64 0, .int .u8 0] 31 (0, 0))) ∧ Hid (w'.heap[Zq]? = some (.cells #[.int .u8 3, .int .i64 S, .int .i64 C, .int .i64 0, .int .i64 0, .int .u8 ((Sto.new).ans (S, C) v)] 31 (0, 0))) ∧ U.heap.size ≤ w'.heap.size ∧ W1.heap.size < w'.heap.size ∧ W1.heap.size < Zq ∧ Zq < w'.heap.size ∧ U.heap.size ≤ Zq)
  · skip
    refine lane_start (ord := [0, 1, 2, 3, 4, 5, 6, 7, 8, 9, 10, 11]) (S := (fun w' : World => w'.cell? ⟨W1.heap.size, 0, none⟩ = some (.int .u8 3) ∧ w'.cell? ⟨W1.heap.size, 1, none⟩ = some (.int .i64 S) ∧ w'.cell? ⟨W1.heap.size, 2, none⟩ = some (.int .i64 C) ∧ w'.cell? ⟨W1.heap.size, 3, none⟩ = some (.int .i64 0) ∧ w'.cell? ⟨W1.heap.size, 4, none⟩ = some (.int .i64 0) ∧ w'.cell? ⟨W1.heap.size, 5, none⟩ = some (.int .u8 0) ∧ w'.cell? (a) = some (.int .u8 v))) rfl (by kernel_rfl) (by exact HS0.out) (fun _ => ?_)
    iterate 5 (refine lane_take (v := ?_) rfl (by kernel_rfl) (by kernel_rfl) (by rfl) ?_ (by exact HS0.out) ?_; rotate_left; (focus (intro w9 hSw; obtain ⟨x0, x1, x2, x3, x4, x5, x6⟩ := hSw; (try go_simp); try (with_reducible rfl))); simp only [Act.put, List.setIfInBounds_toArray, List.set_cons_zero, List.set_cons_succ])
    refine lane_two (i := 5) (j := 9) (ordI := [6, 7, 8, 9, 10, 11]) (ordJ := [5, 6, 7, 8, 10, 11]) rfl rfl (by kernel_rfl) rfl (by rfl) (by rfl) (fun KK hKK => ?_) (fun KK hKK => ?_)
    · skip
      go_simp
      refine (shear_alloc_live (HL2.out.drew (sto_thing (U.heap.size + 2) .new 0)) (fun i hi => by have hi2 := hi; (try simp only at hi2); show i < W2.heap.size; omega) hk (by omega)).mono ?_
      rintro e W3 ⟨rfl, hl, hk⟩
      have hsz : W2.heap.size ≤ W3.heap.size := hk.size
      have hb0 : W3.heap[W1.heap.size]? = some (.cells #[.int .u8 3, .int .i64 S, .int .i64 C, .int .i64 0, .int .i64 0, .int .u8 0] 31 (0, 0)) := hk.at_ (by simp) HB2_0.out
      have hS1 : (fun w' : World => w'.cell? ⟨W1.heap.size, 0, none⟩ = some (.int .u8 3) ∧ w'.cell? ⟨W1.heap.size, 1, none⟩ = some (.int .i64 S) ∧ w'.cell? ⟨W1.heap.size, 2, none⟩ = some (.int .i64 C) ∧ w'.cell? ⟨W1.heap.size, 3, none⟩ = some (.int .i64 0) ∧ w'.cell? ⟨W1.heap.size, 4, none⟩ = some (.int .i64 0) ∧ w'.cell? ⟨W1.heap.size, 5, none⟩ = some (.int .u8 0) ∧ w'.cell? (a) = some (.int .u8 v)) W3 := ⟨by rw [cell_of_row _ _ _ _ _ _ (hb0)]; rfl, by rw [cell_of_row _ _ _ _ _ _ (hb0)]; rfl, by rw [cell_of_row _ _ _ _ _ _ (hb0)]; rfl, by rw [cell_of_row _ _ _ _ _ _ (hb0)]; rfl, by rw [cell_of_row _ _ _ _ _ _ (hb0)]; rfl, by rw [cell_of_row _ _ _ _ _ _ (hb0)]; rfl, (World.cell?_of_block (a := a) (by (try rw [ad_block]); exact (hl.old).block _ haU)).trans HV0.out⟩
      have HS1 := Lib.hid hS1
      have HLv := Lib.hid hl
      refine hKK _ _ HS1.out (fun _ => ?_)
      clear hKK KK hS1 hl hk
      iterate 3 (refine lane_take (v := ?_) rfl (by kernel_rfl) (by kernel_rfl) (by rfl) ?_ (by exact HS1.out) ?_; rotate_left; (focus (intro w9 hSw; obtain ⟨x0, x1, x2, x3, x4, x5, x6⟩ := hSw; (try go_simp); try (with_reducible rfl))); simp only [Act.put, List.setIfInBounds_toArray, List.set_cons_zero, List.set_cons_succ])
      refine lane_alone rfl (by kernel_rfl) (by rfl) (fun KK hKK => ?_)
      go_simp
      have hS2 : (fun w' : World => w'.cell? ⟨W1.heap.size, 0, none⟩ = some (.int .u8 3) ∧ w'.cell? ⟨W1.heap.size, 1, none⟩ = some (.int .i64 S) ∧ w'.cell? ⟨W1.heap.size, 2, none⟩ = some (.int .i64 C) ∧ w'.cell? ⟨W1.heap.size, 3, none⟩ = some (.int .i64 0) ∧ w'.cell? ⟨W1.heap.size, 4, none⟩ = some (.int .i64 0) ∧ w'.cell? ⟨W1.heap.size, 5, none⟩ = some (.int .u8 0) ∧ w'.cell? (a) = some (.int .u8 v)) (W3.alloc (.cells #[.int .u8 0, .int .i64 0, .int .i64 0, .int .i64 0, .int .i64 0, .int .u8 0] 31)) := ⟨by rw [cell_of_row _ _ _ _ _ _ (alloc_old (by omega) hb0)]; rfl, by rw [cell_of_row _ _ _ _ _ _ (alloc_old (by omega) hb0)]; rfl, by rw [cell_of_row _ _ _ _ _ _ (alloc_old (by omega) hb0)]; rfl, by rw [cell_of_row _ _ _ _ _ _ (alloc_old (by omega) hb0)]; rfl, by rw [cell_of_row _ _ _ _ _ _ (alloc_old (by omega) hb0)]; rfl, by rw [cell_of_row _ _ _ _ _ _ (alloc_old (by omega) hb0)]; rfl, (World.cell?_of_block (a := a) (by (try rw [ad_block]); exact ((HLv.out.old.alloc HLv.out.old.size (.cells #[.int .u8 0, .int .i64 0, .int .i64 0, .int .i64 0, .int .i64 0, .int .u8 0] 31))).block _ haU)).trans HV0.out⟩
      have HS2 := Lib.hid hS2
      refine hKK _ _ HS2.out (fun _ => ?_)
      clear hKK KK hS2
      have HC0 : Hid ((W3.alloc (.cells #[.int .u8 0, .int .i64 0, .int .i64 0, .int .i64 0, .int .i64 0, .int .u8 0] 31)).heap[W1.heap.size]? = some (.cells #[.int .u8 3, .int .i64 S, .int .i64 C, .int .i64 0, .int .i64 0, .int .u8 0] 31 (0, 0))) := alloc_old (by omega) hb0
      have HZ : Hid ((W3.alloc (.cells #[.int .u8 0, .int .i64 0, .int .i64 0, .int .i64 0, .int .i64 0, .int .u8 0] 31)).heap[W3.heap.size]? = some (.cells #[.int .u8 0, .int .i64 0, .int .i64 0, .int .i64 0, .int .i64 0, .int .u8 0] 31 (0, 0))) := alloc_block
      have HLx := Lib.hid ((HLv.out.alloc (sto_thing (U.heap.size + 2) (Sto.new.alloc (S, C) v) (0 + 2)) (.cells #[.int .u8 0, .int .i64 0, .int .i64 0, .int .i64 0, .int .i64 0, .int .u8 0] 31)))
      have hzz : W3.heap.size < (W3.alloc (.cells #[.int .u8 0, .int .i64 0, .int .i64 0, .int .i64 0, .int .i64 0, .int .u8 0] 31)).heap.size := by rw [World.size_alloc]; omega
      have hzl : W2.heap.size ≤ W3.heap.size := by omega
      clear hb0
      generalize hzn : W3.heap.size = ZZ at *
      skip
      refine lane_alone rfl (by kernel_rfl) (by rfl) (fun KK hKK => ?_)
      refine wp_store_row _ _ _ rfl ZZ _ rfl rfl _ _ HZ.out (by exact fnotice_info) rfl (by simp [Value.oneCell']) ?_
      rw [row_boxed HZ.out]
      have hlt : W1.heap.size < ZZ ∧ U.heap.size ≤ ZZ := by (try simp only [and_assoc]); (repeat' (first | omega | refine ⟨?_, ?_⟩))
      have HD0 : Hid ((boxed (W3.alloc (.cells #[.int .u8 0, .int .i64 0, .int .i64 0, .int .i64 0, .int .i64 0, .int .u8 0] 31)) ZZ #[.int .u8 3, .int .i64 S, .int .i64 C, .int .i64 0, .int .i64 0, .int .u8 ((Sto.new).ans (S, C) v)] 31).heap[W1.heap.size]? = some (.cells #[.int .u8 3, .int .i64 S, .int .i64 C, .int .i64 0, .int .i64 0, .int .u8 0] 31 (0, 0))) := boxed_old (by omega) HC0.out
      have HLy := Lib.hid (HLx.out.boxed (sto_thing (U.heap.size + 2) (Sto.new.alloc (S, C) v) (0 + 2)) (g := ZZ) (cs := #[.int .u8 3, .int .i64 S, .int .i64 C, .int .i64 0, .int .i64 0, .int .u8 ((Sto.new).ans (S, C) v)]) (t := 31) (by simp) (by omega))
      have hS4 : (fun w' : World => w'.cell? ⟨W1.heap.size, 0, none⟩ = some (.int .u8 3) ∧ w'.cell? ⟨W1.heap.size, 1, none⟩ = some (.int .i64 S) ∧ w'.cell? ⟨W1.heap.size, 2, none⟩ = some (.int .i64 C) ∧ w'.cell? ⟨W1.heap.size, 3, none⟩ = some (.int .i64 0) ∧ w'.cell? ⟨W1.heap.size, 4, none⟩ = some (.int .i64 0) ∧ w'.cell? ⟨W1.heap.size, 5, none⟩ = some (.int .u8 0) ∧ w'.cell? (a) = some (.int .u8 v)) (boxed (W3.alloc (.cells #[.int .u8 0, .int .i64 0, .int .i64 0, .int .i64 0, .int .i64 0, .int .u8 0] 31)) ZZ #[.int .u8 3, .int .i64 S, .int .i64 C, .int .i64 0, .int .i64 0, .int .u8 ((Sto.new).ans (S, C) v)] 31) := ⟨by rw [cell_of_row _ _ _ _ _ _ (HD0.out)]; rfl, by rw [cell_of_row _ _ _ _ _ _ (HD0.out)]; rfl, by rw [cell_of_row _ _ _ _ _ _ (HD0.out)]; rfl, by rw [cell_of_row _ _ _ _ _ _ (HD0.out)]; rfl, by rw [cell_of_row _ _ _ _ _ _ (HD0.out)]; rfl, by rw [cell_of_row _ _ _ _ _ _ (HD0.out)]; rfl, (World.cell?_of_block (a := a) (by (try rw [ad_block]); exact (HLy.out.old).block _ haU)).trans HV0.out⟩
      have HS4 := Lib.hid hS4
      refine hKK _ _ HS4.out (fun _ => ?_)
      clear hKK KK hS4
      refine lane_take (v := ?_) rfl (by kernel_rfl) (by kernel_rfl) (by rfl) ?_ (by exact HS4.out) ?_; rotate_left; (focus (intro w9 hSw; obtain ⟨x0, x1, x2, x3, x4, x5, x6⟩ := hSw; (try go_simp); try (with_reducible rfl))); simp only [Act.put, List.setIfInBounds_toArray, List.set_cons_zero, List.set_cons_succ]
      refine lane_end (by kernel_rfl) ?_
      refine ⟨rfl, ZZ, rfl, (HLy.out.less (fun i hi => by have hi2 := hi; (try simp only at hi2); (try simp only [false_or]); omega)), HD0.out, boxed_at hzz, by rw [boxed_size]; omega, by rw [boxed_size]; omega, by omega, by rw [boxed_size]; omega, by omega⟩
    · skip
      go_simp
      have hS2 : (fun w' : World => w'.cell? ⟨W1.heap.size, 0, none⟩ = some (.int .u8 3) ∧ w'.cell? ⟨W1.heap.size, 1, none⟩ = some (.int .i64 S) ∧ w'.cell? ⟨W1.heap.size, 2, none⟩ = some (.int .i64 C) ∧ w'.cell? ⟨W1.heap.size, 3, none⟩ = some (.int .i64 0) ∧ w'.cell? ⟨W1.heap.size, 4, none⟩ = some (.int .i64 0) ∧ w'.cell? ⟨W1.heap.size, 5, none⟩ = some (.int .u8 0) ∧ w'.cell? (a) = some (.int .u8 v)) ((W2.alloc (.cells #[.int .u8 0, .int .i64 0, .int .i64 0, .int .i64 0, .int .i64 0, .int .u8 0] 31)).drew) := ⟨by rw [cell_of_row _ _ _ _ _ _ (show ((W2.alloc (.cells #[.int .u8 0, .int .i64 0, .int .i64 0, .int .i64 0, .int .i64 0, .int .u8 0] 31)).drew).heap[_]? = _ from alloc_old (by omega) HB2_0.out)]; rfl, by rw [cell_of_row _ _ _ _ _ _ (show ((W2.alloc (.cells #[.int .u8 0, .int .i64 0, .int .i64 0, .int .i64 0, .int .i64 0, .int .u8 0] 31)).drew).heap[_]? = _ from alloc_old (by omega) HB2_0.out)]; rfl, by rw [cell_of_row _ _ _ _ _ _ (show ((W2.alloc (.cells #[.int .u8 0, .int .i64 0, .int .i64 0, .int .i64 0, .int .i64 0, .int .u8 0] 31)).drew).heap[_]? = _ from alloc_old (by omega) HB2_0.out)]; rfl, by rw [cell_of_row _ _ _ _ _ _ (show ((W2.alloc (.cells #[.int .u8 0, .int .i64 0, .int .i64 0, .int .i64 0, .int .i64 0, .int .u8 0] 31)).drew).heap[_]? = _ from alloc_old (by omega) HB2_0.out)]; rfl, by rw [cell_of_row _ _ _ _ _ _ (show ((W2.alloc (.cells #[.int .u8 0, .int .i64 0, .int .i64 0, .int .i64 0, .int .i64 0, .int .u8 0] 31)).drew).heap[_]? = _ from alloc_old (by omega) HB2_0.out)]; rfl, by rw [cell_of_row _ _ _ _ _ _ (show ((W2.alloc (.cells #[.int .u8 0, .int .i64 0, .int .i64 0, .int .i64 0, .int .i64 0, .int .u8 0] 31)).drew).heap[_]? = _ from alloc_old (by omega) HB2_0.out)]; rfl, (World.cell?_of_block (a := a) (by (try rw [ad_block]); exact ((HL2.out.old.alloc HL2.out.old.size (.cells #[.int .u8 0, .int .i64 0, .int .i64 0, .int .i64 0, .int .i64 0, .int .u8 0] 31))).block _ haU)).trans HV0.out⟩
      have HS2 := Lib.hid hS2
      refine hKK _ _ HS2.out (fun _ => ?_)
      clear hKK KK hS2
      refine lane_alone rfl (by kernel_rfl) (by rfl) (fun KK hKK => ?_)
      go_simp
      refine (shear_alloc_live ((HL2.out.alloc (sto_thing (U.heap.size + 2) .new 0) (.cells #[.int .u8 0, .int .i64 0, .int .i64 0, .int .i64 0, .int .i64 0, .int .u8 0] 31)).drew (sto_thing (U.heap.size + 2) .new 0)) (fun i hi => by have hi2 := hi; (try simp only at hi2); show i < (W2.alloc (.cells #[.int .u8 0, .int .i64 0, .int .i64 0, .int .i64 0, .int .i64 0, .int .u8 0] 31)).heap.size; rw [World.size_alloc]; omega) hk (by omega)).mono ?_
      rintro e W3 ⟨rfl, hl, hk⟩
      have hsz : (W2.alloc (.cells #[.int .u8 0, .int .i64 0, .int .i64 0, .int .i64 0, .int .i64 0, .int .u8 0] 31)).heap.size ≤ W3.heap.size := hk.size
      rw [World.size_alloc] at hsz
      have hb0 : W3.heap[W1.heap.size]? = some (.cells #[.int .u8 3, .int .i64 S, .int .i64 C, .int .i64 0, .int .i64 0, .int .u8 0] 31 (0, 0)) := hk.at_ (by simp) (show (W2.alloc (.cells #[.int .u8 0, .int .i64 0, .int .i64 0, .int .i64 0, .int .i64 0, .int .u8 0] 31)).heap[_]? = _ from alloc_old (by omega) HB2_0.out)
      have HZ : Hid (W3.heap[W2.heap.size]? = some (.cells #[.int .u8 0, .int .i64 0, .int .i64 0, .int .i64 0, .int .i64 0, .int .u8 0] 31 (0, 0))) := hk.at_ (by simp) (show (W2.alloc (.cells #[.int .u8 0, .int .i64 0, .int .i64 0, .int .i64 0, .int .i64 0, .int .u8 0] 31)).heap[_]? = _ from alloc_block)
      have hS3 : (fun w' : World => w'.cell? ⟨W1.heap.size, 0, none⟩ = some (.int .u8 3) ∧ w'.cell? ⟨W1.heap.size, 1, none⟩ = some (.int .i64 S) ∧ w'.cell? ⟨W1.heap.size, 2, none⟩ = some (.int .i64 C) ∧ w'.cell? ⟨W1.heap.size, 3, none⟩ = some (.int .i64 0) ∧ w'.cell? ⟨W1.heap.size, 4, none⟩ = some (.int .i64 0) ∧ w'.cell? ⟨W1.heap.size, 5, none⟩ = some (.int .u8 0) ∧ w'.cell? (a) = some (.int .u8 v)) W3 := ⟨by rw [cell_of_row _ _ _ _ _ _ (hb0)]; rfl, by rw [cell_of_row _ _ _ _ _ _ (hb0)]; rfl, by rw [cell_of_row _ _ _ _ _ _ (hb0)]; rfl, by rw [cell_of_row _ _ _ _ _ _ (hb0)]; rfl, by rw [cell_of_row _ _ _ _ _ _ (hb0)]; rfl, by rw [cell_of_row _ _ _ _ _ _ (hb0)]; rfl, (World.cell?_of_block (a := a) (by (try rw [ad_block]); exact (hl.old).block _ haU)).trans HV0.out⟩
      have HS2 := Lib.hid hS3
      have HLx := Lib.hid hl
      refine hKK _ _ HS2.out (fun _ => ?_)
      clear hKK KK hS3 hl hk
      iterate 3 (refine lane_take (v := ?_) rfl (by kernel_rfl) (by kernel_rfl) (by rfl) ?_ (by exact HS2.out) ?_; rotate_left; (focus (intro w9 hSw; obtain ⟨x0, x1, x2, x3, x4, x5, x6⟩ := hSw; (try go_simp); try (with_reducible rfl))); simp only [Act.put, List.setIfInBounds_toArray, List.set_cons_zero, List.set_cons_succ])
      have HC0 := Lib.hid hb0
      have hzz : W2.heap.size < W3.heap.size := by omega
      have hzl : W2.heap.size ≤ W2.heap.size := by omega
      clear hb0
      generalize hzn : W2.heap.size = ZZ at *
      refine lane_alone rfl (by kernel_rfl) (by rfl) (fun KK hKK => ?_)
      refine wp_store_row _ _ _ rfl ZZ _ rfl rfl _ _ HZ.out (by exact fnotice_info) rfl (by simp [Value.oneCell']) ?_
      rw [row_boxed HZ.out]
      have hlt : W1.heap.size < ZZ ∧ U.heap.size ≤ ZZ := by (try simp only [and_assoc]); (repeat' (first | omega | refine ⟨?_, ?_⟩))
      have HD0 : Hid ((boxed W3 ZZ #[.int .u8 3, .int .i64 S, .int .i64 C, .int .i64 0, .int .i64 0, .int .u8 ((Sto.new).ans (S, C) v)] 31).heap[W1.heap.size]? = some (.cells #[.int .u8 3, .int .i64 S, .int .i64 C, .int .i64 0, .int .i64 0, .int .u8 0] 31 (0, 0))) := boxed_old (by omega) HC0.out
      have HLy := Lib.hid (HLx.out.boxed (sto_thing (U.heap.size + 2) (Sto.new.alloc (S, C) v) (0 + 2)) (g := ZZ) (cs := #[.int .u8 3, .int .i64 S, .int .i64 C, .int .i64 0, .int .i64 0, .int .u8 ((Sto.new).ans (S, C) v)]) (t := 31) (by simp) (by omega))
      have hS4 : (fun w' : World => w'.cell? ⟨W1.heap.size, 0, none⟩ = some (.int .u8 3) ∧ w'.cell? ⟨W1.heap.size, 1, none⟩ = some (.int .i64 S) ∧ w'.cell? ⟨W1.heap.size, 2, none⟩ = some (.int .i64 C) ∧ w'.cell? ⟨W1.heap.size, 3, none⟩ = some (.int .i64 0) ∧ w'.cell? ⟨W1.heap.size, 4, none⟩ = some (.int .i64 0) ∧ w'.cell? ⟨W1.heap.size, 5, none⟩ = some (.int .u8 0) ∧ w'.cell? (a) = some (.int .u8 v)) (boxed W3 ZZ #[.int .u8 3, .int .i64 S, .int .i64 C, .int .i64 0, .int .i64 0, .int .u8 ((Sto.new).ans (S, C) v)] 31) := ⟨by rw [cell_of_row _ _ _ _ _ _ (HD0.out)]; rfl, by rw [cell_of_row _ _ _ _ _ _ (HD0.out)]; rfl, by rw [cell_of_row _ _ _ _ _ _ (HD0.out)]; rfl, by rw [cell_of_row _ _ _ _ _ _ (HD0.out)]; rfl, by rw [cell_of_row _ _ _ _ _ _ (HD0.out)]; rfl, by rw [cell_of_row _ _ _ _ _ _ (HD0.out)]; rfl, (World.cell?_of_block (a := a) (by (try rw [ad_block]); exact (HLy.out.old).block _ haU)).trans HV0.out⟩
      have HS4 := Lib.hid hS4
      refine hKK _ _ HS4.out (fun _ => ?_)
      clear hKK KK hS4
      refine lane_take (v := ?_) rfl (by kernel_rfl) (by kernel_rfl) (by rfl) ?_ (by exact HS4.out) ?_; rotate_left; (focus (intro w9 hSw; obtain ⟨x0, x1, x2, x3, x4, x5, x6⟩ := hSw; (try go_simp); try (with_reducible rfl))); simp only [Act.put, List.setIfInBounds_toArray, List.set_cons_zero, List.set_cons_succ]
      refine lane_end (by kernel_rfl) ?_
      refine ⟨rfl, ZZ, rfl, (HLy.out.less (fun i hi => by have hi2 := hi; (try simp only at hi2); (try simp only [false_or]); omega)), HD0.out, boxed_at hzz, by rw [boxed_size]; omega, by rw [boxed_size]; omega, by omega, by rw [boxed_size]; omega, by omega⟩
  rintro Z W3 ⟨HL3, hb0, hbZ, lb, lc0, ld0, le, lf⟩
  have HB3_0 := hb0
  skip
  have c0_0 : W3.cell? ⟨W1.heap.size, 0, none⟩ = some (.int .u8 3) := by rw [cell_of_row _ _ _ _ _ _ HB3_0.out]; rfl
  have c0_1 : W3.cell? ⟨W1.heap.size, 1, none⟩ = some (.int .i64 S) := by rw [cell_of_row _ _ _ _ _ _ HB3_0.out]; rfl
  have c0_2 : W3.cell? ⟨W1.heap.size, 2, none⟩ = some (.int .i64 C) := by rw [cell_of_row _ _ _ _ _ _ HB3_0.out]; rfl
  have c0_3 : W3.cell? ⟨W1.heap.size, 3, none⟩ = some (.int .i64 0) := by rw [cell_of_row _ _ _ _ _ _ HB3_0.out]; rfl
  have c0_4 : W3.cell? ⟨W1.heap.size, 4, none⟩ = some (.int .i64 0) := by rw [cell_of_row _ _ _ _ _ _ HB3_0.out]; rfl
  have c0_5 : W3.cell? ⟨W1.heap.size, 5, none⟩ = some (.int .u8 0) := by rw [cell_of_row _ _ _ _ _ _ HB3_0.out]; rfl
  have HB3_1 := hbZ
  skip
  have c1_0 : W3.cell? ⟨Z, 0, none⟩ = some (.int .u8 3) := by rw [cell_of_row _ _ _ _ _ _ HB3_1.out]; rfl
  have c1_1 : W3.cell? ⟨Z, 1, none⟩ = some (.int .i64 S) := by rw [cell_of_row _ _ _ _ _ _ HB3_1.out]; rfl
  have c1_2 : W3.cell? ⟨Z, 2, none⟩ = some (.int .i64 C) := by rw [cell_of_row _ _ _ _ _ _ HB3_1.out]; rfl
  have c1_3 : W3.cell? ⟨Z, 3, none⟩ = some (.int .i64 0) := by rw [cell_of_row _ _ _ _ _ _ HB3_1.out]; rfl
  have c1_4 : W3.cell? ⟨Z, 4, none⟩ = some (.int .i64 0) := by rw [cell_of_row _ _ _ _ _ _ HB3_1.out]; rfl
  have c1_5 : W3.cell? ⟨Z, 5, none⟩ = some (.int .u8 ((Sto.new).ans (S, C) v)) := by rw [cell_of_row _ _ _ _ _ _ HB3_1.out]; rfl
  obtain ⟨st, hst⟩ : ∃ st, st = Sto.new.alloc (S, C) v := ⟨_, rfl⟩
  obtain ⟨x, hx⟩ : ∃ x, x = (Sto.new).ans (S, C) v := ⟨_, rfl⟩
  have HSAID : Hid (st.said (S, C) = some x) := by rw [hst, hx]; exact first_said _ _
  have HXV : Hid (x = if v = 1 then 1 else 3) := by rw [hx]; rfl
  have HAS : Hid (decide ((S, C) ∈ st.aside) = (v == 1)) := by rw [hst]; show decide ((S, C) ∈ (if v = 1 then [(S, C)] else [])) = (v == 1); by_cases e : v = 1 <;> simp [e]
  rw [← hst] at HL3
  rw [← hx] at HB3_1 c1_5
  simp only [← hx]
  clear hst hx
  go_wp2
  go_loopw [11] (fun i wq => ∃ j : Nat, 1 ≤ j ∧ j ≤ n ∧ i = .int .i64 j ∧ Hid (LiveO (StoB (U.heap.size + 2) st (2 * j)) U (fun i => i = W1.heap.size ∨ i = Z) wq) ∧ Hid (wq.heap[W1.heap.size]? = some (.cells #[.int .u8 3, .int .i64 S, .int .i64 C, .int .i64 0, .int .i64 0, .int .u8 0] 31 (0, 0))) ∧ Hid (wq.heap[Z]? = some (.cells #[.int .u8 3, .int .i64 S, .int .i64 C, .int .i64 0, .int .i64 0, .int .u8 x] 31 (0, 0))) ∧ W1.heap.size < wq.heap.size ∧ Z < wq.heap.size) (fun i _ => n - (intOf i).toNat)
  case atStart => exact ⟨1, by omega, by omega, rfl, HL3, HB3_0, HB3_1, lc0, le⟩
  case round =>
    clear c0_0 c1_0 c0_1 c1_1 c0_2 c1_2 c0_3 c1_3 c0_4 c1_4 c0_5 c1_5
    obtain ⟨j, hj0, hj, rfl, HL, HBa, HBz, lw1, lwz⟩ := hrel
    by_cases hlt : j < n
    case neg =>
      obtain rfl : j = n := by omega
      have dlt : decide ((j : Int) < (j : Int)) = false := by simp
      have f5 : wr.cell? ⟨Z, 5, none⟩ = some (.int .u8 x) := by rw [cell_of_row _ _ _ _ _ _ HBz.out]; rfl
      have fa : wr.cell? a = some (.int .u8 v) := (World.cell?_of_block (HL.out.old.block _ haU)).trans HV0.out
      have HASD : Hid (∀ y : Later wr, Calls Try.prog 23 #[.pointer (some ⟨U.heap.size + 2, 0, none⟩), .int .i64 S, .int .i64 C] (over wr y) fun e w' => e = .returned (.bool (v == 1)) ∧ Below (over wr y).heap.size (over wr y) w') := fun y => by
        have := aside_live (HL.out.below (sto_thing _ _ _) (over_below wr y)) hk
        rw [HAS.out] at this
        exact this
      have fb : ∀ y : Later wr, (over wr y).cell? a = some (.int .u8 v) := fun y => (World.cell?_of_block ((over_below wr y).block _ (by have := HL.out.old.size; omega))).trans fa
      have hxv : (x == 1) = (v == 1) := by rw [HXV.out]; by_cases e : v = 1 <;> simp [e]
      have gz := lwz
      go_wp2_with (fail)
      refine region_over (by kernel_rfl) (by kernel_rfl) ?_
      repeat (go_big_quiet_step (first | (go_at_call 23; exact over_call (HASD.out _))))
      refine wpQuiet_nil ?_
      rintro _ ⟨y, rfl⟩
      go_wp2
      go_ret
      exact ⟨rfl, HU.out.trans ((HL.out.old.trans ((over_below wr y).mono HL.out.old.size)).mono hUs)⟩
    case pos =>
      have dlt : decide ((j : Int) < (n : Int)) = true := by simpa using hlt
      obtain ⟨a9, ha9, _, hvj⟩ := HR.out.at_ (j := j) (by have := HN.out; omega)
      injection ha9 with ha9
      subst ha9
      obtain ⟨y, hy⟩ : ∃ y, l[j]'(by have := HN.out; omega) = y := ⟨_, rfl⟩
      rw [hy] at hvj
      have HVJ : Hid (U.cell? (a.add j) = some (.int .u8 y)) := (World.cell?_of_block (by rw [ad_block]; exact HU.out.block a.block ha)).trans hvj
      clear hy hvj
      have k0 : (0 : Int) ≤ (j : Int) := by omega
      go_wp2_with (fail)
      have HB1_0 := HBa
      have HB1_1 := HBz
      have lu : U.heap.size ≤ wr.heap.size := HL.out.old.size
      have HL1 := HL
      have l1 : U.heap.size ≤ wr.heap.size := HL1.out.old.size
      have hHeld : (fun w' : World => w'.cell? ⟨W1.heap.size, 0, none⟩ = some (.int .u8 3) ∧ w'.cell? ⟨W1.heap.size, 1, none⟩ = some (.int .i64 S) ∧ w'.cell? ⟨W1.heap.size, 2, none⟩ = some (.int .i64 C) ∧ w'.cell? ⟨W1.heap.size, 3, none⟩ = some (.int .i64 0) ∧ w'.cell? ⟨W1.heap.size, 4, none⟩ = some (.int .i64 0) ∧ w'.cell? ⟨W1.heap.size, 5, none⟩ = some (.int .u8 0) ∧ w'.cell? (a.add j) = some (.int .u8 y)) wr.drew := ⟨by rw [cell_of_row _ _ _ _ _ _ (show wr.drew.heap[_]? = _ from HB1_0.out)]; rfl, by rw [cell_of_row _ _ _ _ _ _ (show wr.drew.heap[_]? = _ from HB1_0.out)]; rfl, by rw [cell_of_row _ _ _ _ _ _ (show wr.drew.heap[_]? = _ from HB1_0.out)]; rfl, by rw [cell_of_row _ _ _ _ _ _ (show wr.drew.heap[_]? = _ from HB1_0.out)]; rfl, by rw [cell_of_row _ _ _ _ _ _ (show wr.drew.heap[_]? = _ from HB1_0.out)]; rfl, by rw [cell_of_row _ _ _ _ _ _ (show wr.drew.heap[_]? = _ from HB1_0.out)]; rfl, (World.cell?_of_block (a := a.add j) (by (try rw [ad_block]); exact (HL1.out.old).block _ haU)).trans HVJ.out⟩
      have HS0 := Lib.hid hHeld
      clear hHeld
      apply region_frame1 (fun Zq w' => Hid (LiveO (StoB (U.heap.size + 2) st (2 * j + 2)) U (fun i => i = W1.heap.size ∨ i = Z ∨ i = Zq) w') ∧ Hid (w'.heap[W1.heap.size]? = some (.cells #[.int .u8 3, .int .i64 S, .int .i64 C, .int .i64 0, .int .i64 0, .int .u8 0] 31 (0, 0))) ∧ Hid (w'.heap[Z]? = some (.cells #[.int .u8 3, .int .i64 S, .int .i64 C, .int .i64 0, .int .i64 0, .int .u8 x] 31 (0, 0))) ∧ Hid (w'.heap[Zq]? = some (.cells #[.int .u8 3, .int .i64 S, .int .i64 C, .int .i64 0, .int .i64 0, .int .u8 x] 31 (0, 0))) ∧ U.heap.size ≤ w'.heap.size ∧ W1.heap.size < w'.heap.size ∧ Z < w'.heap.size ∧ W1.heap.size < Zq ∧ Z < Zq ∧ Zq < w'.heap.size ∧ U.heap.size ≤ Zq)
      · skip
        refine lane_start (ord := [0, 1, 2, 3, 4, 5, 6, 7, 8, 9, 10, 11, 12]) (S := (fun w' : World => w'.cell? ⟨W1.heap.size, 0, none⟩ = some (.int .u8 3) ∧ w'.cell? ⟨W1.heap.size, 1, none⟩ = some (.int .i64 S) ∧ w'.cell? ⟨W1.heap.size, 2, none⟩ = some (.int .i64 C) ∧ w'.cell? ⟨W1.heap.size, 3, none⟩ = some (.int .i64 0) ∧ w'.cell? ⟨W1.heap.size, 4, none⟩ = some (.int .i64 0) ∧ w'.cell? ⟨W1.heap.size, 5, none⟩ = some (.int .u8 0) ∧ w'.cell? (a.add j) = some (.int .u8 y))) rfl (by kernel_rfl) (by exact HS0.out) (fun _ => ?_)
        iterate 6 (refine lane_take (v := ?_) rfl (by kernel_rfl) (by kernel_rfl) (by rfl) ?_ (by exact HS0.out) ?_; rotate_left; (focus (intro w9 hSw; obtain ⟨x0, x1, x2, x3, x4, x5, x6⟩ := hSw; (try go_simp); try (with_reducible rfl))); simp only [Act.put, List.setIfInBounds_toArray, List.set_cons_zero, List.set_cons_succ])
        refine lane_two (i := 6) (j := 10) (ordI := [7, 8, 9, 10, 11, 12]) (ordJ := [6, 7, 8, 9, 11, 12]) rfl rfl (by kernel_rfl) rfl (by rfl) (by rfl) (fun KK hKK => ?_) (fun KK hKK => ?_)
        · skip
          go_simp
          refine (shear_again_live HSAID.out (HL1.out.drew (sto_thing (U.heap.size + 2) st (2 * j))) (fun i hi => by have hi2 := hi; (try simp only at hi2); show i < wr.heap.size; omega) hk (by omega)).mono ?_
          rintro e W2 ⟨rfl, hl, hk⟩
          have hsz : wr.heap.size ≤ W2.heap.size := hk.size
          have hb0 : W2.heap[W1.heap.size]? = some (.cells #[.int .u8 3, .int .i64 S, .int .i64 C, .int .i64 0, .int .i64 0, .int .u8 0] 31 (0, 0)) := hk.at_ (by simp) HB1_0.out
          have hb1 : W2.heap[Z]? = some (.cells #[.int .u8 3, .int .i64 S, .int .i64 C, .int .i64 0, .int .i64 0, .int .u8 x] 31 (0, 0)) := hk.at_ (by simp) HB1_1.out
          have hS1 : (fun w' : World => w'.cell? ⟨W1.heap.size, 0, none⟩ = some (.int .u8 3) ∧ w'.cell? ⟨W1.heap.size, 1, none⟩ = some (.int .i64 S) ∧ w'.cell? ⟨W1.heap.size, 2, none⟩ = some (.int .i64 C) ∧ w'.cell? ⟨W1.heap.size, 3, none⟩ = some (.int .i64 0) ∧ w'.cell? ⟨W1.heap.size, 4, none⟩ = some (.int .i64 0) ∧ w'.cell? ⟨W1.heap.size, 5, none⟩ = some (.int .u8 0) ∧ w'.cell? (a.add j) = some (.int .u8 y)) W2 := ⟨by rw [cell_of_row _ _ _ _ _ _ (hb0)]; rfl, by rw [cell_of_row _ _ _ _ _ _ (hb0)]; rfl, by rw [cell_of_row _ _ _ _ _ _ (hb0)]; rfl, by rw [cell_of_row _ _ _ _ _ _ (hb0)]; rfl, by rw [cell_of_row _ _ _ _ _ _ (hb0)]; rfl, by rw [cell_of_row _ _ _ _ _ _ (hb0)]; rfl, (World.cell?_of_block (a := a.add j) (by (try rw [ad_block]); exact (hl.old).block _ haU)).trans HVJ.out⟩
          have HS1 := Lib.hid hS1
          have HLv := Lib.hid hl
          refine hKK _ _ HS1.out (fun _ => ?_)
          clear hKK KK hS1 hl hk
          iterate 3 (refine lane_take (v := ?_) rfl (by kernel_rfl) (by kernel_rfl) (by rfl) ?_ (by exact HS1.out) ?_; rotate_left; (focus (intro w9 hSw; obtain ⟨x0, x1, x2, x3, x4, x5, x6⟩ := hSw; (try go_simp); try (with_reducible rfl))); simp only [Act.put, List.setIfInBounds_toArray, List.set_cons_zero, List.set_cons_succ])
          refine lane_alone rfl (by kernel_rfl) (by rfl) (fun KK hKK => ?_)
          go_simp
          have hS2 : (fun w' : World => w'.cell? ⟨W1.heap.size, 0, none⟩ = some (.int .u8 3) ∧ w'.cell? ⟨W1.heap.size, 1, none⟩ = some (.int .i64 S) ∧ w'.cell? ⟨W1.heap.size, 2, none⟩ = some (.int .i64 C) ∧ w'.cell? ⟨W1.heap.size, 3, none⟩ = some (.int .i64 0) ∧ w'.cell? ⟨W1.heap.size, 4, none⟩ = some (.int .i64 0) ∧ w'.cell? ⟨W1.heap.size, 5, none⟩ = some (.int .u8 0) ∧ w'.cell? (a.add j) = some (.int .u8 y)) (W2.alloc (.cells #[.int .u8 0, .int .i64 0, .int .i64 0, .int .i64 0, .int .i64 0, .int .u8 0] 31)) := ⟨by rw [cell_of_row _ _ _ _ _ _ (alloc_old (by omega) hb0)]; rfl, by rw [cell_of_row _ _ _ _ _ _ (alloc_old (by omega) hb0)]; rfl, by rw [cell_of_row _ _ _ _ _ _ (alloc_old (by omega) hb0)]; rfl, by rw [cell_of_row _ _ _ _ _ _ (alloc_old (by omega) hb0)]; rfl, by rw [cell_of_row _ _ _ _ _ _ (alloc_old (by omega) hb0)]; rfl, by rw [cell_of_row _ _ _ _ _ _ (alloc_old (by omega) hb0)]; rfl, (World.cell?_of_block (a := a.add j) (by (try rw [ad_block]); exact ((HLv.out.old.alloc HLv.out.old.size (.cells #[.int .u8 0, .int .i64 0, .int .i64 0, .int .i64 0, .int .i64 0, .int .u8 0] 31))).block _ haU)).trans HVJ.out⟩
          have HS2 := Lib.hid hS2
          refine hKK _ _ HS2.out (fun _ => ?_)
          clear hKK KK hS2
          have HC0 : Hid ((W2.alloc (.cells #[.int .u8 0, .int .i64 0, .int .i64 0, .int .i64 0, .int .i64 0, .int .u8 0] 31)).heap[W1.heap.size]? = some (.cells #[.int .u8 3, .int .i64 S, .int .i64 C, .int .i64 0, .int .i64 0, .int .u8 0] 31 (0, 0))) := alloc_old (by omega) hb0
          have HC1 : Hid ((W2.alloc (.cells #[.int .u8 0, .int .i64 0, .int .i64 0, .int .i64 0, .int .i64 0, .int .u8 0] 31)).heap[Z]? = some (.cells #[.int .u8 3, .int .i64 S, .int .i64 C, .int .i64 0, .int .i64 0, .int .u8 x] 31 (0, 0))) := alloc_old (by omega) hb1
          have HZ : Hid ((W2.alloc (.cells #[.int .u8 0, .int .i64 0, .int .i64 0, .int .i64 0, .int .i64 0, .int .u8 0] 31)).heap[W2.heap.size]? = some (.cells #[.int .u8 0, .int .i64 0, .int .i64 0, .int .i64 0, .int .i64 0, .int .u8 0] 31 (0, 0))) := alloc_block
          have HLx := Lib.hid ((HLv.out.alloc (sto_thing (U.heap.size + 2) st (2 * j + 2)) (.cells #[.int .u8 0, .int .i64 0, .int .i64 0, .int .i64 0, .int .i64 0, .int .u8 0] 31)))
          have hzz : W2.heap.size < (W2.alloc (.cells #[.int .u8 0, .int .i64 0, .int .i64 0, .int .i64 0, .int .i64 0, .int .u8 0] 31)).heap.size := by rw [World.size_alloc]; omega
          have hzl : wr.heap.size ≤ W2.heap.size := by omega
          clear hb0 hb1
          generalize hzn : W2.heap.size = ZZ at *
          skip
          refine lane_alone rfl (by kernel_rfl) (by rfl) (fun KK hKK => ?_)
          refine wp_store_row _ _ _ rfl ZZ _ rfl rfl _ _ HZ.out (by exact fnotice_info) rfl (by simp [Value.oneCell']) ?_
          rw [row_boxed HZ.out]
          have hlt : W1.heap.size < ZZ ∧ Z < ZZ ∧ U.heap.size ≤ ZZ := by (try simp only [and_assoc]); (repeat' (first | omega | refine ⟨?_, ?_⟩))
          have HD0 : Hid ((boxed (W2.alloc (.cells #[.int .u8 0, .int .i64 0, .int .i64 0, .int .i64 0, .int .i64 0, .int .u8 0] 31)) ZZ #[.int .u8 3, .int .i64 S, .int .i64 C, .int .i64 0, .int .i64 0, .int .u8 x] 31).heap[W1.heap.size]? = some (.cells #[.int .u8 3, .int .i64 S, .int .i64 C, .int .i64 0, .int .i64 0, .int .u8 0] 31 (0, 0))) := boxed_old (by omega) HC0.out
          have HD1 : Hid ((boxed (W2.alloc (.cells #[.int .u8 0, .int .i64 0, .int .i64 0, .int .i64 0, .int .i64 0, .int .u8 0] 31)) ZZ #[.int .u8 3, .int .i64 S, .int .i64 C, .int .i64 0, .int .i64 0, .int .u8 x] 31).heap[Z]? = some (.cells #[.int .u8 3, .int .i64 S, .int .i64 C, .int .i64 0, .int .i64 0, .int .u8 x] 31 (0, 0))) := boxed_old (by omega) HC1.out
          have HLy := Lib.hid (HLx.out.boxed (sto_thing (U.heap.size + 2) st (2 * j + 2)) (g := ZZ) (cs := #[.int .u8 3, .int .i64 S, .int .i64 C, .int .i64 0, .int .i64 0, .int .u8 x]) (t := 31) (by simp) (by omega))
          have hS4 : (fun w' : World => w'.cell? ⟨W1.heap.size, 0, none⟩ = some (.int .u8 3) ∧ w'.cell? ⟨W1.heap.size, 1, none⟩ = some (.int .i64 S) ∧ w'.cell? ⟨W1.heap.size, 2, none⟩ = some (.int .i64 C) ∧ w'.cell? ⟨W1.heap.size, 3, none⟩ = some (.int .i64 0) ∧ w'.cell? ⟨W1.heap.size, 4, none⟩ = some (.int .i64 0) ∧ w'.cell? ⟨W1.heap.size, 5, none⟩ = some (.int .u8 0) ∧ w'.cell? (a.add j) = some (.int .u8 y)) (boxed (W2.alloc (.cells #[.int .u8 0, .int .i64 0, .int .i64 0, .int .i64 0, .int .i64 0, .int .u8 0] 31)) ZZ #[.int .u8 3, .int .i64 S, .int .i64 C, .int .i64 0, .int .i64 0, .int .u8 x] 31) := ⟨by rw [cell_of_row _ _ _ _ _ _ (HD0.out)]; rfl, by rw [cell_of_row _ _ _ _ _ _ (HD0.out)]; rfl, by rw [cell_of_row _ _ _ _ _ _ (HD0.out)]; rfl, by rw [cell_of_row _ _ _ _ _ _ (HD0.out)]; rfl, by rw [cell_of_row _ _ _ _ _ _ (HD0.out)]; rfl, by rw [cell_of_row _ _ _ _ _ _ (HD0.out)]; rfl, (World.cell?_of_block (a := a.add j) (by (try rw [ad_block]); exact (HLy.out.old).block _ haU)).trans HVJ.out⟩
          have HS4 := Lib.hid hS4
          refine hKK _ _ HS4.out (fun _ => ?_)
          clear hKK KK hS4
          refine lane_take (v := ?_) rfl (by kernel_rfl) (by kernel_rfl) (by rfl) ?_ (by exact HS4.out) ?_; rotate_left; (focus (intro w9 hSw; obtain ⟨x0, x1, x2, x3, x4, x5, x6⟩ := hSw; (try go_simp); try (with_reducible rfl))); simp only [Act.put, List.setIfInBounds_toArray, List.set_cons_zero, List.set_cons_succ]
          refine lane_end (by kernel_rfl) ?_
          refine ⟨rfl, ZZ, rfl, (HLy.out.less (fun i hi => by have hi2 := hi; (try simp only at hi2); (try simp only [false_or]); omega)), HD0.out, HD1.out, boxed_at hzz, by rw [boxed_size]; omega, by rw [boxed_size]; omega, by rw [boxed_size]; omega, by omega, by omega, by rw [boxed_size]; omega, by omega⟩
        · skip
          go_simp
          have hS2 : (fun w' : World => w'.cell? ⟨W1.heap.size, 0, none⟩ = some (.int .u8 3) ∧ w'.cell? ⟨W1.heap.size, 1, none⟩ = some (.int .i64 S) ∧ w'.cell? ⟨W1.heap.size, 2, none⟩ = some (.int .i64 C) ∧ w'.cell? ⟨W1.heap.size, 3, none⟩ = some (.int .i64 0) ∧ w'.cell? ⟨W1.heap.size, 4, none⟩ = some (.int .i64 0) ∧ w'.cell? ⟨W1.heap.size, 5, none⟩ = some (.int .u8 0) ∧ w'.cell? (a.add j) = some (.int .u8 y)) ((wr.alloc (.cells #[.int .u8 0, .int .i64 0, .int .i64 0, .int .i64 0, .int .i64 0, .int .u8 0] 31)).drew) := ⟨by rw [cell_of_row _ _ _ _ _ _ (show ((wr.alloc (.cells #[.int .u8 0, .int .i64 0, .int .i64 0, .int .i64 0, .int .i64 0, .int .u8 0] 31)).drew).heap[_]? = _ from alloc_old (by omega) HB1_0.out)]; rfl, by rw [cell_of_row _ _ _ _ _ _ (show ((wr.alloc (.cells #[.int .u8 0, .int .i64 0, .int .i64 0, .int .i64 0, .int .i64 0, .int .u8 0] 31)).drew).heap[_]? = _ from alloc_old (by omega) HB1_0.out)]; rfl, by rw [cell_of_row _ _ _ _ _ _ (show ((wr.alloc (.cells #[.int .u8 0, .int .i64 0, .int .i64 0, .int .i64 0, .int .i64 0, .int .u8 0] 31)).drew).heap[_]? = _ from alloc_old (by omega) HB1_0.out)]; rfl, by rw [cell_of_row _ _ _ _ _ _ (show ((wr.alloc (.cells #[.int .u8 0, .int .i64 0, .int .i64 0, .int .i64 0, .int .i64 0, .int .u8 0] 31)).drew).heap[_]? = _ from alloc_old (by omega) HB1_0.out)]; rfl, by rw [cell_of_row _ _ _ _ _ _ (show ((wr.alloc (.cells #[.int .u8 0, .int .i64 0, .int .i64 0, .int .i64 0, .int .i64 0, .int .u8 0] 31)).drew).heap[_]? = _ from alloc_old (by omega) HB1_0.out)]; rfl, by rw [cell_of_row _ _ _ _ _ _ (show ((wr.alloc (.cells #[.int .u8 0, .int .i64 0, .int .i64 0, .int .i64 0, .int .i64 0, .int .u8 0] 31)).drew).heap[_]? = _ from alloc_old (by omega) HB1_0.out)]; rfl, (World.cell?_of_block (a := a.add j) (by (try rw [ad_block]); exact ((HL1.out.old.alloc HL1.out.old.size (.cells #[.int .u8 0, .int .i64 0, .int .i64 0, .int .i64 0, .int .i64 0, .int .u8 0] 31))).block _ haU)).trans HVJ.out⟩
          have HS2 := Lib.hid hS2
          refine hKK _ _ HS2.out (fun _ => ?_)
          clear hKK KK hS2
          refine lane_alone rfl (by kernel_rfl) (by rfl) (fun KK hKK => ?_)
          go_simp
          refine (shear_again_live HSAID.out ((HL1.out.alloc (sto_thing (U.heap.size + 2) st (2 * j)) (.cells #[.int .u8 0, .int .i64 0, .int .i64 0, .int .i64 0, .int .i64 0, .int .u8 0] 31)).drew (sto_thing (U.heap.size + 2) st (2 * j))) (fun i hi => by have hi2 := hi; (try simp only at hi2); show i < (wr.alloc (.cells #[.int .u8 0, .int .i64 0, .int .i64 0, .int .i64 0, .int .i64 0, .int .u8 0] 31)).heap.size; rw [World.size_alloc]; omega) hk (by omega)).mono ?_
          rintro e W2 ⟨rfl, hl, hk⟩
          have hsz : (wr.alloc (.cells #[.int .u8 0, .int .i64 0, .int .i64 0, .int .i64 0, .int .i64 0, .int .u8 0] 31)).heap.size ≤ W2.heap.size := hk.size
          rw [World.size_alloc] at hsz
          have hb0 : W2.heap[W1.heap.size]? = some (.cells #[.int .u8 3, .int .i64 S, .int .i64 C, .int .i64 0, .int .i64 0, .int .u8 0] 31 (0, 0)) := hk.at_ (by simp) (show (wr.alloc (.cells #[.int .u8 0, .int .i64 0, .int .i64 0, .int .i64 0, .int .i64 0, .int .u8 0] 31)).heap[_]? = _ from alloc_old (by omega) HB1_0.out)
          have hb1 : W2.heap[Z]? = some (.cells #[.int .u8 3, .int .i64 S, .int .i64 C, .int .i64 0, .int .i64 0, .int .u8 x] 31 (0, 0)) := hk.at_ (by simp) (show (wr.alloc (.cells #[.int .u8 0, .int .i64 0, .int .i64 0, .int .i64 0, .int .i64 0, .int .u8 0] 31)).heap[_]? = _ from alloc_old (by omega) HB1_1.out)
          have HZ : Hid (W2.heap[wr.heap.size]? = some (.cells #[.int .u8 0, .int .i64 0, .int .i64 0, .int .i64 0, .int .i64 0, .int .u8 0] 31 (0, 0))) := hk.at_ (by simp) (show (wr.alloc (.cells #[.int .u8 0, .int .i64 0, .int .i64 0, .int .i64 0, .int .i64 0, .int .u8 0] 31)).heap[_]? = _ from alloc_block)
          have hS3 : (fun w' : World => w'.cell? ⟨W1.heap.size, 0, none⟩ = some (.int .u8 3) ∧ w'.cell? ⟨W1.heap.size, 1, none⟩ = some (.int .i64 S) ∧ w'.cell? ⟨W1.heap.size, 2, none⟩ = some (.int .i64 C) ∧ w'.cell? ⟨W1.heap.size, 3, none⟩ = some (.int .i64 0) ∧ w'.cell? ⟨W1.heap.size, 4, none⟩ = some (.int .i64 0) ∧ w'.cell? ⟨W1.heap.size, 5, none⟩ = some (.int .u8 0) ∧ w'.cell? (a.add j) = some (.int .u8 y)) W2 := ⟨by rw [cell_of_row _ _ _ _ _ _ (hb0)]; rfl, by rw [cell_of_row _ _ _ _ _ _ (hb0)]; rfl, by rw [cell_of_row _ _ _ _ _ _ (hb0)]; rfl, by rw [cell_of_row _ _ _ _ _ _ (hb0)]; rfl, by rw [cell_of_row _ _ _ _ _ _ (hb0)]; rfl, by rw [cell_of_row _ _ _ _ _ _ (hb0)]; rfl, (World.cell?_of_block (a := a.add j) (by (try rw [ad_block]); exact (hl.old).block _ haU)).trans HVJ.out⟩
          have HS2 := Lib.hid hS3
          have HLx := Lib.hid hl
          refine hKK _ _ HS2.out (fun _ => ?_)
          clear hKK KK hS3 hl hk
          iterate 3 (refine lane_take (v := ?_) rfl (by kernel_rfl) (by kernel_rfl) (by rfl) ?_ (by exact HS2.out) ?_; rotate_left; (focus (intro w9 hSw; obtain ⟨x0, x1, x2, x3, x4, x5, x6⟩ := hSw; (try go_simp); try (with_reducible rfl))); simp only [Act.put, List.setIfInBounds_toArray, List.set_cons_zero, List.set_cons_succ])
          have HC0 := Lib.hid hb0
          have HC1 := Lib.hid hb1
          have hzz : wr.heap.size < W2.heap.size := by omega
          have hzl : wr.heap.size ≤ wr.heap.size := by omega
          clear hb0 hb1
          generalize hzn : wr.heap.size = ZZ at *
          refine lane_alone rfl (by kernel_rfl) (by rfl) (fun KK hKK => ?_)
          refine wp_store_row _ _ _ rfl ZZ _ rfl rfl _ _ HZ.out (by exact fnotice_info) rfl (by simp [Value.oneCell']) ?_
          rw [row_boxed HZ.out]
          have hlt : W1.heap.size < ZZ ∧ Z < ZZ ∧ U.heap.size ≤ ZZ := by (try simp only [and_assoc]); (repeat' (first | omega | refine ⟨?_, ?_⟩))
          have HD0 : Hid ((boxed W2 ZZ #[.int .u8 3, .int .i64 S, .int .i64 C, .int .i64 0, .int .i64 0, .int .u8 x] 31).heap[W1.heap.size]? = some (.cells #[.int .u8 3, .int .i64 S, .int .i64 C, .int .i64 0, .int .i64 0, .int .u8 0] 31 (0, 0))) := boxed_old (by omega) HC0.out
          have HD1 : Hid ((boxed W2 ZZ #[.int .u8 3, .int .i64 S, .int .i64 C, .int .i64 0, .int .i64 0, .int .u8 x] 31).heap[Z]? = some (.cells #[.int .u8 3, .int .i64 S, .int .i64 C, .int .i64 0, .int .i64 0, .int .u8 x] 31 (0, 0))) := boxed_old (by omega) HC1.out
          have HLy := Lib.hid (HLx.out.boxed (sto_thing (U.heap.size + 2) st (2 * j + 2)) (g := ZZ) (cs := #[.int .u8 3, .int .i64 S, .int .i64 C, .int .i64 0, .int .i64 0, .int .u8 x]) (t := 31) (by simp) (by omega))
          have hS4 : (fun w' : World => w'.cell? ⟨W1.heap.size, 0, none⟩ = some (.int .u8 3) ∧ w'.cell? ⟨W1.heap.size, 1, none⟩ = some (.int .i64 S) ∧ w'.cell? ⟨W1.heap.size, 2, none⟩ = some (.int .i64 C) ∧ w'.cell? ⟨W1.heap.size, 3, none⟩ = some (.int .i64 0) ∧ w'.cell? ⟨W1.heap.size, 4, none⟩ = some (.int .i64 0) ∧ w'.cell? ⟨W1.heap.size, 5, none⟩ = some (.int .u8 0) ∧ w'.cell? (a.add j) = some (.int .u8 y)) (boxed W2 ZZ #[.int .u8 3, .int .i64 S, .int .i64 C, .int .i64 0, .int .i64 0, .int .u8 x] 31) := ⟨by rw [cell_of_row _ _ _ _ _ _ (HD0.out)]; rfl, by rw [cell_of_row _ _ _ _ _ _ (HD0.out)]; rfl, by rw [cell_of_row _ _ _ _ _ _ (HD0.out)]; rfl, by rw [cell_of_row _ _ _ _ _ _ (HD0.out)]; rfl, by rw [cell_of_row _ _ _ _ _ _ (HD0.out)]; rfl, by rw [cell_of_row _ _ _ _ _ _ (HD0.out)]; rfl, (World.cell?_of_block (a := a.add j) (by (try rw [ad_block]); exact (HLy.out.old).block _ haU)).trans HVJ.out⟩
          have HS4 := Lib.hid hS4
          refine hKK _ _ HS4.out (fun _ => ?_)
          clear hKK KK hS4
          refine lane_take (v := ?_) rfl (by kernel_rfl) (by kernel_rfl) (by rfl) ?_ (by exact HS4.out) ?_; rotate_left; (focus (intro w9 hSw; obtain ⟨x0, x1, x2, x3, x4, x5, x6⟩ := hSw; (try go_simp); try (with_reducible rfl))); simp only [Act.put, List.setIfInBounds_toArray, List.set_cons_zero, List.set_cons_succ]
          refine lane_end (by kernel_rfl) ?_
          refine ⟨rfl, ZZ, rfl, (HLy.out.less (fun i hi => by have hi2 := hi; (try simp only at hi2); (try simp only [false_or]); omega)), HD0.out, HD1.out, boxed_at hzz, by rw [boxed_size]; omega, by rw [boxed_size]; omega, by rw [boxed_size]; omega, by omega, by omega, by rw [boxed_size]; omega, by omega⟩
      rintro Z2 W2 ⟨HL2, hb0, hb1, hbZ, lb, lc0, lc1, ld0, ld1, le, lf⟩
      have HB2_0 := hb0
      skip
      have c0_0 : W2.cell? ⟨W1.heap.size, 0, none⟩ = some (.int .u8 3) := by rw [cell_of_row _ _ _ _ _ _ HB2_0.out]; rfl
      have c0_1 : W2.cell? ⟨W1.heap.size, 1, none⟩ = some (.int .i64 S) := by rw [cell_of_row _ _ _ _ _ _ HB2_0.out]; rfl
      have c0_2 : W2.cell? ⟨W1.heap.size, 2, none⟩ = some (.int .i64 C) := by rw [cell_of_row _ _ _ _ _ _ HB2_0.out]; rfl
      have c0_3 : W2.cell? ⟨W1.heap.size, 3, none⟩ = some (.int .i64 0) := by rw [cell_of_row _ _ _ _ _ _ HB2_0.out]; rfl
      have c0_4 : W2.cell? ⟨W1.heap.size, 4, none⟩ = some (.int .i64 0) := by rw [cell_of_row _ _ _ _ _ _ HB2_0.out]; rfl
      have c0_5 : W2.cell? ⟨W1.heap.size, 5, none⟩ = some (.int .u8 0) := by rw [cell_of_row _ _ _ _ _ _ HB2_0.out]; rfl
      have HB2_1 := hb1
      skip
      have c1_0 : W2.cell? ⟨Z, 0, none⟩ = some (.int .u8 3) := by rw [cell_of_row _ _ _ _ _ _ HB2_1.out]; rfl
      have c1_1 : W2.cell? ⟨Z, 1, none⟩ = some (.int .i64 S) := by rw [cell_of_row _ _ _ _ _ _ HB2_1.out]; rfl
      have c1_2 : W2.cell? ⟨Z, 2, none⟩ = some (.int .i64 C) := by rw [cell_of_row _ _ _ _ _ _ HB2_1.out]; rfl
      have c1_3 : W2.cell? ⟨Z, 3, none⟩ = some (.int .i64 0) := by rw [cell_of_row _ _ _ _ _ _ HB2_1.out]; rfl
      have c1_4 : W2.cell? ⟨Z, 4, none⟩ = some (.int .i64 0) := by rw [cell_of_row _ _ _ _ _ _ HB2_1.out]; rfl
      have c1_5 : W2.cell? ⟨Z, 5, none⟩ = some (.int .u8 x) := by rw [cell_of_row _ _ _ _ _ _ HB2_1.out]; rfl
      have HB2_2 := hbZ
      skip
      have c2_0 : W2.cell? ⟨Z2, 0, none⟩ = some (.int .u8 3) := by rw [cell_of_row _ _ _ _ _ _ HB2_2.out]; rfl
      have c2_1 : W2.cell? ⟨Z2, 1, none⟩ = some (.int .i64 S) := by rw [cell_of_row _ _ _ _ _ _ HB2_2.out]; rfl
      have c2_2 : W2.cell? ⟨Z2, 2, none⟩ = some (.int .i64 C) := by rw [cell_of_row _ _ _ _ _ _ HB2_2.out]; rfl
      have c2_3 : W2.cell? ⟨Z2, 3, none⟩ = some (.int .i64 0) := by rw [cell_of_row _ _ _ _ _ _ HB2_2.out]; rfl
      have c2_4 : W2.cell? ⟨Z2, 4, none⟩ = some (.int .i64 0) := by rw [cell_of_row _ _ _ _ _ _ HB2_2.out]; rfl
      have c2_5 : W2.cell? ⟨Z2, 5, none⟩ = some (.int .u8 x) := by rw [cell_of_row _ _ _ _ _ _ HB2_2.out]; rfl
      go_wp2
      go_roundw
      case rel => exact ⟨j + 1, by omega, by omega, by go_num, (HL2.out.less (fun i hi => by have hi2 := hi; (try simp only at hi2); (try simp only); omega)), HB2_0, HB2_1, by omega, by omega⟩
      case measure => simp [intOf]; omega
theorem storeFirst_walk {w : World} (S : Int) (h1 : (Lit.int .i64 S).wf = true) (C : Int) (h2 : (Lit.int .i64 C).wf = true) (A : Option Addr) (c : Nat) (l : List Int) (hr : Rd w .u8 w.heap.size A l) (_ : ∀ x ∈ l, (Lit.int .u8 x).wf = true) :
    Calls Try.prog 9 #[.int .i64 S, .int .i64 C, .slice A l.length c] w fun e w' => e = .returned (.bool true) ∧ Below w.heap.size w w' := by
  by_cases h : l.length = 0 ∨ 30 < l.length
  · exact storeFirst_far S C A _ c h
  · exact storeFirst_in S C A _ c l ⟨h1, h2⟩ hr rfl (by omega) (by omega)
end Go.Proofs.Ytcjhgckkbekhoaa
