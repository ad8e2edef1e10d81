/-
  The walk of the law TillOnce. No conditions.
-/
import Derived.Test.YtcjhgckkbekhoaaTilAwake
import Derived.Test.YtcjhgckkbekhoaaNvRow
namespace Go.Proofs.Ytcjhgckkbekhoaa
set_option maxRecDepth 20000
set_option linter.unusedSimpArgs false
set_option linter.unusedVariables false
open Go.ChangeShapes Go.WideShapes Go.ChangeAt Go.RowKit

theorem charge_some {st : Til} {S C T M x y : Int} (h : st.ch (S, C, T) = some y) : st.charge S C T M x = st ∧ st.chargeA S C T x = y := by unfold Til.charge Til.chargeA; rw [h]; exact ⟨rfl, rfl⟩
theorem refund_again {st : Til} {S C y : Int} (h : st.rf (S, C) = some y) : st.refund S C = st ∧ st.refundA S C = y := by unfold Til.refund Til.refundA; rw [h]; exact ⟨rfl, rfl⟩
/-- What a till is behind one cycle's first charge (x: what was said). -/
structure Til.One (st : Til) (S C T M x : Int) : Prop where
  ch : st.ch (S, C, T) = some x
  tk : (st.tk (S, C)).getD 0 = if x = 1 then M else 0
  nt : (st.nt S).getD 0 = if x = 1 then M else 0
  rf : st.rf (S, C) = none
theorem one_new (S C T M x : Int) : (Til.new.charge S C T M x).One S C T M x := by
  have e : Til.new.charge S C T M x = if x = 1 then ⟨fun j => if j = (S, C, T) then some 1 else none, fun _ => none, fun j => if j = (S, C) then some (0 + M) else none, fun j => if j = S then some (0 + M) else none, [] ++ [⟨S, C, T, M⟩]⟩ else ⟨fun j => if j = (S, C, T) then some x else none, fun _ => none, fun _ => none, fun _ => none, []⟩ := rfl
  rw [e]
  by_cases hx : x = 1
  · subst hx
    simp only [if_true]
    exact ⟨by simp, by simp, by simp, rfl⟩
  · simp only [if_neg hx]
    exact ⟨by simp, by simp [hx], by simp [hx], rfl⟩
theorem One_room {st : Til} {S C T M x : Int} (h : st.One S C T M x) (hM : 0 < M ∧ M ≤ 1125899906842624) : st.room S C M := by
  refine ⟨wf_of ?_, wf_of ?_⟩
  · rw [h.tk]; split <;> omega
  · rw [h.nt]; split <;> omega
theorem tcharge_again_live {w0 w : World} {N : Nat → Prop} {g : Nat} {st : Til} {m : Nat} {S C T M v x : Int} (hs : st.One S C T M x) (hM : 0 < M ∧ M ≤ 1125899906842624) (h : LiveO (TilB g st m) w0 N w) (hN : ∀ i, N i → i < w.heap.size) (hk : ypok (S, C, T)) (hm : m + 4 ≤ 100000) :
    Calls Try.prog 16 #[.pointer (some ⟨g, 0, none⟩), .agg #[.int .u8 1, .int .i64 S, .int .i64 C, .int .i64 T, .int .i64 M, .int .u8 0], .int .u8 v] w fun e w' => e = .returned (.tuple #[.agg #[.int .u8 1, .int .i64 S, .int .i64 C, .int .i64 T, .int .i64 M, .int .u8 x], .bool true]) ∧ LiveO (TilB g st (m + 4)) w0 N w' ∧ KeptO w0 N w w' := by
  have := tcharge_live (v := v) h hN hk hm (fun _ => One_room hs hM)
  rw [(charge_some (M := M) (x := Til.told T M v) hs.ch).1, (charge_some (M := M) (x := Til.told T M v) hs.ch).2] at this
  exact this
/-- Behind the refund. -/
theorem One_refund {st : Til} {S C T M x : Int} (h : st.One S C T M x) (hM : 0 < M) : st.refundA S C = (if x = 1 then 1 else 3) ∧ (st.refund S C).rf (S, C) = some (if x = 1 then 1 else 3) ∧ ((st.refund S C).tk (S, C)).getD 0 = 0 ∧ ((st.refund S C).nt S).getD 0 = 0 := by
  have h2 := h.tk
  have h3 := h.nt
  unfold Til.refund Til.refundA
  rw [h.rf]
  by_cases hx : x = 1
  · subst hx
    simp only [if_true] at h2 h3
    have : ¬ M = 0 := by omega
    simp only [h2, h3, if_neg this, if_true]
    exact ⟨rfl, by simp, by simp, by simp⟩
  · rw [if_neg hx] at h2 h3
    simp only [h2, if_true, if_neg hx]
    refine ⟨rfl, by simp, ?_, ?_⟩ <;> first | trivial | assumption
theorem tchargeA_new (S C T x : Int) : (Til.new).chargeA S C T x = x := rfl
set_option maxHeartbeats 1000000 in
theorem tillOnce_far {w : World} (K S C T M V v tm : Int) (h : M ≤ 0 ∨ 1125899906842624 < M ∨ T ≤ 0) : Calls Try.prog 4 #[.agg #[.int .u8 K, .int .i64 S, .int .i64 C, .int .i64 T, .int .i64 M, .int .u8 V], .int .u8 v, .int .u8 tm] w fun e w' => e = .returned (.bool true) ∧ Below w.heap.size w w' := by
  have hz : ∀ o : Obj, Below w.heap.size w (w.alloc o) := fun o => (Below.refl _ _).alloc (Nat.le_refl _) _
  have fin : ∀ {o : Obj} {w1 w2 : World}, Below (w.alloc o).heap.size (w.alloc o) w1 → Below w1.heap.size w1 w2 → Below w.heap.size w w2 := fun {o w1 w2} hb1 hb2 => by
    have hs1 := hb1.size
    rw [World.size_alloc] at hs1
    exact ((hz o).trans (hb1.mono (by simp))).trans (hb2.mono (by omega))
  by_cases h1 : M ≤ 0
  · have d1 : decide (M ≤ 0) = true := by simpa using h1
    go_enter Try.func4, Try.ntmps4
    go_wp2_with (fail)
    refine (tilAwake_any _).mono ?_
    rintro e w1 ⟨rfl, hb1⟩
    have f0 : ∀ i u, #[.int .u8 K, .int .i64 S, .int .i64 C, .int .i64 T, .int .i64 M, .int .u8 V][i]? = some u → w1.cell? ⟨w.heap.size, i, none⟩ = some u := fun i u hu => by rw [cell_of_row _ _ _ _ _ (0, 0) (below_block hb1 (alloc_at rfl))]; exact hu
    have f1 := f0 3 _ rfl
    have f2 := f0 4 _ rfl
    clear f0
    go_wp2_with (fail)
    refine (tilAwake_any _).mono ?_
    rintro e w2 ⟨rfl, hb2⟩
    go_wp2
    go_ret
    exact ⟨rfl, fin hb1 hb2⟩
  have d1 : decide (M ≤ 0) = false := by simpa using h1
  by_cases h2 : 1125899906842624 < M
  · have d2 : decide (1125899906842624 < M) = true := by simpa using h2
    go_enter Try.func4, Try.ntmps4
    go_wp2_with (fail)
    refine (tilAwake_any _).mono ?_
    rintro e w1 ⟨rfl, hb1⟩
    have f0 : ∀ i u, #[.int .u8 K, .int .i64 S, .int .i64 C, .int .i64 T, .int .i64 M, .int .u8 V][i]? = some u → w1.cell? ⟨w.heap.size, i, none⟩ = some u := fun i u hu => by rw [cell_of_row _ _ _ _ _ (0, 0) (below_block hb1 (alloc_at rfl))]; exact hu
    have f1 := f0 3 _ rfl
    have f2 := f0 4 _ rfl
    clear f0
    go_wp2_with (fail)
    refine (tilAwake_any _).mono ?_
    rintro e w2 ⟨rfl, hb2⟩
    go_wp2
    go_ret
    exact ⟨rfl, fin hb1 hb2⟩
  · have d2 : decide (1125899906842624 < M) = false := by simpa using h2
    have d3 : decide (T ≤ 0) = true := by simp; omega
    go_enter Try.func4, Try.ntmps4
    go_wp2_with (fail)
    refine (tilAwake_any _).mono ?_
    rintro e w1 ⟨rfl, hb1⟩
    have f0 : ∀ i u, #[.int .u8 K, .int .i64 S, .int .i64 C, .int .i64 T, .int .i64 M, .int .u8 V][i]? = some u → w1.cell? ⟨w.heap.size, i, none⟩ = some u := fun i u hu => by rw [cell_of_row _ _ _ _ _ (0, 0) (below_block hb1 (alloc_at rfl))]; exact hu
    have f1 := f0 3 _ rfl
    have f2 := f0 4 _ rfl
    clear f0
    go_wp2_with (fail)
    refine (tilAwake_any _).mono ?_
    rintro e w2 ⟨rfl, hb2⟩
    go_wp2
    go_ret
    exact ⟨rfl, fin hb1 hb2⟩
set_option maxHeartbeats 4000000 in
theorem tillOnce_in {w : World} (K S C T M V v tm : Int) (hk : ypok (S, C, T)) (hM : 0 < M ∧ M ≤ 1125899906842624) (hT : 0 < T) (ht : 0 ≤ tm ∧ tm < 256) : Calls Try.prog 4 #[.agg #[.int .u8 K, .int .i64 S, .int .i64 C, .int .i64 T, .int .i64 M, .int .u8 V], .int .u8 v, .int .u8 tm] w fun e w' => e = .returned (.bool true) ∧ Below w.heap.size w w' := by
  have d1 : decide (M ≤ 0) = false := by simp; omega
  have d2 : decide (1125899906842624 < M) = false := by simp; omega
  have d3 : decide (T ≤ 0) = false := by simp; omega
  have hc : cpok (S, C) := ⟨hk.1, hk.2.1⟩
  have HM := Lib.hid hM
  go_enter Try.func4, Try.ntmps4
  go_wp2_with (fail)
  refine (tilAwake_any _).mono ?_
  rintro e U0 ⟨rfl, hU⟩
  have hn0 : U0.heap[w.heap.size]? = some (.cells #[.int .u8 K, .int .i64 S, .int .i64 C, .int .i64 T, .int .i64 M, .int .u8 V] 31 (0, 0)) := below_block hU (alloc_at rfl)
  have hUw : Below w.heap.size w U0 := ((Below.refl _ _).alloc (Nat.le_refl _) _).trans (hU.mono (by simp))
  have hlt : w.heap.size < U0.heap.size := (Array.getElem?_eq_some_iff.1 hn0).1
  have HUB := Lib.hid hUw
  have e0 := boxed_self hn0
  rw [e0]
  clear e0 hn0 hU hUw
  go_wp2_with (fail)
  have HU : Hid (Below w.heap.size w (boxed U0 w.heap.size #[.int .u8 1, .int .i64 S, .int .i64 C, .int .i64 T, .int .i64 M, .int .u8 0] 31)) := boxed_below HUB.out (Nat.le_refl _)
  have HB0_0 : Hid ((boxed U0 w.heap.size #[.int .u8 1, .int .i64 S, .int .i64 C, .int .i64 T, .int .i64 M, .int .u8 0] 31).heap[w.heap.size]? = some (.cells #[.int .u8 1, .int .i64 S, .int .i64 C, .int .i64 T, .int .i64 M, .int .u8 0] 31 (0, 0))) := boxed_at hlt
  have hUs : w.heap.size < (boxed U0 w.heap.size #[.int .u8 1, .int .i64 S, .int .i64 C, .int .i64 T, .int .i64 M, .int .u8 0] 31).heap.size := by rw [boxed_size]; exact hlt
  clear HUB hlt
  generalize boxed U0 w.heap.size #[.int .u8 1, .int .i64 S, .int .i64 C, .int .i64 T, .int .i64 M, .int .u8 0] 31 = U at *
  refine (tnew_live).mono ?_
  rintro e W1 ⟨rfl, hl, hz1⟩
  have HL1 := Lib.hid hl
  have l1 : U.heap.size ≤ W1.heap.size := hl.old.size
  have hb0 : W1.heap[w.heap.size]? = some (.cells #[.int .u8 1, .int .i64 S, .int .i64 C, .int .i64 T, .int .i64 M, .int .u8 0] 31 (0, 0)) := below_block hl.old HB0_0.out
  clear hl hz1
  have HB1_0 := Lib.hid hb0
  have c0_0 : W1.cell? ⟨w.heap.size, 0, none⟩ = some (.int .u8 1) := by rw [cell_of_row _ _ _ _ _ _ hb0]; rfl
  have c0_1 : W1.cell? ⟨w.heap.size, 1, none⟩ = some (.int .i64 S) := by rw [cell_of_row _ _ _ _ _ _ hb0]; rfl
  have c0_2 : W1.cell? ⟨w.heap.size, 2, none⟩ = some (.int .i64 C) := by rw [cell_of_row _ _ _ _ _ _ hb0]; rfl
  have c0_3 : W1.cell? ⟨w.heap.size, 3, none⟩ = some (.int .i64 T) := by rw [cell_of_row _ _ _ _ _ _ hb0]; rfl
  have c0_4 : W1.cell? ⟨w.heap.size, 4, none⟩ = some (.int .i64 M) := by rw [cell_of_row _ _ _ _ _ _ hb0]; rfl
  have c0_5 : W1.cell? ⟨w.heap.size, 5, none⟩ = some (.int .u8 0) := by rw [cell_of_row _ _ _ _ _ _ hb0]; rfl
  clear hb0
  go_wp2_with (fail)
  have HLE : LiveO (TilB (U.heap.size + 4) .new 0) U (fun (_ : Nat) => False) W1 := HL1.out
  have hNE : ∀ i : Nat, (fun (_ : Nat) => False) i → i < W1.heap.size := fun i hi => hi.elim
  refine (tcharge_live HLE hNE hk (by omega) (fun _ => ⟨wf_of (by show -9223372036854775808 ≤ 0 + M ∧ 0 + M ≤ 9223372036854775807; omega), wf_of (by show -9223372036854775808 ≤ 0 + M ∧ 0 + M ≤ 9223372036854775807; omega)⟩)).mono ?_
  rintro e W2 ⟨rfl, hl, hk⟩
  have hsz : W1.heap.size ≤ W2.heap.size := hk.size
  try simp only [World.size_alloc, boxed_size] at hsz
  have hb0 : W2.heap[w.heap.size]? = some (.cells #[.int .u8 1, .int .i64 S, .int .i64 C, .int .i64 T, .int .i64 M, .int .u8 0] 31 (0, 0)) := hk.old_at (by omega) (HB1_0.out)
  have HL2 := Lib.hid hl
  have l2 : W1.heap.size + 0 ≤ W2.heap.size := by omega
  have : w.heap.size < W2.heap.size := by omega
  clear hl hk hsz HLE hNE HB1_0 c0_0 c0_1 c0_2 c0_3 c0_4 c0_5
  have HB2_0 := Lib.hid hb0
  have c0_0 : W2.cell? ⟨w.heap.size, 0, none⟩ = some (.int .u8 1) := by rw [cell_of_row _ _ _ _ _ _ hb0]; rfl
  have c0_1 : W2.cell? ⟨w.heap.size, 1, none⟩ = some (.int .i64 S) := by rw [cell_of_row _ _ _ _ _ _ hb0]; rfl
  have c0_2 : W2.cell? ⟨w.heap.size, 2, none⟩ = some (.int .i64 C) := by rw [cell_of_row _ _ _ _ _ _ hb0]; rfl
  have c0_3 : W2.cell? ⟨w.heap.size, 3, none⟩ = some (.int .i64 T) := by rw [cell_of_row _ _ _ _ _ _ hb0]; rfl
  have c0_4 : W2.cell? ⟨w.heap.size, 4, none⟩ = some (.int .i64 M) := by rw [cell_of_row _ _ _ _ _ _ hb0]; rfl
  have c0_5 : W2.cell? ⟨w.heap.size, 5, none⟩ = some (.int .u8 0) := by rw [cell_of_row _ _ _ _ _ _ hb0]; rfl
  clear hb0
  rw [tchargeA_new]
  obtain ⟨x, hx⟩ : ∃ x, x = Til.told T M v := ⟨_, rfl⟩
  obtain ⟨st, hst⟩ : ∃ st, st = Til.new.charge S C T M (Til.told T M v) := ⟨_, rfl⟩
  have HONE : Hid (st.One S C T M x) := by rw [hst, hx]; exact one_new _ _ _ _ _
  have hxv : (x == 1) = (v == 1) ∧ (x = 1 ↔ v = 1) := by { have e : Til.told T M v = if v = 1 ∨ v = 2 then v else 3 := if_neg (by omega); rw [hx, e]; by_cases h1 : v = 1; { subst h1; simp }; by_cases h2 : v = 2; { subst h2; simp }; simp [h1, h2] }
  have HXV := Lib.hid hxv
  clear hxv
  rw [← hst] at HL2
  rw [← hx]
  clear hst hx
  go_wp2
  obtain ⟨n, hn⟩ : ∃ n : Nat, tm % 20 = (n : Int) := ⟨(tm % 20).toNat, by omega⟩
  have q1 : tm.tmod 20 = (n : Int) := by rw [Int.tmod_eq_emod_of_nonneg ht.1]; exact hn
  have hn20 : n < 20 := by omega
  have HBa := HB2_0
  have HBz : Hid ((W2.alloc (.cells #[.int .u8 1, .int .i64 S, .int .i64 C, .int .i64 T, .int .i64 M, .int .u8 x] 31)).heap[W2.heap.size]? = some (.cells #[.int .u8 1, .int .i64 S, .int .i64 C, .int .i64 T, .int .i64 M, .int .u8 x] 31 (0, 0))) := alloc_block
  go_loopw [10] (fun i wq => ∃ j : Nat, j ≤ n ∧ i = .int .i64 j ∧ Hid (LiveO (TilB (U.heap.size + 4) st (4 + 4 * j)) U (fun i => i = W2.heap.size) wq) ∧ Hid (wq.heap[w.heap.size]? = some (.cells #[.int .u8 1, .int .i64 S, .int .i64 C, .int .i64 T, .int .i64 M, .int .u8 0] 31 (0, 0))) ∧ Hid (wq.heap[W2.heap.size]? = some (.cells #[.int .u8 1, .int .i64 S, .int .i64 C, .int .i64 T, .int .i64 M, .int .u8 x] 31 (0, 0))) ∧ W2.heap.size < wq.heap.size) (fun i _ => n - (intOf i).toNat)
  case atStart => exact ⟨0, by omega, rfl, (HL2.out.alloc (til_thing _ _ _) _).less (fun i hi => .inr hi), alloc_old (by omega) HBa.out, HBz.out, by simp⟩
  case round =>
    clear HBa HBz HB2_0 c0_0 c0_1 c0_2 c0_3 c0_4 c0_5
    obtain ⟨j, hj, rfl, HL, HBa, HBz, lwz⟩ := hrel
    have lu : U.heap.size ≤ wr.heap.size := HL.out.old.size
    have g0 : wr.cell? ⟨w.heap.size, 0, none⟩ = some (.int .u8 1) := by rw [cell_of_row _ _ _ _ _ _ HBa.out]; rfl
    have g1 : wr.cell? ⟨w.heap.size, 1, none⟩ = some (.int .i64 S) := by rw [cell_of_row _ _ _ _ _ _ HBa.out]; rfl
    have g2 : wr.cell? ⟨w.heap.size, 2, none⟩ = some (.int .i64 C) := by rw [cell_of_row _ _ _ _ _ _ HBa.out]; rfl
    have g3 : wr.cell? ⟨w.heap.size, 3, none⟩ = some (.int .i64 T) := by rw [cell_of_row _ _ _ _ _ _ HBa.out]; rfl
    have g4 : wr.cell? ⟨w.heap.size, 4, none⟩ = some (.int .i64 M) := by rw [cell_of_row _ _ _ _ _ _ HBa.out]; rfl
    have g5 : wr.cell? ⟨w.heap.size, 5, none⟩ = some (.int .u8 0) := by rw [cell_of_row _ _ _ _ _ _ HBa.out]; rfl
    have lw : w.heap.size < wr.heap.size := by omega
    by_cases hlt : j < n
    case pos =>
      have dlt : decide ((j : Int) < (n : Int)) = true := by simpa using hlt
      have k0 : (0 : Int) ≤ (j : Int) := by omega
      have hw8 : (j : Int) < 256 := by omega
      have HL10 := HL
      have l10 : U.heap.size ≤ wr.heap.size := HL10.out.old.size
      have HB10_0 := HBa
      have HB10_1 := HBz
      have c0_0 := g0
      have c0_1 := g1
      have c0_2 := g2
      have c0_3 := g3
      have c0_4 := g4
      have c0_5 := g5
      have c1_0 : wr.cell? ⟨W2.heap.size, 0, none⟩ = some (.int .u8 1) := by rw [cell_of_row _ _ _ _ _ _ HBz.out]; rfl
      have c1_1 : wr.cell? ⟨W2.heap.size, 1, none⟩ = some (.int .i64 S) := by rw [cell_of_row _ _ _ _ _ _ HBz.out]; rfl
      have c1_2 : wr.cell? ⟨W2.heap.size, 2, none⟩ = some (.int .i64 C) := by rw [cell_of_row _ _ _ _ _ _ HBz.out]; rfl
      have c1_3 : wr.cell? ⟨W2.heap.size, 3, none⟩ = some (.int .i64 T) := by rw [cell_of_row _ _ _ _ _ _ HBz.out]; rfl
      have c1_4 : wr.cell? ⟨W2.heap.size, 4, none⟩ = some (.int .i64 M) := by rw [cell_of_row _ _ _ _ _ _ HBz.out]; rfl
      have c1_5 : wr.cell? ⟨W2.heap.size, 5, none⟩ = some (.int .u8 x) := by rw [cell_of_row _ _ _ _ _ _ HBz.out]; rfl
      go_wp2_with (fail)
      have HLE : LiveO (TilB (U.heap.size + 4) st (4 + 4 * j)) U (fun i => i = W2.heap.size) wr := HL10.out
      have hNE : ∀ i, (fun i => i = W2.heap.size) i → i < wr.heap.size := fun i hi => by have hi2 := hi; (try simp only [World.size_alloc, boxed_size]); (try simp only at hi2); omega
      refine (tcharge_again_live HONE.out HM.out HLE hNE hk (by omega)).mono ?_
      rintro e W11 ⟨rfl, hl, hk⟩
      have hsz : wr.heap.size ≤ W11.heap.size := hk.size
      try simp only [World.size_alloc, boxed_size] at hsz
      have hb0 : W11.heap[w.heap.size]? = some (.cells #[.int .u8 1, .int .i64 S, .int .i64 C, .int .i64 T, .int .i64 M, .int .u8 0] 31 (0, 0)) := hk.old_at (by omega) (HB10_0.out)
      have hb1 : W11.heap[W2.heap.size]? = some (.cells #[.int .u8 1, .int .i64 S, .int .i64 C, .int .i64 T, .int .i64 M, .int .u8 x] 31 (0, 0)) := hk.at_ (by simp) (HB10_1.out)
      have HL11 := Lib.hid hl
      have l11 : wr.heap.size + 0 ≤ W11.heap.size := by omega
      have : w.heap.size < W11.heap.size := by omega
      have : W2.heap.size < W11.heap.size := by omega
      clear hl hk hsz HLE hNE HB10_0 c0_0 c0_1 c0_2 c0_3 c0_4 c0_5 HB10_1 c1_0 c1_1 c1_2 c1_3 c1_4 c1_5
      have HB11_0 := Lib.hid hb0
      have c0_0 : W11.cell? ⟨w.heap.size, 0, none⟩ = some (.int .u8 1) := by rw [cell_of_row _ _ _ _ _ _ hb0]; rfl
      have c0_1 : W11.cell? ⟨w.heap.size, 1, none⟩ = some (.int .i64 S) := by rw [cell_of_row _ _ _ _ _ _ hb0]; rfl
      have c0_2 : W11.cell? ⟨w.heap.size, 2, none⟩ = some (.int .i64 C) := by rw [cell_of_row _ _ _ _ _ _ hb0]; rfl
      have c0_3 : W11.cell? ⟨w.heap.size, 3, none⟩ = some (.int .i64 T) := by rw [cell_of_row _ _ _ _ _ _ hb0]; rfl
      have c0_4 : W11.cell? ⟨w.heap.size, 4, none⟩ = some (.int .i64 M) := by rw [cell_of_row _ _ _ _ _ _ hb0]; rfl
      have c0_5 : W11.cell? ⟨w.heap.size, 5, none⟩ = some (.int .u8 0) := by rw [cell_of_row _ _ _ _ _ _ hb0]; rfl
      clear hb0
      have HB11_1 := Lib.hid hb1
      have c1_0 : W11.cell? ⟨W2.heap.size, 0, none⟩ = some (.int .u8 1) := by rw [cell_of_row _ _ _ _ _ _ hb1]; rfl
      have c1_1 : W11.cell? ⟨W2.heap.size, 1, none⟩ = some (.int .i64 S) := by rw [cell_of_row _ _ _ _ _ _ hb1]; rfl
      have c1_2 : W11.cell? ⟨W2.heap.size, 2, none⟩ = some (.int .i64 C) := by rw [cell_of_row _ _ _ _ _ _ hb1]; rfl
      have c1_3 : W11.cell? ⟨W2.heap.size, 3, none⟩ = some (.int .i64 T) := by rw [cell_of_row _ _ _ _ _ _ hb1]; rfl
      have c1_4 : W11.cell? ⟨W2.heap.size, 4, none⟩ = some (.int .i64 M) := by rw [cell_of_row _ _ _ _ _ _ hb1]; rfl
      have c1_5 : W11.cell? ⟨W2.heap.size, 5, none⟩ = some (.int .u8 x) := by rw [cell_of_row _ _ _ _ _ _ hb1]; rfl
      clear hb1
      go_wp2
      go_roundw
      have HLE : LiveO (TilB (U.heap.size + 4) st (4 + 4 * j + 4)) U (fun i => i = W2.heap.size ∨ i = W11.heap.size) (W11.alloc (.cells #[.int .u8 1, .int .i64 S, .int .i64 C, .int .i64 T, .int .i64 M, .int .u8 x] 31)) := ((HL11.out).alloc (til_thing (U.heap.size + 4) st (4 + 4 * j + 4)) (.cells #[.int .u8 1, .int .i64 S, .int .i64 C, .int .i64 T, .int .i64 M, .int .u8 x] 31)).less (fun i hi => by have hi2 := hi; (try simp only [World.size_alloc, boxed_size]); (try simp only at hi2); (try simp only [false_or]); omega)
      have hNE : ∀ i, (fun i => i = W2.heap.size ∨ i = W11.heap.size) i → i < (W11.alloc (.cells #[.int .u8 1, .int .i64 S, .int .i64 C, .int .i64 T, .int .i64 M, .int .u8 x] 31)).heap.size := fun i hi => by have hi2 := hi; (try simp only [World.size_alloc, boxed_size]); (try simp only at hi2); omega
      case rel => exact ⟨j + 1, by omega, by go_num, HLE.less (fun i hi => by have hi2 := hi; (try simp only at hi2); (try simp only); omega), alloc_old (by (try simp only [World.size_alloc, boxed_size]); omega) (HB11_0.out), alloc_old (by (try simp only [World.size_alloc, boxed_size]); omega) (HB11_1.out), by simp; omega⟩
      case measure => simp [intOf]; omega
    case neg =>
      obtain rfl : j = n := by omega
      have dlt : decide ((j : Int) < (j : Int)) = false := by simp
      by_cases hv : v = 1
      · skip
        subst hv
        obtain rfl : x = 1 := HXV.out.2.2 rfl
        have hO := One_refund HONE.out HM.out.1
        rw [if_pos rfl] at hO
        have hT := HONE.out.tk
        rw [if_pos rfl] at hT
        have HO := Lib.hid hO
        have HT := Lib.hid hT
        have HRR : Hid ((Lit.int .i64 ((st.nt S).getD 0 - (st.tk (S, C)).getD 0)).wf = true) := by { have a1 := HONE.out.nt; have a2 := HONE.out.tk; rw [a1, a2]; exact wf_of (by split <;> omega) }
        clear hO hT
        have HL10 := HL
        have l10 : U.heap.size ≤ wr.heap.size := HL10.out.old.size
        have HB10_0 := HBa
        have HB10_1 := HBz
        have c0_0 := g0
        have c0_1 := g1
        have c0_2 := g2
        have c0_3 := g3
        have c0_4 := g4
        have c0_5 := g5
        have c1_0 : wr.cell? ⟨W2.heap.size, 0, none⟩ = some (.int .u8 1) := by rw [cell_of_row _ _ _ _ _ _ HBz.out]; rfl
        have c1_1 : wr.cell? ⟨W2.heap.size, 1, none⟩ = some (.int .i64 S) := by rw [cell_of_row _ _ _ _ _ _ HBz.out]; rfl
        have c1_2 : wr.cell? ⟨W2.heap.size, 2, none⟩ = some (.int .i64 C) := by rw [cell_of_row _ _ _ _ _ _ HBz.out]; rfl
        have c1_3 : wr.cell? ⟨W2.heap.size, 3, none⟩ = some (.int .i64 T) := by rw [cell_of_row _ _ _ _ _ _ HBz.out]; rfl
        have c1_4 : wr.cell? ⟨W2.heap.size, 4, none⟩ = some (.int .i64 M) := by rw [cell_of_row _ _ _ _ _ _ HBz.out]; rfl
        have c1_5 : wr.cell? ⟨W2.heap.size, 5, none⟩ = some (.int .u8 1) := by rw [cell_of_row _ _ _ _ _ _ HBz.out]; rfl
        go_wp2_with (fail)
        have HLE : LiveO (TilB (U.heap.size + 4) st (4 + 4 * j)) U (fun i => i = W2.heap.size) wr := HL10.out
        have hNE : ∀ i, (fun i => i = W2.heap.size) i → i < wr.heap.size := fun i hi => by have hi2 := hi; (try simp only [World.size_alloc, boxed_size]); (try simp only at hi2); omega
        refine (taken_live HLE hc).mono ?_
        rintro e _ ⟨rfl, rfl⟩
        clear HLE hNE
        rw [HT.out]
        go_wp2_with (fail)
        have HLE : LiveO (TilB (U.heap.size + 4) st (4 + 4 * j)) U (fun i => i = W2.heap.size ∨ i = wr.heap.size) (wr.alloc (.cells #[.int .u8 2, .int .i64 S, .int .i64 C, .int .i64 T, .int .i64 M, .int .u8 0] 31)) := ((HL10.out).alloc (til_thing (U.heap.size + 4) st (4 + 4 * j)) (.cells #[.int .u8 2, .int .i64 S, .int .i64 C, .int .i64 T, .int .i64 M, .int .u8 0] 31)).less (fun i hi => by have hi2 := hi; (try simp only [World.size_alloc, boxed_size]); (try simp only at hi2); (try simp only [false_or]); omega)
        have hNE : ∀ i, (fun i => i = W2.heap.size ∨ i = wr.heap.size) i → i < (wr.alloc (.cells #[.int .u8 2, .int .i64 S, .int .i64 C, .int .i64 T, .int .i64 M, .int .u8 0] 31)).heap.size := fun i hi => by have hi2 := hi; (try simp only [World.size_alloc, boxed_size]); (try simp only at hi2); omega
        refine (trefund_live HLE hNE hc (by omega) HRR.out).mono ?_
        rintro e W11 ⟨rfl, hl, hk⟩
        have hsz : (wr.alloc (.cells #[.int .u8 2, .int .i64 S, .int .i64 C, .int .i64 T, .int .i64 M, .int .u8 0] 31)).heap.size ≤ W11.heap.size := hk.size
        try simp only [World.size_alloc, boxed_size] at hsz
        have hb0 : W11.heap[w.heap.size]? = some (.cells #[.int .u8 1, .int .i64 S, .int .i64 C, .int .i64 T, .int .i64 M, .int .u8 0] 31 (0, 0)) := hk.old_at (by omega) (alloc_old (by (try simp only [World.size_alloc, boxed_size]); omega) (HB10_0.out))
        have hb1 : W11.heap[W2.heap.size]? = some (.cells #[.int .u8 1, .int .i64 S, .int .i64 C, .int .i64 T, .int .i64 M, .int .u8 1] 31 (0, 0)) := hk.at_ (by simp) (alloc_old (by (try simp only [World.size_alloc, boxed_size]); omega) (HB10_1.out))
        have hb2 : W11.heap[wr.heap.size]? = some (.cells #[.int .u8 2, .int .i64 S, .int .i64 C, .int .i64 T, .int .i64 M, .int .u8 0] 31 (0, 0)) := hk.at_ (by simp) (alloc_at (by first | rfl | simp only [World.size_alloc, boxed_size]))
        have HL11 := Lib.hid hl
        have l11 : wr.heap.size + 1 ≤ W11.heap.size := by omega
        have : w.heap.size < W11.heap.size := by omega
        have : W2.heap.size < W11.heap.size := by omega
        have : wr.heap.size < W11.heap.size := by omega
        have : w.heap.size < wr.heap.size := by omega
        have : W2.heap.size < wr.heap.size := by omega
        clear hl hk hsz HLE hNE HB10_0 c0_0 c0_1 c0_2 c0_3 c0_4 c0_5 HB10_1 c1_0 c1_1 c1_2 c1_3 c1_4 c1_5
        have HB11_0 := Lib.hid hb0
        have c0_0 : W11.cell? ⟨w.heap.size, 0, none⟩ = some (.int .u8 1) := by rw [cell_of_row _ _ _ _ _ _ hb0]; rfl
        have c0_1 : W11.cell? ⟨w.heap.size, 1, none⟩ = some (.int .i64 S) := by rw [cell_of_row _ _ _ _ _ _ hb0]; rfl
        have c0_2 : W11.cell? ⟨w.heap.size, 2, none⟩ = some (.int .i64 C) := by rw [cell_of_row _ _ _ _ _ _ hb0]; rfl
        have c0_3 : W11.cell? ⟨w.heap.size, 3, none⟩ = some (.int .i64 T) := by rw [cell_of_row _ _ _ _ _ _ hb0]; rfl
        have c0_4 : W11.cell? ⟨w.heap.size, 4, none⟩ = some (.int .i64 M) := by rw [cell_of_row _ _ _ _ _ _ hb0]; rfl
        have c0_5 : W11.cell? ⟨w.heap.size, 5, none⟩ = some (.int .u8 0) := by rw [cell_of_row _ _ _ _ _ _ hb0]; rfl
        clear hb0
        have HB11_1 := Lib.hid hb1
        have c1_0 : W11.cell? ⟨W2.heap.size, 0, none⟩ = some (.int .u8 1) := by rw [cell_of_row _ _ _ _ _ _ hb1]; rfl
        have c1_1 : W11.cell? ⟨W2.heap.size, 1, none⟩ = some (.int .i64 S) := by rw [cell_of_row _ _ _ _ _ _ hb1]; rfl
        have c1_2 : W11.cell? ⟨W2.heap.size, 2, none⟩ = some (.int .i64 C) := by rw [cell_of_row _ _ _ _ _ _ hb1]; rfl
        have c1_3 : W11.cell? ⟨W2.heap.size, 3, none⟩ = some (.int .i64 T) := by rw [cell_of_row _ _ _ _ _ _ hb1]; rfl
        have c1_4 : W11.cell? ⟨W2.heap.size, 4, none⟩ = some (.int .i64 M) := by rw [cell_of_row _ _ _ _ _ _ hb1]; rfl
        have c1_5 : W11.cell? ⟨W2.heap.size, 5, none⟩ = some (.int .u8 1) := by rw [cell_of_row _ _ _ _ _ _ hb1]; rfl
        clear hb1
        have e2 := boxed_self (w := W11) (hb2)
        rw [e2]
        clear e2 hb2
        rw [HO.out.1]
        go_wp2_with (fail)
        have HLE : LiveO (TilB (U.heap.size + 4) (st.refund S C) (4 + 4 * j + 4)) U (fun i => i = W2.heap.size ∨ i = wr.heap.size ∨ i = W11.heap.size) ((boxed W11 wr.heap.size #[.int .u8 2, .int .i64 S, .int .i64 C, .int .i64 T, .int .i64 M, .int .u8 0] 31).alloc (.cells #[.int .u8 2, .int .i64 S, .int .i64 C, .int .i64 T, .int .i64 M, .int .u8 1] 31)) := (((HL11.out).boxed (til_thing (U.heap.size + 4) (st.refund S C) (4 + 4 * j + 4)) (g := wr.heap.size) (cs := #[.int .u8 2, .int .i64 S, .int .i64 C, .int .i64 T, .int .i64 M, .int .u8 0]) (t := 31) (by simp) (by omega)).alloc (til_thing (U.heap.size + 4) (st.refund S C) (4 + 4 * j + 4)) (.cells #[.int .u8 2, .int .i64 S, .int .i64 C, .int .i64 T, .int .i64 M, .int .u8 1] 31)).less (fun i hi => by have hi2 := hi; (try simp only [World.size_alloc, boxed_size]); (try simp only at hi2); (try simp only [false_or]); omega)
        have hNE : ∀ i, (fun i => i = W2.heap.size ∨ i = wr.heap.size ∨ i = W11.heap.size) i → i < ((boxed W11 wr.heap.size #[.int .u8 2, .int .i64 S, .int .i64 C, .int .i64 T, .int .i64 M, .int .u8 0] 31).alloc (.cells #[.int .u8 2, .int .i64 S, .int .i64 C, .int .i64 T, .int .i64 M, .int .u8 1] 31)).heap.size := fun i hi => by have hi2 := hi; (try simp only [World.size_alloc, boxed_size]); (try simp only at hi2); omega
        refine (trefund_live HLE hNE hc (by omega) (by rw [HO.out.2.2.1, HO.out.2.2.2]; decide)).mono ?_
        rintro e W12 ⟨rfl, hl, hk⟩
        have hsz : ((boxed W11 wr.heap.size #[.int .u8 2, .int .i64 S, .int .i64 C, .int .i64 T, .int .i64 M, .int .u8 0] 31).alloc (.cells #[.int .u8 2, .int .i64 S, .int .i64 C, .int .i64 T, .int .i64 M, .int .u8 1] 31)).heap.size ≤ W12.heap.size := hk.size
        try simp only [World.size_alloc, boxed_size] at hsz
        have hb0 : W12.heap[w.heap.size]? = some (.cells #[.int .u8 1, .int .i64 S, .int .i64 C, .int .i64 T, .int .i64 M, .int .u8 0] 31 (0, 0)) := hk.old_at (by omega) (alloc_old (by (try simp only [World.size_alloc, boxed_size]); omega) (boxed_old (by omega) (HB11_0.out)))
        have hb1 : W12.heap[W2.heap.size]? = some (.cells #[.int .u8 1, .int .i64 S, .int .i64 C, .int .i64 T, .int .i64 M, .int .u8 1] 31 (0, 0)) := hk.at_ (by simp) (alloc_old (by (try simp only [World.size_alloc, boxed_size]); omega) (boxed_old (by omega) (HB11_1.out)))
        have hb2 : W12.heap[wr.heap.size]? = some (.cells #[.int .u8 2, .int .i64 S, .int .i64 C, .int .i64 T, .int .i64 M, .int .u8 0] 31 (0, 0)) := hk.at_ (by simp) (alloc_old (by (try simp only [World.size_alloc, boxed_size]); omega) (boxed_at (by (try simp only [boxed_size]); omega)))
        have hb3 : W12.heap[W11.heap.size]? = some (.cells #[.int .u8 2, .int .i64 S, .int .i64 C, .int .i64 T, .int .i64 M, .int .u8 1] 31 (0, 0)) := hk.at_ (by simp) (alloc_at (by first | rfl | simp only [World.size_alloc, boxed_size]))
        have HL12 := Lib.hid hl
        have l12 : W11.heap.size + 1 ≤ W12.heap.size := by omega
        have : w.heap.size < W12.heap.size := by omega
        have : W2.heap.size < W12.heap.size := by omega
        have : wr.heap.size < W12.heap.size := by omega
        have : W11.heap.size < W12.heap.size := by omega
        have : w.heap.size < W11.heap.size := by omega
        have : W2.heap.size < W11.heap.size := by omega
        have : wr.heap.size < W11.heap.size := by omega
        clear hl hk hsz HLE hNE HB11_0 c0_0 c0_1 c0_2 c0_3 c0_4 c0_5 HB11_1 c1_0 c1_1 c1_2 c1_3 c1_4 c1_5
        have HB12_0 := Lib.hid hb0
        have c0_0 : W12.cell? ⟨w.heap.size, 0, none⟩ = some (.int .u8 1) := by rw [cell_of_row _ _ _ _ _ _ hb0]; rfl
        have c0_1 : W12.cell? ⟨w.heap.size, 1, none⟩ = some (.int .i64 S) := by rw [cell_of_row _ _ _ _ _ _ hb0]; rfl
        have c0_2 : W12.cell? ⟨w.heap.size, 2, none⟩ = some (.int .i64 C) := by rw [cell_of_row _ _ _ _ _ _ hb0]; rfl
        have c0_3 : W12.cell? ⟨w.heap.size, 3, none⟩ = some (.int .i64 T) := by rw [cell_of_row _ _ _ _ _ _ hb0]; rfl
        have c0_4 : W12.cell? ⟨w.heap.size, 4, none⟩ = some (.int .i64 M) := by rw [cell_of_row _ _ _ _ _ _ hb0]; rfl
        have c0_5 : W12.cell? ⟨w.heap.size, 5, none⟩ = some (.int .u8 0) := by rw [cell_of_row _ _ _ _ _ _ hb0]; rfl
        clear hb0
        have HB12_1 := Lib.hid hb1
        have c1_0 : W12.cell? ⟨W2.heap.size, 0, none⟩ = some (.int .u8 1) := by rw [cell_of_row _ _ _ _ _ _ hb1]; rfl
        have c1_1 : W12.cell? ⟨W2.heap.size, 1, none⟩ = some (.int .i64 S) := by rw [cell_of_row _ _ _ _ _ _ hb1]; rfl
        have c1_2 : W12.cell? ⟨W2.heap.size, 2, none⟩ = some (.int .i64 C) := by rw [cell_of_row _ _ _ _ _ _ hb1]; rfl
        have c1_3 : W12.cell? ⟨W2.heap.size, 3, none⟩ = some (.int .i64 T) := by rw [cell_of_row _ _ _ _ _ _ hb1]; rfl
        have c1_4 : W12.cell? ⟨W2.heap.size, 4, none⟩ = some (.int .i64 M) := by rw [cell_of_row _ _ _ _ _ _ hb1]; rfl
        have c1_5 : W12.cell? ⟨W2.heap.size, 5, none⟩ = some (.int .u8 1) := by rw [cell_of_row _ _ _ _ _ _ hb1]; rfl
        clear hb1
        have HB12_3 := Lib.hid hb3
        have c3_0 : W12.cell? ⟨W11.heap.size, 0, none⟩ = some (.int .u8 2) := by rw [cell_of_row _ _ _ _ _ _ hb3]; rfl
        have c3_1 : W12.cell? ⟨W11.heap.size, 1, none⟩ = some (.int .i64 S) := by rw [cell_of_row _ _ _ _ _ _ hb3]; rfl
        have c3_2 : W12.cell? ⟨W11.heap.size, 2, none⟩ = some (.int .i64 C) := by rw [cell_of_row _ _ _ _ _ _ hb3]; rfl
        have c3_3 : W12.cell? ⟨W11.heap.size, 3, none⟩ = some (.int .i64 T) := by rw [cell_of_row _ _ _ _ _ _ hb3]; rfl
        have c3_4 : W12.cell? ⟨W11.heap.size, 4, none⟩ = some (.int .i64 M) := by rw [cell_of_row _ _ _ _ _ _ hb3]; rfl
        have c3_5 : W12.cell? ⟨W11.heap.size, 5, none⟩ = some (.int .u8 1) := by rw [cell_of_row _ _ _ _ _ _ hb3]; rfl
        clear hb3
        have e2 := boxed_self (w := W12) (hb2)
        rw [e2]
        clear e2 hb2
        rw [(refund_again HO.out.2.1).2]
        rw [(refund_again HO.out.2.1).1] at HL12
        go_wp2_with (fail)
        have HLE : LiveO (TilB (U.heap.size + 4) (st.refund S C) (4 + 4 * j + 4 + 4)) U (fun i => i = W2.heap.size ∨ i = wr.heap.size ∨ i = W11.heap.size ∨ i = W12.heap.size) ((boxed W12 wr.heap.size #[.int .u8 2, .int .i64 S, .int .i64 C, .int .i64 T, .int .i64 M, .int .u8 0] 31).alloc (.cells #[.int .u8 2, .int .i64 S, .int .i64 C, .int .i64 T, .int .i64 M, .int .u8 1] 31)) := (((HL12.out).boxed (til_thing (U.heap.size + 4) (st.refund S C) (4 + 4 * j + 4 + 4)) (g := wr.heap.size) (cs := #[.int .u8 2, .int .i64 S, .int .i64 C, .int .i64 T, .int .i64 M, .int .u8 0]) (t := 31) (by simp) (by omega)).alloc (til_thing (U.heap.size + 4) (st.refund S C) (4 + 4 * j + 4 + 4)) (.cells #[.int .u8 2, .int .i64 S, .int .i64 C, .int .i64 T, .int .i64 M, .int .u8 1] 31)).less (fun i hi => by have hi2 := hi; (try simp only [World.size_alloc, boxed_size]); (try simp only at hi2); (try simp only [false_or]); omega)
        have hNE : ∀ i, (fun i => i = W2.heap.size ∨ i = wr.heap.size ∨ i = W11.heap.size ∨ i = W12.heap.size) i → i < ((boxed W12 wr.heap.size #[.int .u8 2, .int .i64 S, .int .i64 C, .int .i64 T, .int .i64 M, .int .u8 0] 31).alloc (.cells #[.int .u8 2, .int .i64 S, .int .i64 C, .int .i64 T, .int .i64 M, .int .u8 1] 31)).heap.size := fun i hi => by have hi2 := hi; (try simp only [World.size_alloc, boxed_size]); (try simp only at hi2); omega
        refine (taken_live HLE hc).mono ?_
        rintro e _ ⟨rfl, rfl⟩
        clear HLE hNE
        rw [HO.out.2.2.1]
        go_wp2_with (fail)
        have HLE : LiveO (TilB (U.heap.size + 4) (st.refund S C) (4 + 4 * j + 4 + 4)) U (fun i => i = W2.heap.size ∨ i = wr.heap.size ∨ i = W11.heap.size ∨ i = W12.heap.size) ((boxed W12 wr.heap.size #[.int .u8 2, .int .i64 S, .int .i64 C, .int .i64 T, .int .i64 M, .int .u8 0] 31).alloc (.cells #[.int .u8 2, .int .i64 S, .int .i64 C, .int .i64 T, .int .i64 M, .int .u8 1] 31)) := (((HL12.out).boxed (til_thing (U.heap.size + 4) (st.refund S C) (4 + 4 * j + 4 + 4)) (g := wr.heap.size) (cs := #[.int .u8 2, .int .i64 S, .int .i64 C, .int .i64 T, .int .i64 M, .int .u8 0]) (t := 31) (by simp) (by omega)).alloc (til_thing (U.heap.size + 4) (st.refund S C) (4 + 4 * j + 4 + 4)) (.cells #[.int .u8 2, .int .i64 S, .int .i64 C, .int .i64 T, .int .i64 M, .int .u8 1] 31)).less (fun i hi => by have hi2 := hi; (try simp only [World.size_alloc, boxed_size]); (try simp only at hi2); (try simp only [false_or]); omega)
        have hNE : ∀ i, (fun i => i = W2.heap.size ∨ i = wr.heap.size ∨ i = W11.heap.size ∨ i = W12.heap.size) i → i < ((boxed W12 wr.heap.size #[.int .u8 2, .int .i64 S, .int .i64 C, .int .i64 T, .int .i64 M, .int .u8 0] 31).alloc (.cells #[.int .u8 2, .int .i64 S, .int .i64 C, .int .i64 T, .int .i64 M, .int .u8 1] 31)).heap.size := fun i hi => by have hi2 := hi; (try simp only [World.size_alloc, boxed_size]); (try simp only at hi2); omega
        refine (net_live HLE hk.1).mono ?_
        rintro e _ ⟨rfl, rfl⟩
        clear HLE hNE
        rw [HO.out.2.2.2]
        go_wp2
        go_ret
        exact ⟨rfl, HU.out.trans ((Below.alloc (boxed_below (HL12.out.old) (by omega)) (by (try simp only [World.size_alloc, boxed_size]); omega) _).mono (by omega))⟩
      · skip
        have hv2 : (v == 1) = false := by simpa using hv
        have hx1 : ¬ x = 1 := fun e => hv (HXV.out.2.1 e)
        have hO := One_refund HONE.out HM.out.1
        rw [if_neg hx1] at hO
        have hT := HONE.out.tk
        rw [if_neg hx1] at hT
        have HO := Lib.hid hO
        have HT := Lib.hid hT
        have HRR : Hid ((Lit.int .i64 ((st.nt S).getD 0 - (st.tk (S, C)).getD 0)).wf = true) := by { have a1 := HONE.out.nt; have a2 := HONE.out.tk; rw [a1, a2]; exact wf_of (by split <;> omega) }
        clear hO hT
        have HL10 := HL
        have l10 : U.heap.size ≤ wr.heap.size := HL10.out.old.size
        have HB10_0 := HBa
        have HB10_1 := HBz
        have c0_0 := g0
        have c0_1 := g1
        have c0_2 := g2
        have c0_3 := g3
        have c0_4 := g4
        have c0_5 := g5
        have c1_0 : wr.cell? ⟨W2.heap.size, 0, none⟩ = some (.int .u8 1) := by rw [cell_of_row _ _ _ _ _ _ HBz.out]; rfl
        have c1_1 : wr.cell? ⟨W2.heap.size, 1, none⟩ = some (.int .i64 S) := by rw [cell_of_row _ _ _ _ _ _ HBz.out]; rfl
        have c1_2 : wr.cell? ⟨W2.heap.size, 2, none⟩ = some (.int .i64 C) := by rw [cell_of_row _ _ _ _ _ _ HBz.out]; rfl
        have c1_3 : wr.cell? ⟨W2.heap.size, 3, none⟩ = some (.int .i64 T) := by rw [cell_of_row _ _ _ _ _ _ HBz.out]; rfl
        have c1_4 : wr.cell? ⟨W2.heap.size, 4, none⟩ = some (.int .i64 M) := by rw [cell_of_row _ _ _ _ _ _ HBz.out]; rfl
        have c1_5 : wr.cell? ⟨W2.heap.size, 5, none⟩ = some (.int .u8 x) := by rw [cell_of_row _ _ _ _ _ _ HBz.out]; rfl
        go_wp2_with (fail)
        have HLE : LiveO (TilB (U.heap.size + 4) st (4 + 4 * j)) U (fun i => i = W2.heap.size) wr := HL10.out
        have hNE : ∀ i, (fun i => i = W2.heap.size) i → i < wr.heap.size := fun i hi => by have hi2 := hi; (try simp only [World.size_alloc, boxed_size]); (try simp only at hi2); omega
        refine (taken_live HLE hc).mono ?_
        rintro e _ ⟨rfl, rfl⟩
        clear HLE hNE
        rw [HT.out]
        go_wp2_with (fail)
        have HLE : LiveO (TilB (U.heap.size + 4) st (4 + 4 * j)) U (fun i => i = W2.heap.size ∨ i = wr.heap.size) (wr.alloc (.cells #[.int .u8 2, .int .i64 S, .int .i64 C, .int .i64 T, .int .i64 M, .int .u8 0] 31)) := ((HL10.out).alloc (til_thing (U.heap.size + 4) st (4 + 4 * j)) (.cells #[.int .u8 2, .int .i64 S, .int .i64 C, .int .i64 T, .int .i64 M, .int .u8 0] 31)).less (fun i hi => by have hi2 := hi; (try simp only [World.size_alloc, boxed_size]); (try simp only at hi2); (try simp only [false_or]); omega)
        have hNE : ∀ i, (fun i => i = W2.heap.size ∨ i = wr.heap.size) i → i < (wr.alloc (.cells #[.int .u8 2, .int .i64 S, .int .i64 C, .int .i64 T, .int .i64 M, .int .u8 0] 31)).heap.size := fun i hi => by have hi2 := hi; (try simp only [World.size_alloc, boxed_size]); (try simp only at hi2); omega
        refine (trefund_live HLE hNE hc (by omega) HRR.out).mono ?_
        rintro e W11 ⟨rfl, hl, hk⟩
        have hsz : (wr.alloc (.cells #[.int .u8 2, .int .i64 S, .int .i64 C, .int .i64 T, .int .i64 M, .int .u8 0] 31)).heap.size ≤ W11.heap.size := hk.size
        try simp only [World.size_alloc, boxed_size] at hsz
        have hb0 : W11.heap[w.heap.size]? = some (.cells #[.int .u8 1, .int .i64 S, .int .i64 C, .int .i64 T, .int .i64 M, .int .u8 0] 31 (0, 0)) := hk.old_at (by omega) (alloc_old (by (try simp only [World.size_alloc, boxed_size]); omega) (HB10_0.out))
        have hb1 : W11.heap[W2.heap.size]? = some (.cells #[.int .u8 1, .int .i64 S, .int .i64 C, .int .i64 T, .int .i64 M, .int .u8 x] 31 (0, 0)) := hk.at_ (by simp) (alloc_old (by (try simp only [World.size_alloc, boxed_size]); omega) (HB10_1.out))
        have hb2 : W11.heap[wr.heap.size]? = some (.cells #[.int .u8 2, .int .i64 S, .int .i64 C, .int .i64 T, .int .i64 M, .int .u8 0] 31 (0, 0)) := hk.at_ (by simp) (alloc_at (by first | rfl | simp only [World.size_alloc, boxed_size]))
        have HL11 := Lib.hid hl
        have l11 : wr.heap.size + 1 ≤ W11.heap.size := by omega
        have : w.heap.size < W11.heap.size := by omega
        have : W2.heap.size < W11.heap.size := by omega
        have : wr.heap.size < W11.heap.size := by omega
        have : w.heap.size < wr.heap.size := by omega
        have : W2.heap.size < wr.heap.size := by omega
        clear hl hk hsz HLE hNE HB10_0 c0_0 c0_1 c0_2 c0_3 c0_4 c0_5 HB10_1 c1_0 c1_1 c1_2 c1_3 c1_4 c1_5
        have HB11_0 := Lib.hid hb0
        have c0_0 : W11.cell? ⟨w.heap.size, 0, none⟩ = some (.int .u8 1) := by rw [cell_of_row _ _ _ _ _ _ hb0]; rfl
        have c0_1 : W11.cell? ⟨w.heap.size, 1, none⟩ = some (.int .i64 S) := by rw [cell_of_row _ _ _ _ _ _ hb0]; rfl
        have c0_2 : W11.cell? ⟨w.heap.size, 2, none⟩ = some (.int .i64 C) := by rw [cell_of_row _ _ _ _ _ _ hb0]; rfl
        have c0_3 : W11.cell? ⟨w.heap.size, 3, none⟩ = some (.int .i64 T) := by rw [cell_of_row _ _ _ _ _ _ hb0]; rfl
        have c0_4 : W11.cell? ⟨w.heap.size, 4, none⟩ = some (.int .i64 M) := by rw [cell_of_row _ _ _ _ _ _ hb0]; rfl
        have c0_5 : W11.cell? ⟨w.heap.size, 5, none⟩ = some (.int .u8 0) := by rw [cell_of_row _ _ _ _ _ _ hb0]; rfl
        clear hb0
        have HB11_1 := Lib.hid hb1
        have c1_0 : W11.cell? ⟨W2.heap.size, 0, none⟩ = some (.int .u8 1) := by rw [cell_of_row _ _ _ _ _ _ hb1]; rfl
        have c1_1 : W11.cell? ⟨W2.heap.size, 1, none⟩ = some (.int .i64 S) := by rw [cell_of_row _ _ _ _ _ _ hb1]; rfl
        have c1_2 : W11.cell? ⟨W2.heap.size, 2, none⟩ = some (.int .i64 C) := by rw [cell_of_row _ _ _ _ _ _ hb1]; rfl
        have c1_3 : W11.cell? ⟨W2.heap.size, 3, none⟩ = some (.int .i64 T) := by rw [cell_of_row _ _ _ _ _ _ hb1]; rfl
        have c1_4 : W11.cell? ⟨W2.heap.size, 4, none⟩ = some (.int .i64 M) := by rw [cell_of_row _ _ _ _ _ _ hb1]; rfl
        have c1_5 : W11.cell? ⟨W2.heap.size, 5, none⟩ = some (.int .u8 x) := by rw [cell_of_row _ _ _ _ _ _ hb1]; rfl
        clear hb1
        have e2 := boxed_self (w := W11) (hb2)
        rw [e2]
        clear e2 hb2
        rw [HO.out.1]
        go_wp2_with (fail)
        have HLE : LiveO (TilB (U.heap.size + 4) (st.refund S C) (4 + 4 * j + 4)) U (fun i => i = W2.heap.size ∨ i = wr.heap.size ∨ i = W11.heap.size) ((boxed W11 wr.heap.size #[.int .u8 2, .int .i64 S, .int .i64 C, .int .i64 T, .int .i64 M, .int .u8 0] 31).alloc (.cells #[.int .u8 2, .int .i64 S, .int .i64 C, .int .i64 T, .int .i64 M, .int .u8 3] 31)) := (((HL11.out).boxed (til_thing (U.heap.size + 4) (st.refund S C) (4 + 4 * j + 4)) (g := wr.heap.size) (cs := #[.int .u8 2, .int .i64 S, .int .i64 C, .int .i64 T, .int .i64 M, .int .u8 0]) (t := 31) (by simp) (by omega)).alloc (til_thing (U.heap.size + 4) (st.refund S C) (4 + 4 * j + 4)) (.cells #[.int .u8 2, .int .i64 S, .int .i64 C, .int .i64 T, .int .i64 M, .int .u8 3] 31)).less (fun i hi => by have hi2 := hi; (try simp only [World.size_alloc, boxed_size]); (try simp only at hi2); (try simp only [false_or]); omega)
        have hNE : ∀ i, (fun i => i = W2.heap.size ∨ i = wr.heap.size ∨ i = W11.heap.size) i → i < ((boxed W11 wr.heap.size #[.int .u8 2, .int .i64 S, .int .i64 C, .int .i64 T, .int .i64 M, .int .u8 0] 31).alloc (.cells #[.int .u8 2, .int .i64 S, .int .i64 C, .int .i64 T, .int .i64 M, .int .u8 3] 31)).heap.size := fun i hi => by have hi2 := hi; (try simp only [World.size_alloc, boxed_size]); (try simp only at hi2); omega
        refine (trefund_live HLE hNE hc (by omega) (by rw [HO.out.2.2.1, HO.out.2.2.2]; decide)).mono ?_
        rintro e W12 ⟨rfl, hl, hk⟩
        have hsz : ((boxed W11 wr.heap.size #[.int .u8 2, .int .i64 S, .int .i64 C, .int .i64 T, .int .i64 M, .int .u8 0] 31).alloc (.cells #[.int .u8 2, .int .i64 S, .int .i64 C, .int .i64 T, .int .i64 M, .int .u8 3] 31)).heap.size ≤ W12.heap.size := hk.size
        try simp only [World.size_alloc, boxed_size] at hsz
        have hb0 : W12.heap[w.heap.size]? = some (.cells #[.int .u8 1, .int .i64 S, .int .i64 C, .int .i64 T, .int .i64 M, .int .u8 0] 31 (0, 0)) := hk.old_at (by omega) (alloc_old (by (try simp only [World.size_alloc, boxed_size]); omega) (boxed_old (by omega) (HB11_0.out)))
        have hb1 : W12.heap[W2.heap.size]? = some (.cells #[.int .u8 1, .int .i64 S, .int .i64 C, .int .i64 T, .int .i64 M, .int .u8 x] 31 (0, 0)) := hk.at_ (by simp) (alloc_old (by (try simp only [World.size_alloc, boxed_size]); omega) (boxed_old (by omega) (HB11_1.out)))
        have hb2 : W12.heap[wr.heap.size]? = some (.cells #[.int .u8 2, .int .i64 S, .int .i64 C, .int .i64 T, .int .i64 M, .int .u8 0] 31 (0, 0)) := hk.at_ (by simp) (alloc_old (by (try simp only [World.size_alloc, boxed_size]); omega) (boxed_at (by (try simp only [boxed_size]); omega)))
        have hb3 : W12.heap[W11.heap.size]? = some (.cells #[.int .u8 2, .int .i64 S, .int .i64 C, .int .i64 T, .int .i64 M, .int .u8 3] 31 (0, 0)) := hk.at_ (by simp) (alloc_at (by first | rfl | simp only [World.size_alloc, boxed_size]))
        have HL12 := Lib.hid hl
        have l12 : W11.heap.size + 1 ≤ W12.heap.size := by omega
        have : w.heap.size < W12.heap.size := by omega
        have : W2.heap.size < W12.heap.size := by omega
        have : wr.heap.size < W12.heap.size := by omega
        have : W11.heap.size < W12.heap.size := by omega
        have : w.heap.size < W11.heap.size := by omega
        have : W2.heap.size < W11.heap.size := by omega
        have : wr.heap.size < W11.heap.size := by omega
        clear hl hk hsz HLE hNE HB11_0 c0_0 c0_1 c0_2 c0_3 c0_4 c0_5 HB11_1 c1_0 c1_1 c1_2 c1_3 c1_4 c1_5
        have HB12_0 := Lib.hid hb0
        have c0_0 : W12.cell? ⟨w.heap.size, 0, none⟩ = some (.int .u8 1) := by rw [cell_of_row _ _ _ _ _ _ hb0]; rfl
        have c0_1 : W12.cell? ⟨w.heap.size, 1, none⟩ = some (.int .i64 S) := by rw [cell_of_row _ _ _ _ _ _ hb0]; rfl
        have c0_2 : W12.cell? ⟨w.heap.size, 2, none⟩ = some (.int .i64 C) := by rw [cell_of_row _ _ _ _ _ _ hb0]; rfl
        have c0_3 : W12.cell? ⟨w.heap.size, 3, none⟩ = some (.int .i64 T) := by rw [cell_of_row _ _ _ _ _ _ hb0]; rfl
        have c0_4 : W12.cell? ⟨w.heap.size, 4, none⟩ = some (.int .i64 M) := by rw [cell_of_row _ _ _ _ _ _ hb0]; rfl
        have c0_5 : W12.cell? ⟨w.heap.size, 5, none⟩ = some (.int .u8 0) := by rw [cell_of_row _ _ _ _ _ _ hb0]; rfl
        clear hb0
        have HB12_1 := Lib.hid hb1
        have c1_0 : W12.cell? ⟨W2.heap.size, 0, none⟩ = some (.int .u8 1) := by rw [cell_of_row _ _ _ _ _ _ hb1]; rfl
        have c1_1 : W12.cell? ⟨W2.heap.size, 1, none⟩ = some (.int .i64 S) := by rw [cell_of_row _ _ _ _ _ _ hb1]; rfl
        have c1_2 : W12.cell? ⟨W2.heap.size, 2, none⟩ = some (.int .i64 C) := by rw [cell_of_row _ _ _ _ _ _ hb1]; rfl
        have c1_3 : W12.cell? ⟨W2.heap.size, 3, none⟩ = some (.int .i64 T) := by rw [cell_of_row _ _ _ _ _ _ hb1]; rfl
        have c1_4 : W12.cell? ⟨W2.heap.size, 4, none⟩ = some (.int .i64 M) := by rw [cell_of_row _ _ _ _ _ _ hb1]; rfl
        have c1_5 : W12.cell? ⟨W2.heap.size, 5, none⟩ = some (.int .u8 x) := by rw [cell_of_row _ _ _ _ _ _ hb1]; rfl
        clear hb1
        have HB12_3 := Lib.hid hb3
        have c3_0 : W12.cell? ⟨W11.heap.size, 0, none⟩ = some (.int .u8 2) := by rw [cell_of_row _ _ _ _ _ _ hb3]; rfl
        have c3_1 : W12.cell? ⟨W11.heap.size, 1, none⟩ = some (.int .i64 S) := by rw [cell_of_row _ _ _ _ _ _ hb3]; rfl
        have c3_2 : W12.cell? ⟨W11.heap.size, 2, none⟩ = some (.int .i64 C) := by rw [cell_of_row _ _ _ _ _ _ hb3]; rfl
        have c3_3 : W12.cell? ⟨W11.heap.size, 3, none⟩ = some (.int .i64 T) := by rw [cell_of_row _ _ _ _ _ _ hb3]; rfl
        have c3_4 : W12.cell? ⟨W11.heap.size, 4, none⟩ = some (.int .i64 M) := by rw [cell_of_row _ _ _ _ _ _ hb3]; rfl
        have c3_5 : W12.cell? ⟨W11.heap.size, 5, none⟩ = some (.int .u8 3) := by rw [cell_of_row _ _ _ _ _ _ hb3]; rfl
        clear hb3
        have e2 := boxed_self (w := W12) (hb2)
        rw [e2]
        clear e2 hb2
        rw [(refund_again HO.out.2.1).2]
        rw [(refund_again HO.out.2.1).1] at HL12
        go_wp2_with (fail)
        have HLE : LiveO (TilB (U.heap.size + 4) (st.refund S C) (4 + 4 * j + 4 + 4)) U (fun i => i = W2.heap.size ∨ i = wr.heap.size ∨ i = W11.heap.size ∨ i = W12.heap.size) ((boxed W12 wr.heap.size #[.int .u8 2, .int .i64 S, .int .i64 C, .int .i64 T, .int .i64 M, .int .u8 0] 31).alloc (.cells #[.int .u8 2, .int .i64 S, .int .i64 C, .int .i64 T, .int .i64 M, .int .u8 3] 31)) := (((HL12.out).boxed (til_thing (U.heap.size + 4) (st.refund S C) (4 + 4 * j + 4 + 4)) (g := wr.heap.size) (cs := #[.int .u8 2, .int .i64 S, .int .i64 C, .int .i64 T, .int .i64 M, .int .u8 0]) (t := 31) (by simp) (by omega)).alloc (til_thing (U.heap.size + 4) (st.refund S C) (4 + 4 * j + 4 + 4)) (.cells #[.int .u8 2, .int .i64 S, .int .i64 C, .int .i64 T, .int .i64 M, .int .u8 3] 31)).less (fun i hi => by have hi2 := hi; (try simp only [World.size_alloc, boxed_size]); (try simp only at hi2); (try simp only [false_or]); omega)
        have hNE : ∀ i, (fun i => i = W2.heap.size ∨ i = wr.heap.size ∨ i = W11.heap.size ∨ i = W12.heap.size) i → i < ((boxed W12 wr.heap.size #[.int .u8 2, .int .i64 S, .int .i64 C, .int .i64 T, .int .i64 M, .int .u8 0] 31).alloc (.cells #[.int .u8 2, .int .i64 S, .int .i64 C, .int .i64 T, .int .i64 M, .int .u8 3] 31)).heap.size := fun i hi => by have hi2 := hi; (try simp only [World.size_alloc, boxed_size]); (try simp only at hi2); omega
        refine (taken_live HLE hc).mono ?_
        rintro e _ ⟨rfl, rfl⟩
        clear HLE hNE
        rw [HO.out.2.2.1]
        go_wp2_with (fail)
        have HLE : LiveO (TilB (U.heap.size + 4) (st.refund S C) (4 + 4 * j + 4 + 4)) U (fun i => i = W2.heap.size ∨ i = wr.heap.size ∨ i = W11.heap.size ∨ i = W12.heap.size) ((boxed W12 wr.heap.size #[.int .u8 2, .int .i64 S, .int .i64 C, .int .i64 T, .int .i64 M, .int .u8 0] 31).alloc (.cells #[.int .u8 2, .int .i64 S, .int .i64 C, .int .i64 T, .int .i64 M, .int .u8 3] 31)) := (((HL12.out).boxed (til_thing (U.heap.size + 4) (st.refund S C) (4 + 4 * j + 4 + 4)) (g := wr.heap.size) (cs := #[.int .u8 2, .int .i64 S, .int .i64 C, .int .i64 T, .int .i64 M, .int .u8 0]) (t := 31) (by simp) (by omega)).alloc (til_thing (U.heap.size + 4) (st.refund S C) (4 + 4 * j + 4 + 4)) (.cells #[.int .u8 2, .int .i64 S, .int .i64 C, .int .i64 T, .int .i64 M, .int .u8 3] 31)).less (fun i hi => by have hi2 := hi; (try simp only [World.size_alloc, boxed_size]); (try simp only at hi2); (try simp only [false_or]); omega)
        have hNE : ∀ i, (fun i => i = W2.heap.size ∨ i = wr.heap.size ∨ i = W11.heap.size ∨ i = W12.heap.size) i → i < ((boxed W12 wr.heap.size #[.int .u8 2, .int .i64 S, .int .i64 C, .int .i64 T, .int .i64 M, .int .u8 0] 31).alloc (.cells #[.int .u8 2, .int .i64 S, .int .i64 C, .int .i64 T, .int .i64 M, .int .u8 3] 31)).heap.size := fun i hi => by have hi2 := hi; (try simp only [World.size_alloc, boxed_size]); (try simp only at hi2); omega
        refine (net_live HLE hk.1).mono ?_
        rintro e _ ⟨rfl, rfl⟩
        clear HLE hNE
        rw [HO.out.2.2.2]
        go_wp2
        go_ret
        exact ⟨rfl, HU.out.trans ((Below.alloc (boxed_below (HL12.out.old) (by omega)) (by (try simp only [World.size_alloc, boxed_size]); omega) _).mono (by omega))⟩
theorem tillOnce_walk {w : World} (K S C T M V : Int) (hw : (⟨K, S, C, T, M, V⟩ : Nv).Wf) (v : Int) (_ : (Lit.int .u8 v).wf = true) (tm : Int) (ht : (Lit.int .u8 tm).wf = true) :
    Calls Try.prog 4 #[.agg #[.int .u8 K, .int .i64 S, .int .i64 C, .int .i64 T, .int .i64 M, .int .u8 V], .int .u8 v, .int .u8 tm] w fun e w' => e = .returned (.bool true) ∧ Below w.heap.size w w' := by
  obtain ⟨_, hS, hC, hT, hM, _⟩ := hw
  by_cases h : M ≤ 0 ∨ 1125899906842624 < M ∨ T ≤ 0
  · exact tillOnce_far K S C T M V v tm h
  · exact tillOnce_in K S C T M V v tm ⟨wf_of hS, wf_of hC, wf_of hT⟩ (by omega) (by omega) (wf_u8 ht)
end Go.Proofs.Ytcjhgckkbekhoaa
