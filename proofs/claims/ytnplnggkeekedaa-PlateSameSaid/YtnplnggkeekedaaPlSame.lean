/-
  Whether two plates are the same, as they are safe. No conditions.
-/
import Derived.Test.YtnplnggkeekedaaPlSec
namespace Go.Proofs.Ytnplnggkeekedaa
open Go.ChangeShapes Go.WideShapes Go.ChangeAt Go.RowKit

/-- A plate's sector by its map. -/
theorem PlC.look {w : World} {g : Nat} {F : Nat → Prop} {st : Pl.St} {m ms ml k : Nat} {be : Int} {v : Value} {fs fl : Int → Option Value} (h : PlC w g F st m ms ml be v fs fl k) {j : Nat} (hj : j < st.safe.length) :
    (Instr.lookup 51 (.map (some ms)) (.int .i64 j) false).run Try.prog w = .ok (sv st.safe[j]) w := by
  have := h.mapS.look Try.underlying51 (zero63 w) j (WalkArith.wf_i64 (by have := h.ok.size; omega))
  rw [(h.safe j _ (List.getElem?_eq_getElem hj)).1] at this
  exact this

set_option maxRecDepth 20000 in
set_option maxHeartbeats 1600000 in
theorem same_any (w : World) (g g' : Nat) (F F' : Nat → Prop) (st st' : Pl.St) (m m' : Nat) (h : PlB w g F st m) (h' : PlB w g' F' st' m') (hne : 0 < st.safe.length) :
    Calls Try.prog 19 #[.pointer (some ⟨g, 0, none⟩), .pointer (some ⟨g', 0, none⟩)] w fun e w' => e = .returned (.bool (decide (st.safe = st'.safe))) ∧ Below w.heap.size w w' := by
  have H := Lib.hid h
  have H' := Lib.hid h'
  have hok := h.ok
  have hok' := h'.ok
  have d0 : ((st.safe.length : Int) == 0) = false := by rw [beq_eq_false_iff_ne]; omega
  by_cases hl : st.safe.length = st'.safe.length
  · have d1 : decide ((st.safe.length : Int) = (st'.safe.length : Int)) = true := by simp [hl]
    have d2 : ((st.safe.length : Int) == (st'.safe.length : Int)) = true := by simp [hl]
    obtain ⟨ms, ml, be, v, fs, fl, k, hc⟩ := h
    obtain ⟨ms', ml', be', v', fs', fl', k', hc'⟩ := h'
    have HC := Lib.hid hc
    have HC' := Lib.hid hc'
    have hg2 : w.cell? ⟨g, 2, none⟩ = some (.int .i64 be) := by rw [cell_of_row _ _ _ _ _ _ hc.blk]; rfl
    have hg2' : w.cell? ⟨g', 2, none⟩ = some (.int .i64 be') := by rw [cell_of_row _ _ _ _ _ _ hc'.blk]; rfl
    clear hc hc'
    go_enter Try.func19, Try.ntmps19
    go_wp2_with (go_at_call 20; first | (refine (size_any _ _ _ _ _ H.out).mono ?_; rintro e w' ⟨rfl, rfl⟩) | (refine (size_any _ _ _ _ _ H'.out).mono ?_; rintro e w' ⟨rfl, rfl⟩))
    have hbe := HC.out.be
    have hsz := hok.size
    have hbe' := HC'.out.be
    go_region
    all_goals
      generalize hX : (if be < be' then be' else be) = X
      have hX1 : be ≤ X ∧ be' ≤ X ∧ X ≤ st.safe.length ∧ 0 ≤ X := by split at hX <;> omega
      clear hX
      obtain ⟨M, rfl⟩ : ∃ M : Nat, X = M := ⟨X.toNat, by omega⟩
      go_wp2
      go_loopw [23] (fun t wr => ∃ j : Nat, j ≤ M ∧ t = .int .i64 j ∧ Below w.heap.size w wr ∧ ∀ i, i < j → st.safe[i]? = st'.safe[i]?) (fun t _ => M - (intOf t).toNat)
      case atStart => exact ⟨0, by omega, rfl, (Below.refl _ _).drew, fun i hi => by omega⟩
      case round =>
        obtain ⟨j, hj, rfl, hb, heq⟩ := hrel
        have HB := Lib.hid hb
        have HEQ := Lib.hid heq
        clear hb heq
        by_cases hlt : j < M
        · have hj1 : j < st.safe.length := by omega
          have hj2 : j < st'.safe.length := by omega
          have hs1 := hok.safe _ (List.getElem_mem hj1)
          have hs2 := hok'.safe _ (List.getElem_mem hj2)
          have L1 : Hid (∀ W, Below w.heap.size w W → (Instr.lookup 51 (.map (some ms)) (.int .i64 j) false).run Try.prog W = .ok (sv st.safe[j]) W) := fun W hW => (HC.out.kept (fun i hi => hW.block i (HC.out.lt i hi)) hW.size).look hj1
          have L2 : Hid (∀ W, Below w.heap.size w W → (Instr.lookup 51 (.map (some ms')) (.int .i64 j) false).run Try.prog W = .ok (sv st'.safe[j]) W) := fun W hW => (HC'.out.kept (fun i hi => hW.block i (HC'.out.lt i hi)) hW.size).look hj2
          have C1 : Hid (∀ W, Below w.heap.size w W → W.cell? ⟨g, 1, none⟩ = some (.map (some ms))) := fun W hW => by rw [cell_of_row _ _ _ _ _ _ ((hW.block g HC.out.glt).trans HC.out.blk)]; rfl
          have C2 : Hid (∀ W, Below w.heap.size w W → W.cell? ⟨g', 1, none⟩ = some (.map (some ms'))) := fun W hW => by rw [cell_of_row _ _ _ _ _ _ ((hW.block g' HC'.out.glt).trans HC'.out.blk)]; rfl
          have HD : Hid (st.safe[j] ≠ st'.safe[j] → decide (st.safe = st'.safe) = false) := fun hn => by simp; intro e; exact hn (by simp [e])
          have HG : Hid (st.safe[j] = st'.safe[j] → st.safe[j]? = st'.safe[j]?) := fun e => by rw [List.getElem?_eq_getElem hj1, List.getElem?_eq_getElem hj2, e]
          generalize st.safe[j] = x at *
          generalize st'.safe[j] = y at *
          go_wp2
          refine lane_start (ord := [0, 1, 2, 3, 4, 5, 6, 7, 8, 9, 10, 11, 12]) (S := fun W => Below w.heap.size w W) rfl (by kernel_rfl) HB.out.drew (fun hHeld => ?_)
          iterate 12 (refine lane_take (v := ?_) rfl (by kernel_rfl) (by kernel_rfl) (by rfl) ?_ (by assumption) ?_; rotate_left; (focus (intro W hSw; have e1 := L1.out W hSw; have e2 := L2.out W hSw; have e3 := C1.out W hSw; have e4 := C2.out W hSw; go_simp; try (with_reducible rfl))); simp only [Act.put, List.setIfInBounds_toArray, List.set_cons_zero, List.set_cons_succ])
          refine lane_take (v := .bool (!decide (x = y))) rfl (by kernel_rfl) (by kernel_rfl) (by rfl) (fun W hSw => exec_neq_sec rfl rfl rfl hs1 hs2 W) (by assumption) ?_
          simp only [Act.put, List.setIfInBounds_toArray, List.set_cons_zero, List.set_cons_succ]
          refine lane_end (by kernel_rfl) ?_
          cases hxy : decide (x = y)
          · have hne' : x ≠ y := by simpa using hxy
            go_wp2
            go_ret
            exact ⟨ret_bool (HD.out hne').symm, hHeld⟩
          · have hxy' : x = y := by simpa using hxy
            have hg := HG.out hxy'
            go_wp2
            go_roundw
            case rel => exact ⟨j + 1, by omega, by go_num, hHeld, fun i hi => by
              rcases Nat.lt_or_ge i j with h' | h'
              · exact HEQ.out i h'
              · obtain rfl : i = j := by omega
                exact hg⟩
            case measure => simp [intOf]; omega
        · obtain rfl : j = M := by omega
          have hd : decide (st.safe = st'.safe) = true := by
            rw [decide_eq_true_iff]
            apply List.ext_getElem?
            intro i
            rcases Nat.lt_or_ge i j with h1 | h1
            · exact HEQ.out i h1
            · rcases Nat.lt_or_ge i st.safe.length with h2 | h2
              · have h3 : i < st'.safe.length := by omega
                rw [List.getElem?_eq_getElem h2, List.getElem?_eq_getElem h3, (HC.out.safe i _ (List.getElem?_eq_getElem h2)).2 (by omega), (HC'.out.safe i _ (List.getElem?_eq_getElem h3)).2 (by omega)]
              · rw [List.getElem?_eq_none h2, List.getElem?_eq_none (by omega)]
          have HDD := Lib.hid hd
          clear hd
          go_wp2
          go_ret
          exact ⟨ret_bool HDD.out.symm, HB.out⟩
  · have d2 : ((st.safe.length : Int) == (st'.safe.length : Int)) = false := by rw [beq_eq_false_iff_ne]; omega
    have hd : decide (st.safe = st'.safe) = false := by simp; exact fun e => hl (by rw [e])
    rw [hd]
    go_enter Try.func19, Try.ntmps19
    go_wp2_with (go_at_call 20; first | (refine (size_any _ _ _ _ _ H.out).mono ?_; rintro e w' ⟨rfl, rfl⟩) | (refine (size_any _ _ _ _ _ H'.out).mono ?_; rintro e w' ⟨rfl, rfl⟩))
    go_ret
    exact ⟨rfl, Below.refl _ _⟩
end Go.Proofs.Ytnplnggkeekedaa
