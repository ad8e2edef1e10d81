/-
  slices.Backward's iterator over a row of slices of bytes: it hands over each with its place, from the last one on. No conditions but the sizes.
-/
import Derived.Test.YtlbodpffkdfllaaDoorChunk
namespace Go.Proofs.YtlbodpffkdfllaaDoor
set_option maxRecDepth 100000
open Go.ChangeShapes Go.WideShapes Go.ChangeAt Go.RowKit
attribute [local go_sem] Oper.semAt_some

def backs (n : Nat) : List Nat := (List.range n).reverse
theorem backs_len (n : Nat) : (backs n).length = n := by simp [backs]
theorem backs_at {n j : Nat} (h : j < n) : (backs n)[j]? = some (n - 1 - j) := by
  unfold backs
  rw [List.getElem?_reverse (by simp; exact h), List.length_range, List.getElem?_range (by omega)]
theorem backs_next {n j : Nat} (h : j < n) : (backs n).take j ++ [n - 1 - j] = (backs n).take (j + 1) := by
  have hl := backs_len n
  have := List.take_succ_eq_append_getElem (l := backs n) (i := j) (by omega)
  rw [this]
  have e := backs_at h
  rw [List.getElem?_eq_getElem (by omega)] at e
  injection e with e
  rw [e]

set_option maxHeartbeats 4000000 in
theorem back_gives (a : Addr) (n c Bs l : Nat) (V : Nat → Value) (J : List Nat → World → Prop) (hJ : ∀ pre W, J pre W → W.cell? ⟨Bs, 0, none⟩ = some (.slice (some a) n c) ∧ ∀ i, i < n → W.cell? (a.add i) = some (V i)) (h0 : n ≤ 5000) (hpos : 0 < n) (hnc : n ≤ c) :
    Gives Tryd.prog l 64 #[.pointer (some ⟨Bs, 0, none⟩)] (fun k : Nat => #[.int .i64 (k : Int), V k]) (backs n) J := by
  intro R hRJ hRd hY W1 hR1
  obtain ⟨c1, _⟩ := hJ _ _ (hRJ _ _ hR1)
  refine callsIn_of_wp Tryd.func64 rfl trivial ?_ rfl
  simp only [Tryd.ntmps64, List.size_toArray, List.length_cons, List.length_nil, Nat.reduceAdd, Nat.reduceSub, Array.replicate_succ, Array.replicate_zero, List.push_toArray, List.append_toArray, List.nil_append, List.cons_append]
  gi_wp2
  clear c1
  gi_loopw [3] (fun t wr => ∃ j : Nat, j ≤ n ∧ t = .int .i64 ((n : Int) - 1 - j) ∧ R ((backs n).take j) wr) (fun t _ => (intOf t + 1).toNat)
  case atStart => exact ⟨0, by omega, by go_num, hR1⟩
  case round =>
    obtain ⟨j, hj, rfl, hr⟩ := hrel
    obtain ⟨c1, c2⟩ := hJ _ _ (hRJ _ _ hr)
    by_cases hlt : j < n
    · have ci := c2 (n - 1 - j) (by omega)
      obtain ⟨fn, tmps, assign, body, hy, hR⟩ := hY ((backs n).take j) (n - 1 - j) wr hr (by rw [backs_next hlt]; exact List.take_prefix _ _)
      have hx : ((n : Int) - 1 - j) = ((n - 1 - j : Nat) : Int) := by omega
      rw [hx]
      have hv : n - 1 - j < n := by omega
      have hb := backs_next hlt
      clear c2
      generalize n - 1 - j = x at *
      generalize V x = vx at *
      gi_wp2
      refine ⟨rfl, hR.mono ?_⟩
      rintro e W3 ⟨rfl, hr3⟩
      rw [hb] at hr3
      clear c1 ci hb
      obtain ⟨d1, d2⟩ := hJ _ _ (hRJ _ _ hr3)
      clear d2
      gi_wp2
      go_roundw
      case rel => exact ⟨j + 1, by omega, by rw [← hx]; go_num, hr3⟩
      case measure => simp [intOf]
    · obtain rfl : j = n := by omega
      have hx : ((j : Int) - 1 - j) = -1 := by omega
      rw [hx]
      clear c2
      gi_wp2
      go_end0
      refine ⟨⟨_, rfl⟩, ?_⟩
      rwa [List.take_of_length_le (by rw [backs_len]; omega)] at hr
end Go.Proofs.YtlbodpffkdfllaaDoor
