/-
  slices.Chunk's iterator over a row of bytes: it hands over as many slices of 64 bytes as there are, the last one with what is left. No conditions but the sizes.
-/
import Derived.Test.YtlbodpffkdfllaaDoorIter
import Derived.Test.YtlbodpffkdfllaaDoorBuf
namespace Go.Proofs.YtlbodpffkdfllaaDoor
set_option maxRecDepth 100000
open Go.ChangeShapes Go.WideShapes Go.ChangeAt Go.RowKit
attribute [local go_sem] Oper.semAt_some

/-- The k-th slice of 64. -/
def chunkV (a : Addr) (n k : Nat) : Value := .slice (some (a.add (k * 64))) (min 64 (n - k * 64)) (min 64 (n - k * 64))

theorem range_prefix {k m : Nat} (h : k ≤ m) : List.range k <+: List.range m := by
  have := List.take_prefix k (List.range m)
  rwa [List.take_range, show min k m = k by omega] at this

set_option maxHeartbeats 4000000 in
theorem chunk_gives (a : Addr) (n c Bs Bn l : Nat) (J : List Nat → World → Prop) (hJ : ∀ pre W, J pre W → W.cell? ⟨Bs, 0, none⟩ = some (.slice (some a) n c) ∧ W.cell? ⟨Bn, 0, none⟩ = some (.int .i64 64)) (h0 : n ≤ 5000) (hnc : n ≤ c) (hcm : c ≤ maxLen) :
    Gives Tryd.prog l 63 #[.pointer (some ⟨Bs, 0, none⟩), .pointer (some ⟨Bn, 0, none⟩)] (fun k => #[chunkV a n k]) (List.range ((n + 63) / 64)) J := by
  intro R hRJ hRd hY W1 hR1
  have hmc : c ≤ 9223372036854775807 := by unfold maxLen at hcm; omega
  refine callsIn_of_wp Tryd.func63 rfl trivial ?_ rfl
  simp only [Tryd.ntmps63, List.size_toArray, List.length_cons, List.length_nil, Nat.reduceAdd, Nat.reduceSub, Array.replicate_succ, Array.replicate_zero, List.push_toArray, List.append_toArray, List.nil_append, List.cons_append]
  gi_wp2
  gi_loopw [4] (fun t wr => ∃ k : Nat, k ≤ (n + 63) / 64 ∧ t = .int .i64 ((k * 64 : Nat) : Int) ∧ R (List.range k) wr) (fun t _ => n + 64 - (intOf t).toNat)
  case atStart => exact ⟨0, by omega, rfl, hR1⟩
  case round =>
    obtain ⟨k, hk, rfl, hr⟩ := hrel
    obtain ⟨c1, c2⟩ := hJ _ _ (hRJ _ _ hr)
    by_cases hlt : k * 64 < n
    · have hck : c ≠ k * 64 := by omega
      gi_wp2
      gi_region
      have hm : (if ((n - k * 64 : Nat) : Int) < 64 then ((n - k * 64 : Nat) : Int) else 64) = ((min 64 (n - k * 64) : Nat) : Int) := by split <;> omega
      rw [hm]
      obtain ⟨fn, tmps, assign, body, hy, hR⟩ := hY (List.range k) k wr.drew (hRd _ _ hr) (by rw [← List.range_succ]; exact range_prefix (by omega))
      have hx : chunkV a n k = .slice (some (a.add (k * 64))) (min 64 (n - k * 64)) (min 64 (n - k * 64)) := rfl
      rw [hx] at hy
      clear hx hm
      have hmx : min 64 (n - k * 64) ≤ n - k * 64 := by omega
      have hmy : 0 < min 64 (n - k * 64) := by omega
      generalize min 64 (n - k * 64) = x at *
      gi_wp2
      refine ⟨rfl, hR.mono ?_⟩
      rintro e W3 ⟨rfl, hr3⟩
      obtain ⟨d1, d2⟩ := hJ _ _ (hRJ _ _ hr3)
      gi_wp2
      go_roundw
      case rel => exact ⟨k + 1, by omega, by go_num, by rw [List.range_succ]; exact hr3⟩
      case measure => simp [intOf]; omega
    · obtain rfl : k = (n + 63) / 64 := by omega
      gi_wp2
      go_end0
      exact ⟨⟨_, rfl⟩, hr⟩
end Go.Proofs.YtlbodpffkdfllaaDoor
