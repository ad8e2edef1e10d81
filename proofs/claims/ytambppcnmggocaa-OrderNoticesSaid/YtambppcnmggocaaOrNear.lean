/-
  The law's order that may be. No conditions but that its bytes are bytes.
-/
import Derived.Test.YtambppcnmggocaaOrEq
namespace Go.Proofs.Ytambppcnmggocaa
set_option maxRecDepth 20000
open Go.ChangeShapes Go.WideShapes Go.ChangeAt Go.RowKit

namespace Pn
/-- The plan of the law's order. -/
def nearO (p : Pv) : Pv := ⟨p.a % 1073741824, p.u % 4, 1 + p.e % 18446744073709551616 % 1000, p.t % 18446744073709551616 % 1000, p.g, p.l⟩
theorem nearO_right (p : Pv) : Pn.right (nearO p).a (nearO p).u (nearO p).e (nearO p).t = 0 := by
  unfold nearO Pn.right
  dsimp only
  rw [if_neg (by omega), if_neg (by omega)]
end Pn
def Ov.near (o : Ov) : Ov :=
  if o.k % 10 = 0 then ⟨1, 0, 0, 0, Pn.nearO o.P, Nv.zero⟩ else if o.k % 10 = 1 ∨ o.k % 10 = 2 then ⟨1 + o.k % 10, o.s % 32, o.p % 8, 0, Pv.zero, Nv.zero⟩
  else if o.k % 10 = 8 then ⟨9, 0, 0, 1 + o.n % 18446744073709551616 % 60, Pv.zero, Nv.zero⟩ else if o.k % 10 = 9 then ⟨10, 0, 0, 0, Pv.zero, o.A.near⟩ else ⟨1 + o.k % 10, o.s % 32, 0, 0, Pv.zero, Nv.zero⟩
theorem near_ways {P : Prop} (k : Int) (h0 : k % 10 = 0 → P) (h1 : k % 10 = 1 → P) (h2 : k % 10 = 2 → P) (h3 : k % 10 = 3 → P) (h4 : k % 10 = 4 → P) (h5 : k % 10 = 5 → P) (h6 : k % 10 = 6 → P) (h7 : k % 10 = 7 → P) (h8 : k % 10 = 8 → P) (h9 : k % 10 = 9 → P) : P := by
  have : k % 10 = 0 ∨ k % 10 = 1 ∨ k % 10 = 2 ∨ k % 10 = 3 ∨ k % 10 = 4 ∨ k % 10 = 5 ∨ k % 10 = 6 ∨ k % 10 = 7 ∨ k % 10 = 8 ∨ k % 10 = 9 := by omega
  rcases this with h | h | h | h | h | h | h | h | h | h
  · exact h0 h
  · exact h1 h
  · exact h2 h
  · exact h3 h
  · exact h4 h
  · exact h5 h
  · exact h6 h
  · exact h7 h
  · exact h8 h
  · exact h9 h
/-- It may be. -/
theorem Ov.near_good (o : Ov) : o.near.Num ∧ o.near = o.near.named := by
  refine near_ways o.k ?_ ?_ ?_ ?_ ?_ ?_ ?_ ?_ ?_ ?_
  all_goals
    intro h
    unfold Ov.near
    rw [h]
    simp only [Int.reduceEq, if_true, if_false, true_or, or_true, or_self, Int.reduceAdd]
    refine ⟨?_, ?_⟩
    · unfold Ov.Num
      first
        | exact .inl (by dsimp only; decide)
        | exact .inr (.inl ⟨by dsimp only; decide, by dsimp only; omega⟩)
        | exact .inr (.inr (.inl ⟨by dsimp only; decide, by dsimp only; omega⟩))
        | exact .inr (.inr (.inr (.inl ⟨by dsimp only; decide, by dsimp only; omega⟩)))
        | exact .inr (.inr (.inr (.inr ⟨by dsimp only; decide, Nv.near_ans _⟩)))
    · unfold Ov.named
      dsimp only
      simp [nm]
theorem Ov.near_right (o : Ov) : o.near.right = 0 := by
  rw [right_good (Ov.near_good o)]
  by_cases h : o.near.k = 1
  · rw [if_pos h]
    refine near_ways o.k ?_ ?_ ?_ ?_ ?_ ?_ ?_ ?_ ?_ ?_
    · intro g
      have e : o.near.P = Pn.nearO o.P := by unfold Ov.near; rw [if_pos g]
      rw [e]; exact Pn.nearO_right _
    all_goals
      intro g
      unfold Ov.near at h
      rw [g] at h
      simp at h
  · rw [if_neg h]

/-- The three blocks of a call that makes an order, behind a call that makes new blocks alone. -/
theorem three_of {w w1 : World} {cs cs1 cs2 cs' : Array Value} {t t1 t' : TypeId} {B : Nat} (hb : Below (boxed (((w.alloc (.cells cs t)).alloc (.cells cs1 t1)).alloc (.cells cs2 t')) B cs' t').heap.size (boxed (((w.alloc (.cells cs t)).alloc (.cells cs1 t1)).alloc (.cells cs2 t')) B cs' t') w1) (hB : B = w.heap.size + 1 + 1 := by rfl) :
    Hid (Below w.heap.size w w1) ∧ w.heap.size < w1.heap.size ∧ w.heap.size + 1 < w1.heap.size ∧ w.heap.size + 1 + 1 < w1.heap.size ∧ w1 = boxed (boxed (boxed w1 w.heap.size cs t) (w.heap.size + 1) cs1 t1) (w.heap.size + 1 + 1) cs' t' := by
  subst hB
  have hz := hb.size
  have b0 : w1.heap[w.heap.size]? = some (.cells cs t) := below_block hb (boxed_old (by omega) (alloc_old (by simp; omega) (alloc_old (by simp) (alloc_at rfl))))
  have b1 : w1.heap[w.heap.size + 1]? = some (.cells cs1 t1) := below_block hb (boxed_old (by omega) (alloc_old (by simp) (alloc_at (by simp))))
  have b2 : w1.heap[w.heap.size + 1 + 1]? = some (.cells cs' t') := below_block hb (boxed_at (by simp))
  rw [boxed_size] at hz
  simp at hz
  refine ⟨(boxed_below ((((Below.refl _ _).alloc (Nat.le_refl _) _).alloc (by simp) _).alloc (by simp; omega) _) (by omega)).trans (hb.mono (by simp; omega)), by omega, by omega, by omega, ?_⟩
  rw [← boxed_self b0, ← boxed_self b1, ← boxed_self b2]
set_option maxHeartbeats 4000000 in
theorem onear_0 (k s p n a u e t : Int) (g l : Bool) (K S C T M V : Int) (w : World) (wk : 0 ≤ k ∧ k < 256) (wu : 0 ≤ u ∧ u < 256) (h : k % 10 = 0) :
    Calls Try.prog 11 #[.agg #[.int .u8 k, .int .i64 s, .int .i64 p, .int .i64 n, .int .i64 a, .int .u8 u, .int .i64 e, .int .i64 t, .bool g, .bool l, .int .u8 K, .int .i64 S, .int .i64 C, .int .i64 T, .int .i64 M, .int .u8 V]] w fun x w' => x = .returned (Ov.near ⟨k, s, p, n, ⟨a, u, e, t, g, l⟩, ⟨K, S, C, T, M, V⟩⟩).val ∧ Below w.heap.size w w' := by
  rw [show Ov.near ⟨k, s, p, n, ⟨a, u, e, t, g, l⟩, ⟨K, S, C, T, M, V⟩⟩ = ⟨1, 0, 0, 0, Pn.nearO ⟨a, u, e, t, g, l⟩, Nv.zero⟩ by unfold Ov.near; dsimp only; rw [h]; rfl]
  dsimp only [Ov.val, Pn.nearO, Nv.zero, Pv.zero]
  obtain ⟨wk0, wk1⟩ := wk
  obtain ⟨wu0, wu1⟩ := wu
  have es : wrap64 ((IntKind.u64.wrap s).tmod 32) = s % 32 := by rw [u64t]; unfold wrap64; omega
  have ep : wrap64 ((IntKind.u64.wrap p).tmod 8) = p % 8 := by rw [u64t]; unfold wrap64; omega
  have en : wrap64 (1 + wrap64 ((IntKind.u64.wrap n).tmod 60)) = 1 + n % 18446744073709551616 % 60 := by rw [u64t]; unfold wrap64; omega
  have ea : wrap64 ((IntKind.u64.wrap a).tmod 1073741824) = a % 1073741824 := by rw [u64t]; unfold wrap64; omega
  have ee : wrap64 (1 + wrap64 ((IntKind.u64.wrap e).tmod 1000)) = 1 + e % 18446744073709551616 % 1000 := by rw [u64t]; unfold wrap64; omega
  have et : wrap64 ((IntKind.u64.wrap t).tmod 1000) = t % 18446744073709551616 % 1000 := by rw [u64t]; unfold wrap64; omega
  go_enter Try.func11, Try.ntmps11
  go_wp2_with (first | (with_reducible_and_instances (show wpList _ _ _ (Oper.mk _ (Op.load 27 _) _ _ _ _ :: _) _ _); refine wl_load Try.underlying27 rfl info16 rfl rfl rfl (by (repeat (first | assumption | (with_reducible refine alloc_at ?_; (focus (first | omega | (simp; done) | (simp; omega)))) | (with_reducible refine boxed_at ?_; (focus (first | omega | (simp; done) | (simp; omega)))) | (with_reducible refine alloc_old ?_ ?_; (focus (first | omega | (simp; done) | (simp; omega)))) | (with_reducible refine boxed_old ?_ ?_; (focus (first | omega | (simp; done) | (simp; omega)))) | (with_reducible refine drew_old ?_)))) (by rfl) ?_) | (with_reducible_and_instances (show wpList _ _ _ (Oper.mk _ (Op.store 27 _ _) _ _ _ _ :: _) _ _); refine wl_store info16 rfl rfl rfl rfl (by (repeat (first | assumption | (with_reducible refine alloc_at ?_; (focus (first | omega | (simp; done) | (simp; omega)))) | (with_reducible refine boxed_at ?_; (focus (first | omega | (simp; done) | (simp; omega)))) | (with_reducible refine alloc_old ?_ ?_; (focus (first | omega | (simp; done) | (simp; omega)))) | (with_reducible refine boxed_old ?_ ?_; (focus (first | omega | (simp; done) | (simp; omega)))) | (with_reducible refine drew_old ?_)))) (by rfl) (by rfl) (by simp [Value.oneCell']) ?_))
  refine bodyPost_ret (results_cell_row rfl _ _ (w.heap.size + 1) 27 _ (0, 0) _ rfl (by (repeat (first | assumption | (with_reducible refine alloc_at ?_; (focus (first | omega | (simp; done) | (simp; omega)))) | (with_reducible refine boxed_at ?_; (focus (first | omega | (simp; done) | (simp; omega)))) | (with_reducible refine alloc_old ?_ ?_; (focus (first | omega | (simp; done) | (simp; omega)))) | (with_reducible refine boxed_old ?_ ?_; (focus (first | omega | (simp; done) | (simp; omega)))) | (with_reducible refine drew_old ?_)))) Try.underlying27 rfl (by exact info16)) rfl ⟨rfl, by (repeat (first | assumption | (with_reducible exact Below.refl _ _) | (with_reducible refine boxed_below ?_ ?_; rotate_left; (focus (first | omega | (simp; done) | (simp; omega)))) | (with_reducible refine Below.alloc ?_ ?_ _; rotate_left; (focus (first | omega | (simp; done) | (simp; omega)))) | (with_reducible refine Below.drew ?_)))⟩

set_option maxHeartbeats 4000000 in
theorem onear_1 (k s p n a u e t : Int) (g l : Bool) (K S C T M V : Int) (w : World) (wk : 0 ≤ k ∧ k < 256) (wu : 0 ≤ u ∧ u < 256) (h : k % 10 = 1) :
    Calls Try.prog 11 #[.agg #[.int .u8 k, .int .i64 s, .int .i64 p, .int .i64 n, .int .i64 a, .int .u8 u, .int .i64 e, .int .i64 t, .bool g, .bool l, .int .u8 K, .int .i64 S, .int .i64 C, .int .i64 T, .int .i64 M, .int .u8 V]] w fun x w' => x = .returned (Ov.near ⟨k, s, p, n, ⟨a, u, e, t, g, l⟩, ⟨K, S, C, T, M, V⟩⟩).val ∧ Below w.heap.size w w' := by
  rw [show Ov.near ⟨k, s, p, n, ⟨a, u, e, t, g, l⟩, ⟨K, S, C, T, M, V⟩⟩ = ⟨2, s % 32, p % 8, 0, Pv.zero, Nv.zero⟩ by unfold Ov.near; dsimp only; rw [h]; rfl]
  dsimp only [Ov.val, Pn.nearO, Nv.zero, Pv.zero]
  obtain ⟨wk0, wk1⟩ := wk
  obtain ⟨wu0, wu1⟩ := wu
  have es : wrap64 ((IntKind.u64.wrap s).tmod 32) = s % 32 := by rw [u64t]; unfold wrap64; omega
  have ep : wrap64 ((IntKind.u64.wrap p).tmod 8) = p % 8 := by rw [u64t]; unfold wrap64; omega
  have en : wrap64 (1 + wrap64 ((IntKind.u64.wrap n).tmod 60)) = 1 + n % 18446744073709551616 % 60 := by rw [u64t]; unfold wrap64; omega
  have ea : wrap64 ((IntKind.u64.wrap a).tmod 1073741824) = a % 1073741824 := by rw [u64t]; unfold wrap64; omega
  have ee : wrap64 (1 + wrap64 ((IntKind.u64.wrap e).tmod 1000)) = 1 + e % 18446744073709551616 % 1000 := by rw [u64t]; unfold wrap64; omega
  have et : wrap64 ((IntKind.u64.wrap t).tmod 1000) = t % 18446744073709551616 % 1000 := by rw [u64t]; unfold wrap64; omega
  go_enter Try.func11, Try.ntmps11
  go_wp2_with (first | (with_reducible_and_instances (show wpList _ _ _ (Oper.mk _ (Op.load 27 _) _ _ _ _ :: _) _ _); refine wl_load Try.underlying27 rfl info16 rfl rfl rfl (by (repeat (first | assumption | (with_reducible refine alloc_at ?_; (focus (first | omega | (simp; done) | (simp; omega)))) | (with_reducible refine boxed_at ?_; (focus (first | omega | (simp; done) | (simp; omega)))) | (with_reducible refine alloc_old ?_ ?_; (focus (first | omega | (simp; done) | (simp; omega)))) | (with_reducible refine boxed_old ?_ ?_; (focus (first | omega | (simp; done) | (simp; omega)))) | (with_reducible refine drew_old ?_)))) (by rfl) ?_) | (with_reducible_and_instances (show wpList _ _ _ (Oper.mk _ (Op.store 27 _ _) _ _ _ _ :: _) _ _); refine wl_store info16 rfl rfl rfl rfl (by (repeat (first | assumption | (with_reducible refine alloc_at ?_; (focus (first | omega | (simp; done) | (simp; omega)))) | (with_reducible refine boxed_at ?_; (focus (first | omega | (simp; done) | (simp; omega)))) | (with_reducible refine alloc_old ?_ ?_; (focus (first | omega | (simp; done) | (simp; omega)))) | (with_reducible refine boxed_old ?_ ?_; (focus (first | omega | (simp; done) | (simp; omega)))) | (with_reducible refine drew_old ?_)))) (by rfl) (by rfl) (by simp [Value.oneCell']) ?_))
  refine bodyPost_ret (results_cell_row rfl _ _ (w.heap.size + 1) 27 _ (0, 0) _ rfl (by (repeat (first | assumption | (with_reducible refine alloc_at ?_; (focus (first | omega | (simp; done) | (simp; omega)))) | (with_reducible refine boxed_at ?_; (focus (first | omega | (simp; done) | (simp; omega)))) | (with_reducible refine alloc_old ?_ ?_; (focus (first | omega | (simp; done) | (simp; omega)))) | (with_reducible refine boxed_old ?_ ?_; (focus (first | omega | (simp; done) | (simp; omega)))) | (with_reducible refine drew_old ?_)))) Try.underlying27 rfl (by exact info16)) rfl ⟨rfl, by (repeat (first | assumption | (with_reducible exact Below.refl _ _) | (with_reducible refine boxed_below ?_ ?_; rotate_left; (focus (first | omega | (simp; done) | (simp; omega)))) | (with_reducible refine Below.alloc ?_ ?_ _; rotate_left; (focus (first | omega | (simp; done) | (simp; omega)))) | (with_reducible refine Below.drew ?_)))⟩

set_option maxHeartbeats 4000000 in
theorem onear_2 (k s p n a u e t : Int) (g l : Bool) (K S C T M V : Int) (w : World) (wk : 0 ≤ k ∧ k < 256) (wu : 0 ≤ u ∧ u < 256) (h : k % 10 = 2) :
    Calls Try.prog 11 #[.agg #[.int .u8 k, .int .i64 s, .int .i64 p, .int .i64 n, .int .i64 a, .int .u8 u, .int .i64 e, .int .i64 t, .bool g, .bool l, .int .u8 K, .int .i64 S, .int .i64 C, .int .i64 T, .int .i64 M, .int .u8 V]] w fun x w' => x = .returned (Ov.near ⟨k, s, p, n, ⟨a, u, e, t, g, l⟩, ⟨K, S, C, T, M, V⟩⟩).val ∧ Below w.heap.size w w' := by
  rw [show Ov.near ⟨k, s, p, n, ⟨a, u, e, t, g, l⟩, ⟨K, S, C, T, M, V⟩⟩ = ⟨3, s % 32, p % 8, 0, Pv.zero, Nv.zero⟩ by unfold Ov.near; dsimp only; rw [h]; rfl]
  dsimp only [Ov.val, Pn.nearO, Nv.zero, Pv.zero]
  obtain ⟨wk0, wk1⟩ := wk
  obtain ⟨wu0, wu1⟩ := wu
  have es : wrap64 ((IntKind.u64.wrap s).tmod 32) = s % 32 := by rw [u64t]; unfold wrap64; omega
  have ep : wrap64 ((IntKind.u64.wrap p).tmod 8) = p % 8 := by rw [u64t]; unfold wrap64; omega
  have en : wrap64 (1 + wrap64 ((IntKind.u64.wrap n).tmod 60)) = 1 + n % 18446744073709551616 % 60 := by rw [u64t]; unfold wrap64; omega
  have ea : wrap64 ((IntKind.u64.wrap a).tmod 1073741824) = a % 1073741824 := by rw [u64t]; unfold wrap64; omega
  have ee : wrap64 (1 + wrap64 ((IntKind.u64.wrap e).tmod 1000)) = 1 + e % 18446744073709551616 % 1000 := by rw [u64t]; unfold wrap64; omega
  have et : wrap64 ((IntKind.u64.wrap t).tmod 1000) = t % 18446744073709551616 % 1000 := by rw [u64t]; unfold wrap64; omega
  go_enter Try.func11, Try.ntmps11
  go_wp2_with (first | (with_reducible_and_instances (show wpList _ _ _ (Oper.mk _ (Op.load 27 _) _ _ _ _ :: _) _ _); refine wl_load Try.underlying27 rfl info16 rfl rfl rfl (by (repeat (first | assumption | (with_reducible refine alloc_at ?_; (focus (first | omega | (simp; done) | (simp; omega)))) | (with_reducible refine boxed_at ?_; (focus (first | omega | (simp; done) | (simp; omega)))) | (with_reducible refine alloc_old ?_ ?_; (focus (first | omega | (simp; done) | (simp; omega)))) | (with_reducible refine boxed_old ?_ ?_; (focus (first | omega | (simp; done) | (simp; omega)))) | (with_reducible refine drew_old ?_)))) (by rfl) ?_) | (with_reducible_and_instances (show wpList _ _ _ (Oper.mk _ (Op.store 27 _ _) _ _ _ _ :: _) _ _); refine wl_store info16 rfl rfl rfl rfl (by (repeat (first | assumption | (with_reducible refine alloc_at ?_; (focus (first | omega | (simp; done) | (simp; omega)))) | (with_reducible refine boxed_at ?_; (focus (first | omega | (simp; done) | (simp; omega)))) | (with_reducible refine alloc_old ?_ ?_; (focus (first | omega | (simp; done) | (simp; omega)))) | (with_reducible refine boxed_old ?_ ?_; (focus (first | omega | (simp; done) | (simp; omega)))) | (with_reducible refine drew_old ?_)))) (by rfl) (by rfl) (by simp [Value.oneCell']) ?_))
  refine bodyPost_ret (results_cell_row rfl _ _ (w.heap.size + 1) 27 _ (0, 0) _ rfl (by (repeat (first | assumption | (with_reducible refine alloc_at ?_; (focus (first | omega | (simp; done) | (simp; omega)))) | (with_reducible refine boxed_at ?_; (focus (first | omega | (simp; done) | (simp; omega)))) | (with_reducible refine alloc_old ?_ ?_; (focus (first | omega | (simp; done) | (simp; omega)))) | (with_reducible refine boxed_old ?_ ?_; (focus (first | omega | (simp; done) | (simp; omega)))) | (with_reducible refine drew_old ?_)))) Try.underlying27 rfl (by exact info16)) rfl ⟨rfl, by (repeat (first | assumption | (with_reducible exact Below.refl _ _) | (with_reducible refine boxed_below ?_ ?_; rotate_left; (focus (first | omega | (simp; done) | (simp; omega)))) | (with_reducible refine Below.alloc ?_ ?_ _; rotate_left; (focus (first | omega | (simp; done) | (simp; omega)))) | (with_reducible refine Below.drew ?_)))⟩

set_option maxHeartbeats 4000000 in
theorem onear_3 (k s p n a u e t : Int) (g l : Bool) (K S C T M V : Int) (w : World) (wk : 0 ≤ k ∧ k < 256) (wu : 0 ≤ u ∧ u < 256) (h : k % 10 = 3) :
    Calls Try.prog 11 #[.agg #[.int .u8 k, .int .i64 s, .int .i64 p, .int .i64 n, .int .i64 a, .int .u8 u, .int .i64 e, .int .i64 t, .bool g, .bool l, .int .u8 K, .int .i64 S, .int .i64 C, .int .i64 T, .int .i64 M, .int .u8 V]] w fun x w' => x = .returned (Ov.near ⟨k, s, p, n, ⟨a, u, e, t, g, l⟩, ⟨K, S, C, T, M, V⟩⟩).val ∧ Below w.heap.size w w' := by
  rw [show Ov.near ⟨k, s, p, n, ⟨a, u, e, t, g, l⟩, ⟨K, S, C, T, M, V⟩⟩ = ⟨4, s % 32, 0, 0, Pv.zero, Nv.zero⟩ by unfold Ov.near; dsimp only; rw [h]; rfl]
  dsimp only [Ov.val, Pn.nearO, Nv.zero, Pv.zero]
  obtain ⟨wk0, wk1⟩ := wk
  obtain ⟨wu0, wu1⟩ := wu
  have es : wrap64 ((IntKind.u64.wrap s).tmod 32) = s % 32 := by rw [u64t]; unfold wrap64; omega
  have ep : wrap64 ((IntKind.u64.wrap p).tmod 8) = p % 8 := by rw [u64t]; unfold wrap64; omega
  have en : wrap64 (1 + wrap64 ((IntKind.u64.wrap n).tmod 60)) = 1 + n % 18446744073709551616 % 60 := by rw [u64t]; unfold wrap64; omega
  have ea : wrap64 ((IntKind.u64.wrap a).tmod 1073741824) = a % 1073741824 := by rw [u64t]; unfold wrap64; omega
  have ee : wrap64 (1 + wrap64 ((IntKind.u64.wrap e).tmod 1000)) = 1 + e % 18446744073709551616 % 1000 := by rw [u64t]; unfold wrap64; omega
  have et : wrap64 ((IntKind.u64.wrap t).tmod 1000) = t % 18446744073709551616 % 1000 := by rw [u64t]; unfold wrap64; omega
  go_enter Try.func11, Try.ntmps11
  go_wp2_with (first | (with_reducible_and_instances (show wpList _ _ _ (Oper.mk _ (Op.load 27 _) _ _ _ _ :: _) _ _); refine wl_load Try.underlying27 rfl info16 rfl rfl rfl (by (repeat (first | assumption | (with_reducible refine alloc_at ?_; (focus (first | omega | (simp; done) | (simp; omega)))) | (with_reducible refine boxed_at ?_; (focus (first | omega | (simp; done) | (simp; omega)))) | (with_reducible refine alloc_old ?_ ?_; (focus (first | omega | (simp; done) | (simp; omega)))) | (with_reducible refine boxed_old ?_ ?_; (focus (first | omega | (simp; done) | (simp; omega)))) | (with_reducible refine drew_old ?_)))) (by rfl) ?_) | (with_reducible_and_instances (show wpList _ _ _ (Oper.mk _ (Op.store 27 _ _) _ _ _ _ :: _) _ _); refine wl_store info16 rfl rfl rfl rfl (by (repeat (first | assumption | (with_reducible refine alloc_at ?_; (focus (first | omega | (simp; done) | (simp; omega)))) | (with_reducible refine boxed_at ?_; (focus (first | omega | (simp; done) | (simp; omega)))) | (with_reducible refine alloc_old ?_ ?_; (focus (first | omega | (simp; done) | (simp; omega)))) | (with_reducible refine boxed_old ?_ ?_; (focus (first | omega | (simp; done) | (simp; omega)))) | (with_reducible refine drew_old ?_)))) (by rfl) (by rfl) (by simp [Value.oneCell']) ?_))
  refine bodyPost_ret (results_cell_row rfl _ _ (w.heap.size + 1) 27 _ (0, 0) _ rfl (by (repeat (first | assumption | (with_reducible refine alloc_at ?_; (focus (first | omega | (simp; done) | (simp; omega)))) | (with_reducible refine boxed_at ?_; (focus (first | omega | (simp; done) | (simp; omega)))) | (with_reducible refine alloc_old ?_ ?_; (focus (first | omega | (simp; done) | (simp; omega)))) | (with_reducible refine boxed_old ?_ ?_; (focus (first | omega | (simp; done) | (simp; omega)))) | (with_reducible refine drew_old ?_)))) Try.underlying27 rfl (by exact info16)) rfl ⟨rfl, by (repeat (first | assumption | (with_reducible exact Below.refl _ _) | (with_reducible refine boxed_below ?_ ?_; rotate_left; (focus (first | omega | (simp; done) | (simp; omega)))) | (with_reducible refine Below.alloc ?_ ?_ _; rotate_left; (focus (first | omega | (simp; done) | (simp; omega)))) | (with_reducible refine Below.drew ?_)))⟩

set_option maxHeartbeats 4000000 in
theorem onear_4 (k s p n a u e t : Int) (g l : Bool) (K S C T M V : Int) (w : World) (wk : 0 ≤ k ∧ k < 256) (wu : 0 ≤ u ∧ u < 256) (h : k % 10 = 4) :
    Calls Try.prog 11 #[.agg #[.int .u8 k, .int .i64 s, .int .i64 p, .int .i64 n, .int .i64 a, .int .u8 u, .int .i64 e, .int .i64 t, .bool g, .bool l, .int .u8 K, .int .i64 S, .int .i64 C, .int .i64 T, .int .i64 M, .int .u8 V]] w fun x w' => x = .returned (Ov.near ⟨k, s, p, n, ⟨a, u, e, t, g, l⟩, ⟨K, S, C, T, M, V⟩⟩).val ∧ Below w.heap.size w w' := by
  rw [show Ov.near ⟨k, s, p, n, ⟨a, u, e, t, g, l⟩, ⟨K, S, C, T, M, V⟩⟩ = ⟨5, s % 32, 0, 0, Pv.zero, Nv.zero⟩ by unfold Ov.near; dsimp only; rw [h]; rfl]
  dsimp only [Ov.val, Pn.nearO, Nv.zero, Pv.zero]
  obtain ⟨wk0, wk1⟩ := wk
  obtain ⟨wu0, wu1⟩ := wu
  have es : wrap64 ((IntKind.u64.wrap s).tmod 32) = s % 32 := by rw [u64t]; unfold wrap64; omega
  have ep : wrap64 ((IntKind.u64.wrap p).tmod 8) = p % 8 := by rw [u64t]; unfold wrap64; omega
  have en : wrap64 (1 + wrap64 ((IntKind.u64.wrap n).tmod 60)) = 1 + n % 18446744073709551616 % 60 := by rw [u64t]; unfold wrap64; omega
  have ea : wrap64 ((IntKind.u64.wrap a).tmod 1073741824) = a % 1073741824 := by rw [u64t]; unfold wrap64; omega
  have ee : wrap64 (1 + wrap64 ((IntKind.u64.wrap e).tmod 1000)) = 1 + e % 18446744073709551616 % 1000 := by rw [u64t]; unfold wrap64; omega
  have et : wrap64 ((IntKind.u64.wrap t).tmod 1000) = t % 18446744073709551616 % 1000 := by rw [u64t]; unfold wrap64; omega
  go_enter Try.func11, Try.ntmps11
  go_wp2_with (first | (with_reducible_and_instances (show wpList _ _ _ (Oper.mk _ (Op.load 27 _) _ _ _ _ :: _) _ _); refine wl_load Try.underlying27 rfl info16 rfl rfl rfl (by (repeat (first | assumption | (with_reducible refine alloc_at ?_; (focus (first | omega | (simp; done) | (simp; omega)))) | (with_reducible refine boxed_at ?_; (focus (first | omega | (simp; done) | (simp; omega)))) | (with_reducible refine alloc_old ?_ ?_; (focus (first | omega | (simp; done) | (simp; omega)))) | (with_reducible refine boxed_old ?_ ?_; (focus (first | omega | (simp; done) | (simp; omega)))) | (with_reducible refine drew_old ?_)))) (by rfl) ?_) | (with_reducible_and_instances (show wpList _ _ _ (Oper.mk _ (Op.store 27 _ _) _ _ _ _ :: _) _ _); refine wl_store info16 rfl rfl rfl rfl (by (repeat (first | assumption | (with_reducible refine alloc_at ?_; (focus (first | omega | (simp; done) | (simp; omega)))) | (with_reducible refine boxed_at ?_; (focus (first | omega | (simp; done) | (simp; omega)))) | (with_reducible refine alloc_old ?_ ?_; (focus (first | omega | (simp; done) | (simp; omega)))) | (with_reducible refine boxed_old ?_ ?_; (focus (first | omega | (simp; done) | (simp; omega)))) | (with_reducible refine drew_old ?_)))) (by rfl) (by rfl) (by simp [Value.oneCell']) ?_))
  refine bodyPost_ret (results_cell_row rfl _ _ (w.heap.size + 1) 27 _ (0, 0) _ rfl (by (repeat (first | assumption | (with_reducible refine alloc_at ?_; (focus (first | omega | (simp; done) | (simp; omega)))) | (with_reducible refine boxed_at ?_; (focus (first | omega | (simp; done) | (simp; omega)))) | (with_reducible refine alloc_old ?_ ?_; (focus (first | omega | (simp; done) | (simp; omega)))) | (with_reducible refine boxed_old ?_ ?_; (focus (first | omega | (simp; done) | (simp; omega)))) | (with_reducible refine drew_old ?_)))) Try.underlying27 rfl (by exact info16)) rfl ⟨rfl, by (repeat (first | assumption | (with_reducible exact Below.refl _ _) | (with_reducible refine boxed_below ?_ ?_; rotate_left; (focus (first | omega | (simp; done) | (simp; omega)))) | (with_reducible refine Below.alloc ?_ ?_ _; rotate_left; (focus (first | omega | (simp; done) | (simp; omega)))) | (with_reducible refine Below.drew ?_)))⟩

set_option maxHeartbeats 4000000 in
theorem onear_5 (k s p n a u e t : Int) (g l : Bool) (K S C T M V : Int) (w : World) (wk : 0 ≤ k ∧ k < 256) (wu : 0 ≤ u ∧ u < 256) (h : k % 10 = 5) :
    Calls Try.prog 11 #[.agg #[.int .u8 k, .int .i64 s, .int .i64 p, .int .i64 n, .int .i64 a, .int .u8 u, .int .i64 e, .int .i64 t, .bool g, .bool l, .int .u8 K, .int .i64 S, .int .i64 C, .int .i64 T, .int .i64 M, .int .u8 V]] w fun x w' => x = .returned (Ov.near ⟨k, s, p, n, ⟨a, u, e, t, g, l⟩, ⟨K, S, C, T, M, V⟩⟩).val ∧ Below w.heap.size w w' := by
  rw [show Ov.near ⟨k, s, p, n, ⟨a, u, e, t, g, l⟩, ⟨K, S, C, T, M, V⟩⟩ = ⟨6, s % 32, 0, 0, Pv.zero, Nv.zero⟩ by unfold Ov.near; dsimp only; rw [h]; rfl]
  dsimp only [Ov.val, Pn.nearO, Nv.zero, Pv.zero]
  obtain ⟨wk0, wk1⟩ := wk
  obtain ⟨wu0, wu1⟩ := wu
  have es : wrap64 ((IntKind.u64.wrap s).tmod 32) = s % 32 := by rw [u64t]; unfold wrap64; omega
  have ep : wrap64 ((IntKind.u64.wrap p).tmod 8) = p % 8 := by rw [u64t]; unfold wrap64; omega
  have en : wrap64 (1 + wrap64 ((IntKind.u64.wrap n).tmod 60)) = 1 + n % 18446744073709551616 % 60 := by rw [u64t]; unfold wrap64; omega
  have ea : wrap64 ((IntKind.u64.wrap a).tmod 1073741824) = a % 1073741824 := by rw [u64t]; unfold wrap64; omega
  have ee : wrap64 (1 + wrap64 ((IntKind.u64.wrap e).tmod 1000)) = 1 + e % 18446744073709551616 % 1000 := by rw [u64t]; unfold wrap64; omega
  have et : wrap64 ((IntKind.u64.wrap t).tmod 1000) = t % 18446744073709551616 % 1000 := by rw [u64t]; unfold wrap64; omega
  go_enter Try.func11, Try.ntmps11
  go_wp2_with (first | (with_reducible_and_instances (show wpList _ _ _ (Oper.mk _ (Op.load 27 _) _ _ _ _ :: _) _ _); refine wl_load Try.underlying27 rfl info16 rfl rfl rfl (by (repeat (first | assumption | (with_reducible refine alloc_at ?_; (focus (first | omega | (simp; done) | (simp; omega)))) | (with_reducible refine boxed_at ?_; (focus (first | omega | (simp; done) | (simp; omega)))) | (with_reducible refine alloc_old ?_ ?_; (focus (first | omega | (simp; done) | (simp; omega)))) | (with_reducible refine boxed_old ?_ ?_; (focus (first | omega | (simp; done) | (simp; omega)))) | (with_reducible refine drew_old ?_)))) (by rfl) ?_) | (with_reducible_and_instances (show wpList _ _ _ (Oper.mk _ (Op.store 27 _ _) _ _ _ _ :: _) _ _); refine wl_store info16 rfl rfl rfl rfl (by (repeat (first | assumption | (with_reducible refine alloc_at ?_; (focus (first | omega | (simp; done) | (simp; omega)))) | (with_reducible refine boxed_at ?_; (focus (first | omega | (simp; done) | (simp; omega)))) | (with_reducible refine alloc_old ?_ ?_; (focus (first | omega | (simp; done) | (simp; omega)))) | (with_reducible refine boxed_old ?_ ?_; (focus (first | omega | (simp; done) | (simp; omega)))) | (with_reducible refine drew_old ?_)))) (by rfl) (by rfl) (by simp [Value.oneCell']) ?_))
  refine bodyPost_ret (results_cell_row rfl _ _ (w.heap.size + 1) 27 _ (0, 0) _ rfl (by (repeat (first | assumption | (with_reducible refine alloc_at ?_; (focus (first | omega | (simp; done) | (simp; omega)))) | (with_reducible refine boxed_at ?_; (focus (first | omega | (simp; done) | (simp; omega)))) | (with_reducible refine alloc_old ?_ ?_; (focus (first | omega | (simp; done) | (simp; omega)))) | (with_reducible refine boxed_old ?_ ?_; (focus (first | omega | (simp; done) | (simp; omega)))) | (with_reducible refine drew_old ?_)))) Try.underlying27 rfl (by exact info16)) rfl ⟨rfl, by (repeat (first | assumption | (with_reducible exact Below.refl _ _) | (with_reducible refine boxed_below ?_ ?_; rotate_left; (focus (first | omega | (simp; done) | (simp; omega)))) | (with_reducible refine Below.alloc ?_ ?_ _; rotate_left; (focus (first | omega | (simp; done) | (simp; omega)))) | (with_reducible refine Below.drew ?_)))⟩

set_option maxHeartbeats 4000000 in
theorem onear_6 (k s p n a u e t : Int) (g l : Bool) (K S C T M V : Int) (w : World) (wk : 0 ≤ k ∧ k < 256) (wu : 0 ≤ u ∧ u < 256) (h : k % 10 = 6) :
    Calls Try.prog 11 #[.agg #[.int .u8 k, .int .i64 s, .int .i64 p, .int .i64 n, .int .i64 a, .int .u8 u, .int .i64 e, .int .i64 t, .bool g, .bool l, .int .u8 K, .int .i64 S, .int .i64 C, .int .i64 T, .int .i64 M, .int .u8 V]] w fun x w' => x = .returned (Ov.near ⟨k, s, p, n, ⟨a, u, e, t, g, l⟩, ⟨K, S, C, T, M, V⟩⟩).val ∧ Below w.heap.size w w' := by
  rw [show Ov.near ⟨k, s, p, n, ⟨a, u, e, t, g, l⟩, ⟨K, S, C, T, M, V⟩⟩ = ⟨7, s % 32, 0, 0, Pv.zero, Nv.zero⟩ by unfold Ov.near; dsimp only; rw [h]; rfl]
  dsimp only [Ov.val, Pn.nearO, Nv.zero, Pv.zero]
  obtain ⟨wk0, wk1⟩ := wk
  obtain ⟨wu0, wu1⟩ := wu
  have es : wrap64 ((IntKind.u64.wrap s).tmod 32) = s % 32 := by rw [u64t]; unfold wrap64; omega
  have ep : wrap64 ((IntKind.u64.wrap p).tmod 8) = p % 8 := by rw [u64t]; unfold wrap64; omega
  have en : wrap64 (1 + wrap64 ((IntKind.u64.wrap n).tmod 60)) = 1 + n % 18446744073709551616 % 60 := by rw [u64t]; unfold wrap64; omega
  have ea : wrap64 ((IntKind.u64.wrap a).tmod 1073741824) = a % 1073741824 := by rw [u64t]; unfold wrap64; omega
  have ee : wrap64 (1 + wrap64 ((IntKind.u64.wrap e).tmod 1000)) = 1 + e % 18446744073709551616 % 1000 := by rw [u64t]; unfold wrap64; omega
  have et : wrap64 ((IntKind.u64.wrap t).tmod 1000) = t % 18446744073709551616 % 1000 := by rw [u64t]; unfold wrap64; omega
  go_enter Try.func11, Try.ntmps11
  go_wp2_with (first | (with_reducible_and_instances (show wpList _ _ _ (Oper.mk _ (Op.load 27 _) _ _ _ _ :: _) _ _); refine wl_load Try.underlying27 rfl info16 rfl rfl rfl (by (repeat (first | assumption | (with_reducible refine alloc_at ?_; (focus (first | omega | (simp; done) | (simp; omega)))) | (with_reducible refine boxed_at ?_; (focus (first | omega | (simp; done) | (simp; omega)))) | (with_reducible refine alloc_old ?_ ?_; (focus (first | omega | (simp; done) | (simp; omega)))) | (with_reducible refine boxed_old ?_ ?_; (focus (first | omega | (simp; done) | (simp; omega)))) | (with_reducible refine drew_old ?_)))) (by rfl) ?_) | (with_reducible_and_instances (show wpList _ _ _ (Oper.mk _ (Op.store 27 _ _) _ _ _ _ :: _) _ _); refine wl_store info16 rfl rfl rfl rfl (by (repeat (first | assumption | (with_reducible refine alloc_at ?_; (focus (first | omega | (simp; done) | (simp; omega)))) | (with_reducible refine boxed_at ?_; (focus (first | omega | (simp; done) | (simp; omega)))) | (with_reducible refine alloc_old ?_ ?_; (focus (first | omega | (simp; done) | (simp; omega)))) | (with_reducible refine boxed_old ?_ ?_; (focus (first | omega | (simp; done) | (simp; omega)))) | (with_reducible refine drew_old ?_)))) (by rfl) (by rfl) (by simp [Value.oneCell']) ?_))
  refine bodyPost_ret (results_cell_row rfl _ _ (w.heap.size + 1) 27 _ (0, 0) _ rfl (by (repeat (first | assumption | (with_reducible refine alloc_at ?_; (focus (first | omega | (simp; done) | (simp; omega)))) | (with_reducible refine boxed_at ?_; (focus (first | omega | (simp; done) | (simp; omega)))) | (with_reducible refine alloc_old ?_ ?_; (focus (first | omega | (simp; done) | (simp; omega)))) | (with_reducible refine boxed_old ?_ ?_; (focus (first | omega | (simp; done) | (simp; omega)))) | (with_reducible refine drew_old ?_)))) Try.underlying27 rfl (by exact info16)) rfl ⟨rfl, by (repeat (first | assumption | (with_reducible exact Below.refl _ _) | (with_reducible refine boxed_below ?_ ?_; rotate_left; (focus (first | omega | (simp; done) | (simp; omega)))) | (with_reducible refine Below.alloc ?_ ?_ _; rotate_left; (focus (first | omega | (simp; done) | (simp; omega)))) | (with_reducible refine Below.drew ?_)))⟩

set_option maxHeartbeats 4000000 in
theorem onear_7 (k s p n a u e t : Int) (g l : Bool) (K S C T M V : Int) (w : World) (wk : 0 ≤ k ∧ k < 256) (wu : 0 ≤ u ∧ u < 256) (h : k % 10 = 7) :
    Calls Try.prog 11 #[.agg #[.int .u8 k, .int .i64 s, .int .i64 p, .int .i64 n, .int .i64 a, .int .u8 u, .int .i64 e, .int .i64 t, .bool g, .bool l, .int .u8 K, .int .i64 S, .int .i64 C, .int .i64 T, .int .i64 M, .int .u8 V]] w fun x w' => x = .returned (Ov.near ⟨k, s, p, n, ⟨a, u, e, t, g, l⟩, ⟨K, S, C, T, M, V⟩⟩).val ∧ Below w.heap.size w w' := by
  rw [show Ov.near ⟨k, s, p, n, ⟨a, u, e, t, g, l⟩, ⟨K, S, C, T, M, V⟩⟩ = ⟨8, s % 32, 0, 0, Pv.zero, Nv.zero⟩ by unfold Ov.near; dsimp only; rw [h]; rfl]
  dsimp only [Ov.val, Pn.nearO, Nv.zero, Pv.zero]
  obtain ⟨wk0, wk1⟩ := wk
  obtain ⟨wu0, wu1⟩ := wu
  have es : wrap64 ((IntKind.u64.wrap s).tmod 32) = s % 32 := by rw [u64t]; unfold wrap64; omega
  have ep : wrap64 ((IntKind.u64.wrap p).tmod 8) = p % 8 := by rw [u64t]; unfold wrap64; omega
  have en : wrap64 (1 + wrap64 ((IntKind.u64.wrap n).tmod 60)) = 1 + n % 18446744073709551616 % 60 := by rw [u64t]; unfold wrap64; omega
  have ea : wrap64 ((IntKind.u64.wrap a).tmod 1073741824) = a % 1073741824 := by rw [u64t]; unfold wrap64; omega
  have ee : wrap64 (1 + wrap64 ((IntKind.u64.wrap e).tmod 1000)) = 1 + e % 18446744073709551616 % 1000 := by rw [u64t]; unfold wrap64; omega
  have et : wrap64 ((IntKind.u64.wrap t).tmod 1000) = t % 18446744073709551616 % 1000 := by rw [u64t]; unfold wrap64; omega
  go_enter Try.func11, Try.ntmps11
  go_wp2_with (first | (with_reducible_and_instances (show wpList _ _ _ (Oper.mk _ (Op.load 27 _) _ _ _ _ :: _) _ _); refine wl_load Try.underlying27 rfl info16 rfl rfl rfl (by (repeat (first | assumption | (with_reducible refine alloc_at ?_; (focus (first | omega | (simp; done) | (simp; omega)))) | (with_reducible refine boxed_at ?_; (focus (first | omega | (simp; done) | (simp; omega)))) | (with_reducible refine alloc_old ?_ ?_; (focus (first | omega | (simp; done) | (simp; omega)))) | (with_reducible refine boxed_old ?_ ?_; (focus (first | omega | (simp; done) | (simp; omega)))) | (with_reducible refine drew_old ?_)))) (by rfl) ?_) | (with_reducible_and_instances (show wpList _ _ _ (Oper.mk _ (Op.store 27 _ _) _ _ _ _ :: _) _ _); refine wl_store info16 rfl rfl rfl rfl (by (repeat (first | assumption | (with_reducible refine alloc_at ?_; (focus (first | omega | (simp; done) | (simp; omega)))) | (with_reducible refine boxed_at ?_; (focus (first | omega | (simp; done) | (simp; omega)))) | (with_reducible refine alloc_old ?_ ?_; (focus (first | omega | (simp; done) | (simp; omega)))) | (with_reducible refine boxed_old ?_ ?_; (focus (first | omega | (simp; done) | (simp; omega)))) | (with_reducible refine drew_old ?_)))) (by rfl) (by rfl) (by simp [Value.oneCell']) ?_))
  refine bodyPost_ret (results_cell_row rfl _ _ (w.heap.size + 1) 27 _ (0, 0) _ rfl (by (repeat (first | assumption | (with_reducible refine alloc_at ?_; (focus (first | omega | (simp; done) | (simp; omega)))) | (with_reducible refine boxed_at ?_; (focus (first | omega | (simp; done) | (simp; omega)))) | (with_reducible refine alloc_old ?_ ?_; (focus (first | omega | (simp; done) | (simp; omega)))) | (with_reducible refine boxed_old ?_ ?_; (focus (first | omega | (simp; done) | (simp; omega)))) | (with_reducible refine drew_old ?_)))) Try.underlying27 rfl (by exact info16)) rfl ⟨rfl, by (repeat (first | assumption | (with_reducible exact Below.refl _ _) | (with_reducible refine boxed_below ?_ ?_; rotate_left; (focus (first | omega | (simp; done) | (simp; omega)))) | (with_reducible refine Below.alloc ?_ ?_ _; rotate_left; (focus (first | omega | (simp; done) | (simp; omega)))) | (with_reducible refine Below.drew ?_)))⟩

set_option maxHeartbeats 4000000 in
theorem onear_8 (k s p n a u e t : Int) (g l : Bool) (K S C T M V : Int) (w : World) (wk : 0 ≤ k ∧ k < 256) (wu : 0 ≤ u ∧ u < 256) (h : k % 10 = 8) :
    Calls Try.prog 11 #[.agg #[.int .u8 k, .int .i64 s, .int .i64 p, .int .i64 n, .int .i64 a, .int .u8 u, .int .i64 e, .int .i64 t, .bool g, .bool l, .int .u8 K, .int .i64 S, .int .i64 C, .int .i64 T, .int .i64 M, .int .u8 V]] w fun x w' => x = .returned (Ov.near ⟨k, s, p, n, ⟨a, u, e, t, g, l⟩, ⟨K, S, C, T, M, V⟩⟩).val ∧ Below w.heap.size w w' := by
  rw [show Ov.near ⟨k, s, p, n, ⟨a, u, e, t, g, l⟩, ⟨K, S, C, T, M, V⟩⟩ = ⟨9, 0, 0, 1 + n % 18446744073709551616 % 60, Pv.zero, Nv.zero⟩ by unfold Ov.near; dsimp only; rw [h]; rfl]
  dsimp only [Ov.val, Pn.nearO, Nv.zero, Pv.zero]
  obtain ⟨wk0, wk1⟩ := wk
  obtain ⟨wu0, wu1⟩ := wu
  have es : wrap64 ((IntKind.u64.wrap s).tmod 32) = s % 32 := by rw [u64t]; unfold wrap64; omega
  have ep : wrap64 ((IntKind.u64.wrap p).tmod 8) = p % 8 := by rw [u64t]; unfold wrap64; omega
  have en : wrap64 (1 + wrap64 ((IntKind.u64.wrap n).tmod 60)) = 1 + n % 18446744073709551616 % 60 := by rw [u64t]; unfold wrap64; omega
  have ea : wrap64 ((IntKind.u64.wrap a).tmod 1073741824) = a % 1073741824 := by rw [u64t]; unfold wrap64; omega
  have ee : wrap64 (1 + wrap64 ((IntKind.u64.wrap e).tmod 1000)) = 1 + e % 18446744073709551616 % 1000 := by rw [u64t]; unfold wrap64; omega
  have et : wrap64 ((IntKind.u64.wrap t).tmod 1000) = t % 18446744073709551616 % 1000 := by rw [u64t]; unfold wrap64; omega
  go_enter Try.func11, Try.ntmps11
  go_wp2_with (first | (with_reducible_and_instances (show wpList _ _ _ (Oper.mk _ (Op.load 27 _) _ _ _ _ :: _) _ _); refine wl_load Try.underlying27 rfl info16 rfl rfl rfl (by (repeat (first | assumption | (with_reducible refine alloc_at ?_; (focus (first | omega | (simp; done) | (simp; omega)))) | (with_reducible refine boxed_at ?_; (focus (first | omega | (simp; done) | (simp; omega)))) | (with_reducible refine alloc_old ?_ ?_; (focus (first | omega | (simp; done) | (simp; omega)))) | (with_reducible refine boxed_old ?_ ?_; (focus (first | omega | (simp; done) | (simp; omega)))) | (with_reducible refine drew_old ?_)))) (by rfl) ?_) | (with_reducible_and_instances (show wpList _ _ _ (Oper.mk _ (Op.store 27 _ _) _ _ _ _ :: _) _ _); refine wl_store info16 rfl rfl rfl rfl (by (repeat (first | assumption | (with_reducible refine alloc_at ?_; (focus (first | omega | (simp; done) | (simp; omega)))) | (with_reducible refine boxed_at ?_; (focus (first | omega | (simp; done) | (simp; omega)))) | (with_reducible refine alloc_old ?_ ?_; (focus (first | omega | (simp; done) | (simp; omega)))) | (with_reducible refine boxed_old ?_ ?_; (focus (first | omega | (simp; done) | (simp; omega)))) | (with_reducible refine drew_old ?_)))) (by rfl) (by rfl) (by simp [Value.oneCell']) ?_))
  refine bodyPost_ret (results_cell_row rfl _ _ (w.heap.size + 1) 27 _ (0, 0) _ rfl (by (repeat (first | assumption | (with_reducible refine alloc_at ?_; (focus (first | omega | (simp; done) | (simp; omega)))) | (with_reducible refine boxed_at ?_; (focus (first | omega | (simp; done) | (simp; omega)))) | (with_reducible refine alloc_old ?_ ?_; (focus (first | omega | (simp; done) | (simp; omega)))) | (with_reducible refine boxed_old ?_ ?_; (focus (first | omega | (simp; done) | (simp; omega)))) | (with_reducible refine drew_old ?_)))) Try.underlying27 rfl (by exact info16)) rfl ⟨rfl, by (repeat (first | assumption | (with_reducible exact Below.refl _ _) | (with_reducible refine boxed_below ?_ ?_; rotate_left; (focus (first | omega | (simp; done) | (simp; omega)))) | (with_reducible refine Below.alloc ?_ ?_ _; rotate_left; (focus (first | omega | (simp; done) | (simp; omega)))) | (with_reducible refine Below.drew ?_)))⟩

set_option maxHeartbeats 4000000 in
theorem onear_9 (k s p n a u e t : Int) (g l : Bool) (K S C T M V : Int) (w : World) (wk : 0 ≤ k ∧ k < 256) (wu : 0 ≤ u ∧ u < 256) (wK : 0 ≤ K ∧ K < 256) (wV : 0 ≤ V ∧ V < 256) (h : k % 10 = 9) :
    Calls Try.prog 11 #[.agg #[.int .u8 k, .int .i64 s, .int .i64 p, .int .i64 n, .int .i64 a, .int .u8 u, .int .i64 e, .int .i64 t, .bool g, .bool l, .int .u8 K, .int .i64 S, .int .i64 C, .int .i64 T, .int .i64 M, .int .u8 V]] w fun x w' => x = .returned (Ov.near ⟨k, s, p, n, ⟨a, u, e, t, g, l⟩, ⟨K, S, C, T, M, V⟩⟩).val ∧ Below w.heap.size w w' := by
  rw [show Ov.near ⟨k, s, p, n, ⟨a, u, e, t, g, l⟩, ⟨K, S, C, T, M, V⟩⟩ = ⟨10, 0, 0, 0, Pv.zero, Nv.near ⟨K, S, C, T, M, V⟩⟩ by unfold Ov.near; dsimp only; rw [h]; rfl]
  obtain ⟨N, hN⟩ : ∃ N, Nv.near ⟨K, S, C, T, M, V⟩ = N := ⟨_, rfl⟩
  rw [hN]
  have HN := Lib.hid hN
  clear hN
  obtain ⟨K', S', C', T', M', V'⟩ := N
  dsimp only [Ov.val, Pn.nearO, Nv.zero, Pv.zero]
  obtain ⟨wk0, wk1⟩ := wk
  obtain ⟨wu0, wu1⟩ := wu
  have es : wrap64 ((IntKind.u64.wrap s).tmod 32) = s % 32 := by rw [u64t]; unfold wrap64; omega
  have ep : wrap64 ((IntKind.u64.wrap p).tmod 8) = p % 8 := by rw [u64t]; unfold wrap64; omega
  have en : wrap64 (1 + wrap64 ((IntKind.u64.wrap n).tmod 60)) = 1 + n % 18446744073709551616 % 60 := by rw [u64t]; unfold wrap64; omega
  have ea : wrap64 ((IntKind.u64.wrap a).tmod 1073741824) = a % 1073741824 := by rw [u64t]; unfold wrap64; omega
  have ee : wrap64 (1 + wrap64 ((IntKind.u64.wrap e).tmod 1000)) = 1 + e % 18446744073709551616 % 1000 := by rw [u64t]; unfold wrap64; omega
  have et : wrap64 ((IntKind.u64.wrap t).tmod 1000) = t % 18446744073709551616 % 1000 := by rw [u64t]; unfold wrap64; omega
  have WK := Lib.hid wK
  have WV := Lib.hid wV
  go_enter Try.func11, Try.ntmps11
  go_wp2_with (first | (with_reducible_and_instances (show wpList _ _ _ (Oper.mk _ (Op.load 27 _) _ _ _ _ :: _) _ _); refine wl_load Try.underlying27 rfl info16 rfl rfl rfl (by (repeat (first | assumption | (with_reducible refine alloc_at ?_; (focus (first | omega | (simp; done) | (simp; omega)))) | (with_reducible refine boxed_at ?_; (focus (first | omega | (simp; done) | (simp; omega)))) | (with_reducible refine alloc_old ?_ ?_; (focus (first | omega | (simp; done) | (simp; omega)))) | (with_reducible refine boxed_old ?_ ?_; (focus (first | omega | (simp; done) | (simp; omega)))) | (with_reducible refine drew_old ?_)))) (by rfl) ?_) | (with_reducible_and_instances (show wpList _ _ _ (Oper.mk _ (Op.store 27 _ _) _ _ _ _ :: _) _ _); refine wl_store info16 rfl rfl rfl rfl (by (repeat (first | assumption | (with_reducible refine alloc_at ?_; (focus (first | omega | (simp; done) | (simp; omega)))) | (with_reducible refine boxed_at ?_; (focus (first | omega | (simp; done) | (simp; omega)))) | (with_reducible refine alloc_old ?_ ?_; (focus (first | omega | (simp; done) | (simp; omega)))) | (with_reducible refine boxed_old ?_ ?_; (focus (first | omega | (simp; done) | (simp; omega)))) | (with_reducible refine drew_old ?_)))) (by rfl) (by rfl) (by simp [Value.oneCell']) ?_))
  refine (nnear_any K S C T M V _ WK.out WV.out).mono ?_
  rw [HN.out]
  dsimp only [Nv.val]
  rintro x w3 ⟨rfl, hb⟩
  obtain ⟨HW, hz, hz1, hz2, e3⟩ := three_of hb
  rw [e3]
  clear e3 hb
  go_wp2_with (first | (with_reducible_and_instances (show wpList _ _ _ (Oper.mk _ (Op.load 27 _) _ _ _ _ :: _) _ _); refine wl_load Try.underlying27 rfl info16 rfl rfl rfl (by (repeat (first | assumption | (with_reducible refine alloc_at ?_; (focus (first | omega | (simp; done) | (simp; omega)))) | (with_reducible refine boxed_at ?_; (focus (first | omega | (simp; done) | (simp; omega)))) | (with_reducible refine alloc_old ?_ ?_; (focus (first | omega | (simp; done) | (simp; omega)))) | (with_reducible refine boxed_old ?_ ?_; (focus (first | omega | (simp; done) | (simp; omega)))) | (with_reducible refine drew_old ?_)))) (by rfl) ?_) | (with_reducible_and_instances (show wpList _ _ _ (Oper.mk _ (Op.store 27 _ _) _ _ _ _ :: _) _ _); refine wl_store info16 rfl rfl rfl rfl (by (repeat (first | assumption | (with_reducible refine alloc_at ?_; (focus (first | omega | (simp; done) | (simp; omega)))) | (with_reducible refine boxed_at ?_; (focus (first | omega | (simp; done) | (simp; omega)))) | (with_reducible refine alloc_old ?_ ?_; (focus (first | omega | (simp; done) | (simp; omega)))) | (with_reducible refine boxed_old ?_ ?_; (focus (first | omega | (simp; done) | (simp; omega)))) | (with_reducible refine drew_old ?_)))) (by rfl) (by rfl) (by simp [Value.oneCell']) ?_))
  refine bodyPost_ret (results_cell_row rfl _ _ (w.heap.size + 1) 27 _ (0, 0) _ rfl (by (repeat (first | assumption | (with_reducible refine alloc_at ?_; (focus (first | omega | (simp; done) | (simp; omega)))) | (with_reducible refine boxed_at ?_; (focus (first | omega | (simp; done) | (simp; omega)))) | (with_reducible refine alloc_old ?_ ?_; (focus (first | omega | (simp; done) | (simp; omega)))) | (with_reducible refine boxed_old ?_ ?_; (focus (first | omega | (simp; done) | (simp; omega)))) | (with_reducible refine drew_old ?_)))) Try.underlying27 rfl (by exact info16)) rfl ⟨rfl, ?_⟩
  have HB := HW.out
  (repeat (first | assumption | (with_reducible exact Below.refl _ _) | (with_reducible refine boxed_below ?_ ?_; rotate_left; (focus (first | omega | (simp; done) | (simp; omega)))) | (with_reducible refine Below.alloc ?_ ?_ _; rotate_left; (focus (first | omega | (simp; done) | (simp; omega)))) | (with_reducible refine Below.drew ?_)))

theorem onear_any (k s p n a u e t : Int) (g l : Bool) (K S C T M V : Int) (w : World) (wk : 0 ≤ k ∧ k < 256) (wu : 0 ≤ u ∧ u < 256) (wK : 0 ≤ K ∧ K < 256) (wV : 0 ≤ V ∧ V < 256) :
    Calls Try.prog 11 #[.agg #[.int .u8 k, .int .i64 s, .int .i64 p, .int .i64 n, .int .i64 a, .int .u8 u, .int .i64 e, .int .i64 t, .bool g, .bool l, .int .u8 K, .int .i64 S, .int .i64 C, .int .i64 T, .int .i64 M, .int .u8 V]] w fun x w' => x = .returned (Ov.near ⟨k, s, p, n, ⟨a, u, e, t, g, l⟩, ⟨K, S, C, T, M, V⟩⟩).val ∧ Below w.heap.size w w' :=
  near_ways k (fun h => onear_0 k s p n a u e t g l K S C T M V w wk wu h) (fun h => onear_1 k s p n a u e t g l K S C T M V w wk wu h) (fun h => onear_2 k s p n a u e t g l K S C T M V w wk wu h) (fun h => onear_3 k s p n a u e t g l K S C T M V w wk wu h) (fun h => onear_4 k s p n a u e t g l K S C T M V w wk wu h) (fun h => onear_5 k s p n a u e t g l K S C T M V w wk wu h) (fun h => onear_6 k s p n a u e t g l K S C T M V w wk wu h) (fun h => onear_7 k s p n a u e t g l K S C T M V w wk wu h) (fun h => onear_8 k s p n a u e t g l K S C T M V w wk wu h) (fun h => onear_9 k s p n a u e t g l K S C T M V w wk wu wK wV h)
end Go.Proofs.Ytambppcnmggocaa
