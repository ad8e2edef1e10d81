/-
  Orders as one value, unopened: the contracts over it; the law's own look at the document's example. No conditions but those that each law names.
-/
import Derived.Test.YtambppcnmggocaaOrNear
import Derived.Test.YtambppcnmggocaaOrLaw
import Derived.Test.YtambppcnmggocaaOrEnc
namespace Go.Proofs.Ytambppcnmggocaa
set_option maxRecDepth 20000
open Go.ChangeShapes Go.WideShapes Go.ChangeAt Go.RowKit

/-- An order's cells. -/
def Ov.arr (o : Ov) : Array Value := #[.int .u8 o.k, .int .i64 o.s, .int .i64 o.p, .int .i64 o.n, .int .i64 o.P.a, .int .u8 o.P.u, .int .i64 o.P.e, .int .i64 o.P.t, .bool o.P.g, .bool o.P.l, .int .u8 o.A.k, .int .i64 o.A.s, .int .i64 o.A.c, .int .i64 o.A.t, .int .i64 o.A.a, .int .u8 o.A.v]
theorem Ov.val_arr (o : Ov) : o.val = .agg o.arr := rfl
theorem Ov.arr_size (o : Ov) : o.arr.size = 16 := rfl
theorem Ov.arr_one (o : Ov) : o.arr.all (·.oneCell') = true := by cases o; simp [Ov.arr, Value.oneCell']
theorem near_o (o : Ov) (h : o.Wf) (w : World) : Calls Try.prog 11 #[.agg o.arr] w fun x w' => x = .returned (.agg o.near.arr) ∧ Below w.heap.size w w' := by
  obtain ⟨k, s, p, n, ⟨a, u, e, t, g, l⟩, ⟨K, S, C, T, M, V⟩⟩ := o
  exact onear_any k s p n a u e t g l K S C T M V w h.1 h.2.2.2.2.1.2.1 h.2.2.2.2.2.1 h.2.2.2.2.2.2.2.2.2.2
theorem right_o (o : Ov) (w : World) : Calls Try.prog 13 #[.agg o.arr] w fun x w' => x = .returned (.int .i64 o.right) ∧ Below w.heap.size w w' := by
  obtain ⟨k, s, p, n, ⟨a, u, e, t, g, l⟩, ⟨K, S, C, T, M, V⟩⟩ := o
  exact oright_any k s p n a u e t g l K S C T M V w
theorem lright_o (o : Ov) (w : World) : Calls Try.prog 14 #[.agg o.arr] w fun x w' => x = .returned (.int .i64 o.right) ∧ Below w.heap.size w w' := by
  obtain ⟨k, s, p, n, ⟨a, u, e, t, g, l⟩, ⟨K, S, C, T, M, V⟩⟩ := o
  exact lright_any k s p n a u e t g l K S C T M V w
theorem enc_o (o : Ov) (h : 0 ≤ o.P.u) (w : World) : Calls Try.prog 17 #[.agg o.arr] w (Owned w o.out) := by
  obtain ⟨k, s, p, n, ⟨a, u, e, t, g, l⟩, ⟨K, S, C, T, M, V⟩⟩ := o
  exact enc_any k s p n a u e t g l K S C T M V w h
theorem Pv.near_wf (p : Pv) : (Pn.nearO p).Wf := by
  unfold Pn.nearO Pv.Wf; dsimp only; omega
theorem zero_wf : Pv.zero.Wf ∧ Nv.zero.Wf := ⟨⟨⟨by decide, by decide⟩, ⟨by decide, by decide⟩, ⟨by decide, by decide⟩, ⟨by decide, by decide⟩⟩, ⟨⟨by decide, by decide⟩, ⟨by decide, by decide⟩, ⟨by decide, by decide⟩, ⟨by decide, by decide⟩, ⟨by decide, by decide⟩, ⟨by decide, by decide⟩⟩⟩
theorem Nv.near_wf (n : Nv) : n.near.Wf := by
  obtain ⟨h1, h2, h3, h4, h5, h6, h7, h8, h9, h10, h11, h12⟩ := n.near_ans
  exact ⟨by omega, by omega, by omega, by omega, by omega, by omega⟩
theorem Ov.near_wf (o : Ov) (h : o.Wf) : o.near.Wf := by
  have hk := h.1
  have m0 : -9223372036854775808 ≤ (0 : Int) ∧ (0 : Int) ≤ 9223372036854775807 := by omega
  unfold Ov.near
  split
  · exact ⟨by dsimp only; omega, m0, m0, m0, Pv.near_wf _, zero_wf.2⟩
  split
  · exact ⟨by dsimp only; omega, by dsimp only; omega, by dsimp only; omega, m0, zero_wf.1, zero_wf.2⟩
  split
  · exact ⟨by dsimp only; omega, m0, m0, by dsimp only; omega, zero_wf.1, zero_wf.2⟩
  split
  · exact ⟨by dsimp only; omega, m0, m0, m0, zero_wf.1, Nv.near_wf _⟩
  · exact ⟨by dsimp only; omega, by dsimp only; omega, m0, m0, zero_wf.1, zero_wf.2⟩
theorem Ov.out_near (o : Ov) : o.near.out = o.near.bytes := by unfold Ov.out; rw [if_pos o.near_right]
/-- Bytes of orders are bytes, and few. -/
theorem Ov.rest_ok (o : Ov) : ∀ x ∈ o.rest, 0 ≤ x ∧ x < 128 := by
  intro x hx
  unfold Ov.rest at hx
  split at hx
  · rw [Pn.bytes_eq] at hx; exact Pk.encs_range _ x hx
  split at hx
  · exact Pk.encs_range _ x hx
  split at hx
  · exact Pk.encs_range _ x hx
  split at hx
  · exact Pk.encs_range _ x hx
  split at hx
  · exact Pk.encs_range _ x hx
  · simp at hx
theorem Ov.bytes_ok (o : Ov) : ∀ x ∈ o.bytes, 0 ≤ x ∧ x < 128 := by
  intro x hx
  unfold Ov.bytes at hx
  rcases List.mem_append.1 hx with h | h
  · exact Pk.enc_range _ x h
  · exact o.rest_ok x h
theorem enc_few {n : Int} (m : Nat) (h0 : 0 ≤ n) (h1 : 2 * n < ((64 ^ (m + 1) : Nat) : Int)) : (Pk.enc (Pk.zig n)).length ≤ m + 1 := Pk.enc_len m _ (by have := Pk.zig_even h0; omega)
theorem q1 : ((64 ^ (0 + 1) : Nat) : Int) = 64 := by decide
theorem q2 : ((64 ^ (1 + 1) : Nat) : Int) = 4096 := by decide
theorem q4 : ((64 ^ (3 + 1) : Nat) : Int) = 16777216 := by decide
theorem q6 : ((64 ^ (5 + 1) : Nat) : Int) = 68719476736 := by decide
theorem q9 : ((64 ^ (8 + 1) : Nat) : Int) = 18014398509481984 := by decide
theorem Pv.len (p : Pv) (h : p.Wf) (hr : Pn.right p.a p.u p.e p.t = 0) : 1 ≤ (Pn.bytes p.a p.u p.e p.t p.g p.l).length ∧ (Pn.bytes p.a p.u p.e p.t p.g p.l).length ≤ 20 := by
  have hb := pn_zero hr
  have hu := h.2.1.1
  have g1 := Pn.one_ok p.g
  have g2 := Pn.one_ok p.l
  rw [Pn.bytes_eq]
  simp only [Pk.encs_cons, Pk.encs_nil, List.length_append, List.length_nil]
  have e1 := enc_few (n := p.a) 5 (by omega) (by rw [q6]; omega)
  have e2 := enc_few (n := p.u) 0 (by omega) (by rw [q1]; omega)
  have e3 := enc_few (n := p.e) 1 (by omega) (by rw [q2]; omega)
  have e4 := enc_few (n := p.t) 1 (by omega) (by rw [q2]; omega)
  have e5 := enc_few (n := Pn.one p.g) 0 (by omega) (by rw [q1]; omega)
  have e6 := enc_few (n := Pn.one p.l) 0 (by omega) (by rw [q1]; omega)
  have e7 := Pk.enc_pos (Pk.zig p.a)
  omega
theorem Nv.len (n : Nv) (h : n.Ok) : 1 ≤ n.bytes.length ∧ n.bytes.length ≤ 20 := by
  obtain ⟨h1, h2, h3, h4, h5, h6, h7, h8, h9, h10, h11, h12⟩ := h
  unfold Nv.bytes
  simp only [Pk.encs_cons, Pk.encs_nil, List.length_append, List.length_nil]
  have e1 := enc_few (n := n.k) 0 (by omega) (by rw [q1]; omega)
  have e2 := enc_few (n := n.s) 0 (by omega) (by rw [q1]; omega)
  have e3 := enc_few (n := n.c) 3 (by omega) (by rw [q4]; omega)
  have e4 := enc_few (n := n.t) 1 (by omega) (by rw [q2]; omega)
  have e5 := enc_few (n := n.a) 8 (by omega) (by rw [q9]; omega)
  have e6 := enc_few (n := n.v) 0 (by omega) (by rw [q1]; omega)
  have e7 := Pk.enc_pos (Pk.zig n.k)
  omega
/-- Orders take few bytes. -/
theorem Ov.len (o : Ov) (h : o.Wf) (hr : o.right = 0) : 2 ≤ o.bytes.length ∧ o.bytes.length ≤ 21 := by
  obtain ⟨hN, _, hp⟩ := right_zero hr
  have hk := num_range hN
  have e := enc_few (n := o.k) 0 (by omega) (by rw [q1]; omega)
  have e0 := Pk.enc_pos (Pk.zig o.k)
  unfold Ov.bytes
  rw [List.length_append]
  have hx : 1 ≤ o.rest.length ∧ o.rest.length ≤ 20 := by
    unfold Ov.rest
    refine nm_ways o.k (fun hn _ => absurd (num_0 hn hN) id) (fun hn hk => ?_) (fun hn _ => ?_) (fun hn _ => ?_) (fun hn _ => ?_) (fun hn _ => ?_)
    · rw [if_pos hn]; exact o.P.len h.2.2.2.2.1 (hp hk)
    · simp only [hn, Int.reduceEq, if_true, if_false]
      have hb := num_2 hn hN
      have e1 := enc_few (n := o.s) 0 (by omega) (by rw [q1]; omega)
      have e2 := enc_few (n := o.p) 0 (by omega) (by rw [q1]; omega)
      have e3 := Pk.enc_pos (Pk.zig o.s)
      simp only [Pk.encs_cons, Pk.encs_nil, List.length_append, List.length_nil]
      omega
    · simp only [hn, Int.reduceEq, if_true, if_false]
      have hb := num_3 hn hN
      have e1 := enc_few (n := o.s) 0 (by omega) (by rw [q1]; omega)
      have e3 := Pk.enc_pos (Pk.zig o.s)
      rw [Pk.encs_one]
      omega
    · simp only [hn, Int.reduceEq, if_true, if_false]
      have hb := num_4 hn hN
      have e1 := enc_few (n := o.n) 1 (by omega) (by rw [q2]; omega)
      have e3 := Pk.enc_pos (Pk.zig o.n)
      rw [Pk.encs_one]
      omega
    · simp only [hn, Int.reduceEq, if_true, if_false]
      exact o.A.len (num_5 hn hN).ok
  omega
/-- The document's example. -/
theorem out_first : Ov.out ⟨9, 0, 0, 7, ⟨0, 0, 0, 0, false, false⟩, ⟨0, 0, 0, 0, 0, 0⟩⟩ = [18, 14] := by
  have hn : nm 9 = 4 := by decide
  have hr : Ov.right ⟨9, 0, 0, 7, ⟨0, 0, 0, 0, false, false⟩, ⟨0, 0, 0, 0, 0, 0⟩⟩ = 0 := by
    rw [right_good ⟨.inr (.inr (.inr (.inl ⟨hn, by decide, by decide⟩))), by unfold Ov.named; simp only [hn, Int.reduceEq, if_true, if_false]; rfl⟩]
    rfl
  have z0 : Pk.zig 9 = 18 := by decide
  have z1 : Pk.zig 7 = 14 := by decide
  unfold Ov.out
  rw [if_pos hr]
  unfold Ov.bytes Ov.rest
  simp only [hn, Int.reduceEq, if_true, if_false]
  rw [Pk.encs_one, z0, z1, Pk.enc_less (by omega), Pk.enc_less (by omega)]
  rfl
theorem bst_first : bst [18, 14] = ⟨#[18, 14]⟩ := by rw [bst_eq]; rfl
set_option maxHeartbeats 1000000 in
theorem awake_any (w : World) : Calls Try.prog 12 #[] w fun e w' => e = .returned (.bool true) ∧ Below w.heap.size w w' := by
  go_enter Try.func12, Try.ntmps12
  go_wp2_with (fail)
  refine (enc_any 9 0 0 7 0 0 0 0 false false 0 0 0 0 0 0 _ (by omega)).mono ?_
  rw [out_first]
  intro e w3 hO
  obtain ⟨A, n, c, rfl, HN, HO, HB2, HR, h1, h2⟩ := hO.open_
  have hcv := conv_len w3 A _ c n _ HR.out HN.out
  rw [bst_first] at hcv
  go_wp2
  go_ret
  exact ⟨rfl, HB2.out⟩
end Go.Proofs.Ytambppcnmggocaa
