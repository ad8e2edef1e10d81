/-
  Notices by their numbers: which may be, and their contracts: order.rightSub, Key, rightAnswer, and the law's own look at them. No conditions.
-/
import Derived.Test.YtambppcnmggocaaPlRight
import Derived.Test.YtambppcnmggocaaPlanRow
namespace Go.Proofs.Ytambppcnmggocaa
set_option maxRecDepth 20000
open Go.ChangeShapes Go.WideShapes Go.ChangeAt Go.RowKit

/-- A notice, by its fields. -/
structure Nv where
  k : Int
  s : Int
  c : Int
  t : Int
  a : Int
  v : Int
def Nv.cs (n : Nv) : List Value := [.int .u8 n.k, .int .i64 n.s, .int .i64 n.c, .int .i64 n.t, .int .i64 n.a, .int .u8 n.v]
def Nv.val (n : Nv) : Value := .agg #[.int .u8 n.k, .int .i64 n.s, .int .i64 n.c, .int .i64 n.t, .int .i64 n.a, .int .u8 n.v]
/-- A notice as it may come in. -/
def Nv.Wf (n : Nv) : Prop := (0 ≤ n.k ∧ n.k < 256) ∧ (-9223372036854775808 ≤ n.s ∧ n.s ≤ 9223372036854775807) ∧ (-9223372036854775808 ≤ n.c ∧ n.c ≤ 9223372036854775807) ∧ (-9223372036854775808 ≤ n.t ∧ n.t ≤ 9223372036854775807) ∧ (-9223372036854775808 ≤ n.a ∧ n.a ≤ 9223372036854775807) ∧ (0 ≤ n.v ∧ n.v < 256)
/-- May its numbers be? -/
def Nv.Key (n : Nv) : Prop := 0 ≤ n.s ∧ n.s < 32 ∧ 0 ≤ n.c ∧ n.c ≤ 3652058 ∧ 0 ≤ n.t ∧ n.t ≤ 100 ∧ 0 ≤ n.a ∧ n.a ≤ 1125899906842624
instance Nv.keyDec (n : Nv) : Decidable n.Key := by unfold Nv.Key; infer_instance
/-- May it be one that asks or answers? An answer? -/
def Nv.Ok (n : Nv) : Prop := 1 ≤ n.k ∧ n.k ≤ 5 ∧ 0 ≤ n.v ∧ n.v ≤ 3 ∧ n.Key
def Nv.Ans (n : Nv) : Prop := 1 ≤ n.k ∧ n.k ≤ 5 ∧ 1 ≤ n.v ∧ n.v ≤ 3 ∧ n.Key
instance Nv.okDec (n : Nv) : Decidable n.Ok := by unfold Nv.Ok; infer_instance
instance Nv.ansDec (n : Nv) : Decidable n.Ans := by unfold Nv.Ans; infer_instance
def Nv.zero : Nv := ⟨0, 0, 0, 0, 0, 0⟩
/-- The law's answer that may be. -/
def Nv.near (n : Nv) : Nv := ⟨1 + n.k % 5, n.s % 32, n.c % 18446744073709551616 % 3652059, n.t % 18446744073709551616 % 101, n.a % 1125899906842624, 1 + n.v % 3⟩
theorem Nv.near_ans (n : Nv) : n.near.Ans := by
  unfold Nv.near Nv.Ans Nv.Key
  dsimp only
  omega
theorem Nv.Ans.ok {n : Nv} (h : n.Ans) : n.Ok := ⟨h.1, h.2.1, by have := h.2.2.1; omega, h.2.2.2.1, h.2.2.2.2⟩

set_option maxHeartbeats 400000 in
theorem rsub_yes (n : Int) (w : World) (h0 : 0 ≤ n) (h1 : n < 32) : Calls Try.prog 37 #[.int .i64 n] w fun e w' => e = .returned (.bool true) ∧ w = w' := by
  go_enter Try.func37, Try.ntmps37
  go_wp2
  go_ret
  exact ⟨rfl, rfl⟩
set_option maxHeartbeats 400000 in
theorem rsub_no (n : Int) (w : World) (h : n < 0 ∨ 32 ≤ n) : Calls Try.prog 37 #[.int .i64 n] w fun e w' => e = .returned (.bool false) ∧ w = w' := by
  rcases Int.lt_or_le n 0 with h1 | h1
  · have t : decide (0 ≤ n) = false := by simp; omega
    go_enter Try.func37, Try.ntmps37
    go_wp2
    go_ret
    exact ⟨rfl, rfl⟩
  · have t : decide (n < 32) = false := by simp; omega
    go_enter Try.func37, Try.ntmps37
    go_wp2
    go_ret
    exact ⟨rfl, rfl⟩

/-- The ways that a notice's numbers can go. -/
theorem key_ways {P : Prop} (s c t a : Int) (h1 : s < 0 → P) (h2 : 0 ≤ s → 32 ≤ s → P) (h3 : 0 ≤ s → s < 32 → c < 0 → P) (h4 : 0 ≤ s → s < 32 → 0 ≤ c → 3652058 < c → P) (h5 : 0 ≤ s → s < 32 → 0 ≤ c → c ≤ 3652058 → t < 0 → P)
    (h6 : 0 ≤ s → s < 32 → 0 ≤ c → c ≤ 3652058 → 0 ≤ t → 100 < t → P) (h7 : 0 ≤ s → s < 32 → 0 ≤ c → c ≤ 3652058 → 0 ≤ t → t ≤ 100 → a < 0 → P) (h8 : 0 ≤ s → s < 32 → 0 ≤ c → c ≤ 3652058 → 0 ≤ t → t ≤ 100 → 0 ≤ a → 1125899906842624 < a → P)
    (h9 : 0 ≤ s → s < 32 → 0 ≤ c → c ≤ 3652058 → 0 ≤ t → t ≤ 100 → 0 ≤ a → a ≤ 1125899906842624 → P) : P := by
  by_cases c1 : s < 0
  · exact h1 c1
  by_cases c2 : 32 ≤ s
  · exact h2 (by omega) c2
  by_cases c3 : c < 0
  · exact h3 (by omega) (by omega) c3
  by_cases c4 : 3652058 < c
  · exact h4 (by omega) (by omega) (by omega) c4
  by_cases c5 : t < 0
  · exact h5 (by omega) (by omega) (by omega) (by omega) c5
  by_cases c6 : 100 < t
  · exact h6 (by omega) (by omega) (by omega) (by omega) (by omega) c6
  by_cases c7 : a < 0
  · exact h7 (by omega) (by omega) (by omega) (by omega) (by omega) (by omega) c7
  by_cases c8 : 1125899906842624 < a
  · exact h8 (by omega) (by omega) (by omega) (by omega) (by omega) (by omega) (by omega) c8
  · exact h9 (by omega) (by omega) (by omega) (by omega) (by omega) (by omega) (by omega) (by omega)

set_option maxHeartbeats 1000000 in
theorem okey_any (k s c t a v : Int) (w : World) :
    Calls Try.prog 15 #[.agg #[.int .u8 k, .int .i64 s, .int .i64 c, .int .i64 t, .int .i64 a, .int .u8 v]] w fun x w' => x = .returned (.bool (decide (Nv.Key ⟨k, s, c, t, a, v⟩))) ∧ Below w.heap.size w w' := by
  refine key_ways s c t a ?_ ?_ ?_ ?_ ?_ ?_ ?_ ?_ ?_
  all_goals
    intros
    first | (rw [show decide (Nv.Key ⟨k, s, c, t, a, v⟩) = true from decide_eq_true (by unfold Nv.Key; dsimp only; omega)]) | (rw [show decide (Nv.Key ⟨k, s, c, t, a, v⟩) = false from decide_eq_false (by unfold Nv.Key; dsimp only; omega)])
    try have d3 : decide (0 ≤ c) = false := by simp; omega
    try have d4 : decide (c ≤ 3652058) = false := by simp; omega
    try have d5 : decide (0 ≤ t) = false := by simp; omega
    try have d6 : decide (t ≤ 100) = false := by simp; omega
    try have d7 : decide (0 ≤ a) = false := by simp; omega
    try have d8 : decide (a ≤ 1125899906842624) = false := by simp; omega
    go_enter Try.func15, Try.ntmps15
    go_wp2_with (go_at_call 37; (first | refine (rsub_yes _ _ (by omega) (by omega)).mono ?_ | refine (rsub_no _ _ (by omega)).mono ?_); rintro e w' ⟨rfl, rfl⟩)
    go_ret
    exact ⟨rfl, by go_grown⟩

set_option maxHeartbeats 1000000 in
theorem lkey_any (k s c t a v : Int) (w : World) :
    Calls Try.prog 16 #[.agg #[.int .u8 k, .int .i64 s, .int .i64 c, .int .i64 t, .int .i64 a, .int .u8 v]] w fun x w' => x = .returned (.bool (decide (Nv.Key ⟨k, s, c, t, a, v⟩))) ∧ Below w.heap.size w w' := by
  refine key_ways s c t a ?_ ?_ ?_ ?_ ?_ ?_ ?_ ?_ ?_
  all_goals
    intros
    first | (rw [show decide (Nv.Key ⟨k, s, c, t, a, v⟩) = true from decide_eq_true (by unfold Nv.Key; dsimp only; omega)]) | (rw [show decide (Nv.Key ⟨k, s, c, t, a, v⟩) = false from decide_eq_false (by unfold Nv.Key; dsimp only; omega)])
    try have d1 : decide (0 ≤ s) = false := by simp; omega
    try have d2 : decide (s < 32) = false := by simp; omega
    try have d3 : decide (0 ≤ c) = false := by simp; omega
    try have d4 : decide (c ≤ 3652058) = false := by simp; omega
    try have d5 : decide (0 ≤ t) = false := by simp; omega
    try have d6 : decide (t ≤ 100) = false := by simp; omega
    try have d7 : decide (0 ≤ a) = false := by simp; omega
    try have d8 : decide (a ≤ 1125899906842624) = false := by simp; omega
    go_enter Try.func16, Try.ntmps16
    go_wp2
    go_ret
    exact ⟨rfl, by go_grown⟩

set_option maxHeartbeats 1000000 in
theorem rans_any (k s c t a v : Int) (w : World) :
    Calls Try.prog 47 #[.agg #[.int .u8 k, .int .i64 s, .int .i64 c, .int .i64 t, .int .i64 a, .int .u8 v]] w fun x w' => x = .returned (.bool (decide (Nv.Ans ⟨k, s, c, t, a, v⟩))) ∧ Below w.heap.size w w' := by
  by_cases h : 1 ≤ k ∧ k ≤ 5 ∧ 1 ≤ v ∧ v ≤ 3
  · obtain ⟨h1, h2, h3, h4⟩ := h
    rw [show decide (Nv.Ans ⟨k, s, c, t, a, v⟩) = decide (Nv.Key ⟨k, s, c, t, a, v⟩) by rw [decide_eq_decide]; unfold Nv.Ans; exact ⟨fun h => h.2.2.2.2, fun h => ⟨h1, h2, h3, h4, h⟩⟩]
    generalize hq : decide (Nv.Key ⟨k, s, c, t, a, v⟩) = q
    have HQ := Lib.hid hq
    clear hq
    go_enter Try.func47, Try.ntmps47
    go_wp2_with (go_at_call 15; refine (okey_any _ _ _ _ _ _ _).mono ?_; rw [HQ.out]; rintro e w' ⟨rfl, hb⟩)
    go_ret
    exact ⟨rfl, ((Below.refl _ _).alloc (Nat.le_refl _) _).trans (hb.mono (by simp))⟩
  · rw [show decide (Nv.Ans ⟨k, s, c, t, a, v⟩) = false from decide_eq_false (fun g => h ⟨g.1, g.2.1, g.2.2.1, g.2.2.2.1⟩)]
    have H : k < 1 ∨ 1 ≤ k ∧ 5 < k ∨ 1 ≤ k ∧ k ≤ 5 ∧ v < 1 ∨ 1 ≤ k ∧ k ≤ 5 ∧ 1 ≤ v ∧ 3 < v := by omega
    clear h
    rcases H with h | ⟨_, h⟩ | ⟨_, _, h⟩ | ⟨_, _, _, h⟩
    all_goals
      try have d1 : decide (1 ≤ k) = false := by simp; omega
      try have d2 : decide (k ≤ 5) = false := by simp; omega
      try have d3 : decide (1 ≤ v) = false := by simp; omega
      try have d4 : decide (v ≤ 3) = false := by simp; omega
      go_enter Try.func47, Try.ntmps47
      go_wp2
      go_ret
      exact ⟨rfl, by go_grown⟩

set_option maxHeartbeats 1000000 in
theorem nnear_any (k s c t a v : Int) (w : World) (wk : 0 ≤ k ∧ k < 256) (wv : 0 ≤ v ∧ v < 256) :
    Calls Try.prog 20 #[.agg #[.int .u8 k, .int .i64 s, .int .i64 c, .int .i64 t, .int .i64 a, .int .u8 v]] w fun x w' => x = .returned (Nv.near ⟨k, s, c, t, a, v⟩).val ∧ Below w.heap.size w w' := by
  obtain ⟨wk0, wk1⟩ := wk
  obtain ⟨wv0, wv1⟩ := wv
  have es : wrap64 ((IntKind.u64.wrap s).tmod 32) = s % 32 := by rw [u64t]; unfold wrap64; omega
  have ec : wrap64 ((IntKind.u64.wrap c).tmod 3652059) = c % 18446744073709551616 % 3652059 := by rw [u64t]; unfold wrap64; omega
  have et : wrap64 ((IntKind.u64.wrap t).tmod 101) = t % 18446744073709551616 % 101 := by rw [u64t]; unfold wrap64; omega
  have ea : wrap64 ((IntKind.u64.wrap a).tmod 1125899906842624) = a % 1125899906842624 := by rw [u64t]; unfold wrap64; omega
  go_enter Try.func20, Try.ntmps20
  go_wp2
  refine bodyPost_ret (v := (Nv.near ⟨k, s, c, t, a, v⟩).val) ?_ rfl ⟨rfl, by go_grown⟩
  simp [results, Try.results20, go_sem, es, ec, et, ea, Nv.near, Nv.val]
end Go.Proofs.Ytambppcnmggocaa
