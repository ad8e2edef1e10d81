/-
  Notices by their numbers: which may be, and their contracts: order.rightSub, Key, rightAnswer, and the law's own look at them. No conditions.
-/
import Derived.Test.YtblikgbcakgdnaaGreatBr02
import Derived.Test.YtblikgbcakgdnaaGreatBr04
import Derived.Test.YtblikgbcakgdnaaGreatBr05
set_option linter.unusedSimpArgs false
set_option linter.unusedVariables false
namespace Go.Proofs.YtblikgbcakgdnaaGreat
set_option maxRecDepth 20000
open Go.ChangeShapes Go.WideShapes Go.ChangeAt Go.RowKit

/-- May its numbers be? -/
def Nv.Key (n : Nv) : Prop := 0 ≤ n.s ∧ n.s < 32 ∧ 0 ≤ n.c ∧ n.c ≤ 3652058 ∧ 0 ≤ n.t ∧ n.t ≤ 100 ∧ 0 ≤ n.a ∧ n.a ≤ 1125899906842624
instance Nv.keyDec (n : Nv) : Decidable n.Key := by unfold Nv.Key; infer_instance
/-- May it be one that asks or answers? An answer? -/
def Nv.Ok (n : Nv) : Prop := 1 ≤ n.k ∧ n.k ≤ 5 ∧ 0 ≤ n.v ∧ n.v ≤ 3 ∧ n.Key
def Nv.Ans (n : Nv) : Prop := 1 ≤ n.k ∧ n.k ≤ 5 ∧ 1 ≤ n.v ∧ n.v ≤ 3 ∧ n.Key
instance Nv.okDec (n : Nv) : Decidable n.Ok := by unfold Nv.Ok; infer_instance
instance Nv.ansDec (n : Nv) : Decidable n.Ans := by unfold Nv.Ans; infer_instance
theorem Nv.Ans.ok {n : Nv} (h : n.Ans) : n.Ok := ⟨h.1, h.2.1, by have := h.2.2.1; omega, h.2.2.2.1, h.2.2.2.2⟩

set_option maxHeartbeats 400000 in
theorem rsub_yes (n : Int) (w : World) (h0 : 0 ≤ n) (h1 : n < 32) : Calls Tryz.prog 51 #[.int .i64 n] w fun e w' => e = .returned (.bool true) ∧ w = w' := by
  go_enter Tryz.func51, Tryz.ntmps51
  go_wp2
  go_ret
  exact ⟨rfl, rfl⟩
set_option maxHeartbeats 400000 in
theorem rsub_no (n : Int) (w : World) (h : n < 0 ∨ 32 ≤ n) : Calls Tryz.prog 51 #[.int .i64 n] w fun e w' => e = .returned (.bool false) ∧ w = w' := by
  rcases Int.lt_or_le n 0 with h1 | h1
  · have t : decide (0 ≤ n) = false := by simp; omega
    go_enter Tryz.func51, Tryz.ntmps51
    go_wp2
    go_ret
    exact ⟨rfl, rfl⟩
  · have t : decide (n < 32) = false := by simp; omega
    go_enter Tryz.func51, Tryz.ntmps51
    go_wp2
    go_ret
    exact ⟨rfl, rfl⟩

/-- The ways that a notice's numbers can go. -/
theorem key_ways {P : Prop} (s c t a : Int) (h1 : s < 0 → P) (h2 : 0 ≤ s → 32 ≤ s → P) (h3 : 0 ≤ s → s < 32 → c < 0 → P) (h4 : 0 ≤ s → s < 32 → 0 ≤ c → 3652058 < c → P) (h5 : 0 ≤ s → s < 32 → 0 ≤ c → c ≤ 3652058 → t < 0 → P)
    (h6 : 0 ≤ s → s < 32 → 0 ≤ c → c ≤ 3652058 → 0 ≤ t → 100 < t → P) (h7 : 0 ≤ s → s < 32 → 0 ≤ c → c ≤ 3652058 → 0 ≤ t → t ≤ 100 → a < 0 → P) (h8 : 0 ≤ s → s < 32 → 0 ≤ c → c ≤ 3652058 → 0 ≤ t → t ≤ 100 → 0 ≤ a → 1125899906842624 < a → P)
    (h9 : 0 ≤ s → s < 32 → 0 ≤ c → c ≤ 3652058 → 0 ≤ t → t ≤ 100 → 0 ≤ a → a ≤ 1125899906842624 → P) : P := by
  by_cases c1 : s < 0
  · exact h1 c1
  by_cases c2 : 32 ≤ s
  · exact h2 (by omega) c2
  by_cases c3 : c < 0
  · exact h3 (by omega) (by omega) c3
  by_cases c4 : 3652058 < c
  · exact h4 (by omega) (by omega) (by omega) c4
  by_cases c5 : t < 0
  · exact h5 (by omega) (by omega) (by omega) (by omega) c5
  by_cases c6 : 100 < t
  · exact h6 (by omega) (by omega) (by omega) (by omega) (by omega) c6
  by_cases c7 : a < 0
  · exact h7 (by omega) (by omega) (by omega) (by omega) (by omega) (by omega) c7
  by_cases c8 : 1125899906842624 < a
  · exact h8 (by omega) (by omega) (by omega) (by omega) (by omega) (by omega) (by omega) c8
  · exact h9 (by omega) (by omega) (by omega) (by omega) (by omega) (by omega) (by omega) (by omega)

set_option maxHeartbeats 1000000 in
theorem okey_any (k s c t a v : Int) (w : World) :
    Calls Tryz.prog 83 #[.agg #[.int .u8 k, .int .i64 s, .int .i64 c, .int .i64 t, .int .i64 a, .int .u8 v]] w fun x w' => x = .returned (.bool (decide (Nv.Key ⟨k, s, c, t, a, v⟩))) ∧ Below w.heap.size w w' := by
  refine key_ways s c t a ?_ ?_ ?_ ?_ ?_ ?_ ?_ ?_ ?_
  all_goals
    intros
    first | (rw [show decide (Nv.Key ⟨k, s, c, t, a, v⟩) = true from decide_eq_true (by unfold Nv.Key; dsimp only; omega)]) | (rw [show decide (Nv.Key ⟨k, s, c, t, a, v⟩) = false from decide_eq_false (by unfold Nv.Key; dsimp only; omega)])
    try have d3 : decide (0 ≤ c) = false := by simp; omega
    try have d4 : decide (c ≤ 3652058) = false := by simp; omega
    try have d5 : decide (0 ≤ t) = false := by simp; omega
    try have d6 : decide (t ≤ 100) = false := by simp; omega
    try have d7 : decide (0 ≤ a) = false := by simp; omega
    try have d8 : decide (a ≤ 1125899906842624) = false := by simp; omega
    go_enter Tryz.func83, Tryz.ntmps83
    go_wp2_with (go_at_call 51; (first | refine (rsub_yes _ _ (by omega) (by omega)).mono ?_ | refine (rsub_no _ _ (by omega)).mono ?_); rintro e w' ⟨rfl, rfl⟩)
    go_ret
    exact ⟨rfl, by go_grown⟩


set_option maxHeartbeats 1000000 in
theorem rans_any (k s c t a v : Int) (w : World) :
    Calls Tryz.prog 52 #[.agg #[.int .u8 k, .int .i64 s, .int .i64 c, .int .i64 t, .int .i64 a, .int .u8 v]] w fun x w' => x = .returned (.bool (decide (Nv.Ans ⟨k, s, c, t, a, v⟩))) ∧ Below w.heap.size w w' := by
  by_cases h : 1 ≤ k ∧ k ≤ 5 ∧ 1 ≤ v ∧ v ≤ 3
  · obtain ⟨h1, h2, h3, h4⟩ := h
    rw [show decide (Nv.Ans ⟨k, s, c, t, a, v⟩) = decide (Nv.Key ⟨k, s, c, t, a, v⟩) by rw [decide_eq_decide]; unfold Nv.Ans; exact ⟨fun h => h.2.2.2.2, fun h => ⟨h1, h2, h3, h4, h⟩⟩]
    generalize hq : decide (Nv.Key ⟨k, s, c, t, a, v⟩) = q
    have HQ := Lib.hid hq
    clear hq
    go_enter Tryz.func52, Tryz.ntmps52
    go_wp2_with (go_at_call 83; refine (okey_any _ _ _ _ _ _ _).mono ?_; rw [HQ.out]; rintro e w' ⟨rfl, hb⟩)
    go_ret
    exact ⟨rfl, ((Below.refl _ _).alloc (Nat.le_refl _) _).trans (hb.mono (by simp))⟩
  · rw [show decide (Nv.Ans ⟨k, s, c, t, a, v⟩) = false from decide_eq_false (fun g => h ⟨g.1, g.2.1, g.2.2.1, g.2.2.2.1⟩)]
    have H : k < 1 ∨ 1 ≤ k ∧ 5 < k ∨ 1 ≤ k ∧ k ≤ 5 ∧ v < 1 ∨ 1 ≤ k ∧ k ≤ 5 ∧ 1 ≤ v ∧ 3 < v := by omega
    clear h
    rcases H with h | ⟨_, h⟩ | ⟨_, _, h⟩ | ⟨_, _, _, h⟩
    all_goals
      try have d1 : decide (1 ≤ k) = false := by simp; omega
      try have d2 : decide (k ≤ 5) = false := by simp; omega
      try have d3 : decide (1 ≤ v) = false := by simp; omega
      try have d4 : decide (v ≤ 3) = false := by simp; omega
      go_enter Tryz.func52, Tryz.ntmps52
      go_wp2
      go_ret
      exact ⟨rfl, by go_grown⟩

end Go.Proofs.YtblikgbcakgdnaaGreat
/-
  Orders by their fields: which may be, what their kinds name, the law's order that may be; whole orders loaded and stored as one block. No conditions but those that each law names.
-/
namespace Go.Proofs.YtblikgbcakgdnaaGreat
set_option maxRecDepth 20000
open Go.ChangeShapes Go.WideShapes Go.ChangeAt Go.RowKit

theorem info16 : (Tryz.prog.info? 48).map (·.size) = some 16 := by kernel_rfl

instance pvEq (x y : Pv) : Decidable (x = y) := decidable_of_iff (x.a = y.a ∧ x.u = y.u ∧ x.e = y.e ∧ x.t = y.t ∧ x.g = y.g ∧ x.l = y.l) (by cases x; cases y; simp)
/-- An order, by its fields. -/
structure Ov where
  k : Int
  s : Int
  p : Int
  n : Int
  P : Pv
  A : Nv
instance ovEq (x y : Ov) : Decidable (x = y) := decidable_of_iff (x.k = y.k ∧ x.s = y.s ∧ x.p = y.p ∧ x.n = y.n ∧ x.P = y.P ∧ x.A = y.A) (by cases x; cases y; simp)
def Pv.zero : Pv := ⟨0, 0, 0, 0, false, false⟩
def Ov.zero : Ov := ⟨0, 0, 0, 0, Pv.zero, Nv.zero⟩
def Ov.val (o : Ov) : Value := .agg #[.int .u8 o.k, .int .i64 o.s, .int .i64 o.p, .int .i64 o.n, .int .i64 o.P.a, .int .u8 o.P.u, .int .i64 o.P.e, .int .i64 o.P.t, .bool o.P.g, .bool o.P.l, .int .u8 o.A.k, .int .i64 o.A.s, .int .i64 o.A.c, .int .i64 o.A.t, .int .i64 o.A.a, .int .u8 o.A.v]
def Ov.Wf (o : Ov) : Prop := (0 ≤ o.k ∧ o.k < 256) ∧ (-9223372036854775808 ≤ o.s ∧ o.s ≤ 9223372036854775807) ∧ (-9223372036854775808 ≤ o.p ∧ o.p ≤ 9223372036854775807) ∧ (-9223372036854775808 ≤ o.n ∧ o.n ≤ 9223372036854775807) ∧ o.P.Wf ∧ o.A.Wf
/-- What a kind names. -/
def nm (k : Int) : Int := if k = 1 then 1 else if k = 2 ∨ k = 3 then 2 else if 4 ≤ k ∧ k ≤ 8 then 3 else if k = 9 then 4 else if k = 10 then 5 else 0
theorem nm_ways {P : Prop} (k : Int) (h0 : nm k = 0 → k ≠ 1 → P) (h1 : nm k = 1 → k = 1 → P) (h2 : nm k = 2 → k ≠ 1 → P) (h3 : nm k = 3 → k ≠ 1 → P) (h4 : nm k = 4 → k ≠ 1 → P) (h5 : nm k = 5 → k ≠ 1 → P) : P := by
  by_cases c1 : k = 1
  · exact h1 (by unfold nm; rw [if_pos c1]) c1
  by_cases c2 : k = 2 ∨ k = 3
  · exact h2 (by unfold nm; rw [if_neg c1, if_pos c2]) c1
  by_cases c3 : 4 ≤ k ∧ k ≤ 8
  · exact h3 (by unfold nm; rw [if_neg c1, if_neg c2, if_pos c3]) c1
  by_cases c4 : k = 9
  · exact h4 (by unfold nm; rw [if_neg c1, if_neg c2, if_neg c3, if_pos c4]) c1
  by_cases c5 : k = 10
  · exact h5 (by unfold nm; rw [if_neg c1, if_neg c2, if_neg c3, if_neg c4, if_pos c5]) c1
  · exact h0 (by unfold nm; rw [if_neg c1, if_neg c2, if_neg c3, if_neg c4, if_neg c5]) c1
/-- With what its kind names alone. -/
def Ov.named (o : Ov) : Ov :=
  if nm o.k = 1 then ⟨o.k, 0, 0, 0, o.P, Nv.zero⟩ else if nm o.k = 2 then ⟨o.k, o.s, o.p, 0, Pv.zero, Nv.zero⟩ else if nm o.k = 3 then ⟨o.k, o.s, 0, 0, Pv.zero, Nv.zero⟩
  else if nm o.k = 4 then ⟨o.k, 0, 0, o.n, Pv.zero, Nv.zero⟩ else if nm o.k = 5 then ⟨o.k, 0, 0, 0, Pv.zero, o.A⟩ else ⟨o.k, 0, 0, 0, Pv.zero, Nv.zero⟩
/-- May what it names be? (Of a plan Pn.right tells.) -/
def Ov.Num (o : Ov) : Prop := nm o.k = 1 ∨ (nm o.k = 2 ∧ 0 ≤ o.s ∧ o.s < 32 ∧ 0 ≤ o.p ∧ o.p < 8) ∨ (nm o.k = 3 ∧ 0 ≤ o.s ∧ o.s < 32) ∨ (nm o.k = 4 ∧ 1 ≤ o.n ∧ o.n ≤ 60) ∨ (nm o.k = 5 ∧ o.A.Ans)
instance Ov.numDec (o : Ov) : Decidable o.Num := by unfold Ov.Num; infer_instance
def Ov.right (o : Ov) : Int := if o.Num ∧ o = o.named then (if o.k = 1 then Pn.right o.P.a o.P.u o.P.e o.P.t else 0) else 1

set_option maxHeartbeats 1000000 in
theorem names_any (k : Int) (w : World) : Calls Tryz.prog 50 #[.int .u8 k] w fun x w' => x = .returned (.int .u8 (nm k)) ∧ w = w' := by
  by_cases h : k = 1 ∨ k = 2 ∨ k = 3 ∨ k = 4 ∨ k = 5 ∨ k = 6 ∨ k = 7 ∨ k = 8 ∨ k = 9 ∨ k = 10
  · rcases h with rfl | rfl | rfl | rfl | rfl | rfl | rfl | rfl | rfl | rfl
    all_goals
      go_enter Tryz.func50, Tryz.ntmps50
      go_wp2
      go_ret
      exact ⟨rfl, rfl⟩
  · have d1 : (k == 1) = false := by rw [beq_eq_false_iff_ne]; omega
    have d2 : (k == 2) = false := by rw [beq_eq_false_iff_ne]; omega
    have d3 : (k == 3) = false := by rw [beq_eq_false_iff_ne]; omega
    have d4 : (k == 4) = false := by rw [beq_eq_false_iff_ne]; omega
    have d5 : (k == 5) = false := by rw [beq_eq_false_iff_ne]; omega
    have d6 : (k == 6) = false := by rw [beq_eq_false_iff_ne]; omega
    have d7 : (k == 7) = false := by rw [beq_eq_false_iff_ne]; omega
    have d8 : (k == 8) = false := by rw [beq_eq_false_iff_ne]; omega
    have d9 : (k == 9) = false := by rw [beq_eq_false_iff_ne]; omega
    have d10 : (k == 10) = false := by rw [beq_eq_false_iff_ne]; omega
    have e : nm k = 0 := by unfold nm; rw [if_neg (by omega), if_neg (by omega), if_neg (by omega), if_neg (by omega), if_neg (by omega)]
    clear h
    rw [e]
    clear e
    go_enter Tryz.func50, Tryz.ntmps50
    go_wp2
    go_ret
    exact ⟨rfl, rfl⟩
theorem names_is (k c : Int) (w : World) (h : nm k = c) : Calls Tryz.prog 50 #[.int .u8 k] w fun x w' => x = .returned (.int .u8 c) ∧ w = w' := by subst h; exact names_any k w
end Go.Proofs.YtblikgbcakgdnaaGreat
