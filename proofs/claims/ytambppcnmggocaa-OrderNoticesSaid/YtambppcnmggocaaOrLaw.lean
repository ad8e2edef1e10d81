/-
  The law's own look at orders, and the law's order that may be. No conditions.
-/
import Derived.Test.YtambppcnmggocaaOrEq
namespace Go.Proofs.Ytambppcnmggocaa
set_option maxRecDepth 20000
open Go.ChangeShapes Go.WideShapes Go.ChangeAt Go.RowKit

theorem bin_eql16 {v v' : Ov} {r : Bool} (hr : decide (v = v') = r) (w : World) : (binOp .eql 27 v.val v'.val).run Try.prog w = .ok (.bool r) w := by
  subst hr
  have he := eq16 v v' w
  unfold Ov.val at he ⊢
  rw [run_eql_struct, he]; rfl
theorem num_ok {o : Ov} (h : decide o.Num = true) : o.Num := of_decide_eq_true h
/-- Whether an order is right, by whether it names what its kind doesn't. -/
theorem right_of {o : Ov} {x : Ov} {r : Bool} (hx : o.named = x) (hr : decide (o = x) = r) (h : o.Num) : o.right = if r = true then (if o.k = 1 then Pn.right o.P.a o.P.u o.P.e o.P.t else 0) else 1 := by
  subst hx hr
  by_cases g : o = o.named
  · rw [right_good ⟨h, g⟩, decide_eq_true g]; rfl
  · rw [right_bad (fun q => g q.2), decide_eq_false g]; rfl
theorem right_no {o : Ov} (h : decide o.Num = false) : o.right = 1 := right_bad (fun q => by have := of_decide_eq_false h; exact this q.1)

/-- The two blocks of the order and of what its kind names, behind a call that makes new blocks alone. -/
theorem two_of' {w w1 : World} {cs cs1 cs' : Array Value} {t t' : TypeId} {B : Nat} (hb : Below (boxed ((w.alloc (.cells cs t)).alloc (.cells cs1 t')) B cs' t').heap.size (boxed ((w.alloc (.cells cs t)).alloc (.cells cs1 t')) B cs' t') w1) (hB : B = w.heap.size + 1 := by rfl) :
    Hid (Below w.heap.size w w1) ∧ w.heap.size < w1.heap.size ∧ w.heap.size + 1 < w1.heap.size ∧ w1 = boxed (boxed w1 w.heap.size cs t) (w.heap.size + 1) cs' t' := by
  subst hB
  have hz := hb.size
  have b0 : w1.heap[w.heap.size]? = some (.cells cs t) := below_block hb (boxed_old (by omega) (alloc_old (by simp) (alloc_at rfl)))
  have b1 : w1.heap[w.heap.size + 1]? = some (.cells cs' t') := below_block hb (boxed_at (by simp))
  rw [boxed_size] at hz
  simp at hz
  refine ⟨(boxed_below (((Below.refl _ _).alloc (Nat.le_refl _) _).alloc (by simp) _) (by omega)).trans (hb.mono (by simp; omega)), by omega, by omega, ?_⟩
  rw [← boxed_self b0, ← boxed_self b1]

set_option maxHeartbeats 4000000 in
theorem lright_k1 (s p n a u e t : Int) (g l : Bool) (K S C T M V : Int) (w : World) :
    Calls Try.prog 14 #[.agg #[.int .u8 1, .int .i64 s, .int .i64 p, .int .i64 n, .int .i64 a, .int .u8 u, .int .i64 e, .int .i64 t, .bool g, .bool l, .int .u8 K, .int .i64 S, .int .i64 C, .int .i64 T, .int .i64 M, .int .u8 V]] w fun x w' => x = .returned (.int .i64 (Ov.right ⟨1, s, p, n, ⟨a, u, e, t, g, l⟩, ⟨K, S, C, T, M, V⟩⟩)) ∧ Below w.heap.size w w' := by
  have hn : nm 1 = 1 := by decide
  obtain ⟨r, hr⟩ : ∃ r, decide ((⟨1, s, p, n, ⟨a, u, e, t, g, l⟩, ⟨K, S, C, T, M, V⟩⟩ : Ov) = ⟨1, 0, 0, 0, ⟨a, u, e, t, g, l⟩, Nv.zero⟩) = r := ⟨_, rfl⟩
  have hq : ∀ w, (binOp .eql 27 (.agg #[.int .u8 1, .int .i64 s, .int .i64 p, .int .i64 n, .int .i64 a, .int .u8 u, .int .i64 e, .int .i64 t, .bool g, .bool l, .int .u8 K, .int .i64 S, .int .i64 C, .int .i64 T, .int .i64 M, .int .u8 V]) (.agg #[.int .u8 1, .int .i64 0, .int .i64 0, .int .i64 0, .int .i64 a, .int .u8 u, .int .i64 e, .int .i64 t, .bool g, .bool l, .int .u8 0, .int .i64 0, .int .i64 0, .int .i64 0, .int .i64 0, .int .u8 0])).run Try.prog w = .ok (.bool r) w := fun w => bin_eql16 hr w
  have HX := fun h => right_of (o := ⟨1, s, p, n, ⟨a, u, e, t, g, l⟩, ⟨K, S, C, T, M, V⟩⟩) (named_1 hn) hr h
  clear hr
  have hx := Lib.hid (HX (.inl hn))
  clear HX
  dsimp only at hx
  cases r
  · rw [hx.out]
    clear hx
    go_enter Try.func14, Try.ntmps14
    go_wp2_with (first | (with_reducible_and_instances (show wpList _ _ _ (Oper.mk _ (Op.load 27 _) _ _ _ _ :: _) _ _); refine wl_load Try.underlying27 rfl info16 rfl rfl rfl (by (repeat (first | assumption | (with_reducible refine alloc_at ?_; (focus (first | omega | (simp; done) | (simp; omega)))) | (with_reducible refine boxed_at ?_; (focus (first | omega | (simp; done) | (simp; omega)))) | (with_reducible refine alloc_old ?_ ?_; (focus (first | omega | (simp; done) | (simp; omega)))) | (with_reducible refine boxed_old ?_ ?_; (focus (first | omega | (simp; done) | (simp; omega)))) | (with_reducible refine drew_old ?_)))) (by rfl) ?_) | (with_reducible_and_instances (show wpList _ _ _ (Oper.mk _ (Op.store 27 _ _) _ _ _ _ :: _) _ _); refine wl_store info16 rfl rfl rfl rfl (by (repeat (first | assumption | (with_reducible refine alloc_at ?_; (focus (first | omega | (simp; done) | (simp; omega)))) | (with_reducible refine boxed_at ?_; (focus (first | omega | (simp; done) | (simp; omega)))) | (with_reducible refine alloc_old ?_ ?_; (focus (first | omega | (simp; done) | (simp; omega)))) | (with_reducible refine boxed_old ?_ ?_; (focus (first | omega | (simp; done) | (simp; omega)))) | (with_reducible refine drew_old ?_)))) (by rfl) (by rfl) (by simp [Value.oneCell']) ?_))
    go_ret
    exact ⟨rfl, by (repeat (first | assumption | (with_reducible exact Below.refl _ _) | (with_reducible refine boxed_below ?_ ?_; rotate_left; (focus (first | omega | (simp; done) | (simp; omega)))) | (with_reducible refine Below.alloc ?_ ?_ _; rotate_left; (focus (first | omega | (simp; done) | (simp; omega)))) | (with_reducible refine Below.drew ?_)))⟩
  · rw [hx.out]
    clear hx
    go_enter Try.func14, Try.ntmps14
    go_wp2_with (first | (with_reducible_and_instances (show wpList _ _ _ (Oper.mk _ (Op.load 27 _) _ _ _ _ :: _) _ _); refine wl_load Try.underlying27 rfl info16 rfl rfl rfl (by (repeat (first | assumption | (with_reducible refine alloc_at ?_; (focus (first | omega | (simp; done) | (simp; omega)))) | (with_reducible refine boxed_at ?_; (focus (first | omega | (simp; done) | (simp; omega)))) | (with_reducible refine alloc_old ?_ ?_; (focus (first | omega | (simp; done) | (simp; omega)))) | (with_reducible refine boxed_old ?_ ?_; (focus (first | omega | (simp; done) | (simp; omega)))) | (with_reducible refine drew_old ?_)))) (by rfl) ?_) | (with_reducible_and_instances (show wpList _ _ _ (Oper.mk _ (Op.store 27 _ _) _ _ _ _ :: _) _ _); refine wl_store info16 rfl rfl rfl rfl (by (repeat (first | assumption | (with_reducible refine alloc_at ?_; (focus (first | omega | (simp; done) | (simp; omega)))) | (with_reducible refine boxed_at ?_; (focus (first | omega | (simp; done) | (simp; omega)))) | (with_reducible refine alloc_old ?_ ?_; (focus (first | omega | (simp; done) | (simp; omega)))) | (with_reducible refine boxed_old ?_ ?_; (focus (first | omega | (simp; done) | (simp; omega)))) | (with_reducible refine drew_old ?_)))) (by rfl) (by rfl) (by simp [Value.oneCell']) ?_) | (go_at_call 36; refine (plright_any _ _ _ _ _ _ _).mono ?_; rintro e w' ⟨rfl, hb⟩))
    go_ret
    refine ⟨rfl, Below.trans ?_ (hb.mono (by simp; try omega))⟩
    (repeat (first | assumption | (with_reducible exact Below.refl _ _) | (with_reducible refine boxed_below ?_ ?_; rotate_left; (focus (first | omega | (simp; done) | (simp; omega)))) | (with_reducible refine Below.alloc ?_ ?_ _; rotate_left; (focus (first | omega | (simp; done) | (simp; omega)))) | (with_reducible refine Below.drew ?_)))

set_option maxHeartbeats 4000000 in
theorem lright_k2 (s p n a u e t : Int) (g l : Bool) (K S C T M V : Int) (w : World) :
    Calls Try.prog 14 #[.agg #[.int .u8 2, .int .i64 s, .int .i64 p, .int .i64 n, .int .i64 a, .int .u8 u, .int .i64 e, .int .i64 t, .bool g, .bool l, .int .u8 K, .int .i64 S, .int .i64 C, .int .i64 T, .int .i64 M, .int .u8 V]] w fun x w' => x = .returned (.int .i64 (Ov.right ⟨2, s, p, n, ⟨a, u, e, t, g, l⟩, ⟨K, S, C, T, M, V⟩⟩)) ∧ Below w.heap.size w w' := by
  have hn : nm 2 = 2 := by decide
  by_cases hc : 0 ≤ s ∧ s < 32 ∧ 0 ≤ p ∧ p < 8
  · obtain ⟨r, hr⟩ : ∃ r, decide ((⟨2, s, p, n, ⟨a, u, e, t, g, l⟩, ⟨K, S, C, T, M, V⟩⟩ : Ov) = ⟨2, s, p, 0, Pv.zero, Nv.zero⟩) = r := ⟨_, rfl⟩
    have hq : ∀ w, (binOp .eql 27 (.agg #[.int .u8 2, .int .i64 s, .int .i64 p, .int .i64 n, .int .i64 a, .int .u8 u, .int .i64 e, .int .i64 t, .bool g, .bool l, .int .u8 K, .int .i64 S, .int .i64 C, .int .i64 T, .int .i64 M, .int .u8 V]) (.agg #[.int .u8 2, .int .i64 s, .int .i64 p, .int .i64 0, .int .i64 0, .int .u8 0, .int .i64 0, .int .i64 0, .bool false, .bool false, .int .u8 0, .int .i64 0, .int .i64 0, .int .i64 0, .int .i64 0, .int .u8 0])).run Try.prog w = .ok (.bool r) w := fun w => bin_eql16 hr w
    have hx := Lib.hid (right_of (o := ⟨2, s, p, n, ⟨a, u, e, t, g, l⟩, ⟨K, S, C, T, M, V⟩⟩) (named_2 hn) hr (.inr (.inl ⟨hn, hc⟩)))
    clear hr
    dsimp only at hx
    obtain ⟨c0, c1, c2, c3⟩ := hc
    cases r
    all_goals
      rw [hx.out]
      clear hx
      go_enter Try.func14, Try.ntmps14
      go_wp2_with (first | (with_reducible_and_instances (show wpList _ _ _ (Oper.mk _ (Op.load 27 _) _ _ _ _ :: _) _ _); refine wl_load Try.underlying27 rfl info16 rfl rfl rfl (by (repeat (first | assumption | (with_reducible refine alloc_at ?_; (focus (first | omega | (simp; done) | (simp; omega)))) | (with_reducible refine boxed_at ?_; (focus (first | omega | (simp; done) | (simp; omega)))) | (with_reducible refine alloc_old ?_ ?_; (focus (first | omega | (simp; done) | (simp; omega)))) | (with_reducible refine boxed_old ?_ ?_; (focus (first | omega | (simp; done) | (simp; omega)))) | (with_reducible refine drew_old ?_)))) (by rfl) ?_) | (with_reducible_and_instances (show wpList _ _ _ (Oper.mk _ (Op.store 27 _ _) _ _ _ _ :: _) _ _); refine wl_store info16 rfl rfl rfl rfl (by (repeat (first | assumption | (with_reducible refine alloc_at ?_; (focus (first | omega | (simp; done) | (simp; omega)))) | (with_reducible refine boxed_at ?_; (focus (first | omega | (simp; done) | (simp; omega)))) | (with_reducible refine alloc_old ?_ ?_; (focus (first | omega | (simp; done) | (simp; omega)))) | (with_reducible refine boxed_old ?_ ?_; (focus (first | omega | (simp; done) | (simp; omega)))) | (with_reducible refine drew_old ?_)))) (by rfl) (by rfl) (by simp [Value.oneCell']) ?_))
      go_ret
      exact ⟨rfl, by (repeat (first | assumption | (with_reducible exact Below.refl _ _) | (with_reducible refine boxed_below ?_ ?_; rotate_left; (focus (first | omega | (simp; done) | (simp; omega)))) | (with_reducible refine Below.alloc ?_ ?_ _; rotate_left; (focus (first | omega | (simp; done) | (simp; omega)))) | (with_reducible refine Below.drew ?_)))⟩
  · rw [right_no (num_two (o := ⟨2, s, p, n, ⟨a, u, e, t, g, l⟩, ⟨K, S, C, T, M, V⟩⟩) hn hc)]
    have H : (¬ (0 ≤ s)) ∨ (0 ≤ s ∧ ¬ (s < 32)) ∨ (0 ≤ s ∧ s < 32 ∧ ¬ (0 ≤ p)) ∨ (0 ≤ s ∧ s < 32 ∧ 0 ≤ p ∧ ¬ (p < 8)) := by omega
    clear hc
    rcases H with h | ⟨_, h⟩ | ⟨_, _, h⟩ | ⟨_, _, _, h⟩
    all_goals
      try have d0 : decide (0 ≤ s) = false := decide_eq_false (by omega)
      try have d1 : decide (s < 32) = false := decide_eq_false (by omega)
      try have d2 : decide (0 ≤ p) = false := decide_eq_false (by omega)
      try have d3 : decide (p < 8) = false := decide_eq_false (by omega)
      clear h
      go_enter Try.func14, Try.ntmps14
      go_wp2_with (first | (with_reducible_and_instances (show wpList _ _ _ (Oper.mk _ (Op.load 27 _) _ _ _ _ :: _) _ _); refine wl_load Try.underlying27 rfl info16 rfl rfl rfl (by (repeat (first | assumption | (with_reducible refine alloc_at ?_; (focus (first | omega | (simp; done) | (simp; omega)))) | (with_reducible refine boxed_at ?_; (focus (first | omega | (simp; done) | (simp; omega)))) | (with_reducible refine alloc_old ?_ ?_; (focus (first | omega | (simp; done) | (simp; omega)))) | (with_reducible refine boxed_old ?_ ?_; (focus (first | omega | (simp; done) | (simp; omega)))) | (with_reducible refine drew_old ?_)))) (by rfl) ?_) | (with_reducible_and_instances (show wpList _ _ _ (Oper.mk _ (Op.store 27 _ _) _ _ _ _ :: _) _ _); refine wl_store info16 rfl rfl rfl rfl (by (repeat (first | assumption | (with_reducible refine alloc_at ?_; (focus (first | omega | (simp; done) | (simp; omega)))) | (with_reducible refine boxed_at ?_; (focus (first | omega | (simp; done) | (simp; omega)))) | (with_reducible refine alloc_old ?_ ?_; (focus (first | omega | (simp; done) | (simp; omega)))) | (with_reducible refine boxed_old ?_ ?_; (focus (first | omega | (simp; done) | (simp; omega)))) | (with_reducible refine drew_old ?_)))) (by rfl) (by rfl) (by simp [Value.oneCell']) ?_))
      go_ret
      exact ⟨rfl, by (repeat (first | assumption | (with_reducible exact Below.refl _ _) | (with_reducible refine boxed_below ?_ ?_; rotate_left; (focus (first | omega | (simp; done) | (simp; omega)))) | (with_reducible refine Below.alloc ?_ ?_ _; rotate_left; (focus (first | omega | (simp; done) | (simp; omega)))) | (with_reducible refine Below.drew ?_)))⟩

set_option maxHeartbeats 4000000 in
theorem lright_k3 (s p n a u e t : Int) (g l : Bool) (K S C T M V : Int) (w : World) :
    Calls Try.prog 14 #[.agg #[.int .u8 3, .int .i64 s, .int .i64 p, .int .i64 n, .int .i64 a, .int .u8 u, .int .i64 e, .int .i64 t, .bool g, .bool l, .int .u8 K, .int .i64 S, .int .i64 C, .int .i64 T, .int .i64 M, .int .u8 V]] w fun x w' => x = .returned (.int .i64 (Ov.right ⟨3, s, p, n, ⟨a, u, e, t, g, l⟩, ⟨K, S, C, T, M, V⟩⟩)) ∧ Below w.heap.size w w' := by
  have hn : nm 3 = 2 := by decide
  by_cases hc : 0 ≤ s ∧ s < 32 ∧ 0 ≤ p ∧ p < 8
  · obtain ⟨r, hr⟩ : ∃ r, decide ((⟨3, s, p, n, ⟨a, u, e, t, g, l⟩, ⟨K, S, C, T, M, V⟩⟩ : Ov) = ⟨3, s, p, 0, Pv.zero, Nv.zero⟩) = r := ⟨_, rfl⟩
    have hq : ∀ w, (binOp .eql 27 (.agg #[.int .u8 3, .int .i64 s, .int .i64 p, .int .i64 n, .int .i64 a, .int .u8 u, .int .i64 e, .int .i64 t, .bool g, .bool l, .int .u8 K, .int .i64 S, .int .i64 C, .int .i64 T, .int .i64 M, .int .u8 V]) (.agg #[.int .u8 3, .int .i64 s, .int .i64 p, .int .i64 0, .int .i64 0, .int .u8 0, .int .i64 0, .int .i64 0, .bool false, .bool false, .int .u8 0, .int .i64 0, .int .i64 0, .int .i64 0, .int .i64 0, .int .u8 0])).run Try.prog w = .ok (.bool r) w := fun w => bin_eql16 hr w
    have hx := Lib.hid (right_of (o := ⟨3, s, p, n, ⟨a, u, e, t, g, l⟩, ⟨K, S, C, T, M, V⟩⟩) (named_2 hn) hr (.inr (.inl ⟨hn, hc⟩)))
    clear hr
    dsimp only at hx
    obtain ⟨c0, c1, c2, c3⟩ := hc
    cases r
    all_goals
      rw [hx.out]
      clear hx
      go_enter Try.func14, Try.ntmps14
      go_wp2_with (first | (with_reducible_and_instances (show wpList _ _ _ (Oper.mk _ (Op.load 27 _) _ _ _ _ :: _) _ _); refine wl_load Try.underlying27 rfl info16 rfl rfl rfl (by (repeat (first | assumption | (with_reducible refine alloc_at ?_; (focus (first | omega | (simp; done) | (simp; omega)))) | (with_reducible refine boxed_at ?_; (focus (first | omega | (simp; done) | (simp; omega)))) | (with_reducible refine alloc_old ?_ ?_; (focus (first | omega | (simp; done) | (simp; omega)))) | (with_reducible refine boxed_old ?_ ?_; (focus (first | omega | (simp; done) | (simp; omega)))) | (with_reducible refine drew_old ?_)))) (by rfl) ?_) | (with_reducible_and_instances (show wpList _ _ _ (Oper.mk _ (Op.store 27 _ _) _ _ _ _ :: _) _ _); refine wl_store info16 rfl rfl rfl rfl (by (repeat (first | assumption | (with_reducible refine alloc_at ?_; (focus (first | omega | (simp; done) | (simp; omega)))) | (with_reducible refine boxed_at ?_; (focus (first | omega | (simp; done) | (simp; omega)))) | (with_reducible refine alloc_old ?_ ?_; (focus (first | omega | (simp; done) | (simp; omega)))) | (with_reducible refine boxed_old ?_ ?_; (focus (first | omega | (simp; done) | (simp; omega)))) | (with_reducible refine drew_old ?_)))) (by rfl) (by rfl) (by simp [Value.oneCell']) ?_))
      go_ret
      exact ⟨rfl, by (repeat (first | assumption | (with_reducible exact Below.refl _ _) | (with_reducible refine boxed_below ?_ ?_; rotate_left; (focus (first | omega | (simp; done) | (simp; omega)))) | (with_reducible refine Below.alloc ?_ ?_ _; rotate_left; (focus (first | omega | (simp; done) | (simp; omega)))) | (with_reducible refine Below.drew ?_)))⟩
  · rw [right_no (num_two (o := ⟨3, s, p, n, ⟨a, u, e, t, g, l⟩, ⟨K, S, C, T, M, V⟩⟩) hn hc)]
    have H : (¬ (0 ≤ s)) ∨ (0 ≤ s ∧ ¬ (s < 32)) ∨ (0 ≤ s ∧ s < 32 ∧ ¬ (0 ≤ p)) ∨ (0 ≤ s ∧ s < 32 ∧ 0 ≤ p ∧ ¬ (p < 8)) := by omega
    clear hc
    rcases H with h | ⟨_, h⟩ | ⟨_, _, h⟩ | ⟨_, _, _, h⟩
    all_goals
      try have d0 : decide (0 ≤ s) = false := decide_eq_false (by omega)
      try have d1 : decide (s < 32) = false := decide_eq_false (by omega)
      try have d2 : decide (0 ≤ p) = false := decide_eq_false (by omega)
      try have d3 : decide (p < 8) = false := decide_eq_false (by omega)
      clear h
      go_enter Try.func14, Try.ntmps14
      go_wp2_with (first | (with_reducible_and_instances (show wpList _ _ _ (Oper.mk _ (Op.load 27 _) _ _ _ _ :: _) _ _); refine wl_load Try.underlying27 rfl info16 rfl rfl rfl (by (repeat (first | assumption | (with_reducible refine alloc_at ?_; (focus (first | omega | (simp; done) | (simp; omega)))) | (with_reducible refine boxed_at ?_; (focus (first | omega | (simp; done) | (simp; omega)))) | (with_reducible refine alloc_old ?_ ?_; (focus (first | omega | (simp; done) | (simp; omega)))) | (with_reducible refine boxed_old ?_ ?_; (focus (first | omega | (simp; done) | (simp; omega)))) | (with_reducible refine drew_old ?_)))) (by rfl) ?_) | (with_reducible_and_instances (show wpList _ _ _ (Oper.mk _ (Op.store 27 _ _) _ _ _ _ :: _) _ _); refine wl_store info16 rfl rfl rfl rfl (by (repeat (first | assumption | (with_reducible refine alloc_at ?_; (focus (first | omega | (simp; done) | (simp; omega)))) | (with_reducible refine boxed_at ?_; (focus (first | omega | (simp; done) | (simp; omega)))) | (with_reducible refine alloc_old ?_ ?_; (focus (first | omega | (simp; done) | (simp; omega)))) | (with_reducible refine boxed_old ?_ ?_; (focus (first | omega | (simp; done) | (simp; omega)))) | (with_reducible refine drew_old ?_)))) (by rfl) (by rfl) (by simp [Value.oneCell']) ?_))
      go_ret
      exact ⟨rfl, by (repeat (first | assumption | (with_reducible exact Below.refl _ _) | (with_reducible refine boxed_below ?_ ?_; rotate_left; (focus (first | omega | (simp; done) | (simp; omega)))) | (with_reducible refine Below.alloc ?_ ?_ _; rotate_left; (focus (first | omega | (simp; done) | (simp; omega)))) | (with_reducible refine Below.drew ?_)))⟩

set_option maxHeartbeats 4000000 in
theorem lright_k4 (s p n a u e t : Int) (g l : Bool) (K S C T M V : Int) (w : World) :
    Calls Try.prog 14 #[.agg #[.int .u8 4, .int .i64 s, .int .i64 p, .int .i64 n, .int .i64 a, .int .u8 u, .int .i64 e, .int .i64 t, .bool g, .bool l, .int .u8 K, .int .i64 S, .int .i64 C, .int .i64 T, .int .i64 M, .int .u8 V]] w fun x w' => x = .returned (.int .i64 (Ov.right ⟨4, s, p, n, ⟨a, u, e, t, g, l⟩, ⟨K, S, C, T, M, V⟩⟩)) ∧ Below w.heap.size w w' := by
  have hn : nm 4 = 3 := by decide
  by_cases hc : 0 ≤ s ∧ s < 32
  · obtain ⟨r, hr⟩ : ∃ r, decide ((⟨4, s, p, n, ⟨a, u, e, t, g, l⟩, ⟨K, S, C, T, M, V⟩⟩ : Ov) = ⟨4, s, 0, 0, Pv.zero, Nv.zero⟩) = r := ⟨_, rfl⟩
    have hq : ∀ w, (binOp .eql 27 (.agg #[.int .u8 4, .int .i64 s, .int .i64 p, .int .i64 n, .int .i64 a, .int .u8 u, .int .i64 e, .int .i64 t, .bool g, .bool l, .int .u8 K, .int .i64 S, .int .i64 C, .int .i64 T, .int .i64 M, .int .u8 V]) (.agg #[.int .u8 4, .int .i64 s, .int .i64 0, .int .i64 0, .int .i64 0, .int .u8 0, .int .i64 0, .int .i64 0, .bool false, .bool false, .int .u8 0, .int .i64 0, .int .i64 0, .int .i64 0, .int .i64 0, .int .u8 0])).run Try.prog w = .ok (.bool r) w := fun w => bin_eql16 hr w
    have hx := Lib.hid (right_of (o := ⟨4, s, p, n, ⟨a, u, e, t, g, l⟩, ⟨K, S, C, T, M, V⟩⟩) (named_3 hn) hr (.inr (.inr (.inl ⟨hn, hc⟩))))
    clear hr
    dsimp only at hx
    obtain ⟨c0, c1⟩ := hc
    cases r
    all_goals
      rw [hx.out]
      clear hx
      go_enter Try.func14, Try.ntmps14
      go_wp2_with (first | (with_reducible_and_instances (show wpList _ _ _ (Oper.mk _ (Op.load 27 _) _ _ _ _ :: _) _ _); refine wl_load Try.underlying27 rfl info16 rfl rfl rfl (by (repeat (first | assumption | (with_reducible refine alloc_at ?_; (focus (first | omega | (simp; done) | (simp; omega)))) | (with_reducible refine boxed_at ?_; (focus (first | omega | (simp; done) | (simp; omega)))) | (with_reducible refine alloc_old ?_ ?_; (focus (first | omega | (simp; done) | (simp; omega)))) | (with_reducible refine boxed_old ?_ ?_; (focus (first | omega | (simp; done) | (simp; omega)))) | (with_reducible refine drew_old ?_)))) (by rfl) ?_) | (with_reducible_and_instances (show wpList _ _ _ (Oper.mk _ (Op.store 27 _ _) _ _ _ _ :: _) _ _); refine wl_store info16 rfl rfl rfl rfl (by (repeat (first | assumption | (with_reducible refine alloc_at ?_; (focus (first | omega | (simp; done) | (simp; omega)))) | (with_reducible refine boxed_at ?_; (focus (first | omega | (simp; done) | (simp; omega)))) | (with_reducible refine alloc_old ?_ ?_; (focus (first | omega | (simp; done) | (simp; omega)))) | (with_reducible refine boxed_old ?_ ?_; (focus (first | omega | (simp; done) | (simp; omega)))) | (with_reducible refine drew_old ?_)))) (by rfl) (by rfl) (by simp [Value.oneCell']) ?_))
      go_ret
      exact ⟨rfl, by (repeat (first | assumption | (with_reducible exact Below.refl _ _) | (with_reducible refine boxed_below ?_ ?_; rotate_left; (focus (first | omega | (simp; done) | (simp; omega)))) | (with_reducible refine Below.alloc ?_ ?_ _; rotate_left; (focus (first | omega | (simp; done) | (simp; omega)))) | (with_reducible refine Below.drew ?_)))⟩
  · rw [right_no (num_three (o := ⟨4, s, p, n, ⟨a, u, e, t, g, l⟩, ⟨K, S, C, T, M, V⟩⟩) hn hc)]
    have H : (¬ (0 ≤ s)) ∨ (0 ≤ s ∧ ¬ (s < 32)) := by omega
    clear hc
    rcases H with h | ⟨_, h⟩
    all_goals
      try have d0 : decide (0 ≤ s) = false := decide_eq_false (by omega)
      try have d1 : decide (s < 32) = false := decide_eq_false (by omega)
      clear h
      go_enter Try.func14, Try.ntmps14
      go_wp2_with (first | (with_reducible_and_instances (show wpList _ _ _ (Oper.mk _ (Op.load 27 _) _ _ _ _ :: _) _ _); refine wl_load Try.underlying27 rfl info16 rfl rfl rfl (by (repeat (first | assumption | (with_reducible refine alloc_at ?_; (focus (first | omega | (simp; done) | (simp; omega)))) | (with_reducible refine boxed_at ?_; (focus (first | omega | (simp; done) | (simp; omega)))) | (with_reducible refine alloc_old ?_ ?_; (focus (first | omega | (simp; done) | (simp; omega)))) | (with_reducible refine boxed_old ?_ ?_; (focus (first | omega | (simp; done) | (simp; omega)))) | (with_reducible refine drew_old ?_)))) (by rfl) ?_) | (with_reducible_and_instances (show wpList _ _ _ (Oper.mk _ (Op.store 27 _ _) _ _ _ _ :: _) _ _); refine wl_store info16 rfl rfl rfl rfl (by (repeat (first | assumption | (with_reducible refine alloc_at ?_; (focus (first | omega | (simp; done) | (simp; omega)))) | (with_reducible refine boxed_at ?_; (focus (first | omega | (simp; done) | (simp; omega)))) | (with_reducible refine alloc_old ?_ ?_; (focus (first | omega | (simp; done) | (simp; omega)))) | (with_reducible refine boxed_old ?_ ?_; (focus (first | omega | (simp; done) | (simp; omega)))) | (with_reducible refine drew_old ?_)))) (by rfl) (by rfl) (by simp [Value.oneCell']) ?_))
      go_ret
      exact ⟨rfl, by (repeat (first | assumption | (with_reducible exact Below.refl _ _) | (with_reducible refine boxed_below ?_ ?_; rotate_left; (focus (first | omega | (simp; done) | (simp; omega)))) | (with_reducible refine Below.alloc ?_ ?_ _; rotate_left; (focus (first | omega | (simp; done) | (simp; omega)))) | (with_reducible refine Below.drew ?_)))⟩

set_option maxHeartbeats 4000000 in
theorem lright_k5 (s p n a u e t : Int) (g l : Bool) (K S C T M V : Int) (w : World) :
    Calls Try.prog 14 #[.agg #[.int .u8 5, .int .i64 s, .int .i64 p, .int .i64 n, .int .i64 a, .int .u8 u, .int .i64 e, .int .i64 t, .bool g, .bool l, .int .u8 K, .int .i64 S, .int .i64 C, .int .i64 T, .int .i64 M, .int .u8 V]] w fun x w' => x = .returned (.int .i64 (Ov.right ⟨5, s, p, n, ⟨a, u, e, t, g, l⟩, ⟨K, S, C, T, M, V⟩⟩)) ∧ Below w.heap.size w w' := by
  have hn : nm 5 = 3 := by decide
  by_cases hc : 0 ≤ s ∧ s < 32
  · obtain ⟨r, hr⟩ : ∃ r, decide ((⟨5, s, p, n, ⟨a, u, e, t, g, l⟩, ⟨K, S, C, T, M, V⟩⟩ : Ov) = ⟨5, s, 0, 0, Pv.zero, Nv.zero⟩) = r := ⟨_, rfl⟩
    have hq : ∀ w, (binOp .eql 27 (.agg #[.int .u8 5, .int .i64 s, .int .i64 p, .int .i64 n, .int .i64 a, .int .u8 u, .int .i64 e, .int .i64 t, .bool g, .bool l, .int .u8 K, .int .i64 S, .int .i64 C, .int .i64 T, .int .i64 M, .int .u8 V]) (.agg #[.int .u8 5, .int .i64 s, .int .i64 0, .int .i64 0, .int .i64 0, .int .u8 0, .int .i64 0, .int .i64 0, .bool false, .bool false, .int .u8 0, .int .i64 0, .int .i64 0, .int .i64 0, .int .i64 0, .int .u8 0])).run Try.prog w = .ok (.bool r) w := fun w => bin_eql16 hr w
    have hx := Lib.hid (right_of (o := ⟨5, s, p, n, ⟨a, u, e, t, g, l⟩, ⟨K, S, C, T, M, V⟩⟩) (named_3 hn) hr (.inr (.inr (.inl ⟨hn, hc⟩))))
    clear hr
    dsimp only at hx
    obtain ⟨c0, c1⟩ := hc
    cases r
    all_goals
      rw [hx.out]
      clear hx
      go_enter Try.func14, Try.ntmps14
      go_wp2_with (first | (with_reducible_and_instances (show wpList _ _ _ (Oper.mk _ (Op.load 27 _) _ _ _ _ :: _) _ _); refine wl_load Try.underlying27 rfl info16 rfl rfl rfl (by (repeat (first | assumption | (with_reducible refine alloc_at ?_; (focus (first | omega | (simp; done) | (simp; omega)))) | (with_reducible refine boxed_at ?_; (focus (first | omega | (simp; done) | (simp; omega)))) | (with_reducible refine alloc_old ?_ ?_; (focus (first | omega | (simp; done) | (simp; omega)))) | (with_reducible refine boxed_old ?_ ?_; (focus (first | omega | (simp; done) | (simp; omega)))) | (with_reducible refine drew_old ?_)))) (by rfl) ?_) | (with_reducible_and_instances (show wpList _ _ _ (Oper.mk _ (Op.store 27 _ _) _ _ _ _ :: _) _ _); refine wl_store info16 rfl rfl rfl rfl (by (repeat (first | assumption | (with_reducible refine alloc_at ?_; (focus (first | omega | (simp; done) | (simp; omega)))) | (with_reducible refine boxed_at ?_; (focus (first | omega | (simp; done) | (simp; omega)))) | (with_reducible refine alloc_old ?_ ?_; (focus (first | omega | (simp; done) | (simp; omega)))) | (with_reducible refine boxed_old ?_ ?_; (focus (first | omega | (simp; done) | (simp; omega)))) | (with_reducible refine drew_old ?_)))) (by rfl) (by rfl) (by simp [Value.oneCell']) ?_))
      go_ret
      exact ⟨rfl, by (repeat (first | assumption | (with_reducible exact Below.refl _ _) | (with_reducible refine boxed_below ?_ ?_; rotate_left; (focus (first | omega | (simp; done) | (simp; omega)))) | (with_reducible refine Below.alloc ?_ ?_ _; rotate_left; (focus (first | omega | (simp; done) | (simp; omega)))) | (with_reducible refine Below.drew ?_)))⟩
  · rw [right_no (num_three (o := ⟨5, s, p, n, ⟨a, u, e, t, g, l⟩, ⟨K, S, C, T, M, V⟩⟩) hn hc)]
    have H : (¬ (0 ≤ s)) ∨ (0 ≤ s ∧ ¬ (s < 32)) := by omega
    clear hc
    rcases H with h | ⟨_, h⟩
    all_goals
      try have d0 : decide (0 ≤ s) = false := decide_eq_false (by omega)
      try have d1 : decide (s < 32) = false := decide_eq_false (by omega)
      clear h
      go_enter Try.func14, Try.ntmps14
      go_wp2_with (first | (with_reducible_and_instances (show wpList _ _ _ (Oper.mk _ (Op.load 27 _) _ _ _ _ :: _) _ _); refine wl_load Try.underlying27 rfl info16 rfl rfl rfl (by (repeat (first | assumption | (with_reducible refine alloc_at ?_; (focus (first | omega | (simp; done) | (simp; omega)))) | (with_reducible refine boxed_at ?_; (focus (first | omega | (simp; done) | (simp; omega)))) | (with_reducible refine alloc_old ?_ ?_; (focus (first | omega | (simp; done) | (simp; omega)))) | (with_reducible refine boxed_old ?_ ?_; (focus (first | omega | (simp; done) | (simp; omega)))) | (with_reducible refine drew_old ?_)))) (by rfl) ?_) | (with_reducible_and_instances (show wpList _ _ _ (Oper.mk _ (Op.store 27 _ _) _ _ _ _ :: _) _ _); refine wl_store info16 rfl rfl rfl rfl (by (repeat (first | assumption | (with_reducible refine alloc_at ?_; (focus (first | omega | (simp; done) | (simp; omega)))) | (with_reducible refine boxed_at ?_; (focus (first | omega | (simp; done) | (simp; omega)))) | (with_reducible refine alloc_old ?_ ?_; (focus (first | omega | (simp; done) | (simp; omega)))) | (with_reducible refine boxed_old ?_ ?_; (focus (first | omega | (simp; done) | (simp; omega)))) | (with_reducible refine drew_old ?_)))) (by rfl) (by rfl) (by simp [Value.oneCell']) ?_))
      go_ret
      exact ⟨rfl, by (repeat (first | assumption | (with_reducible exact Below.refl _ _) | (with_reducible refine boxed_below ?_ ?_; rotate_left; (focus (first | omega | (simp; done) | (simp; omega)))) | (with_reducible refine Below.alloc ?_ ?_ _; rotate_left; (focus (first | omega | (simp; done) | (simp; omega)))) | (with_reducible refine Below.drew ?_)))⟩

set_option maxHeartbeats 4000000 in
theorem lright_k6 (s p n a u e t : Int) (g l : Bool) (K S C T M V : Int) (w : World) :
    Calls Try.prog 14 #[.agg #[.int .u8 6, .int .i64 s, .int .i64 p, .int .i64 n, .int .i64 a, .int .u8 u, .int .i64 e, .int .i64 t, .bool g, .bool l, .int .u8 K, .int .i64 S, .int .i64 C, .int .i64 T, .int .i64 M, .int .u8 V]] w fun x w' => x = .returned (.int .i64 (Ov.right ⟨6, s, p, n, ⟨a, u, e, t, g, l⟩, ⟨K, S, C, T, M, V⟩⟩)) ∧ Below w.heap.size w w' := by
  have hn : nm 6 = 3 := by decide
  by_cases hc : 0 ≤ s ∧ s < 32
  · obtain ⟨r, hr⟩ : ∃ r, decide ((⟨6, s, p, n, ⟨a, u, e, t, g, l⟩, ⟨K, S, C, T, M, V⟩⟩ : Ov) = ⟨6, s, 0, 0, Pv.zero, Nv.zero⟩) = r := ⟨_, rfl⟩
    have hq : ∀ w, (binOp .eql 27 (.agg #[.int .u8 6, .int .i64 s, .int .i64 p, .int .i64 n, .int .i64 a, .int .u8 u, .int .i64 e, .int .i64 t, .bool g, .bool l, .int .u8 K, .int .i64 S, .int .i64 C, .int .i64 T, .int .i64 M, .int .u8 V]) (.agg #[.int .u8 6, .int .i64 s, .int .i64 0, .int .i64 0, .int .i64 0, .int .u8 0, .int .i64 0, .int .i64 0, .bool false, .bool false, .int .u8 0, .int .i64 0, .int .i64 0, .int .i64 0, .int .i64 0, .int .u8 0])).run Try.prog w = .ok (.bool r) w := fun w => bin_eql16 hr w
    have hx := Lib.hid (right_of (o := ⟨6, s, p, n, ⟨a, u, e, t, g, l⟩, ⟨K, S, C, T, M, V⟩⟩) (named_3 hn) hr (.inr (.inr (.inl ⟨hn, hc⟩))))
    clear hr
    dsimp only at hx
    obtain ⟨c0, c1⟩ := hc
    cases r
    all_goals
      rw [hx.out]
      clear hx
      go_enter Try.func14, Try.ntmps14
      go_wp2_with (first | (with_reducible_and_instances (show wpList _ _ _ (Oper.mk _ (Op.load 27 _) _ _ _ _ :: _) _ _); refine wl_load Try.underlying27 rfl info16 rfl rfl rfl (by (repeat (first | assumption | (with_reducible refine alloc_at ?_; (focus (first | omega | (simp; done) | (simp; omega)))) | (with_reducible refine boxed_at ?_; (focus (first | omega | (simp; done) | (simp; omega)))) | (with_reducible refine alloc_old ?_ ?_; (focus (first | omega | (simp; done) | (simp; omega)))) | (with_reducible refine boxed_old ?_ ?_; (focus (first | omega | (simp; done) | (simp; omega)))) | (with_reducible refine drew_old ?_)))) (by rfl) ?_) | (with_reducible_and_instances (show wpList _ _ _ (Oper.mk _ (Op.store 27 _ _) _ _ _ _ :: _) _ _); refine wl_store info16 rfl rfl rfl rfl (by (repeat (first | assumption | (with_reducible refine alloc_at ?_; (focus (first | omega | (simp; done) | (simp; omega)))) | (with_reducible refine boxed_at ?_; (focus (first | omega | (simp; done) | (simp; omega)))) | (with_reducible refine alloc_old ?_ ?_; (focus (first | omega | (simp; done) | (simp; omega)))) | (with_reducible refine boxed_old ?_ ?_; (focus (first | omega | (simp; done) | (simp; omega)))) | (with_reducible refine drew_old ?_)))) (by rfl) (by rfl) (by simp [Value.oneCell']) ?_))
      go_ret
      exact ⟨rfl, by (repeat (first | assumption | (with_reducible exact Below.refl _ _) | (with_reducible refine boxed_below ?_ ?_; rotate_left; (focus (first | omega | (simp; done) | (simp; omega)))) | (with_reducible refine Below.alloc ?_ ?_ _; rotate_left; (focus (first | omega | (simp; done) | (simp; omega)))) | (with_reducible refine Below.drew ?_)))⟩
  · rw [right_no (num_three (o := ⟨6, s, p, n, ⟨a, u, e, t, g, l⟩, ⟨K, S, C, T, M, V⟩⟩) hn hc)]
    have H : (¬ (0 ≤ s)) ∨ (0 ≤ s ∧ ¬ (s < 32)) := by omega
    clear hc
    rcases H with h | ⟨_, h⟩
    all_goals
      try have d0 : decide (0 ≤ s) = false := decide_eq_false (by omega)
      try have d1 : decide (s < 32) = false := decide_eq_false (by omega)
      clear h
      go_enter Try.func14, Try.ntmps14
      go_wp2_with (first | (with_reducible_and_instances (show wpList _ _ _ (Oper.mk _ (Op.load 27 _) _ _ _ _ :: _) _ _); refine wl_load Try.underlying27 rfl info16 rfl rfl rfl (by (repeat (first | assumption | (with_reducible refine alloc_at ?_; (focus (first | omega | (simp; done) | (simp; omega)))) | (with_reducible refine boxed_at ?_; (focus (first | omega | (simp; done) | (simp; omega)))) | (with_reducible refine alloc_old ?_ ?_; (focus (first | omega | (simp; done) | (simp; omega)))) | (with_reducible refine boxed_old ?_ ?_; (focus (first | omega | (simp; done) | (simp; omega)))) | (with_reducible refine drew_old ?_)))) (by rfl) ?_) | (with_reducible_and_instances (show wpList _ _ _ (Oper.mk _ (Op.store 27 _ _) _ _ _ _ :: _) _ _); refine wl_store info16 rfl rfl rfl rfl (by (repeat (first | assumption | (with_reducible refine alloc_at ?_; (focus (first | omega | (simp; done) | (simp; omega)))) | (with_reducible refine boxed_at ?_; (focus (first | omega | (simp; done) | (simp; omega)))) | (with_reducible refine alloc_old ?_ ?_; (focus (first | omega | (simp; done) | (simp; omega)))) | (with_reducible refine boxed_old ?_ ?_; (focus (first | omega | (simp; done) | (simp; omega)))) | (with_reducible refine drew_old ?_)))) (by rfl) (by rfl) (by simp [Value.oneCell']) ?_))
      go_ret
      exact ⟨rfl, by (repeat (first | assumption | (with_reducible exact Below.refl _ _) | (with_reducible refine boxed_below ?_ ?_; rotate_left; (focus (first | omega | (simp; done) | (simp; omega)))) | (with_reducible refine Below.alloc ?_ ?_ _; rotate_left; (focus (first | omega | (simp; done) | (simp; omega)))) | (with_reducible refine Below.drew ?_)))⟩

set_option maxHeartbeats 4000000 in
theorem lright_k7 (s p n a u e t : Int) (g l : Bool) (K S C T M V : Int) (w : World) :
    Calls Try.prog 14 #[.agg #[.int .u8 7, .int .i64 s, .int .i64 p, .int .i64 n, .int .i64 a, .int .u8 u, .int .i64 e, .int .i64 t, .bool g, .bool l, .int .u8 K, .int .i64 S, .int .i64 C, .int .i64 T, .int .i64 M, .int .u8 V]] w fun x w' => x = .returned (.int .i64 (Ov.right ⟨7, s, p, n, ⟨a, u, e, t, g, l⟩, ⟨K, S, C, T, M, V⟩⟩)) ∧ Below w.heap.size w w' := by
  have hn : nm 7 = 3 := by decide
  by_cases hc : 0 ≤ s ∧ s < 32
  · obtain ⟨r, hr⟩ : ∃ r, decide ((⟨7, s, p, n, ⟨a, u, e, t, g, l⟩, ⟨K, S, C, T, M, V⟩⟩ : Ov) = ⟨7, s, 0, 0, Pv.zero, Nv.zero⟩) = r := ⟨_, rfl⟩
    have hq : ∀ w, (binOp .eql 27 (.agg #[.int .u8 7, .int .i64 s, .int .i64 p, .int .i64 n, .int .i64 a, .int .u8 u, .int .i64 e, .int .i64 t, .bool g, .bool l, .int .u8 K, .int .i64 S, .int .i64 C, .int .i64 T, .int .i64 M, .int .u8 V]) (.agg #[.int .u8 7, .int .i64 s, .int .i64 0, .int .i64 0, .int .i64 0, .int .u8 0, .int .i64 0, .int .i64 0, .bool false, .bool false, .int .u8 0, .int .i64 0, .int .i64 0, .int .i64 0, .int .i64 0, .int .u8 0])).run Try.prog w = .ok (.bool r) w := fun w => bin_eql16 hr w
    have hx := Lib.hid (right_of (o := ⟨7, s, p, n, ⟨a, u, e, t, g, l⟩, ⟨K, S, C, T, M, V⟩⟩) (named_3 hn) hr (.inr (.inr (.inl ⟨hn, hc⟩))))
    clear hr
    dsimp only at hx
    obtain ⟨c0, c1⟩ := hc
    cases r
    all_goals
      rw [hx.out]
      clear hx
      go_enter Try.func14, Try.ntmps14
      go_wp2_with (first | (with_reducible_and_instances (show wpList _ _ _ (Oper.mk _ (Op.load 27 _) _ _ _ _ :: _) _ _); refine wl_load Try.underlying27 rfl info16 rfl rfl rfl (by (repeat (first | assumption | (with_reducible refine alloc_at ?_; (focus (first | omega | (simp; done) | (simp; omega)))) | (with_reducible refine boxed_at ?_; (focus (first | omega | (simp; done) | (simp; omega)))) | (with_reducible refine alloc_old ?_ ?_; (focus (first | omega | (simp; done) | (simp; omega)))) | (with_reducible refine boxed_old ?_ ?_; (focus (first | omega | (simp; done) | (simp; omega)))) | (with_reducible refine drew_old ?_)))) (by rfl) ?_) | (with_reducible_and_instances (show wpList _ _ _ (Oper.mk _ (Op.store 27 _ _) _ _ _ _ :: _) _ _); refine wl_store info16 rfl rfl rfl rfl (by (repeat (first | assumption | (with_reducible refine alloc_at ?_; (focus (first | omega | (simp; done) | (simp; omega)))) | (with_reducible refine boxed_at ?_; (focus (first | omega | (simp; done) | (simp; omega)))) | (with_reducible refine alloc_old ?_ ?_; (focus (first | omega | (simp; done) | (simp; omega)))) | (with_reducible refine boxed_old ?_ ?_; (focus (first | omega | (simp; done) | (simp; omega)))) | (with_reducible refine drew_old ?_)))) (by rfl) (by rfl) (by simp [Value.oneCell']) ?_))
      go_ret
      exact ⟨rfl, by (repeat (first | assumption | (with_reducible exact Below.refl _ _) | (with_reducible refine boxed_below ?_ ?_; rotate_left; (focus (first | omega | (simp; done) | (simp; omega)))) | (with_reducible refine Below.alloc ?_ ?_ _; rotate_left; (focus (first | omega | (simp; done) | (simp; omega)))) | (with_reducible refine Below.drew ?_)))⟩
  · rw [right_no (num_three (o := ⟨7, s, p, n, ⟨a, u, e, t, g, l⟩, ⟨K, S, C, T, M, V⟩⟩) hn hc)]
    have H : (¬ (0 ≤ s)) ∨ (0 ≤ s ∧ ¬ (s < 32)) := by omega
    clear hc
    rcases H with h | ⟨_, h⟩
    all_goals
      try have d0 : decide (0 ≤ s) = false := decide_eq_false (by omega)
      try have d1 : decide (s < 32) = false := decide_eq_false (by omega)
      clear h
      go_enter Try.func14, Try.ntmps14
      go_wp2_with (first | (with_reducible_and_instances (show wpList _ _ _ (Oper.mk _ (Op.load 27 _) _ _ _ _ :: _) _ _); refine wl_load Try.underlying27 rfl info16 rfl rfl rfl (by (repeat (first | assumption | (with_reducible refine alloc_at ?_; (focus (first | omega | (simp; done) | (simp; omega)))) | (with_reducible refine boxed_at ?_; (focus (first | omega | (simp; done) | (simp; omega)))) | (with_reducible refine alloc_old ?_ ?_; (focus (first | omega | (simp; done) | (simp; omega)))) | (with_reducible refine boxed_old ?_ ?_; (focus (first | omega | (simp; done) | (simp; omega)))) | (with_reducible refine drew_old ?_)))) (by rfl) ?_) | (with_reducible_and_instances (show wpList _ _ _ (Oper.mk _ (Op.store 27 _ _) _ _ _ _ :: _) _ _); refine wl_store info16 rfl rfl rfl rfl (by (repeat (first | assumption | (with_reducible refine alloc_at ?_; (focus (first | omega | (simp; done) | (simp; omega)))) | (with_reducible refine boxed_at ?_; (focus (first | omega | (simp; done) | (simp; omega)))) | (with_reducible refine alloc_old ?_ ?_; (focus (first | omega | (simp; done) | (simp; omega)))) | (with_reducible refine boxed_old ?_ ?_; (focus (first | omega | (simp; done) | (simp; omega)))) | (with_reducible refine drew_old ?_)))) (by rfl) (by rfl) (by simp [Value.oneCell']) ?_))
      go_ret
      exact ⟨rfl, by (repeat (first | assumption | (with_reducible exact Below.refl _ _) | (with_reducible refine boxed_below ?_ ?_; rotate_left; (focus (first | omega | (simp; done) | (simp; omega)))) | (with_reducible refine Below.alloc ?_ ?_ _; rotate_left; (focus (first | omega | (simp; done) | (simp; omega)))) | (with_reducible refine Below.drew ?_)))⟩

set_option maxHeartbeats 4000000 in
theorem lright_k8 (s p n a u e t : Int) (g l : Bool) (K S C T M V : Int) (w : World) :
    Calls Try.prog 14 #[.agg #[.int .u8 8, .int .i64 s, .int .i64 p, .int .i64 n, .int .i64 a, .int .u8 u, .int .i64 e, .int .i64 t, .bool g, .bool l, .int .u8 K, .int .i64 S, .int .i64 C, .int .i64 T, .int .i64 M, .int .u8 V]] w fun x w' => x = .returned (.int .i64 (Ov.right ⟨8, s, p, n, ⟨a, u, e, t, g, l⟩, ⟨K, S, C, T, M, V⟩⟩)) ∧ Below w.heap.size w w' := by
  have hn : nm 8 = 3 := by decide
  by_cases hc : 0 ≤ s ∧ s < 32
  · obtain ⟨r, hr⟩ : ∃ r, decide ((⟨8, s, p, n, ⟨a, u, e, t, g, l⟩, ⟨K, S, C, T, M, V⟩⟩ : Ov) = ⟨8, s, 0, 0, Pv.zero, Nv.zero⟩) = r := ⟨_, rfl⟩
    have hq : ∀ w, (binOp .eql 27 (.agg #[.int .u8 8, .int .i64 s, .int .i64 p, .int .i64 n, .int .i64 a, .int .u8 u, .int .i64 e, .int .i64 t, .bool g, .bool l, .int .u8 K, .int .i64 S, .int .i64 C, .int .i64 T, .int .i64 M, .int .u8 V]) (.agg #[.int .u8 8, .int .i64 s, .int .i64 0, .int .i64 0, .int .i64 0, .int .u8 0, .int .i64 0, .int .i64 0, .bool false, .bool false, .int .u8 0, .int .i64 0, .int .i64 0, .int .i64 0, .int .i64 0, .int .u8 0])).run Try.prog w = .ok (.bool r) w := fun w => bin_eql16 hr w
    have hx := Lib.hid (right_of (o := ⟨8, s, p, n, ⟨a, u, e, t, g, l⟩, ⟨K, S, C, T, M, V⟩⟩) (named_3 hn) hr (.inr (.inr (.inl ⟨hn, hc⟩))))
    clear hr
    dsimp only at hx
    obtain ⟨c0, c1⟩ := hc
    cases r
    all_goals
      rw [hx.out]
      clear hx
      go_enter Try.func14, Try.ntmps14
      go_wp2_with (first | (with_reducible_and_instances (show wpList _ _ _ (Oper.mk _ (Op.load 27 _) _ _ _ _ :: _) _ _); refine wl_load Try.underlying27 rfl info16 rfl rfl rfl (by (repeat (first | assumption | (with_reducible refine alloc_at ?_; (focus (first | omega | (simp; done) | (simp; omega)))) | (with_reducible refine boxed_at ?_; (focus (first | omega | (simp; done) | (simp; omega)))) | (with_reducible refine alloc_old ?_ ?_; (focus (first | omega | (simp; done) | (simp; omega)))) | (with_reducible refine boxed_old ?_ ?_; (focus (first | omega | (simp; done) | (simp; omega)))) | (with_reducible refine drew_old ?_)))) (by rfl) ?_) | (with_reducible_and_instances (show wpList _ _ _ (Oper.mk _ (Op.store 27 _ _) _ _ _ _ :: _) _ _); refine wl_store info16 rfl rfl rfl rfl (by (repeat (first | assumption | (with_reducible refine alloc_at ?_; (focus (first | omega | (simp; done) | (simp; omega)))) | (with_reducible refine boxed_at ?_; (focus (first | omega | (simp; done) | (simp; omega)))) | (with_reducible refine alloc_old ?_ ?_; (focus (first | omega | (simp; done) | (simp; omega)))) | (with_reducible refine boxed_old ?_ ?_; (focus (first | omega | (simp; done) | (simp; omega)))) | (with_reducible refine drew_old ?_)))) (by rfl) (by rfl) (by simp [Value.oneCell']) ?_))
      go_ret
      exact ⟨rfl, by (repeat (first | assumption | (with_reducible exact Below.refl _ _) | (with_reducible refine boxed_below ?_ ?_; rotate_left; (focus (first | omega | (simp; done) | (simp; omega)))) | (with_reducible refine Below.alloc ?_ ?_ _; rotate_left; (focus (first | omega | (simp; done) | (simp; omega)))) | (with_reducible refine Below.drew ?_)))⟩
  · rw [right_no (num_three (o := ⟨8, s, p, n, ⟨a, u, e, t, g, l⟩, ⟨K, S, C, T, M, V⟩⟩) hn hc)]
    have H : (¬ (0 ≤ s)) ∨ (0 ≤ s ∧ ¬ (s < 32)) := by omega
    clear hc
    rcases H with h | ⟨_, h⟩
    all_goals
      try have d0 : decide (0 ≤ s) = false := decide_eq_false (by omega)
      try have d1 : decide (s < 32) = false := decide_eq_false (by omega)
      clear h
      go_enter Try.func14, Try.ntmps14
      go_wp2_with (first | (with_reducible_and_instances (show wpList _ _ _ (Oper.mk _ (Op.load 27 _) _ _ _ _ :: _) _ _); refine wl_load Try.underlying27 rfl info16 rfl rfl rfl (by (repeat (first | assumption | (with_reducible refine alloc_at ?_; (focus (first | omega | (simp; done) | (simp; omega)))) | (with_reducible refine boxed_at ?_; (focus (first | omega | (simp; done) | (simp; omega)))) | (with_reducible refine alloc_old ?_ ?_; (focus (first | omega | (simp; done) | (simp; omega)))) | (with_reducible refine boxed_old ?_ ?_; (focus (first | omega | (simp; done) | (simp; omega)))) | (with_reducible refine drew_old ?_)))) (by rfl) ?_) | (with_reducible_and_instances (show wpList _ _ _ (Oper.mk _ (Op.store 27 _ _) _ _ _ _ :: _) _ _); refine wl_store info16 rfl rfl rfl rfl (by (repeat (first | assumption | (with_reducible refine alloc_at ?_; (focus (first | omega | (simp; done) | (simp; omega)))) | (with_reducible refine boxed_at ?_; (focus (first | omega | (simp; done) | (simp; omega)))) | (with_reducible refine alloc_old ?_ ?_; (focus (first | omega | (simp; done) | (simp; omega)))) | (with_reducible refine boxed_old ?_ ?_; (focus (first | omega | (simp; done) | (simp; omega)))) | (with_reducible refine drew_old ?_)))) (by rfl) (by rfl) (by simp [Value.oneCell']) ?_))
      go_ret
      exact ⟨rfl, by (repeat (first | assumption | (with_reducible exact Below.refl _ _) | (with_reducible refine boxed_below ?_ ?_; rotate_left; (focus (first | omega | (simp; done) | (simp; omega)))) | (with_reducible refine Below.alloc ?_ ?_ _; rotate_left; (focus (first | omega | (simp; done) | (simp; omega)))) | (with_reducible refine Below.drew ?_)))⟩

set_option maxHeartbeats 4000000 in
theorem lright_k9 (s p n a u e t : Int) (g l : Bool) (K S C T M V : Int) (w : World) :
    Calls Try.prog 14 #[.agg #[.int .u8 9, .int .i64 s, .int .i64 p, .int .i64 n, .int .i64 a, .int .u8 u, .int .i64 e, .int .i64 t, .bool g, .bool l, .int .u8 K, .int .i64 S, .int .i64 C, .int .i64 T, .int .i64 M, .int .u8 V]] w fun x w' => x = .returned (.int .i64 (Ov.right ⟨9, s, p, n, ⟨a, u, e, t, g, l⟩, ⟨K, S, C, T, M, V⟩⟩)) ∧ Below w.heap.size w w' := by
  have hn : nm 9 = 4 := by decide
  by_cases hc : 1 ≤ n ∧ n ≤ 60
  · obtain ⟨r, hr⟩ : ∃ r, decide ((⟨9, s, p, n, ⟨a, u, e, t, g, l⟩, ⟨K, S, C, T, M, V⟩⟩ : Ov) = ⟨9, 0, 0, n, Pv.zero, Nv.zero⟩) = r := ⟨_, rfl⟩
    have hq : ∀ w, (binOp .eql 27 (.agg #[.int .u8 9, .int .i64 s, .int .i64 p, .int .i64 n, .int .i64 a, .int .u8 u, .int .i64 e, .int .i64 t, .bool g, .bool l, .int .u8 K, .int .i64 S, .int .i64 C, .int .i64 T, .int .i64 M, .int .u8 V]) (.agg #[.int .u8 9, .int .i64 0, .int .i64 0, .int .i64 n, .int .i64 0, .int .u8 0, .int .i64 0, .int .i64 0, .bool false, .bool false, .int .u8 0, .int .i64 0, .int .i64 0, .int .i64 0, .int .i64 0, .int .u8 0])).run Try.prog w = .ok (.bool r) w := fun w => bin_eql16 hr w
    have hx := Lib.hid (right_of (o := ⟨9, s, p, n, ⟨a, u, e, t, g, l⟩, ⟨K, S, C, T, M, V⟩⟩) (named_4 hn) hr (.inr (.inr (.inr (.inl ⟨hn, hc⟩)))))
    clear hr
    dsimp only at hx
    obtain ⟨c0, c1⟩ := hc
    cases r
    all_goals
      rw [hx.out]
      clear hx
      go_enter Try.func14, Try.ntmps14
      go_wp2_with (first | (with_reducible_and_instances (show wpList _ _ _ (Oper.mk _ (Op.load 27 _) _ _ _ _ :: _) _ _); refine wl_load Try.underlying27 rfl info16 rfl rfl rfl (by (repeat (first | assumption | (with_reducible refine alloc_at ?_; (focus (first | omega | (simp; done) | (simp; omega)))) | (with_reducible refine boxed_at ?_; (focus (first | omega | (simp; done) | (simp; omega)))) | (with_reducible refine alloc_old ?_ ?_; (focus (first | omega | (simp; done) | (simp; omega)))) | (with_reducible refine boxed_old ?_ ?_; (focus (first | omega | (simp; done) | (simp; omega)))) | (with_reducible refine drew_old ?_)))) (by rfl) ?_) | (with_reducible_and_instances (show wpList _ _ _ (Oper.mk _ (Op.store 27 _ _) _ _ _ _ :: _) _ _); refine wl_store info16 rfl rfl rfl rfl (by (repeat (first | assumption | (with_reducible refine alloc_at ?_; (focus (first | omega | (simp; done) | (simp; omega)))) | (with_reducible refine boxed_at ?_; (focus (first | omega | (simp; done) | (simp; omega)))) | (with_reducible refine alloc_old ?_ ?_; (focus (first | omega | (simp; done) | (simp; omega)))) | (with_reducible refine boxed_old ?_ ?_; (focus (first | omega | (simp; done) | (simp; omega)))) | (with_reducible refine drew_old ?_)))) (by rfl) (by rfl) (by simp [Value.oneCell']) ?_))
      go_ret
      exact ⟨rfl, by (repeat (first | assumption | (with_reducible exact Below.refl _ _) | (with_reducible refine boxed_below ?_ ?_; rotate_left; (focus (first | omega | (simp; done) | (simp; omega)))) | (with_reducible refine Below.alloc ?_ ?_ _; rotate_left; (focus (first | omega | (simp; done) | (simp; omega)))) | (with_reducible refine Below.drew ?_)))⟩
  · rw [right_no (num_four (o := ⟨9, s, p, n, ⟨a, u, e, t, g, l⟩, ⟨K, S, C, T, M, V⟩⟩) hn hc)]
    have H : (¬ (1 ≤ n)) ∨ (1 ≤ n ∧ ¬ (n ≤ 60)) := by omega
    clear hc
    rcases H with h | ⟨_, h⟩
    all_goals
      try have d0 : decide (1 ≤ n) = false := decide_eq_false (by omega)
      try have d1 : decide (n ≤ 60) = false := decide_eq_false (by omega)
      clear h
      go_enter Try.func14, Try.ntmps14
      go_wp2_with (first | (with_reducible_and_instances (show wpList _ _ _ (Oper.mk _ (Op.load 27 _) _ _ _ _ :: _) _ _); refine wl_load Try.underlying27 rfl info16 rfl rfl rfl (by (repeat (first | assumption | (with_reducible refine alloc_at ?_; (focus (first | omega | (simp; done) | (simp; omega)))) | (with_reducible refine boxed_at ?_; (focus (first | omega | (simp; done) | (simp; omega)))) | (with_reducible refine alloc_old ?_ ?_; (focus (first | omega | (simp; done) | (simp; omega)))) | (with_reducible refine boxed_old ?_ ?_; (focus (first | omega | (simp; done) | (simp; omega)))) | (with_reducible refine drew_old ?_)))) (by rfl) ?_) | (with_reducible_and_instances (show wpList _ _ _ (Oper.mk _ (Op.store 27 _ _) _ _ _ _ :: _) _ _); refine wl_store info16 rfl rfl rfl rfl (by (repeat (first | assumption | (with_reducible refine alloc_at ?_; (focus (first | omega | (simp; done) | (simp; omega)))) | (with_reducible refine boxed_at ?_; (focus (first | omega | (simp; done) | (simp; omega)))) | (with_reducible refine alloc_old ?_ ?_; (focus (first | omega | (simp; done) | (simp; omega)))) | (with_reducible refine boxed_old ?_ ?_; (focus (first | omega | (simp; done) | (simp; omega)))) | (with_reducible refine drew_old ?_)))) (by rfl) (by rfl) (by simp [Value.oneCell']) ?_))
      go_ret
      exact ⟨rfl, by (repeat (first | assumption | (with_reducible exact Below.refl _ _) | (with_reducible refine boxed_below ?_ ?_; rotate_left; (focus (first | omega | (simp; done) | (simp; omega)))) | (with_reducible refine Below.alloc ?_ ?_ _; rotate_left; (focus (first | omega | (simp; done) | (simp; omega)))) | (with_reducible refine Below.drew ?_)))⟩

set_option maxHeartbeats 4000000 in
theorem lright_k10 (s p n a u e t : Int) (g l : Bool) (K S C T M V : Int) (w : World) :
    Calls Try.prog 14 #[.agg #[.int .u8 10, .int .i64 s, .int .i64 p, .int .i64 n, .int .i64 a, .int .u8 u, .int .i64 e, .int .i64 t, .bool g, .bool l, .int .u8 K, .int .i64 S, .int .i64 C, .int .i64 T, .int .i64 M, .int .u8 V]] w fun x w' => x = .returned (.int .i64 (Ov.right ⟨10, s, p, n, ⟨a, u, e, t, g, l⟩, ⟨K, S, C, T, M, V⟩⟩)) ∧ Below w.heap.size w w' := by
  have hn : nm 10 = 5 := by decide
  by_cases hc : Nv.Ans ⟨K, S, C, T, M, V⟩
  · obtain ⟨r, hr⟩ : ∃ r, decide ((⟨10, s, p, n, ⟨a, u, e, t, g, l⟩, ⟨K, S, C, T, M, V⟩⟩ : Ov) = ⟨10, 0, 0, 0, Pv.zero, ⟨K, S, C, T, M, V⟩⟩) = r := ⟨_, rfl⟩
    have hq : ∀ w, (binOp .eql 27 (.agg #[.int .u8 10, .int .i64 s, .int .i64 p, .int .i64 n, .int .i64 a, .int .u8 u, .int .i64 e, .int .i64 t, .bool g, .bool l, .int .u8 K, .int .i64 S, .int .i64 C, .int .i64 T, .int .i64 M, .int .u8 V]) (.agg #[.int .u8 10, .int .i64 0, .int .i64 0, .int .i64 0, .int .i64 0, .int .u8 0, .int .i64 0, .int .i64 0, .bool false, .bool false, .int .u8 K, .int .i64 S, .int .i64 C, .int .i64 T, .int .i64 M, .int .u8 V])).run Try.prog w = .ok (.bool r) w := fun w => bin_eql16 hr w
    have hx := Lib.hid (right_of (o := ⟨10, s, p, n, ⟨a, u, e, t, g, l⟩, ⟨K, S, C, T, M, V⟩⟩) (named_5 hn) hr (.inr (.inr (.inr (.inr ⟨hn, hc⟩)))))
    clear hr
    dsimp only at hx
    have HK := Lib.hid (decide_eq_true hc.2.2.2.2)
    obtain ⟨c1, c2, c3, c4, _⟩ := hc
    dsimp only at c1 c2 c3 c4
    cases r
    all_goals
      rw [hx.out]
      clear hx
      go_enter Try.func14, Try.ntmps14
      go_wp2_with (first | (with_reducible_and_instances (show wpList _ _ _ (Oper.mk _ (Op.load 27 _) _ _ _ _ :: _) _ _); refine wl_load Try.underlying27 rfl info16 rfl rfl rfl (by (repeat (first | assumption | (with_reducible refine alloc_at ?_; (focus (first | omega | (simp; done) | (simp; omega)))) | (with_reducible refine boxed_at ?_; (focus (first | omega | (simp; done) | (simp; omega)))) | (with_reducible refine alloc_old ?_ ?_; (focus (first | omega | (simp; done) | (simp; omega)))) | (with_reducible refine boxed_old ?_ ?_; (focus (first | omega | (simp; done) | (simp; omega)))) | (with_reducible refine drew_old ?_)))) (by rfl) ?_) | (with_reducible_and_instances (show wpList _ _ _ (Oper.mk _ (Op.store 27 _ _) _ _ _ _ :: _) _ _); refine wl_store info16 rfl rfl rfl rfl (by (repeat (first | assumption | (with_reducible refine alloc_at ?_; (focus (first | omega | (simp; done) | (simp; omega)))) | (with_reducible refine boxed_at ?_; (focus (first | omega | (simp; done) | (simp; omega)))) | (with_reducible refine alloc_old ?_ ?_; (focus (first | omega | (simp; done) | (simp; omega)))) | (with_reducible refine boxed_old ?_ ?_; (focus (first | omega | (simp; done) | (simp; omega)))) | (with_reducible refine drew_old ?_)))) (by rfl) (by rfl) (by simp [Value.oneCell']) ?_) | (go_at_call 16; refine (lkey_any _ _ _ _ _ _ _).mono ?_; rw [HK.out]; rintro e w1 ⟨rfl, hb⟩; obtain ⟨HW, hz, hz1, e1⟩ := two_of' hb; rw [e1]; clear e1 hb))
      go_ret
      exact ⟨rfl, boxed_below (boxed_below HW.out (Nat.le_refl _)) (by omega)⟩
  · rw [right_no (by rw [num_five (o := ⟨10, s, p, n, ⟨a, u, e, t, g, l⟩, ⟨K, S, C, T, M, V⟩⟩) hn]; exact decide_eq_false hc)]
    obtain ⟨q, hq⟩ : ∃ q, decide (Nv.Key ⟨K, S, C, T, M, V⟩) = q := ⟨_, rfl⟩
    have HK := Lib.hid hq
    cases q
    · clear hc hq
      go_enter Try.func14, Try.ntmps14
      go_wp2_with (first | (with_reducible_and_instances (show wpList _ _ _ (Oper.mk _ (Op.load 27 _) _ _ _ _ :: _) _ _); refine wl_load Try.underlying27 rfl info16 rfl rfl rfl (by (repeat (first | assumption | (with_reducible refine alloc_at ?_; (focus (first | omega | (simp; done) | (simp; omega)))) | (with_reducible refine boxed_at ?_; (focus (first | omega | (simp; done) | (simp; omega)))) | (with_reducible refine alloc_old ?_ ?_; (focus (first | omega | (simp; done) | (simp; omega)))) | (with_reducible refine boxed_old ?_ ?_; (focus (first | omega | (simp; done) | (simp; omega)))) | (with_reducible refine drew_old ?_)))) (by rfl) ?_) | (with_reducible_and_instances (show wpList _ _ _ (Oper.mk _ (Op.store 27 _ _) _ _ _ _ :: _) _ _); refine wl_store info16 rfl rfl rfl rfl (by (repeat (first | assumption | (with_reducible refine alloc_at ?_; (focus (first | omega | (simp; done) | (simp; omega)))) | (with_reducible refine boxed_at ?_; (focus (first | omega | (simp; done) | (simp; omega)))) | (with_reducible refine alloc_old ?_ ?_; (focus (first | omega | (simp; done) | (simp; omega)))) | (with_reducible refine boxed_old ?_ ?_; (focus (first | omega | (simp; done) | (simp; omega)))) | (with_reducible refine drew_old ?_)))) (by rfl) (by rfl) (by simp [Value.oneCell']) ?_) | (go_at_call 16; refine (lkey_any _ _ _ _ _ _ _).mono ?_; rw [HK.out]; rintro e w1 ⟨rfl, hb⟩; obtain ⟨HW, hz, hz1, e1⟩ := two_of' hb; rw [e1]; clear e1 hb))
      go_ret
      exact ⟨rfl, boxed_below (boxed_below HW.out (Nat.le_refl _)) (by omega)⟩
    · have H : (¬ (1 ≤ K)) ∨ (1 ≤ K ∧ ¬ (K ≤ 5)) ∨ (1 ≤ K ∧ K ≤ 5 ∧ ¬ (1 ≤ V)) ∨ (1 ≤ K ∧ K ≤ 5 ∧ 1 ≤ V ∧ ¬ (V ≤ 3)) := by
        have hc' : ¬ (1 ≤ K ∧ K ≤ 5 ∧ 1 ≤ V ∧ V ≤ 3) := fun q => hc ⟨q.1, q.2.1, q.2.2.1, q.2.2.2, of_decide_eq_true hq⟩
        omega
      clear hc hq
      rcases H with h | ⟨_, h⟩ | ⟨_, _, h⟩ | ⟨_, _, _, h⟩
      all_goals
        try have d1 : decide (1 ≤ K) = false := decide_eq_false (by omega)
        try have d2 : decide (K ≤ 5) = false := decide_eq_false (by omega)
        try have d3 : decide (1 ≤ V) = false := decide_eq_false (by omega)
        try have d4 : decide (V ≤ 3) = false := decide_eq_false (by omega)
        clear h
        go_enter Try.func14, Try.ntmps14
        go_wp2_with (first | (with_reducible_and_instances (show wpList _ _ _ (Oper.mk _ (Op.load 27 _) _ _ _ _ :: _) _ _); refine wl_load Try.underlying27 rfl info16 rfl rfl rfl (by (repeat (first | assumption | (with_reducible refine alloc_at ?_; (focus (first | omega | (simp; done) | (simp; omega)))) | (with_reducible refine boxed_at ?_; (focus (first | omega | (simp; done) | (simp; omega)))) | (with_reducible refine alloc_old ?_ ?_; (focus (first | omega | (simp; done) | (simp; omega)))) | (with_reducible refine boxed_old ?_ ?_; (focus (first | omega | (simp; done) | (simp; omega)))) | (with_reducible refine drew_old ?_)))) (by rfl) ?_) | (with_reducible_and_instances (show wpList _ _ _ (Oper.mk _ (Op.store 27 _ _) _ _ _ _ :: _) _ _); refine wl_store info16 rfl rfl rfl rfl (by (repeat (first | assumption | (with_reducible refine alloc_at ?_; (focus (first | omega | (simp; done) | (simp; omega)))) | (with_reducible refine boxed_at ?_; (focus (first | omega | (simp; done) | (simp; omega)))) | (with_reducible refine alloc_old ?_ ?_; (focus (first | omega | (simp; done) | (simp; omega)))) | (with_reducible refine boxed_old ?_ ?_; (focus (first | omega | (simp; done) | (simp; omega)))) | (with_reducible refine drew_old ?_)))) (by rfl) (by rfl) (by simp [Value.oneCell']) ?_) | (go_at_call 16; refine (lkey_any _ _ _ _ _ _ _).mono ?_; rw [HK.out]; rintro e w1 ⟨rfl, hb⟩; obtain ⟨HW, hz, hz1, e1⟩ := two_of' hb; rw [e1]; clear e1 hb))
        go_ret
        exact ⟨rfl, boxed_below (boxed_below HW.out (Nat.le_refl _)) (by omega)⟩

set_option maxHeartbeats 4000000 in
theorem lright_none (k s p n a u e t : Int) (g l : Bool) (K S C T M V : Int) (w : World) (h : nm k = 0) (h1 : k ≠ 1) (h2 : k ≠ 2) (h3 : k ≠ 3) (h4 : k ≠ 4) (h5 : k ≠ 5) (h6 : k ≠ 6) (h7 : k ≠ 7) (h8 : k ≠ 8) (h9 : k ≠ 9) (h10 : k ≠ 10) :
    Calls Try.prog 14 #[.agg #[.int .u8 k, .int .i64 s, .int .i64 p, .int .i64 n, .int .i64 a, .int .u8 u, .int .i64 e, .int .i64 t, .bool g, .bool l, .int .u8 K, .int .i64 S, .int .i64 C, .int .i64 T, .int .i64 M, .int .u8 V]] w fun x w' => x = .returned (.int .i64 (Ov.right ⟨k, s, p, n, ⟨a, u, e, t, g, l⟩, ⟨K, S, C, T, M, V⟩⟩)) ∧ Below w.heap.size w w' := by
  rw [right_no (num_none (o := ⟨k, s, p, n, ⟨a, u, e, t, g, l⟩, ⟨K, S, C, T, M, V⟩⟩) h)]
  clear h
  have d1 : (k == 1) = false := by simpa using h1
  have d2 : (k == 2) = false := by simpa using h2
  have d3 : (k == 3) = false := by simpa using h3
  have d4 : (k == 4) = false := by simpa using h4
  have d5 : (k == 5) = false := by simpa using h5
  have d6 : (k == 6) = false := by simpa using h6
  have d7 : (k == 7) = false := by simpa using h7
  have d8 : (k == 8) = false := by simpa using h8
  have d9 : (k == 9) = false := by simpa using h9
  have d10 : (k == 10) = false := by simpa using h10
  clear h1 h2 h3 h4 h5 h6 h7 h8 h9 h10
  go_enter Try.func14, Try.ntmps14
  go_wp2_with (first | (with_reducible_and_instances (show wpList _ _ _ (Oper.mk _ (Op.load 27 _) _ _ _ _ :: _) _ _); refine wl_load Try.underlying27 rfl info16 rfl rfl rfl (by (repeat (first | assumption | (with_reducible refine alloc_at ?_; (focus (first | omega | (simp; done) | (simp; omega)))) | (with_reducible refine boxed_at ?_; (focus (first | omega | (simp; done) | (simp; omega)))) | (with_reducible refine alloc_old ?_ ?_; (focus (first | omega | (simp; done) | (simp; omega)))) | (with_reducible refine boxed_old ?_ ?_; (focus (first | omega | (simp; done) | (simp; omega)))) | (with_reducible refine drew_old ?_)))) (by rfl) ?_) | (with_reducible_and_instances (show wpList _ _ _ (Oper.mk _ (Op.store 27 _ _) _ _ _ _ :: _) _ _); refine wl_store info16 rfl rfl rfl rfl (by (repeat (first | assumption | (with_reducible refine alloc_at ?_; (focus (first | omega | (simp; done) | (simp; omega)))) | (with_reducible refine boxed_at ?_; (focus (first | omega | (simp; done) | (simp; omega)))) | (with_reducible refine alloc_old ?_ ?_; (focus (first | omega | (simp; done) | (simp; omega)))) | (with_reducible refine boxed_old ?_ ?_; (focus (first | omega | (simp; done) | (simp; omega)))) | (with_reducible refine drew_old ?_)))) (by rfl) (by rfl) (by simp [Value.oneCell']) ?_))
  go_ret
  exact ⟨rfl, by (repeat (first | assumption | (with_reducible exact Below.refl _ _) | (with_reducible refine boxed_below ?_ ?_; rotate_left; (focus (first | omega | (simp; done) | (simp; omega)))) | (with_reducible refine Below.alloc ?_ ?_ _; rotate_left; (focus (first | omega | (simp; done) | (simp; omega)))) | (with_reducible refine Below.drew ?_)))⟩

theorem lright_any (k s p n a u e t : Int) (g l : Bool) (K S C T M V : Int) (w : World) :
    Calls Try.prog 14 #[.agg #[.int .u8 k, .int .i64 s, .int .i64 p, .int .i64 n, .int .i64 a, .int .u8 u, .int .i64 e, .int .i64 t, .bool g, .bool l, .int .u8 K, .int .i64 S, .int .i64 C, .int .i64 T, .int .i64 M, .int .u8 V]] w fun x w' => x = .returned (.int .i64 (Ov.right ⟨k, s, p, n, ⟨a, u, e, t, g, l⟩, ⟨K, S, C, T, M, V⟩⟩)) ∧ Below w.heap.size w w' := by
  by_cases h1 : k = 1
  · subst h1; exact lright_k1 s p n a u e t g l K S C T M V w
  by_cases h2 : k = 2
  · subst h2; exact lright_k2 s p n a u e t g l K S C T M V w
  by_cases h3 : k = 3
  · subst h3; exact lright_k3 s p n a u e t g l K S C T M V w
  by_cases h4 : k = 4
  · subst h4; exact lright_k4 s p n a u e t g l K S C T M V w
  by_cases h5 : k = 5
  · subst h5; exact lright_k5 s p n a u e t g l K S C T M V w
  by_cases h6 : k = 6
  · subst h6; exact lright_k6 s p n a u e t g l K S C T M V w
  by_cases h7 : k = 7
  · subst h7; exact lright_k7 s p n a u e t g l K S C T M V w
  by_cases h8 : k = 8
  · subst h8; exact lright_k8 s p n a u e t g l K S C T M V w
  by_cases h9 : k = 9
  · subst h9; exact lright_k9 s p n a u e t g l K S C T M V w
  by_cases h10 : k = 10
  · subst h10; exact lright_k10 s p n a u e t g l K S C T M V w
  exact lright_none k s p n a u e t g l K S C T M V w (by unfold nm; rw [if_neg (by omega), if_neg (by omega), if_neg (by omega), if_neg (by omega), if_neg (by omega)]) h1 h2 h3 h4 h5 h6 h7 h8 h9 h10
end Go.Proofs.Ytambppcnmggocaa
