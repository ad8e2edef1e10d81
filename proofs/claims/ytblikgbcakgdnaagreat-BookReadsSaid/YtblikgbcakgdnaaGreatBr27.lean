/-
  Two orders, two notices, compared as values; an order loaded in any world that holds its block; contract of order.Right. No conditions.
-/
import Derived.Test.YtblikgbcakgdnaaGreatBr02
import Derived.Test.YtblikgbcakgdnaaGreatBr03
import Derived.Test.YtblikgbcakgdnaaGreatBr26
set_option linter.unusedSimpArgs false
set_option linter.unusedVariables false
namespace Go.Proofs.YtblikgbcakgdnaaGreat
set_option maxRecDepth 20000
open Go.ChangeShapes Go.WideShapes Go.ChangeAt Go.RowKit

theorem ld16 {w : World} {g : Nat} {cs : Array Value} {fr : Nat × Nat} (hg : w.heap[g]? = some (.cells cs 48 fr)) (hs : cs.size = 16) :
    (Instr.loadAt 48 (.pointer (some ⟨g, 0, none⟩))).run Tryz.prog w = .ok (.agg cs) w := by
  have h := run_loadVar_row (P := Tryz.prog) w g _ 48 cs fr _ hg Tryz.underlying48 rfl (by rw [hs]; exact info16)
  simp only [Instr.loadAt, Instr.sureAddr, Sem.run_bind, Sem.run_pure, Result.andThen_ok, h]
theorem eq_chain {c : Prop} [Decidable c] {X : Result Bool} {b : Bool} {w : World} (h : X = .ok b w) : (if c then X else .ok false w) = .ok (decide c && b) w := by
  by_cases hc : c
  · rw [if_pos hc, h]; simp [hc]
  · rw [if_neg hc]; simp [hc]
set_option maxHeartbeats 1000000 in
theorem eq16 (x y : Ov) (w : World) : (Op.equalIn 10000 48 x.val y.val).run Tryz.prog w = .ok (decide (x = y)) w := by
  obtain ⟨k, s, p, n, ⟨a, u, e, t, g, l⟩, ⟨K, S, C, T, M, V⟩⟩ := x
  obtain ⟨k', s', p', n', ⟨a', u', e', t', g', l'⟩, ⟨K', S', C', T', M', V'⟩⟩ := y
  dsimp only [Ov.val]
  have e0 : (decide (Ov.mk k s p n ⟨a, u, e, t, g, l⟩ ⟨K, S, C, T, M, V⟩ = Ov.mk k' s' p' n' ⟨a', u', e', t', g', l'⟩ ⟨K', S', C', T', M', V'⟩)) = (decide (k = k') && (decide (s = s') && (decide (p = p') && (decide (n = n') && (decide (a = a') && (decide (u = u') && (decide (e = e') && (decide (t = t') && (decide (g = g') && (decide (l = l') && (decide (K = K') && (decide (S = S') && (decide (C = C') && (decide (T = T') && (decide (M = M') && (decide (V = V') && true)))))))))))))))) := by
    rw [Bool.eq_iff_iff]
    simp only [decide_eq_true_eq, Ov.mk.injEq, Pv.mk.injEq, Nv.mk.injEq, Bool.and_eq_true, and_true, and_assoc]
  rw [e0]
  clear e0
  go_simp
  iterate 15 apply eq_chain
  by_cases h : V = V' <;> simp [h]
theorem exec_neq16 {o : Oper} {a : Act} {x y : Operand} {ty : TypeId} {v v' : Ov} (ho : o.op = .binOp .neq 48 x y ty) (hx : a.eval x = v.val) (hy : a.eval y = v'.val) (w : World) :
    (execOp a.eval o).run Tryz.prog w = .ok (.value (.bool (!decide (v = v')))) w := by
  have he := eq16 v v' w
  unfold execOp
  simp only [ho, hx, hy]
  unfold Ov.val at he ⊢
  have hg := fun xs ys => run_eqGuard_agg (P := Tryz.prog) w .neq 48 x y xs ys Tryz.eqGuardType48
  simp only [Sem.run_bind, hg, Result.andThen_ok, run_neq_struct, he, Sem.run_pure]
theorem exec_neq16' {o : Oper} {a : Act} {x y : Operand} {ty : TypeId} {v v' : Ov} {r : Bool} (hr : decide (v = v') = r) (ho : o.op = .binOp .neq 48 x y ty) (hx : a.eval x = v.val) (hy : a.eval y = v'.val) (w : World) :
    (execOp a.eval o).run Tryz.prog w = .ok (.value (.bool (!r))) w := by subst hr; exact exec_neq16 ho hx hy w
theorem right_bad {o : Ov} (h : ¬ (o.Num ∧ o = o.named)) : o.right = 1 := by unfold Ov.right; rw [if_neg h]
theorem right_good {o : Ov} (h : o.Num ∧ o = o.named) : o.right = if o.k = 1 then Pn.right o.P.a o.P.u o.P.e o.P.t else 0 := by unfold Ov.right; rw [if_pos h]

set_option maxHeartbeats 4000000 in
theorem oright_any (k s p n a u e t : Int) (g l : Bool) (K S C T M V : Int) (w : World) :
    Calls Tryz.prog 13 #[.agg #[.int .u8 k, .int .i64 s, .int .i64 p, .int .i64 n, .int .i64 a, .int .u8 u, .int .i64 e, .int .i64 t, .bool g, .bool l, .int .u8 K, .int .i64 S, .int .i64 C, .int .i64 T, .int .i64 M, .int .u8 V]] w fun x w' => x = .returned (.int .i64 (Ov.right ⟨k, s, p, n, ⟨a, u, e, t, g, l⟩, ⟨K, S, C, T, M, V⟩⟩)) ∧ Below w.heap.size w w' := by
  generalize hq : decide (Ov.Num ⟨k, s, p, n, ⟨a, u, e, t, g, l⟩, ⟨K, S, C, T, M, V⟩⟩) = q
  have HQ := Lib.hid hq
  have HR : Hid (∃ r : Bool, decide (⟨k, s, p, n, ⟨a, u, e, t, g, l⟩, ⟨K, S, C, T, M, V⟩⟩ = Ov.named ⟨k, s, p, n, ⟨a, u, e, t, g, l⟩, ⟨K, S, C, T, M, V⟩⟩) = r ∧ Ov.right ⟨k, s, p, n, ⟨a, u, e, t, g, l⟩, ⟨K, S, C, T, M, V⟩⟩ = if q = true ∧ r = true then (if k = 1 then Pn.right a u e t else 0) else 1) := by
    refine ⟨_, rfl, ?_⟩
    by_cases h : Ov.Num ⟨k, s, p, n, ⟨a, u, e, t, g, l⟩, ⟨K, S, C, T, M, V⟩⟩ ∧ ⟨k, s, p, n, ⟨a, u, e, t, g, l⟩, ⟨K, S, C, T, M, V⟩⟩ = Ov.named ⟨k, s, p, n, ⟨a, u, e, t, g, l⟩, ⟨K, S, C, T, M, V⟩⟩
    · rw [right_good h]; exact (if_pos ⟨by rw [← hq]; exact decide_eq_true h.1, decide_eq_true h.2⟩).symm
    · rw [right_bad h]; exact (if_neg (fun g => h ⟨of_decide_eq_true (hq.trans g.1), of_decide_eq_true g.2⟩)).symm
  obtain ⟨r, hr, hright⟩ := HR.out
  generalize Ov.right ⟨k, s, p, n, ⟨a, u, e, t, g, l⟩, ⟨K, S, C, T, M, V⟩⟩ = X at *
  have HX := Lib.hid hright
  have HR2 := Lib.hid hr
  clear hq HR hright hr
  go_enter Tryz.func13, Tryz.ntmps13
  go_wp2_with (fail)
  have hb0 : (w.alloc (.cells #[.int .u8 k, .int .i64 s, .int .i64 p, .int .i64 n, .int .i64 a, .int .u8 u, .int .i64 e, .int .i64 t, .bool g, .bool l, .int .u8 K, .int .i64 S, .int .i64 C, .int .i64 T, .int .i64 M, .int .u8 V] 48)).heap[w.heap.size]? = some (.cells #[.int .u8 k, .int .i64 s, .int .i64 p, .int .i64 n, .int .i64 a, .int .u8 u, .int .i64 e, .int .i64 t, .bool g, .bool l, .int .u8 K, .int .i64 S, .int .i64 C, .int .i64 T, .int .i64 M, .int .u8 V] 48 (0, 0)) := alloc_block
  have hw0 : Below w.heap.size w (w.alloc (.cells #[.int .u8 k, .int .i64 s, .int .i64 p, .int .i64 n, .int .i64 a, .int .u8 u, .int .i64 e, .int .i64 t, .bool g, .bool l, .int .u8 K, .int .i64 S, .int .i64 C, .int .i64 T, .int .i64 M, .int .u8 V] 48)) := (Below.refl _ _).alloc (Nat.le_refl _) _
  have hz0 : (w.alloc (.cells #[.int .u8 k, .int .i64 s, .int .i64 p, .int .i64 n, .int .i64 a, .int .u8 u, .int .i64 e, .int .i64 t, .bool g, .bool l, .int .u8 K, .int .i64 S, .int .i64 C, .int .i64 T, .int .i64 M, .int .u8 V] 48)).heap.size = w.heap.size + 1 := by simp
  generalize w.alloc (.cells #[.int .u8 k, .int .i64 s, .int .i64 p, .int .i64 n, .int .i64 a, .int .u8 u, .int .i64 e, .int .i64 t, .bool g, .bool l, .int .u8 K, .int .i64 S, .int .i64 C, .int .i64 T, .int .i64 M, .int .u8 V] 48) = W at *
  refine lane_start (ord := [0, 1, 2, 3, 4, 5, 6, 7, 8]) (S := fun w' => w'.heap[w.heap.size]? = some (.cells #[.int .u8 k, .int .i64 s, .int .i64 p, .int .i64 n, .int .i64 a, .int .u8 u, .int .i64 e, .int .i64 t, .bool g, .bool l, .int .u8 K, .int .i64 S, .int .i64 C, .int .i64 T, .int .i64 M, .int .u8 V] 48 (0, 0))) rfl (by kernel_rfl) hb0 (fun hHeld => ?_)
  refine lane_take (v := .agg #[.int .u8 k, .int .i64 s, .int .i64 p, .int .i64 n, .int .i64 a, .int .u8 u, .int .i64 e, .int .i64 t, .bool g, .bool l, .int .u8 K, .int .i64 S, .int .i64 C, .int .i64 T, .int .i64 M, .int .u8 V]) rfl (by kernel_rfl) (by kernel_rfl) (by rfl) (fun w' hS => exec_load rfl rfl (ld16 hS rfl)) (by assumption) ?_
  simp only [Act.put, List.setIfInBounds_toArray, List.set_cons_zero, List.set_cons_succ]
  refine lane_alone rfl (by kernel_rfl) (by rfl) (fun K' hK => ?_)
  go_simp
  refine (rnum_any k s p n a u e t g l K S C T M V _).mono ?_
  rw [HQ.out]
  rintro x w1 ⟨rfl, hb1⟩
  have hb1' : w1.heap[w.heap.size]? = some (.cells #[.int .u8 k, .int .i64 s, .int .i64 p, .int .i64 n, .int .i64 a, .int .u8 u, .int .i64 e, .int .i64 t, .bool g, .bool l, .int .u8 K, .int .i64 S, .int .i64 C, .int .i64 T, .int .i64 M, .int .u8 V] 48 (0, 0)) := (hb1.block _ (by show w.heap.size < W.heap.size; omega)).trans hb0
  have hw1 : Below w.heap.size w w1 := hw0.trans (((Below.refl _ W).drew).trans hb1 |>.mono (by show w.heap.size ≤ W.heap.size; omega))
  have hz1 : w.heap.size + 1 ≤ w1.heap.size := by have := hb1.size; simp at this; omega
  refine hK _ _ hb1' (fun hHeld => ?_)
  clear hK K'
  cases q
  · repeat (first
      | (refine lane_skip rfl (by kernel_rfl) (by kernel_rfl) (by rfl) (by assumption) ?_; simp only [Act.put, List.setIfInBounds_toArray, List.set_cons_zero, List.set_cons_succ])
      | (refine lane_take (v := ?_) rfl (by kernel_rfl) (by kernel_rfl) (by rfl) ?_ (by assumption) ?_; rotate_left; (focus (intro w hSw; go_simp; try (with_reducible rfl))); simp only [Act.put, List.setIfInBounds_toArray, List.set_cons_zero, List.set_cons_succ]))
    refine lane_end (by kernel_rfl) ?_
    go_wp2
    go_ret
    exact ⟨ret_int (by rw [HX.out]; rfl), hw1⟩
  · iterate 2 (refine lane_take (v := ?_) rfl (by kernel_rfl) (by kernel_rfl) (by rfl) ?_ (by assumption) ?_; rotate_left; (focus (intro w hSw; go_simp; try (with_reducible rfl))); simp only [Act.put, List.setIfInBounds_toArray, List.set_cons_zero, List.set_cons_succ])
    iterate 2 (refine lane_take (v := .agg #[.int .u8 k, .int .i64 s, .int .i64 p, .int .i64 n, .int .i64 a, .int .u8 u, .int .i64 e, .int .i64 t, .bool g, .bool l, .int .u8 K, .int .i64 S, .int .i64 C, .int .i64 T, .int .i64 M, .int .u8 V]) rfl (by kernel_rfl) (by kernel_rfl) (by rfl) (fun w' hS => exec_load rfl rfl (ld16 hS rfl)) (by assumption) ?_; simp only [Act.put, List.setIfInBounds_toArray, List.set_cons_zero, List.set_cons_succ])
    refine lane_alone rfl (by kernel_rfl) (by rfl) (fun K' hK => ?_)
    go_simp
    refine (named_any k s p n a u e t g l K S C T M V _).mono ?_
    rintro x w2 ⟨rfl, hb2⟩
    have hb2' : w2.heap[w.heap.size]? = some (.cells #[.int .u8 k, .int .i64 s, .int .i64 p, .int .i64 n, .int .i64 a, .int .u8 u, .int .i64 e, .int .i64 t, .bool g, .bool l, .int .u8 K, .int .i64 S, .int .i64 C, .int .i64 T, .int .i64 M, .int .u8 V] 48 (0, 0)) := (hb2.block _ (by omega)).trans hb1'
    have hw2 : Below w.heap.size w w2 := hw1.trans (hb2.mono (by omega))
    have hz2 : w.heap.size + 1 ≤ w2.heap.size := by have := hb2.size; omega
    refine hK _ _ hb2' (fun hHeld => ?_)
    clear hK K'
    refine lane_take (v := .bool (!r)) rfl (by kernel_rfl) (by kernel_rfl) (by rfl) (fun w' _ => exec_neq16' HR2.out rfl rfl rfl w') (by assumption) ?_
    simp only [Act.put, List.setIfInBounds_toArray, List.set_cons_zero, List.set_cons_succ]
    refine lane_take (v := ?_) rfl (by kernel_rfl) (by kernel_rfl) (by rfl) ?_ (by assumption) ?_
    rotate_left
    · intro w hSw
      go_simp
      try (with_reducible rfl)
    simp only [Act.put, List.setIfInBounds_toArray, List.set_cons_zero, List.set_cons_succ]
    refine lane_end (by kernel_rfl) ?_
    cases r
    · go_wp2
      go_ret
      exact ⟨ret_int (by rw [HX.out]; rfl), hw2⟩
    · have HW2 := Lib.hid hw2
      have he := boxed_self hb2'
      have hz3 : w.heap.size < w2.heap.size := by omega
      clear hHeld hb2 hb2' hb1 hb1' hb0 hw2
      rw [he]
      clear he
      by_cases c : k = 1
      · subst c
        go_wp2_with (go_at_call 25; refine (plright_any _ _ _ _ _ _ _).mono ?_; rintro e w' ⟨rfl, hb⟩)
        go_ret
        exact ⟨ret_int (by rw [HX.out]; rfl), (boxed_below HW2.out (Nat.le_refl _)).trans (hb.mono (by simp; omega))⟩
      · have d : (k == 1) = false := by simpa using c
        have HC := Lib.hid (if_neg c : (if k = 1 then Pn.right a u e t else 0) = 0)
        go_wp2
        go_ret
        exact ⟨ret_int (by rw [HX.out, if_pos (by simp), HC.out]), boxed_below HW2.out (Nat.le_refl _)⟩
end Go.Proofs.YtblikgbcakgdnaaGreat
/-
  A region that draws its order and stores what it has read, and goes on behind that: a lane up to an operation t for which all that are taken wait, in a class S of worlds; from t on in another class S2. No conditions but those that each law names.
-/
namespace Go.Proofs.YtblikgbcakgdnaaGreat
open Go.RowKit

section
variable {P : Program} {md : Region.Mode} {ops : Array Oper} {S S2 : World → Prop} {Q : Exit → Act → World → Prop} {t : Nat}
end
section
variable {P : Program} {l : List Oper} {S S2 : World → Prop} {Q : Exit → Act → World → Prop} {t : Nat}
end
end Go.Proofs.YtblikgbcakgdnaaGreat
