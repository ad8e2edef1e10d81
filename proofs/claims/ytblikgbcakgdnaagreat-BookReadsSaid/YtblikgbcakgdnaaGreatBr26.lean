/-
  Contracts of order.rightNumbers and order.named. No conditions.
-/
import Derived.Test.YtblikgbcakgdnaaGreatBr25
set_option linter.unusedSimpArgs false
set_option linter.unusedVariables false
namespace Go.Proofs.YtblikgbcakgdnaaGreat
set_option maxRecDepth 20000
open Go.ChangeShapes Go.WideShapes Go.ChangeAt Go.RowKit

theorem num_yes {o : Ov} (h : o.Num) : decide o.Num = true := decide_eq_true h
theorem num_no {o : Ov} (h : ¬ o.Num) : decide o.Num = false := decide_eq_false h
theorem num_two {o : Ov} (h : nm o.k = 2) (g : ¬ (0 ≤ o.s ∧ o.s < 32 ∧ 0 ≤ o.p ∧ o.p < 8)) : decide o.Num = false := num_no (by unfold Ov.Num; rw [h]; rintro (x | ⟨_, x⟩ | ⟨x, _⟩ | ⟨x, _⟩ | ⟨x, _⟩); all_goals first | (exact g x) | omega)
theorem num_three {o : Ov} (h : nm o.k = 3) (g : ¬ (0 ≤ o.s ∧ o.s < 32)) : decide o.Num = false := num_no (by unfold Ov.Num; rw [h]; rintro (x | ⟨x, _⟩ | ⟨_, x⟩ | ⟨x, _⟩ | ⟨x, _⟩); all_goals first | (exact g x) | omega)
theorem num_four {o : Ov} (h : nm o.k = 4) (g : ¬ (1 ≤ o.n ∧ o.n ≤ 60)) : decide o.Num = false := num_no (by unfold Ov.Num; rw [h]; rintro (x | ⟨x, _⟩ | ⟨x, _⟩ | ⟨_, x⟩ | ⟨x, _⟩); all_goals first | (exact g x) | omega)
theorem num_five {o : Ov} (h : nm o.k = 5) : decide o.Num = decide o.A.Ans := by
  rw [decide_eq_decide]; unfold Ov.Num; rw [h]
  constructor
  · rintro (x | ⟨x, _⟩ | ⟨x, _⟩ | ⟨x, _⟩ | ⟨_, x⟩)
    all_goals first | (exact x) | omega
  · exact fun x => .inr (.inr (.inr (.inr ⟨rfl, x⟩)))
theorem num_none {o : Ov} (h : nm o.k = 0) : decide o.Num = false := num_no (by unfold Ov.Num; rw [h]; rintro (x | ⟨x, _⟩ | ⟨x, _⟩ | ⟨x, _⟩ | ⟨x, _⟩); all_goals omega)

set_option maxHeartbeats 4000000 in
theorem rnum_0 (k s p n a u e t : Int) (g l : Bool) (K S C T M V : Int) (w : World) (h : nm k = 0) :
    Calls Tryz.prog 23 #[.agg #[.int .u8 k, .int .i64 s, .int .i64 p, .int .i64 n, .int .i64 a, .int .u8 u, .int .i64 e, .int .i64 t, .bool g, .bool l, .int .u8 K, .int .i64 S, .int .i64 C, .int .i64 T, .int .i64 M, .int .u8 V]] w fun x w' => x = .returned (.bool (decide (Ov.Num ⟨k, s, p, n, ⟨a, u, e, t, g, l⟩, ⟨K, S, C, T, M, V⟩⟩))) ∧ Below w.heap.size w w' := by
  rw [num_none h]
  have H := Lib.hid h
  clear h
  go_enter Tryz.func23, Tryz.ntmps23
  go_wp2_with (go_at_call 50; refine (names_is _ _ _ H.out).mono ?_; rintro e w' ⟨rfl, rfl⟩)
  go_ret
  exact ⟨rfl, by go_grown⟩

set_option maxHeartbeats 4000000 in
theorem rnum_1 (k s p n a u e t : Int) (g l : Bool) (K S C T M V : Int) (w : World) (h : nm k = 1) :
    Calls Tryz.prog 23 #[.agg #[.int .u8 k, .int .i64 s, .int .i64 p, .int .i64 n, .int .i64 a, .int .u8 u, .int .i64 e, .int .i64 t, .bool g, .bool l, .int .u8 K, .int .i64 S, .int .i64 C, .int .i64 T, .int .i64 M, .int .u8 V]] w fun x w' => x = .returned (.bool (decide (Ov.Num ⟨k, s, p, n, ⟨a, u, e, t, g, l⟩, ⟨K, S, C, T, M, V⟩⟩))) ∧ Below w.heap.size w w' := by
  rw [num_yes (o := ⟨k, s, p, n, ⟨a, u, e, t, g, l⟩, ⟨K, S, C, T, M, V⟩⟩) (.inl h)]
  have H := Lib.hid h
  clear h
  go_enter Tryz.func23, Tryz.ntmps23
  go_wp2_with (go_at_call 50; refine (names_is _ _ _ H.out).mono ?_; rintro e w' ⟨rfl, rfl⟩)
  go_ret
  exact ⟨rfl, by go_grown⟩

set_option maxHeartbeats 4000000 in
theorem rnum_2 (k s p n a u e t : Int) (g l : Bool) (K S C T M V : Int) (w : World) (h : nm k = 2) :
    Calls Tryz.prog 23 #[.agg #[.int .u8 k, .int .i64 s, .int .i64 p, .int .i64 n, .int .i64 a, .int .u8 u, .int .i64 e, .int .i64 t, .bool g, .bool l, .int .u8 K, .int .i64 S, .int .i64 C, .int .i64 T, .int .i64 M, .int .u8 V]] w fun x w' => x = .returned (.bool (decide (Ov.Num ⟨k, s, p, n, ⟨a, u, e, t, g, l⟩, ⟨K, S, C, T, M, V⟩⟩))) ∧ Below w.heap.size w w' := by
  have H := Lib.hid h
  by_cases c : 0 ≤ s ∧ s < 32 ∧ 0 ≤ p ∧ p < 8
  · rw [num_yes (o := ⟨k, s, p, n, ⟨a, u, e, t, g, l⟩, ⟨K, S, C, T, M, V⟩⟩) (.inr (.inl ⟨h, c⟩))]
    obtain ⟨c1, c2, c3, c4⟩ := c
    clear h
    go_enter Tryz.func23, Tryz.ntmps23
    go_wp2_with (first | (go_at_call 50; refine (names_is _ _ _ H.out).mono ?_; rintro e w' ⟨rfl, rfl⟩) | (go_at_call 51; refine (rsub_yes _ _ (by omega) (by omega)).mono ?_; rintro e w' ⟨rfl, rfl⟩))
    go_ret
    exact ⟨rfl, by go_grown⟩
  · rw [num_two (o := ⟨k, s, p, n, ⟨a, u, e, t, g, l⟩, ⟨K, S, C, T, M, V⟩⟩) h c]
    clear h
    by_cases c1 : 0 ≤ s ∧ s < 32
    · obtain ⟨c2, c3⟩ := c1
      by_cases c4 : 0 ≤ p
      · have d : decide (p < 8) = false := by simp; omega
        clear c
        go_enter Tryz.func23, Tryz.ntmps23
        go_wp2_with (first | (go_at_call 50; refine (names_is _ _ _ H.out).mono ?_; rintro e w' ⟨rfl, rfl⟩) | (go_at_call 51; refine (rsub_yes _ _ (by omega) (by omega)).mono ?_; rintro e w' ⟨rfl, rfl⟩))
        go_ret
        exact ⟨rfl, by go_grown⟩
      · have d : decide (0 ≤ p) = false := by simp; omega
        clear c c4
        go_enter Tryz.func23, Tryz.ntmps23
        go_wp2_with (first | (go_at_call 50; refine (names_is _ _ _ H.out).mono ?_; rintro e w' ⟨rfl, rfl⟩) | (go_at_call 51; refine (rsub_yes _ _ (by omega) (by omega)).mono ?_; rintro e w' ⟨rfl, rfl⟩))
        go_ret
        exact ⟨rfl, by go_grown⟩
    · have c2 := Lib.hid (show s < 0 ∨ 32 ≤ s by omega)
      clear c c1
      go_enter Tryz.func23, Tryz.ntmps23
      go_wp2_with (first | (go_at_call 50; refine (names_is _ _ _ H.out).mono ?_; rintro e w' ⟨rfl, rfl⟩) | (go_at_call 51; refine (rsub_no _ _ c2.out).mono ?_; rintro e w' ⟨rfl, rfl⟩))
      go_ret
      exact ⟨rfl, by go_grown⟩

set_option maxHeartbeats 4000000 in
theorem rnum_3 (k s p n a u e t : Int) (g l : Bool) (K S C T M V : Int) (w : World) (h : nm k = 3) :
    Calls Tryz.prog 23 #[.agg #[.int .u8 k, .int .i64 s, .int .i64 p, .int .i64 n, .int .i64 a, .int .u8 u, .int .i64 e, .int .i64 t, .bool g, .bool l, .int .u8 K, .int .i64 S, .int .i64 C, .int .i64 T, .int .i64 M, .int .u8 V]] w fun x w' => x = .returned (.bool (decide (Ov.Num ⟨k, s, p, n, ⟨a, u, e, t, g, l⟩, ⟨K, S, C, T, M, V⟩⟩))) ∧ Below w.heap.size w w' := by
  have H := Lib.hid h
  by_cases c : 0 ≤ s ∧ s < 32
  · rw [num_yes (o := ⟨k, s, p, n, ⟨a, u, e, t, g, l⟩, ⟨K, S, C, T, M, V⟩⟩) (.inr (.inr (.inl ⟨h, c⟩)))]
    obtain ⟨c1, c2⟩ := c
    clear h
    go_enter Tryz.func23, Tryz.ntmps23
    go_wp2_with (first | (go_at_call 50; refine (names_is _ _ _ H.out).mono ?_; rintro e w' ⟨rfl, rfl⟩) | (go_at_call 51; refine (rsub_yes _ _ (by omega) (by omega)).mono ?_; rintro e w' ⟨rfl, rfl⟩))
    go_ret
    exact ⟨rfl, by go_grown⟩
  · rw [num_three (o := ⟨k, s, p, n, ⟨a, u, e, t, g, l⟩, ⟨K, S, C, T, M, V⟩⟩) h c]
    have c2 := Lib.hid (show s < 0 ∨ 32 ≤ s by omega)
    clear c h
    go_enter Tryz.func23, Tryz.ntmps23
    go_wp2_with (first | (go_at_call 50; refine (names_is _ _ _ H.out).mono ?_; rintro e w' ⟨rfl, rfl⟩) | (go_at_call 51; refine (rsub_no _ _ c2.out).mono ?_; rintro e w' ⟨rfl, rfl⟩))
    go_ret
    exact ⟨rfl, by go_grown⟩

set_option maxHeartbeats 4000000 in
theorem rnum_4 (k s p n a u e t : Int) (g l : Bool) (K S C T M V : Int) (w : World) (h : nm k = 4) :
    Calls Tryz.prog 23 #[.agg #[.int .u8 k, .int .i64 s, .int .i64 p, .int .i64 n, .int .i64 a, .int .u8 u, .int .i64 e, .int .i64 t, .bool g, .bool l, .int .u8 K, .int .i64 S, .int .i64 C, .int .i64 T, .int .i64 M, .int .u8 V]] w fun x w' => x = .returned (.bool (decide (Ov.Num ⟨k, s, p, n, ⟨a, u, e, t, g, l⟩, ⟨K, S, C, T, M, V⟩⟩))) ∧ Below w.heap.size w w' := by
  have H := Lib.hid h
  by_cases c : 1 ≤ n ∧ n ≤ 60
  · rw [num_yes (o := ⟨k, s, p, n, ⟨a, u, e, t, g, l⟩, ⟨K, S, C, T, M, V⟩⟩) (.inr (.inr (.inr (.inl ⟨h, c⟩))))]
    obtain ⟨c1, c2⟩ := c
    clear h
    go_enter Tryz.func23, Tryz.ntmps23
    go_wp2_with (go_at_call 50; refine (names_is _ _ _ H.out).mono ?_; rintro e w' ⟨rfl, rfl⟩)
    go_ret
    exact ⟨rfl, by go_grown⟩
  · rw [num_four (o := ⟨k, s, p, n, ⟨a, u, e, t, g, l⟩, ⟨K, S, C, T, M, V⟩⟩) h c]
    clear h
    by_cases c1 : 1 ≤ n
    · have d : decide (n ≤ 60) = false := by simp; omega
      clear c
      go_enter Tryz.func23, Tryz.ntmps23
      go_wp2_with (go_at_call 50; refine (names_is _ _ _ H.out).mono ?_; rintro e w' ⟨rfl, rfl⟩)
      go_ret
      exact ⟨rfl, by go_grown⟩
    · have d : decide (1 ≤ n) = false := by simp; omega
      clear c c1
      go_enter Tryz.func23, Tryz.ntmps23
      go_wp2_with (go_at_call 50; refine (names_is _ _ _ H.out).mono ?_; rintro e w' ⟨rfl, rfl⟩)
      go_ret
      exact ⟨rfl, by go_grown⟩

set_option maxHeartbeats 4000000 in
theorem rnum_5 (k s p n a u e t : Int) (g l : Bool) (K S C T M V : Int) (w : World) (h : nm k = 5) :
    Calls Tryz.prog 23 #[.agg #[.int .u8 k, .int .i64 s, .int .i64 p, .int .i64 n, .int .i64 a, .int .u8 u, .int .i64 e, .int .i64 t, .bool g, .bool l, .int .u8 K, .int .i64 S, .int .i64 C, .int .i64 T, .int .i64 M, .int .u8 V]] w fun x w' => x = .returned (.bool (decide (Ov.Num ⟨k, s, p, n, ⟨a, u, e, t, g, l⟩, ⟨K, S, C, T, M, V⟩⟩))) ∧ Below w.heap.size w w' := by
  rw [num_five (o := ⟨k, s, p, n, ⟨a, u, e, t, g, l⟩, ⟨K, S, C, T, M, V⟩⟩) h]
  dsimp only
  generalize hq : decide (Nv.Ans ⟨K, S, C, T, M, V⟩) = q
  have HQ := Lib.hid hq
  have H := Lib.hid h
  clear h hq
  go_enter Tryz.func23, Tryz.ntmps23
  go_wp2_with (first | (go_at_call 50; refine (names_is _ _ _ H.out).mono ?_; rintro e w' ⟨rfl, rfl⟩) | (go_at_call 52; refine (rans_any _ _ _ _ _ _ _).mono ?_; rw [HQ.out]; rintro e w' ⟨rfl, hb⟩))
  go_ret
  exact ⟨rfl, ((Below.refl _ _).alloc (Nat.le_refl _) _).trans (hb.mono (by simp))⟩

theorem rnum_any (k s p n a u e t : Int) (g l : Bool) (K S C T M V : Int) (w : World) :
    Calls Tryz.prog 23 #[.agg #[.int .u8 k, .int .i64 s, .int .i64 p, .int .i64 n, .int .i64 a, .int .u8 u, .int .i64 e, .int .i64 t, .bool g, .bool l, .int .u8 K, .int .i64 S, .int .i64 C, .int .i64 T, .int .i64 M, .int .u8 V]] w fun x w' => x = .returned (.bool (decide (Ov.Num ⟨k, s, p, n, ⟨a, u, e, t, g, l⟩, ⟨K, S, C, T, M, V⟩⟩))) ∧ Below w.heap.size w w' :=
  nm_ways k (fun h _ => rnum_0 k s p n a u e t g l K S C T M V w h) (fun h _ => rnum_1 k s p n a u e t g l K S C T M V w h) (fun h _ => rnum_2 k s p n a u e t g l K S C T M V w h) (fun h _ => rnum_3 k s p n a u e t g l K S C T M V w h) (fun h _ => rnum_4 k s p n a u e t g l K S C T M V w h) (fun h _ => rnum_5 k s p n a u e t g l K S C T M V w h)

theorem named_0 {o : Ov} (h : nm o.k = 0) : o.named = ⟨o.k, 0, 0, 0, Pv.zero, Nv.zero⟩ := by unfold Ov.named; rw [h]; simp
theorem named_1 {o : Ov} (h : nm o.k = 1) : o.named = ⟨o.k, 0, 0, 0, o.P, Nv.zero⟩ := by unfold Ov.named; rw [h]; simp
theorem named_2 {o : Ov} (h : nm o.k = 2) : o.named = ⟨o.k, o.s, o.p, 0, Pv.zero, Nv.zero⟩ := by unfold Ov.named; rw [h]; simp
theorem named_3 {o : Ov} (h : nm o.k = 3) : o.named = ⟨o.k, o.s, 0, 0, Pv.zero, Nv.zero⟩ := by unfold Ov.named; rw [h]; simp
theorem named_4 {o : Ov} (h : nm o.k = 4) : o.named = ⟨o.k, 0, 0, o.n, Pv.zero, Nv.zero⟩ := by unfold Ov.named; rw [h]; simp
theorem named_5 {o : Ov} (h : nm o.k = 5) : o.named = ⟨o.k, 0, 0, 0, Pv.zero, o.A⟩ := by unfold Ov.named; rw [h]; simp

set_option maxHeartbeats 4000000 in
theorem named_w0 (k s p n a u e t : Int) (g l : Bool) (K S C T M V : Int) (w : World) (h : nm k = 0) :
    Calls Tryz.prog 24 #[.agg #[.int .u8 k, .int .i64 s, .int .i64 p, .int .i64 n, .int .i64 a, .int .u8 u, .int .i64 e, .int .i64 t, .bool g, .bool l, .int .u8 K, .int .i64 S, .int .i64 C, .int .i64 T, .int .i64 M, .int .u8 V]] w fun x w' => x = .returned (Ov.named ⟨k, s, p, n, ⟨a, u, e, t, g, l⟩, ⟨K, S, C, T, M, V⟩⟩).val ∧ Below w.heap.size w w' := by
  rw [named_0 (o := ⟨k, s, p, n, ⟨a, u, e, t, g, l⟩, ⟨K, S, C, T, M, V⟩⟩) h]
  dsimp only [Ov.val, Pv.zero, Nv.zero]
  have H := Lib.hid h
  clear h
  go_enter Tryz.func24, Tryz.ntmps24
  go_wp2_with (first | (go_at_call 50; refine (names_is _ _ _ H.out).mono ?_; rintro e w' ⟨rfl, rfl⟩) | (refine wl_load Tryz.underlying48 rfl info16 rfl rfl rfl (by (repeat (first | assumption | (with_reducible refine alloc_at ?_; (focus (first | omega | (simp; done) | (simp; omega)))) | (with_reducible refine boxed_at ?_; (focus (first | omega | (simp; done) | (simp; omega)))) | (with_reducible refine alloc_old ?_ ?_; (focus (first | omega | (simp; done) | (simp; omega)))) | (with_reducible refine boxed_old ?_ ?_; (focus (first | omega | (simp; done) | (simp; omega)))) | (with_reducible refine drew_old ?_)))) (by rfl) ?_) | (refine wl_store info16 rfl rfl rfl rfl (by (repeat (first | assumption | (with_reducible refine alloc_at ?_; (focus (first | omega | (simp; done) | (simp; omega)))) | (with_reducible refine boxed_at ?_; (focus (first | omega | (simp; done) | (simp; omega)))) | (with_reducible refine alloc_old ?_ ?_; (focus (first | omega | (simp; done) | (simp; omega)))) | (with_reducible refine boxed_old ?_ ?_; (focus (first | omega | (simp; done) | (simp; omega)))) | (with_reducible refine drew_old ?_)))) (by rfl) (by rfl) (by simp [Value.oneCell']) ?_))
  refine bodyPost_ret (results_cell_row rfl _ _ (w.heap.size + 1) 48 _ (0, 0) _ rfl (by (repeat (first | assumption | (with_reducible refine alloc_at ?_; (focus (first | omega | (simp; done) | (simp; omega)))) | (with_reducible refine boxed_at ?_; (focus (first | omega | (simp; done) | (simp; omega)))) | (with_reducible refine alloc_old ?_ ?_; (focus (first | omega | (simp; done) | (simp; omega)))) | (with_reducible refine boxed_old ?_ ?_; (focus (first | omega | (simp; done) | (simp; omega)))) | (with_reducible refine drew_old ?_)))) Tryz.underlying48 rfl (by exact info16)) rfl ⟨rfl, by (repeat (first | assumption | (with_reducible exact Below.refl _ _) | (with_reducible refine boxed_below ?_ ?_; rotate_left; (focus (first | omega | (simp; done) | (simp; omega)))) | (with_reducible refine Below.alloc ?_ ?_ _; rotate_left; (focus (first | omega | (simp; done) | (simp; omega)))) | (with_reducible refine Below.drew ?_)))⟩

set_option maxHeartbeats 4000000 in
theorem named_w1 (k s p n a u e t : Int) (g l : Bool) (K S C T M V : Int) (w : World) (h : nm k = 1) :
    Calls Tryz.prog 24 #[.agg #[.int .u8 k, .int .i64 s, .int .i64 p, .int .i64 n, .int .i64 a, .int .u8 u, .int .i64 e, .int .i64 t, .bool g, .bool l, .int .u8 K, .int .i64 S, .int .i64 C, .int .i64 T, .int .i64 M, .int .u8 V]] w fun x w' => x = .returned (Ov.named ⟨k, s, p, n, ⟨a, u, e, t, g, l⟩, ⟨K, S, C, T, M, V⟩⟩).val ∧ Below w.heap.size w w' := by
  rw [named_1 (o := ⟨k, s, p, n, ⟨a, u, e, t, g, l⟩, ⟨K, S, C, T, M, V⟩⟩) h]
  dsimp only [Ov.val, Pv.zero, Nv.zero]
  have H := Lib.hid h
  clear h
  go_enter Tryz.func24, Tryz.ntmps24
  go_wp2_with (first | (go_at_call 50; refine (names_is _ _ _ H.out).mono ?_; rintro e w' ⟨rfl, rfl⟩) | (refine wl_load Tryz.underlying48 rfl info16 rfl rfl rfl (by (repeat (first | assumption | (with_reducible refine alloc_at ?_; (focus (first | omega | (simp; done) | (simp; omega)))) | (with_reducible refine boxed_at ?_; (focus (first | omega | (simp; done) | (simp; omega)))) | (with_reducible refine alloc_old ?_ ?_; (focus (first | omega | (simp; done) | (simp; omega)))) | (with_reducible refine boxed_old ?_ ?_; (focus (first | omega | (simp; done) | (simp; omega)))) | (with_reducible refine drew_old ?_)))) (by rfl) ?_) | (refine wl_store info16 rfl rfl rfl rfl (by (repeat (first | assumption | (with_reducible refine alloc_at ?_; (focus (first | omega | (simp; done) | (simp; omega)))) | (with_reducible refine boxed_at ?_; (focus (first | omega | (simp; done) | (simp; omega)))) | (with_reducible refine alloc_old ?_ ?_; (focus (first | omega | (simp; done) | (simp; omega)))) | (with_reducible refine boxed_old ?_ ?_; (focus (first | omega | (simp; done) | (simp; omega)))) | (with_reducible refine drew_old ?_)))) (by rfl) (by rfl) (by simp [Value.oneCell']) ?_))
  refine bodyPost_ret (results_cell_row rfl _ _ (w.heap.size + 1) 48 _ (0, 0) _ rfl (by (repeat (first | assumption | (with_reducible refine alloc_at ?_; (focus (first | omega | (simp; done) | (simp; omega)))) | (with_reducible refine boxed_at ?_; (focus (first | omega | (simp; done) | (simp; omega)))) | (with_reducible refine alloc_old ?_ ?_; (focus (first | omega | (simp; done) | (simp; omega)))) | (with_reducible refine boxed_old ?_ ?_; (focus (first | omega | (simp; done) | (simp; omega)))) | (with_reducible refine drew_old ?_)))) Tryz.underlying48 rfl (by exact info16)) rfl ⟨rfl, by (repeat (first | assumption | (with_reducible exact Below.refl _ _) | (with_reducible refine boxed_below ?_ ?_; rotate_left; (focus (first | omega | (simp; done) | (simp; omega)))) | (with_reducible refine Below.alloc ?_ ?_ _; rotate_left; (focus (first | omega | (simp; done) | (simp; omega)))) | (with_reducible refine Below.drew ?_)))⟩

set_option maxHeartbeats 4000000 in
theorem named_w2 (k s p n a u e t : Int) (g l : Bool) (K S C T M V : Int) (w : World) (h : nm k = 2) :
    Calls Tryz.prog 24 #[.agg #[.int .u8 k, .int .i64 s, .int .i64 p, .int .i64 n, .int .i64 a, .int .u8 u, .int .i64 e, .int .i64 t, .bool g, .bool l, .int .u8 K, .int .i64 S, .int .i64 C, .int .i64 T, .int .i64 M, .int .u8 V]] w fun x w' => x = .returned (Ov.named ⟨k, s, p, n, ⟨a, u, e, t, g, l⟩, ⟨K, S, C, T, M, V⟩⟩).val ∧ Below w.heap.size w w' := by
  rw [named_2 (o := ⟨k, s, p, n, ⟨a, u, e, t, g, l⟩, ⟨K, S, C, T, M, V⟩⟩) h]
  dsimp only [Ov.val, Pv.zero, Nv.zero]
  have H := Lib.hid h
  clear h
  go_enter Tryz.func24, Tryz.ntmps24
  go_wp2_with (first | (go_at_call 50; refine (names_is _ _ _ H.out).mono ?_; rintro e w' ⟨rfl, rfl⟩) | (refine wl_load Tryz.underlying48 rfl info16 rfl rfl rfl (by (repeat (first | assumption | (with_reducible refine alloc_at ?_; (focus (first | omega | (simp; done) | (simp; omega)))) | (with_reducible refine boxed_at ?_; (focus (first | omega | (simp; done) | (simp; omega)))) | (with_reducible refine alloc_old ?_ ?_; (focus (first | omega | (simp; done) | (simp; omega)))) | (with_reducible refine boxed_old ?_ ?_; (focus (first | omega | (simp; done) | (simp; omega)))) | (with_reducible refine drew_old ?_)))) (by rfl) ?_) | (refine wl_store info16 rfl rfl rfl rfl (by (repeat (first | assumption | (with_reducible refine alloc_at ?_; (focus (first | omega | (simp; done) | (simp; omega)))) | (with_reducible refine boxed_at ?_; (focus (first | omega | (simp; done) | (simp; omega)))) | (with_reducible refine alloc_old ?_ ?_; (focus (first | omega | (simp; done) | (simp; omega)))) | (with_reducible refine boxed_old ?_ ?_; (focus (first | omega | (simp; done) | (simp; omega)))) | (with_reducible refine drew_old ?_)))) (by rfl) (by rfl) (by simp [Value.oneCell']) ?_))
  go_region
  go_wp2_with (first | (refine wl_load Tryz.underlying48 rfl info16 rfl rfl rfl (by (repeat (first | assumption | (with_reducible refine alloc_at ?_; (focus (first | omega | (simp; done) | (simp; omega)))) | (with_reducible refine boxed_at ?_; (focus (first | omega | (simp; done) | (simp; omega)))) | (with_reducible refine alloc_old ?_ ?_; (focus (first | omega | (simp; done) | (simp; omega)))) | (with_reducible refine boxed_old ?_ ?_; (focus (first | omega | (simp; done) | (simp; omega)))) | (with_reducible refine drew_old ?_)))) (by rfl) ?_) | (refine wl_store info16 rfl rfl rfl rfl (by (repeat (first | assumption | (with_reducible refine alloc_at ?_; (focus (first | omega | (simp; done) | (simp; omega)))) | (with_reducible refine boxed_at ?_; (focus (first | omega | (simp; done) | (simp; omega)))) | (with_reducible refine alloc_old ?_ ?_; (focus (first | omega | (simp; done) | (simp; omega)))) | (with_reducible refine boxed_old ?_ ?_; (focus (first | omega | (simp; done) | (simp; omega)))) | (with_reducible refine drew_old ?_)))) (by rfl) (by rfl) (by simp [Value.oneCell']) ?_))
  refine bodyPost_ret (results_cell_row rfl _ _ (w.heap.size + 1) 48 _ (0, 0) _ rfl (by (repeat (first | assumption | (with_reducible refine alloc_at ?_; (focus (first | omega | (simp; done) | (simp; omega)))) | (with_reducible refine boxed_at ?_; (focus (first | omega | (simp; done) | (simp; omega)))) | (with_reducible refine alloc_old ?_ ?_; (focus (first | omega | (simp; done) | (simp; omega)))) | (with_reducible refine boxed_old ?_ ?_; (focus (first | omega | (simp; done) | (simp; omega)))) | (with_reducible refine drew_old ?_)))) Tryz.underlying48 rfl (by exact info16)) rfl ⟨rfl, by (repeat (first | assumption | (with_reducible exact Below.refl _ _) | (with_reducible refine boxed_below ?_ ?_; rotate_left; (focus (first | omega | (simp; done) | (simp; omega)))) | (with_reducible refine Below.alloc ?_ ?_ _; rotate_left; (focus (first | omega | (simp; done) | (simp; omega)))) | (with_reducible refine Below.drew ?_)))⟩

set_option maxHeartbeats 4000000 in
theorem named_w3 (k s p n a u e t : Int) (g l : Bool) (K S C T M V : Int) (w : World) (h : nm k = 3) :
    Calls Tryz.prog 24 #[.agg #[.int .u8 k, .int .i64 s, .int .i64 p, .int .i64 n, .int .i64 a, .int .u8 u, .int .i64 e, .int .i64 t, .bool g, .bool l, .int .u8 K, .int .i64 S, .int .i64 C, .int .i64 T, .int .i64 M, .int .u8 V]] w fun x w' => x = .returned (Ov.named ⟨k, s, p, n, ⟨a, u, e, t, g, l⟩, ⟨K, S, C, T, M, V⟩⟩).val ∧ Below w.heap.size w w' := by
  rw [named_3 (o := ⟨k, s, p, n, ⟨a, u, e, t, g, l⟩, ⟨K, S, C, T, M, V⟩⟩) h]
  dsimp only [Ov.val, Pv.zero, Nv.zero]
  have H := Lib.hid h
  clear h
  go_enter Tryz.func24, Tryz.ntmps24
  go_wp2_with (first | (go_at_call 50; refine (names_is _ _ _ H.out).mono ?_; rintro e w' ⟨rfl, rfl⟩) | (refine wl_load Tryz.underlying48 rfl info16 rfl rfl rfl (by (repeat (first | assumption | (with_reducible refine alloc_at ?_; (focus (first | omega | (simp; done) | (simp; omega)))) | (with_reducible refine boxed_at ?_; (focus (first | omega | (simp; done) | (simp; omega)))) | (with_reducible refine alloc_old ?_ ?_; (focus (first | omega | (simp; done) | (simp; omega)))) | (with_reducible refine boxed_old ?_ ?_; (focus (first | omega | (simp; done) | (simp; omega)))) | (with_reducible refine drew_old ?_)))) (by rfl) ?_) | (refine wl_store info16 rfl rfl rfl rfl (by (repeat (first | assumption | (with_reducible refine alloc_at ?_; (focus (first | omega | (simp; done) | (simp; omega)))) | (with_reducible refine boxed_at ?_; (focus (first | omega | (simp; done) | (simp; omega)))) | (with_reducible refine alloc_old ?_ ?_; (focus (first | omega | (simp; done) | (simp; omega)))) | (with_reducible refine boxed_old ?_ ?_; (focus (first | omega | (simp; done) | (simp; omega)))) | (with_reducible refine drew_old ?_)))) (by rfl) (by rfl) (by simp [Value.oneCell']) ?_))
  refine bodyPost_ret (results_cell_row rfl _ _ (w.heap.size + 1) 48 _ (0, 0) _ rfl (by (repeat (first | assumption | (with_reducible refine alloc_at ?_; (focus (first | omega | (simp; done) | (simp; omega)))) | (with_reducible refine boxed_at ?_; (focus (first | omega | (simp; done) | (simp; omega)))) | (with_reducible refine alloc_old ?_ ?_; (focus (first | omega | (simp; done) | (simp; omega)))) | (with_reducible refine boxed_old ?_ ?_; (focus (first | omega | (simp; done) | (simp; omega)))) | (with_reducible refine drew_old ?_)))) Tryz.underlying48 rfl (by exact info16)) rfl ⟨rfl, by (repeat (first | assumption | (with_reducible exact Below.refl _ _) | (with_reducible refine boxed_below ?_ ?_; rotate_left; (focus (first | omega | (simp; done) | (simp; omega)))) | (with_reducible refine Below.alloc ?_ ?_ _; rotate_left; (focus (first | omega | (simp; done) | (simp; omega)))) | (with_reducible refine Below.drew ?_)))⟩

set_option maxHeartbeats 4000000 in
theorem named_w4 (k s p n a u e t : Int) (g l : Bool) (K S C T M V : Int) (w : World) (h : nm k = 4) :
    Calls Tryz.prog 24 #[.agg #[.int .u8 k, .int .i64 s, .int .i64 p, .int .i64 n, .int .i64 a, .int .u8 u, .int .i64 e, .int .i64 t, .bool g, .bool l, .int .u8 K, .int .i64 S, .int .i64 C, .int .i64 T, .int .i64 M, .int .u8 V]] w fun x w' => x = .returned (Ov.named ⟨k, s, p, n, ⟨a, u, e, t, g, l⟩, ⟨K, S, C, T, M, V⟩⟩).val ∧ Below w.heap.size w w' := by
  rw [named_4 (o := ⟨k, s, p, n, ⟨a, u, e, t, g, l⟩, ⟨K, S, C, T, M, V⟩⟩) h]
  dsimp only [Ov.val, Pv.zero, Nv.zero]
  have H := Lib.hid h
  clear h
  go_enter Tryz.func24, Tryz.ntmps24
  go_wp2_with (first | (go_at_call 50; refine (names_is _ _ _ H.out).mono ?_; rintro e w' ⟨rfl, rfl⟩) | (refine wl_load Tryz.underlying48 rfl info16 rfl rfl rfl (by (repeat (first | assumption | (with_reducible refine alloc_at ?_; (focus (first | omega | (simp; done) | (simp; omega)))) | (with_reducible refine boxed_at ?_; (focus (first | omega | (simp; done) | (simp; omega)))) | (with_reducible refine alloc_old ?_ ?_; (focus (first | omega | (simp; done) | (simp; omega)))) | (with_reducible refine boxed_old ?_ ?_; (focus (first | omega | (simp; done) | (simp; omega)))) | (with_reducible refine drew_old ?_)))) (by rfl) ?_) | (refine wl_store info16 rfl rfl rfl rfl (by (repeat (first | assumption | (with_reducible refine alloc_at ?_; (focus (first | omega | (simp; done) | (simp; omega)))) | (with_reducible refine boxed_at ?_; (focus (first | omega | (simp; done) | (simp; omega)))) | (with_reducible refine alloc_old ?_ ?_; (focus (first | omega | (simp; done) | (simp; omega)))) | (with_reducible refine boxed_old ?_ ?_; (focus (first | omega | (simp; done) | (simp; omega)))) | (with_reducible refine drew_old ?_)))) (by rfl) (by rfl) (by simp [Value.oneCell']) ?_))
  refine bodyPost_ret (results_cell_row rfl _ _ (w.heap.size + 1) 48 _ (0, 0) _ rfl (by (repeat (first | assumption | (with_reducible refine alloc_at ?_; (focus (first | omega | (simp; done) | (simp; omega)))) | (with_reducible refine boxed_at ?_; (focus (first | omega | (simp; done) | (simp; omega)))) | (with_reducible refine alloc_old ?_ ?_; (focus (first | omega | (simp; done) | (simp; omega)))) | (with_reducible refine boxed_old ?_ ?_; (focus (first | omega | (simp; done) | (simp; omega)))) | (with_reducible refine drew_old ?_)))) Tryz.underlying48 rfl (by exact info16)) rfl ⟨rfl, by (repeat (first | assumption | (with_reducible exact Below.refl _ _) | (with_reducible refine boxed_below ?_ ?_; rotate_left; (focus (first | omega | (simp; done) | (simp; omega)))) | (with_reducible refine Below.alloc ?_ ?_ _; rotate_left; (focus (first | omega | (simp; done) | (simp; omega)))) | (with_reducible refine Below.drew ?_)))⟩

set_option maxHeartbeats 4000000 in
theorem named_w5 (k s p n a u e t : Int) (g l : Bool) (K S C T M V : Int) (w : World) (h : nm k = 5) :
    Calls Tryz.prog 24 #[.agg #[.int .u8 k, .int .i64 s, .int .i64 p, .int .i64 n, .int .i64 a, .int .u8 u, .int .i64 e, .int .i64 t, .bool g, .bool l, .int .u8 K, .int .i64 S, .int .i64 C, .int .i64 T, .int .i64 M, .int .u8 V]] w fun x w' => x = .returned (Ov.named ⟨k, s, p, n, ⟨a, u, e, t, g, l⟩, ⟨K, S, C, T, M, V⟩⟩).val ∧ Below w.heap.size w w' := by
  rw [named_5 (o := ⟨k, s, p, n, ⟨a, u, e, t, g, l⟩, ⟨K, S, C, T, M, V⟩⟩) h]
  dsimp only [Ov.val, Pv.zero, Nv.zero]
  have H := Lib.hid h
  clear h
  go_enter Tryz.func24, Tryz.ntmps24
  go_wp2_with (first | (go_at_call 50; refine (names_is _ _ _ H.out).mono ?_; rintro e w' ⟨rfl, rfl⟩) | (refine wl_load Tryz.underlying48 rfl info16 rfl rfl rfl (by (repeat (first | assumption | (with_reducible refine alloc_at ?_; (focus (first | omega | (simp; done) | (simp; omega)))) | (with_reducible refine boxed_at ?_; (focus (first | omega | (simp; done) | (simp; omega)))) | (with_reducible refine alloc_old ?_ ?_; (focus (first | omega | (simp; done) | (simp; omega)))) | (with_reducible refine boxed_old ?_ ?_; (focus (first | omega | (simp; done) | (simp; omega)))) | (with_reducible refine drew_old ?_)))) (by rfl) ?_) | (refine wl_store info16 rfl rfl rfl rfl (by (repeat (first | assumption | (with_reducible refine alloc_at ?_; (focus (first | omega | (simp; done) | (simp; omega)))) | (with_reducible refine boxed_at ?_; (focus (first | omega | (simp; done) | (simp; omega)))) | (with_reducible refine alloc_old ?_ ?_; (focus (first | omega | (simp; done) | (simp; omega)))) | (with_reducible refine boxed_old ?_ ?_; (focus (first | omega | (simp; done) | (simp; omega)))) | (with_reducible refine drew_old ?_)))) (by rfl) (by rfl) (by simp [Value.oneCell']) ?_))
  refine bodyPost_ret (results_cell_row rfl _ _ (w.heap.size + 1) 48 _ (0, 0) _ rfl (by (repeat (first | assumption | (with_reducible refine alloc_at ?_; (focus (first | omega | (simp; done) | (simp; omega)))) | (with_reducible refine boxed_at ?_; (focus (first | omega | (simp; done) | (simp; omega)))) | (with_reducible refine alloc_old ?_ ?_; (focus (first | omega | (simp; done) | (simp; omega)))) | (with_reducible refine boxed_old ?_ ?_; (focus (first | omega | (simp; done) | (simp; omega)))) | (with_reducible refine drew_old ?_)))) Tryz.underlying48 rfl (by exact info16)) rfl ⟨rfl, by (repeat (first | assumption | (with_reducible exact Below.refl _ _) | (with_reducible refine boxed_below ?_ ?_; rotate_left; (focus (first | omega | (simp; done) | (simp; omega)))) | (with_reducible refine Below.alloc ?_ ?_ _; rotate_left; (focus (first | omega | (simp; done) | (simp; omega)))) | (with_reducible refine Below.drew ?_)))⟩

theorem named_any (k s p n a u e t : Int) (g l : Bool) (K S C T M V : Int) (w : World) :
    Calls Tryz.prog 24 #[.agg #[.int .u8 k, .int .i64 s, .int .i64 p, .int .i64 n, .int .i64 a, .int .u8 u, .int .i64 e, .int .i64 t, .bool g, .bool l, .int .u8 K, .int .i64 S, .int .i64 C, .int .i64 T, .int .i64 M, .int .u8 V]] w fun x w' => x = .returned (Ov.named ⟨k, s, p, n, ⟨a, u, e, t, g, l⟩, ⟨K, S, C, T, M, V⟩⟩).val ∧ Below w.heap.size w w' :=
  nm_ways k (fun h _ => named_w0 k s p n a u e t g l K S C T M V w h) (fun h _ => named_w1 k s p n a u e t g l K S C T M V w h) (fun h _ => named_w2 k s p n a u e t g l K S C T M V w h) (fun h _ => named_w3 k s p n a u e t g l K S C T M V w h) (fun h _ => named_w4 k s p n a u e t g l K S C T M V w h) (fun h _ => named_w5 k s p n a u e t g l K S C T M V w h)
end Go.Proofs.YtblikgbcakgdnaaGreat
