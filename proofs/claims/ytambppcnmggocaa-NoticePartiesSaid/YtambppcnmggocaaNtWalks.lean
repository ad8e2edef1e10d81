/-
  The walks of the laws NoticeParties and NoticeRights, and of what they call: each returns true, whatever the input. No conditions.
-/
import Derived.Test.YtambppcnmggocaaOrEq
namespace Go.Proofs.Ytambppcnmggocaa
set_option maxRecDepth 20000
open Go.ChangeShapes Go.WideShapes Go.ChangeAt Go.RowKit

/-- The law's notice that may be, of layer 11. -/
def Nv.nearA (n : Nv) : Nv := ⟨1 + n.k % 5, n.s % 32, n.c % 18446744073709551616 % 3652059, n.t % 18446744073709551616 % 101, n.a % 1125899906842624, n.v % 4⟩
theorem Nv.nearA_ok (n : Nv) : n.nearA.Ok := by
  unfold Nv.nearA Nv.Ok Nv.Key
  dsimp only
  omega
set_option maxHeartbeats 1000000 in
theorem nneara_any (K S C T M V : Int) (w : World) (wk : 0 ≤ K ∧ K < 256) (wv : 0 ≤ V) :
    Calls Try.prog 28 #[.agg #[.int .u8 K, .int .i64 S, .int .i64 C, .int .i64 T, .int .i64 M, .int .u8 V]] w fun x w' => x = .returned (Nv.nearA ⟨K, S, C, T, M, V⟩).val ∧ Below w.heap.size w w' := by
  obtain ⟨wk0, wk1⟩ := wk
  have ev := Int.tmod_eq_emod_of_nonneg (b := 4) wv
  have es : wrap64 ((IntKind.u64.wrap S).tmod 32) = S % 32 := by rw [u64t]; unfold wrap64; omega
  have ec : wrap64 ((IntKind.u64.wrap C).tmod 3652059) = C % 18446744073709551616 % 3652059 := by rw [u64t]; unfold wrap64; omega
  have et : wrap64 ((IntKind.u64.wrap T).tmod 101) = T % 18446744073709551616 % 101 := by rw [u64t]; unfold wrap64; omega
  have ea : wrap64 ((IntKind.u64.wrap M).tmod 1125899906842624) = M % 1125899906842624 := by rw [u64t]; unfold wrap64; omega
  go_enter Try.func28, Try.ntmps28
  go_wp2
  refine bodyPost_ret (v := (Nv.nearA ⟨K, S, C, T, M, V⟩).val) ?_ rfl ⟨rfl, by go_grown⟩
  simp [results, Try.results28, go_sem, es, ec, et, ea, Nv.nearA, Nv.val]

/-- To whom a notice goes. -/
def Nv.party (n : Nv) : Int := if n.v ≠ 0 then 3 else if n.k = 1 ∨ n.k = 2 then 0 else if n.k = 5 then 2 else 1
set_option maxHeartbeats 1000000 in
theorem party_any (K S C T M V : Int) (w : World) :
    Calls Try.prog 32 #[.agg #[.int .u8 K, .int .i64 S, .int .i64 C, .int .i64 T, .int .i64 M, .int .u8 V]] w fun x w' => x = .returned (.int .u8 (Nv.party ⟨K, S, C, T, M, V⟩)) ∧ Below w.heap.size w w' := by
  by_cases hv : V = 0
  · subst hv
    by_cases h : K = 1 ∨ K = 2 ∨ K = 5
    · rcases h with rfl | rfl | rfl
      all_goals
        go_enter Try.func32, Try.ntmps32
        go_wp2
        go_ret
        exact ⟨rfl, by go_grown⟩
    · have d1 : (K == 1) = false := by rw [beq_eq_false_iff_ne]; omega
      have d2 : (K == 2) = false := by rw [beq_eq_false_iff_ne]; omega
      have d5 : (K == 5) = false := by rw [beq_eq_false_iff_ne]; omega
      rw [show Nv.party ⟨K, S, C, T, M, 0⟩ = 1 by unfold Nv.party; rw [if_neg (by simp), if_neg (by dsimp only; omega), if_neg (by dsimp only; omega)]]
      clear h
      go_enter Try.func32, Try.ntmps32
      go_wp2
      go_ret
      exact ⟨rfl, by go_grown⟩
  · have d : (V != 0) = true := by simpa using hv
    rw [show Nv.party ⟨K, S, C, T, M, V⟩ = 3 by unfold Nv.party; rw [if_pos hv]]
    clear hv
    go_enter Try.func32, Try.ntmps32
    go_wp2
    go_ret
    exact ⟨rfl, by go_grown⟩
set_option maxHeartbeats 1000000 in
theorem answer_any (K S C T M V v : Int) (w : World) :
    Calls Try.prog 29 #[.agg #[.int .u8 K, .int .i64 S, .int .i64 C, .int .i64 T, .int .i64 M, .int .u8 V], .int .u8 v] w fun x w' => x = .returned (.agg #[.int .u8 K, .int .i64 S, .int .i64 C, .int .i64 T, .int .i64 M, .int .u8 v]) ∧ Below w.heap.size w w' := by
  go_enter Try.func29, Try.ntmps29
  go_wp2
  refine bodyPost_ret (v := .agg #[.int .u8 K, .int .i64 S, .int .i64 C, .int .i64 T, .int .i64 M, .int .u8 v]) ?_ rfl ⟨rfl, by go_grown⟩
  simp [results, Try.results29, go_sem]
set_option maxHeartbeats 1000000 in
theorem asked_any (K S C T M V : Int) (w : World) :
    Calls Try.prog 30 #[.agg #[.int .u8 K, .int .i64 S, .int .i64 C, .int .i64 T, .int .i64 M, .int .u8 V]] w fun x w' => x = .returned (.agg #[.int .u8 K, .int .i64 S, .int .i64 C, .int .i64 T, .int .i64 M, .int .u8 0]) ∧ Below w.heap.size w w' := by
  go_enter Try.func30, Try.ntmps30
  go_wp2_with (fail)
  refine (answer_any K S C T M V 0 _).mono ?_
  rintro x w1 ⟨rfl, hb⟩
  obtain ⟨hw, z0, z1, e1⟩ := two_of hb
  rw [e1]
  have HW := Lib.hid hw
  clear e1 hb hw
  go_wp2
  refine bodyPost_ret (v := .agg #[.int .u8 K, .int .i64 S, .int .i64 C, .int .i64 T, .int .i64 M, .int .u8 0]) ?_ rfl ⟨rfl, boxed_below (boxed_below HW.out (Nat.le_refl _)) (by omega)⟩
  simp [results, Try.results30, go_sem, z1]
set_option maxHeartbeats 2000000 in
theorem nright_any (K S C T M V : Int) (w : World) (wV : 0 ≤ V) :
    Calls Try.prog 33 #[.agg #[.int .u8 K, .int .i64 S, .int .i64 C, .int .i64 T, .int .i64 M, .int .u8 V]] w fun x w' => x = .returned (.bool (decide (Nv.Ok ⟨K, S, C, T, M, V⟩))) ∧ Below w.heap.size w w' := by
  by_cases h : 1 ≤ K ∧ K ≤ 5 ∧ V ≤ 3
  · obtain ⟨h1, h2, h4⟩ := h
    rw [show decide (Nv.Ok ⟨K, S, C, T, M, V⟩) = decide (Nv.Key ⟨K, S, C, T, M, V⟩) by rw [decide_eq_decide]; unfold Nv.Ok; exact ⟨fun h => h.2.2.2.2, fun h => ⟨h1, h2, wV, h4, h⟩⟩]
    generalize hq : decide (Nv.Key ⟨K, S, C, T, M, V⟩) = q
    have HQ := Lib.hid hq
    clear hq
    go_enter Try.func33, Try.ntmps33
    go_wp2_with (go_at_call 15; refine (okey_any _ _ _ _ _ _ _).mono ?_; rw [HQ.out]; rintro e w' ⟨rfl, hb⟩)
    go_ret
    exact ⟨rfl, ((Below.refl _ _).alloc (Nat.le_refl _) _).trans (hb.mono (by simp))⟩
  · rw [show decide (Nv.Ok ⟨K, S, C, T, M, V⟩) = false from decide_eq_false (fun g => h ⟨g.1, g.2.1, g.2.2.2.1⟩)]
    have H : K < 1 ∨ 1 ≤ K ∧ 5 < K ∨ 1 ≤ K ∧ K ≤ 5 ∧ 3 < V := by omega
    clear h
    rcases H with h | ⟨_, h⟩ | ⟨_, _, h⟩
    all_goals
      try have d1 : decide (1 ≤ K) = false := decide_eq_false (by omega)
      try have d2 : decide (K ≤ 5) = false := decide_eq_false (by omega)
      try have d4 : decide (V ≤ 3) = false := decide_eq_false (by omega)
      go_enter Try.func33, Try.ntmps33
      go_wp2
      go_ret
      exact ⟨rfl, by go_grown⟩
set_option maxHeartbeats 2000000 in
theorem ntawake_any (w : World) : Calls Try.prog 31 #[] w fun e w' => e = .returned (.bool true) ∧ Below w.heap.size w w' := by
  go_enter Try.func31, Try.ntmps31
  go_wp2_with (fail)
  refine (party_any 1 1 0 1 5 0 _).mono ?_
  rintro x w1 ⟨rfl, hb1⟩
  obtain ⟨hw1, s1, e1⟩ := keep0 hb1
  rw [e1]
  have HW1 := Lib.hid hw1
  clear e1 hb1 hw1
  go_wp2_with (fail)
  refine (answer_any 1 1 0 1 5 0 1 _).mono ?_
  rintro x w2 ⟨rfl, hb2⟩
  go_wp2_with (fail)
  refine (party_any 1 1 0 1 5 1 _).mono ?_
  rintro x w3 ⟨rfl, hb3⟩
  have hw3 : Below w.heap.size w w3 := (boxed_below HW1.out (Nat.le_refl _)).trans ((hb2.trans (hb3.mono hb2.size)).mono (by rw [boxed_size]; exact Nat.le_of_lt s1))
  go_wp2
  go_ret
  exact ⟨rfl, hw3⟩

theorem ok_key {n : Nv} (h1 : 1 ≤ n.k) (h2 : n.k ≤ 5) (h3 : 0 ≤ n.v) (h4 : n.v ≤ 3) : decide n.Ok = decide n.Key := by
  rw [decide_eq_decide]; unfold Nv.Ok; exact ⟨fun h => h.2.2.2.2, fun h => ⟨h1, h2, h3, h4, h⟩⟩
theorem ok_not {n : Nv} (h : n.k < 1 ∨ 5 < n.k ∨ 3 < n.v) : decide n.Ok = false := decide_eq_false (fun g => by have h1 := g.1; have h2 := g.2.1; have h3 := g.2.2.2.1; omega)
set_option maxHeartbeats 4000000 in
theorem noticeRights_false (K S C T M V : Int) (h : (⟨K, S, C, T, M, V⟩ : Nv).Wf) (w : World) :
    Calls Try.prog 10 #[.agg #[.int .u8 K, .int .i64 S, .int .i64 C, .int .i64 T, .int .i64 M, .int .u8 V], .bool false] w fun e w' => e = .returned (.bool true) ∧ Below w.heap.size w w' := by
  obtain ⟨⟨k0, k1⟩, _, _, _, _, ⟨v0, v1⟩⟩ := h
  dsimp only at k0 k1 v0 v1
  have hv1 : 0 ≤ V := v0
  obtain ⟨q, hq⟩ : ∃ q, decide (Nv.Key ⟨K, S, C, T, M, V⟩) = q := ⟨_, rfl⟩
  have HK : Hid (∀ w, Calls Try.prog 15 #[.agg #[.int .u8 K, .int .i64 S, .int .i64 C, .int .i64 T, .int .i64 M, .int .u8 V]] w fun x w' => x = .returned (.bool q) ∧ Below w.heap.size w w') := fun w => by rw [← hq]; exact okey_any K S C T M V w
  have H : (1 ≤ K ∧ K ≤ 5 ∧ V ≤ 3) ∨ (K < 1) ∨ (1 ≤ K ∧ 5 < K) ∨ (1 ≤ K ∧ K ≤ 5 ∧ 3 < V) := by omega
  obtain ⟨r, hr, HR, HW⟩ : ∃ r, decide (Nv.Ok ⟨K, S, C, T, M, V⟩) = r ∧ Hid (∀ w, Calls Try.prog 33 #[.agg #[.int .u8 K, .int .i64 S, .int .i64 C, .int .i64 T, .int .i64 M, .int .u8 V]] w fun x w' => x = .returned (.bool r) ∧ Below w.heap.size w w') ∧ ((1 ≤ K ∧ K ≤ 5 ∧ V ≤ 3 ∧ r = q) ∨ (K < 1 ∧ r = false) ∨ (1 ≤ K ∧ 5 < K ∧ r = false) ∨ (1 ≤ K ∧ K ≤ 5 ∧ 3 < V ∧ r = false)) := by
    refine ⟨_, rfl, fun w => nright_any K S C T M V w hv1, ?_⟩
    rcases H with h | h | h | h
    · exact .inl ⟨h.1, h.2.1, h.2.2, (ok_key (n := ⟨K, S, C, T, M, V⟩) h.1 h.2.1 hv1 h.2.2).trans hq⟩
    · exact .inr (.inl ⟨h, ok_not (.inl h)⟩)
    · exact .inr (.inr (.inl ⟨h.1, h.2, ok_not (.inr (.inl h.2))⟩))
    · exact .inr (.inr (.inr ⟨h.1, h.2.1, h.2.2, ok_not (.inr (.inr h.2.2))⟩))
  clear hr hq H
  rcases HW with ⟨g1, g2, g3, rfl⟩ | ⟨g1, rfl⟩ | ⟨g1, g2, rfl⟩ | ⟨g1, g2, g3, rfl⟩
  all_goals
    try have d1 : decide (1 ≤ K) = false := decide_eq_false (by omega)
    try have d2 : decide (K ≤ 5) = false := decide_eq_false (by omega)
    try have d4 : decide (V ≤ 3) = false := decide_eq_false (by omega)
    go_enter Try.func10, Try.ntmps10
    go_wp2
    refine region_over (by kernel_rfl) (by kernel_rfl) ?_
    repeat (go_big_quiet_step (first | (go_at_call 31; exact over_call (ntawake_any _)) | (go_at_call 33; exact over_call (HR.out _)) | (go_at_call 15; exact over_call (HK.out _))))
    refine wpQuiet_nil ?_
    rintro _ ⟨x, rfl⟩
    go_wp2
    go_ret
    exact ⟨by simp, ((Below.refl _ _).alloc (Nat.le_refl _) _).trans ((over_below _ x).mono (by simp))⟩
set_option maxHeartbeats 4000000 in
theorem noticeRights_true (K S C T M V : Int) (h : (⟨K, S, C, T, M, V⟩ : Nv).Wf) (w : World) :
    Calls Try.prog 10 #[.agg #[.int .u8 K, .int .i64 S, .int .i64 C, .int .i64 T, .int .i64 M, .int .u8 V], .bool true] w fun e w' => e = .returned (.bool true) ∧ Below w.heap.size w w' := by
  obtain ⟨⟨k0, k1⟩, _, _, _, _, ⟨v0, v1⟩⟩ := h
  dsimp only at k0 k1 v0 v1
  obtain ⟨N, hN⟩ : ∃ N, Nv.nearA ⟨K, S, C, T, M, V⟩ = N := ⟨_, rfl⟩
  have HN := Lib.hid hN
  clear hN
  obtain ⟨K', S1, C1, T1, M1, V'⟩ := N
  obtain ⟨K1, hK1⟩ : ∃ K1, K % 8 = K1 := ⟨_, rfl⟩
  obtain ⟨V1, hV1⟩ : ∃ V1, V % 6 = V1 := ⟨_, rfl⟩
  have ek : K.tmod 8 = K1 := by rw [Int.tmod_eq_emod_of_nonneg k0]; exact hK1
  have ev : V.tmod 6 = V1 := by rw [Int.tmod_eq_emod_of_nonneg v0]; exact hV1
  have hv1 : 0 ≤ V1 := by omega
  obtain ⟨q, hq⟩ : ∃ q, decide (Nv.Key ⟨K1, S1, C1, T1, M1, V1⟩) = q := ⟨_, rfl⟩
  have HK : Hid (∀ w, Calls Try.prog 15 #[.agg #[.int .u8 K1, .int .i64 S1, .int .i64 C1, .int .i64 T1, .int .i64 M1, .int .u8 V1]] w fun x w' => x = .returned (.bool q) ∧ Below w.heap.size w w') := fun w => by rw [← hq]; exact okey_any K1 S1 C1 T1 M1 V1 w
  have H : (1 ≤ K1 ∧ K1 ≤ 5 ∧ V1 ≤ 3) ∨ (K1 < 1) ∨ (1 ≤ K1 ∧ 5 < K1) ∨ (1 ≤ K1 ∧ K1 ≤ 5 ∧ 3 < V1) := by omega
  obtain ⟨r, hr, HR, HW⟩ : ∃ r, decide (Nv.Ok ⟨K1, S1, C1, T1, M1, V1⟩) = r ∧ Hid (∀ w, Calls Try.prog 33 #[.agg #[.int .u8 K1, .int .i64 S1, .int .i64 C1, .int .i64 T1, .int .i64 M1, .int .u8 V1]] w fun x w' => x = .returned (.bool r) ∧ Below w.heap.size w w') ∧ ((1 ≤ K1 ∧ K1 ≤ 5 ∧ V1 ≤ 3 ∧ r = q) ∨ (K1 < 1 ∧ r = false) ∨ (1 ≤ K1 ∧ 5 < K1 ∧ r = false) ∨ (1 ≤ K1 ∧ K1 ≤ 5 ∧ 3 < V1 ∧ r = false)) := by
    refine ⟨_, rfl, fun w => nright_any K1 S1 C1 T1 M1 V1 w hv1, ?_⟩
    rcases H with h | h | h | h
    · exact .inl ⟨h.1, h.2.1, h.2.2, (ok_key (n := ⟨K1, S1, C1, T1, M1, V1⟩) h.1 h.2.1 hv1 h.2.2).trans hq⟩
    · exact .inr (.inl ⟨h, ok_not (.inl h)⟩)
    · exact .inr (.inr (.inl ⟨h.1, h.2, ok_not (.inr (.inl h.2))⟩))
    · exact .inr (.inr (.inr ⟨h.1, h.2.1, h.2.2, ok_not (.inr (.inr h.2.2))⟩))
  clear hr hq H
  clear hK1 hV1
  rcases HW with ⟨g1, g2, g3, rfl⟩ | ⟨g1, rfl⟩ | ⟨g1, g2, rfl⟩ | ⟨g1, g2, g3, rfl⟩
  all_goals
    try have d1 : decide (1 ≤ K1) = false := decide_eq_false (by omega)
    try have d2 : decide (K1 ≤ 5) = false := decide_eq_false (by omega)
    try have d4 : decide (V1 ≤ 3) = false := decide_eq_false (by omega)
    go_enter Try.func10, Try.ntmps10
    go_wp2_with (fail)
    refine (nneara_any K S C T M V _ ⟨k0, k1⟩ v0).mono ?_
    rw [HN.out]
    dsimp only [Nv.val]
    rintro x w1 ⟨rfl, hb1⟩
    obtain ⟨hw1, s1, e1⟩ := keep0 hb1
    rw [e1]
    have HW1 := Lib.hid hw1
    clear e1 hb1 hw1
    go_wp2
    refine region_over (by kernel_rfl) (by kernel_rfl) ?_
    repeat (go_big_quiet_step (first | (go_at_call 31; exact over_call (ntawake_any _)) | (go_at_call 33; exact over_call (HR.out _)) | (go_at_call 15; exact over_call (HK.out _))))
    refine wpQuiet_nil ?_
    rintro _ ⟨x, rfl⟩
    go_wp2
    go_ret
    refine ⟨by simp, ?_⟩
    have HB := HW1.out
    refine Below.trans ?_ ((over_below _ x).mono (by simp; omega))
    (repeat (first | assumption | (with_reducible exact Below.refl _ _) | (with_reducible refine boxed_below ?_ ?_; rotate_left; (focus (first | omega | (simp; done) | (simp; omega)))) | (with_reducible refine Below.alloc ?_ ?_ _; rotate_left; (focus (first | omega | (simp; done) | (simp; omega)))) | (with_reducible refine Below.drew ?_)))
theorem noticeRights_walk (K S C T M V : Int) (h : (⟨K, S, C, T, M, V⟩ : Nv).Wf) (some : Bool) (w : World) :
    Calls Try.prog 10 #[.agg #[.int .u8 K, .int .i64 S, .int .i64 C, .int .i64 T, .int .i64 M, .int .u8 V], .bool some] w fun e w' => e = .returned (.bool true) ∧ Below w.heap.size w w' := by
  cases some
  · exact noticeRights_false K S C T M V h w
  · exact noticeRights_true K S C T M V h w
end Go.Proofs.Ytambppcnmggocaa
