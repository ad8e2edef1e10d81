/-
  What becomes of a cycle behind an answer: package cycle's answers, charged, allocated, shipped, Hear. Conditions: the day is far from int's ends.
-/
import Derived.Test.YtblikgbcakgdnaaGreatBr03
import Derived.Test.YtblikgbcakgdnaaGreatBr06
set_option linter.unusedSimpArgs false
set_option linter.unusedVariables false
namespace Go.Proofs.YtblikgbcakgdnaaGreat
set_option maxRecDepth 20000
open Go.ChangeShapes Go.WideShapes Go.ChangeAt Go.RowKit

theorem back_is {n d p a u t x : Int} {g : Bool} : Cv.back ⟨n, d, p, a, u, t, x, g⟩ = ⟨n, d, if a = 0 then 9 else 6, a, u, t, x, g⟩ := by
  unfold Cv.back Cv.to
  by_cases h : a = 0
  · rw [if_pos h, if_pos h]
  · rw [if_neg h, if_neg h]
theorem back_q (n d p a u t x : Int) (g : Bool) (w : World) : Calls Tryz.prog 116 #[.agg #[.int .i64 n, .int .i64 d, .int .u8 p, .int .i64 a, .int .i64 u, .int .i64 t, .int .i64 x, .bool g]] w fun e w' => e = .returned (Cv.back ⟨n, d, p, a, u, t, x, g⟩).val ∧ Below w.heap.size w w' := by
  rw [back_is]; exact cyback_any n d p a u t x g w
set_option maxHeartbeats 400000 in
theorem allocated_any (n d p a u t x : Int) (g : Bool) (v : Int) (o : Bool) (w : World) : Calls Tryz.prog 114 #[.agg #[.int .i64 n, .int .i64 d, .int .u8 p, .int .i64 a, .int .i64 u, .int .i64 t, .int .i64 x, .bool g], .int .u8 v, .bool o] w fun e w' => e = .returned (Cv.allocated ⟨n, d, p, a, u, t, x, g⟩ v o).val ∧ Below w.heap.size w w' := by
  by_cases h : v = 1
  · subst h
    cases o
    · go_enter Tryz.func114, Tryz.ntmps114
      go_wp2_with (fail)
      refine (cyto_is _ _ _ _ _ _ _ _ _ _).mono ?_
      rintro e w1 ⟨rfl, hb⟩
      obtain ⟨hw, z0, z1, e1⟩ := two_of hb
      rw [e1]
      have HW := Lib.hid hw
      clear e1 hb hw
      go_wp2
      refine bodyPost_ret (v := .agg #[.int .i64 n, .int .i64 d, .int .u8 4, .int .i64 a, .int .i64 u, .int .i64 t, .int .i64 x, .bool g]) ?_ rfl ⟨rfl, boxed_below (boxed_below HW.out (Nat.le_refl _)) (by omega)⟩
      simp [results, Tryz.results114, go_sem, z1]
    · go_enter Tryz.func114, Tryz.ntmps114
      go_wp2_with (fail)
      refine (cyto_is _ _ _ _ _ _ _ _ _ _).mono ?_
      rintro e w1 ⟨rfl, hb⟩
      obtain ⟨hw, z0, z1, e1⟩ := two_of hb
      rw [e1]
      have HW := Lib.hid hw
      clear e1 hb hw
      go_wp2
      refine bodyPost_ret (v := .agg #[.int .i64 n, .int .i64 d, .int .u8 5, .int .i64 a, .int .i64 u, .int .i64 t, .int .i64 x, .bool g]) ?_ rfl ⟨rfl, boxed_below (boxed_below HW.out (Nat.le_refl _)) (by omega)⟩
      simp [results, Tryz.results114, go_sem, z1]
  · have h1 : (v == 1) = false := by simpa using h
    have h2 : (v != 1) = true := by simpa using h
    rw [show Cv.allocated ⟨n, d, p, a, u, t, x, g⟩ v o = Cv.back ⟨n, d, p, a, u, t, x, g⟩ from if_neg h, back_is]
    obtain ⟨q, hq⟩ : ∃ q, (if a = 0 then (9 : Int) else 6) = q := ⟨_, rfl⟩
    have HQ := Lib.hid hq
    rw [hq]
    clear h hq
    go_enter Tryz.func114, Tryz.ntmps114
    go_wp2_with (fail)
    refine (cyback_any _ _ _ _ _ _ _ _ _).mono ?_
    rw [HQ.out]
    rintro e w1 ⟨rfl, hb⟩
    obtain ⟨hw, z0, z1, e1⟩ := two_of hb
    rw [e1]
    have HW := Lib.hid hw
    clear e1 hb hw
    go_wp2
    refine bodyPost_ret (v := .agg #[.int .i64 n, .int .i64 d, .int .u8 q, .int .i64 a, .int .i64 u, .int .i64 t, .int .i64 x, .bool g]) ?_ rfl ⟨rfl, boxed_below (boxed_below HW.out (Nat.le_refl _)) (by omega)⟩
    simp [results, Tryz.results114, go_sem, z1]
set_option maxHeartbeats 400000 in
theorem shipped_any (n d p a u t x : Int) (g : Bool) (v : Int) (w : World) : Calls Tryz.prog 115 #[.agg #[.int .i64 n, .int .i64 d, .int .u8 p, .int .i64 a, .int .i64 u, .int .i64 t, .int .i64 x, .bool g], .int .u8 v] w fun e w' => e = .returned (Cv.shipped ⟨n, d, p, a, u, t, x, g⟩ v).val ∧ Below w.heap.size w w' := by
  by_cases h : v = 1
  · subst h
    go_enter Tryz.func115, Tryz.ntmps115
    go_wp2_with (fail)
    refine (cyto_is _ _ _ _ _ _ _ _ _ _).mono ?_
    rintro e w1 ⟨rfl, hb⟩
    obtain ⟨hw, z0, z1, e1⟩ := two_of hb
    rw [e1]
    have HW := Lib.hid hw
    clear e1 hb hw
    go_wp2
    refine bodyPost_ret (v := .agg #[.int .i64 n, .int .i64 d, .int .u8 7, .int .i64 a, .int .i64 u, .int .i64 t, .int .i64 x, .bool g]) ?_ rfl ⟨rfl, boxed_below (boxed_below HW.out (Nat.le_refl _)) (by omega)⟩
    simp [results, Tryz.results115, go_sem, z1]
  · have h1 : (v == 1) = false := by simpa using h
    rw [show Cv.shipped ⟨n, d, p, a, u, t, x, g⟩ v = Cv.to ⟨n, d, p, a, u, t, x, g⟩ 5 from if_neg h]
    clear h
    go_enter Tryz.func115, Tryz.ntmps115
    go_wp2_with (fail)
    refine (cyto_is _ _ _ _ _ _ _ _ _ _).mono ?_
    rintro e w1 ⟨rfl, hb⟩
    obtain ⟨hw, z0, z1, e1⟩ := two_of hb
    rw [e1]
    have HW := Lib.hid hw
    clear e1 hb hw
    go_wp2
    refine bodyPost_ret (v := .agg #[.int .i64 n, .int .i64 d, .int .u8 5, .int .i64 a, .int .i64 u, .int .i64 t, .int .i64 x, .bool g]) ?_ rfl ⟨rfl, boxed_below (boxed_below HW.out (Nat.le_refl _)) (by omega)⟩
    simp [results, Tryz.results115, go_sem, z1]
theorem delay_range (t : Int) : 1 ≤ Cy.delay t ∧ Cy.delay t ≤ 7 := by unfold Cy.delay; split <;> (try split) <;> omega
set_option maxHeartbeats 1000000 in
theorem charged_any (n d p a u t x : Int) (g : Bool) (v y : Int) (o : Bool) (w : World) (hy0 : -4611686018427387904 ≤ y) (hy1 : y ≤ 4611686018427387904) : Calls Tryz.prog 113 #[.agg #[.int .i64 n, .int .i64 d, .int .u8 p, .int .i64 a, .int .i64 u, .int .i64 t, .int .i64 x, .bool g], .int .u8 v, .int .i64 y, .bool o] w fun e w' => e = .returned (Cv.charged ⟨n, d, p, a, u, t, x, g⟩ v y o).val ∧ Below w.heap.size w w' := by
  by_cases h : v = 1
  · subst h
    cases o
    · rw [show Cv.charged ⟨n, d, p, a, u, t, x, g⟩ 1 y false = ⟨n, d, Cy.paid g, a, u, t, x, g⟩ from rfl]
      obtain ⟨q, hq⟩ : ∃ q, Cy.paid g = q := ⟨_, rfl⟩
      have HQ := Lib.hid hq
      rw [hq]
      have HP : Hid (((w.alloc (.cells #[.int .i64 n, .int .i64 d, .int .u8 p, .int .i64 a, .int .i64 u, .int .i64 t, .int .i64 x, .bool g] 112)).alloc (.cells #[.int .i64 0, .int .i64 0, .int .u8 0, .int .i64 0, .int .i64 0, .int .i64 0, .int .i64 0, .bool false] 112)).heap[w.heap.size]? = some (.cells #[.int .i64 n, .int .i64 d, .int .u8 p, .int .i64 a, .int .i64 u, .int .i64 t, .int .i64 x, .bool g] 112 (0, 0))) := alloc_old (by simp) (alloc_at rfl)
      clear hq hy0 hy1
      go_enter Tryz.func113, Tryz.ntmps113
      go_wp2_with (fail)
      refine laneT_start (ord := [0, 1, 2, 3, 4, 5]) (t := 5) (S := fun w' => w'.heap[w.heap.size]? = some (.cells #[.int .i64 n, .int .i64 d, .int .u8 p, .int .i64 a, .int .i64 u, .int .i64 t, .int .i64 x, .bool g] 112 (0, 0))) rfl (by kernel_rfl) ?_
      iterate 3 (refine laneT_take (v := ?_) rfl (by kernel_rfl) (by kernel_rfl) (by rfl) ?_ (by exact HP.out) ?_; rotate_left; (focus (intro W hSw; obtain ⟨s0, s1, s2, s3, s4, s5, s6, s7⟩ := cells8 hSw; go_simp; try (with_reducible rfl))); simp only [Act.put, List.setIfInBounds_toArray, List.set_cons_zero, List.set_cons_succ])
      refine laneT_alone rfl (by kernel_rfl) (by rfl) (fun K hK => ?_)
      go_simp
      refine (paid_any _ _).mono ?_
      rw [HQ.out]
      rintro e w' ⟨rfl, rfl⟩
      refine hK _ _ (fun _ => HP.out) ?_
      clear hK K
      refine laneT_alone rfl (by kernel_rfl) (by rfl) (fun K hK => ?_)
      go_simp
      refine (cyto_is _ _ _ _ _ _ _ _ _ _).mono ?_
      rintro e w1 ⟨rfl, hb⟩
      refine hK _ _ (fun _ => (below_block hb HP.out)) ?_
      clear hK K
      obtain ⟨hw, z0, z1, e1⟩ := two_of ((Below.refl _ _).drew.trans hb)
      rw [e1]
      have HW := Lib.hid hw
      clear e1 hb hw
      refine laneT_alone rfl (by kernel_rfl) (by rfl) (fun K hK => ?_)
      go_simp
      refine hK _ _ (fun h => absurd rfl h) ?_
      clear hK K
      refine laneT_end (by kernel_rfl) ?_
      go_wp2
      refine bodyPost_ret (v := .agg #[.int .i64 n, .int .i64 d, .int .u8 q, .int .i64 a, .int .i64 u, .int .i64 t, .int .i64 x, .bool g]) ?_ rfl ⟨rfl, boxed_below (boxed_below HW.out (Nat.le_refl _)) (by omega)⟩
      simp [results, Tryz.results113, go_sem, z1]
    · rw [show Cv.charged ⟨n, d, p, a, u, t, x, g⟩ 1 y true = Cv.back ⟨n, d, p, a, u, t, x, g⟩ from rfl, back_is]
      obtain ⟨q, hq⟩ : ∃ q, (if a = 0 then (9 : Int) else 6) = q := ⟨_, rfl⟩
      have HQ := Lib.hid hq
      rw [hq]
      clear hq hy0 hy1
      go_enter Tryz.func113, Tryz.ntmps113
      go_wp2_with (fail)
      refine (cyback_any _ _ _ _ _ _ _ _ _).mono ?_
      rw [HQ.out]
      rintro e w1 ⟨rfl, hb⟩
      obtain ⟨hw, z0, z1, e1⟩ := two_of hb
      rw [e1]
      have HW := Lib.hid hw
      clear e1 hb hw
      go_wp2
      refine bodyPost_ret (v := .agg #[.int .i64 n, .int .i64 d, .int .u8 q, .int .i64 a, .int .i64 u, .int .i64 t, .int .i64 x, .bool g]) ?_ rfl ⟨rfl, boxed_below (boxed_below HW.out (Nat.le_refl _)) (by omega)⟩
      simp [results, Tryz.results113, go_sem, z1]
  · have h1 : (v == 1) = false := by simpa using h
    by_cases h2 : v = 2
    · subst h2
      cases o
      · by_cases h4 : t < 4
        · have hd := delay_range t
          rw [show Cv.charged ⟨n, d, p, a, u, t, x, g⟩ 2 y false = ⟨n, d, 2, a, u, t, y + Cy.delay t, g⟩ by unfold Cv.charged; rw [if_neg (by omega), if_pos ⟨rfl, rfl, h4⟩]]
          obtain ⟨q, hq⟩ : ∃ q, Cy.delay t = q := ⟨_, rfl⟩
          rw [hq] at hd ⊢
          have HQ := Lib.hid hq
          clear hq h h1
          go_enter Tryz.func113, Tryz.ntmps113
          go_wp2_with (go_at_call 126; refine (delay_any _ _).mono ?_; rw [HQ.out]; rintro e w' ⟨rfl, rfl⟩)
          refine (cyto_is _ _ _ _ _ _ _ _ _ _).mono ?_
          rintro e w1 ⟨rfl, hb⟩
          obtain ⟨hw, z0, z1, e1⟩ := two_of hb
          rw [e1]
          have HW := Lib.hid hw
          clear e1 hb hw
          go_wp2
          refine bodyPost_ret (v := .agg #[.int .i64 n, .int .i64 d, .int .u8 2, .int .i64 a, .int .i64 u, .int .i64 t, .int .i64 (y + q), .bool g]) ?_ rfl ⟨rfl, boxed_below (boxed_below HW.out (Nat.le_refl _)) (by omega)⟩
          simp [results, Tryz.results113, go_sem, z1]
        · rw [show Cv.charged ⟨n, d, p, a, u, t, x, g⟩ 2 y false = Cv.to ⟨n, d, p, a, u, t, x, g⟩ 8 by unfold Cv.charged; rw [if_neg (by omega), if_neg (fun g => h4 g.2.2)]]
          have h5 : decide (t < 4) = false := by simpa using h4
          clear h h4 hy0 hy1
          go_enter Tryz.func113, Tryz.ntmps113
          go_wp2_with (fail)
          refine (cyto_is _ _ _ _ _ _ _ _ _ _).mono ?_
          rintro e w1 ⟨rfl, hb⟩
          obtain ⟨hw, z0, z1, e1⟩ := two_of hb
          rw [e1]
          have HW := Lib.hid hw
          clear e1 hb hw
          go_wp2
          refine bodyPost_ret (v := .agg #[.int .i64 n, .int .i64 d, .int .u8 8, .int .i64 a, .int .i64 u, .int .i64 t, .int .i64 x, .bool g]) ?_ rfl ⟨rfl, boxed_below (boxed_below HW.out (Nat.le_refl _)) (by omega)⟩
          simp [results, Tryz.results113, go_sem, z1]
      · rw [show Cv.charged ⟨n, d, p, a, u, t, x, g⟩ 2 y true = Cv.to ⟨n, d, p, a, u, t, x, g⟩ 8 by unfold Cv.charged; rw [if_neg (by omega), if_neg (fun g => by simp at g)]]
        clear h hy0 hy1
        go_enter Tryz.func113, Tryz.ntmps113
        go_wp2_with (fail)
        refine (cyto_is _ _ _ _ _ _ _ _ _ _).mono ?_
        rintro e w1 ⟨rfl, hb⟩
        obtain ⟨hw, z0, z1, e1⟩ := two_of hb
        rw [e1]
        have HW := Lib.hid hw
        clear e1 hb hw
        go_wp2
        refine bodyPost_ret (v := .agg #[.int .i64 n, .int .i64 d, .int .u8 8, .int .i64 a, .int .i64 u, .int .i64 t, .int .i64 x, .bool g]) ?_ rfl ⟨rfl, boxed_below (boxed_below HW.out (Nat.le_refl _)) (by omega)⟩
        simp [results, Tryz.results113, go_sem, z1]
    · have h3 : (v == 2) = false := by simpa using h2
      rw [show Cv.charged ⟨n, d, p, a, u, t, x, g⟩ v y o = Cv.to ⟨n, d, p, a, u, t, x, g⟩ 8 by unfold Cv.charged; rw [if_neg h, if_neg (fun g => h2 g.1)]]
      clear h h2 hy0 hy1
      go_enter Tryz.func113, Tryz.ntmps113
      go_wp2_with (fail)
      refine (cyto_is _ _ _ _ _ _ _ _ _ _).mono ?_
      rintro e w1 ⟨rfl, hb⟩
      obtain ⟨hw, z0, z1, e1⟩ := two_of hb
      rw [e1]
      have HW := Lib.hid hw
      clear e1 hb hw
      go_wp2
      refine bodyPost_ret (v := .agg #[.int .i64 n, .int .i64 d, .int .u8 8, .int .i64 a, .int .i64 u, .int .i64 t, .int .i64 x, .bool g]) ?_ rfl ⟨rfl, boxed_below (boxed_below HW.out (Nat.le_refl _)) (by omega)⟩
      simp [results, Tryz.results113, go_sem, z1]
/-- Two notices are one, field by field. -/
theorem nv_beq (K S C T M V K' S' C' T' M' V' : Int) : decide ((⟨K, S, C, T, M, V⟩ : Nv) = ⟨K', S', C', T', M', V'⟩) = (K == K' && (S == S' && (C == C' && (T == T' && (M == M' && V == V'))))) := by
  rw [Bool.eq_iff_iff]
  simp [Nv.mk.injEq]
set_option maxHeartbeats 1000000 in
theorem answers_any (s : Int) (n d p a u t x : Int) (g : Bool) (K S C T M V : Int) (w : World) : Calls Tryz.prog 112 #[.int .i64 s, .agg #[.int .i64 n, .int .i64 d, .int .u8 p, .int .i64 a, .int .i64 u, .int .i64 t, .int .i64 x, .bool g], .agg #[.int .u8 K, .int .i64 S, .int .i64 C, .int .i64 T, .int .i64 M, .int .u8 V]] w fun e w' => e = .returned (.bool (decide (Cv.Heard s ⟨n, d, p, a, u, t, x, g⟩ ⟨K, S, C, T, M, V⟩))) ∧ Below w.heap.size w w' := by
  obtain ⟨A, hA⟩ : ∃ A, Cv.ask s ⟨n, d, p, a, u, t, x, g⟩ = A := ⟨_, rfl⟩
  obtain ⟨b, hb⟩ : ∃ b, Cv.asks ⟨n, d, p, a, u, t, x, g⟩ = b := ⟨_, rfl⟩
  have hh : decide (Cv.Heard s ⟨n, d, p, a, u, t, x, g⟩ ⟨K, S, C, T, M, V⟩) = (b && (decide (V ≠ 0) && decide ((⟨K, S, C, T, M, 0⟩ : Nv) = A))) := by
    rw [← hA, ← hb]
    unfold Cv.Heard Cv.asks
    rw [Bool.eq_iff_iff]
    simp
    exact decide_eq_true_iff
  rw [hh]
  have HA := Lib.hid hA
  have HB := Lib.hid hb
  clear hA hb hh
  obtain ⟨K', S', C', T', M', V'⟩ := A
  rw [nv_beq]
  cases b
  · go_enter Tryz.func112, Tryz.ntmps112
    go_wp2_with (fail)
    refine (cyasks_any _ _ _ _ _ _ _ _ _ _).mono ?_
    rw [HA.out, HB.out]
    dsimp only [Nv.arr]
    rintro e w1 ⟨rfl, hb⟩
    obtain ⟨hw, z0, z1, e1⟩ := two_of hb
    rw [e1]
    have HW := Lib.hid hw
    clear e1 hb hw
    go_wp2
    go_ret
    exact ⟨rfl, (boxed_below (boxed_below HW.out (Nat.le_refl _)) (by omega)).alloc (by simp; omega) _⟩
  by_cases hV : V = 0
  · subst hV
    go_enter Tryz.func112, Tryz.ntmps112
    go_wp2_with (fail)
    refine (cyasks_any _ _ _ _ _ _ _ _ _ _).mono ?_
    rw [HA.out, HB.out]
    dsimp only [Nv.arr]
    rintro e w1 ⟨rfl, hb⟩
    obtain ⟨hw, z0, z1, e1⟩ := two_of hb
    rw [e1]
    have HW := Lib.hid hw
    clear e1 hb hw
    go_wp2
    go_ret
    exact ⟨by simp, (boxed_below (boxed_below HW.out (Nat.le_refl _)) (by omega)).alloc (by simp; omega) _⟩
  · have h1 : (V == 0) = false := by simpa using hV
    rw [show decide (V ≠ 0) = true by simpa using hV]
    clear hV
    go_enter Tryz.func112, Tryz.ntmps112
    go_wp2_with (fail)
    refine (cyasks_any _ _ _ _ _ _ _ _ _ _).mono ?_
    rw [HA.out, HB.out]
    dsimp only [Nv.arr]
    rintro e w1 ⟨rfl, hb⟩
    obtain ⟨hw, z0, z1, e1⟩ := two_of hb
    rw [e1]
    have HW := Lib.hid hw
    clear e1 hb hw
    go_wp2
    all_goals
      go_ret
      refine ⟨?_, (boxed_below (boxed_below HW.out (Nat.le_refl _)) (by omega)).alloc (by simp; omega) _⟩
      refine congrArg (fun q => Ending.returned (.bool q)) ?_
      first
        | (simp; done)
        | (simp; omega)
        | (simp; intros; omega)
theorem hear_yes {s : Int} {c : Cv} {m : Nv} {y : Int} {o : Bool} (h : c.Heard s m) : Cv.hear s c m y o = c.next m.v y o := if_pos h
theorem hear_no {s : Int} {c : Cv} {m : Nv} {y : Int} {o : Bool} (h : ¬c.Heard s m) : Cv.hear s c m y o = c := if_neg h
/-- Was it heard? The error's number. -/
def Cv.herr (s : Int) (c : Cv) (m : Nv) : Int := if c.Heard s m then 0 else 10
set_option maxHeartbeats 2000000 in
theorem cyhear_any (s : Int) (n d p a u t x : Int) (g : Bool) (K S C T M V : Int) (y : Int) (o : Bool) (w : World) (hy0 : -4611686018427387904 ≤ y) (hy1 : y ≤ 4611686018427387904) : Calls Tryz.prog 92 #[.int .i64 s, .agg #[.int .i64 n, .int .i64 d, .int .u8 p, .int .i64 a, .int .i64 u, .int .i64 t, .int .i64 x, .bool g], .agg #[.int .u8 K, .int .i64 S, .int .i64 C, .int .i64 T, .int .i64 M, .int .u8 V], .int .i64 y, .bool o] w fun e w' => e = .returned (.tuple #[(Cv.hear s ⟨n, d, p, a, u, t, x, g⟩ ⟨K, S, C, T, M, V⟩ y o).val, .int .i64 (Cv.herr s ⟨n, d, p, a, u, t, x, g⟩ ⟨K, S, C, T, M, V⟩)]) ∧ Below w.heap.size w w' := by
  by_cases h : Cv.Heard s ⟨n, d, p, a, u, t, x, g⟩ ⟨K, S, C, T, M, V⟩
  case neg =>
    rw [hear_no h, show Cv.herr s ⟨n, d, p, a, u, t, x, g⟩ ⟨K, S, C, T, M, V⟩ = 10 from if_neg h]
    have hh : decide (Cv.Heard s ⟨n, d, p, a, u, t, x, g⟩ ⟨K, S, C, T, M, V⟩) = false := decide_eq_false h
    have HH := Lib.hid hh
    clear h hh hy0 hy1
    go_enter Tryz.func92, Tryz.ntmps92
    go_wp2_with (fail)
    refine (answers_any _ _ _ _ _ _ _ _ _ _ _ _ _ _ _ _).mono ?_
    rw [HH.out]
    rintro e w1 ⟨rfl, hb⟩
    obtain ⟨hw, y0, y1, z0, e1⟩ := box3 hb
    rw [e1]
    have HW := Lib.hid hw
    clear e1 hb hw
    go_wp2
    refine bodyPost_ret (v := .tuple #[.agg #[.int .i64 n, .int .i64 d, .int .u8 p, .int .i64 a, .int .i64 u, .int .i64 t, .int .i64 x, .bool g], .int .i64 10]) ?_ rfl ⟨rfl, boxed_below (boxed_below (boxed_below HW.out (Nat.le_refl _)) (by omega)) (by omega)⟩
    simp [results, Tryz.results92, go_sem, z0]
  rw [hear_yes h, show Cv.herr s ⟨n, d, p, a, u, t, x, g⟩ ⟨K, S, C, T, M, V⟩ = 0 from if_pos h]
  dsimp only
  have hh : decide (Cv.Heard s ⟨n, d, p, a, u, t, x, g⟩ ⟨K, S, C, T, M, V⟩) = true := decide_eq_true h
  have HH := Lib.hid hh
  have H0 := Lib.hid hy0
  have H1 := Lib.hid hy1
  have hk := h.1
  dsimp only at hk
  clear hh h hy0 hy1
  refine kind_ways p ?_ ?_ ?_ ?_ ?_ (fun c1 c3 c4 c5 c6 => absurd (kind_none c1 c3 c4 c5 c6) hk)
  · rintro rfl
    obtain ⟨D, hD⟩ : ∃ D, (⟨n, d, 1, a, u, t, x, g⟩ : Cv).charged V y o = D := ⟨_, rfl⟩
    have HD := Lib.hid hD
    have hn : Cv.next ⟨n, d, 1, a, u, t, x, g⟩ V y o = D := hD
    have HN := Lib.hid hn
    clear hD hn
    obtain ⟨n', d', p', a', u', t', x', g'⟩ := D
    go_enter Tryz.func92, Tryz.ntmps92
    go_wp2_with (fail)
    refine (answers_any _ _ _ _ _ _ _ _ _ _ _ _ _ _ _ _).mono ?_
    rw [HH.out]
    rintro e w1 ⟨rfl, hb⟩
    obtain ⟨hw, y0, y1, z0, e1⟩ := box3 hb
    rw [e1]
    have HW := Lib.hid hw
    clear e1 hb hw
    go_wp2_with (fail)
    refine (charged_any _ _ _ _ _ _ _ _ _ _ _ _ H0.out H1.out).mono ?_
    rw [HD.out]
    dsimp only [Cv.val, Cv.arr]
    rintro e w2 ⟨rfl, hb⟩
    obtain ⟨hw, z1, e1⟩ := box3_again HW.out z0 hb
    have x1 : w.heap.size + 1 < w2.heap.size := by omega
    have x0 : w.heap.size < w2.heap.size := by omega
    rw [e1]
    have HW2 := Lib.hid hw
    clear e1 hb hw HW
    go_wp2
    refine bodyPost_ret (v := .tuple #[.agg #[.int .i64 n', .int .i64 d', .int .u8 p', .int .i64 a', .int .i64 u', .int .i64 t', .int .i64 x', .bool g'], .int .i64 0]) ?_ rfl ⟨by rw [HN.out]; rfl, boxed_below (boxed_below (boxed_below HW2.out (Nat.le_refl _)) (by omega)) (by omega)⟩
    simp [results, Tryz.results92, go_sem, z1]
  · rintro rfl
    obtain ⟨D, hD⟩ : ∃ D, (⟨n, d, 3, a, u, t, x, g⟩ : Cv).allocated V o = D := ⟨_, rfl⟩
    have HD := Lib.hid hD
    have hn : Cv.next ⟨n, d, 3, a, u, t, x, g⟩ V y o = D := hD
    have HN := Lib.hid hn
    clear hD hn
    obtain ⟨n', d', p', a', u', t', x', g'⟩ := D
    go_enter Tryz.func92, Tryz.ntmps92
    go_wp2_with (fail)
    refine (answers_any _ _ _ _ _ _ _ _ _ _ _ _ _ _ _ _).mono ?_
    rw [HH.out]
    rintro e w1 ⟨rfl, hb⟩
    obtain ⟨hw, y0, y1, z0, e1⟩ := box3 hb
    rw [e1]
    have HW := Lib.hid hw
    clear e1 hb hw
    go_wp2_with (fail)
    refine (allocated_any _ _ _ _ _ _ _ _ _ _ _).mono ?_
    rw [HD.out]
    dsimp only [Cv.val, Cv.arr]
    rintro e w2 ⟨rfl, hb⟩
    obtain ⟨hw, z1, e1⟩ := box3_again HW.out z0 hb
    have x1 : w.heap.size + 1 < w2.heap.size := by omega
    have x0 : w.heap.size < w2.heap.size := by omega
    rw [e1]
    have HW2 := Lib.hid hw
    clear e1 hb hw HW
    go_wp2
    refine bodyPost_ret (v := .tuple #[.agg #[.int .i64 n', .int .i64 d', .int .u8 p', .int .i64 a', .int .i64 u', .int .i64 t', .int .i64 x', .bool g'], .int .i64 0]) ?_ rfl ⟨by rw [HN.out]; rfl, boxed_below (boxed_below (boxed_below HW2.out (Nat.le_refl _)) (by omega)) (by omega)⟩
    simp [results, Tryz.results92, go_sem, z1]
  · rintro rfl
    obtain ⟨D, hD⟩ : ∃ D, (⟨n, d, 4, a, u, t, x, g⟩ : Cv).shipped V = D := ⟨_, rfl⟩
    have HD := Lib.hid hD
    have hn : Cv.next ⟨n, d, 4, a, u, t, x, g⟩ V y o = D := hD
    have HN := Lib.hid hn
    clear hD hn
    obtain ⟨n', d', p', a', u', t', x', g'⟩ := D
    go_enter Tryz.func92, Tryz.ntmps92
    go_wp2_with (fail)
    refine (answers_any _ _ _ _ _ _ _ _ _ _ _ _ _ _ _ _).mono ?_
    rw [HH.out]
    rintro e w1 ⟨rfl, hb⟩
    obtain ⟨hw, y0, y1, z0, e1⟩ := box3 hb
    rw [e1]
    have HW := Lib.hid hw
    clear e1 hb hw
    go_wp2_with (fail)
    refine (shipped_any _ _ _ _ _ _ _ _ _ _).mono ?_
    rw [HD.out]
    dsimp only [Cv.val, Cv.arr]
    rintro e w2 ⟨rfl, hb⟩
    obtain ⟨hw, z1, e1⟩ := box3_again HW.out z0 hb
    have x1 : w.heap.size + 1 < w2.heap.size := by omega
    have x0 : w.heap.size < w2.heap.size := by omega
    rw [e1]
    have HW2 := Lib.hid hw
    clear e1 hb hw HW
    go_wp2
    refine bodyPost_ret (v := .tuple #[.agg #[.int .i64 n', .int .i64 d', .int .u8 p', .int .i64 a', .int .i64 u', .int .i64 t', .int .i64 x', .bool g'], .int .i64 0]) ?_ rfl ⟨by rw [HN.out]; rfl, boxed_below (boxed_below (boxed_below HW2.out (Nat.le_refl _)) (by omega)) (by omega)⟩
    simp [results, Tryz.results92, go_sem, z1]
  · rintro rfl
    obtain ⟨D, hD⟩ : ∃ D, (⟨n, d, 5, a, u, t, x, g⟩ : Cv).back = D := ⟨_, rfl⟩
    have HD := Lib.hid hD
    have hn : Cv.next ⟨n, d, 5, a, u, t, x, g⟩ V y o = D := hD
    have HN := Lib.hid hn
    clear hD hn
    obtain ⟨n', d', p', a', u', t', x', g'⟩ := D
    go_enter Tryz.func92, Tryz.ntmps92
    go_wp2_with (fail)
    refine (answers_any _ _ _ _ _ _ _ _ _ _ _ _ _ _ _ _).mono ?_
    rw [HH.out]
    rintro e w1 ⟨rfl, hb⟩
    obtain ⟨hw, y0, y1, z0, e1⟩ := box3 hb
    rw [e1]
    have HW := Lib.hid hw
    clear e1 hb hw
    go_wp2_with (fail)
    refine (back_q _ _ _ _ _ _ _ _ _).mono ?_
    rw [HD.out]
    dsimp only [Cv.val, Cv.arr]
    rintro e w2 ⟨rfl, hb⟩
    obtain ⟨hw, z1, e1⟩ := box3_again HW.out z0 hb
    have x1 : w.heap.size + 1 < w2.heap.size := by omega
    have x0 : w.heap.size < w2.heap.size := by omega
    rw [e1]
    have HW2 := Lib.hid hw
    clear e1 hb hw HW
    go_wp2
    refine bodyPost_ret (v := .tuple #[.agg #[.int .i64 n', .int .i64 d', .int .u8 p', .int .i64 a', .int .i64 u', .int .i64 t', .int .i64 x', .bool g'], .int .i64 0]) ?_ rfl ⟨by rw [HN.out]; rfl, boxed_below (boxed_below (boxed_below HW2.out (Nat.le_refl _)) (by omega)) (by omega)⟩
    simp [results, Tryz.results92, go_sem, z1]
  · rintro rfl
    obtain ⟨D, hD⟩ : ∃ D, (⟨n, d, 6, a, u, t, x, g⟩ : Cv).to 9 = D := ⟨_, rfl⟩
    have HD := Lib.hid hD
    have hn : Cv.next ⟨n, d, 6, a, u, t, x, g⟩ V y o = D := hD
    have HN := Lib.hid hn
    clear hD hn
    obtain ⟨n', d', p', a', u', t', x', g'⟩ := D
    go_enter Tryz.func92, Tryz.ntmps92
    go_wp2_with (fail)
    refine (answers_any _ _ _ _ _ _ _ _ _ _ _ _ _ _ _ _).mono ?_
    rw [HH.out]
    rintro e w1 ⟨rfl, hb⟩
    obtain ⟨hw, y0, y1, z0, e1⟩ := box3 hb
    rw [e1]
    have HW := Lib.hid hw
    clear e1 hb hw
    go_wp2_with (fail)
    refine (cyto_any _ _ _ _ _ _ _ _ _ _).mono ?_
    rw [HD.out]
    dsimp only [Cv.val, Cv.arr]
    rintro e w2 ⟨rfl, hb⟩
    obtain ⟨hw, z1, e1⟩ := box3_again HW.out z0 hb
    have x1 : w.heap.size + 1 < w2.heap.size := by omega
    have x0 : w.heap.size < w2.heap.size := by omega
    rw [e1]
    have HW2 := Lib.hid hw
    clear e1 hb hw HW
    go_wp2
    refine bodyPost_ret (v := .tuple #[.agg #[.int .i64 n', .int .i64 d', .int .u8 p', .int .i64 a', .int .i64 u', .int .i64 t', .int .i64 x', .bool g'], .int .i64 0]) ?_ rfl ⟨by rw [HN.out]; rfl, boxed_below (boxed_below (boxed_below HW2.out (Nat.le_refl _)) (by omega)) (by omega)⟩
    simp [results, Tryz.results92, go_sem, z1]
end Go.Proofs.YtblikgbcakgdnaaGreat
