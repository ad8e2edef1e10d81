/-
  An order that answers what is asked. No conditions but the sizes.
-/
import Derived.Test.YtkdajjbhmmgbkaaGreatBk46
set_option linter.unusedSimpArgs false
set_option linter.unusedVariables false
namespace Go.Proofs.YtkdajjbhmmgbkaaGreat
set_option linter.unusedVariables false
set_option linter.unusedSimpArgs false
set_option maxRecDepth 100000
open Go.ChangeShapes Go.WideShapes Go.ChangeAt Go.RowKit

theorem built_hear (NK : Int) (j : Nat) (NC NT NM V : Int) : Tryz.prog.built 48 [(0, .int .u8 10), (5, .agg #[.int .u8 NK, .int .i64 (j : Int), .int .i64 NC, .int .i64 NT, .int .i64 NM, .int .u8 V])] = some (Ov.kb ⟨10, 0, 0, 0, Pv.zero, ⟨NK, j, NC, NT, NM, V⟩⟩) := by kernel_rfl
set_option maxHeartbeats 4000000 in
theorem order_ask (K A B C : Int) (hA : 0 ≤ A ∧ A < 256) (hB : 0 ≤ B ∧ B < 256) (hC : 0 ≤ C ∧ C < 256) (v : Value) (w : World) {r : Int} {l : List Nv} (hN : Nvs w 0 w.heap.size v l) (hne : 0 < l.length) (hle : l.length ≤ 100000000) (hs : ∀ m ∈ l, (∃ j : Nat, j < 32 ∧ m.s = (j : Int)) ∧ 0 ≤ m.t ∧ m.t ≤ 1000000) (hk : K.tmod 14 = r) (hr : 9 ≤ r) : Calls Tryz.prog 11 #[.agg #[.int .u8 K, .int .u8 A, .int .u8 B, .int .u8 C], v] w (OrdAns w) := by
  obtain ⟨i, hi⟩ : ∃ i : Nat, A % 3 = (i : Int) := ⟨(A % 3).toNat, by omega⟩
  obtain ⟨n, hn⟩ : ∃ n : Nat, B % 3 = (n : Int) := ⟨(B % 3).toNat, by omega⟩
  obtain ⟨b5, hb5⟩ : ∃ b5, B % 5 = b5 := ⟨_, rfl⟩
  obtain ⟨c4, hc4⟩ : ∃ c4, C % 40 = c4 := ⟨_, rfl⟩
  have eA : A.tmod 3 = (i : Int) := by rw [← hi]; exact Int.tmod_eq_emod_of_nonneg hA.1
  have eB3 : B.tmod 3 = (n : Int) := by rw [← hn]; exact Int.tmod_eq_emod_of_nonneg hB.1
  have eB5 : B.tmod 5 = b5 := by rw [← hb5]; exact Int.tmod_eq_emod_of_nonneg hB.1
  have eC : C.tmod 40 = c4 := by rw [← hc4]; exact Int.tmod_eq_emod_of_nonneg hC.1
  have hi3 : i < 3 := by omega
  have hn3 : n < 3 := by omega
  have hb : 0 ≤ b5 ∧ b5 < 5 := by omega
  have hc : 0 ≤ c4 ∧ c4 < 40 := by omega
  obtain ⟨c9, hc9⟩ : ∃ c9, C % 9 = c9 := ⟨_, rfl⟩
  clear hi hn hb5 hc4
  have e4 : IntKind.u8.wrap (4 + b5) = 4 + b5 := by rw [show IntKind.u8.wrap (4 + b5) = (4 + b5) % 256 from rfl]; omega
  have e41 : (4 + b5) % 256 = 4 + b5 := by omega
  have e1 : wrap64 (1 + c4) = 1 + c4 := by unfold wrap64; omega
  have eC9 : C.tmod 9 = c9 := by rw [← hc9]; exact Int.tmod_eq_emod_of_nonneg hC.1
  have hc9b : 0 ≤ c9 ∧ c9 < 9 := by omega
  clear hc9
  have e19 : wrap64 (1 + c9) = 1 + c9 := by unfold wrap64; omega
  have f0 : (r == 0) = false := by simp; omega
  have f1 : (r == 1) = false := by simp; omega
  have f2 : (r == 2) = false := by simp; omega
  have f3 : (r == 3) = false := by simp; omega
  have f4 : (r == 4) = false := by simp; omega
  have f5 : (r == 5) = false := by simp; omega
  have f6 : (r == 6) = false := by simp; omega
  have f7 : (r == 7) = false := by simp; omega
  have f8 : (r == 8) = false := by simp; omega
  obtain ⟨q, hq⟩ : ∃ q : Nat, B % (l.length : Int) = (q : Int) := ⟨(B % (l.length : Int)).toNat, by have := Int.emod_nonneg B (show (l.length : Int) ≠ 0 by omega); omega⟩
  have hql : q < l.length := by have := Int.emod_lt_of_pos B (show (0 : Int) < l.length by omega); omega
  obtain ⟨nv, hnv⟩ : ∃ nv, l[q]? = some nv := ⟨_, List.getElem?_eq_getElem hql⟩
  obtain ⟨⟨j, hj, hjs⟩, ht0, ht1⟩ := hs nv (List.mem_of_getElem? hnv)
  obtain ⟨G, oo, cap, hvv, _, hc1, hc2, _, hGB, hrg⟩ := hN.at_ hnv
  obtain ⟨NK, NS, NC, NT, NM, NV⟩ := nv
  dsimp only at hjs ht0 ht1
  subst hjs hvv
  have HR : Hid (w.rangeAt G (oo + q * 6) (#[.int .u8 NK, .int .i64 (j : Int), .int .i64 NC, .int .i64 NT, .int .i64 NM, .int .u8 NV]).toList) := hrg
  have eBL : B.tmod (l.length : Int) = (q : Int) := by rw [← hq]; exact Int.tmod_eq_emod_of_nonneg hB.1
  obtain ⟨ln, hln⟩ : ∃ ln, l.length = ln := ⟨_, rfl⟩
  rw [hln] at eBL hql hne hle hc1 ⊢
  have d0 : ((ln : Int) == 0) = false := by simp; omega
  obtain ⟨v0, hv0⟩ : ∃ v0 : Nat, C % 5 = (v0 : Int) := ⟨(C % 5).toNat, by omega⟩
  have hv5 : v0 < 5 := by omega
  have eC5 : C.tmod 5 = (v0 : Int) := by rw [← hv0]; exact Int.tmod_eq_emod_of_nonneg hC.1
  obtain ⟨V, hV⟩ : ∃ V : Int, V = if v0 < 3 then 1 else if v0 = 3 then 2 else 3 := ⟨_, rfl⟩
  have HVV := Lib.hid hV
  have hqI : (q : Int) < (ln : Int) := by omega
  have hqJ : (0 : Int) ≤ (q : Int) := by omega
  have hvI : (v0 : Int) < 5 := by omega
  have hvJ : (0 : Int) ≤ (v0 : Int) := by omega
  have et : wrap64 (NT + 1) = NT + 1 := by unfold wrap64; omega
  clear hrg hN hq hnv hs hln hv0 hV
  go_enter Tryz.func11, Tryz.ntmps11
  go_wp2_with (((with_reducible_and_instances (show wpList _ _ _ (Oper.mk _ (Op.load 46 _) _ _ _ _ :: _) _ _)); refine stop_here ?_))
  refine ⟨?_⟩
  try rw [Int.toNat_natCast]
  refine wpList_load_mid rfl _ _ rfl G (oo + q * 6) rfl (#[.int .u8 NK, .int .i64 (j : Int), .int .i64 NC, .int .i64 NT, .int .i64 NM, .int .u8 NV]).toList _ (fun i u hu => by
    have h9 := HR.out i u hu
    exact (World.cell?_of_block (a := ⟨G, oo + q * 6 + i, none⟩) (by rw [alloc_block_old (by simp; omega), alloc_block_old hGB])).trans h9) Tryz.underlying46 rfl info6nk ?_
  rw [Array.toArray_toList]
  go_wp2_with (((with_reducible_and_instances (show wpList _ _ _ (Oper.mk _ (Op.store 46 _ _) _ _ _ _ :: _) _ _)); refine stop_here ?_))
  refine ⟨?_⟩
  refine wl_store (g := w.heap.size + 1 + 1) info6nk rfl rfl rfl rfl (alloc_at (by simp)) rfl rfl (by simp [Value.oneCell']) ?_
  obtain ⟨W4, hW4⟩ : ∃ W4, boxed (((w.alloc (.cells #[.int .u8 K, .int .u8 A, .int .u8 B, .int .u8 C] 51)).alloc (.cells #[.int .u8 0, .int .i64 0, .int .i64 0, .int .i64 0, .int .i64 0, .int .u8 0, .int .i64 0, .int .i64 0, .bool false, .bool false, .int .u8 0, .int .i64 0, .int .i64 0, .int .i64 0, .int .i64 0, .int .u8 0] 48)).alloc (.cells #[.int .u8 0, .int .i64 0, .int .i64 0, .int .i64 0, .int .i64 0, .int .u8 0] 46)) (w.heap.size + 1 + 1) #[.int .u8 NK, .int .i64 (j : Int), .int .i64 NC, .int .i64 NT, .int .i64 NM, .int .u8 NV] 46 = W4 := ⟨_, rfl⟩
  have u0 : W4.heap[w.heap.size]? = some (.cells #[.int .u8 K, .int .u8 A, .int .u8 B, .int .u8 C] 51 (0, 0)) := by rw [← hW4]; exact boxed_old (by omega) (alloc_old (by simp; omega) (alloc_old (by simp) (alloc_at rfl)))
  have u1 : W4.heap[w.heap.size + 1]? = some (.cells #[.int .u8 0, .int .i64 0, .int .i64 0, .int .i64 0, .int .i64 0, .int .u8 0, .int .i64 0, .int .i64 0, .bool false, .bool false, .int .u8 0, .int .i64 0, .int .i64 0, .int .i64 0, .int .i64 0, .int .u8 0] 48 (0, 0)) := by rw [← hW4]; exact boxed_old (by omega) (alloc_old (by simp) (alloc_at (by simp)))
  have u2 : W4.heap[w.heap.size + 1 + 1]? = some (.cells #[.int .u8 NK, .int .i64 (j : Int), .int .i64 NC, .int .i64 NT, .int .i64 NM, .int .u8 NV] 46 (0, 0)) := by rw [← hW4]; exact boxed_at (by simp)
  have hV4 : Below w.heap.size w W4 := by rw [← hW4]; exact boxed_below ((((Below.refl _ w).alloc (Nat.le_refl _) _).alloc (by simp) _).alloc (by simp; omega) _) (by omega)
  rw [hW4]
  clear hW4 HR
  go_wp2_with (((with_reducible_and_instances (show wpList _ _ _ (Oper.mk _ (Op.fieldAddr 51 _ _) _ _ _ _ :: _) _ _)); refine stop_here ?_))
  refine ⟨?_⟩
  obtain ⟨W5, hW5⟩ : ∃ W5, W4.alloc (.cells #[.int .u8 1, .int .u8 1, .int .u8 1, .int .u8 2, .int .u8 3] 5) = W5 := ⟨_, rfl⟩
  have hz4 : w.heap.size + 1 + 1 < W4.heap.size := (Array.getElem?_eq_some_iff.1 u2).1
  have x0 : W5.heap[w.heap.size]? = some (.cells #[.int .u8 K, .int .u8 A, .int .u8 B, .int .u8 C] 51 (0, 0)) := by rw [← hW5]; exact alloc_old (by omega) u0
  have x1 : W5.heap[w.heap.size + 1]? = some (.cells #[.int .u8 0, .int .i64 0, .int .i64 0, .int .i64 0, .int .i64 0, .int .u8 0, .int .i64 0, .int .i64 0, .bool false, .bool false, .int .u8 0, .int .i64 0, .int .i64 0, .int .i64 0, .int .i64 0, .int .u8 0] 48 (0, 0)) := by rw [← hW5]; exact alloc_old (by omega) u1
  have x2 : W5.heap[w.heap.size + 1 + 1]? = some (.cells #[.int .u8 NK, .int .i64 (j : Int), .int .i64 NC, .int .i64 NT, .int .i64 NM, .int .u8 NV] 46 (0, 0)) := by rw [← hW5]; exact alloc_old (by omega) u2
  have x9 : W5.heap[W4.heap.size]? = some (.cells #[.int .u8 1, .int .u8 1, .int .u8 1, .int .u8 2, .int .u8 3] 5 (0, 0)) := by rw [← hW5]; exact alloc_at rfl
  have hV5 : Below w.heap.size w W5 := by rw [← hW5]; exact hV4.alloc (by omega) _
  rw [hW5]
  clear hW5
  obtain ⟨mb, hmb⟩ : ∃ mb, W4.heap.size = mb := ⟨_, rfl⟩
  rw [hmb] at x9 hz4
  rw [hmb]
  clear hmb hV4 u0 u1 u2 W4
  have hz5 : w.heap.size + 1 + 1 < W5.heap.size := (Array.getElem?_eq_some_iff.1 x2).1
  have y3 : ∀ cs, (boxed W5 (w.heap.size + 1 + 1) cs 46).cell? ⟨w.heap.size, 3, none⟩ = some (.int .u8 C) := fun cs => by rw [cell_of_row _ _ _ _ _ _ (boxed_old (by omega) x0)]; rfl
  have y1 : ∀ cs, (boxed W5 (w.heap.size + 1 + 1) cs 46).cell? ⟨w.heap.size, 1, none⟩ = some (.int .u8 A) := fun cs => by rw [cell_of_row _ _ _ _ _ _ (boxed_old (by omega) x0)]; rfl
  have y9 : ∀ cs, (boxed W5 (w.heap.size + 1 + 1) cs 46).cell? ⟨mb, v0, none⟩ = some (.int .u8 V) := fun cs => by
    rw [cell_of_row _ _ _ _ _ _ (boxed_old (by omega) x9), HVV.out]
    rcases (by omega : v0 = 0 ∨ v0 = 1 ∨ v0 = 2 ∨ v0 = 3 ∨ v0 = 4) with rfl | rfl | rfl | rfl | rfl <;> rfl
  have eb := boxed_self x2
  rw [eb]
  clear eb
  by_cases h255 : A = 255
  case pos =>
    have da : (A == 255) = true := by simpa using h255
    go_wp2_with (((with_reducible_and_instances (show wpList _ _ _ (Oper.mk _ (Op.load 46 _) _ _ _ _ :: _) _ _)); refine stop_here ?_))
    refine ⟨?_⟩
    refine wl_load (cs := #[.int .u8 NK, .int .i64 (j : Int), .int .i64 NC, .int .i64 (NT + 1), .int .i64 NM, .int .u8 V]) (fr := (0, 0)) (g := w.heap.size + 1 + 1) Tryz.underlying46 rfl info6nk rfl rfl rfl (boxed_at hz5) rfl ?_
    go_wp2_with (((with_reducible_and_instances (show wpList _ _ _ (Oper.mk _ (Op.build 48 _) _ _ _ _ :: _) _ _)); refine stop_here ?_))
    refine ⟨?_⟩
    refine wpList_buildTo rfl 48 _ rfl _ rfl _ (Eq.trans (congrArg (Program.built _ _) (by simp [Act.eval])) (built_hear NK j NC (NT + 1) NM V)) ?_
    go_wp2_with (((with_reducible_and_instances (show wpList _ _ _ (Oper.mk _ (Op.store 48 _ _) _ _ _ _ :: _) _ _)); refine stop_here ?_))
    refine ⟨?_⟩
    refine wl_store (cs' := (Ov.kb ⟨10, 0, 0, 0, Pv.zero, ⟨NK, j, NC, NT + 1, NM, V⟩⟩)) (g := w.heap.size + 1) info16k rfl rfl rfl rfl (boxed_old (by omega) x1) rfl rfl (by simp [Ov.kb, Value.oneCell']) ?_
    go_wp2_with fail
    refine bodyPost_ret (results_cell_row rfl _ _ (w.heap.size + 1) 48 _ (0, 0) _ rfl (boxed_at (by simp; omega)) Tryz.underlying48 rfl info16k) rfl ?_
    exact ⟨_, rfl, OForm.hear NK j NC (NT + 1) NM V hj, boxed_below (boxed_below hV5 (by omega)) (by omega)⟩
  case neg =>
    have da : (A == 255) = false := by simpa using h255
    go_wp2_with (((with_reducible_and_instances (show wpList _ _ _ (Oper.mk _ (Op.load 46 _) _ _ _ _ :: _) _ _)); refine stop_here ?_))
    refine ⟨?_⟩
    refine wl_load (cs := #[.int .u8 NK, .int .i64 (j : Int), .int .i64 NC, .int .i64 NT, .int .i64 NM, .int .u8 V]) (fr := (0, 0)) (g := w.heap.size + 1 + 1) Tryz.underlying46 rfl info6nk rfl rfl rfl (boxed_at hz5) rfl ?_
    go_wp2_with (((with_reducible_and_instances (show wpList _ _ _ (Oper.mk _ (Op.build 48 _) _ _ _ _ :: _) _ _)); refine stop_here ?_))
    refine ⟨?_⟩
    refine wpList_buildTo rfl 48 _ rfl _ rfl _ (Eq.trans (congrArg (Program.built _ _) (by simp [Act.eval])) (built_hear NK j NC NT NM V)) ?_
    go_wp2_with (((with_reducible_and_instances (show wpList _ _ _ (Oper.mk _ (Op.store 48 _ _) _ _ _ _ :: _) _ _)); refine stop_here ?_))
    refine ⟨?_⟩
    refine wl_store (cs' := (Ov.kb ⟨10, 0, 0, 0, Pv.zero, ⟨NK, j, NC, NT, NM, V⟩⟩)) (g := w.heap.size + 1) info16k rfl rfl rfl rfl (boxed_old (by omega) x1) rfl rfl (by simp [Ov.kb, Value.oneCell']) ?_
    go_wp2_with fail
    refine bodyPost_ret (results_cell_row rfl _ _ (w.heap.size + 1) 48 _ (0, 0) _ rfl (boxed_at (by simp; omega)) Tryz.underlying48 rfl info16k) rfl ?_
    exact ⟨_, rfl, OForm.hear NK j NC NT NM V hj, boxed_below (boxed_below hV5 (by omega)) (by omega)⟩
end Go.Proofs.YtkdajjbhmmgbkaaGreat
/-
  An order out of any act and what a book asks. No conditions but the sizes.
-/
namespace Go.Proofs.YtkdajjbhmmgbkaaGreat
set_option linter.unusedVariables false
set_option linter.unusedSimpArgs false
set_option maxRecDepth 100000
open Go.ChangeShapes Go.WideShapes Go.ChangeAt Go.RowKit

theorem asksK_mem {a : Nat → Av} {m : Nv} : ∀ n, m ∈ asksK a n → ∃ k, k < n ∧ m ∈ asksOf (k : Int) (a k).l
  | 0, h => by cases h
  | n + 1, h => by
    rcases List.mem_append.1 h with g | g
    · obtain ⟨k, h1, h2⟩ := asksK_mem n g
      exact ⟨k, by omega, h2⟩
    · exact ⟨n, by omega, g⟩
theorem PBok.asked {M L td : Int} {a : Nat → Av} {ps : List Pv} (h : PBok M L td a ps) (hM : M ≤ 100000000000) : ∀ m ∈ asksK a 32, (∃ j : Nat, j < 32 ∧ m.s = (j : Int)) ∧ 0 ≤ m.t ∧ m.t ≤ 1000000 := fun m hm => by
  obtain ⟨k, hk, hm2⟩ := asksK_mem 32 hm
  obtain ⟨c, hc, hka, rfl⟩ := asksOf_mem hm2
  have hk0 : Cy.kind c.p ≠ 0 := by unfold Cv.asks at hka; simpa using hka
  rcases h.sub k hk with g | ⟨s, kp, P, _, _, hs, g⟩
  · rw [g] at hc; cases hc
  · rw [g] at hc
    have := (hs.ok.us hM c (opn_mem hc).1).2
    unfold Cv.ask
    rw [if_neg hk0]
    refine ⟨⟨k, hk, rfl⟩, ?_⟩
    dsimp only
    split <;> omega
theorem order_any (K A B C : Int) (hK : 0 ≤ K) (hA : 0 ≤ A ∧ A < 256) (hB : 0 ≤ B ∧ B < 256) (hC : 0 ≤ C ∧ C < 256) {v : Value} {w : World} {l : List Nv} (hN : Nvs w 0 w.heap.size v l) (hle : l.length ≤ 100000000) (hs : ∀ m ∈ l, (∃ j : Nat, j < 32 ∧ m.s = (j : Int)) ∧ 0 ≤ m.t ∧ m.t ≤ 1000000) : Calls Tryz.prog 11 #[.agg #[.int .u8 K, .int .u8 A, .int .u8 B, .int .u8 C], v] w (OrdAns w) := by
  have hm := Int.tmod_eq_emod_of_nonneg (b := 14) hK
  have h0 : 0 ≤ K.tmod 14 := by omega
  by_cases c0 : K.tmod 14 = 0
  · exact order_0 K A B C hA hB hC v w c0
  by_cases c1 : K.tmod 14 = 1
  · exact order_1 K A B C hA hB hC v w c1
  by_cases c2 : K.tmod 14 = 2
  · exact order_2 K A B C hA hB hC v w c2
  by_cases c3 : K.tmod 14 = 3
  · exact order_3 K A B C hA hB hC v w c3
  by_cases c4 : K.tmod 14 = 4
  · exact order_4 K A B C hA hB hC v w c4
  by_cases c5 : K.tmod 14 = 5
  · exact order_5 K A B C hA hB hC v w c5
  by_cases c6 : K.tmod 14 = 6
  · exact order_6 K A B C hA hB hC v w c6
  by_cases c7 : K.tmod 14 = 7
  · exact order_7 K A B C hA hB hC v w c7
  by_cases c8 : K.tmod 14 = 8
  · exact order_8 K A B C hA hB hC v w c8
  have h9 : 9 ≤ K.tmod 14 := by omega
  by_cases hl : l.length = 0
  · obtain ⟨A1, cap, rfl, _⟩ := hN
    rw [hl]
    exact order_none K A B C hA hB hC w rfl h9
  · exact order_ask K A B C hA hB hC v w hN (by omega) hle hs rfl h9
end Go.Proofs.YtkdajjbhmmgbkaaGreat
