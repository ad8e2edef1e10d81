/-
  An order that answers what is asked. No conditions but the sizes.
-/
import Derived.Deep.Slices
import Derived.Deep.MidRow
import Derived.Lib.SmallJoins
import Derived.Test.YtblikgbcakgdnaaGreatBr03
import Derived.Test.YtblikgbcakgdnaaGreatBr04
import Derived.Test.YtblikgbcakgdnaaGreatBr17
import Derived.Test.YtblikgbcakgdnaaGreatBr34
import Derived.Test.YtblikgbcakgdnaaGreatBr42
set_option linter.unusedSimpArgs false
set_option linter.unusedVariables false
namespace Go.Proofs.YtblikgbcakgdnaaGreat
set_option linter.unusedVariables false
set_option linter.unusedSimpArgs false
set_option maxRecDepth 100000
open Go.ChangeShapes Go.WideShapes Go.ChangeAt Go.RowKit

theorem built_hear (NK : Int) (j : Nat) (NC NT NM V : Int) : Tryz.prog.built 48 [(0, .int .u8 10), (5, .agg #[.int .u8 NK, .int .i64 (j : Int), .int .i64 NC, .int .i64 NT, .int .i64 NM, .int .u8 V])] = some (Ov.kb ⟨10, 0, 0, 0, Pv.zero, ⟨NK, j, NC, NT, NM, V⟩⟩) := by kernel_rfl
set_option maxHeartbeats 4000000 in
theorem order_ask (K A B C : Int) (hA : 0 ≤ A ∧ A < 256) (hB : 0 ≤ B ∧ B < 256) (hC : 0 ≤ C ∧ C < 256) (v : Value) (w : World) {r : Int} {l : List Nv} (hN : Nvs w 0 w.heap.size v l) (hne : 0 < l.length) (hle : l.length ≤ 100000000) (hs : ∀ m ∈ l, (∃ j : Nat, j < 32 ∧ m.s = (j : Int)) ∧ 0 ≤ m.t ∧ m.t ≤ 1000000) (hk : K.tmod 14 = r) (hr : 9 ≤ r) : Calls Tryz.prog 11 #[.agg #[.int .u8 K, .int .u8 A, .int .u8 B, .int .u8 C], v] w (OrdAns w) := by
  obtain ⟨i, hi⟩ : ∃ i : Nat, A % 3 = (i : Int) := ⟨(A % 3).toNat, by omega⟩
  obtain ⟨n, hn⟩ : ∃ n : Nat, B % 3 = (n : Int) := ⟨(B % 3).toNat, by omega⟩
  obtain ⟨b5, hb5⟩ : ∃ b5, B % 5 = b5 := ⟨_, rfl⟩
  obtain ⟨c4, hc4⟩ : ∃ c4, C % 40 = c4 := ⟨_, rfl⟩
  have eA : A.tmod 3 = (i : Int) := by rw [← hi]; exact Int.tmod_eq_emod_of_nonneg hA.1
  have eB3 : B.tmod 3 = (n : Int) := by rw [← hn]; exact Int.tmod_eq_emod_of_nonneg hB.1
  have eB5 : B.tmod 5 = b5 := by rw [← hb5]; exact Int.tmod_eq_emod_of_nonneg hB.1
  have eC : C.tmod 40 = c4 := by rw [← hc4]; exact Int.tmod_eq_emod_of_nonneg hC.1
  have hi3 : i < 3 := by omega
  have hn3 : n < 3 := by omega
  have hb : 0 ≤ b5 ∧ b5 < 5 := by omega
  have hc : 0 ≤ c4 ∧ c4 < 40 := by omega
  obtain ⟨c9, hc9⟩ : ∃ c9, C % 9 = c9 := ⟨_, rfl⟩
  clear hi hn hb5 hc4
  have e4 : IntKind.u8.wrap (4 + b5) = 4 + b5 := by rw [show IntKind.u8.wrap (4 + b5) = (4 + b5) % 256 from rfl]; omega
  have e41 : (4 + b5) % 256 = 4 + b5 := by omega
  have e1 : wrap64 (1 + c4) = 1 + c4 := by unfold wrap64; omega
  have eC9 : C.tmod 9 = c9 := by rw [← hc9]; exact Int.tmod_eq_emod_of_nonneg hC.1
  have hc9b : 0 ≤ c9 ∧ c9 < 9 := by omega
  clear hc9
  have e19 : wrap64 (1 + c9) = 1 + c9 := by unfold wrap64; omega
  have f0 : (r == 0) = false := by simp; omega
  have f1 : (r == 1) = false := by simp; omega
  have f2 : (r == 2) = false := by simp; omega
  have f3 : (r == 3) = false := by simp; omega
  have f4 : (r == 4) = false := by simp; omega
  have f5 : (r == 5) = false := by simp; omega
  have f6 : (r == 6) = false := by simp; omega
  have f7 : (r == 7) = false := by simp; omega
  have f8 : (r == 8) = false := by simp; omega
  obtain ⟨q, hq⟩ : ∃ q : Nat, B % (l.length : Int) = (q : Int) := ⟨(B % (l.length : Int)).toNat, by have := Int.emod_nonneg B (show (l.length : Int) ≠ 0 by omega); omega⟩
  have hql : q < l.length := by have := Int.emod_lt_of_pos B (show (0 : Int) < l.length by omega); omega
  obtain ⟨nv, hnv⟩ : ∃ nv, l[q]? = some nv := ⟨_, List.getElem?_eq_getElem hql⟩
  obtain ⟨⟨j, hj, hjs⟩, ht0, ht1⟩ := hs nv (List.mem_of_getElem? hnv)
  obtain ⟨G, oo, cap, hvv, _, hc1, hc2, _, hGB, hrg⟩ := hN.at_ hnv
  obtain ⟨NK, NS, NC, NT, NM, NV⟩ := nv
  dsimp only at hjs ht0 ht1
  subst hjs hvv
  have HR : Hid (w.rangeAt G (oo + q * 6) (#[.int .u8 NK, .int .i64 (j : Int), .int .i64 NC, .int .i64 NT, .int .i64 NM, .int .u8 NV]).toList) := hrg
  have eBL : B.tmod (l.length : Int) = (q : Int) := by rw [← hq]; exact Int.tmod_eq_emod_of_nonneg hB.1
  obtain ⟨ln, hln⟩ : ∃ ln, l.length = ln := ⟨_, rfl⟩
  rw [hln] at eBL hql hne hle hc1 ⊢
  have d0 : ((ln : Int) == 0) = false := by simp; omega
  obtain ⟨v0, hv0⟩ : ∃ v0 : Nat, C % 5 = (v0 : Int) := ⟨(C % 5).toNat, by omega⟩
  have hv5 : v0 < 5 := by omega
  have eC5 : C.tmod 5 = (v0 : Int) := by rw [← hv0]; exact Int.tmod_eq_emod_of_nonneg hC.1
  obtain ⟨V, hV⟩ : ∃ V : Int, V = if v0 < 3 then 1 else if v0 = 3 then 2 else 3 := ⟨_, rfl⟩
  have HVV := Lib.hid hV
  have hqI : (q : Int) < (ln : Int) := by omega
  have hqJ : (0 : Int) ≤ (q : Int) := by omega
  have hvI : (v0 : Int) < 5 := by omega
  have hvJ : (0 : Int) ≤ (v0 : Int) := by omega
  have et : wrap64 (NT + 1) = NT + 1 := by unfold wrap64; omega
  clear hrg hN hq hnv hs hln hv0 hV
  go_enter Tryz.func11, Tryz.ntmps11
  go_wp2_with (((with_reducible_and_instances (show wpList _ _ _ (Oper.mk _ (Op.load 46 _) _ _ _ _ :: _) _ _)); refine stop_here ?_))
  refine ⟨?_⟩
  try rw [Int.toNat_natCast]
  refine wpList_load_mid rfl _ _ rfl G (oo + q * 6) rfl (#[.int .u8 NK, .int .i64 (j : Int), .int .i64 NC, .int .i64 NT, .int .i64 NM, .int .u8 NV]).toList _ (fun i u hu => by
    have h9 := HR.out i u hu
    exact (World.cell?_of_block (a := ⟨G, oo + q * 6 + i, none⟩) (by rw [alloc_block_old (by simp; omega), alloc_block_old hGB])).trans h9) Tryz.underlying46 rfl info6nk ?_
  rw [Array.toArray_toList]
  go_wp2_with (((with_reducible_and_instances (show wpList _ _ _ (Oper.mk _ (Op.store 46 _ _) _ _ _ _ :: _) _ _)); refine stop_here ?_))
  refine ⟨?_⟩
  refine wl_store (g := w.heap.size + 1 + 1) info6nk rfl rfl rfl rfl (alloc_at (by simp)) rfl rfl (by simp [Value.oneCell']) ?_
  obtain ⟨W4, hW4⟩ : ∃ W4, boxed (((w.alloc (.cells #[.int .u8 K, .int .u8 A, .int .u8 B, .int .u8 C] 51)).alloc (.cells #[.int .u8 0, .int .i64 0, .int .i64 0, .int .i64 0, .int .i64 0, .int .u8 0, .int .i64 0, .int .i64 0, .bool false, .bool false, .int .u8 0, .int .i64 0, .int .i64 0, .int .i64 0, .int .i64 0, .int .u8 0] 48)).alloc (.cells #[.int .u8 0, .int .i64 0, .int .i64 0, .int .i64 0, .int .i64 0, .int .u8 0] 46)) (w.heap.size + 1 + 1) #[.int .u8 NK, .int .i64 (j : Int), .int .i64 NC, .int .i64 NT, .int .i64 NM, .int .u8 NV] 46 = W4 := ⟨_, rfl⟩
  have u0 : W4.heap[w.heap.size]? = some (.cells #[.int .u8 K, .int .u8 A, .int .u8 B, .int .u8 C] 51 (0, 0)) := by rw [← hW4]; exact boxed_old (by omega) (alloc_old (by simp; omega) (alloc_old (by simp) (alloc_at rfl)))
  have u1 : W4.heap[w.heap.size + 1]? = some (.cells #[.int .u8 0, .int .i64 0, .int .i64 0, .int .i64 0, .int .i64 0, .int .u8 0, .int .i64 0, .int .i64 0, .bool false, .bool false, .int .u8 0, .int .i64 0, .int .i64 0, .int .i64 0, .int .i64 0, .int .u8 0] 48 (0, 0)) := by rw [← hW4]; exact boxed_old (by omega) (alloc_old (by simp) (alloc_at (by simp)))
  have u2 : W4.heap[w.heap.size + 1 + 1]? = some (.cells #[.int .u8 NK, .int .i64 (j : Int), .int .i64 NC, .int .i64 NT, .int .i64 NM, .int .u8 NV] 46 (0, 0)) := by rw [← hW4]; exact boxed_at (by simp)
  have hV4 : Below w.heap.size w W4 := by rw [← hW4]; exact boxed_below ((((Below.refl _ w).alloc (Nat.le_refl _) _).alloc (by simp) _).alloc (by simp; omega) _) (by omega)
  rw [hW4]
  clear hW4 HR
  go_wp2_with (((with_reducible_and_instances (show wpList _ _ _ (Oper.mk _ (Op.fieldAddr 51 _ _) _ _ _ _ :: _) _ _)); refine stop_here ?_))
  refine ⟨?_⟩
  obtain ⟨W5, hW5⟩ : ∃ W5, W4.alloc (.cells #[.int .u8 1, .int .u8 1, .int .u8 1, .int .u8 2, .int .u8 3] 5) = W5 := ⟨_, rfl⟩
  have hz4 : w.heap.size + 1 + 1 < W4.heap.size := (Array.getElem?_eq_some_iff.1 u2).1
  have x0 : W5.heap[w.heap.size]? = some (.cells #[.int .u8 K, .int .u8 A, .int .u8 B, .int .u8 C] 51 (0, 0)) := by rw [← hW5]; exact alloc_old (by omega) u0
  have x1 : W5.heap[w.heap.size + 1]? = some (.cells #[.int .u8 0, .int .i64 0, .int .i64 0, .int .i64 0, .int .i64 0, .int .u8 0, .int .i64 0, .int .i64 0, .bool false, .bool false, .int .u8 0, .int .i64 0, .int .i64 0, .int .i64 0, .int .i64 0, .int .u8 0] 48 (0, 0)) := by rw [← hW5]; exact alloc_old (by omega) u1
  have x2 : W5.heap[w.heap.size + 1 + 1]? = some (.cells #[.int .u8 NK, .int .i64 (j : Int), .int .i64 NC, .int .i64 NT, .int .i64 NM, .int .u8 NV] 46 (0, 0)) := by rw [← hW5]; exact alloc_old (by omega) u2
  have x9 : W5.heap[W4.heap.size]? = some (.cells #[.int .u8 1, .int .u8 1, .int .u8 1, .int .u8 2, .int .u8 3] 5 (0, 0)) := by rw [← hW5]; exact alloc_at rfl
  have hV5 : Below w.heap.size w W5 := by rw [← hW5]; exact hV4.alloc (by omega) _
  rw [hW5]
  clear hW5
  obtain ⟨mb, hmb⟩ : ∃ mb, W4.heap.size = mb := ⟨_, rfl⟩
  rw [hmb] at x9 hz4
  rw [hmb]
  clear hmb hV4 u0 u1 u2 W4
  have hz5 : w.heap.size + 1 + 1 < W5.heap.size := (Array.getElem?_eq_some_iff.1 x2).1
  have y3 : ∀ cs, (boxed W5 (w.heap.size + 1 + 1) cs 46).cell? ⟨w.heap.size, 3, none⟩ = some (.int .u8 C) := fun cs => by rw [cell_of_row _ _ _ _ _ _ (boxed_old (by omega) x0)]; rfl
  have y1 : ∀ cs, (boxed W5 (w.heap.size + 1 + 1) cs 46).cell? ⟨w.heap.size, 1, none⟩ = some (.int .u8 A) := fun cs => by rw [cell_of_row _ _ _ _ _ _ (boxed_old (by omega) x0)]; rfl
  have y9 : ∀ cs, (boxed W5 (w.heap.size + 1 + 1) cs 46).cell? ⟨mb, v0, none⟩ = some (.int .u8 V) := fun cs => by
    rw [cell_of_row _ _ _ _ _ _ (boxed_old (by omega) x9), HVV.out]
    rcases (by omega : v0 = 0 ∨ v0 = 1 ∨ v0 = 2 ∨ v0 = 3 ∨ v0 = 4) with rfl | rfl | rfl | rfl | rfl <;> rfl
  have eb := boxed_self x2
  rw [eb]
  clear eb
  by_cases h255 : A = 255
  case pos =>
    have da : (A == 255) = true := by simpa using h255
    go_wp2_with (((with_reducible_and_instances (show wpList _ _ _ (Oper.mk _ (Op.load 46 _) _ _ _ _ :: _) _ _)); refine stop_here ?_))
    refine ⟨?_⟩
    refine wl_load (cs := #[.int .u8 NK, .int .i64 (j : Int), .int .i64 NC, .int .i64 (NT + 1), .int .i64 NM, .int .u8 V]) (fr := (0, 0)) (g := w.heap.size + 1 + 1) Tryz.underlying46 rfl info6nk rfl rfl rfl (boxed_at hz5) rfl ?_
    go_wp2_with (((with_reducible_and_instances (show wpList _ _ _ (Oper.mk _ (Op.build 48 _) _ _ _ _ :: _) _ _)); refine stop_here ?_))
    refine ⟨?_⟩
    refine wpList_buildTo rfl 48 _ rfl _ rfl _ (Eq.trans (congrArg (Program.built _ _) (by simp [Act.eval])) (built_hear NK j NC (NT + 1) NM V)) ?_
    go_wp2_with (((with_reducible_and_instances (show wpList _ _ _ (Oper.mk _ (Op.store 48 _ _) _ _ _ _ :: _) _ _)); refine stop_here ?_))
    refine ⟨?_⟩
    refine wl_store (cs' := (Ov.kb ⟨10, 0, 0, 0, Pv.zero, ⟨NK, j, NC, NT + 1, NM, V⟩⟩)) (g := w.heap.size + 1) info16k rfl rfl rfl rfl (boxed_old (by omega) x1) rfl rfl (by simp [Ov.kb, Value.oneCell']) ?_
    go_wp2_with fail
    refine bodyPost_ret (results_cell_row rfl _ _ (w.heap.size + 1) 48 _ (0, 0) _ rfl (boxed_at (by simp; omega)) Tryz.underlying48 rfl info16k) rfl ?_
    exact ⟨_, rfl, OForm.hear NK j NC (NT + 1) NM V hj, boxed_below (boxed_below hV5 (by omega)) (by omega)⟩
  case neg =>
    have da : (A == 255) = false := by simpa using h255
    go_wp2_with (((with_reducible_and_instances (show wpList _ _ _ (Oper.mk _ (Op.load 46 _) _ _ _ _ :: _) _ _)); refine stop_here ?_))
    refine ⟨?_⟩
    refine wl_load (cs := #[.int .u8 NK, .int .i64 (j : Int), .int .i64 NC, .int .i64 NT, .int .i64 NM, .int .u8 V]) (fr := (0, 0)) (g := w.heap.size + 1 + 1) Tryz.underlying46 rfl info6nk rfl rfl rfl (boxed_at hz5) rfl ?_
    go_wp2_with (((with_reducible_and_instances (show wpList _ _ _ (Oper.mk _ (Op.build 48 _) _ _ _ _ :: _) _ _)); refine stop_here ?_))
    refine ⟨?_⟩
    refine wpList_buildTo rfl 48 _ rfl _ rfl _ (Eq.trans (congrArg (Program.built _ _) (by simp [Act.eval])) (built_hear NK j NC NT NM V)) ?_
    go_wp2_with (((with_reducible_and_instances (show wpList _ _ _ (Oper.mk _ (Op.store 48 _ _) _ _ _ _ :: _) _ _)); refine stop_here ?_))
    refine ⟨?_⟩
    refine wl_store (cs' := (Ov.kb ⟨10, 0, 0, 0, Pv.zero, ⟨NK, j, NC, NT, NM, V⟩⟩)) (g := w.heap.size + 1) info16k rfl rfl rfl rfl (boxed_old (by omega) x1) rfl rfl (by simp [Ov.kb, Value.oneCell']) ?_
    go_wp2_with fail
    refine bodyPost_ret (results_cell_row rfl _ _ (w.heap.size + 1) 48 _ (0, 0) _ rfl (boxed_at (by simp; omega)) Tryz.underlying48 rfl info16k) rfl ?_
    exact ⟨_, rfl, OForm.hear NK j NC NT NM V hj, boxed_below (boxed_below hV5 (by omega)) (by omega)⟩
end Go.Proofs.YtblikgbcakgdnaaGreat
/-
  An order out of any act and what a book asks. No conditions but the sizes.
-/
namespace Go.Proofs.YtblikgbcakgdnaaGreat
set_option linter.unusedVariables false
set_option linter.unusedSimpArgs false
set_option maxRecDepth 100000
open Go.ChangeShapes Go.WideShapes Go.ChangeAt Go.RowKit

theorem asksK_mem {a : Nat → Av} {m : Nv} : ∀ n, m ∈ asksK a n → ∃ k, k < n ∧ m ∈ asksOf (k : Int) (a k).l
  | 0, h => by cases h
  | n + 1, h => by
    rcases List.mem_append.1 h with g | g
    · obtain ⟨k, h1, h2⟩ := asksK_mem n g
      exact ⟨k, by omega, h2⟩
    · exact ⟨n, by omega, g⟩
theorem PBok.asked {M L td : Int} {a : Nat → Av} {ps : List Pv} (h : PBok M L td a ps) (hM : M ≤ 100000000000) : ∀ m ∈ asksK a 32, (∃ j : Nat, j < 32 ∧ m.s = (j : Int)) ∧ 0 ≤ m.t ∧ m.t ≤ 1000000 := fun m hm => by
  obtain ⟨k, hk, hm2⟩ := asksK_mem 32 hm
  obtain ⟨c, hc, hka, rfl⟩ := asksOf_mem hm2
  have hk0 : Cy.kind c.p ≠ 0 := by unfold Cv.asks at hka; simpa using hka
  rcases h.sub k hk with g | ⟨s, kp, P, _, _, hs, g⟩
  · rw [g] at hc; cases hc
  · rw [g] at hc
    have := (hs.ok.us hM c (opn_mem hc).1).2
    unfold Cv.ask
    rw [if_neg hk0]
    refine ⟨⟨k, hk, rfl⟩, ?_⟩
    dsimp only
    split <;> omega
theorem order_any (K A B C : Int) (hK : 0 ≤ K) (hA : 0 ≤ A ∧ A < 256) (hB : 0 ≤ B ∧ B < 256) (hC : 0 ≤ C ∧ C < 256) {v : Value} {w : World} {l : List Nv} (hN : Nvs w 0 w.heap.size v l) (hle : l.length ≤ 100000000) (hs : ∀ m ∈ l, (∃ j : Nat, j < 32 ∧ m.s = (j : Int)) ∧ 0 ≤ m.t ∧ m.t ≤ 1000000) : Calls Tryz.prog 11 #[.agg #[.int .u8 K, .int .u8 A, .int .u8 B, .int .u8 C], v] w (OrdAns w) := by
  have hm := Int.tmod_eq_emod_of_nonneg (b := 14) hK
  have h0 : 0 ≤ K.tmod 14 := by omega
  by_cases c0 : K.tmod 14 = 0
  · exact order_0 K A B C hA hB hC v w c0
  by_cases c1 : K.tmod 14 = 1
  · exact order_1 K A B C hA hB hC v w c1
  by_cases c2 : K.tmod 14 = 2
  · exact order_2 K A B C hA hB hC v w c2
  by_cases c3 : K.tmod 14 = 3
  · exact order_3 K A B C hA hB hC v w c3
  by_cases c4 : K.tmod 14 = 4
  · exact order_4 K A B C hA hB hC v w c4
  by_cases c5 : K.tmod 14 = 5
  · exact order_5 K A B C hA hB hC v w c5
  by_cases c6 : K.tmod 14 = 6
  · exact order_6 K A B C hA hB hC v w c6
  by_cases c7 : K.tmod 14 = 7
  · exact order_7 K A B C hA hB hC v w c7
  by_cases c8 : K.tmod 14 = 8
  · exact order_8 K A B C hA hB hC v w c8
  have h9 : 9 ≤ K.tmod 14 := by omega
  by_cases hl : l.length = 0
  · obtain ⟨A1, cap, rfl, _⟩ := hN
    rw [hl]
    exact order_none K A B C hA hB hC w rfl h9
  · exact order_ask K A B C hA hB hC v w hN (by omega) hle hs rfl h9
end Go.Proofs.YtblikgbcakgdnaaGreat
/-
  Book's example, and any order of the laws': what a step makes of it. No conditions but the sizes.
-/
namespace Go.Proofs.YtblikgbcakgdnaaGreat
set_option linter.unusedVariables false
set_option linter.unusedSimpArgs false
set_option maxRecDepth 100000
open Go.ChangeShapes Go.WideShapes Go.ChangeAt Go.RowKit

/-- What a step answers: an error, or a book in new blocks. -/
def Stepd (M L : Int) (W : World) (b : Kb) (o : Ov) (e : Ending) (w' : World) : Prop := ∃ (c : Kb) (x : Int), e = .returned (.tuple #[.agg c.arr, .int .i64 x]) ∧ c.One ∧ (x = 0 → ∃ ps', KbM w' W.heap.size w'.heap.size c ps' ∧ PBok (M + 1100000000) (L + 40) c.td c.a ps' ∧ Apart o b.td b.a c.td c.a) ∧ Below W.heap.size W w'
section
variable {M L : Int} {w : World} {b : Kb} {ps : List Pv} {o : Ov}
theorem PBok.congr {M L td : Int} {a a' : Nat → Av} {ps : List Pv} (h : PBok M L td a ps) (he : ∀ k, k < 32 → a' k = a k) : PBok M L td a' ps := ⟨h.day, h.len, h.pok, fun k hk => by rw [he k hk]; exact h.sub k hk, fun k h3 hk => by rw [he k hk]; exact h.low k h3 hk⟩
theorem new_km (td : Int) (w : World) (b0 c0 : Nat) : KbM w b0 c0 (Kb.new td) [] := ⟨Kb.new_one td, Pys.nil, fun _ _ => Cys.nil⟩
theorem new_ok {td : Int} (h : 0 ≤ td ∧ td ≤ 2000000) : PBok 0 1 (Kb.new td).td (Kb.new td).a [] := ⟨h, by simp, fun P hP => (nomatch hP), fun _ _ => .inl rfl, fun _ _ _ => rfl⟩
theorem asksK_first {a : Nat → Av} : ∀ n, (∀ k, 0 < k → k < n + 1 → (a k).l = []) → asksK a (n + 1) = asksOf 0 (a 0).l
  | 0, _ => by show [] ++ _ = _; rfl
  | n + 1, h => by
    show asksK a (n + 1) ++ asksOf _ (a (n + 1)).l = _
    rw [asksK_first n (fun k h0 hk => h k h0 (by omega)), h (n + 1) (by omega) (by omega)]
    exact List.append_nil _
end
/-- The example's plan, and its subscription. -/
def Pex : Pv := ⟨100, 0, 30, 0, false, false⟩
def Aex : Av := ⟨1, 0, 0, 1, 1, 0, false, [⟨0, 0, 1, 100, 0, 1, 0, false⟩], 0, 0, 0, 0, 0⟩
set_option maxHeartbeats 4000000 in
theorem dayex_any (W : World) : Calls Tryz.prog 58 #[.agg ((Av.opened 0 0).arr (.slice none 0 0)), .agg Pex.arr, .int .i64 0] W (News W Aex) := by
  obtain ⟨k, d, hAt⟩ := Cal.at_of 0 (by omega) (by omega)
  have hN : Cal.vN 0 0 k d 30 0 = 0 := Cal.vN_zero hAt
  have hC : Cal.Cnt 0 0 k d 30 0 1 := Cal.Cnt.days (u := 0) (by omega) (by omega) (by omega) (by omega)
  have hx : Av.runs (Cal.vN 0 0 k d 30) Pex 1 1 (Av.opened 0 0) = Aex := by
    rw [Av.runs_next]
    show Av.runs _ _ _ 0 (Av.born _ _ _ false) = _
    rw [Av.born_pay (by decide) rfl (by decide)]
    show Av.with_ _ (Cy.begin_ 0 (Cal.vN 0 0 k d 30 0) 100 0 false) = _
    rw [hN]; rfl
  have h := daycalm_any (w := W) (a := Av.opened 0 0) (p := Pex) (m := 0) (y := 0) (c := 1) (k := k) (d := d) Cys.nil (Av.opened_fine _ _) (by omega) (by decide) hAt ⟨by decide, by decide⟩ ⟨by decide, by decide⟩ ⟨by decide, by decide⟩ (by decide) hC ⟨by decide, by decide⟩
  rw [show Av.runs (Cal.vN Pex.u (Av.opened 0 0).an k d Pex.e) Pex 1 (1 - (Av.opened 0 0).ix).toNat (Av.opened 0 0) = Aex from hx] at h
  exact h
set_option maxHeartbeats 8000000 in
theorem bkawake_any (w : World) : Calls Tryz.prog 9 #[] w fun e w' => e = .returned (.bool true) ∧ Below w.heap.size w w' := by
  go_enter Tryz.func9, Tryz.ntmps9
  go_wp2_with fail
  refine (bknew_any 0 _).mono ?_
  rintro e w1 ⟨rfl, hb1⟩
  have HW1 := Lib.hid hb1
  clear hb1
  go_wp2_with (((with_reducible_and_instances (show wpList _ _ _ (Oper.mk _ (Op.store 35 _ _) _ _ _ _ :: _) _ _)); refine stop_here ?_))
  refine ⟨?_⟩
  refine wl_store (g := w1.heap.size) Kb.info rfl rfl rfl rfl (alloc_at rfl) Kb.zero_size (Kb.arr_size _) (Kb.new_one 0).arr ?_
  obtain ⟨U1, hU1⟩ : ∃ U1, boxed (w1.alloc (.cells Tryz.zeroCells35 35)) w1.heap.size (Kb.new 0).arr 35 = U1 := ⟨_, rfl⟩
  have fU1 : U1.heap[w1.heap.size]? = some (.cells (Kb.new 0).arr 35 (0, 0)) := by rw [← hU1]; exact boxed_at (by simp)
  have HU1 : Hid (Below w.heap.size w U1) := by rw [← hU1]; exact boxed_below (HW1.out.alloc HW1.out.size _) HW1.out.size
  rw [hU1]
  clear hU1
  generalize w1.heap.size = g1 at *
  clear HW1 w1
  go_wp2_with (((with_reducible_and_instances (show wpList _ _ _ (Oper.mk _ (Op.load 35 _) _ _ _ _ :: _) _ _)); refine stop_here ?_))
  refine ⟨?_⟩
  refine wl_load (cs := (Kb.new 0).arr) (fr := (0, 0)) (g := g1) Tryz.underlying35 rfl Kb.info rfl rfl rfl fU1 (Kb.arr_size _) ?_
  go_wp2_with fail
  refine (bkstep_def_yes (b := Kb.new 0) (ps := []) (o := ⟨1, 0, 0, 0, Pex, Nv.zero⟩) (by decide +kernel) rfl (new_km 0 _ _ _) (by simp) (fun k _ => by show ([] : List Cv).length ≤ _; simp) (by decide +kernel) (by simp)).mono ?_
  rintro e w2 ⟨c, hctd, hca, rfl, hkm, hb2⟩
  have HW2 : Hid (Below w.heap.size w w2) := HU1.out.trans (hb2.mono HU1.out.size)
  have HKM : Hid (KbM w2 0 w2.heap.size c [Pex]) := hkm.more (Nat.zero_le _) (Nat.le_refl _)
  have HCT : Hid (c.td = 0) := hctd
  have HCA : Hid (∀ k, k < 32 → c.a k = Av.zero) := hca
  clear hb2 hkm hctd hca fU1 HU1
  go_wp2_with (((with_reducible_and_instances (show wpList _ _ _ (Oper.mk _ (Op.store 35 _ _) _ _ _ _ :: _) _ _)); refine stop_here ?_))
  refine ⟨?_⟩
  refine wl_store (g := w2.heap.size) Kb.info rfl rfl rfl rfl (alloc_at rfl) Kb.zero_size (Kb.arr_size _) HKM.out.one.arr ?_
  obtain ⟨U2, hU2⟩ : ∃ U2, boxed (w2.alloc (.cells Tryz.zeroCells35 35)) w2.heap.size c.arr 35 = U2 := ⟨_, rfl⟩
  have fU2 : U2.heap[w2.heap.size]? = some (.cells c.arr 35 (0, 0)) := by rw [← hU2]; exact boxed_at (by simp)
  have HU2 : Hid (Below w.heap.size w U2) := by rw [← hU2]; exact boxed_below (HW2.out.alloc HW2.out.size _) HW2.out.size
  have HK2 : Hid (KbM U2 0 U2.heap.size c [Pex]) := by rw [← hU2]; exact ((HKM.out.below ((Below.refl _ w2).alloc (Nat.le_refl _) _)).boxed (.inr (Nat.le_refl _))).more (Nat.le_refl _) (by simp)
  rw [hU2]
  clear hU2 HKM
  generalize w2.heap.size = g2 at *
  clear HW2 w2
  go_wp2_with (((with_reducible_and_instances (show wpList _ _ _ (Oper.mk _ (Op.load 35 _) _ _ _ _ :: _) _ _)); refine stop_here ?_))
  refine ⟨?_⟩
  refine wl_load (cs := c.arr) (fr := (0, 0)) (g := g2) Tryz.underlying35 rfl Kb.info rfl rfl rfl fU2 (Kb.arr_size _) ?_
  go_wp2_with fail
  refine (bkstep_open (x := 0) (A' := Aex) (i := 0) (b := c) (ps := [Pex]) (o := ⟨2, 0, 0, 0, Pv.zero, Nv.zero⟩) (by decide +kernel) rfl HK2.out (by simp) (fun k hk => by rw [HCA.out k hk]; show ([] : List Cv).length ≤ _; simp) (by omega) rfl (Lib.hid fun W c' _ h1 h2 h3 => opened_yes (i := 0) (kn := 0) (P := Pex) (by omega) h3.ps rfl (by rw [h2, HCA.out 0 (by omega)]; rfl) (by rw [h1, HCT.out]; omega) ⟨by decide, by decide⟩ (by rw [h1, HCT.out]; decide) (Lib.hid fun W' => by rw [h1, HCT.out]; exact dayex_any W'))).mono ?_
  rintro e w3 h39
  obtain ⟨d, hdtd, hda, rfl, hkm, hb3⟩ := h39.2 rfl
  have HW3 : Hid (Below w.heap.size w w3) := HU2.out.trans (hb3.mono HU2.out.size)
  have HKM : Hid (KbM w3 0 w3.heap.size d [Pex]) := hkm.more (Nat.zero_le _) (Nat.le_refl _)
  have HD0 : Hid (d.a 0 = Aex) := hda 0 (by omega)
  have HDK : Hid (∀ k, 0 < k → k < 32 → d.a k = Av.zero) := fun k h0 hk => (hda k hk).trans ((if_neg (by omega)).trans (HCA.out k hk))
  clear hb3 hkm hdtd hda h39 HK2 HCA HCT fU2 HU2
  go_wp2_with (((with_reducible_and_instances (show wpList _ _ _ (Oper.mk _ (Op.store 35 _ _) _ _ _ _ :: _) _ _)); refine stop_here ?_))
  refine ⟨?_⟩
  refine wl_store (g := w3.heap.size) Kb.info rfl rfl rfl rfl (alloc_at rfl) Kb.zero_size (Kb.arr_size _) HKM.out.one.arr ?_
  obtain ⟨U3, hU3⟩ : ∃ U3, boxed (w3.alloc (.cells Tryz.zeroCells35 35)) w3.heap.size d.arr 35 = U3 := ⟨_, rfl⟩
  have fU3 : U3.heap[w3.heap.size]? = some (.cells d.arr 35 (0, 0)) := by rw [← hU3]; exact boxed_at (by simp)
  have HU3 : Hid (Below w.heap.size w U3) := by rw [← hU3]; exact boxed_below (HW3.out.alloc HW3.out.size _) HW3.out.size
  have HK3 : Hid (KbM U3 0 U3.heap.size d [Pex]) := by rw [← hU3]; exact ((HKM.out.below ((Below.refl _ w3).alloc (Nat.le_refl _) _)).boxed (.inr (Nat.le_refl _))).more (Nat.le_refl _) (by simp)
  rw [hU3]
  clear hU3 HKM
  generalize w3.heap.size = g3 at *
  clear HW3 w3
  go_wp2_with (((with_reducible_and_instances (show wpList _ _ _ (Oper.mk _ (Op.load 35 _) _ _ _ _ :: _) _ _)); refine stop_here ?_))
  refine ⟨?_⟩
  refine wl_load (cs := d.arr) (fr := (0, 0)) (g := g3) Tryz.underlying35 rfl Kb.info rfl rfl rfl fU3 (Kb.arr_size _) ?_
  go_wp2_with fail
  have hal : asksK d.a 32 = [⟨1, 0, 0, 1, 100, 0⟩] := by
    rw [asksK_first 31 (fun k h0 hk => by rw [HDK.out k h0 hk]; rfl), HD0.out]; rfl
  refine (bkasks_any HK3.out (fun k hk => by
    by_cases h0 : 0 < k
    · rw [HDK.out k h0 hk]; exact Nat.zero_le _
    · obtain rfl : k = 0 := by omega
      rw [HD0.out]; show 1 ≤ 100000; omega)).mono ?_
  rintro e w4 ⟨v4, rfl, ho4, hb4⟩
  rw [hal] at ho4
  obtain ⟨g, o, cap, rfl, _, hc1, hc2, _, hgl, hr⟩ := (Nvs.own ho4).at_ (k := 0) (c := ⟨1, 0, 0, 1, 100, 0⟩) rfl
  have k0 : w4.cell? ⟨g, o, none⟩ = some (.int .u8 1) := hr 0 _ rfl
  have k4 : w4.cell? ⟨g, o + 4, none⟩ = some (.int .i64 100) := hr 4 _ rfl
  have f4 : w4.heap[g3]? = some (.cells d.arr 35 (0, 0)) := below_block hb4 fU3
  have hg3 : g3 < w4.heap.size := (Array.getElem?_eq_some_iff.1 f4).1
  obtain ⟨A1, c1, hv, _⟩ := HK3.out.cs 0 (by omega)
  rw [HD0.out] at hv
  have hop : w4.cell? ⟨g3, 9, none⟩ = some (.slice A1 1 c1) := by
    have := Kb.cell (i := 0) (j := 7) (u := .slice A1 1 c1) f4 (by omega) (by omega) (by rw [HD0.out, hv]; rfl)
    exact this
  have HW4 : Hid (Below w.heap.size w w4) := HU3.out.trans (hb4.mono HU3.out.size)
  clear hb4 ho4 hr hal HK3 fU3 HU3 hv HD0 HDK
  go_wp2
  go_ret
  exact ⟨rfl, HW4.out⟩
end Go.Proofs.YtblikgbcakgdnaaGreat
/-
  A slice of paybookref12's acts that comes in: what it reads as. No conditions.
-/
namespace Go.Proofs.YtblikgbcakgdnaaGreat
set_option maxRecDepth 20000
open Go.ChangeShapes Go.WideShapes Go.RowKit Go.Deep

/-- An act, by its bytes. -/
structure Ac4 where
  k : Int
  a : Int
  b : Int
  c : Int
def Ac4.cs (p : Ac4) : List Value := [.int .u8 p.k, .int .u8 p.a, .int .u8 p.b, .int .u8 p.c]
/-- An act as it may come in. -/
def Ac4.Wf (p : Ac4) : Prop := (0 ≤ p.k ∧ p.k < 256) ∧ (0 ≤ p.a ∧ p.a < 256) ∧ (0 ≤ p.b ∧ p.b < 256) ∧ (0 ≤ p.c ∧ p.c < 256)
theorem cells_Ac4 {H : Type} {enc : TypeId × Value → H} {W : World} {n : Nat} {cs : List Value} {x : DataW H × List MemPlace} (hl : cs.length = 4) (h : DataW.trod enc Tryz.prog W 0 (fun _ => true) true n 51 cs = some x) :
    ∃ p : Ac4, cs = p.cs ∧ p.Wf := by
  obtain ⟨xs, k, hk, hxy, _, hxl, hff⟩ := DataW.trod_struct Tryz.underlying51 h
  match xs, hxl, cs, hl with
  | [y0, y1, y2, y3], _, [v0, v1, v2, v3], _ =>
    have t0 : DataW.trod enc Tryz.prog W 0 (fun _ => true) true k 5 [v0] = some y0 := hff 0 _ rfl
    have t1 : DataW.trod enc Tryz.prog W 0 (fun _ => true) true k 5 [v1] = some y1 := hff 1 _ rfl
    have t2 : DataW.trod enc Tryz.prog W 0 (fun _ => true) true k 5 [v2] = some y2 := hff 2 _ rfl
    have t3 : DataW.trod enc Tryz.prog W 0 (fun _ => true) true k 5 [v3] = some y3 := hff 3 _ rfl
    obtain ⟨k, e0, _, w0⟩ := DataW.trod_int Tryz.underlying5 t0
    obtain ⟨a, e1, _, w1⟩ := DataW.trod_int Tryz.underlying5 t1
    obtain ⟨b, e2, _, w2⟩ := DataW.trod_int Tryz.underlying5 t2
    obtain ⟨c, e3, _, w3⟩ := DataW.trod_int Tryz.underlying5 t3
    injection e0 with e0; injection e1 with e1; injection e2 with e2; injection e3 with e3
    subst e0 e1 e2 e3
    exact ⟨⟨k, a, b, c⟩, rfl, wf_u8 w0, wf_u8 w1, wf_u8 w2, wf_u8 w3⟩
/-- A slice of acts whose address is A reads as the acts l: in a block below B. -/
def RdAc4 (w : World) (B : Nat) (A : Option Addr) (l : List Ac4) : Prop :=
  ∀ (j : Nat) (p : Ac4), l[j]? = some p → ∃ b o, A = some ⟨b, o, none⟩ ∧ b < B ∧ w.rangeAt b (o + j * 4) p.cs
theorem RdAc4.kept {w w' : World} {B : Nat} {A : Option Addr} {l : List Ac4} (h : RdAc4 w B A l) (hk : ∀ i, i < B → w'.heap[i]? = w.heap[i]?) : RdAc4 w' B A l := fun j p hl => by
  obtain ⟨b, o, h1, h2, h3⟩ := h j p hl
  exact ⟨b, o, h1, h2, fun i v hv => (World.cell?_of_block (a := ⟨b, o + j * 4 + i, none⟩) (hk b h2)).trans (h3 i v hv)⟩
theorem open_Ac4 {H : Type} {enc : TypeId × Value → H} {W : World} {base : Nat} {v : Value} {d : DataW H} {ps : List MemPlace}
    (hval : Value.okWide Tryz.prog W .any base 23 v) (hd : DataW.Trod enc Tryz.prog W 0 (fun _ => true) true 23 v d ps) :
    ∃ A c l, v = .slice A (List.length l) c ∧ l.length ≤ c ∧ c ≤ maxLen ∧ RdAc4 W W.heap.size A l ∧ ∀ p ∈ l, Ac4.Wf p := by
  obtain ⟨a0, n0, c0, rfl⟩ := okWide_slice Tryz.underlying23 hval
  obtain ⟨fuel, hf⟩ := hd
  rcases open_slice Tryz.underlying23 hf with ⟨hcs, _⟩ | ⟨a, len, cap, m, n, D, Pl, hcs, _, hl, hm, hmm, _, hx⟩
  · simp [Value.cells] at hcs
    obtain ⟨rfl, rfl, rfl⟩ := hcs
    exact ⟨none, 0, [], rfl, by simp, by simp, fun j l h => by simp at h, by simp⟩
  · simp [Value.cells] at hcs
    obtain ⟨rfl, rfl, rfl⟩ := hcs
    simp only [if_true] at hmm
    have ce : Tryz.prog.cellsOf 51 = 4 := by kernel_rfl
    have each : ∀ i, i < n0 → ∃ y : Ac4, y.Wf ∧ ∀ (j : Nat) (v : Value), y.cs[j]? = some v → W.cell? (a.add (i * 4 + j)) = some v := by
      intro i hi
      obtain ⟨cs', h1, h2⟩ := hx i (by omega)
      rw [ce] at h1
      obtain ⟨_, hlen, hcell⟩ := World.cells?_some h1
      obtain ⟨p, rfl, hw⟩ := cells_Ac4 hlen h2
      exact ⟨p, hw, fun j v hv => by
        have hj : j < 4 := by
          have := (List.getElem?_eq_some_iff.1 hv).1
          rwa [hlen] at this
        have q := hcell j hj
        rw [add_add] at q
        exact q.trans hv⟩
    haveI : Inhabited Ac4 := ⟨⟨0, 0, 0, 0⟩⟩
    obtain ⟨y, hy⟩ := choose_lt each
    have hlen : ((List.range n0).map y).length = n0 := by simp
    refine ⟨some a, c0, (List.range n0).map y, by rw [hlen], by rw [hlen]; exact hl, hm, fun j x hj => ?_, fun x hx' => ?_⟩
    · obtain ⟨hj1, hj2⟩ := List.getElem?_eq_some_iff.1 hj
      rw [hlen] at hj1
      have hj3 : y j = x := by simpa using hj2
      obtain ⟨_, h1⟩ := hy j hj1
      have hz := (hy 0 (by omega)).2 0 _ rfl
      rw [Nat.zero_mul, ad_zero] at hz
      have hsp := World.cell?_spot hz
      obtain ⟨b, o, sp⟩ := a
      have hsp' : sp = none := hsp
      subst hsp'
      rw [hj3] at h1
      refine ⟨b, o, rfl, World.block_lt_of_cell? W _ hz, fun i v hv => ?_⟩
      have q := h1 i v hv
      rw [add_plain] at q
      rw [Nat.add_assoc]; exact q
    · simp only [List.mem_map, List.mem_range] at hx'
      obtain ⟨r, hr', rfl⟩ := hx'
      exact (hy r hr').1
end Go.Proofs.YtblikgbcakgdnaaGreat
