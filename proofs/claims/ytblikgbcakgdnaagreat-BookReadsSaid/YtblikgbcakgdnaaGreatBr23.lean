/-
  Days go by in a book: package book's passed. No conditions but the sizes, and what the account's own Day answers.
-/
import Derived.Deep.CutRange
import Derived.Great.BuildSlice
import Derived.Test.YtblikgbcakgdnaaGreatBr22
set_option linter.unusedSimpArgs false
set_option linter.unusedVariables false
namespace Go.Proofs.YtblikgbcakgdnaaGreat
set_option maxRecDepth 100000
open Go.ChangeShapes Go.WideShapes Go.ChangeAt Go.RowKit

/-- The first ones are others. -/
def Kb.midA (b : Kb) (A : Nat → Av) (vv : Nat → Value) (j : Nat) : Kb := { b with a := fun k => if k < j then A k else b.a k, v := fun k => if k < j then vv k else b.v k }
theorem Kb.midA_zero (b : Kb) (A : Nat → Av) (vv : Nat → Value) : b.midA A vv 0 = b := by
  unfold Kb.midA
  congr 1
theorem Kb.midA_next (b : Kb) (A : Nat → Av) (vv : Nat → Value) (j : Nat) (v' : Value) : (b.midA A vv j).put j (A j) v' = b.midA A (fun k => if k = j then v' else vv k) (j + 1) := by
  unfold Kb.midA Kb.put
  congr 1
  · funext k
    dsimp only
    by_cases h : k = j
    · rw [if_pos h, if_pos (by omega), h]
    · rw [if_neg h]
      by_cases h2 : k < j
      · rw [if_pos h2, if_pos (by omega)]
      · rw [if_neg h2, if_neg (by omega)]
  · funext k
    dsimp only
    by_cases h : k = j
    · rw [if_pos h, if_pos (by omega), if_pos h]
    · rw [if_neg h]
      by_cases h2 : k < j
      · rw [if_pos h2, if_pos (by omega), if_neg h]
      · rw [if_neg h2, if_neg (by omega)]
theorem Kb.midA_same (b : Kb) (A : Nat → Av) (vv : Nat → Value) (j : Nat) (h : A j = b.a j) : b.midA A vv j = b.midA A (fun k => if k = j then b.v j else vv k) (j + 1) := by
  unfold Kb.midA
  congr 1
  · funext k
    by_cases e : k = j
    · subst e; rw [if_neg (by omega), if_pos (by omega), h]
    · by_cases h2 : k < j
      · rw [if_pos h2, if_pos (by omega)]
      · rw [if_neg h2, if_neg (by omega)]
  · funext k
    show (if k < j then vv k else b.v k) = if k < j + 1 then (if k = j then b.v j else vv k) else b.v k
    by_cases e : k = j
    · subst e; rw [if_neg (by omega), if_pos (by omega), if_pos rfl]
    · by_cases h2 : k < j
      · rw [if_pos h2, if_pos (by omega), if_neg e]
      · rw [if_neg h2, if_neg (by omega)]
/-- The book that is told beside an error. -/
def Kb.zero : Kb := ⟨0, .slice none 0 0, fun _ => Av.zero, fun _ => .slice none 0 0⟩
theorem Kb.zero_one : Kb.zero.One := ⟨rfl, fun _ _ => rfl⟩
theorem rowF_list (n : Nat) (f : Nat → Value) : rowF n f = ((List.range n).map f).toArray := by
  apply Array.ext_getElem?
  intro k
  by_cases h : k < n
  · rw [rowF_get _ h]; simp [h]
  · rw [rowF_none _ h]; simp [h]
theorem Kb.zero_built : Tryz.prog.built 35 [] = some Kb.zero.arr := by
  rw [Kb.arr_row, rowF_list]
  kernel_rfl
/-- What a day makes of a subscription, where there is one. -/
structure Passes (w : World) (b : Kb) (ps : List Pv) (y : Int) (k : Nat) (A' : Av) : Prop where
  ex : ∃ (P : Pv) (pk : Nat), (b.a k).pl = (pk : Int) ∧ ps[pk]? = some P ∧ ∀ W, Below w.heap.size w W → Calls Tryz.prog 58 #[.agg ((b.a k).arr (b.v k)), .agg P.arr, .int .i64 y] W (News W A')
set_option maxHeartbeats 4000000 in
theorem passed_long {w : World} {b : Kb} (n : Int) (htd : 0 ≤ b.td ∧ b.td ≤ 3652058) (hn : 0 ≤ n ∧ n ≤ 1000) (hl : 3652058 < b.td + n) : Calls Tryz.prog 29 #[.agg b.arr, .int .i64 n] w fun e w' => e = .returned (.tuple #[.agg Kb.zero.arr, .int .i64 6]) ∧ Below w.heap.size w w' := by
  have ew : wrap64 (3652058 - n) = 3652058 - n := by unfold wrap64; omega
  have dl : decide (3652058 - n < b.td) = true := by simp; omega
  have dl2 : decide (b.td > 3652058 - n) = true := by simp; omega
  go_enter Tryz.func29, Tryz.ntmps29
  go_wp2_with (((with_reducible_and_instances (show wpList _ _ _ (Oper.mk _ (Op.build 35 _) _ _ _ _ :: _) _ _)); refine stop_here ?_))
  refine ⟨?_⟩
  refine wpList_buildTo rfl 35 _ rfl _ rfl _ (Eq.trans (congrArg (Program.built _ _) (by simp)) Kb.zero_built) ?_
  go_wp2_with (((with_reducible_and_instances (show wpList _ _ _ (Oper.mk _ (Op.store 35 _ _) _ _ _ _ :: _) _ _)); refine stop_here ?_))
  refine ⟨?_⟩
  refine wl_store (g := w.heap.size + 1) Kb.info rfl rfl rfl rfl (alloc_at (by simp)) Kb.zero_size (Kb.arr_size _) Kb.zero_one.arr ?_
  go_wp2_with fail
  refine bodyPost_ret (results_row_tmp rfl _ _ (w.heap.size + 1) 35 _ (0, 0) _ rfl (boxed_at (by simp)) Tryz.underlying35 rfl (by rw [Kb.arr_size]; exact Kb.info)) rfl ?_
  exact ⟨rfl, boxed_below (((Below.refl _ w).alloc (by first | exact Nat.le_refl _ | (simp; done) | (simp; omega)) _).alloc (by first | exact Nat.le_refl _ | (simp; done) | (simp; omega)) _) (by omega)⟩
set_option maxHeartbeats 8000000 in
theorem passed_yes {w : World} {b : Kb} {ps : List Pv} {A' : Nat → Av} (n : Int) (hone : b.One) (hps : Pys w 0 w.heap.size b.vp ps) (htd : 0 ≤ b.td ∧ b.td ≤ 3652058) (hn : 0 ≤ n ∧ n ≤ 1000) (hl : b.td + n ≤ 3652058)
    (h0 : ∀ k, k < 32 → (b.a k).st = 0 → A' k = b.a k) (h1 : ∀ k, k < 32 → (b.a k).st ≠ 0 → Passes w b ps (b.td + n) k (A' k)) : Calls Tryz.prog 29 #[.agg b.arr, .int .i64 n] w fun e w' => ∃ vv, e = .returned (.tuple #[.agg (({ b with td := b.td + n } : Kb).midA A' vv 32).arr, .int .i64 0]) ∧ (∀ k, k < 32 → (vv k = b.v k ∧ A' k = b.a k) ∨ Cys w' w.heap.size w'.heap.size (vv k) (A' k).l) ∧ Below w.heap.size w w' := by
  have ew : wrap64 (3652058 - n) = 3652058 - n := by unfold wrap64; omega
  have ew2 : wrap64 (b.td + n) = b.td + n := by unfold wrap64; omega
  have dl : decide (3652058 - n < b.td) = false := by simp; omega
  have dl2 : decide (b.td > 3652058 - n) = false := by simp; omega
  have H0 := Lib.hid h0
  have H1 := Lib.hid h1
  have HPS := Lib.hid hps
  have HON := Lib.hid hone
  clear h0 h1 hps hone
  go_enter Tryz.func29, Tryz.ntmps29
  go_upto_region 4 with fail
  clear ew ew2 dl dl2
  obtain ⟨b1, hb1⟩ : ∃ b1, ({ b with td := b.td + n } : Kb) = b1 := ⟨_, rfl⟩
  rw [hb1]
  have ea : b1.a = b.a := by rw [← hb1]
  have ev : b1.v = b.v := by rw [← hb1]
  have ep : b1.vp = b.vp := by rw [← hb1]
  have et : b1.td = b.td + n := by rw [← hb1]
  have EA := Lib.hid ea
  have EV := Lib.hid ev
  have EP := Lib.hid ep
  have ET := Lib.hid et
  have HB1 := Lib.hid hb1.symm
  clear ea ev ep et hb1
  have B2 : ((w.alloc (.cells b1.arr 35)).alloc (.cells Tryz.zeroCells35 35)).heap[w.heap.size]? = some (.cells b1.arr 35 (0, 0)) := alloc_old (by simp) (alloc_at rfl)
  have Z2 : ((w.alloc (.cells b1.arr 35)).alloc (.cells Tryz.zeroCells35 35)).heap[w.heap.size + 1]? = some (.cells Tryz.zeroCells35 35 (0, 0)) := alloc_at (by simp)
  have HW2 : Hid (Below w.heap.size w ((w.alloc (.cells b1.arr 35)).alloc (.cells Tryz.zeroCells35 35))) := ((Below.refl _ w).alloc (Nat.le_refl _) _).alloc (by simp) _
  go_wp2_with (((with_reducible_and_instances (show wpList _ _ _ (Oper.mk _ (Op.load 33 _) _ _ _ _ :: _) _ _)); refine stop_here ?_))
  refine ⟨?_⟩
  refine wpList_load_mid rfl _ _ rfl w.heap.size 2 rfl b1.subs.toList _ (Kb.range_subs B2) Tryz.underlying33 rfl Kb.infos_l ?_
  rw [Array.toArray_toList]
  go_wp2_with fail
  go_loopw [23] (fun ii wq => ∃ (j : Nat) (vv : Nat → Value), j ≤ 32 ∧ ii = .int .i64 j ∧ Hid (Below w.heap.size w wq) ∧ Hid (wq.heap[w.heap.size]? = some (.cells (b1.midA A' vv j).arr 35 (0, 0))) ∧ Hid (wq.heap[w.heap.size + 1]? = some (.cells Tryz.zeroCells35 35 (0, 0))) ∧ Hid (∀ k, k < j → (vv k = b.v k ∧ A' k = b.a k) ∨ Cys wq (w.heap.size + 1 + 1) wq.heap.size (vv k) (A' k).l)) (fun ii _ => 32 - (intOf ii).toNat)
  case atStart => exact ⟨0, b1.v, by omega, rfl, HW2, by rw [Kb.midA_zero]; exact B2, Z2, fun k hk => by omega⟩
  case round =>
    clear HW2 B2 Z2
    obtain ⟨j, vv, hj, rfl, HW, HB, HZ, HC⟩ := hrel
    have hb := HB.out
    have hzz := HZ.out
    have hz : w.heap.size + 1 < wr.heap.size := (Array.getElem?_eq_some_iff.1 hzz).1
    have hz0 : w.heap.size < wr.heap.size := by omega
    by_cases hlt : j < 32
    case pos =>
      have dlt : decide ((j : Int) < 32) = true := by simp; omega
      have q := fun w => Kb.run_index b1 hlt w
      rw [EA.out, EV.out] at q
      have h0j := H0.out j hlt
      have h1j := H1.out j hlt
      have hvo := HON.out.2 j hlt
      have eaj : b1.a j = b.a j := by rw [EA.out]
      have evj : b1.v j = b.v j := by rw [EV.out]
      obtain ⟨a, ha⟩ : ∃ a, b.a j = a := ⟨_, rfl⟩
      obtain ⟨v, hv⟩ : ∃ v, b.v j = v := ⟨_, rfl⟩
      have hps1 : a.st ≠ 0 → ∃ (P : Pv) (pk : Nat), a.pl = (pk : Int) ∧ ps[pk]? = some P ∧ ∀ W, Below w.heap.size w W → Calls Tryz.prog 58 #[.agg (a.arr v), .agg P.arr, .int .i64 (b.td + n)] W (News W (A' j)) := by
        intro hne
        have := (h1j (by rw [ha]; exact hne)).ex
        rw [ha, hv] at this
        exact this
      rw [ha, hv] at q
      rw [ha] at h0j eaj
      rw [hv] at hvo evj
      have HPS1 := Lib.hid hps1
      have H0J := Lib.hid h0j
      have EAJ := Lib.hid eaj
      have EVJ := Lib.hid evj
      have HA := Lib.hid ha
      have HV := Lib.hid hv
      have hjI : (j : Int) < 32 := by omega
      have hjJ : (0 : Int) ≤ (j : Int) := by omega
      clear ha hv h1j h0j hps1 eaj evj
      go_wp2_with (((with_reducible_and_instances (show wpList _ _ _ (Oper.mk _ (Op.store 32 _ _) _ _ _ _ :: _) _ _)); refine stop_here ?_))
      refine ⟨?_⟩
      refine wl_store (g := wr.heap.size) info13 rfl rfl rfl rfl (alloc_at rfl) rfl rfl (Av.arr_one hvo) ?_
      obtain ⟨W3, hW3⟩ : ∃ W3, boxed (wr.alloc (.cells #[.int .u8 0, .int .i64 0, .int .i64 0, .int .i64 0, .int .i64 0, .int .i64 0, .bool false, .slice none 0 0, .int .i64 0, .int .i64 0, .int .i64 0, .int .i64 0, .int .i64 0] 32)) wr.heap.size (a.arr v) 32 = W3 := ⟨_, rfl⟩
      obtain ⟨ab, hab⟩ : ∃ ab, wr.heap.size = ab := ⟨_, rfl⟩
      have s0 : W3.heap[w.heap.size]? = some (.cells (b1.midA A' vv j).arr 35 (0, 0)) := by rw [← hW3]; exact boxed_old (by omega) (alloc_old (by omega) hb)
      have s1 : W3.heap[w.heap.size + 1]? = some (.cells Tryz.zeroCells35 35 (0, 0)) := by rw [← hW3]; exact boxed_old (by omega) (alloc_old (by omega) hzz)
      have s2 : W3.heap[ab]? = some (.cells (a.arr v) 32 (0, 0)) := by rw [← hW3, ← hab]; exact boxed_at (by simp)
      have hV3 : Below w.heap.size w W3 := by rw [← hW3]; exact boxed_below (HW.out.alloc HW.out.size _) (by omega)
      have hC3 : Hid (∀ k, k < j → (vv k = b.v k ∧ A' k = b.a k) ∨ Cys W3 (w.heap.size + 1 + 1) ab (vv k) (A' k).l) := fun k hk => (HC.out k hk).imp id fun h => by rw [← hW3, ← hab]; exact h.kept fun i h1 h2 => by rw [boxed_block_other (by omega), alloc_block_old (by omega)]
      have hz3 : ab < W3.heap.size := (Array.getElem?_eq_some_iff.1 s2).1
      have hst0 : W3.cell? ⟨ab, 0, none⟩ = some (.int .u8 a.st) := by rw [cell_of_row _ _ _ _ _ _ s2]; rfl
      rw [hab] at hW3 hz hz0
      rw [hab, hW3]
      clear hW3 q HB HZ HC HW hb hzz hab wr
      by_cases hst : a.st = 0
      case pos =>
        have dst : (a.st == 0) = true := by simpa using hst
        go_wp2_with fail
        go_roundw
        case rel =>
          refine ⟨j + 1, fun k => if k = j then b1.v j else vv k, by omega, by go_num, hV3, ?_, s1, fun k hk => ?_⟩
          · rw [← Kb.midA_same b1 A' vv j (by rw [EAJ.out]; exact H0J.out hst)]; exact s0
          · by_cases e : k = j
            · subst e
              left
              dsimp only
              rw [if_pos rfl, EVJ.out, HV.out, HA.out]
              exact ⟨rfl, H0J.out hst⟩
            · dsimp only
              rw [if_neg e]
              exact (hC3.out k (by omega)).imp id fun h => h.more (Nat.le_refl _) (by omega)
        case measure => simp [intOf]; omega
      case neg =>
        have dst : (a.st == 0) = false := by simpa using hst
        obtain ⟨P, pk, hpk, hP, hday⟩ := HPS1.out hst
        have c01 : W3.cell? ⟨w.heap.size, 1, none⟩ = some b.vp := by rw [cell_of_row _ _ _ _ _ _ s0, Kb.at1]; show some b1.vp = _; rw [EP.out]
        have c11 : W3.cell? ⟨ab, 1, none⟩ = some (.int .i64 (pk : Int)) := by rw [cell_of_row _ _ _ _ _ _ s2, ← hpk]; rfl
        have HDY := Lib.hid hday
        have HPK := Lib.hid hpk
        clear hday hpk
        go_wp2_with fail
        refine (plget_yes (B := w.heap.size) (HPS.out.kept fun i _ hi => hV3.block i hi) hV3.size hP).mono ?_
        rintro e W4 ⟨rfl, hb⟩
        have t0 := below_block hb s0
        have t1 := below_block hb s1
        have t2 := below_block hb s2
        have hV4 : Below w.heap.size w W4 := hV3.trans (hb.mono hV3.size)
        have hC4 : Hid (∀ k, k < j → (vv k = b.v k ∧ A' k = b.a k) ∨ Cys W4 (w.heap.size + 1 + 1) ab (vv k) (A' k).l) := fun k hk => (hC3.out k hk).imp id fun h => h.kept fun i _ h2 => hb.block i (by omega)
        have hz4 : ab < W4.heap.size := (Array.getElem?_eq_some_iff.1 t2).1
        clear hb s0 s1 s2 hV3 hC3 hst0 c01 c11 hz3 W3
        go_wp2_with (((with_reducible_and_instances (show wpList _ _ _ (Oper.mk _ (Op.store 44 _ _) _ _ _ _ :: _) _ _)); refine stop_here ?_))
        refine ⟨?_⟩
        refine wl_store (g := W4.heap.size) info6p rfl rfl rfl rfl (alloc_at rfl) rfl rfl (Pv.arr_one _) ?_
        obtain ⟨W5, hW5⟩ : ∃ W5, boxed (W4.alloc (.cells #[.int .i64 0, .int .u8 0, .int .i64 0, .int .i64 0, .bool false, .bool false] 44)) W4.heap.size P.arr 44 = W5 := ⟨_, rfl⟩
        have u0 : W5.heap[w.heap.size]? = some (.cells (b1.midA A' vv j).arr 35 (0, 0)) := by rw [← hW5]; exact boxed_old (by omega) (alloc_old (by omega) t0)
        have u1 : W5.heap[w.heap.size + 1]? = some (.cells Tryz.zeroCells35 35 (0, 0)) := by rw [← hW5]; exact boxed_old (by omega) (alloc_old (by omega) t1)
        have u2 : W5.heap[ab]? = some (.cells (a.arr v) 32 (0, 0)) := by rw [← hW5]; exact boxed_old (by omega) (alloc_old (by omega) t2)
        have u3 : W5.heap[W4.heap.size]? = some (.cells P.arr 44 (0, 0)) := by rw [← hW5]; exact boxed_at (by simp)
        have hV5 : Below w.heap.size w W5 := by rw [← hW5]; exact boxed_below (hV4.alloc hV4.size _) hV4.size
        have hC5 : Hid (∀ k, k < j → (vv k = b.v k ∧ A' k = b.a k) ∨ Cys W5 (w.heap.size + 1 + 1) ab (vv k) (A' k).l) := fun k hk => (hC4.out k hk).imp id fun h => by rw [← hW5]; exact h.kept fun i h1 h2 => by rw [boxed_block_other (by omega), alloc_block_old (by omega)]
        rw [hW5]
        obtain ⟨pb, hpb⟩ : ∃ pb, W4.heap.size = pb := ⟨_, rfl⟩
        rw [hpb] at u3 hz4 ⊢
        clear hW5 hpb t0 t1 t2 hV4 hC4 W4
        have hz5 : pb < W5.heap.size := (Array.getElem?_eq_some_iff.1 u3).1
        have c00 : W5.cell? ⟨w.heap.size, 0, none⟩ = some (.int .i64 (b.td + n)) := by rw [cell_of_row _ _ _ _ _ _ u0, Kb.at0]; show some (Value.int .i64 b1.td) = _; rw [ET.out]
        go_wp2_with (((with_reducible_and_instances (show wpList _ _ _ (Oper.mk _ (Op.load 32 _) _ _ _ _ :: _) _ _)); refine stop_here ?_))
        refine ⟨?_⟩
        refine wl_load (cs := a.arr v) (fr := (0, 0)) (g := ab) Tryz.underlying32 rfl info13 rfl rfl rfl u2 rfl ?_
        go_wp2_with (((with_reducible_and_instances (show wpList _ _ _ (Oper.mk _ (Op.load 44 _) _ _ _ _ :: _) _ _)); refine stop_here ?_))
        refine ⟨?_⟩
        refine wl_load (cs := P.arr) (fr := (0, 0)) (g := pb) Tryz.underlying44 rfl info6p rfl rfl rfl u3 rfl ?_
        go_wp2_with fail
        refine (HDY.out W5 hV5).mono ?_
        rintro e W6 ⟨v6, rfl, ho, hb⟩
        have x0 := below_block hb u0
        have x1 := below_block hb u1
        have hV6 : Below w.heap.size w W6 := hV5.trans (hb.mono hV5.size)
        have hs6 : W5.heap.size ≤ W6.heap.size := hb.size
        have hC6 : Hid (∀ k, k < j → (vv k = b.v k ∧ A' k = b.a k) ∨ Cys W6 (w.heap.size + 1 + 1) ab (vv k) (A' k).l) := fun k hk => (hC5.out k hk).imp id fun h => h.kept fun i _ h2 => hb.block i (by omega)
        have HO : Hid (Cys W6 (w.heap.size + 1 + 1) W6.heap.size v6 (A' j).l) := ho.cys.more (by omega) (Nat.le_refl _)
        have hv61 := ho.one
        clear hb u0 u1 u2 u3 hV5 hC5 c00 ho
        have hz6 : w.heap.size < W6.heap.size := by omega
        have eb := boxed_self x0
        rw [eb]
        clear eb
        go_wp2_with (((with_reducible_and_instances (show wpList _ _ _ (Oper.mk _ (Op.store 32 _ _) _ _ _ _ :: _) _ _)); refine stop_here ?_))
        refine ⟨?_⟩
        refine wpList_store_mid rfl _ _ _ rfl w.heap.size (2 + j * 13) ((A' j).arr v6) rfl rfl (Kb.there hz6 (by rw [Av.arr_size]; omega)) info13 (Av.arr_one hv61) ?_
        rw [Kb.store, Kb.midA_next]
        go_wp2_with fail
        go_roundw
        case rel =>
          refine ⟨j + 1, fun k => if k = j then v6 else vv k, by omega, by go_num, boxed_below hV6 (Nat.le_refl _), boxed_at hz6, boxed_old (by omega) x1, fun k hk => ?_⟩
          by_cases e : k = j
          · subst e
            right
            dsimp only
            rw [if_pos rfl]
            exact (HO.out.boxed (.inl (by omega))).more (Nat.le_refl _) (by simp)
          · dsimp only
            rw [if_neg e]
            exact (hC6.out k (by omega)).imp id fun h => (h.boxed (.inl (by omega))).more (Nat.le_refl _) (by simp; omega)
        case measure => simp [intOf]; omega
    case neg =>
      obtain rfl : j = 32 := by omega
      have dlt : decide (((32 : Nat) : Int) < 32) = false := by decide
      have hone : (b1.midA A' vv 32).One := ⟨by show b1.vp.oneCell' = true; rw [EP.out]; exact HON.out.1, fun k hk => by
        show (if k < 32 then vv k else b1.v k).oneCell' = true
        rw [if_pos hk]
        rcases HC.out k hk with h | h
        · rw [h.1]; exact HON.out.2 k hk
        · obtain ⟨A, c, he, _⟩ := h; rw [he]; rfl⟩
      have HONE := Lib.hid hone
      clear hlt hj hone
      go_wp2_with (((with_reducible_and_instances (show wpList _ _ _ (Oper.mk _ (Op.load 35 _) _ _ _ _ :: _) _ _)); refine stop_here ?_))
      refine ⟨?_⟩
      refine wl_load (cs := (b1.midA A' vv 32).arr) (fr := (0, 0)) (g := w.heap.size) Tryz.underlying35 rfl Kb.info rfl rfl rfl hb (Kb.arr_size _) ?_
      go_wp2_with (((with_reducible_and_instances (show wpList _ _ _ (Oper.mk _ (Op.store 35 _ _) _ _ _ _ :: _) _ _)); refine stop_here ?_))
      refine ⟨?_⟩
      refine wl_store (g := w.heap.size + 1) Kb.info rfl rfl rfl rfl hzz Kb.zero_size (Kb.arr_size _) HONE.out.arr ?_
      go_wp2_with fail
      refine bodyPost_ret (results_row_tmp rfl _ _ (w.heap.size + 1) 35 _ (0, 0) _ rfl (boxed_at hz) Tryz.underlying35 rfl (by rw [Kb.arr_size]; exact Kb.info)) rfl ?_
      refine ⟨vv, ?_, fun k hk => (HC.out k hk).imp id fun h => (h.boxed (.inl (by omega))).more (by omega) (by simp), boxed_below HW.out (by omega)⟩
      rw [← HB1.out]
      rfl
end Go.Proofs.YtblikgbcakgdnaaGreat
