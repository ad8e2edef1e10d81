/-
  A book copied: the same one, with lists of its own. No conditions but the sizes.
-/
import Derived.Deep.CutRange
import Derived.Test.YtblikgbcakgdnaaGreatBp18
set_option linter.unusedSimpArgs false
set_option linter.unusedVariables false
namespace Go.Proofs.YtblikgbcakgdnaaGreat
set_option maxRecDepth 100000
open Go.ChangeShapes Go.WideShapes Go.ChangeAt Go.RowKit

/-- What a book reads as: its plans, its subscriptions' cycles; below a block. -/
structure KbM (w : World) (b0 c0 : Nat) (b : Kb) (ps : List Pv) : Prop where
  one : b.One
  ps : Pys w b0 c0 b.vp ps
  cs : ∀ k, k < 32 → Cys w b0 c0 (b.v k) (b.a k).l
theorem KbM.kept {w w' : World} {b0 c0 : Nat} {b : Kb} {ps : List Pv} (h : KbM w b0 c0 b ps) (hk : ∀ i, b0 ≤ i → i < c0 → w'.heap[i]? = w.heap[i]?) : KbM w' b0 c0 b ps := ⟨h.one, h.ps.kept hk, fun k hk2 => (h.cs k hk2).kept hk⟩
theorem KbM.below {w w' : World} {b0 c0 : Nat} {b : Kb} {ps : List Pv} (h : KbM w b0 c0 b ps) (hb : Below c0 w w') : KbM w' b0 c0 b ps := h.kept fun i _ hi => hb.block i hi
theorem KbM.more {w : World} {b0 c0 b1 c1 : Nat} {b : Kb} {ps : List Pv} (h : KbM w b0 c0 b ps) (hb : b1 ≤ b0) (hc : c0 ≤ c1) : KbM w b1 c1 b ps := ⟨h.one, h.ps.more hb hc, fun k hk => (h.cs k hk).more hb hc⟩
theorem KbM.boxed {w : World} {b0 c0 n : Nat} {b : Kb} {ps : List Pv} {cs : Array Value} {t : TypeId} (h : KbM w b0 c0 b ps) (hn : n < b0 ∨ c0 ≤ n) : KbM (Go.Proofs.YtblikgbcakgdnaaGreat.boxed w n cs t) b0 c0 b ps := h.kept fun i h1 h2 => boxed_block_other (by omega)
/-- The first ones' slices are others. -/
def Kb.mid (b : Kb) (vv : Nat → Value) (j : Nat) : Kb := { b with v := fun k => if k < j then vv k else b.v k }
theorem Kb.mid_zero (b : Kb) (vv : Nat → Value) : b.mid vv 0 = b := by
  unfold Kb.mid
  congr 1
theorem Kb.mid_at (b : Kb) (vv : Nat → Value) (j : Nat) : (b.mid vv j).a j = b.a j ∧ (b.mid vv j).v j = b.v j := ⟨rfl, if_neg (Nat.lt_irrefl _)⟩
theorem Kb.mid_next (b : Kb) (vv : Nat → Value) (j : Nat) (v' : Value) : (b.mid vv j).put j (b.a j) v' = b.mid (fun k => if k = j then v' else vv k) (j + 1) := by
  unfold Kb.mid Kb.put
  congr 1
  · funext k
    dsimp only
    by_cases h : k = j
    · rw [if_pos h, h]
    · rw [if_neg h]
  · funext k
    dsimp only
    by_cases h : k = j
    · rw [if_pos h, if_pos (by omega), if_pos h]
    · rw [if_neg h]
      by_cases h2 : k < j
      · rw [if_pos h2, if_pos (by omega), if_neg h]
      · rw [if_neg h2, if_neg (by omega)]
theorem Kb.one_of {w : World} {b : Kb} {b0 c0 : Nat} (hp : b.vp.oneCell' = true) (h : ∀ k, k < 32 → Cys w b0 c0 (b.v k) (b.a k).l) : b.One := ⟨hp, fun k hk => by obtain ⟨A, c, he, _⟩ := h k hk; rw [he]; rfl⟩
set_option maxHeartbeats 8000000 in
theorem copied_any {w : World} {b : Kb} {ps : List Pv} (h : KbM w 0 w.heap.size b ps) (hps : ps.length ≤ 1000) (hl : ∀ k, k < 32 → (b.a k).l.length ≤ 1000000) : Calls Tryz.prog 26 #[.agg b.arr] w fun e w' => ∃ vp vv, e = .returned (.agg ({ b with vp := vp, v := vv } : Kb).arr) ∧ Lst w' (w.heap.size + 1 + 1) vp ps ∧ (∀ k, k < 32 → Cys w' (w.heap.size + 1 + 1) w'.heap.size (vv k) (b.a k).l) ∧ Below w.heap.size w w' := by
  have H := Lib.hid h
  have HL := Lib.hid hl
  clear h hl
  go_enter Tryz.func26, Tryz.ntmps26
  go_wp2_with fail
  refine (plclone_any (l := ps) ((H.out.ps.below (((Below.refl _ w).alloc (Nat.le_refl _) _).alloc (by simp) _)).more (Nat.le_refl _) (by simp; omega)) (by omega)).mono ?_
  rintro e w1 ⟨vp, rfl, ho1, hb1⟩
  have hB1 : w1.heap[w.heap.size]? = some (.cells b.arr 35 (0, 0)) := below_block hb1 (alloc_old (by simp) (alloc_at rfl))
  have hZ1 : w1.heap[w.heap.size + 1]? = some (.cells Tryz.zeroCells35 35 (0, 0)) := below_block hb1 (alloc_at (by simp))
  have hW1 : Below w.heap.size w w1 := (((Below.refl _ w).alloc (Nat.le_refl _) _).alloc (by simp) _).trans (hb1.mono (by simp; omega))
  have hz1 : w.heap.size + 1 < w1.heap.size := (Array.getElem?_eq_some_iff.1 hZ1).1
  rw [World.size_alloc, World.size_alloc] at ho1
  have HO1 := Lib.hid ho1
  have HW1 := Lib.hid hW1
  have hz10 : w.heap.size < w1.heap.size := by omega
  clear hb1 ho1 hW1
  have eb := boxed_self hB1
  rw [eb]
  clear eb
  obtain ⟨vA, vc, hvf, _, _⟩ := HO1.out.form
  have HVF := Lib.hid hvf
  rw [hvf]
  clear hvf
  go_upto_region 2 with fail
  rw [← HVF.out]
  obtain ⟨b1, hb1⟩ : ∃ b1, ({ b with vp := vp } : Kb) = b1 := ⟨_, rfl⟩
  rw [hb1]
  obtain ⟨W2, hW2⟩ : ∃ W2, boxed w1 w.heap.size b1.arr 35 = W2 := ⟨_, rfl⟩
  have B2 : W2.heap[w.heap.size]? = some (.cells b1.arr 35 (0, 0)) := by rw [← hW2]; exact boxed_at hz10
  have Z2 : W2.heap[w.heap.size + 1]? = some (.cells Tryz.zeroCells35 35 (0, 0)) := by rw [← hW2]; exact boxed_old (by omega) hZ1
  have HW2 : Hid (Below w.heap.size w W2) := by rw [← hW2]; exact boxed_below HW1.out (Nat.le_refl _)
  have HO2 : Hid (Lst W2 (w.heap.size + 1 + 1) vp ps) := by rw [← hW2]; exact HO1.out.boxed (by omega)
  have ea : b1.a = b.a := by rw [← hb1]
  have ev : b1.v = b.v := by rw [← hb1]
  have ep : b1.vp = vp := by rw [← hb1]
  have et : b1.td = b.td := by rw [← hb1]
  have EA := Lib.hid ea
  have EV := Lib.hid ev
  have EP := Lib.hid ep
  have ET := Lib.hid et
  rw [hW2]
  clear hW2 hZ1 hz10 hz1 HW1 HO1 hB1 ea ev ep et hb1 w1
  go_wp2_with (((with_reducible_and_instances (show wpList _ _ _ (Oper.mk _ (Op.load 33 _) _ _ _ _ :: _) _ _)); refine stop_here ?_))
  refine ⟨?_⟩
  refine wpList_load_mid rfl _ _ rfl w.heap.size 2 rfl b1.subs.toList _ (Kb.range_subs B2) Tryz.underlying33 rfl Kb.infos_l ?_
  rw [Array.toArray_toList]
  go_wp2_with fail
  go_loopw [11] (fun ii wq => ∃ (j : Nat) (vv : Nat → Value), j ≤ 32 ∧ ii = .int .i64 j ∧ Hid (Below w.heap.size w wq) ∧ Hid (wq.heap[w.heap.size]? = some (.cells (b1.mid vv j).arr 35 (0, 0))) ∧ Hid (wq.heap[w.heap.size + 1]? = some (.cells Tryz.zeroCells35 35 (0, 0))) ∧ Hid (∀ k, k < j → Cys wq (w.heap.size + 1 + 1) wq.heap.size (vv k) (b.a k).l) ∧ Hid (Lst wq (w.heap.size + 1 + 1) vp ps)) (fun ii _ => 32 - (intOf ii).toNat)
  case atStart => exact ⟨0, b1.v, by omega, rfl, HW2, by rw [Kb.mid_zero]; exact B2, Z2, fun k hk => by omega, HO2⟩
  case round =>
    clear HW2 B2 Z2 HO2
    obtain ⟨j, vv, hj, rfl, HW, HB, HZ, HC, HO⟩ := hrel
    have hb := HB.out
    have hzz := HZ.out
    have hz : w.heap.size + 1 < wr.heap.size := (Array.getElem?_eq_some_iff.1 hzz).1
    have hz0 : w.heap.size < wr.heap.size := by omega
    by_cases hlt : j < 32
    case pos =>
      have dlt : decide ((j : Int) < 32) = true := by simp; omega
      have q := fun w => Kb.run_index b1 hlt w
      rw [EA.out, EV.out] at q
      have hln := HL.out j hlt
      have hcy := H.out.cs j hlt
      obtain ⟨a, ha⟩ : ∃ a, b.a j = a := ⟨_, rfl⟩
      obtain ⟨v, hv⟩ : ∃ v, b.v j = v := ⟨_, rfl⟩
      rw [ha, hv] at q hcy
      rw [ha] at hln
      have HCY := Lib.hid hcy
      have hv1 : v.oneCell' = true := by obtain ⟨A, c, he, _⟩ := hcy; rw [he]; rfl
      have HA := Lib.hid ha
      have HV := Lib.hid hv
      have hjI : (j : Int) < 32 := by omega
      have hjJ : (0 : Int) ≤ (j : Int) := by omega
      clear ha hv hcy
      go_wp2_with (((with_reducible_and_instances (show wpList _ _ _ (Oper.mk _ (Op.store 32 _ _) _ _ _ _ :: _) _ _)); refine stop_here ?_))
      refine ⟨?_⟩
      refine wl_store (g := wr.heap.size) info13 rfl rfl rfl rfl (alloc_at rfl) rfl rfl (Av.arr_one hv1) ?_
      go_wp2_with (((with_reducible_and_instances (show wpList _ _ _ (Oper.mk _ (Op.load 32 _) _ _ _ _ :: _) _ _)); refine stop_here ?_))
      refine ⟨?_⟩
      refine wl_load (cs := a.arr v) (fr := (0, 0)) (g := wr.heap.size) Tryz.underlying32 rfl info13 rfl rfl rfl (boxed_at (by simp)) rfl ?_
      go_wp2_with fail
      refine (copy_any (a := a) ((HCY.out.kept (w' := boxed (wr.alloc (.cells #[.int .u8 0, .int .i64 0, .int .i64 0, .int .i64 0, .int .i64 0, .int .i64 0, .bool false, .slice none 0 0, .int .i64 0, .int .i64 0, .int .i64 0, .int .i64 0, .int .i64 0] 32)) wr.heap.size (a.arr v) 32) fun i _ h2 => ?_).more (Nat.le_refl _) ?_) (by omega)).mono ?_
      · have := HW.out.size
        rw [boxed_block_other (by omega), alloc_block_old (by omega)]
        exact HW.out.block i h2
      · have := HW.out.size
        simp
        omega
      rintro e w3 ⟨v3, rfl, ho3, hb3⟩
      have hB3 : w3.heap[w.heap.size]? = some (.cells (b1.mid vv j).arr 35 (0, 0)) := below_block hb3 (boxed_old (by omega) (alloc_old (by omega) hb))
      have hZ3 : w3.heap[w.heap.size + 1]? = some (.cells Tryz.zeroCells35 35 (0, 0)) := below_block hb3 (boxed_old (by omega) (alloc_old (by omega) hzz))
      have hW3 : Below w.heap.size w w3 := (boxed_below (HW.out.alloc HW.out.size _) (by omega)).trans (hb3.mono (by simp; omega))
      have hs3 : wr.heap.size + 1 ≤ w3.heap.size := by have := hb3.size; simp at this; omega
      have hold : ∀ i, i < wr.heap.size → w3.heap[i]? = wr.heap[i]? := fun i hi => by
        rw [hb3.block i (by simp; omega), boxed_block_other (by omega), alloc_block_old hi]
      have HOLD := Lib.hid hold
      have HC3 : Hid (Cys w3 (w.heap.size + 1 + 1) w3.heap.size v3 a.l) := ho3.cys.more (by simp; omega) (Nat.le_refl _)
      have hv31 := ho3.one
      have HW3 := Lib.hid hW3
      have hz3 : w.heap.size < w3.heap.size := by omega
      clear hb3 ho3 hold hW3 q
      have eb := boxed_self hB3
      rw [eb]
      clear eb
      go_wp2_with (((with_reducible_and_instances (show wpList _ _ _ (Oper.mk _ (Op.store 32 _ _) _ _ _ _ :: _) _ _)); refine stop_here ?_))
      refine ⟨?_⟩
      refine wpList_store_mid rfl _ _ _ rfl w.heap.size (2 + j * 13) (a.arr v3) rfl rfl (Kb.there hz3 (by rw [Av.arr_size]; omega)) info13 (Av.arr_one hv31) ?_
      rw [Kb.store]
      have hnext := Kb.mid_next b1 vv j v3
      rw [EA.out, HA.out] at hnext
      rw [hnext]
      clear hnext
      go_wp2_with fail
      go_roundw
      case rel =>
        refine ⟨j + 1, fun k => if k = j then v3 else vv k, by omega, by go_num, boxed_below HW3.out (Nat.le_refl _), boxed_at hz3, boxed_old (by omega) hZ3, fun k hk => ?_, ?_⟩
        · by_cases e : k = j
          · subst e
            dsimp only
            rw [if_pos rfl, HA.out]
            exact (HC3.out.boxed (.inl (by omega))).more (Nat.le_refl _) (by simp)
          · dsimp only
            rw [if_neg e]
            refine ((HC.out k (by omega)).kept fun i h1 h2 => ?_).more (Nat.le_refl _) (by simp; omega)
            rw [boxed_block_other (by omega)]
            exact HOLD.out i h2
        · refine own_kept HO.out fun i hi => ?_
          have := HO.out.lt i hi
          rw [boxed_block_other (by omega)]
          exact HOLD.out i this.2
      case measure => simp [intOf]; omega
    case neg =>
      obtain rfl : j = 32 := by omega
      have dlt : decide (((32 : Nat) : Int) < 32) = false := by decide
      have hone : (b1.mid vv 32).One := Kb.one_of (w := wr) (b0 := w.heap.size + 1 + 1) (c0 := wr.heap.size) (by show b1.vp.oneCell' = true; rw [EP.out]; exact HO.out.pys.one) (fun k hk => by
        show Cys wr _ _ (if k < 32 then vv k else b1.v k) (b1.a k).l
        rw [if_pos hk, EA.out]
        exact HC.out k hk)
      have HONE := Lib.hid hone
      clear hlt hj hone
      go_wp2_with (((with_reducible_and_instances (show wpList _ _ _ (Oper.mk _ (Op.load 35 _) _ _ _ _ :: _) _ _)); refine stop_here ?_))
      refine ⟨?_⟩
      refine wl_load (cs := (b1.mid vv 32).arr) (fr := (0, 0)) (g := w.heap.size) Tryz.underlying35 rfl Kb.info rfl rfl rfl hb (Kb.arr_size _) ?_
      go_wp2_with (((with_reducible_and_instances (show wpList _ _ _ (Oper.mk _ (Op.store 35 _ _) _ _ _ _ :: _) _ _)); refine stop_here ?_))
      refine ⟨?_⟩
      refine wl_store (g := w.heap.size + 1) Kb.info rfl rfl rfl rfl hzz Kb.zero_size (Kb.arr_size _) HONE.out.arr ?_
      go_wp2_with fail
      refine bodyPost_ret (results_cell_row rfl _ _ (w.heap.size + 1) 35 _ (0, 0) _ rfl (boxed_at hz) Tryz.underlying35 rfl (by rw [Kb.arr_size]; exact Kb.info)) rfl ?_
      refine ⟨vp, (b1.mid vv 32).v, ?_, HO.out.boxed (by omega), fun k hk => ?_, boxed_below HW.out (by omega)⟩
      · have e : b1.mid vv 32 = ({ b with vp := vp, v := (b1.mid vv 32).v } : Kb) := by
          show Kb.mk b1.td b1.vp b1.a (b1.mid vv 32).v = Kb.mk b.td vp b.a (b1.mid vv 32).v
          rw [ET.out, EP.out, EA.out]
        rw [← e]
      · show Cys _ _ _ (if k < 32 then vv k else b1.v k) (b.a k).l
        rw [if_pos hk]
        exact ((HC.out k hk).boxed (.inl (by omega))).more (Nat.le_refl _) (by simp)
end Go.Proofs.YtblikgbcakgdnaaGreat
