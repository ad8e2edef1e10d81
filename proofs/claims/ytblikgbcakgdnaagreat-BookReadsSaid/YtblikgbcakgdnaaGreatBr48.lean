/-
  book.Decode of any bytes: the book that they tell, or none. No conditions but the sizes.
-/
import Derived.Test.YtblikgbcakgdnaaGreatBr13
import Derived.Test.YtblikgbcakgdnaaGreatBr23
import Derived.Test.YtblikgbcakgdnaaGreatBr33
import Derived.Test.YtblikgbcakgdnaaGreatBr45
import Derived.Test.YtblikgbcakgdnaaGreatBr47
set_option linter.unusedSimpArgs false
set_option linter.unusedVariables false
namespace Go.Proofs.YtblikgbcakgdnaaGreat
set_option linter.unusedVariables false
set_option linter.unusedSimpArgs false
set_option maxRecDepth 100000
open Go.ChangeShapes Go.WideShapes Go.ChangeAt Go.RowKit

theorem Kbd.Plans.snoc : ∀ {k : Nat} {l : List Int} {f : Int} {ps : List Pv} {l1 : List Int} {f1 : Int} {p : Pv} {l2 : List Int} {f2 : Int}, Kbd.Plans k l f ps l1 f1 → Pv.Got l1 f1 p l2 f2 → Kbd.Plans (k + 1) l f (ps ++ [p]) l2 f2
  | 0, _, _, _, _, _, p, l2, f2, h, hp => by
    obtain ⟨rfl, rfl, rfl⟩ := h
    exact ⟨p, l2, f2, [], hp, ⟨rfl, rfl, rfl⟩, rfl⟩
  | k + 1, _, _, _, _, _, p, l2, f2, h, hp => by
    obtain ⟨q, l3, f3, r, h1, h2, rfl⟩ := h
    exact ⟨q, l3, f3, r ++ [p], h1, h2.snoc hp, rfl⟩
theorem wp_append_pys {T E : TypeId} (ty : PyTy T E) {w : World} {o : Oper} {a : Act} {K : Act → World → Prop} {Q : Exit → Act → World → Prop} (s x : Operand)
    (ho : o.op = .call { callee := .builtin .append, args := #[s, x], argTypes := #[T, T] }) {base b B : Nat} {v0 v : Value} {l0 l : List Pv} (hsv : a.eval s = v0) (hx : a.eval x = v)
    (how : w.ownsRow base E 6 v0 l0.length (qcs l0)) (h : Pys w b B v l) (hs : l0.length + l.length ≤ 100000000) (hb : base ≤ w.heap.size)
    (hk : ∀ v' w', w'.ownsRow base E 6 v' (l0 ++ l).length (qcs (l0 ++ l)) → w.grownBy w' v0.ownBlock → (v'.ownBlock = v0.ownBlock ∨ v'.ownBlock = some w.heap.size) → K (a.put o.dst v') w') : o.wp Tryz.prog a w K Q := by
  obtain ⟨v', w', hrun, h1, h2, h3⟩ := run_append_pys ty (q := o.type) how h hs hb
  unfold Oper.wp execOp
  simp only [ho, resolve, invoke, builtin, Sem.run_bind, Sem.run_pure, Result.andThen_ok, List.map_toArray, List.map_cons, List.map_nil, hsv, hx, hrun]
  exact hk v' w' h1 h2 h3
theorem pys_one (w : World) (p : Pv) (t : TypeId) : Pys (w.alloc (.cells p.arr t)) w.heap.size (w.heap.size + 1) (.slice (some ⟨w.heap.size, 0, none⟩) 1 1) [p] := by
  refine ⟨some ⟨w.heap.size, 0, none⟩, 1, rfl, Nat.le_refl _, by unfold maxLen; omega, fun _ => ⟨w.heap.size, 0, rfl, ⟨Nat.le_refl _, by omega⟩, fun j u hu => ?_⟩, fun e => by cases e⟩
  rw [cell_of_row _ _ _ _ _ _ alloc_block, Nat.zero_add, ← Array.getElem?_toList]
  rw [qcs_one] at hu
  exact hu
theorem Kb.midA_congr (b : Kb) {A A' : Nat → Av} (vv : Nat → Value) {j : Nat} (h : ∀ k, k < j → A' k = A k) : b.midA A vv j = b.midA A' vv j := by
  unfold Kb.midA
  congr 1
  funext k
  by_cases e : k < j
  · rw [if_pos e, if_pos e, h k e]
  · rw [if_neg e, if_neg e]
theorem below_own {w a b : World} {r : Option Nat} (h : Below w.heap.size w a) (hg : a.grownBy b r) (hr : ∀ i, r = some i → w.heap.size ≤ i) : Below w.heap.size w b :=
  ⟨hg.os.trans h.os, hg.tape.trans h.tape, hg.output.trans h.output, Nat.le_trans h.size hg.size, fun i hi => by
    have h1 := h.size
    rw [hg.block i (by omega) (fun e => by have := hr i e.symm; omega)]
    exact h.block i hi⟩
/-- A book without subscriptions: its day, its list of plans. -/
def Kb.nw (td : Int) (vp : Value) : Kb := ⟨td, vp, fun _ => Av.zero, fun _ => .slice none 0 0⟩
/-- What Decode tells. -/
def DecPost (w : World) (l : List Int) (e : Ending) (w' : World) : Prop := ∃ (td : Int) (ps : List Pv) (a : Nat → Av) (l' : List Int) (f' : Int), Kbd.Book l td ps a l' f' ∧ ((f' = 0 ∧ l' = [] ∧ ∃ b : Kb, e = .returned (.tuple #[.agg b.arr, .int .i64 0]) ∧ b.td = td ∧ (∀ k, k < 32 → b.a k = a k) ∧ KbM w' w.heap.size w'.heap.size b ps) ∨ (¬ (f' = 0 ∧ l' = []) ∧ e = .returned (.tuple #[.agg Kb.zero.arr, .int .i64 4]))) ∧ Below w.heap.size w w'
set_option maxHeartbeats 8000000 in
theorem decode_any {w : World} {A : Option Addr} {c : Nat} {l : List Int} (hr : Rd w .u8 w.heap.size A l) (hl : l.length ≤ 90000000) (hb : ∀ x ∈ l, 0 ≤ x ∧ x < 256) : Calls Tryz.prog 18 #[.slice A l.length c] w (DecPost w l) := by
  have HR := Lib.hid hr
  have HBB := Lib.hid hb
  clear hr hb
  go_enter Tryz.func18, Tryz.ntmps18
  go_wp2_with fail
  obtain ⟨x0, hx0⟩ : ∃ x0, w.alloc (.cells Tryz.zeroCells35 35) = x0 := ⟨_, rfl⟩
  have hb0 : Below w.heap.size w x0 := by rw [← hx0]; exact (Below.refl _ w).alloc (Nat.le_refl _) _
  have hR0 : x0.heap[w.heap.size]? = some (.cells Tryz.zeroCells35 35 (0, 0)) := by rw [← hx0]; exact alloc_at rfl
  have hz0 : x0.heap.size = w.heap.size + 1 := by rw [← hx0]; simp
  rw [hx0]
  have HB0 := Lib.hid hb0
  have HR0 := Lib.hid hR0
  have hz0a := Nat.le_of_eq hz0
  have hz0b := Nat.le_of_eq hz0.symm
  clear hx0 hb0 hR0 hz0
  refine (of_any A w.heap.size c l x0 (HR.out.below HB0.out) (by omega) hl HBB.out).mono ?_
  rintro e x1 ⟨g, rfl, hg1, hb1, hgw⟩
  have HG1 := Lib.hid hg1
  have HW1 : Hid (Below w.heap.size w x1) := Lib.hid (HB0.out.trans (hb1.mono (by omega)))
  have HR1 : Hid (x1.heap[w.heap.size]? = some (.cells Tryz.zeroCells35 35 (0, 0))) := Lib.hid (below_block hb1 HR0.out)
  have hz1 : x0.heap.size ≤ x1.heap.size := hb1.size
  have hwg : w.heap.size < g := by omega
  have hgx : g < x1.heap.size := hg1.lt
  clear hg1 hb1 HR0 HB0
  go_wp2_with fail
  refine (get_any _ _ _ _ _ _ HG1.out).mono ?_
  rintro e x2 ⟨td, l1, f1, rfl, hs1, hg2, hk2⟩
  have HS1 := Lib.hid hs1
  have HW2 : Hid (Below w.heap.size w x2) := Lib.hid (HW1.out.trans (grown_below hg2 (by omega) (by omega)))
  have HR2 : Hid (x2.heap[w.heap.size]? = some (.cells Tryz.zeroCells35 35 (0, 0))) := Lib.hid ((hg2.block _ (by omega) (by intro e; injection e; omega)).trans HR1.out)
  have HG2 := Lib.hid hk2
  have hz2 : x1.heap.size ≤ x2.heap.size := hg2.size
  clear hs1 hg2 hk2 HW1 HR1 HG1
  go_wp2_with (((with_reducible_and_instances (show wpList _ _ _ (Oper.mk _ (Op.build 35 _) _ _ _ _ :: _) _ _)); refine stop_here ?_))
  refine ⟨?_⟩
  refine wpList_buildTo rfl 35 _ rfl _ rfl _ (Eq.trans (congrArg (Program.built _ _) (by simp [Act.eval])) (Kb.new_built td)) ?_
  go_wp2_with (((with_reducible_and_instances (show wpList _ _ _ (Oper.mk _ (Op.store 35 _ _) _ _ _ _ :: _) _ _)); refine stop_here ?_))
  refine ⟨?_⟩
  refine wl_store (g := x2.heap.size) Kb.info rfl rfl rfl rfl (alloc_at rfl) Kb.zero_size (Kb.arr_size _) (Kb.new_one td).arr ?_
  obtain ⟨D, hD⟩ : ∃ D, x2.heap.size = D := ⟨_, rfl⟩
  obtain ⟨x3, hx3⟩ : ∃ x3, boxed (x2.alloc (.cells Tryz.zeroCells35 35)) x2.heap.size (Kb.new td).arr 35 = x3 := ⟨_, rfl⟩
  have hb3 : Below x2.heap.size x2 x3 := by rw [← hx3]; exact boxed_below ((Below.refl _ x2).alloc (Nat.le_refl _) _) (Nat.le_refl _)
  have hD3 : x3.heap[D]? = some (.cells (Kb.new td).arr 35 (0, 0)) := by rw [← hx3, ← hD]; exact boxed_at (by simp)
  have HW3 : Hid (Below w.heap.size w x3) := Lib.hid (HW2.out.trans (hb3.mono (by omega)))
  have HR3 : Hid (x3.heap[w.heap.size]? = some (.cells Tryz.zeroCells35 35 (0, 0))) := Lib.hid (below_block hb3 HR2.out)
  have HG3 : Hid (GB x3 g l1 f1) := Lib.hid (HG2.out.more hb3)
  have hzD : D < x3.heap.size := (Array.getElem?_eq_some_iff.1 hD3).1
  have hgD : g < D := by omega
  have hwD : w.heap.size < D := by omega
  have HD3 := Lib.hid hD3
  rw [hx3, hD]
  clear hx3 hb3 hD3 hD hz2 HW2 HR2 HG2 hgx hz1 hz0a hz0b
  go_wp2_with fail
  refine (get_any _ _ _ _ _ _ HG3.out).mono ?_
  rintro e x4 ⟨n, l2, f2, rfl, hs2, hg4, hk4⟩
  obtain ⟨r2, r2'⟩ := hs2.range (by omega) (by omega)
  obtain ⟨N, rfl⟩ := Int.eq_ofNat_of_zero_le (a := n) r2
  have HS2 := Lib.hid hs2
  have HW4 : Hid (Below w.heap.size w x4) := Lib.hid (HW3.out.trans (grown_below hg4 (by omega) (by omega)))
  have HR4 : Hid (x4.heap[w.heap.size]? = some (.cells Tryz.zeroCells35 35 (0, 0))) := Lib.hid ((hg4.block _ (by omega) (by intro e; injection e; omega)).trans HR3.out)
  have HD4 : Hid (x4.heap[D]? = some (.cells (Kb.new td).arr 35 (0, 0))) := Lib.hid ((hg4.block _ (by omega) (by intro e; injection e; omega)).trans HD3.out)
  have HG4 := Lib.hid hk4
  have hz4 : D < x4.heap.size := (Array.getElem?_eq_some_iff.1 HD4.out).1
  clear hs2 hg4 hk4 HW3 HR3 HD3 HG3 hzD r2
  go_wp2_with fail
  go_loopw [14] (fun ii wq => ∃ (j : Nat) (ps : List Pv) (vp : Value) (lq : List Int) (fq : Int), j ≤ N ∧ ii = .int .i64 j ∧ Hid (ps.length = j) ∧ Hid (Below w.heap.size w wq) ∧ Hid (wq.heap[w.heap.size]? = some (.cells Tryz.zeroCells35 35 (0, 0))) ∧ Hid (wq.heap[D]? = some (.cells (Kb.nw td vp).arr 35 (0, 0))) ∧ Hid (Lst wq (D + 1) vp ps) ∧ Hid (GB wq g lq fq) ∧ Hid (Kbd.Plans j l2 f2 ps lq fq)) (fun ii _ => N - (intOf ii).toNat)
  case atStart => exact ⟨0, [], .slice none 0 0, l2, f2, by omega, rfl, rfl, HW4, HR4, HD4, World.ownsRow_nil _ _ _ _, HG4, ⟨rfl, rfl, rfl⟩⟩
  case round =>
    obtain ⟨j, ps, vp, lq, fq, hj, rfl, HJ, HW, HRR, HD, HL, HG, HP⟩ := hrel
    have hzr : D < wr.heap.size := (Array.getElem?_eq_some_iff.1 HD.out).1
    by_cases hlt : j < N
    case pos =>
      have dlt : decide ((j : Int) < (N : Int)) = true := by simp; omega
      go_upto_region 5 with fail
      obtain ⟨V0, hV0⟩ : ∃ V0, wr.drew = V0 := ⟨_, rfl⟩
      have HB0 : Hid (Below wr.heap.size wr V0) := Lib.hid (by rw [← hV0]; exact (Below.refl _ wr).drew)
      have hzv : wr.heap.size ≤ V0.heap.size := HB0.out.size
      have hS0 : V0.heap[D]? = some (.cells (Kb.nw td vp).arr 35 (0, 0)) := below_block HB0.out HD.out
      have HS0 : Hid ((fun w' : World => w'.heap[D]? = some (.cells (Kb.nw td vp).arr 35 (0, 0))) V0) := hS0
      refine laneT_start (ord := [0, 1, 2, 3, 4, 5, 6, 7]) (t := 7) (S := (fun w' : World => w'.heap[D]? = some (.cells (Kb.nw td vp).arr 35 (0, 0)))) rfl (by kernel_rfl) ?_
      rw [hV0]
      clear hV0
      iterate 3 (refine laneT_take1 (v := ?_) rfl (by kernel_rfl) (by kernel_rfl) (by rfl) ?_ (by exact HS0.out) ?_; rotate_left; (focus (intro W hSw; have hc1 : W.cell? ⟨D, 1, none⟩ = some vp := (cell_of_row _ _ _ _ _ _ hSw).trans (Kb.at1 _); go_simp; try (with_reducible rfl))); (try simp only [Act.put, List.setIfInBounds_toArray, List.set_cons_zero, List.set_cons_succ]))
      refine laneT_alone rfl (by kernel_rfl) (by rfl) (fun KK hKK => ?_)
      go_simp
      refine (plgetA_any _ g lq fq (HG.out.more HB0.out)).mono ?_
      rintro e V1 ⟨p, l5, f5, rfl, hp5, hg5, hk5⟩
      have HP5 : Hid (Kbd.Plans (j + 1) l2 f2 (ps ++ [p]) l5 f5) := Lib.hid (HP.out.snoc hp5)
      have hS1 : V1.heap[D]? = some (.cells (Kb.nw td vp).arr 35 (0, 0)) := (hg5.block _ (by omega) (by intro e; injection e; omega)).trans hS0
      have HS1 : Hid ((fun w' : World => w'.heap[D]? = some (.cells (Kb.nw td vp).arr 35 (0, 0))) V1) := hS1
      have HW5 : Hid (Below w.heap.size w V1) := Lib.hid ((HW.out.trans (HB0.out.mono HW.out.size)).trans (grown_below hg5 (by omega) (by have := HW.out.size; omega)))
      have HR5 : Hid (V1.heap[w.heap.size]? = some (.cells Tryz.zeroCells35 35 (0, 0))) := Lib.hid ((hg5.block _ (by omega) (by intro e; injection e; omega)).trans (below_block HB0.out HRR.out))
      have HG5 := Lib.hid hk5
      have HL5 : Hid (Lst V1 (D + 1) vp ps) := Lib.hid (own_grown (HL.out.below HB0.out) hg5 (by omega))
      have hz5 : D < V1.heap.size := (Array.getElem?_eq_some_iff.1 hS1).1
      obtain ⟨pa, pu, pe, pt, pg, pl⟩ := p
      refine hKK _ _ (fun _ => HS1.out) ?_
      clear hKK KK hp5 hg5 hk5
      (try simp only [Act.put, List.setIfInBounds_toArray, List.set_cons_zero, List.set_cons_succ])
      refine laneT_alone rfl (by kernel_rfl) (by rfl) (fun KK hKK => ?_)
      dsimp only [Pv.val]
      go_simp
      obtain ⟨V2, hV2⟩ : ∃ V2, V1.alloc (.cells #[.int .i64 pa, .int .u8 pu, .int .i64 pe, .int .i64 pt, .bool pg, .bool pl] 44) = V2 := ⟨_, rfl⟩
      have hb6 : Below V1.heap.size V1 V2 := by rw [← hV2]; exact (Below.refl _ V1).alloc (Nat.le_refl _) _
      have HPY : Hid (Pys V2 V1.heap.size (V1.heap.size + 1) (.slice (some ⟨V1.heap.size, 0, none⟩) 1 1) [⟨pa, pu, pe, pt, pg, pl⟩]) := Lib.hid (by rw [← hV2]; exact pys_one V1 ⟨pa, pu, pe, pt, pg, pl⟩ 44)
      rw [hV2]
      clear hV2
      have HS6 : Hid ((fun w' : World => w'.heap[D]? = some (.cells (Kb.nw td vp).arr 35 (0, 0))) V2) := Lib.hid (below_block hb6 hS1)
      have HL6 : Hid (Lst V2 (D + 1) vp ps) := Lib.hid (HL5.out.below hb6)
      have hat : ∀ i, vp.ownBlock = some i → D + 1 ≤ i ∧ i < V2.heap.size := fun i hi => HL6.out.lt i hi
      have HAT := Lib.hid hat
      have hz6 : V1.heap.size ≤ V2.heap.size := hb6.size
      have HB6 := Lib.hid hb6
      refine hKK _ _ (fun _ => HS6.out) ?_
      clear hKK KK hat hb6
      (try simp only [Act.put, List.setIfInBounds_toArray, List.set_cons_zero, List.set_cons_succ])
      refine laneT_alone rfl (by kernel_rfl) (by rfl) (fun KK hKK => ?_)
      refine wp_append_pys pyty _ _ rfl (l0 := ps) (l := [⟨pa, pu, pe, pt, pg, pl⟩]) (base := D + 1) rfl rfl HL6.out HPY.out (by rw [List.length_singleton, HJ.out]; omega) (by omega) ?_
      intro v7 V7 ho7 hg7 hat7
      obtain ⟨A7, c7, hv7, hc7, hm7⟩ := own_form ho7
      obtain ⟨n7, hn7⟩ : ∃ n7, (ps ++ [(⟨pa, pu, pe, pt, pg, pl⟩ : Pv)]).length = n7 := ⟨_, rfl⟩
      have hn7j : n7 = j + 1 := by rw [← hn7, List.length_append, List.length_singleton, HJ.out]
      rw [hn7] at hv7 ho7 hc7
      subst hv7
      have HN7 := Lib.hid hn7
      have HN7J := Lib.hid hn7j
      clear hn7 hn7j
      have hs7 : V2.heap.size ≤ V7.heap.size := hg7.size
      have hS7 : V7.heap[D]? = some (.cells (Kb.nw td vp).arr 35 (0, 0)) := (hg7.block D (by omega) (fun e => by have := (HAT.out _ e.symm).1; omega)).trans HS6.out
      have HS7 : Hid ((fun w' : World => w'.heap[D]? = some (.cells (Kb.nw td vp).arr 35 (0, 0))) V7) := hS7
      have HW7 : Hid (Below w.heap.size w V7) := Lib.hid (below_own (HW5.out.trans (HB6.out.mono HW5.out.size)) hg7 fun i hi => by have := (HAT.out _ hi).1; omega)
      have HR7 : Hid (V7.heap[w.heap.size]? = some (.cells Tryz.zeroCells35 35 (0, 0))) := Lib.hid ((hg7.block _ (by omega) (fun e => by have := (HAT.out _ e.symm).1; omega)).trans (below_block HB6.out HR5.out))
      have HG7 : Hid (GB V7 g l5 f5) := Lib.hid ((HG5.out.more HB6.out).kept fun i hi => hg7.block i (by omega) (fun e => by have := (HAT.out _ e.symm).1; omega))
      have HL7 : Hid (Lst V7 (D + 1) (.slice A7 n7 c7) (ps ++ [⟨pa, pu, pe, pt, pg, pl⟩])) := Lib.hid (by unfold Lst; rw [HN7.out]; exact ho7)
      have hz7 : D < V7.heap.size := by omega
      refine hKK _ _ (fun _ => HS7.out) ?_
      clear hKK KK ho7 hg7 hat7 HB6 HW5 HR5 HG5 HL5 HL6
      (try simp only [Act.put, List.setIfInBounds_toArray, List.set_cons_zero, List.set_cons_succ])
      refine laneT_take1 (v := ?_) rfl (by kernel_rfl) (by kernel_rfl) (by rfl) ?_ (by exact HS7.out) ?_; rotate_left; (focus (intro W hSw; have hc1 : W.cell? ⟨D, 1, none⟩ = some vp := (cell_of_row _ _ _ _ _ _ hSw).trans (Kb.at1 _); go_simp; try (with_reducible rfl))); (try simp only [Act.put, List.setIfInBounds_toArray, List.set_cons_zero, List.set_cons_succ])
      refine laneT_alone rfl (by kernel_rfl) (by rfl) (fun KK hKK => ?_)
      have e9 := boxed_self hS7
      rw [e9]
      clear e9
      go_simp
      have hK8 : ({ td := (Kb.nw td vp).td, vp := .slice A7 n7 c7, a := (Kb.nw td vp).a, v := (Kb.nw td vp).v } : Kb) = Kb.nw td (.slice A7 n7 c7) := rfl
      rw [hK8]
      clear hK8
      refine hKK _ _ (fun h => absurd rfl h) ?_
      clear hKK KK
      (try simp only [Act.put, List.setIfInBounds_toArray, List.set_cons_zero, List.set_cons_succ])
      refine laneT_end (by kernel_rfl) ?_
      go_wp2_with fail
      go_roundw
      case rel => exact ⟨j + 1, ps ++ [⟨pa, pu, pe, pt, pg, pl⟩], .slice A7 n7 c7, l5, f5, by omega, by go_num, Lib.hid (by rw [HN7.out, HN7J.out]), boxed_below HW7.out (by omega), boxed_old (by omega) HR7.out, boxed_at hz7, Lib.hid (HL7.out.boxed (n := D) (Nat.lt_succ_self D)), Lib.hid (HG7.out.box hgD), HP5⟩
      case measure => simp [intOf]; omega
    case neg =>
      obtain rfl : j = N := by omega
      have dlt : decide ((j : Int) < (j : Int)) = false := by simp
      obtain ⟨np, hnp⟩ : ∃ np, ps.length = np := ⟨_, rfl⟩
      have hnp8 : np ≤ 8 := by have := HJ.out; omega
      obtain ⟨PA, pc, hvp, hpc⟩ := own_form HL.out
      rw [hnp] at hvp
      have HVP := Lib.hid hvp
      have HNP := Lib.hid hnp
      obtain ⟨K0, hK0⟩ : ∃ K0, (Kb.nw td vp) = K0 := ⟨_, rfl⟩
      have hk01 : K0.vp = .slice PA np pc := by rw [← hK0]; exact hvp
      have hk02 : K0.td = td := by rw [← hK0]; rfl
      have HK1 := Lib.hid hk01
      have HK2 := Lib.hid hk02
      rw [hK0] at HD
      rw [hvp] at HL
      clear hvp hnp hk01 hk02 hK0 hlt HVP
      go_wp2_with fail
      go_loopw [24] (fun ii wq => ∃ (i : Nat) (a : Nat → Av) (vv : Nat → Value) (l8 : List Int) (f8 : Int), i ≤ 32 ∧ ii = .int .i64 i ∧ Hid (Below w.heap.size w wq) ∧ Hid (wq.heap[w.heap.size]? = some (.cells Tryz.zeroCells35 35 (0, 0))) ∧ Hid (wq.heap[D]? = some (.cells (K0.midA a vv i).arr 35 (0, 0))) ∧ Hid (Lst wq (D + 1) (.slice PA np pc) ps) ∧ Hid (GB wq g l8 f8) ∧ Hid (∀ k, k < i → Cys wq (D + 1) wq.heap.size (vv k) (a k).l) ∧ Hid (Kbd.Accs (np : Int) a i lq fq l8 f8)) (fun ii _ => 32 - (intOf ii).toNat)
      case atStart => exact ⟨0, fun _ => Av.zero, fun _ => .slice none 0 0, lq, fq, by omega, rfl, HW, HRR, by rw [Kb.midA_zero]; exact HD, HL, HG, fun k hk => absurd hk (Nat.not_lt_zero k), ⟨rfl, rfl⟩⟩
      case round =>
        clear HW HRR HD HL HG
        obtain ⟨i, a, vv, l8, f8, hi, rfl, HW, HRR, HD, HL, HG, HC, HA⟩ := hrel
        have hzr2 : D < wr.heap.size := (Array.getElem?_eq_some_iff.1 HD.out).1
        have hvp1 : (K0.midA a vv i).vp = .slice PA np pc := HK1.out
        by_cases hlt : i < 32
        case pos =>
          have dlt : decide ((i : Int) < 32) = true := by simp; omega
          have hiI : (i : Int) < 32 := by omega
          have hiJ : (0 : Int) ≤ (i : Int) := by omega
          have hc1 : wr.cell? ⟨D, 1, none⟩ = some (.slice PA np pc) := (cell_of_row _ _ _ _ _ _ HD.out).trans ((Kb.at1 _).trans (by rw [hvp1]))
          clear hvp1
          go_wp2_with fail
          refine (getaccount_any _ g l8 f8 (np : Int) HG.out (by omega)).mono ?_
          rintro e V1 ⟨a9, v9, l9, f9, rfl, ha9, hcy9, hg9, hk9⟩
          have hs9 : wr.heap.size ≤ V1.heap.size := hg9.size
          have HA9 := Lib.hid ha9
          have HC9 := Lib.hid hcy9
          have hD9 : V1.heap[D]? = some (.cells (K0.midA a vv i).arr 35 (0, 0)) := (hg9.block _ hzr2 (by intro e; injection e; omega)).trans HD.out
          have HW9 : Hid (Below w.heap.size w V1) := Lib.hid (HW.out.trans (grown_below hg9 (by omega) (by have := HW.out.size; omega)))
          have HR9 : Hid (V1.heap[w.heap.size]? = some (.cells Tryz.zeroCells35 35 (0, 0))) := Lib.hid ((hg9.block _ (by omega) (by intro e; injection e; omega)).trans HRR.out)
          have HL9 : Hid (Lst V1 (D + 1) (.slice PA np pc) ps) := Lib.hid (own_grown HL.out hg9 (by omega))
          have HG9 := Lib.hid hk9
          have HCO : Hid (∀ k, k < i → Cys V1 (D + 1) V1.heap.size (vv k) (a k).l) := Lib.hid fun k hk => ((HC.out k hk).kept fun q h1 h2 => hg9.block q h2 (by intro e; injection e; omega)).more (Nat.le_refl _) hs9
          have hv91 : v9.oneCell' = true := by obtain ⟨A9, c9, he, _⟩ := hcy9; rw [he]; rfl
          have hz9 : D < V1.heap.size := by omega
          have e9 := boxed_self hD9
          rw [e9]
          clear e9 ha9 hcy9 hg9 hk9
          obtain ⟨a2, ha2⟩ : ∃ a2 : Nat → Av, a2 = fun k => if k = i then a9 else a k := ⟨_, rfl⟩
          have ha2i : a2 i = a9 := by rw [ha2]; exact if_pos rfl
          have ha2k : ∀ k, k ≠ i → a2 k = a k := fun k hk => by rw [ha2]; exact if_neg hk
          have HM : Hid (∀ v', (K0.midA a vv i).put i a9 v' = K0.midA a2 (fun k => if k = i then v' else vv k) (i + 1)) := Lib.hid fun v' => by
            rw [K0.midA_congr vv (A' := a2) (fun k hk => ha2k k (by omega)), ← ha2i, Kb.midA_next]
          have HAI := Lib.hid ha2i
          have HAK := Lib.hid ha2k
          clear ha2 ha2i ha2k hc1
          go_wp2_with (((with_reducible_and_instances (show wpList _ _ _ (Oper.mk _ (Op.store 32 _ _) _ _ _ _ :: _) _ _)); refine stop_here ?_))
          refine ⟨?_⟩
          refine wpList_store_mid rfl _ _ _ rfl D (2 + i * 13) (a9.arr v9) rfl rfl (Kb.there (o := 2 + i * 13) (n := 13) hz9 (by omega)) info13 (Av.arr_one hv91) ?_
          rw [Kb.store, HM.out v9]
          go_wp2_with fail
          go_roundw
          case rel =>
            refine ⟨i + 1, a2, fun k => if k = i then v9 else vv k, l9, f9, by omega, by go_num, boxed_below HW9.out (by omega), boxed_old (by omega) HR9.out, boxed_at hz9, Lib.hid (HL9.out.boxed (n := D) (Nat.lt_succ_self D)), Lib.hid (HG9.out.box hgD), Lib.hid (fun k hk => ?_), ⟨l8, f8, HA.out.congr fun q hq => HAK.out q (by omega), by rw [HAI.out]; exact HA9.out⟩⟩
            show Cys _ _ _ (if k = i then v9 else vv k) _
            by_cases ek : k = i
            · subst ek
              rw [if_pos rfl, HAI.out]
              exact ((HC9.out.kept fun q h1 h2 => boxed_block_other (by omega)).more (by omega) (by rw [boxed_size]; exact Nat.le_refl _))
            · rw [if_neg ek, HAK.out k ek]
              exact ((HCO.out k (by omega)).kept fun q h1 h2 => boxed_block_other (by omega)).more (Nat.le_refl _) (by rw [boxed_size]; exact Nat.le_refl _)
          case measure => simp [intOf]; omega
        case neg =>
          obtain rfl : i = 32 := by omega
          have dlt : decide (((32 : Nat) : Int) < 32) = false := by decide
          have HBK : Hid (Kbd.Book l td ps a l8 f8) := Lib.hid ⟨l1, f1, (j : Int), l2, f2, lq, fq, HS1.out, HS2.out, by rw [Int.toNat_natCast]; exact HP.out, by rw [HNP.out]; exact HA.out⟩
          clear hvp1 hlt
          go_wp2_with fail
          refine (end_any _ g l8 f8 HG.out).mono ?_
          rintro e w9 ⟨⟨x, rfl, hx⟩, rfl⟩
          rcases hx with ⟨rfl, rfl, rfl⟩ | ⟨hx0, hx1⟩
          · have dn : ((0 : Int) != 0) = false := by decide
            go_wp2_with (((with_reducible_and_instances (show wpList _ _ _ (Oper.mk _ (Op.load 35 _) _ _ _ _ :: _) _ _)); refine stop_here ?_))
            refine ⟨?_⟩
            refine wl_load (cs := (K0.midA a vv 32).arr) (fr := (0, 0)) (g := D) Tryz.underlying35 rfl Kb.info rfl rfl rfl HD.out (Kb.arr_size _) ?_
            have hone : (K0.midA a vv 32).One := Kb.one_of (b0 := D + 1) (c0 := wr.heap.size) (by show K0.vp.oneCell' = true; rw [HK1.out]; rfl) (fun k hk => by
              have := HC.out k hk
              show Cys _ _ _ (if k < 32 then vv k else _) (if k < 32 then a k else _).l
              rw [if_pos hk, if_pos hk]; exact this)
            go_wp2_with (((with_reducible_and_instances (show wpList _ _ _ (Oper.mk _ (Op.store 35 _ _) _ _ _ _ :: _) _ _)); refine stop_here ?_))
            refine ⟨?_⟩
            refine wl_store (g := w.heap.size) Kb.info rfl rfl rfl rfl HRR.out Kb.zero_size (Kb.arr_size _) hone.arr ?_
            go_wp2_with fail
            refine bodyPost_ret (results_row_tmp rfl _ _ (w.heap.size) 35 _ (0, 0) _ rfl (boxed_at (by omega)) Tryz.underlying35 rfl (by rw [Kb.arr_size]; exact Kb.info)) rfl ?_
            refine ⟨td, ps, a, [], 0, HBK.out, .inl ⟨rfl, rfl, K0.midA a vv 32, rfl, HK2.out, fun k hk => if_pos hk, hone, ?_, fun k hk => ?_⟩, boxed_below HW.out (Nat.le_refl _)⟩
            · show Pys _ _ _ K0.vp ps
              rw [HK1.out]
              exact ((HL.out.pys.kept fun q h1 h2 => boxed_block_other (by omega)).more (by omega) (by rw [boxed_size]; exact Nat.le_refl _))
            · show Cys _ _ _ (if k < 32 then vv k else _) (if k < 32 then a k else _).l
              rw [if_pos hk, if_pos hk]
              exact ((HC.out k hk).kept fun q h1 h2 => boxed_block_other (by omega)).more (by omega) (by rw [boxed_size]; exact Nat.le_refl _)
          · have dn : (x != 0) = true := by rw [bne_iff_ne]; exact hx0
            have HX1 := Lib.hid hx1
            clear hx0 hx1
            go_wp2_with (((with_reducible_and_instances (show wpList _ _ _ (Oper.mk _ (Op.build 35 _) _ _ _ _ :: _) _ _)); refine stop_here ?_))
            refine ⟨?_⟩
            refine wpList_buildTo rfl 35 _ rfl _ rfl _ (Eq.trans (congrArg (Program.built _ _) (by simp)) Kb.zero_built) ?_
            go_wp2_with (((with_reducible_and_instances (show wpList _ _ _ (Oper.mk _ (Op.store 35 _ _) _ _ _ _ :: _) _ _)); refine stop_here ?_))
            refine ⟨?_⟩
            refine wl_store (g := w.heap.size) Kb.info rfl rfl rfl rfl HRR.out Kb.zero_size (Kb.arr_size _) Kb.zero_one.arr ?_
            go_wp2_with fail
            refine bodyPost_ret (results_row_tmp rfl _ _ (w.heap.size) 35 _ (0, 0) _ rfl (boxed_at (by omega)) Tryz.underlying35 rfl (by rw [Kb.arr_size]; exact Kb.info)) rfl ?_
            exact ⟨td, ps, a, l8, f8, HBK.out, .inr ⟨fun ⟨h1, h2⟩ => HX1.out.elim (fun h => h h1) (fun h => h h2), rfl⟩, boxed_below HW.out (Nat.le_refl _)⟩
end Go.Proofs.YtblikgbcakgdnaaGreat
/-
  A book's bytes are read back as the book; two books side by side. No conditions but the sizes.
-/
namespace Go.Proofs.YtblikgbcakgdnaaGreat
set_option linter.unusedVariables false
set_option linter.unusedSimpArgs false
set_option maxRecDepth 100000
open Go.ChangeShapes Go.WideShapes Go.ChangeAt Go.RowKit

theorem Kbe.book_sm {td : Int} {ps : List Pv} {a : Nat → Av} (h : Kbe.BSm td ps a) : ∀ n ∈ Kbe.book td ps a, Kbe.Sm n := by
  intro n hn
  unfold Kbe.book at hn
  rcases List.mem_append.1 hn with hn | hn
  · rcases List.mem_append.1 hn with hn | hn
    · simp only [List.mem_cons, List.not_mem_nil, or_false] at hn
      rcases hn with rfl | rfl
      · exact h.day
      · have := h.pl
        unfold Kbe.Sm; omega
    · obtain ⟨p, hp, hq⟩ := List.mem_flatMap.1 hn
      exact Kbe.pln_sm (h.pok p hp) n hq
  · exact Kbe.subs_sm h.sub 32 (Nat.le_refl _) n hn
/-- The bytes of a book of values. -/
def Bs.bytes (B : Bs) : List Int := Pk.encs (Kbe.book B.td B.ps (fun k => (B.s k).tell))
theorem Bs.bytes_len {j : Int} {B : Bs} (h : Goes j B) (hj : 0 ≤ j ∧ j ≤ 52) : B.bytes.length ≤ 660000 := by
  have g := h.ok.bsm h.low (by omega) (by omega)
  have g1 := Kbe.encs_le (Kbe.book_sm g)
  have g2 := h.ok.cnt h.low (by omega)
  unfold Bs.bytes
  omega
theorem Bs.bytes_range (B : Bs) : ∀ x ∈ B.bytes, 0 ≤ x ∧ x < 256 := fun x hx => by
  have := Pk.encs_range _ x hx
  omega
/-- What Encode tells of a book. -/
theorem encode_go {j : Int} {w : World} {b : Kb} {B : Bs} (hk : KbR w 0 w.heap.size b B) (h : Goes j B) (hj : 0 ≤ j ∧ j ≤ 52) : Calls Tryz.prog 17 #[.agg b.arr] w (Owned w B.bytes) := by
  obtain ⟨g1, g2⟩ := hk.bsm h.ok h.low (by omega) (by omega)
  have := encode_any hk.km g1
  rw [g2] at this
  exact this
theorem region_frame1v {P : Program} {cd : Code} {Q : Exit → Act → World → Prop} {a : Act} {w : World} (Facts : World → Prop) (fr : Value → Act)
    (h : cd.wp P (fun e a' w' => e = .normal ∧ ∃ v, a' = fr v ∧ Facts w') a w) (hk : ∀ v w', Facts w' → Q .normal (fr v) w') : cd.wp P Q a w :=
  wp_mono h (by rintro e a' w' ⟨rfl, v, rfl, hf⟩; exact hk _ _ hf)
/-- A book whose lists lie behind block D, and not in block E. -/
def KbP (D E : Nat) (w : World) (b : Kb) (B : Bs) : Prop := ∃ b0 c0, D + 1 ≤ b0 ∧ c0 ≤ w.heap.size ∧ (E < b0 ∨ c0 ≤ E) ∧ KbR w b0 c0 b B
theorem KbP.below {D E : Nat} {w w' : World} {b : Kb} {B : Bs} (h : KbP D E w b B) (hb : Below w.heap.size w w') : KbP D E w' b B := by
  obtain ⟨b0, c0, h1, h2, h3, h4⟩ := h
  exact ⟨b0, c0, h1, Nat.le_trans h2 hb.size, h3, h4.below (hb.mono h2)⟩
theorem KbR.p {D E : Nat} {w' : World} {n : Nat} {b : Kb} {B : Bs} (h : KbR w' n w'.heap.size b B) (hD : D < E) (hE : E < n) : KbP D E w' b B := ⟨n, w'.heap.size, by omega, Nat.le_refl _, .inl hE, h⟩
end Go.Proofs.YtblikgbcakgdnaaGreat
