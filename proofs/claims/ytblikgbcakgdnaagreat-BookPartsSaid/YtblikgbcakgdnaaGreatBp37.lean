/-
  What a book asks, and a new book: package book's Asks, New. No conditions but the sizes.
-/
import Derived.Test.YtblikgbcakgdnaaGreatBp28
import Derived.Test.YtblikgbcakgdnaaGreatBp36
set_option linter.unusedSimpArgs false
set_option linter.unusedVariables false
namespace Go.Proofs.YtblikgbcakgdnaaGreat
set_option linter.unusedVariables false
set_option linter.unusedSimpArgs false
set_option maxRecDepth 100000
open Go.ChangeShapes Go.WideShapes Go.ChangeAt Go.RowKit

/-- What the first subscriptions ask. -/
def asksK (a : Nat → Av) : Nat → List Nv
  | 0 => []
  | n + 1 => asksK a n ++ asksOf (n : Int) (a n).l
theorem asksK_len {a : Nat → Av} {m : Nat} (h : ∀ k, k < 32 → (a k).l.length ≤ m) : ∀ n, n ≤ 32 → (asksK a n).length ≤ n * m
  | 0, _ => Nat.zero_le _
  | n + 1, hn => by
    have h1 := asksK_len h n (by omega)
    have h2 := asksOf_len (n : Int) (a n).l
    have h3 := h n (by omega)
    rw [asksK, List.length_append, Nat.add_mul]
    omega
/-- A book with nothing in it. -/
def Kb.new (td : Int) : Kb := { Kb.zero with td := td }
theorem Kb.new_built (td : Int) : Tryz.prog.built 35 [(0, .int .i64 td)] = some (Kb.new td).arr := by
  rw [Kb.arr_row, rowF_list]
  kernel_rfl
theorem Kb.new_one (td : Int) : (Kb.new td).One := ⟨rfl, fun _ _ => rfl⟩
set_option maxHeartbeats 4000000 in
theorem bknew_any (td : Int) (w : World) : Calls Tryz.prog 10 #[.int .i64 td] w fun e w' => e = .returned (.agg (Kb.new td).arr) ∧ Below w.heap.size w w' := by
  go_enter Tryz.func10, Tryz.ntmps10
  go_wp2_with (((with_reducible_and_instances (show wpList _ _ _ (Oper.mk _ (Op.build 35 _) _ _ _ _ :: _) _ _)); refine stop_here ?_))
  refine ⟨?_⟩
  refine wpList_buildTo rfl 35 _ rfl _ rfl _ (Eq.trans (congrArg (Program.built _ _) (by simp [Act.eval])) (Kb.new_built td)) ?_
  go_wp2_with (((with_reducible_and_instances (show wpList _ _ _ (Oper.mk _ (Op.store 35 _ _) _ _ _ _ :: _) _ _)); refine stop_here ?_))
  refine ⟨?_⟩
  refine wl_store (g := w.heap.size) Kb.info rfl rfl rfl rfl (alloc_at (by simp)) Kb.zero_size (Kb.arr_size _) (Kb.new_one td).arr ?_
  go_wp2_with fail
  refine bodyPost_ret (results_cell_row rfl _ _ (w.heap.size) 35 _ (0, 0) _ rfl (boxed_at (by simp)) Tryz.underlying35 rfl (by rw [Kb.arr_size]; exact Kb.info)) rfl ?_
  exact ⟨rfl, boxed_below ((Below.refl _ w).alloc (by first | exact Nat.le_refl _ | (simp; done) | (simp; omega)) _) (by omega)⟩
set_option maxHeartbeats 8000000 in
theorem bkasks_any {w : World} {b : Kb} {ps : List Pv} (h : KbM w 0 w.heap.size b ps) (hl : ∀ k, k < 32 → (b.a k).l.length ≤ 100000) : Calls Tryz.prog 12 #[.agg b.arr] w fun e w' => ∃ v', e = .returned v' ∧ w'.ownsRow w.heap.size 46 6 v' (asksK b.a 32).length (ncs (asksK b.a 32)) ∧ Below w.heap.size w w' := by
  have H := Lib.hid h
  have HL := Lib.hid hl
  clear h hl
  go_enter Tryz.func12, Tryz.ntmps12
  go_upto_region 2 with fail
  have B2 : (w.alloc (.cells b.arr 35)).heap[w.heap.size]? = some (.cells b.arr 35 (0, 0)) := alloc_at rfl
  go_wp2_with (((with_reducible_and_instances (show wpList _ _ _ (Oper.mk _ (Op.load 33 _) _ _ _ _ :: _) _ _)); refine stop_here ?_))
  refine ⟨?_⟩
  refine wpList_load_mid rfl _ _ rfl w.heap.size 2 rfl b.subs.toList _ (Kb.range_subs B2) Tryz.underlying33 rfl Kb.infos_l ?_
  rw [Array.toArray_toList]
  go_wp2_with fail
  go_loopw [3, 8] (fun sl i wq => ∃ (j : Nat) (v' : Value), j ≤ 32 ∧ i = .int .i64 j ∧ sl = v' ∧ Hid (Below w.heap.size w wq) ∧ Hid (wq.ownsRow (w.heap.size + 1) 46 6 v' (asksK b.a j).length (ncs (asksK b.a j)))) (fun _ i _ => 32 - (intOf i).toNat)
  case atStart => exact ⟨0, _, by omega, rfl, rfl, (Below.refl _ w).alloc (Nat.le_refl _) _, World.ownsRow_nil _ _ _ _⟩
  case round =>
    clear B2
    obtain ⟨j, v', hj, rfl, rfl, HW, HO⟩ := hrel
    have hzw := HW.out.size
    by_cases hlt : j < 32
    case neg =>
      obtain rfl : j = 32 := by omega
      have dlt : decide (((32 : Nat) : Int) < 32) = false := by decide
      obtain ⟨An, cn, hvn, _⟩ := own_form HO.out
      subst hvn
      go_wp2
      go_ret
      exact ⟨_, rfl, ⟨HO.out.1, HO.out.2.elim .inl fun ⟨g, cap, cur, h1, h2, h3⟩ => .inr ⟨g, cap, cur, h1, by omega, h3⟩⟩, HW.out⟩
    case pos =>
      have dlt : decide ((j : Int) < 32) = true := by simp; omega
      have q := fun w => Kb.run_index b hlt w
      have hln := HL.out j hlt
      have hcy := H.out.cs j hlt
      have hal := asksK_len HL.out j hj
      have hM1 : asksK b.a (j + 1) = asksK b.a j ++ asksOf (j : Int) (b.a j).l := rfl
      obtain ⟨M, hM⟩ : ∃ M, asksK b.a j = M := ⟨_, rfl⟩
      rw [hM] at HO hal hM1
      have HM1 := Lib.hid hM1
      obtain ⟨a, ha⟩ : ∃ a, b.a j = a := ⟨_, rfl⟩
      obtain ⟨v, hv⟩ : ∃ v, b.v j = v := ⟨_, rfl⟩
      rw [ha, hv] at q hcy
      rw [ha] at hln HM1
      have HCY := Lib.hid hcy
      have hv1 : v.oneCell' = true := by obtain ⟨A, c, he, _⟩ := hcy; rw [he]; rfl
      obtain ⟨An, cn, hvn, _⟩ := own_form HO.out
      subst hvn
      have hjI : (j : Int) < 32 := by omega
      have hjJ : (0 : Int) ≤ (j : Int) := by omega
      clear ha hv hcy hM hM1
      go_wp2_with (((with_reducible_and_instances (show wpList _ _ _ (Oper.mk _ (Op.store 32 _ _) _ _ _ _ :: _) _ _)); refine stop_here ?_))
      refine ⟨?_⟩
      refine wl_store (g := wr.heap.size) info13 rfl rfl rfl rfl (alloc_at rfl) rfl rfl (Av.arr_one hv1) ?_
      obtain ⟨W3, hW3⟩ : ∃ W3, boxed (wr.alloc (.cells #[.int .u8 0, .int .i64 0, .int .i64 0, .int .i64 0, .int .i64 0, .int .i64 0, .bool false, .slice none 0 0, .int .i64 0, .int .i64 0, .int .i64 0, .int .i64 0, .int .i64 0] 32)) wr.heap.size (a.arr v) 32 = W3 := ⟨_, rfl⟩
      have s2 : W3.heap[wr.heap.size]? = some (.cells (a.arr v) 32 (0, 0)) := by rw [← hW3]; exact boxed_at (by simp)
      have hV3 : Below w.heap.size w W3 := by rw [← hW3]; exact boxed_below (HW.out.alloc HW.out.size _) (by omega)
      have HO3 : Hid (W3.ownsRow (w.heap.size + 1) 46 6 (.slice An M.length cn) M.length (ncs M)) := own_kept HO.out fun i hi => by
        have := (HO.out.lt i hi).2
        rw [← hW3, boxed_block_other (by omega), alloc_block_old this]
      rw [hW3]
      have hs3 : w.heap.size + 1 ≤ W3.heap.size := by rw [← hW3]; simp; omega
      obtain ⟨ab, hab⟩ : ∃ ab, wr.heap.size = ab := ⟨_, rfl⟩
      rw [hab] at s2 ⊢
      clear hW3 hab q HO HW hzw wr
      go_wp2_with (((with_reducible_and_instances (show wpList _ _ _ (Oper.mk _ (Op.load 32 _) _ _ _ _ :: _) _ _)); refine stop_here ?_))
      refine ⟨?_⟩
      refine wl_load (cs := a.arr v) (fr := (0, 0)) (g := ab) Tryz.underlying32 rfl info13 rfl rfl rfl s2 rfl ?_
      go_wp2_with fail
      refine (asks_any (a := a) (j : Int) ((HCY.out.kept fun i _ h2 => hV3.block i h2).more (Nat.le_refl _) hV3.size) hln).mono ?_
      rintro e W4 ⟨v4, rfl, ho4, hb4⟩
      have HV4 : Hid (Below w.heap.size w W4) := hV3.trans (hb4.mono hV3.size)
      have hs4 := hb4.size
      have HO4 : Hid (W4.ownsRow (w.heap.size + 1) 46 6 (.slice An M.length cn) M.length (ncs M)) := own_kept HO3.out fun i hi => hb4.block i (HO3.out.lt i hi).2
      have hla := asksOf_len (j : Int) a.l
      clear hb4 hV3 HO3
      go_wp2_with (at_builtin; refine stop_here ?_)
      refine ⟨?_⟩
      refine wpList_append_nvs nyty rfl _ _ rfl (l0 := M) (l := asksOf (j : Int) a.l) (base := w.heap.size + 1) (b := W3.heap.size) (B := W4.heap.size) rfl rfl HO4.out (Nvs.own ho4) (by omega) (by omega) ?_
      intro v5 w5 ho5 hg5 hat5
      rw [← HM1.out] at ho5
      obtain ⟨A5, c5, hv5, _, _⟩ := own_form ho5
      subst hv5
      have HO5 := Lib.hid ho5
      have HW5 : Hid (Below w.heap.size w w5) := by
        have hq := HV4.out
        refine ⟨hg5.os.trans hq.os, hg5.tape.trans hq.tape, hg5.output.trans hq.output, by have := hg5.size; omega, fun i hi => ?_⟩
        rw [hg5.block i (by omega) (fun e => by have := (HO4.out.lt _ e.symm).1; omega)]
        exact hq.block i hi
      clear hg5 hat5 ho5 ho4 HO4 HV4
      go_wp2_with fail
      go_roundw
      case rel => exact ⟨j + 1, _, by omega, by go_num, rfl, HW5, HO5.out⟩
      case measure => simp [intOf]; omega
end Go.Proofs.YtblikgbcakgdnaaGreat
/-
  What holds of the program's book from step to step: its subscriptions' numbers stay small; an order of one changes no other. No conditions but the sizes.
-/
namespace Go.Proofs.YtblikgbcakgdnaaGreat
set_option linter.unusedVariables false
set_option linter.unusedSimpArgs false
set_option maxRecDepth 100000
open Go.ChangeShapes Go.WideShapes Go.ChangeAt Go.RowKit

/-- A book whose numbers are small. -/
structure PBok (M L td : Int) (a : Nat → Av) (ps : List Pv) : Prop where
  day : 0 ≤ td ∧ td ≤ 2000000
  len : ps.length ≤ 8
  pok : ∀ P ∈ ps, P.Ok ∧ P.e ≤ 12 ∧ 0 ≤ P.t ∧ P.t ≤ 1000
  sub : ∀ k, k < 32 → a k = Av.zero ∨ ∃ (s : Sv) (kp : Nat) (P : Pv), s.pl = (kp : Int) ∧ ps[kp]? = some P ∧ Sta M L P td s ∧ a k = s.tell
  low : ∀ k, 3 ≤ k → k < 32 → a k = Av.zero
theorem PBok.lens {M L td : Int} {a : Nat → Av} {ps : List Pv} (h : PBok M L td a ps) (hL : L ≤ 9000) : ∀ k, k < 32 → (a k).l.length ≤ 9000 := fun k hk => by
  rcases h.sub k hk with g | ⟨s, kp, P, _, _, hs, g⟩
  · rw [g]; exact Nat.zero_le _
  · rw [g]; exact (hs.lens hL).2
/-- Orders as the law makes them. -/
inductive OForm : Ov → Prop
  | def_ (P : Pv) (hP : P.Ok ∧ P.e ≤ 12 ∧ 0 ≤ P.t ∧ P.t ≤ 1000) (hpr : Pn.right P.a P.u P.e P.t = 0) : OForm ⟨1, 0, 0, 0, P, Nv.zero⟩
  | opn_ (i n : Nat) (hi : i < 3) : OForm ⟨2, i, n, 0, Pv.zero, Nv.zero⟩
  | chg (i n : Nat) (hi : i < 32) : OForm ⟨3, i, n, 0, Pv.zero, Nv.zero⟩
  | one (k : Int) (hk : 4 ≤ k ∧ k ≤ 8) (i : Nat) (hi : i < 32) : OForm ⟨k, i, 0, 0, Pv.zero, Nv.zero⟩
  | pass (n : Int) (hn : 0 ≤ n ∧ n ≤ 40) : OForm ⟨9, 0, 0, n, Pv.zero, Nv.zero⟩
  | hear (NK : Int) (i : Nat) (m T M V : Int) (hi : i < 32) : OForm ⟨10, 0, 0, 0, Pv.zero, ⟨NK, i, m, T, M, V⟩⟩
/-- An order of one subscription changes no other. -/
def Apart (o : Ov) (td : Int) (a : Nat → Av) (td' : Int) (a' : Nat → Av) : Prop := td' ≤ td + 40 ∧ (o.k ≠ 9 → td' = td ∧ ∀ k : Nat, k < 32 → (o.k = 1 ∨ (o.k = 10 ∧ (k : Int) ≠ o.A.s) ∨ (o.k ≠ 10 ∧ (k : Int) ≠ o.s)) → a' k = a k)
def BStep (M L : Int) (w : World) (b : Kb) (o : Ov) (e : Ending) (w' : World) : Prop := (∃ x, x ≠ 0 ∧ StNo x w e w') ∨ ∃ td' a' ps', StYes td' a' ps' w e w' ∧ PBok (M + 1100000000) (L + 40) td' a' ps' ∧ Apart o b.td b.a td' a'
section
variable {M L : Int} {w : World} {b : Kb} {ps : List Pv} {o : Ov}
/-- The list of one subscription, at a later world. -/
theorem KbM.at_ {W W' : World} {c : Kb} {i : Nat} (hc : KbM W 0 W.heap.size c ps) (hi : i < 32) (hb : Below W.heap.size W W') : Cys W' 0 W'.heap.size (c.v i) (c.a i).l := ((hc.cs i hi).below hb).more (Nat.le_refl _) hb.size
end
end Go.Proofs.YtblikgbcakgdnaaGreat
/-
  Any order told to the program's book whose numbers are small: they stay so. No conditions but the sizes.
-/
namespace Go.Proofs.YtblikgbcakgdnaaGreat
set_option linter.unusedVariables false
set_option linter.unusedSimpArgs false
set_option maxRecDepth 100000
open Go.ChangeShapes Go.WideShapes Go.ChangeAt Go.RowKit

section
variable {M L : Int} {w : World} {b : Kb} {ps : List Pv} {o : Ov}
end
end Go.Proofs.YtblikgbcakgdnaaGreat
