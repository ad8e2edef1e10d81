/-
  What a book asks, and a new book: package book's Asks, New. No conditions but the sizes.
-/
import Derived.Test.YtkdajjbhmmgbkaaBa34
import Derived.Test.YtkdajjbhmmgbkaaBa44
import Derived.Test.YtkdajjbhmmgbkaaBa45
set_option linter.unusedSimpArgs false
set_option linter.unusedVariables false
namespace Go.Proofs.Ytkdajjbhmmgbkaa
set_option linter.unusedVariables false
set_option linter.unusedSimpArgs false
set_option maxRecDepth 100000
open Go.ChangeShapes Go.WideShapes Go.ChangeAt Go.RowKit

/-- What the first subscriptions ask. -/
def asksK (a : Nat → Av) : Nat → List Nv
  | 0 => []
  | n + 1 => asksK a n ++ asksOf (n : Int) (a n).l
theorem asksK_len {a : Nat → Av} {m : Nat} (h : ∀ k, k < 32 → (a k).l.length ≤ m) : ∀ n, n ≤ 32 → (asksK a n).length ≤ n * m
  | 0, _ => Nat.zero_le _
  | n + 1, hn => by
    have h1 := asksK_len h n (by omega)
    have h2 := asksOf_len (n : Int) (a n).l
    have h3 := h n (by omega)
    rw [asksK, List.length_append, Nat.add_mul]
    omega
/-- A book with nothing in it. -/
def Kb.new (td : Int) : Kb := { Kb.zero with td := td }
theorem Kb.new_built (td : Int) : Try.prog.built 53 [(0, .int .i64 td)] = some (Kb.new td).arr := by
  rw [Kb.arr_row, rowF_list]
  kernel_rfl
theorem Kb.new_one (td : Int) : (Kb.new td).One := ⟨rfl, fun _ _ => rfl⟩
set_option maxHeartbeats 4000000 in
theorem new_any (td : Int) (w : World) : Calls Try.prog 13 #[.int .i64 td] w fun e w' => e = .returned (.agg (Kb.new td).arr) ∧ Below w.heap.size w w' := by
  go_enter Try.func13, Try.ntmps13
  go_wp2_with (((with_reducible_and_instances (show wpList _ _ _ (Oper.mk _ (Op.build 53 _) _ _ _ _ :: _) _ _)); refine stop_here ?_))
  refine ⟨?_⟩
  refine wpList_buildTo rfl 53 _ rfl _ rfl _ (Eq.trans (congrArg (Program.built _ _) (by simp [Act.eval])) (Kb.new_built td)) ?_
  go_wp2_with (((with_reducible_and_instances (show wpList _ _ _ (Oper.mk _ (Op.store 53 _ _) _ _ _ _ :: _) _ _)); refine stop_here ?_))
  refine ⟨?_⟩
  refine wl_store (g := w.heap.size) Kb.info rfl rfl rfl rfl (alloc_at (by simp)) Kb.zero_size (Kb.arr_size _) (Kb.new_one td).arr ?_
  go_wp2_with fail
  refine bodyPost_ret (results_cell_row rfl _ _ (w.heap.size) 53 _ (0, 0) _ rfl (boxed_at (by simp)) Try.underlying53 rfl (by rw [Kb.arr_size]; exact Kb.info)) rfl ?_
  exact ⟨rfl, boxed_below ((Below.refl _ w).alloc (by first | exact Nat.le_refl _ | (simp; done) | (simp; omega)) _) (by omega)⟩
set_option maxHeartbeats 8000000 in
theorem bkasks_any {w : World} {b : Kb} {ps : List Pv} (h : KbM w 0 w.heap.size b ps) (hl : ∀ k, k < 32 → (b.a k).l.length ≤ 100000) : Calls Try.prog 16 #[.agg b.arr] w fun e w' => ∃ v', e = .returned v' ∧ w'.ownsRow w.heap.size 59 6 v' (asksK b.a 32).length (ncs (asksK b.a 32)) ∧ Below w.heap.size w w' := by
  have H := Lib.hid h
  have HL := Lib.hid hl
  clear h hl
  go_enter Try.func16, Try.ntmps16
  go_upto_region 2 with fail
  have B2 : (w.alloc (.cells b.arr 53)).heap[w.heap.size]? = some (.cells b.arr 53 (0, 0)) := alloc_at rfl
  go_wp2_with (((with_reducible_and_instances (show wpList _ _ _ (Oper.mk _ (Op.load 51 _) _ _ _ _ :: _) _ _)); refine stop_here ?_))
  refine ⟨?_⟩
  refine wpList_load_mid rfl _ _ rfl w.heap.size 2 rfl b.subs.toList _ (Kb.range_subs B2) Try.underlying51 rfl Kb.infos_l ?_
  rw [Array.toArray_toList]
  go_wp2_with fail
  go_loopw [3, 8] (fun sl i wq => ∃ (j : Nat) (v' : Value), j ≤ 32 ∧ i = .int .i64 j ∧ sl = v' ∧ Hid (Below w.heap.size w wq) ∧ Hid (wq.ownsRow (w.heap.size + 1) 59 6 v' (asksK b.a j).length (ncs (asksK b.a j)))) (fun _ i _ => 32 - (intOf i).toNat)
  case atStart => exact ⟨0, _, by omega, rfl, rfl, (Below.refl _ w).alloc (Nat.le_refl _) _, World.ownsRow_nil _ _ _ _⟩
  case round =>
    clear B2
    obtain ⟨j, v', hj, rfl, rfl, HW, HO⟩ := hrel
    have hzw := HW.out.size
    by_cases hlt : j < 32
    case neg =>
      obtain rfl : j = 32 := by omega
      have dlt : decide (((32 : Nat) : Int) < 32) = false := by decide
      obtain ⟨An, cn, hvn, _⟩ := own_form HO.out
      subst hvn
      go_wp2
      go_ret
      exact ⟨_, rfl, ⟨HO.out.1, HO.out.2.elim .inl fun ⟨g, cap, cur, h1, h2, h3⟩ => .inr ⟨g, cap, cur, h1, by omega, h3⟩⟩, HW.out⟩
    case pos =>
      have dlt : decide ((j : Int) < 32) = true := by simp; omega
      have q := fun w => Kb.run_index b hlt w
      have hln := HL.out j hlt
      have hcy := H.out.cs j hlt
      have hal := asksK_len HL.out j hj
      have hM1 : asksK b.a (j + 1) = asksK b.a j ++ asksOf (j : Int) (b.a j).l := rfl
      obtain ⟨M, hM⟩ : ∃ M, asksK b.a j = M := ⟨_, rfl⟩
      rw [hM] at HO hal hM1
      have HM1 := Lib.hid hM1
      obtain ⟨a, ha⟩ : ∃ a, b.a j = a := ⟨_, rfl⟩
      obtain ⟨v, hv⟩ : ∃ v, b.v j = v := ⟨_, rfl⟩
      rw [ha, hv] at q hcy
      rw [ha] at hln HM1
      have HCY := Lib.hid hcy
      have hv1 : v.oneCell' = true := by obtain ⟨A, c, he, _⟩ := hcy; rw [he]; rfl
      obtain ⟨An, cn, hvn, _⟩ := own_form HO.out
      subst hvn
      have hjI : (j : Int) < 32 := by omega
      have hjJ : (0 : Int) ≤ (j : Int) := by omega
      clear ha hv hcy hM hM1
      go_wp2_with (((with_reducible_and_instances (show wpList _ _ _ (Oper.mk _ (Op.store 33 _ _) _ _ _ _ :: _) _ _)); refine stop_here ?_))
      refine ⟨?_⟩
      refine wl_store (g := wr.heap.size) info13 rfl rfl rfl rfl (alloc_at rfl) rfl rfl (Av.arr_one hv1) ?_
      obtain ⟨W3, hW3⟩ : ∃ W3, boxed (wr.alloc (.cells #[.int .u8 0, .int .i64 0, .int .i64 0, .int .i64 0, .int .i64 0, .int .i64 0, .bool false, .slice none 0 0, .int .i64 0, .int .i64 0, .int .i64 0, .int .i64 0, .int .i64 0] 33)) wr.heap.size (a.arr v) 33 = W3 := ⟨_, rfl⟩
      have s2 : W3.heap[wr.heap.size]? = some (.cells (a.arr v) 33 (0, 0)) := by rw [← hW3]; exact boxed_at (by simp)
      have hV3 : Below w.heap.size w W3 := by rw [← hW3]; exact boxed_below (HW.out.alloc HW.out.size _) (by omega)
      have HO3 : Hid (W3.ownsRow (w.heap.size + 1) 59 6 (.slice An M.length cn) M.length (ncs M)) := own_kept HO.out fun i hi => by
        have := (HO.out.lt i hi).2
        rw [← hW3, boxed_block_other (by omega), alloc_block_old this]
      rw [hW3]
      have hs3 : w.heap.size + 1 ≤ W3.heap.size := by rw [← hW3]; simp; omega
      obtain ⟨ab, hab⟩ : ∃ ab, wr.heap.size = ab := ⟨_, rfl⟩
      rw [hab] at s2 ⊢
      clear hW3 hab q HO HW hzw wr
      go_wp2_with (((with_reducible_and_instances (show wpList _ _ _ (Oper.mk _ (Op.load 33 _) _ _ _ _ :: _) _ _)); refine stop_here ?_))
      refine ⟨?_⟩
      refine wl_load (cs := a.arr v) (fr := (0, 0)) (g := ab) Try.underlying33 rfl info13 rfl rfl rfl s2 rfl ?_
      go_wp2_with fail
      refine (asks_any (a := a) (j : Int) ((HCY.out.kept fun i _ h2 => hV3.block i h2).more (Nat.le_refl _) hV3.size) hln).mono ?_
      rintro e W4 ⟨v4, rfl, ho4, hb4⟩
      have HV4 : Hid (Below w.heap.size w W4) := hV3.trans (hb4.mono hV3.size)
      have hs4 := hb4.size
      have HO4 : Hid (W4.ownsRow (w.heap.size + 1) 59 6 (.slice An M.length cn) M.length (ncs M)) := own_kept HO3.out fun i hi => hb4.block i (HO3.out.lt i hi).2
      have hla := asksOf_len (j : Int) a.l
      clear hb4 hV3 HO3
      go_wp2_with (at_builtin; refine stop_here ?_)
      refine ⟨?_⟩
      refine wpList_append_nvs nyty rfl _ _ rfl (l0 := M) (l := asksOf (j : Int) a.l) (base := w.heap.size + 1) (b := W3.heap.size) (B := W4.heap.size) rfl rfl HO4.out (Nvs.own ho4) (by omega) (by omega) ?_
      intro v5 w5 ho5 hg5 hat5
      rw [← HM1.out] at ho5
      obtain ⟨A5, c5, hv5, _, _⟩ := own_form ho5
      subst hv5
      have HO5 := Lib.hid ho5
      have HW5 : Hid (Below w.heap.size w w5) := by
        have hq := HV4.out
        refine ⟨hg5.os.trans hq.os, hg5.tape.trans hq.tape, hg5.output.trans hq.output, by have := hg5.size; omega, fun i hi => ?_⟩
        rw [hg5.block i (by omega) (fun e => by have := (HO4.out.lt _ e.symm).1; omega)]
        exact hq.block i hi
      clear hg5 hat5 ho5 ho4 HO4 HV4
      go_wp2_with fail
      go_roundw
      case rel => exact ⟨j + 1, _, by omega, by go_num, rfl, HW5, HO5.out⟩
      case measure => simp [intOf]; omega
end Go.Proofs.Ytkdajjbhmmgbkaa
/-
  What holds of the program's book from step to step: its subscriptions' numbers stay small; an order of one changes no other. No conditions but the sizes.
-/
namespace Go.Proofs.Ytkdajjbhmmgbkaa
set_option linter.unusedVariables false
set_option linter.unusedSimpArgs false
set_option maxRecDepth 100000
open Go.ChangeShapes Go.WideShapes Go.ChangeAt Go.RowKit

/-- A book whose numbers are small. -/
structure PBok (M L td : Int) (a : Nat → Av) (ps : List Pv) : Prop where
  day : 0 ≤ td ∧ td ≤ 2000000
  len : ps.length ≤ 8
  pok : ∀ P ∈ ps, P.Ok ∧ P.e ≤ 12 ∧ 0 ≤ P.t ∧ P.t ≤ 1000
  sub : ∀ k, k < 32 → a k = Av.zero ∨ ∃ (s : Sv) (kp : Nat) (P : Pv), s.pl = (kp : Int) ∧ ps[kp]? = some P ∧ Sta M L P td s ∧ a k = s.tell
theorem PBok.okAt {M L td : Int} {a : Nat → Av} {ps : List Pv} (h : PBok M L td a ps) {k : Nat} {P : Pv} (hk : ps[k]? = some P) : P.Ok ∧ P.e ≤ 12 ∧ 0 ≤ P.t ∧ P.t ≤ 1000 := h.pok P (List.mem_of_getElem? hk)
theorem PBok.lens {M L td : Int} {a : Nat → Av} {ps : List Pv} (h : PBok M L td a ps) (hL : L ≤ 9000) : ∀ k, k < 32 → (a k).l.length ≤ 9000 := fun k hk => by
  rcases h.sub k hk with g | ⟨s, kp, P, _, _, hs, g⟩
  · rw [g]; exact Nat.zero_le _
  · rw [g]; exact (hs.lens hL).2
/-- Orders as the law makes them. -/
inductive OForm : Ov → Prop
  | def_ (P : Pv) (hP : P.Ok ∧ P.e ≤ 12 ∧ 0 ≤ P.t ∧ P.t ≤ 1000) (hpr : Pn.right P.a P.u P.e P.t = 0) : OForm ⟨1, 0, 0, 0, P, Nv.zero⟩
  | opn_ (i n : Nat) (hi : i < 32) : OForm ⟨2, i, n, 0, Pv.zero, Nv.zero⟩
  | chg (i n : Nat) (hi : i < 32) : OForm ⟨3, i, n, 0, Pv.zero, Nv.zero⟩
  | one (k : Int) (hk : 4 ≤ k ∧ k ≤ 8) (i : Nat) (hi : i < 32) : OForm ⟨k, i, 0, 0, Pv.zero, Nv.zero⟩
  | pass (n : Int) (hn : 0 ≤ n ∧ n ≤ 40) : OForm ⟨9, 0, 0, n, Pv.zero, Nv.zero⟩
  | hear (NK : Int) (i : Nat) (m T M V : Int) (hi : i < 32) : OForm ⟨10, 0, 0, 0, Pv.zero, ⟨NK, i, m, T, M, V⟩⟩
/-- An order of one subscription changes no other. -/
def Apart (o : Ov) (td : Int) (a : Nat → Av) (td' : Int) (a' : Nat → Av) : Prop := td' ≤ td + 40 ∧ (o.k ≠ 9 → td' = td ∧ ∀ k : Nat, k < 32 → (o.k = 1 ∨ (o.k = 10 ∧ (k : Int) ≠ o.A.s) ∨ (o.k ≠ 10 ∧ (k : Int) ≠ o.s)) → a' k = a k)
def BStep (M L : Int) (w : World) (b : Kb) (o : Ov) (e : Ending) (w' : World) : Prop := (∃ x, x ≠ 0 ∧ StNo x w e w') ∨ ∃ td' a' ps', StYes td' a' ps' w e w' ∧ PBok (M + 1100000000) (L + 40) td' a' ps' ∧ Apart o b.td b.a td' a'
section
variable {M L : Int} {w : World} {b : Kb} {ps : List Pv} {o : Ov}
theorem ans_step {x : Int} {A' : Av} {i : Nat} (h : PBok M L b.td b.a ps) (hg : x = 0 → ∃ (s : Sv) (kp : Nat) (P : Pv), s.pl = (kp : Int) ∧ ps[kp]? = some P ∧ Sta (M + 1100000000) (L + 40) P b.td s ∧ A' = s.tell)
    (ho : (o.k = 10 ∧ o.A.s = (i : Int)) ∨ (o.k ≠ 10 ∧ o.k ≠ 1 ∧ o.s = (i : Int))) : ∀ e w', StAns x b.td (fun k => if k = i then A' else b.a k) ps w e w' → BStep M L w b o e w' := by
  rintro e w' ⟨h1, h2⟩
  by_cases hx : x = 0
  · refine .inr ⟨_, _, _, h2 hx, ⟨h.day, h.len, h.pok, fun k hk => ?_⟩, by omega, fun _ => ⟨rfl, fun k hk hk2 => ?_⟩⟩
    · by_cases e : k = i
      · right
        obtain ⟨s, kp, P, g1, g2, g3, g4⟩ := hg hx
        exact ⟨s, kp, P, g1, g2, g3, by rw [if_pos e]; exact g4⟩
      · rw [if_neg e]
        exact (h.sub k hk).imp id fun ⟨s, kp, P, g1, g2, g3, g4⟩ => ⟨s, kp, P, g1, g2, g3.more (by omega) (by omega), g4⟩
    · exact if_neg (by omega)
  · exact .inl ⟨x, hx, h1 hx⟩
set_option maxHeartbeats 4000000 in
theorem step_def (h : PBok M L b.td b.a ps) (hkm : KbM w 0 w.heap.size b ps) (hL : L + 40 ≤ 9000) (P : Pv) (hP : P.Ok ∧ P.e ≤ 12 ∧ 0 ≤ P.t ∧ P.t ≤ 1000) (hpr : Pn.right P.a P.u P.e P.t = 0) (hr : Ov.right ⟨1, 0, 0, 0, P, Nv.zero⟩ = 0) : Calls Try.prog 14 #[.agg b.arr, .agg (Ov.kb ⟨1, 0, 0, 0, P, Nv.zero⟩)] w (BStep M L w b ⟨1, 0, 0, 0, P, Nv.zero⟩) := by
  have hln := h.lens (by omega)
  have hlen := h.len
  by_cases hf : 8 ≤ ps.length
  · exact (bkstep_def_no hr rfl hkm (by omega) (fun k hk => by have := hln k hk; omega) hpr hf).mono fun e w' g => .inl ⟨3, by decide, g⟩
  · refine (bkstep_def_yes hr rfl hkm (by omega) (fun k hk => by have := hln k hk; omega) hpr (by omega)).mono fun e w' g => .inr ⟨_, _, _, g, ⟨h.day, ?_, fun Q hQ => ?_, fun k hk => ?_⟩, by omega, fun _ => ⟨rfl, fun k _ _ => rfl⟩⟩
    · rw [List.length_append, List.length_singleton]; omega
    · rcases List.mem_append.1 hQ with g | g
      · exact h.pok Q g
      · rw [List.mem_singleton.1 g]; exact hP
    · refine (h.sub k hk).imp id fun ⟨s, kp, P, g1, g2, g3, g4⟩ => ⟨s, kp, P, g1, ?_, g3.more (by omega) (by omega), g4⟩
      rw [List.getElem?_append_left (List.getElem?_eq_some_iff.1 g2).1]
      exact g2
set_option maxHeartbeats 4000000 in
theorem step_open (h : PBok M L b.td b.a ps) (hkm : KbM w 0 w.heap.size b ps) (hM : 0 ≤ M) (hL : 1 ≤ L ∧ L + 40 ≤ 9000) {i n : Nat} (hi : i < 32) (hr : Ov.right ⟨2, i, n, 0, Pv.zero, Nv.zero⟩ = 0) : Calls Try.prog 14 #[.agg b.arr, .agg (Ov.kb ⟨2, i, n, 0, Pv.zero, Nv.zero⟩)] w (BStep M L w b ⟨2, i, n, 0, Pv.zero, Nv.zero⟩) := by
  have hln := h.lens (by omega)
  have hlen := h.len
  have htd := h.day
  by_cases hn : ps.length ≤ n
  · exact (bkstep_open (x := 2) (A' := Av.zero) hr rfl hkm (by omega) (fun k hk => by have := hln k hk; omega) hi rfl (Lib.hid fun W c _ _ _ hc => opened_none (i : Int) (n : Int) hc.ps (by omega))).mono (ans_step h (fun g => absurd g (by decide)) (.inr ⟨by show (2 : Int) ≠ 10; decide, by show (2 : Int) ≠ 1; decide, rfl⟩))
  obtain ⟨P, hP⟩ : ∃ P, ps[n]? = some P := ⟨_, List.getElem?_eq_getElem (by omega)⟩
  obtain ⟨p1, p2, p3, p4⟩ := h.okAt hP
  by_cases hst : (b.a i).st = 0
  · obtain ⟨s', hd, hs, hpl⟩ := sub_open (kn := n) (y := b.td) p1 ⟨p3, p4⟩ (by omega)
    exact (bkstep_open (x := 0) (A' := s'.tell) hr rfl hkm (by omega) (fun k hk => by have := hln k hk; omega) hi rfl (Lib.hid fun W c _ ht ha hc => opened_yes hi hc.ps hP (by rw [ha]; exact hst) (by rw [ht]; omega) ⟨p3, p4⟩ (by rw [ht]; omega) (Lib.hid (by rw [ht]; exact hd)))).mono (ans_step h (fun _ => ⟨s', n, P, hpl, hP, hs.more (by omega) (by omega), rfl⟩) (.inr ⟨by show (2 : Int) ≠ 10; decide, by show (2 : Int) ≠ 1; decide, rfl⟩))
  · exact (bkstep_open (x := 11) (A' := Av.zero) hr rfl hkm (by omega) (fun k hk => by have := hln k hk; omega) hi rfl (Lib.hid fun W c _ _ ha hc => opened_there hi hc.ps hP (by rw [ha]; exact hst))).mono (ans_step h (fun g => absurd g (by decide)) (.inr ⟨by show (2 : Int) ≠ 10; decide, by show (2 : Int) ≠ 1; decide, rfl⟩))
theorem tell_st {s : Sv} {P : Pv} {td : Int} (h : Sta M L P td s) : s.tell.st ≠ 0 := by
  have := h.ok.st
  show s.st ≠ 0
  omega
/-- The list of one subscription, at a later world. -/
theorem KbM.at_ {W W' : World} {c : Kb} {i : Nat} (hc : KbM W 0 W.heap.size c ps) (hi : i < 32) (hb : Below W.heap.size W W') : Cys W' 0 W'.heap.size (c.v i) (c.a i).l := ((hc.cs i hi).below hb).more (Nat.le_refl _) hb.size
set_option maxHeartbeats 4000000 in
theorem step_one (h : PBok M L b.td b.a ps) (hkm : KbM w 0 w.heap.size b ps) (hM : 0 ≤ M ∧ M ≤ 100000000000) (hL : 1 ≤ L ∧ L + 40 ≤ 9000) (k0 : Int) (hk : 4 ≤ k0 ∧ k0 ≤ 8) {i : Nat} (hi : i < 32) (hr : Ov.right ⟨k0, i, 0, 0, Pv.zero, Nv.zero⟩ = 0) : Calls Try.prog 14 #[.agg b.arr, .agg (Ov.kb ⟨k0, i, 0, 0, Pv.zero, Nv.zero⟩)] w (BStep M L w b ⟨k0, i, 0, 0, Pv.zero, Nv.zero⟩) := by
  have hln := h.lens (by omega)
  have hlen := h.len
  have how : ((Ov.mk k0 i 0 0 Pv.zero Nv.zero).k = 10 ∧ (Ov.mk k0 i 0 0 Pv.zero Nv.zero).A.s = (i : Int)) ∨ ((Ov.mk k0 i 0 0 Pv.zero Nv.zero).k ≠ 10 ∧ (Ov.mk k0 i 0 0 Pv.zero Nv.zero).k ≠ 1 ∧ (Ov.mk k0 i 0 0 Pv.zero Nv.zero).s = (i : Int)) := .inr ⟨by show k0 ≠ 10; omega, by show k0 ≠ 1; omega, rfl⟩
  rcases h.sub i hi with g | ⟨s, kp, P, g1, g2, g3, g4⟩
  · exact (bkstep_other (x := 2) (A' := Av.zero) hr (by show 3 ≤ k0 ∧ k0 ≤ 8; omega) hkm (by omega) (fun k hk => by have := hln k hk; omega) hi rfl (Lib.hid fun W c _ _ ha hc => ordered_none k0 0 hi hc.one (by rw [ha, g]; rfl))).mono (ans_step h (fun g => absurd g (by decide)) how)
  have hst : (b.a i).st ≠ 0 := by rw [g4]; exact tell_st g3
  have go_ : ∀ (x : Int) (s' : Sv), (x = 0 → Sta M L P b.td s' ∧ s'.pl = s.pl) → (∀ (W : World) (c : Kb), Below w.heap.size w W → c.td = b.td → c.a = b.a → KbM W 0 W.heap.size c ps → Calls Try.prog 40 #[.agg c.arr, .agg (Ov.kb ⟨k0, i, 0, 0, Pv.zero, Nv.zero⟩)] W (Ansk x s'.tell W)) → Calls Try.prog 14 #[.agg b.arr, .agg (Ov.kb ⟨k0, i, 0, 0, Pv.zero, Nv.zero⟩)] w (BStep M L w b ⟨k0, i, 0, 0, Pv.zero, Nv.zero⟩) := fun x s' hg HA =>
    (bkstep_other (x := x) (A' := s'.tell) hr (by show 3 ≤ k0 ∧ k0 ≤ 8; omega) hkm (by omega) (fun k hk => by have := hln k hk; omega) hi rfl (Lib.hid HA)).mono (ans_step h (fun hx => ⟨s', kp, P, by rw [(hg hx).2, g1], g2, (hg hx).1.more (by omega) (by omega), rfl⟩) how)
  rcases (by omega : k0 = 4 ∨ k0 = 5 ∨ k0 = 6 ∨ k0 = 7 ∨ k0 = 8) with rfl | rfl | rfl | rfl | rfl
  · obtain ⟨x, s', hc1, hc2⟩ := sub_pause g3 (by omega)
    exact go_ x s' hc2 fun W c _ _ ha hc => ordered_pause hi hc.one (by rw [ha]; exact hst) (Lib.hid fun W' hb => by rw [ha, g4]; exact hc1 W' _ (by have := hc.at_ hi hb; rwa [ha, g4] at this))
  · obtain ⟨x, s', hc1, hc2⟩ := sub_resume g3 (by omega)
    exact go_ x s' hc2 fun W c _ _ ha hc => ordered_resume hi hc.one (by rw [ha]; exact hst) (Lib.hid fun W' hb => by rw [ha, g4]; exact hc1 W' _ (by have := hc.at_ hi hb; rwa [ha, g4] at this))
  · obtain ⟨x, s', hc1, hc2⟩ := sub_skip g3 (by omega)
    exact go_ x s' hc2 fun W c _ _ ha hc => ordered_skip hi hc.one (by rw [ha]; exact hst) (Lib.hid fun W' hb => by rw [ha, g4]; exact hc1 W' _ (by have := hc.at_ hi hb; rwa [ha, g4] at this))
  · obtain ⟨x, s', hc1, hc2⟩ := sub_cancel g3 hM.2 (by omega)
    exact go_ x s' hc2 fun W c _ _ ha hc => ordered_cancel hi hc.one (by rw [ha]; exact hst) (Lib.hid fun W' hb => by rw [ha, g4]; exact hc1 W' _ (by have := hc.at_ hi hb; rwa [ha, g4] at this))
  · obtain ⟨x, s', hc1, hc2⟩ := sub_card g3 hM.2 (by omega)
    exact go_ x s' hc2 fun W c _ _ ha hc => ordered_card hi hc.one (by rw [ha]; exact hst) (Lib.hid fun W' hb => by rw [ha, g4]; exact hc1 W' _ (by have := hc.at_ hi hb; rwa [ha, g4] at this))
set_option maxHeartbeats 4000000 in
theorem step_hear_ (h : PBok M L b.td b.a ps) (hkm : KbM w 0 w.heap.size b ps) (hM : 0 ≤ M ∧ M ≤ 100000000000) (hL : 1 ≤ L ∧ L + 40 ≤ 9000) (NK m T A V : Int) {i : Nat} (hi : i < 32) (hr : Ov.right ⟨10, 0, 0, 0, Pv.zero, ⟨NK, i, m, T, A, V⟩⟩ = 0) : Calls Try.prog 14 #[.agg b.arr, .agg (Ov.kb ⟨10, 0, 0, 0, Pv.zero, ⟨NK, i, m, T, A, V⟩⟩)] w (BStep M L w b ⟨10, 0, 0, 0, Pv.zero, ⟨NK, i, m, T, A, V⟩⟩) := by
  have hln := h.lens (by omega)
  have hlen := h.len
  have htd := h.day
  rcases h.sub i hi with g | ⟨s, kp, P, g1, g2, g3, g4⟩
  · exact (bkstep_hear (x := 10) (A' := Av.zero) hr rfl hkm (by omega) (fun k hk => by have := hln k hk; omega) hi rfl (Lib.hid fun W c _ _ ha hc => heard_none NK m T A V hi hc.one (by rw [ha, g]; rfl))).mono (ans_step h (fun g => absurd g (by decide)) (.inl ⟨rfl, rfl⟩))
  have hst : (b.a i).st ≠ 0 := by rw [g4]; exact tell_st g3
  obtain ⟨x, s', hc1, hc2⟩ := sub_hear g3 hM.2 (by omega) (by omega) i NK i m T A V
  exact (bkstep_hear (x := x) (A' := s'.tell) hr rfl hkm (by omega) (fun k hk => by have := hln k hk; omega) hi rfl (Lib.hid fun W c _ ht ha hc => heard_some NK m T A V hi hc.one (by rw [ha]; exact hst) (Lib.hid fun W' hb => by rw [ha, g4, ht]; exact hc1 W' _ (by have := hc.at_ hi hb; rwa [ha, g4] at this)))).mono (ans_step h (fun hx => ⟨s', kp, P, by rw [(hc2 hx).2, g1], g2, (hc2 hx).1.more (by omega) (by omega), rfl⟩) (.inl ⟨rfl, rfl⟩))
end
end Go.Proofs.Ytkdajjbhmmgbkaa
