/-
  What holds of the program's book from step to step: its subscriptions' numbers stay small; an order of one changes no other. No conditions but the sizes.
-/
import Derived.Test.YtkdajjbhmmgbkaaGreatBk43
set_option linter.unusedSimpArgs false
set_option linter.unusedVariables false
namespace Go.Proofs.YtkdajjbhmmgbkaaGreat
set_option linter.unusedVariables false
set_option linter.unusedSimpArgs false
set_option maxRecDepth 100000
open Go.ChangeShapes Go.WideShapes Go.ChangeAt Go.RowKit

/-- A book whose numbers are small. -/
structure PBok (M L td : Int) (a : Nat → Av) (ps : List Pv) : Prop where
  day : 0 ≤ td ∧ td ≤ 2000000
  len : ps.length ≤ 8
  pok : ∀ P ∈ ps, P.Ok ∧ P.e ≤ 12 ∧ 0 ≤ P.t ∧ P.t ≤ 1000
  sub : ∀ k, k < 32 → a k = Av.zero ∨ ∃ (s : Sv) (kp : Nat) (P : Pv), s.pl = (kp : Int) ∧ ps[kp]? = some P ∧ Sta M L P td s ∧ a k = s.tell
  low : ∀ k, 3 ≤ k → k < 32 → a k = Av.zero
theorem PBok.okAt {M L td : Int} {a : Nat → Av} {ps : List Pv} (h : PBok M L td a ps) {k : Nat} {P : Pv} (hk : ps[k]? = some P) : P.Ok ∧ P.e ≤ 12 ∧ 0 ≤ P.t ∧ P.t ≤ 1000 := h.pok P (List.mem_of_getElem? hk)
theorem PBok.lens {M L td : Int} {a : Nat → Av} {ps : List Pv} (h : PBok M L td a ps) (hL : L ≤ 9000) : ∀ k, k < 32 → (a k).l.length ≤ 9000 := fun k hk => by
  rcases h.sub k hk with g | ⟨s, kp, P, _, _, hs, g⟩
  · rw [g]; exact Nat.zero_le _
  · rw [g]; exact (hs.lens hL).2
/-- Orders as the law makes them. -/
inductive OForm : Ov → Prop
  | def_ (P : Pv) (hP : P.Ok ∧ P.e ≤ 12 ∧ 0 ≤ P.t ∧ P.t ≤ 1000) (hpr : Pn.right P.a P.u P.e P.t = 0) : OForm ⟨1, 0, 0, 0, P, Nv.zero⟩
  | opn_ (i n : Nat) (hi : i < 3) : OForm ⟨2, i, n, 0, Pv.zero, Nv.zero⟩
  | chg (i n : Nat) (hi : i < 32) : OForm ⟨3, i, n, 0, Pv.zero, Nv.zero⟩
  | one (k : Int) (hk : 4 ≤ k ∧ k ≤ 8) (i : Nat) (hi : i < 32) : OForm ⟨k, i, 0, 0, Pv.zero, Nv.zero⟩
  | pass (n : Int) (hn : 0 ≤ n ∧ n ≤ 40) : OForm ⟨9, 0, 0, n, Pv.zero, Nv.zero⟩
  | hear (NK : Int) (i : Nat) (m T M V : Int) (hi : i < 32) : OForm ⟨10, 0, 0, 0, Pv.zero, ⟨NK, i, m, T, M, V⟩⟩
/-- An order of one subscription changes no other. -/
def Apart (o : Ov) (td : Int) (a : Nat → Av) (td' : Int) (a' : Nat → Av) : Prop := td' ≤ td + 40 ∧ (o.k ≠ 9 → td' = td ∧ ∀ k : Nat, k < 32 → (o.k = 1 ∨ (o.k = 10 ∧ (k : Int) ≠ o.A.s) ∨ (o.k ≠ 10 ∧ (k : Int) ≠ o.s)) → a' k = a k)
def BStep (M L : Int) (w : World) (b : Kb) (o : Ov) (e : Ending) (w' : World) : Prop := (∃ x, x ≠ 0 ∧ StNo x w e w') ∨ ∃ td' a' ps', StYes td' a' ps' w e w' ∧ PBok (M + 1100000000) (L + 40) td' a' ps' ∧ Apart o b.td b.a td' a'
section
variable {M L : Int} {w : World} {b : Kb} {ps : List Pv} {o : Ov}
theorem ans_step {x : Int} {A' : Av} {i : Nat} (h : PBok M L b.td b.a ps) (hg : x = 0 → i < 3 ∧ ∃ (s : Sv) (kp : Nat) (P : Pv), s.pl = (kp : Int) ∧ ps[kp]? = some P ∧ Sta (M + 1100000000) (L + 40) P b.td s ∧ A' = s.tell)
    (ho : (o.k = 10 ∧ o.A.s = (i : Int)) ∨ (o.k ≠ 10 ∧ o.k ≠ 1 ∧ o.s = (i : Int))) : ∀ e w', StAns x b.td (fun k => if k = i then A' else b.a k) ps w e w' → BStep M L w b o e w' := by
  rintro e w' ⟨h1, h2⟩
  by_cases hx : x = 0
  · refine .inr ⟨_, _, _, h2 hx, ⟨h.day, h.len, h.pok, fun k hk => ?_, fun k h3 hk => ?_⟩, by omega, fun _ => ⟨rfl, fun k hk hk2 => ?_⟩⟩
    · by_cases e : k = i
      · right
        obtain ⟨_, s, kp, P, g1, g2, g3, g4⟩ := hg hx
        exact ⟨s, kp, P, g1, g2, g3, by rw [if_pos e]; exact g4⟩
      · rw [if_neg e]
        exact (h.sub k hk).imp id fun ⟨s, kp, P, g1, g2, g3, g4⟩ => ⟨s, kp, P, g1, g2, g3.more (by omega) (by omega), g4⟩
    · rw [if_neg (by have := (hg hx).1; omega)]
      exact h.low k h3 hk
    · exact if_neg (by omega)
  · exact .inl ⟨x, hx, h1 hx⟩
set_option maxHeartbeats 4000000 in
theorem step_def (h : PBok M L b.td b.a ps) (hkm : KbM w 0 w.heap.size b ps) (hL : L + 40 ≤ 9000) (P : Pv) (hP : P.Ok ∧ P.e ≤ 12 ∧ 0 ≤ P.t ∧ P.t ≤ 1000) (hpr : Pn.right P.a P.u P.e P.t = 0) (hr : Ov.right ⟨1, 0, 0, 0, P, Nv.zero⟩ = 0) : Calls Tryz.prog 14 #[.agg b.arr, .agg (Ov.kb ⟨1, 0, 0, 0, P, Nv.zero⟩)] w (BStep M L w b ⟨1, 0, 0, 0, P, Nv.zero⟩) := by
  have hln := h.lens (by omega)
  have hlen := h.len
  by_cases hf : 8 ≤ ps.length
  · exact (bkstep_def_no hr rfl hkm (by omega) (fun k hk => by have := hln k hk; omega) hpr hf).mono fun e w' g => .inl ⟨3, by decide, g⟩
  · refine (bkstep_def_yes hr rfl hkm (by omega) (fun k hk => by have := hln k hk; omega) hpr (by omega)).mono fun e w' g => .inr ⟨_, _, _, g, ⟨h.day, ?_, fun Q hQ => ?_, fun k hk => ?_, h.low⟩, by omega, fun _ => ⟨rfl, fun k _ _ => rfl⟩⟩
    · rw [List.length_append, List.length_singleton]; omega
    · rcases List.mem_append.1 hQ with g | g
      · exact h.pok Q g
      · rw [List.mem_singleton.1 g]; exact hP
    · refine (h.sub k hk).imp id fun ⟨s, kp, P, g1, g2, g3, g4⟩ => ⟨s, kp, P, g1, ?_, g3.more (by omega) (by omega), g4⟩
      rw [List.getElem?_append_left (List.getElem?_eq_some_iff.1 g2).1]
      exact g2
set_option maxHeartbeats 4000000 in
theorem step_open (h : PBok M L b.td b.a ps) (hkm : KbM w 0 w.heap.size b ps) (hM : 0 ≤ M) (hL : 1 ≤ L ∧ L + 40 ≤ 9000) {i n : Nat} (hi3 : i < 3) (hr : Ov.right ⟨2, i, n, 0, Pv.zero, Nv.zero⟩ = 0) : Calls Tryz.prog 14 #[.agg b.arr, .agg (Ov.kb ⟨2, i, n, 0, Pv.zero, Nv.zero⟩)] w (BStep M L w b ⟨2, i, n, 0, Pv.zero, Nv.zero⟩) := by
  have hi : i < 32 := by omega
  have hln := h.lens (by omega)
  have hlen := h.len
  have htd := h.day
  by_cases hn : ps.length ≤ n
  · exact (bkstep_open (x := 2) (A' := Av.zero) hr rfl hkm (by omega) (fun k hk => by have := hln k hk; omega) hi rfl (Lib.hid fun W c _ _ _ hc => opened_none (i : Int) (n : Int) hc.ps (by omega))).mono (ans_step h (fun g => absurd g (by decide)) (.inr ⟨by show (2 : Int) ≠ 10; decide, by show (2 : Int) ≠ 1; decide, rfl⟩))
  obtain ⟨P, hP⟩ : ∃ P, ps[n]? = some P := ⟨_, List.getElem?_eq_getElem (by omega)⟩
  obtain ⟨p1, p2, p3, p4⟩ := h.okAt hP
  by_cases hst : (b.a i).st = 0
  · obtain ⟨s', hd, hs, hpl⟩ := sub_open (kn := n) (y := b.td) p1 ⟨p3, p4⟩ (by omega)
    exact (bkstep_open (x := 0) (A' := s'.tell) hr rfl hkm (by omega) (fun k hk => by have := hln k hk; omega) hi rfl (Lib.hid fun W c _ ht ha hc => opened_yes hi hc.ps hP (by rw [ha]; exact hst) (by rw [ht]; omega) ⟨p3, p4⟩ (by rw [ht]; omega) (Lib.hid (by rw [ht]; exact hd)))).mono (ans_step h (fun _ => ⟨hi3, s', n, P, hpl, hP, hs.more (by omega) (by omega), rfl⟩) (.inr ⟨by show (2 : Int) ≠ 10; decide, by show (2 : Int) ≠ 1; decide, rfl⟩))
  · exact (bkstep_open (x := 11) (A' := Av.zero) hr rfl hkm (by omega) (fun k hk => by have := hln k hk; omega) hi rfl (Lib.hid fun W c _ _ ha hc => opened_there hi hc.ps hP (by rw [ha]; exact hst))).mono (ans_step h (fun g => absurd g (by decide)) (.inr ⟨by show (2 : Int) ≠ 10; decide, by show (2 : Int) ≠ 1; decide, rfl⟩))
theorem tell_st {s : Sv} {P : Pv} {td : Int} (h : Sta M L P td s) : s.tell.st ≠ 0 := by
  have := h.ok.st
  show s.st ≠ 0
  omega
/-- The list of one subscription, at a later world. -/
theorem KbM.at_ {W W' : World} {c : Kb} {i : Nat} (hc : KbM W 0 W.heap.size c ps) (hi : i < 32) (hb : Below W.heap.size W W') : Cys W' 0 W'.heap.size (c.v i) (c.a i).l := ((hc.cs i hi).below hb).more (Nat.le_refl _) hb.size
set_option maxHeartbeats 4000000 in
theorem step_one (h : PBok M L b.td b.a ps) (hkm : KbM w 0 w.heap.size b ps) (hM : 0 ≤ M ∧ M ≤ 100000000000) (hL : 1 ≤ L ∧ L + 40 ≤ 9000) (k0 : Int) (hk : 4 ≤ k0 ∧ k0 ≤ 8) {i : Nat} (hi : i < 32) (hr : Ov.right ⟨k0, i, 0, 0, Pv.zero, Nv.zero⟩ = 0) : Calls Tryz.prog 14 #[.agg b.arr, .agg (Ov.kb ⟨k0, i, 0, 0, Pv.zero, Nv.zero⟩)] w (BStep M L w b ⟨k0, i, 0, 0, Pv.zero, Nv.zero⟩) := by
  have hln := h.lens (by omega)
  have hlen := h.len
  have how : ((Ov.mk k0 i 0 0 Pv.zero Nv.zero).k = 10 ∧ (Ov.mk k0 i 0 0 Pv.zero Nv.zero).A.s = (i : Int)) ∨ ((Ov.mk k0 i 0 0 Pv.zero Nv.zero).k ≠ 10 ∧ (Ov.mk k0 i 0 0 Pv.zero Nv.zero).k ≠ 1 ∧ (Ov.mk k0 i 0 0 Pv.zero Nv.zero).s = (i : Int)) := .inr ⟨by show k0 ≠ 10; omega, by show k0 ≠ 1; omega, rfl⟩
  rcases h.sub i hi with g | ⟨s, kp, P, g1, g2, g3, g4⟩
  · exact (bkstep_other (x := 2) (A' := Av.zero) hr (by show 3 ≤ k0 ∧ k0 ≤ 8; omega) hkm (by omega) (fun k hk => by have := hln k hk; omega) hi rfl (Lib.hid fun W c _ _ ha hc => ordered_none k0 0 hi hc.one (by rw [ha, g]; rfl))).mono (ans_step h (fun g => absurd g (by decide)) how)
  have hst : (b.a i).st ≠ 0 := by rw [g4]; exact tell_st g3
  have hi3 : i < 3 := Nat.lt_of_not_le fun h3 => hst (by rw [h.low i h3 hi]; rfl)
  have go_ : ∀ (x : Int) (s' : Sv), (x = 0 → Sta M L P b.td s' ∧ s'.pl = s.pl) → (∀ (W : World) (c : Kb), Below w.heap.size w W → c.td = b.td → c.a = b.a → KbM W 0 W.heap.size c ps → Calls Tryz.prog 31 #[.agg c.arr, .agg (Ov.kb ⟨k0, i, 0, 0, Pv.zero, Nv.zero⟩)] W (Ansk x s'.tell W)) → Calls Tryz.prog 14 #[.agg b.arr, .agg (Ov.kb ⟨k0, i, 0, 0, Pv.zero, Nv.zero⟩)] w (BStep M L w b ⟨k0, i, 0, 0, Pv.zero, Nv.zero⟩) := fun x s' hg HA =>
    (bkstep_other (x := x) (A' := s'.tell) hr (by show 3 ≤ k0 ∧ k0 ≤ 8; omega) hkm (by omega) (fun k hk => by have := hln k hk; omega) hi rfl (Lib.hid HA)).mono (ans_step h (fun hx => ⟨hi3, s', kp, P, by rw [(hg hx).2, g1], g2, (hg hx).1.more (by omega) (by omega), rfl⟩) how)
  rcases (by omega : k0 = 4 ∨ k0 = 5 ∨ k0 = 6 ∨ k0 = 7 ∨ k0 = 8) with rfl | rfl | rfl | rfl | rfl
  · obtain ⟨x, s', hc1, hc2⟩ := sub_pause g3 (by omega)
    exact go_ x s' hc2 fun W c _ _ ha hc => ordered_pause hi hc.one (by rw [ha]; exact hst) (Lib.hid fun W' hb => by rw [ha, g4]; exact hc1 W' _ (by have := hc.at_ hi hb; rwa [ha, g4] at this))
  · obtain ⟨x, s', hc1, hc2⟩ := sub_resume g3 (by omega)
    exact go_ x s' hc2 fun W c _ _ ha hc => ordered_resume hi hc.one (by rw [ha]; exact hst) (Lib.hid fun W' hb => by rw [ha, g4]; exact hc1 W' _ (by have := hc.at_ hi hb; rwa [ha, g4] at this))
  · obtain ⟨x, s', hc1, hc2⟩ := sub_skip g3 (by omega)
    exact go_ x s' hc2 fun W c _ _ ha hc => ordered_skip hi hc.one (by rw [ha]; exact hst) (Lib.hid fun W' hb => by rw [ha, g4]; exact hc1 W' _ (by have := hc.at_ hi hb; rwa [ha, g4] at this))
  · obtain ⟨x, s', hc1, hc2⟩ := sub_cancel g3 hM.2 (by omega)
    exact go_ x s' hc2 fun W c _ _ ha hc => ordered_cancel hi hc.one (by rw [ha]; exact hst) (Lib.hid fun W' hb => by rw [ha, g4]; exact hc1 W' _ (by have := hc.at_ hi hb; rwa [ha, g4] at this))
  · obtain ⟨x, s', hc1, hc2⟩ := sub_card g3 hM.2 (by omega)
    exact go_ x s' hc2 fun W c _ _ ha hc => ordered_card hi hc.one (by rw [ha]; exact hst) (Lib.hid fun W' hb => by rw [ha, g4]; exact hc1 W' _ (by have := hc.at_ hi hb; rwa [ha, g4] at this))
set_option maxHeartbeats 4000000 in
theorem step_hear_ (h : PBok M L b.td b.a ps) (hkm : KbM w 0 w.heap.size b ps) (hM : 0 ≤ M ∧ M ≤ 100000000000) (hL : 1 ≤ L ∧ L + 40 ≤ 9000) (NK m T A V : Int) {i : Nat} (hi : i < 32) (hr : Ov.right ⟨10, 0, 0, 0, Pv.zero, ⟨NK, i, m, T, A, V⟩⟩ = 0) : Calls Tryz.prog 14 #[.agg b.arr, .agg (Ov.kb ⟨10, 0, 0, 0, Pv.zero, ⟨NK, i, m, T, A, V⟩⟩)] w (BStep M L w b ⟨10, 0, 0, 0, Pv.zero, ⟨NK, i, m, T, A, V⟩⟩) := by
  have hln := h.lens (by omega)
  have hlen := h.len
  have htd := h.day
  rcases h.sub i hi with g | ⟨s, kp, P, g1, g2, g3, g4⟩
  · exact (bkstep_hear (x := 10) (A' := Av.zero) hr rfl hkm (by omega) (fun k hk => by have := hln k hk; omega) hi rfl (Lib.hid fun W c _ _ ha hc => heard_none NK m T A V hi hc.one (by rw [ha, g]; rfl))).mono (ans_step h (fun g => absurd g (by decide)) (.inl ⟨rfl, rfl⟩))
  have hst : (b.a i).st ≠ 0 := by rw [g4]; exact tell_st g3
  have hi3 : i < 3 := Nat.lt_of_not_le fun h3 => hst (by rw [h.low i h3 hi]; rfl)
  obtain ⟨x, s', hc1, hc2⟩ := sub_hear g3 hM.2 (by omega) (by omega) i NK i m T A V
  exact (bkstep_hear (x := x) (A' := s'.tell) hr rfl hkm (by omega) (fun k hk => by have := hln k hk; omega) hi rfl (Lib.hid fun W c _ ht ha hc => heard_some NK m T A V hi hc.one (by rw [ha]; exact hst) (Lib.hid fun W' hb => by rw [ha, g4, ht]; exact hc1 W' _ (by have := hc.at_ hi hb; rwa [ha, g4] at this)))).mono (ans_step h (fun hx => ⟨hi3, s', kp, P, by rw [(hc2 hx).2, g1], g2, (hc2 hx).1.more (by omega) (by omega), rfl⟩) (.inl ⟨rfl, rfl⟩))
end
end Go.Proofs.YtkdajjbhmmgbkaaGreat
/-
  Any order told to the program's book whose numbers are small: they stay so. No conditions but the sizes.
-/
namespace Go.Proofs.YtkdajjbhmmgbkaaGreat
set_option linter.unusedVariables false
set_option linter.unusedSimpArgs false
set_option maxRecDepth 100000
open Go.ChangeShapes Go.WideShapes Go.ChangeAt Go.RowKit

section
variable {M L : Int} {w : World} {b : Kb} {ps : List Pv} {o : Ov}
theorem KbM.psAt {W W' : World} {c : Kb} (hc : KbM W 0 W.heap.size c ps) (hb : Below W.heap.size W W') : Pys W' 0 W'.heap.size c.vp ps := (hc.ps.below hb).more (Nat.le_refl _) hb.size
set_option maxHeartbeats 4000000 in
theorem step_chg (h : PBok M L b.td b.a ps) (hkm : KbM w 0 w.heap.size b ps) (hM : 0 ≤ M ∧ M ≤ 100000000000) (hL : 1 ≤ L ∧ L + 40 ≤ 9000) {i n : Nat} (hi : i < 32) (hr : Ov.right ⟨3, i, n, 0, Pv.zero, Nv.zero⟩ = 0) : Calls Tryz.prog 14 #[.agg b.arr, .agg (Ov.kb ⟨3, i, n, 0, Pv.zero, Nv.zero⟩)] w (BStep M L w b ⟨3, i, n, 0, Pv.zero, Nv.zero⟩) := by
  have hln := h.lens (by omega)
  have hlen := h.len
  have htd := h.day
  have how : ((Ov.mk 3 i n 0 Pv.zero Nv.zero).k = 10 ∧ (Ov.mk 3 i n 0 Pv.zero Nv.zero).A.s = (i : Int)) ∨ ((Ov.mk 3 i n 0 Pv.zero Nv.zero).k ≠ 10 ∧ (Ov.mk 3 i n 0 Pv.zero Nv.zero).k ≠ 1 ∧ (Ov.mk 3 i n 0 Pv.zero Nv.zero).s = (i : Int)) := .inr ⟨by show (3 : Int) ≠ 10; decide, by show (3 : Int) ≠ 1; decide, rfl⟩
  have hk3 : 3 ≤ (Ov.mk 3 i n 0 Pv.zero Nv.zero).k ∧ (Ov.mk 3 i n 0 Pv.zero Nv.zero).k ≤ 8 := by show (3 : Int) ≤ 3 ∧ (3 : Int) ≤ 8; decide
  rcases h.sub i hi with g | ⟨s, kp, P, g1, g2, g3, g4⟩
  · exact (bkstep_other (x := 2) (A' := Av.zero) hr hk3 hkm (by omega) (fun k hk => by have := hln k hk; omega) hi rfl (Lib.hid fun W c _ _ ha hc => ordered_none 3 (n : Int) hi hc.one (by rw [ha, g]; rfl))).mono (ans_step h (fun g => absurd g (by decide)) how)
  have hst : (b.a i).st ≠ 0 := by rw [g4]; exact tell_st g3
  have hi3 : i < 3 := Nat.lt_of_not_le fun h3 => hst (by rw [h.low i h3 hi]; rfl)
  by_cases hn : ps.length ≤ n
  · exact (bkstep_other (x := 2) (A' := Av.zero) hr hk3 hkm (by omega) (fun k hk => by have := hln k hk; omega) hi rfl (Lib.hid fun W c _ _ ha hc => ordered_change (n : Int) hi hc.one (by rw [ha]; exact hst) (Lib.hid fun W' hb => changed_none (n : Int) (hc.psAt hb) (by omega) (hc.one.2 i hi)))).mono (ans_step h (fun g => absurd g (by decide)) how)
  obtain ⟨Q, hQ⟩ : ∃ Q, ps[n]? = some Q := ⟨_, List.getElem?_eq_getElem (by omega)⟩
  obtain ⟨p1, p2, p3, p4⟩ := h.okAt g2
  obtain ⟨q1, q2, q3, q4⟩ := h.okAt hQ
  obtain ⟨x, s', hc1, hc2⟩ := sub_change (kq := n) g3 hM.2 (by omega) p1 p2 q1 g1 htd
  refine (bkstep_other (x := x) (A' := s'.tell) hr hk3 hkm (by omega) (fun k hk => by have := hln k hk; omega) hi rfl (Lib.hid fun W c _ ht ha hc => ordered_change (n : Int) hi hc.one (by rw [ha]; exact hst) (Lib.hid fun W' hb => changed_yes (kp := kp) (hc.psAt hb) hQ g2 (by rw [ha, g4]; exact g1) (hc.one.2 i hi) (Lib.hid fun W2 hb2 => ?_)))).mono (ans_step h (fun hx => ⟨hi3, s', n, Q, (hc2 hx).2, hQ, (hc2 hx).1.more (by omega) (by omega), rfl⟩) how)
  rw [ha, g4, ht]
  exact hc1 W2 _ (by have := (hc.at_ hi (hb.trans (hb2.mono hb.size))); rwa [ha, g4] at this)
set_option maxHeartbeats 4000000 in
theorem step_pass_ (h : PBok M L b.td b.a ps) (hkm : KbM w 0 w.heap.size b ps) (hM : 0 ≤ M ∧ M ≤ 100000000000) (hL : 1 ≤ L ∧ L + 40 ≤ 9000) (htd : b.td + 40 ≤ 2000000) (n : Int) (hn : 0 ≤ n ∧ n ≤ 40) (hr : Ov.right ⟨9, 0, 0, n, Pv.zero, Nv.zero⟩ = 0) : Calls Tryz.prog 14 #[.agg b.arr, .agg (Ov.kb ⟨9, 0, 0, n, Pv.zero, Nv.zero⟩)] w (BStep M L w b ⟨9, 0, 0, n, Pv.zero, Nv.zero⟩) := by
  have hln := h.lens (by omega)
  have hlen := h.len
  have hday := h.day
  have each : ∀ k, ∃ A' : Av, k < 32 → (b.a k = Av.zero ∧ A' = Av.zero) ∨ ((b.a k).st ≠ 0 ∧ ∃ (s' : Sv) (kp : Nat) (P : Pv), s'.pl = (kp : Int) ∧ (b.a k).pl = (kp : Int) ∧ ps[kp]? = some P ∧ Sta (M + 1100000000) (L + 40) P (b.td + n) s' ∧ A' = s'.tell ∧ ∀ (W : World) (v : Value), Cys W 0 W.heap.size v (b.a k).l → Calls Tryz.prog 58 #[.agg ((b.a k).arr v), .agg P.arr, .int .i64 (b.td + n)] W (News W A')) := fun k => by
    by_cases hk : k < 32
    · rcases h.sub k hk with g | ⟨s, kp, P, g1, g2, g3, g4⟩
      · exact ⟨Av.zero, fun _ => .inl ⟨g, rfl⟩⟩
      · obtain ⟨p1, p2, p3, p4⟩ := h.okAt g2
        obtain ⟨s', D⟩ := g3.day (y' := b.td + n) p1 (by omega) (by omega) (by omega) hM.2 (by omega) (by omega)
        refine ⟨s'.tell, fun _ => .inr ⟨by rw [g4]; exact tell_st g3, s', kp, P, by rw [D.pl, g1], by rw [g4]; exact g1, g2, D.sta.more (by omega) (by omega), rfl, fun W v hc => ?_⟩⟩
        rw [g4] at hc ⊢
        exact D.calls W v hc
    · exact ⟨Av.zero, fun g => absurd g hk⟩
  obtain ⟨A', hA⟩ : ∃ A' : Nat → Av, ∀ k, k < 32 → (b.a k = Av.zero ∧ A' k = Av.zero) ∨ ((b.a k).st ≠ 0 ∧ ∃ (s' : Sv) (kp : Nat) (P : Pv), s'.pl = (kp : Int) ∧ (b.a k).pl = (kp : Int) ∧ ps[kp]? = some P ∧ Sta (M + 1100000000) (L + 40) P (b.td + n) s' ∧ A' k = s'.tell ∧ ∀ (W : World) (v : Value), Cys W 0 W.heap.size v (b.a k).l → Calls Tryz.prog 58 #[.agg ((b.a k).arr v), .agg P.arr, .int .i64 (b.td + n)] W (News W (A' k))) := ⟨fun k => Classical.choose (each k), fun k => Classical.choose_spec (each k)⟩
  clear each
  refine (bkstep_pass_yes (td' := b.td + n) (A' := A') hr rfl hkm (by omega) (fun k hk => by have := hln k hk; omega) (Lib.hid fun W c _ ht ha hc => ?_)).mono fun e w' g => .inr ⟨_, _, _, g, ⟨by omega, h.len, h.pok, fun k hk => ?_, fun k h3 hk => ?_⟩, by omega, fun g => absurd rfl g⟩
  · have := passed_yes (A' := A') n hc.one hc.ps (by rw [ht]; omega) (by omega) (by rw [ht]; omega) (fun k hk h0 => ?_) (fun k hk h0 => ⟨?_⟩)
    · rw [ht] at this; exact this
    · rw [ha] at h0 ⊢
      rcases hA k hk with ⟨g1, g2⟩ | ⟨g1, _⟩
      · rw [g1, g2]
      · exact absurd h0 g1
    · rw [ha] at h0
      rcases hA k hk with ⟨g1, _⟩ | ⟨_, s', kp, P, _, g2, g3, _, _, g5⟩
      · rw [g1] at h0; exact absurd rfl h0
      · refine ⟨P, kp, by rw [ha]; exact g2, g3, fun W' hb => ?_⟩
        rw [ha, ht]
        exact g5 W' _ (by have := hc.at_ hk hb; rwa [ha] at this)
  · rcases hA k hk with ⟨_, g2⟩ | ⟨_, s', kp, P, g1, _, g3, g4, g5, _⟩
    · exact .inl g2
    · exact .inr ⟨s', kp, P, g1, g3, g4, g5⟩
  · rcases hA k hk with ⟨_, g2⟩ | ⟨g1, _⟩
    · exact g2
    · exact absurd (by rw [h.low k h3 hk]; rfl) g1
/-- Any order of the law's forms. -/
theorem bok_any (h : PBok M L b.td b.a ps) (hkm : KbM w 0 w.heap.size b ps) (hM : 0 ≤ M ∧ M ≤ 100000000000) (hL : 1 ≤ L ∧ L + 40 ≤ 9000) (htd : b.td + 40 ≤ 2000000) (hf : OForm o) (hr : o.right = 0) : Calls Tryz.prog 14 #[.agg b.arr, .agg o.kb] w (BStep M L w b o) := by
  cases hf with
  | def_ P hP hpr => exact step_def h hkm hL.2 P hP hpr hr
  | opn_ i n hi => exact step_open h hkm hM.1 hL hi hr
  | chg i n hi => exact step_chg h hkm hM hL hi hr
  | one k hk i hi => exact step_one h hkm hM hL k hk hi hr
  | pass n hn => exact step_pass_ h hkm hM hL htd n hn hr
  | hear NK i m T A V hi => exact step_hear_ h hkm hM hL NK m T A V hi hr
end
end Go.Proofs.YtkdajjbhmmgbkaaGreat
