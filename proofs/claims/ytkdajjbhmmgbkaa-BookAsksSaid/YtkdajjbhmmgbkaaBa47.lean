/-
  Any order told to the program's book whose numbers are small: they stay so. No conditions but the sizes.
-/
import Derived.Test.YtkdajjbhmmgbkaaBa46
set_option linter.unusedSimpArgs false
set_option linter.unusedVariables false
namespace Go.Proofs.Ytkdajjbhmmgbkaa
set_option linter.unusedVariables false
set_option linter.unusedSimpArgs false
set_option maxRecDepth 100000
open Go.ChangeShapes Go.WideShapes Go.ChangeAt Go.RowKit

section
variable {M L : Int} {w : World} {b : Kb} {ps : List Pv} {o : Ov}
theorem KbM.psAt {W W' : World} {c : Kb} (hc : KbM W 0 W.heap.size c ps) (hb : Below W.heap.size W W') : Pys W' 0 W'.heap.size c.vp ps := (hc.ps.below hb).more (Nat.le_refl _) hb.size
set_option maxHeartbeats 4000000 in
theorem step_chg (h : PBok M L b.td b.a ps) (hkm : KbM w 0 w.heap.size b ps) (hM : 0 ≤ M ∧ M ≤ 100000000000) (hL : 1 ≤ L ∧ L + 40 ≤ 9000) {i n : Nat} (hi : i < 32) (hr : Ov.right ⟨3, i, n, 0, Pv.zero, Nv.zero⟩ = 0) : Calls Try.prog 14 #[.agg b.arr, .agg (Ov.kb ⟨3, i, n, 0, Pv.zero, Nv.zero⟩)] w (BStep M L w b ⟨3, i, n, 0, Pv.zero, Nv.zero⟩) := by
  have hln := h.lens (by omega)
  have hlen := h.len
  have htd := h.day
  have how : ((Ov.mk 3 i n 0 Pv.zero Nv.zero).k = 10 ∧ (Ov.mk 3 i n 0 Pv.zero Nv.zero).A.s = (i : Int)) ∨ ((Ov.mk 3 i n 0 Pv.zero Nv.zero).k ≠ 10 ∧ (Ov.mk 3 i n 0 Pv.zero Nv.zero).k ≠ 1 ∧ (Ov.mk 3 i n 0 Pv.zero Nv.zero).s = (i : Int)) := .inr ⟨by show (3 : Int) ≠ 10; decide, by show (3 : Int) ≠ 1; decide, rfl⟩
  have hk3 : 3 ≤ (Ov.mk 3 i n 0 Pv.zero Nv.zero).k ∧ (Ov.mk 3 i n 0 Pv.zero Nv.zero).k ≤ 8 := by show (3 : Int) ≤ 3 ∧ (3 : Int) ≤ 8; decide
  rcases h.sub i hi with g | ⟨s, kp, P, g1, g2, g3, g4⟩
  · exact (bkstep_other (x := 2) (A' := Av.zero) hr hk3 hkm (by omega) (fun k hk => by have := hln k hk; omega) hi rfl (Lib.hid fun W c _ _ ha hc => ordered_none 3 (n : Int) hi hc.one (by rw [ha, g]; rfl))).mono (ans_step h (fun g => absurd g (by decide)) how)
  have hst : (b.a i).st ≠ 0 := by rw [g4]; exact tell_st g3
  by_cases hn : ps.length ≤ n
  · exact (bkstep_other (x := 2) (A' := Av.zero) hr hk3 hkm (by omega) (fun k hk => by have := hln k hk; omega) hi rfl (Lib.hid fun W c _ _ ha hc => ordered_change (n : Int) hi hc.one (by rw [ha]; exact hst) (Lib.hid fun W' hb => changed_none (n : Int) (hc.psAt hb) (by omega) (hc.one.2 i hi)))).mono (ans_step h (fun g => absurd g (by decide)) how)
  obtain ⟨Q, hQ⟩ : ∃ Q, ps[n]? = some Q := ⟨_, List.getElem?_eq_getElem (by omega)⟩
  obtain ⟨p1, p2, p3, p4⟩ := h.okAt g2
  obtain ⟨q1, q2, q3, q4⟩ := h.okAt hQ
  obtain ⟨x, s', hc1, hc2⟩ := sub_change (kq := n) g3 hM.2 (by omega) p1 p2 q1 g1 htd
  refine (bkstep_other (x := x) (A' := s'.tell) hr hk3 hkm (by omega) (fun k hk => by have := hln k hk; omega) hi rfl (Lib.hid fun W c _ ht ha hc => ordered_change (n : Int) hi hc.one (by rw [ha]; exact hst) (Lib.hid fun W' hb => changed_yes (kp := kp) (hc.psAt hb) hQ g2 (by rw [ha, g4]; exact g1) (hc.one.2 i hi) (Lib.hid fun W2 hb2 => ?_)))).mono (ans_step h (fun hx => ⟨s', n, Q, (hc2 hx).2, hQ, (hc2 hx).1.more (by omega) (by omega), rfl⟩) how)
  rw [ha, g4, ht]
  exact hc1 W2 _ (by have := (hc.at_ hi (hb.trans (hb2.mono hb.size))); rwa [ha, g4] at this)
set_option maxHeartbeats 4000000 in
theorem step_pass_ (h : PBok M L b.td b.a ps) (hkm : KbM w 0 w.heap.size b ps) (hM : 0 ≤ M ∧ M ≤ 100000000000) (hL : 1 ≤ L ∧ L + 40 ≤ 9000) (htd : b.td + 40 ≤ 2000000) (n : Int) (hn : 0 ≤ n ∧ n ≤ 40) (hr : Ov.right ⟨9, 0, 0, n, Pv.zero, Nv.zero⟩ = 0) : Calls Try.prog 14 #[.agg b.arr, .agg (Ov.kb ⟨9, 0, 0, n, Pv.zero, Nv.zero⟩)] w (BStep M L w b ⟨9, 0, 0, n, Pv.zero, Nv.zero⟩) := by
  have hln := h.lens (by omega)
  have hlen := h.len
  have hday := h.day
  have each : ∀ k, ∃ A' : Av, k < 32 → (b.a k = Av.zero ∧ A' = Av.zero) ∨ ((b.a k).st ≠ 0 ∧ ∃ (s' : Sv) (kp : Nat) (P : Pv), s'.pl = (kp : Int) ∧ (b.a k).pl = (kp : Int) ∧ ps[kp]? = some P ∧ Sta (M + 1100000000) (L + 40) P (b.td + n) s' ∧ A' = s'.tell ∧ ∀ (W : World) (v : Value), Cys W 0 W.heap.size v (b.a k).l → Calls Try.prog 19 #[.agg ((b.a k).arr v), .agg P.arr, .int .i64 (b.td + n)] W (News W A')) := fun k => by
    by_cases hk : k < 32
    · rcases h.sub k hk with g | ⟨s, kp, P, g1, g2, g3, g4⟩
      · exact ⟨Av.zero, fun _ => .inl ⟨g, rfl⟩⟩
      · obtain ⟨p1, p2, p3, p4⟩ := h.okAt g2
        obtain ⟨s', D⟩ := g3.day (y' := b.td + n) p1 (by omega) (by omega) (by omega) hM.2 (by omega) (by omega)
        refine ⟨s'.tell, fun _ => .inr ⟨by rw [g4]; exact tell_st g3, s', kp, P, by rw [D.pl, g1], by rw [g4]; exact g1, g2, D.sta.more (by omega) (by omega), rfl, fun W v hc => ?_⟩⟩
        rw [g4] at hc ⊢
        exact D.calls W v hc
    · exact ⟨Av.zero, fun g => absurd g hk⟩
  obtain ⟨A', hA⟩ : ∃ A' : Nat → Av, ∀ k, k < 32 → (b.a k = Av.zero ∧ A' k = Av.zero) ∨ ((b.a k).st ≠ 0 ∧ ∃ (s' : Sv) (kp : Nat) (P : Pv), s'.pl = (kp : Int) ∧ (b.a k).pl = (kp : Int) ∧ ps[kp]? = some P ∧ Sta (M + 1100000000) (L + 40) P (b.td + n) s' ∧ A' k = s'.tell ∧ ∀ (W : World) (v : Value), Cys W 0 W.heap.size v (b.a k).l → Calls Try.prog 19 #[.agg ((b.a k).arr v), .agg P.arr, .int .i64 (b.td + n)] W (News W (A' k))) := ⟨fun k => Classical.choose (each k), fun k => Classical.choose_spec (each k)⟩
  clear each
  refine (bkstep_pass_yes (td' := b.td + n) (A' := A') hr rfl hkm (by omega) (fun k hk => by have := hln k hk; omega) (Lib.hid fun W c _ ht ha hc => ?_)).mono fun e w' g => .inr ⟨_, _, _, g, ⟨by omega, h.len, h.pok, fun k hk => ?_⟩, by omega, fun g => absurd rfl g⟩
  · have := passed_yes (A' := A') n hc.one hc.ps (by rw [ht]; omega) (by omega) (by rw [ht]; omega) (fun k hk h0 => ?_) (fun k hk h0 => ⟨?_⟩)
    · rw [ht] at this; exact this
    · rw [ha] at h0 ⊢
      rcases hA k hk with ⟨g1, g2⟩ | ⟨g1, _⟩
      · rw [g1, g2]
      · exact absurd h0 g1
    · rw [ha] at h0
      rcases hA k hk with ⟨g1, _⟩ | ⟨_, s', kp, P, _, g2, g3, _, _, g5⟩
      · rw [g1] at h0; exact absurd rfl h0
      · refine ⟨P, kp, by rw [ha]; exact g2, g3, fun W' hb => ?_⟩
        rw [ha, ht]
        exact g5 W' _ (by have := hc.at_ hk hb; rwa [ha] at this)
  · rcases hA k hk with ⟨_, g2⟩ | ⟨_, s', kp, P, g1, _, g3, g4, g5, _⟩
    · exact .inl g2
    · exact .inr ⟨s', kp, P, g1, g3, g4, g5⟩
/-- Any order of the law's forms. -/
theorem bok_any (h : PBok M L b.td b.a ps) (hkm : KbM w 0 w.heap.size b ps) (hM : 0 ≤ M ∧ M ≤ 100000000000) (hL : 1 ≤ L ∧ L + 40 ≤ 9000) (htd : b.td + 40 ≤ 2000000) (hf : OForm o) (hr : o.right = 0) : Calls Try.prog 14 #[.agg b.arr, .agg o.kb] w (BStep M L w b o) := by
  cases hf with
  | def_ P hP hpr => exact step_def h hkm hL.2 P hP hpr hr
  | opn_ i n hi => exact step_open h hkm hM.1 hL hi hr
  | chg i n hi => exact step_chg h hkm hM hL hi hr
  | one k hk i hi => exact step_one h hkm hM hL k hk hi hr
  | pass n hn => exact step_pass_ h hkm hM hL htd n hn hr
  | hear NK i m T A V hi => exact step_hear_ h hkm hM hL NK m T A V hi hr
end
end Go.Proofs.Ytkdajjbhmmgbkaa
