/-
  What is asked, answered by Yes, is heard once. No conditions but the sizes.
-/
import Derived.Test.YtkdajjbhmmgbkaaBa51
set_option linter.unusedSimpArgs false
set_option linter.unusedVariables false
namespace Go.Proofs.Ytkdajjbhmmgbkaa
set_option linter.unusedVariables false
set_option linter.unusedSimpArgs false
set_option maxRecDepth 100000
open Go.ChangeShapes Go.WideShapes Go.ChangeAt Go.RowKit

theorem kind_inj {p q : Int} (h : Cy.kind p = Cy.kind q) (h0 : Cy.kind q ≠ 0) : p = q := by
  unfold Cy.kind at h h0
  by_cases a1 : p = 1
  · by_cases b1 : q = 1
    · omega
    · rw [if_pos a1, if_neg b1] at h; repeat' split at h
      all_goals omega
  · rw [if_neg a1] at h
    by_cases b1 : q = 1
    · rw [if_pos b1] at h; repeat' split at h
      all_goals omega
    · rw [if_neg b1] at h h0
      repeat' split at h
      all_goals (first | omega | (repeat' split at h0) <;> omega)
section
variable {M L y : Int} {p : Pv} {s : Sv}
theorem sub_asked (h : Sta M L p y s) (hM : M ≤ 100000000000) (hL : L ≤ 9000) (hy : 0 ≤ y ∧ y ≤ 3652058) (i : Int) (hi : 0 ≤ i ∧ i < 32) {nv : Nv} (hq : nv ∈ asksOf i (opn s.l)) :
    nv.v = 0 ∧ nv.s = i ∧ (⟨nv.k, nv.s, nv.c, nv.t, nv.a, 1⟩ : Nv).Ans ∧ ∃ s', Sta M L p y s' ∧ s'.pl = s.pl ∧
      (∀ (W : World) (v : Value), Cys W 0 W.heap.size v s.tell.l → Calls Try.prog 31 #[.int .i64 i, .agg (s.tell.arr v), .agg #[.int .u8 nv.k, .int .i64 nv.s, .int .i64 nv.c, .int .i64 nv.t, .int .i64 nv.a, .int .u8 1], .int .i64 y] W (Ansk 0 s'.tell W)) ∧
      (∀ (W : World) (v : Value), Cys W 0 W.heap.size v s'.tell.l → Calls Try.prog 31 #[.int .i64 i, .agg (s'.tell.arr v), .agg #[.int .u8 nv.k, .int .i64 nv.s, .int .i64 nv.c, .int .i64 nv.t, .int .i64 nv.a, .int .u8 1], .int .i64 y] W (Ansk 10 Av.zero W)) := by
  have hl := h.lens hL
  obtain ⟨f1, f2, f3, f4, f5⟩ := h.fits hM hL
  obtain ⟨q, hqq⟩ := List.getElem?_of_mem hq
  obtain ⟨m, c, hm, hcp, hnv, hs, hnc, hv, hH⟩ := h.ok.asked hqq
  have hH1 := hH 1 (by decide)
  have hck : Cy.kind c.p ≠ 0 := hH1.1
  have hask : c.ask i = ⟨Cy.kind c.p, i, c.n, if c.p = 1 then c.t else 0, if c.p = 1 ∨ c.p = 6 then c.a else 0, 0⟩ := if_neg hck
  have hmem : c ∈ s.l := List.mem_of_getElem? hm
  have hzok := h.ok.cs c hmem
  have hmlt : m < s.l.length := (List.getElem?_eq_some_iff.1 hm).1
  have hkk : nv.k = Cy.kind c.p := by rw [hnv, hask]
  have htt : nv.t = if c.p = 1 then c.t else 0 := by rw [hnv, hask]
  have haa : nv.a = if c.p = 1 ∨ c.p = 6 then c.a else 0 := by rw [hnv, hask]
  have hkb : 1 ≤ Cy.kind c.p ∧ Cy.kind c.p ≤ 5 := by unfold Cy.kind at hck ⊢; repeat' split
                                                     all_goals first | omega | (rename_i g; simp_all)
  have hAns : (⟨nv.k, nv.s, nv.c, nv.t, nv.a, 1⟩ : Nv).Ans := by
    have h1 := hzok.t0; have h2 := hzok.t1; have h3 := hzok.a0; have h4 := hzok.a1
    refine ⟨by show 1 ≤ nv.k; omega, by show nv.k ≤ 5; omega, by show (1 : Int) ≤ 1; decide, by show (1 : Int) ≤ 3; decide, by show 0 ≤ nv.s; omega, by show nv.s < 32; omega, by show 0 ≤ nv.c; omega, by show nv.c ≤ 3652058; have := hl.1; omega, ?_, ?_, ?_, ?_⟩
    · show 0 ≤ nv.t; rw [htt]; split <;> omega
    · show nv.t ≤ 100; rw [htt]; split <;> omega
    · show 0 ≤ nv.a; rw [haa]; split <;> omega
    · show nv.a ≤ _; rw [haa]; split <;> omega
  have hzn := hzok.next 1 y (s.st == 3)
  obtain ⟨hzu, hznn⟩ := next_same c 1 y (s.st == 3)
  obtain ⟨hsok, j, hj1, hj2, htell⟩ := h.ok.heard hm hcp hzn hzu hznn
  have hsta' := h.heard hm hcp hzn hzu hznn
  have hnp := next_p c 1 y (s.st == 3) hck
  obtain ⟨z, hz⟩ : ∃ z, c.next 1 y (s.st == 3) = z := ⟨_, rfl⟩
  rw [hz] at hzn hzu hznn hsok htell hsta' hnp
  refine ⟨hv, hs, hAns, _, hsta', rfl, fun W v hc => ?_, fun W v hc => ?_⟩
  · obtain ⟨cn, cd, cp, ca, cu, ct, cx, cg⟩ := c
    have hherr : Cv.herr i ⟨cn, cd, cp, ca, cu, ct, cx, cg⟩ ⟨nv.k, nv.s, nv.c, nv.t, nv.a, 1⟩ = 0 := if_pos hH1
    have hhear : Cv.hear i ⟨cn, cd, cp, ca, cu, ct, cx, cg⟩ ⟨nv.k, nv.s, nv.c, nv.t, nv.a, 1⟩ y (s.tell.st == 3) = z := (if_pos hH1).trans hz
    refine (hear_some (a := s.tell) (j := j) (m := 10000) i y cn cd cp ca cu ct cx cg nv.k nv.s nv.c nv.t nv.a 1 hc (by have := hl.2; omega) (by rw [hnc]; exact hj2) hj1 (by omega) (by omega) (Lib.hid f1) (by omega) f2 (by rw [hhear]; exact hzn.fit hM)).mono ?_
    rintro e w' ⟨g1, _⟩
    rw [hhear] at g1
    rw [htell]
    exact News.ansk _ _ (g1 hherr)
  · have hl' := hsta'.lens hL
    obtain ⟨e1, e2, _, _, _⟩ := hsta'.fits hM hL
    have hm' : (s.l.set m z)[m]? = some z := by rw [List.getElem?_set_self hmlt]
    by_cases hz7 : z.p < 7
    · obtain ⟨j', k1, k2, _⟩ := Num.found (l := s.l.set m z) hsok.num hm' hz7
      have hNH : ¬ z.Heard i ⟨nv.k, nv.s, nv.c, nv.t, nv.a, 1⟩ := fun g => by
        obtain ⟨g1, _, g3⟩ := g
        have g4 : z.ask i = ⟨Cy.kind z.p, i, z.n, if z.p = 1 then z.t else 0, if z.p = 1 ∨ z.p = 6 then z.a else 0, 0⟩ := if_neg g1
        rw [g4] at g3
        injection g3 with g5
        exact hnp (kind_inj (by rw [← g5, hkk]) hck)
      have hzf := hzn.fit hM
      obtain ⟨zn, zd, zp, za, zu, zt, zx, zg⟩ := z
      have hherr : Cv.herr i ⟨zn, zd, zp, za, zu, zt, zx, zg⟩ ⟨nv.k, nv.s, nv.c, nv.t, nv.a, 1⟩ = 10 := if_neg hNH
      refine (hear_some (a := Sv.tell _) (j := j') (m := 10000) i y zn zd zp za zu zt zx zg nv.k nv.s nv.c nv.t nv.a 1 hc (by have := hl'.2; omega) (by rw [hnc]; exact k2) k1 (by omega) (by omega) (Lib.hid e1) (by omega) e2 (by unfold Cv.hear; rw [if_neg hNH]; exact hzf)).mono ?_
      rintro e w' ⟨_, g2⟩
      rw [hherr] at g2
      exact Refused.ansk (by decide) _ _ (g2 (by decide))
    · refine (hear_none (a := Sv.tell _) i y nv.k nv.s nv.c nv.t nv.a 1 hc (by have := hl'.2; omega) (fun c2 hc2 he => ?_)).mono (Refused.ansk (by decide))
      obtain ⟨h1, h2⟩ := opn_mem (l := s.l.set m z) hc2
      obtain ⟨m2, hm2⟩ := List.getElem?_of_mem h1
      have hn2 := hsok.num m2 c2 hm2
      obtain rfl : m2 = m := by omega
      rw [hm'] at hm2
      injection hm2 with e3
      rw [← e3] at h2
      exact hz7 h2
end
/-- The order by which what is asked is answered by Yes. -/
def hearo (nv : Nv) : Ov := ⟨10, 0, 0, 0, Pv.zero, ⟨nv.k, nv.s, nv.c, nv.t, nv.a, 1⟩⟩
theorem hearo_right {nv : Nv} (h : (⟨nv.k, nv.s, nv.c, nv.t, nv.a, 1⟩ : Nv).Ans) : (hearo nv).right = 0 := by
  have h1 : (hearo nv).Num := .inr (.inr (.inr (.inr ⟨rfl, h⟩)))
  have h2 : hearo nv = (hearo nv).named := rfl
  unfold Ov.right
  rw [if_pos ⟨h1, h2⟩]
  exact if_neg (by show ¬ (10 : Int) = 1; decide)
section
variable {M L : Int} {w : World} {b : Kb} {ps : List Pv}
theorem step_asked (h : PBok M L b.td b.a ps) (hkm : KbM w 0 w.heap.size b ps) (hM : 0 ≤ M ∧ M ≤ 100000000000) (hL : 1 ≤ L ∧ L + 40 ≤ 9000) {nv : Nv} (hq : nv ∈ asksK b.a 32) :
    Calls Try.prog 14 #[.agg b.arr, .agg (hearo nv).kb] w fun e w' => ∃ c : Kb, e = .returned (.tuple #[.agg c.arr, .int .i64 0]) ∧ c.One ∧ Below w.heap.size w w' ∧ ∀ W, Below w'.heap.size w' W → Calls Try.prog 14 #[.agg c.arr, .agg (hearo nv).kb] W (StNo 10 W) := by
  obtain ⟨i, hi, hmem⟩ := asksK_mem 32 hq
  have hln := h.lens (by omega)
  have hlen := h.len
  have htd := h.day
  rcases h.sub i hi with g | ⟨s, kp, P, g1, g2, g3, g4⟩
  · rw [g] at hmem; cases hmem
  have hst : (b.a i).st ≠ 0 := by rw [g4]; exact tell_st g3
  rw [g4] at hmem
  obtain ⟨hv, hs, hAns, s', q1, q2, q3, q4⟩ := sub_asked g3 hM.2 (by omega) (by omega) (i : Int) (by omega) hmem
  have hr := hearo_right hAns
  obtain ⟨NK, NS, m, T, A, V⟩ := nv
  dsimp only at hv hs
  subst hs
  refine (bkstep_hear (o := hearo ⟨NK, i, m, T, A, V⟩) (x := 0) (A' := s'.tell) hr rfl hkm (by omega) (fun k hk => by have := hln k hk; omega) hi rfl (Lib.hid fun W c _ ht ha hc => heard_some NK m T A 1 hi hc.one (by rw [ha]; exact hst) (Lib.hid fun W' hb => by rw [ha, g4, ht]; exact q3 W' _ (by have := hc.at_ hi hb; rwa [ha, g4] at this)))).mono ?_
  rintro e w' h9
  obtain ⟨c, hct, hca, rfl, hk, hb⟩ := h9.2 rfl
  refine ⟨c, rfl, hk.one, hb, fun W hW => ?_⟩
  have hci : c.a i = s'.tell := (hca i hi).trans (if_pos rfl)
  have hkW : KbM W 0 W.heap.size c ps := ((hk.below hW).more (Nat.zero_le _) hW.size)
  refine (bkstep_hear (o := hearo ⟨NK, i, m, T, A, V⟩) (x := 10) (A' := Av.zero) hr rfl hkW (by omega) (fun k hk2 => ?_) hi rfl (Lib.hid fun W2 c2 _ ht ha hc => heard_some NK m T A 1 hi hc.one (by rw [ha, hci]; exact tell_st q1) (Lib.hid fun W' hb2 => by rw [ha, hci, ht, hct]; exact q4 W' _ (by have := hc.at_ hi hb2; rwa [ha, hci] at this)))).mono fun e w2 h8 => h8.1 (by decide)
  rw [hca k hk2]
  show (if k = i then s'.tell else b.a k).l.length ≤ 1000000
  by_cases e : k = i
  · rw [if_pos e]; have := (q1.lens (by omega)).2; omega
  · rw [if_neg e]; have := hln k hk2; omega
end
theorem asksK_split {a : Nat → Av} {m : Nat} : ∀ n, m ≤ n → ∃ r, asksK a n = asksK a m ++ r
  | 0, h => by obtain rfl : m = 0 := by omega
               exact ⟨[], (List.append_nil _).symm⟩
  | n + 1, h => by
    by_cases e : m = n + 1
    · subst e; exact ⟨[], (List.append_nil _).symm⟩
    · obtain ⟨r, hr⟩ := asksK_split (a := a) (m := m) n (by omega)
      exact ⟨r ++ asksOf (n : Int) (a n).l, by rw [asksK, hr, List.append_assoc]⟩
theorem asksK_get {a : Nat → Av} {s k : Nat} {c : Cv} (hs : s < 32) (hk : (a s).l[k]? = some c) (hc : c.asks = true) : (asksK a 32)[(asksK a s).length + (asksOf (s : Int) ((a s).l.take k)).length]? = some (c.ask (s : Int)) := by
  obtain ⟨r, hr⟩ := asksK_split (a := a) (m := s + 1) 32 (by omega)
  have hlt : k < (a s).l.length := (List.getElem?_eq_some_iff.1 hk).1
  have hce : (a s).l[k] = c := (List.getElem?_eq_some_iff.1 hk).2
  have hl : (a s).l = (a s).l.take k ++ (c :: (a s).l.drop (k + 1)) := by
    rw [← hce, List.getElem_cons_drop, List.take_append_drop]
  have h1 : asksOf (s : Int) (a s).l = asksOf (s : Int) ((a s).l.take k) ++ (c.ask (s : Int) :: asksOf (s : Int) ((a s).l.drop (k + 1))) := by
    rw [congrArg (asksOf (s : Int)) hl, asksOf_append]
    show _ ++ ((if c.asks = true then [c.ask (s : Int)] else []) ++ _) = _
    rw [if_pos hc]; rfl
  rw [hr, asksK, h1, List.append_assoc, List.append_assoc, List.getElem?_append_right (by omega), Nat.add_sub_cancel_left, List.getElem?_append_right (by omega), Nat.sub_self]
  rfl
theorem asksOf_all {s : Int} {l : List Cv} {k : Nat} (h : l.length ≤ k) : asksOf s (l.take k) = asksOf s l := by rw [List.take_of_length_le h]
end Go.Proofs.Ytkdajjbhmmgbkaa
