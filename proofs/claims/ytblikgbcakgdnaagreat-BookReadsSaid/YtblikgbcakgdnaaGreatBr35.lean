/-
  The program's book, told any order that may be: it answers as the book by values does. No conditions but the sizes.
-/
import Derived.Test.YtblikgbcakgdnaaGreatBr34
set_option linter.unusedSimpArgs false
set_option linter.unusedVariables false
namespace Go.Proofs.YtblikgbcakgdnaaGreat
set_option linter.unusedVariables false
set_option linter.unusedSimpArgs false
set_option maxRecDepth 100000
open Go.ChangeShapes Go.WideShapes Go.ChangeAt Go.RowKit

/-- What the program's Step answers. -/
def KbAns (x : Int) (B' : Bs) (W : World) (e : Ending) (w' : World) : Prop := (x ≠ 0 → StNo x W e w') ∧ (x = 0 → ∃ c : Kb, e = .returned (.tuple #[.agg c.arr, .int .i64 0]) ∧ KbR w' W.heap.size w'.heap.size c B' ∧ Below W.heap.size W w')
theorem StNo.ans {x : Int} {B' : Bs} {W : World} (hx : x ≠ 0) : ∀ e w', StNo x W e w' → KbAns x B' W e w' := fun e w' h => ⟨fun _ => h, fun g => absurd g hx⟩
theorem StYes.ans {td' : Int} {a' : Nat → Av} {ps' : List Pv} {B' : Bs} {W : World} (h1 : td' = B'.td) (h2 : ps' = B'.ps) (h3 : ∀ k, k < 32 → a' k = (B'.s k).tell) : ∀ e w', StYes td' a' ps' W e w' → KbAns 0 B' W e w' := by
  rintro e w' ⟨c, g1, g2, g3, g4, g5⟩
  subst h2
  exact ⟨fun g => absurd rfl g, fun _ => ⟨c, g3, ⟨g1.trans h1, g4, fun k hk => (g2 k hk).trans (h3 k hk)⟩, g5⟩⟩
theorem StAns.ans {x td' : Int} {a' : Nat → Av} {ps' : List Pv} {B' : Bs} {W : World} (hx : x = 0) (h1 : td' = B'.td) (h2 : ps' = B'.ps) (h3 : ∀ k, k < 32 → a' k = (B'.s k).tell) : ∀ e w', StAns x td' a' ps' W e w' → KbAns x B' W e w' := by
  subst hx
  exact fun e w' g => StYes.ans h1 h2 h3 e w' (g.2 rfl)
theorem StAns.no {x td' : Int} {a' : Nat → Av} {ps' : List Pv} {B' : Bs} {W : World} (hx : x ≠ 0) : ∀ e w', StAns x td' a' ps' W e w' → KbAns x B' W e w' := fun e w' g => StNo.ans hx e w' (g.1 hx)
section
variable {M L : Int} {ps : List Pv} {P : Pv} {y : Int} {s s' : Sv} {K n : Nat} {x : Int}
theorem sub1_pause (h : Sub1 ps P y s K n x s') (hK : K = 4) (hs : Sta M L P y s) (hL : L ≤ 9000) : ∀ (W : World) (v : Value), Cys W 0 W.heap.size v s.tell.l → Calls Tryz.prog 61 #[.agg (s.tell.arr v)] W (Ansk x s'.tell W) := by
  have hl := (hs.lens hL).2
  intro W v hc
  cases h with
  | pause_yes h1 => exact (pause_yes (a := s.tell) h1 hc (by omega)).mono News.ansk
  | pause_no h1 => exact (pause_no (a := s.tell) h1).mono (Refused.ansk (by decide))
  | _ => exact absurd hK (by decide)
theorem sub1_resume (h : Sub1 ps P y s K n x s') (hK : K = 5) (hs : Sta M L P y s) (hL : L ≤ 9000) : ∀ (W : World) (v : Value), Cys W 0 W.heap.size v s.tell.l → Calls Tryz.prog 62 #[.agg (s.tell.arr v)] W (Ansk x s'.tell W) := by
  have hl := (hs.lens hL).2
  intro W v hc
  cases h with
  | resume_yes h1 => exact (resume_yes (a := s.tell) h1 hc (by omega)).mono News.ansk
  | resume_no h1 => exact (resume_no (a := s.tell) h1).mono (Refused.ansk (by decide))
  | _ => exact absurd hK (by decide)
theorem sub1_skip (h : Sub1 ps P y s K n x s') (hK : K = 6) (hs : Sta M L P y s) (hL : L ≤ 9000) : ∀ (W : World) (v : Value), Cys W 0 W.heap.size v s.tell.l → Calls Tryz.prog 63 #[.agg (s.tell.arr v)] W (Ansk x s'.tell W) := by
  have hl := (hs.lens hL).2
  intro W v hc
  cases h with
  | skip_dead h1 => exact (skip_no (a := s.tell) (.inl (Sta.dead h1))).mono (Refused.ansk (by decide))
  | skip_twice h1 h2 => exact (skip_no (a := s.tell) (.inr ⟨hs.live h1, h2⟩)).mono (Refused.ansk (by decide))
  | skip_yes h1 h2 => exact (skip_yes (a := s.tell) (hs.live h1) h2 hc (by omega)).mono News.ansk
  | _ => exact absurd hK (by decide)
theorem sub1_cancel (h : Sub1 ps P y s K n x s') (hK : K = 7) (hs : Sta M L P y s) (hM : M ≤ 100000000000) (hL : L ≤ 9000) : ∀ (W : World) (v : Value), Cys W 0 W.heap.size v s.tell.l → Calls Tryz.prog 64 #[.agg (s.tell.arr v)] W (Ansk x s'.tell W) := by
  have hl := (hs.lens hL).2
  obtain ⟨f1, f2, f3, f4, f5⟩ := hs.fits hM hL
  intro W v hc
  cases h with
  | cancel_no h1 => exact (cancel_no (a := s.tell) (Sta.dead h1)).mono (Refused.ansk (by decide))
  | cancel_yes h1 =>
    rw [hs.ok.cancelled.2]
    exact (cancel_yes (a := s.tell) (m := 10000) (hs.live h1) hc (by omega) f1 (by omega) f2 f3).mono News.ansk
  | _ => exact absurd hK (by decide)
theorem sub1_card (h : Sub1 ps P y s K n x s') (hK : K = 8) (hs : Sta M L P y s) (hM : M ≤ 100000000000) (hL : L ≤ 9000) : ∀ (W : World) (v : Value), Cys W 0 W.heap.size v s.tell.l → Calls Tryz.prog 65 #[.agg (s.tell.arr v)] W (Ansk x s'.tell W) := by
  have hl := (hs.lens hL).2
  obtain ⟨f1, f2, f3, f4, f5⟩ := hs.fits hM hL
  intro W v hc
  cases h with
  | card_no h1 => exact (acard_no (a := s.tell) (Sta.dead h1)).mono (Refused.ansk (by decide))
  | card_yes h1 =>
    rw [hs.ok.carded.2]
    exact (acard_yes (a := s.tell) (m := 10000) (hs.live h1) hc (by omega) f1 (by omega) f2 f4).mono News.ansk
  | _ => exact absurd hK (by decide)
theorem sub1_change {Q : Pv} (h : Sub1 ps P y s K n x s') (hK : K = 3) (hQ : ps[n]? = some Q) (hq : Q.Ok) (hp : P.Ok) (hs : Sta M L P y s) (hM : M ≤ 100000000000) (hL : L ≤ 9000) (hy : 0 ≤ y ∧ y ≤ 3652058) : ∀ (W : World) (v : Value), Cys W 0 W.heap.size v s.tell.l → Calls Tryz.prog 98 #[.agg (s.tell.arr v), .agg P.arr, .int .i64 (n : Int), .agg Q.arr, .int .i64 y] W (Ansk x s'.tell W) := by
  have hl := (hs.lens hL).2
  obtain ⟨f1, f2, f3, f4, f5⟩ := hs.fits hM hL
  have hnl := (List.getElem?_eq_some_iff.1 hQ).1
  obtain ⟨k0, d0, c0, hAt0, hcn0, hix0, hic0, hcL0⟩ := hs.ex
  intro W v hc
  cases h with
  | change_none _ h1 => omega
  | change_off _ h1 h2 => exact (change_off (a := s.tell) (k := k0) (d := d0) _ _ h1 hAt0 hp.u hp.e hy).mono (Refused.ansk (by decide))
  | change_same _ h1 h2 h3 => exact (change_same (a := s.tell) (k := k0) (d := d0) _ _ h1 h3.symm hAt0 hp.u hp.e hy).mono (Refused.ansk (by decide))
  | change_free _ Q' h1 h2 h3 h4 =>
    have hix0' : s.ix = 0 := by
      have := (Cal.Cnt.before (u := P.u) (e := P.e) hAt0 h4).one hcn0
      have := hix0 (by omega)
      omega
    exact (change_free (a := s.tell) (x1 := 0) (x2 := 0) (x3 := 2) _ _ h1 (Ne.symm h3) hc (by omega) (fun W => span_before _ k0 d0 _ _ _ W hAt0 hp.u.1 hp.u.2 hp.e.1 hp.e.2 hy.1 hy.2 h4) (by decide) (.inl (by decide))).mono News.ansk
  | change_end _ Q' k d h1 h2 h3 h4 h5 h6 h7 => exact (change_long (a := s.tell) (k := k) (d := d) (c := s.ix) _ _ h1 (Ne.symm h3) h5 hp.u hp.e hy h4 h6 h7).mono (Refused.ansk (by decide))
  | change_go _ Q' k d h1 h2 h3 h4 h5 h6 h7 =>
    rw [hQ] at h2
    injection h2 with h2
    subst h2
    have hpos := h6.pos h5 h4
    have := (change_go (a := s.tell) (k := k) (d := d) (c := s.ix) (p := P) (q := Q) (n : Int) y h1 (Ne.symm h3) (by show s.ix ≠ 0; omega) hc (by omega) h5 hp.u hp.e hy h4 h6 h7 (by have := hp.a; omega) (by have := hq.a; omega) f5).mono News.ansk
    refine this.mono ?_
    intro e w' g
    unfold Av.changed Sv.tell at g
    unfold Sv.tell
    dsimp only at g ⊢
    rw [← Int.add_sub_assoc]
    exact g
  | _ => exact absurd hK (by decide)
theorem heard1_calls {i : Nat} {NK C T A V : Int} (h : Heard1 i y s ⟨NK, i, C, T, A, V⟩ x s') (hs : Sta M L P y s) (hM : M ≤ 100000000000) (hL : L ≤ 9000) (hy : 0 ≤ y ∧ y ≤ 3652058) : ∀ (W : World) (v : Value), Cys W 0 W.heap.size v s.tell.l → Calls Tryz.prog 60 #[.int .i64 (i : Int), .agg (s.tell.arr v), .agg #[.int .u8 NK, .int .i64 (i : Int), .int .i64 C, .int .i64 T, .int .i64 A, .int .u8 V], .int .i64 y] W (Ansk x s'.tell W) := by
  have hl := (hs.lens hL).2
  obtain ⟨f1, f2, f3, f4, f5⟩ := hs.fits hM hL
  intro W v hc
  cases h with
  | none h1 => exact (hear_none (a := s.tell) (i : Int) y NK i C T A V hc (by omega) (fun c hc2 he => by obtain ⟨g1, g2⟩ := opn_mem (l := s.l) hc2; exact h1 c g1 g2 he)).mono (Refused.ansk (by decide))
  | no m c h1 h2 h3 h4 =>
    dsimp only at h3
    subst h3
    have hzok := hs.ok.cs c (List.mem_of_getElem? h1)
    have hzn := hzok.next V y (s.st == 3) (by omega)
    obtain ⟨hzu, hznn⟩ := next_same c V y (s.st == 3)
    obtain ⟨hsok, j, hj1, hj2, htell⟩ := hs.ok.heard h1 h2 hzn hzu hznn
    obtain ⟨zn, zd, zp, za, zu, zt, zx, zg⟩ := c
    have hf0 := hzok.fit hM
    have hx : Cv.herr (i : Int) ⟨zn, zd, zp, za, zu, zt, zx, zg⟩ ⟨NK, (i : Int), (m : Int), T, A, V⟩ = 10 := if_neg h4
    refine (hear_some (a := s.tell) (j := j) (m := 10000) (i : Int) y zn zd zp za zu zt zx zg NK i m T A V hc (by omega) hj2 hj1 (by omega) (by omega) (Lib.hid f1) (by omega) f2 (by unfold Cv.hear; rw [if_neg h4]; exact hf0)).mono ?_
    rintro e w' ⟨_, g2⟩
    rw [hx] at g2
    exact Refused.ansk (by decide) _ _ (g2 (by decide))
  | yes m c h1 h2 h3 h4 =>
    dsimp only at h3
    subst h3
    have hzok := hs.ok.cs c (List.mem_of_getElem? h1)
    have hzn := hzok.next V y (s.st == 3) (by omega)
    obtain ⟨hzu, hznn⟩ := next_same c V y (s.st == 3)
    obtain ⟨hsok, j, hj1, hj2, htell⟩ := hs.ok.heard h1 h2 hzn hzu hznn
    obtain ⟨zn, zd, zp, za, zu, zt, zx, zg⟩ := c
    have hherr : Cv.herr (i : Int) ⟨zn, zd, zp, za, zu, zt, zx, zg⟩ ⟨NK, (i : Int), (m : Int), T, A, V⟩ = 0 := if_pos h4
    have hhear : Cv.hear (i : Int) ⟨zn, zd, zp, za, zu, zt, zx, zg⟩ ⟨NK, (i : Int), (m : Int), T, A, V⟩ y (s.tell.st == 3) = Cv.next ⟨zn, zd, zp, za, zu, zt, zx, zg⟩ V y (s.st == 3) := if_pos h4
    refine (hear_some (a := s.tell) (j := j) (m := 10000) (i : Int) y zn zd zp za zu zt zx zg NK i m T A V hc (by omega) hj2 hj1 (by omega) (by omega) (Lib.hid f1) (by omega) f2 (by rw [hhear]; exact hzn.fit hM)).mono ?_
    rintro e w' ⟨g1, _⟩
    rw [hhear] at g1
    show Ansk 0 (Sv.tell _) W e w'
    rw [htell]
    exact News.ansk _ _ (g1 hherr)
end
section
variable {M L : Int} {w : World} {b : Kb} {B B' : Bs} {o : Ov} {x : Int}
theorem KbR.st {b0 c0 : Nat} (hk : KbR w b0 c0 b B) {k : Nat} (h : k < 32) : (b.a k).st = (B.s k).st := by rw [hk.a k h]; rfl
theorem KbR.put {i : Nat} {s : Sv} {td : Int} (ha : ∀ k, k < 32 → b.a k = (B.s k).tell) : ∀ k, k < 32 → (fun k => if k = i then s.tell else b.a k) k = ((B.put i s).s k).tell := fun k hk => by
  by_cases e : k = i
  · subst e; rw [Bs.put_same]; exact if_pos rfl
  · rw [Bs.put_other _ _ e]; exact (if_neg e).trans (ha k hk)
theorem Sub1.zero {ps : List Pv} {P : Pv} {y : Int} {s s' : Sv} {K n : Nat} {x : Int} (h : Sub1 ps P y s K n x s') (hK : K ≠ 3) : n = 0 := by
  cases h with
  | change_none _ _ => exact absurd rfl hK
  | change_off _ _ _ => exact absurd rfl hK
  | change_same _ _ _ _ => exact absurd rfl hK
  | change_free _ _ _ _ _ _ => exact absurd rfl hK
  | change_end _ _ _ _ _ _ _ _ _ _ _ => exact absurd rfl hK
  | change_go _ _ _ _ _ _ _ _ _ _ _ => exact absurd rfl hK
  | _ => rfl
set_option maxHeartbeats 2000000 in
/-- One subscription's order, as the book hands it on. -/
theorem one_calls {ps : List Pv} {P : Pv} {y : Int} {s s' : Sv} {K n i kp : Nat} (h : Sub1 ps P y s K n x s') (hs : Sta M L P y s) (hK : 3 ≤ K ∧ K ≤ 8) (hi : i < 32) (hpl : s.pl = (kp : Int)) (hP : ps[kp]? = some P) (hpok : ∀ Q ∈ ps, Q.Ok ∧ 0 ≤ Q.t ∧ Q.t ≤ 1000) (hM : M ≤ 100000000000) (hL : L ≤ 9000) (hy : 0 ≤ y ∧ y ≤ 3652058) : ∀ (W : World) (c : Kb), c.td = y → c.a i = s.tell → KbM W 0 W.heap.size c ps → Calls Tryz.prog 31 #[.agg c.arr, .agg (Ov.kb ⟨(K : Int), i, n, 0, Pv.zero, Nv.zero⟩)] W (Ansk x s'.tell W) := by
  intro W c ht hca hc
  have hst : (c.a i).st ≠ 0 := by rw [hca]; exact SubIs.st (M := M) (L := L) (ps := ps) (y := y) ⟨kp, P, hpl, hP, hs⟩
  have hcy : ∀ W', Below W.heap.size W W' → Cys W' 0 W'.heap.size (c.v i) s.tell.l := fun W' hb => by have := hc.at_ hi hb; rwa [hca] at this
  rcases (by omega : K = 3 ∨ K = 4 ∨ K = 5 ∨ K = 6 ∨ K = 7 ∨ K = 8) with rfl | rfl | rfl | rfl | rfl | rfl
  · show Calls _ _ #[.agg c.arr, .agg (Ov.kb ⟨3, i, n, 0, Pv.zero, Nv.zero⟩)] W _
    refine ordered_change (n : Int) hi hc.one hst (Lib.hid fun W' hb => ?_)
    by_cases hnl : ps.length ≤ n
    · have hx2 : x = 2 := by
        cases h with
        | change_none _ g => rfl
        | change_off _ g1 g2 => omega
        | change_same _ g1 g2 g3 => omega
        | change_end _ Q k d g1 g2 => have := (List.getElem?_eq_some_iff.1 g2).1; omega
        | change_free _ Q g1 g2 => have := (List.getElem?_eq_some_iff.1 g2).1; omega
        | change_go _ Q k d g1 g2 => have := (List.getElem?_eq_some_iff.1 g2).1; omega
      subst hx2
      exact changed_none (n : Int) (hc.psAt hb) (by omega) (hc.one.2 i hi)
    · obtain ⟨Q, hQ⟩ : ∃ Q, ps[n]? = some Q := ⟨_, List.getElem?_eq_getElem (by omega)⟩
      refine changed_yes (kp := kp) (hc.psAt hb) hQ hP (by rw [hca]; exact hpl) (hc.one.2 i hi) (Lib.hid fun W2 hb2 => ?_)
      rw [hca, ht]
      exact sub1_change h rfl hQ (hpok Q (List.mem_of_getElem? hQ)).1 (hpok P (List.mem_of_getElem? hP)).1 hs hM hL hy W2 _ (hcy W2 (hb.trans (hb2.mono hb.size)))
  · obtain rfl := h.zero (by decide)
    exact ordered_pause hi hc.one hst (Lib.hid fun W' hb => by rw [hca]; exact sub1_pause h rfl hs hL W' _ (hcy W' hb))
  · obtain rfl := h.zero (by decide)
    exact ordered_resume hi hc.one hst (Lib.hid fun W' hb => by rw [hca]; exact sub1_resume h rfl hs hL W' _ (hcy W' hb))
  · obtain rfl := h.zero (by decide)
    exact ordered_skip hi hc.one hst (Lib.hid fun W' hb => by rw [hca]; exact sub1_skip h rfl hs hL W' _ (hcy W' hb))
  · obtain rfl := h.zero (by decide)
    exact ordered_cancel hi hc.one hst (Lib.hid fun W' hb => by rw [hca]; exact sub1_cancel h rfl hs hM hL W' _ (hcy W' hb))
  · obtain rfl := h.zero (by decide)
    exact ordered_card hi hc.one hst (Lib.hid fun W' hb => by rw [hca]; exact sub1_card h rfl hs hM hL W' _ (hcy W' hb))
set_option maxHeartbeats 8000000 in
/-- The program's Step answers as the book by values does. -/
theorem outs_prog (h : BsOk M L B) (hM : 0 ≤ M ∧ M ≤ 100000000000) (hL : 1 ≤ L ∧ L + 60 ≤ 9000) (ho : Outs M L B o x B') (hr : o.right = 0) (hk : KbR w 0 w.heap.size b B) : Calls Tryz.prog 14 #[.agg b.arr, .agg o.kb] w (KbAns x B' w) := by
  have hday := h.day
  have hlen := h.len
  have htd := hk.td
  have hkm := hk.km
  have ha := hk.a
  have hln : ∀ k, k < 32 → (b.a k).l.length ≤ 1000000 := fun k hk2 => by rw [ha k hk2]; have := (h.lens (by omega) k hk2).2; omega
  cases ho with
  | def_no P h1 h2 => exact (bkstep_def_no hr rfl hkm (by omega) hln h1 h2).mono (StNo.ans (by decide))
  | def_yes P h1 h2 => exact (bkstep_def_yes hr rfl hkm (by omega) hln h1 h2).mono (StYes.ans htd rfl ha)
  | opn_none i n hi h1 => exact (bkstep_open (x := 2) (A' := Av.zero) hr rfl hkm (by omega) hln hi rfl (Lib.hid fun W c _ _ _ hc => opened_none (i : Int) (n : Int) hc.ps (by omega))).mono (StAns.no (by decide))
  | opn_there i n P hi h1 h2 => exact (bkstep_open (x := 11) (A' := Av.zero) hr rfl hkm (by omega) hln hi rfl (Lib.hid fun W c _ _ hca hc => opened_there hi hc.ps h1 (by rw [hca, hk.st hi]; exact h2))).mono (StAns.no (by decide))
  | opn_long i n P hi h1 h2 h3 =>
    obtain ⟨p1, p3, p4⟩ := h.okAt h1
    exact (bkstep_open (x := 6) (A' := Av.zero) hr rfl hkm (by omega) hln hi rfl (Lib.hid fun W c _ ht hca hc => opened_long hi hc.ps h1 (by rw [hca, hk.st hi, h2]; rfl) (by rw [ht, htd]; exact hday) ⟨p3, p4⟩ (by rw [ht, htd]; exact h3))).mono (StAns.no (by decide))
  | opn_yes i n P s' hi h1 h2 h3 D =>
    obtain ⟨p1, p3, p4⟩ := h.okAt h1
    have hd : ∀ W, Calls Tryz.prog 58 #[.agg ((Av.opened (n : Int) (b.td + P.t)).arr (.slice none 0 0)), .agg P.arr, .int .i64 b.td] W (News W s'.tell) := fun W => by
      have := D.calls W (.slice none 0 0) Cys.nil
      rw [Sv.begun_tell] at this
      rw [htd]
      exact this
    exact (bkstep_open (x := 0) (A' := s'.tell) hr rfl hkm (by omega) hln hi rfl (Lib.hid fun W c _ ht hca hc => opened_yes hi hc.ps h1 (by rw [hca, hk.st hi, h2]; rfl) (by rw [ht, htd]; exact hday) ⟨p3, p4⟩ (by rw [ht, htd]; exact h3) (Lib.hid (by rw [ht]; exact hd)))).mono (StAns.ans rfl htd rfl (KbR.put (td := 0) ha))
  | one_none K i n hi hK hn h1 => exact (bkstep_other (x := 2) (A' := Av.zero) hr (by show 3 ≤ (K : Int) ∧ (K : Int) ≤ 8; omega) hkm (by omega) hln hi rfl (Lib.hid fun W c _ _ hca hc => ordered_none (K : Int) (n : Int) hi hc.one (by rw [hca, hk.st hi, h1]; rfl))).mono (StAns.no (by decide))
  | one_no K i n x s' kp P hi hK h1 h2 h3 hs hx => exact (bkstep_other (x := x) (A' := s'.tell) hr (by show 3 ≤ (K : Int) ∧ (K : Int) ≤ 8; omega) hkm (by omega) hln hi rfl (Lib.hid fun W c _ ht hca hc => one_calls hs h3 hK hi h1 h2 h.pok hM.2 (by omega) hday W c (by rw [ht, htd]) (by rw [hca]; exact ha i hi) hc)).mono (StAns.no hx)
  | one_yes K i n s' kp P hi hK h1 h2 h3 hs => exact (bkstep_other (x := 0) (A' := s'.tell) hr (by show 3 ≤ (K : Int) ∧ (K : Int) ≤ 8; omega) hkm (by omega) hln hi rfl (Lib.hid fun W c _ ht hca hc => one_calls hs h3 hK hi h1 h2 h.pok hM.2 (by omega) hday W c (by rw [ht, htd]) (by rw [hca]; exact ha i hi) hc)).mono (StAns.ans (B' := B.put i s') rfl htd rfl (KbR.put (td := 0) ha))
  | hear_none i NK C T A V hi h1 => exact (bkstep_hear (x := 10) (A' := Av.zero) hr rfl hkm (by omega) hln hi rfl (Lib.hid fun W c _ _ hca hc => heard_none NK C T A V hi hc.one (by rw [hca, hk.st hi, h1]; rfl))).mono (StAns.no (by decide))
  | hear_no i NK C T A V s' kp P hi h1 h2 h3 hs =>
    have hst : (b.a i).st ≠ 0 := by rw [hk.st hi]; exact SubIs.st (M := M) (L := L) (ps := B.ps) (y := B.td) ⟨kp, P, h1, h2, h3⟩
    have hai := ha i hi
    exact (bkstep_hear (x := 10) (A' := s'.tell) hr rfl hkm (by omega) hln hi rfl (Lib.hid fun W c _ ht hca hc => heard_some NK C T A V hi hc.one (by rw [hca]; exact hst) (Lib.hid fun W' hb => by rw [hca, hai, ht, htd]; exact heard1_calls hs h3 hM.2 (by omega) hday W' _ (by have := hc.at_ hi hb; rwa [hca, hai] at this)))).mono (StAns.no (by decide))
  | hear_yes i NK C T A V s' kp P hi h1 h2 h3 hs =>
    have hst : (b.a i).st ≠ 0 := by rw [hk.st hi]; exact SubIs.st (M := M) (L := L) (ps := B.ps) (y := B.td) ⟨kp, P, h1, h2, h3⟩
    have hai := ha i hi
    exact (bkstep_hear (x := 0) (A' := s'.tell) hr rfl hkm (by omega) hln hi rfl (Lib.hid fun W c _ ht hca hc => heard_some NK C T A V hi hc.one (by rw [hca]; exact hst) (Lib.hid fun W' hb => by rw [hca, hai, ht, htd]; exact heard1_calls hs h3 hM.2 (by omega) hday W' _ (by have := hc.at_ hi hb; rwa [hca, hai] at this)))).mono (StAns.ans (B' := B.put i s') rfl htd rfl (KbR.put (td := 0) ha))
  | pass_long n hn h1 => exact (bkstep_pass_no hr rfl hkm (by omega) hln (x := 6) (by decide) (Lib.hid fun W c _ ht _ hc => passed_long n (by rw [ht, htd]; exact hday) (by omega) (by rw [ht, htd]; exact h1))).mono (StNo.ans (by decide))
  | pass_yes n D hn h1 hD =>
    refine (bkstep_pass_yes (td' := B.td + n) (A' := fun k => (D k).tell) hr rfl hkm (by omega) hln (Lib.hid fun W c _ ht hca hc => ?_)).mono (StYes.ans (B' := ⟨B.td + n, B.ps, D⟩) rfl rfl fun _ _ => rfl)
    have := passed_yes (A' := fun k => (D k).tell) n hc.one hc.ps (by rw [ht, htd]; exact hday) (by omega) (by rw [ht, htd]; exact h1) (fun k hk2 h0 => ?_) (fun k hk2 h0 => ⟨?_⟩)
    · rw [ht, htd] at this; exact this
    · rw [hca, ha k hk2] at h0
      rw [hca, ha k hk2]
      rcases hD k hk2 with ⟨g1, g2⟩ | ⟨kp, P, g1, g2, g3, _⟩
      · show (D k).tell = _
        rw [g1, g2]
      · exact absurd h0 (SubIs.st (M := M) (L := L) (ps := B.ps) (y := B.td) ⟨kp, P, g1, g2, g3⟩)
    · rw [hca, ha k hk2] at h0
      rcases hD k hk2 with ⟨g1, _⟩ | ⟨kp, P, g1, g2, _, g5⟩
      · rw [g1] at h0; exact absurd rfl h0
      · refine ⟨P, kp, by rw [hca, ha k hk2]; exact g1, g2, fun W' hb => ?_⟩
        rw [hca, ha k hk2, ht, htd]
        exact g5.calls W' _ (by have := hc.at_ hk2 hb; rwa [hca, ha k hk2] at this)
end
end Go.Proofs.YtblikgbcakgdnaaGreat
/-
  The mathematics of numbers as bytes: a number's doubled word, its groups of six bits, and the way back. No conditions but those that each law names. Imports nothing of the program.
-/
namespace Go.Proofs.YtblikgbcakgdnaaGreat.Pk

/-- The doubled word of a number, and the number of a word. -/
def zig (n : Int) : Nat := if 0 ≤ n then (2 * n).toNat else (-2 * n - 1).toNat
def zag (u : Nat) : Int := if u % 2 = 1 then -((u / 2 : Nat) : Int) - 1 else ((u / 2 : Nat) : Int)
theorem zig_lt (n : Int) (h0 : -9223372036854775808 ≤ n) (h1 : n ≤ 9223372036854775807) : zig n < 18446744073709551616 := by unfold zig; split <;> omega
theorem zag_lt (u : Nat) (h : u < 18446744073709551616) : -9223372036854775808 ≤ zag u ∧ zag u ≤ 9223372036854775807 := by unfold zag; split <;> omega
theorem zig_even {n : Int} (h : 0 ≤ n) : (zig n : Int) = 2 * n := by unfold zig; rw [if_pos h]; omega
theorem zig_odd {n : Int} (h : n < 0) : (zig n : Int) = -2 * n - 1 := by unfold zig; rw [if_neg (by omega)]; omega

/-- The bytes of a word. -/
def enc (u : Nat) : List Int := if u < 64 then [(u : Int)] else ((u : Int) % 64 + 64) :: enc (u / 64)
termination_by u
decreasing_by omega
theorem enc_less {u : Nat} (h : u < 64) : enc u = [(u : Int)] := by rw [enc, if_pos h]
theorem enc_more {u : Nat} (h : ¬ u < 64) : enc u = ((u : Int) % 64 + 64) :: enc (u / 64) := by rw [enc, if_neg h]
def encs (ns : List Int) : List Int := ns.flatMap fun n => enc (zig n)
theorem encs_nil : encs [] = [] := rfl
theorem encs_cons (n : Int) (r : List Int) : encs (n :: r) = enc (zig n) ++ encs r := by unfold encs; rw [List.flatMap_cons]
theorem encs_append (a b : List Int) : encs (a ++ b) = encs a ++ encs b := by unfold encs; rw [List.flatMap_append]
theorem encs_one (n : Int) : encs [n] = enc (zig n) := by rw [encs_cons, encs_nil, List.append_nil]

theorem enc_pos (u : Nat) : 1 ≤ (enc u).length := by
  by_cases h : u < 64
  · rw [enc_less h]; simp
  · rw [enc_more h]; simp
theorem enc_range (u : Nat) : ∀ x ∈ enc u, 0 ≤ x ∧ x < 128 := by
  induction u using Nat.strongRecOn with
  | _ u ih =>
    intro x hx
    by_cases h : u < 64
    · rw [enc_less h] at hx; simp at hx; omega
    · rw [enc_more h] at hx
      rcases List.mem_cons.1 hx with rfl | hx
      · omega
      · exact ih (u / 64) (by omega) x hx
theorem encs_range (ns : List Int) : ∀ x ∈ encs ns, 0 ≤ x ∧ x < 128 := by
  intro x hx
  unfold encs at hx
  obtain ⟨n, _, hn⟩ := List.mem_flatMap.1 hx
  exact enc_range _ x hn
theorem enc_len (m : Nat) : ∀ u, u < 64 ^ (m + 1) → (enc u).length ≤ m + 1 := by
  induction m with
  | zero => intro u h; rw [enc_less (by simpa using h)]; simp
  | succ m ih =>
    intro u h
    by_cases g : u < 64
    · rw [enc_less g]; simp
    · rw [enc_more g]
      have := ih (u / 64) (by rw [Nat.pow_succ] at h; omega)
      simp; omega
theorem enc_eleven {u : Nat} (h : u < 18446744073709551616) : (enc u).length ≤ 11 := enc_len 10 u (by
  have e : 64 ^ (10 + 1) = 73786976294838206464 := by decide
  rw [e]; omega)
theorem encs_len (ns : List Int) (h : ∀ n ∈ ns, -9223372036854775808 ≤ n ∧ n ≤ 9223372036854775807) : (encs ns).length ≤ 11 * ns.length := by
  induction ns with
  | nil => simp [encs_nil]
  | cons n r ih =>
    rw [encs_cons, List.length_append, List.length_cons]
    have := ih fun m hm => h m (by simp [hm])
    have := h n (by simp)
    have := enc_eleven (zig_lt n (by omega) (by omega))
    omega

/-- A byte that may not stand at a place. -/
def bad (i : Nat) (c : Int) : Bool := decide (0 < i ∧ c = 0 ∨ 128 ≤ c ∨ i = 10 ∧ 16 ≤ c)
theorem of_good {i : Nat} {c : Int} (h : bad i c = false) : ¬ (0 < i ∧ c = 0 ∨ 128 ≤ c ∨ i = 10 ∧ 16 ≤ c) := by unfold bad at h; exact of_decide_eq_false h

/-- What is taken in by a byte. -/
def take1 (i u : Nat) (c : Int) : Nat := u + (c % 64).toNat * 64 ^ i
/-- The number with which bytes begin, how many it has, and the fault: from place i on, with u ahead. -/
def dec (i u : Nat) : List Int → Int × Nat × Int
  | [] => (0, 0, 5)
  | c :: r => if bad i c = true then (0, 0, 4) else if c < 64 then (zag (take1 i u c), i + 1, 0) else dec (i + 1) (take1 i u c) r
theorem dec_nil (i u : Nat) : dec i u [] = (0, 0, 5) := rfl
theorem dec_bad {i u : Nat} {c : Int} (r : List Int) (h : bad i c = true) : dec i u (c :: r) = (0, 0, 4) := by rw [dec, if_pos h]
theorem dec_last {i u : Nat} {c : Int} (r : List Int) (h : bad i c = false) (g : c < 64) : dec i u (c :: r) = (zag (take1 i u c), i + 1, 0) := by rw [dec, if_neg (by simp [h]), if_pos g]
theorem dec_next {i u : Nat} {c : Int} (r : List Int) (h : bad i c = false) (g : ¬ c < 64) : dec i u (c :: r) = dec (i + 1) (take1 i u c) r := by rw [dec, if_neg (by simp [h]), if_neg g]

theorem take1_lt {i u : Nat} {c : Int} (h : u < 64 ^ i) : take1 i u c < 64 ^ (i + 1) := by
  unfold take1
  rw [Nat.pow_succ]
  have : (c % 64).toNat ≤ 63 := by omega
  have := Nat.mul_le_mul_right (64 ^ i) this
  omega
theorem p10 : 64 ^ 10 = 1152921504606846976 := by decide
theorem pow_le10 {i : Nat} (h : i ≤ 10) : 64 ^ i ≤ 1152921504606846976 := by rw [← p10]; exact Nat.pow_le_pow_right (by omega) h
/-- What is taken in fits the word. -/
theorem take1_fits {i u : Nat} {c : Int} (hi : i ≤ 10) (h0 : 0 ≤ c) (hb : bad i c = false) (h : u < 64 ^ i) : take1 i u c < 18446744073709551616 := by
  have hg := of_good hb
  by_cases e : i = 10
  · subst e
    have hc : c < 16 := by omega
    unfold take1
    rw [p10] at h ⊢
    have : (c % 64).toNat ≤ 15 := by omega
    omega
  · have := take1_lt (c := c) h
    have : 64 ^ (i + 1) ≤ 1152921504606846976 := pow_le10 (by omega)
    omega

theorem enc_step {i a u : Nat} : take1 i a ((u : Int) % 64 + 64) + u / 64 * 64 ^ (i + 1) = a + u * 64 ^ i := by
  unfold take1
  have e : (((u : Int) % 64 + 64) % 64).toNat = u % 64 := by omega
  have e2 : u * 64 ^ i = (u % 64) * 64 ^ i + u / 64 * 64 * 64 ^ i := by rw [← Nat.add_mul]; congr 1; omega
  rw [e, e2, Nat.pow_succ, Nat.add_assoc, Nat.mul_comm (64 ^ i) 64, ← Nat.mul_assoc]

/-- What dec tells lies within bounds. -/
theorem dec_le (l : List Int) : ∀ i u, i ≤ 10 → (∀ x ∈ l, 0 ≤ x) → u < 64 ^ i → (dec i u l).2.1 ≤ i + l.length ∧ ((dec i u l).2.2 = 0 → 1 ≤ (dec i u l).2.1) ∧
    -9223372036854775808 ≤ (dec i u l).1 ∧ (dec i u l).1 ≤ 9223372036854775807 ∧ ((dec i u l).2.2 = 0 ∨ (dec i u l).2.2 = 4 ∨ (dec i u l).2.2 = 5) := by
  induction l with
  | nil => intro i u _ _ _; simp [dec_nil]
  | cons c r ih =>
    intro i u hi h0 hu
    have c0 := h0 c (by simp)
    cases hb : bad i c
    · by_cases g : c < 64
      · rw [dec_last r hb g]
        have := zag_lt _ (take1_fits hi c0 hb hu)
        simp; omega
      · rw [dec_next r hb g]
        have hg := of_good hb
        have := ih (i + 1) _ (by omega) (fun x hx => h0 x (by simp [hx])) (take1_lt (c := c) hu)
        simp only [List.length_cons]; omega
    · rw [dec_bad r hb]; simp

end Go.Proofs.YtblikgbcakgdnaaGreat.Pk
