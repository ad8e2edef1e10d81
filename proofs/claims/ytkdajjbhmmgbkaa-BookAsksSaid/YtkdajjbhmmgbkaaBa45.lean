/-
  Another plan that is refused: the same one, or a period that ends behind the last day; a period that begins near enough. No conditions but those that each law names.
-/
import Derived.Test.YtkdajjbhmmgbkaaBa23
import Derived.Test.YtkdajjbhmmgbkaaBa26
import Derived.Test.YtkdajjbhmmgbkaaBa28
import Derived.Test.YtkdajjbhmmgbkaaBa41
import Derived.Test.YtkdajjbhmmgbkaaBa43
import Derived.Test.YtkdajjbhmmgbkaaBa44
set_option linter.unusedSimpArgs false
set_option linter.unusedVariables false
namespace Go.Proofs.Ytkdajjbhmmgbkaa
set_option maxRecDepth 100000
open Go.ChangeShapes Go.WideShapes Go.ChangeAt Go.RowKit

set_option maxHeartbeats 2000000 in
theorem change_same {w : World} {v : Value} {a : Av} {p q : Pv} {k d : Int} (n y : Int) (hst : a.st = 1) (hn : n = a.pl) (hAt : Cal.At a.an k d) (hU : 0 ≤ p.u ∧ p.u ≤ 3) (hE : 1 ≤ p.e ∧ p.e ≤ 1000) (hy : 0 ≤ y ∧ y ≤ 3652058) :
    Calls Try.prog 29 #[.agg (a.arr v), .agg p.arr, .int .i64 n, .agg q.arr, .int .i64 y] w (Refused w 8) := by
  obtain ⟨x1, x2, x3, hs⟩ := span_some a.an k d p.u p.e y hAt hU.1 hU.2 hE.1 hE.2 hy.1 hy.2
  have HS := Lib.hid hs
  have h1 : (a.st == 1) = true := by simpa using hst
  have h2 : (a.st != 1) = false := by simpa using hst
  have h3 : (n == a.pl) = true := by simpa using hn
  clear hs hst hAt hn
  go_enter Try.func29, Try.ntmps29
  go_wp2_with (fail)
  refine (HS.out _).mono ?_
  rintro e w1 ⟨rfl, hb⟩
  have hP : w1.heap[w.heap.size]? = some (.cells (a.arr v) 33 (0, 0)) := below_block hb (alloc_old (by simp; omega) (alloc_old (by simp; omega) (alloc_old (by simp) (alloc_at rfl))))
  have hZ : w1.heap[w.heap.size + 1 + 1 + 1]? = some (.cells #[.int .u8 0, .int .i64 0, .int .i64 0, .int .i64 0, .int .i64 0, .int .i64 0, .bool false, .slice none 0 0, .int .i64 0, .int .i64 0, .int .i64 0, .int .i64 0, .int .i64 0] 33 (0, 0)) := below_block hb (alloc_at (by simp))
  have hW : Below w.heap.size w w1 := (((((Below.refl _ w).alloc (Nat.le_refl _) _).alloc (by simp) _).alloc (by simp; omega) _).alloc (by simp; omega) _).trans (hb.mono (by simp; omega))
  have hz : w.heap.size + 1 + 1 + 1 < w1.heap.size := (Array.getElem?_eq_some_iff.1 hZ).1
  have c0 : w1.cell? ⟨w.heap.size, 0, none⟩ = some (.int .u8 a.st) := cell_of_row _ _ _ _ _ _ hP
  have c1 : w1.cell? ⟨w.heap.size, 1, none⟩ = some (.int .i64 a.pl) := cell_of_row _ _ _ _ _ _ hP
  have HW := Lib.hid hW
  clear hb hW hP
  go_wp2_with (first | ((with_reducible_and_instances (show wpList _ _ _ (Oper.mk _ (Op.store 33 _ _) _ _ _ _ :: _) _ _)); refine wl_store info13 rfl rfl rfl rfl (by (repeat (first | assumption | (with_reducible refine alloc_at ?_; (focus (first | omega | (simp; done) | (simp; omega)))) | (with_reducible refine boxed_at ?_; (focus (first | omega | (simp; done) | (simp; omega)))) | (with_reducible refine alloc_old ?_ ?_; (focus (first | omega | (simp; done) | (simp; omega)))) | (with_reducible refine boxed_old ?_ ?_; (focus (first | omega | (simp; done) | (simp; omega)))) | (with_reducible refine drew_old ?_)))) (by rfl) (by rfl) (by first | exact Cv.arr_one _ | exact Nv.arr_one _ | exact Av.arr_one rfl | exact Pv.arr_one _ | simp [Value.oneCell']) ?_))
  refine bodyPost_ret (results_row_tmp rfl _ _ (w.heap.size + 1 + 1 + 1) 33 _ (0, 0) _ rfl (boxed_at (by omega)) Try.underlying33 rfl (by exact info13)) rfl ?_
  exact ⟨rfl, boxed_below HW.out (by omega)⟩
/-- Months are 28 days at least. -/
theorem Cal.ms_28 : ∀ (n : Nat), 28 * (n : Int) ≤ Cal.ms n
  | 0 => by rw [show ((0 : Nat) : Int) = 0 from rfl, Cal.ms_zero]; omega
  | n + 1 => by
    have h := Cal.ms_28 n
    have h2 := Cal.ms_succ (n : Int)
    have h3 := Cal.ml_bd (n : Int)
    have e : ((n + 1 : Nat) : Int) = (n : Int) + 1 := by omega
    rw [e, h2]; omega
/-- A period that begins near enough to its day. -/
theorem Cal.okN_near {u a k d e y c : Int} (hAt : Cal.At a k d) (he : 1 ≤ e ∧ e ≤ 12) (hc : Cal.Cnt u a k d e y c) (hay : a ≤ y) (hy : y ≤ 2000000) : Cal.okN u a k e c = true := by
  have hp := hc.pos hAt hay
  obtain ⟨h1, h2⟩ := hc.all (c - 1) (by omega) (by omega)
  have hs := Cal.stp_bd (u := u) he.1 (by omega)
  have hmul : c * Cal.stp u e = (c - 1) * Cal.stp u e + Cal.stp u e := by rw [Int.sub_mul, Int.one_mul]; omega
  have hs2 : Cal.stp u e ≤ 144 := by unfold Cal.stp; split <;> (try split) <;> omega
  by_cases hu : u < 2
  · rw [Cal.okN_days hu]
    rw [Cal.vN_days hu] at h2
    omega
  · rw [Cal.okN_months hu]
    rw [Cal.okN_months hu] at h1
    rw [Cal.vN_months hu] at h2
    have hk := hAt.k0
    have hn := Cal.step_nn (u := u) (e := e) (n := c - 1) he.1 (by omega)
    obtain ⟨m, hm⟩ := Int.eq_ofNat_of_zero_le (show 0 ≤ k + (c - 1) * Cal.stp u e by omega)
    rw [hm] at h2
    have h4 := Cal.ms_28 m
    have h5 := Cal.low_bd (m : Int) hAt.d0
    unfold Cal.nthM at h2
    omega
end Go.Proofs.Ytkdajjbhmmgbkaa
/-
  One subscription, told something: what the account answers, and that its numbers stay small. No conditions but the sizes.
-/
namespace Go.Proofs.Ytkdajjbhmmgbkaa
set_option linter.unusedVariables false
set_option linter.unusedSimpArgs false
set_option maxRecDepth 100000
open Go.ChangeShapes Go.WideShapes Go.ChangeAt Go.RowKit

section
variable {M L : Int} {p : Pv} {y : Int} {s : Sv}
theorem Sta.lens (h : Sta M L p y s) (hL : L ≤ 9000) : s.l.length ≤ 9000 ∧ s.tell.l.length ≤ 9000 := by
  have h1 := h.len
  have h2 := opn_len s.l
  have h3 : s.tell.l = opn s.l := rfl
  rw [h3]
  omega
theorem Sta.fits (h : Sta M L p y s) (hM : M ≤ 100000000000) (hL : L ≤ 9000) : s.tell.Fit 10000 ∧ (∀ c ∈ s.tell.l, c.Fit) ∧ (∀ c ∈ s.tell.l, (Cv.over c).Fit) ∧ (∀ c ∈ s.tell.l, (Cv.card c).Fit) ∧ (-100000000000 ≤ s.cr ∧ s.cr ≤ 100000000000) := by
  have hl := (h.lens hL).1
  have hcr := h.ok.cr
  have mem : ∀ c ∈ s.tell.l, c ∈ s.l := fun c hc => (opn_mem hc).1
  exact ⟨(h.ok.fit hM).more (by omega), fun c hc => (h.ok.cs c (mem c hc)).fit hM, fun c hc => (h.ok.cs c (mem c hc)).over.fit hM, fun c hc => (h.ok.cs c (mem c hc)).card.fit hM, by omega⟩
theorem Sta.live (h : Sta M L p y s) (hst : s.st ≠ 3) : s.tell.live = true := by
  have e1 : s.tell.st = s.st := rfl
  unfold Av.live
  rw [e1]
  rcases h.ok.st with g | g | g
  · rw [g]; rfl
  · rw [g]; rfl
  · exact absurd g hst
theorem Sta.dead (hst : s.st = 3) : s.tell.live = false := by
  have e1 : s.tell.st = s.st := rfl
  unfold Av.live
  rw [e1, hst]; rfl
/-- What an order makes of a subscription: x, and what it is behind it. -/
theorem sub_pause (h : Sta M L p y s) (hL : L ≤ 9000) : ∃ x s', (∀ (W : World) (v : Value), Cys W 0 W.heap.size v s.tell.l → Calls Try.prog 24 #[.agg (s.tell.arr v)] W (Ansk x s'.tell W)) ∧ (x = 0 → Sta M L p y s' ∧ s'.pl = s.pl) := by
  have hl := (h.lens hL).2
  by_cases hst : s.st = 1
  · exact ⟨0, { s with st := 2 }, fun W v hc => (pause_yes (a := s.tell) hst hc (by omega)).mono News.ansk, fun _ => ⟨h.state 2 (.inr rfl) (by omega), rfl⟩⟩
  · exact ⟨8, s, fun W v _ => (pause_no (a := s.tell) hst).mono (Refused.ansk (by decide)), fun g => absurd g (by decide)⟩
theorem sub_resume (h : Sta M L p y s) (hL : L ≤ 9000) : ∃ x s', (∀ (W : World) (v : Value), Cys W 0 W.heap.size v s.tell.l → Calls Try.prog 25 #[.agg (s.tell.arr v)] W (Ansk x s'.tell W)) ∧ (x = 0 → Sta M L p y s' ∧ s'.pl = s.pl) := by
  have hl := (h.lens hL).2
  by_cases hst : s.st = 2
  · exact ⟨0, { s with st := 1 }, fun W v hc => (resume_yes (a := s.tell) hst hc (by omega)).mono News.ansk, fun _ => ⟨h.state 1 (.inl rfl) (by omega), rfl⟩⟩
  · exact ⟨8, s, fun W v _ => (resume_no (a := s.tell) hst).mono (Refused.ansk (by decide)), fun g => absurd g (by decide)⟩
theorem sub_skip (h : Sta M L p y s) (hL : L ≤ 9000) : ∃ x s', (∀ (W : World) (v : Value), Cys W 0 W.heap.size v s.tell.l → Calls Try.prog 26 #[.agg (s.tell.arr v)] W (Ansk x s'.tell W)) ∧ (x = 0 → Sta M L p y s' ∧ s'.pl = s.pl) := by
  have hl := (h.lens hL).2
  by_cases hst : s.st = 3
  · exact ⟨8, s, fun W v _ => (skip_no (a := s.tell) (.inl (Sta.dead hst))).mono (Refused.ansk (by decide)), fun g => absurd g (by decide)⟩
  cases hsk : s.sk
  · exact ⟨0, { s with sk := true }, fun W v hc => (skip_yes (a := s.tell) (h.live hst) hsk hc (by omega)).mono News.ansk, fun _ => ⟨h.skips true, rfl⟩⟩
  · exact ⟨8, s, fun W v _ => (skip_no (a := s.tell) (.inr ⟨h.live hst, hsk⟩)).mono (Refused.ansk (by decide)), fun g => absurd g (by decide)⟩
theorem sub_cancel (h : Sta M L p y s) (hM : M ≤ 100000000000) (hL : L ≤ 9000) : ∃ x s', (∀ (W : World) (v : Value), Cys W 0 W.heap.size v s.tell.l → Calls Try.prog 28 #[.agg (s.tell.arr v)] W (Ansk x s'.tell W)) ∧ (x = 0 → Sta M L p y s' ∧ s'.pl = s.pl) := by
  have hl := (h.lens hL).2
  obtain ⟨f1, f2, f3, f4, f5⟩ := h.fits hM hL
  by_cases hst : s.st = 3
  · exact ⟨8, s, fun W v _ => (cancel_no (a := s.tell) (Sta.dead hst)).mono (Refused.ansk (by decide)), fun g => absurd g (by decide)⟩
  · refine ⟨0, { s with st := 3, cr := s.cr + gainOf (fun c => c.over) s.l, l := s.l.map (fun c => c.over) }, fun W v hc => ?_, fun _ => ⟨h.cancelled, rfl⟩⟩
    rw [h.ok.cancelled.2]
    exact (cancel_yes (a := s.tell) (m := 10000) (h.live hst) hc (by omega) f1 (by omega) f2 f3).mono News.ansk
theorem sub_card (h : Sta M L p y s) (hM : M ≤ 100000000000) (hL : L ≤ 9000) : ∃ x s', (∀ (W : World) (v : Value), Cys W 0 W.heap.size v s.tell.l → Calls Try.prog 27 #[.agg (s.tell.arr v)] W (Ansk x s'.tell W)) ∧ (x = 0 → Sta M L p y s' ∧ s'.pl = s.pl) := by
  have hl := (h.lens hL).2
  obtain ⟨f1, f2, f3, f4, f5⟩ := h.fits hM hL
  by_cases hst : s.st = 3
  · exact ⟨8, s, fun W v _ => (acard_no (a := s.tell) (Sta.dead hst)).mono (Refused.ansk (by decide)), fun g => absurd g (by decide)⟩
  · refine ⟨0, { s with l := s.l.map (fun c => c.card) }, fun W v hc => ?_, fun _ => ⟨h.carded, rfl⟩⟩
    rw [h.ok.carded.2]
    exact (acard_yes (a := s.tell) (m := 10000) (h.live hst) hc (by omega) f1 (by omega) f2 f4).mono News.ansk
theorem sub_hear (h : Sta M L p y s) (hM : M ≤ 100000000000) (hL : L ≤ 9000) (hy : 0 ≤ y ∧ y ≤ 3652058) (i NK NS C NT NM V : Int) : ∃ x s', (∀ (W : World) (v : Value), Cys W 0 W.heap.size v s.tell.l → Calls Try.prog 31 #[.int .i64 i, .agg (s.tell.arr v), .agg #[.int .u8 NK, .int .i64 NS, .int .i64 C, .int .i64 NT, .int .i64 NM, .int .u8 V], .int .i64 y] W (Ansk x s'.tell W)) ∧ (x = 0 → Sta M L p y s' ∧ s'.pl = s.pl) := by
  have hl := (h.lens hL).2
  obtain ⟨f1, f2, f3, f4, f5⟩ := h.fits hM hL
  by_cases hex : ∃ c ∈ s.tell.l, c.n = C
  · obtain ⟨z, hz, hzC⟩ := hex
    obtain ⟨hzs, hzp⟩ := opn_mem (l := s.l) hz
    obtain ⟨m, hm⟩ := List.getElem?_of_mem hzs
    have hmn := h.ok.num m z hm
    obtain rfl : C = (m : Int) := by omega
    have hzok := h.ok.cs z hzs
    have hzn := hzok.next V y (s.st == 3)
    obtain ⟨hzu, hznn⟩ := next_same z V y (s.st == 3)
    obtain ⟨hsok, j, hj1, hj2, htell⟩ := h.ok.heard hm hzp hzn hzu hznn
    have hsta' := h.heard hm hzp hzn hzu hznn
    obtain ⟨zn, zd, zp, za, zu, zt, zx, zg⟩ := z
    have hf0 := hzok.fit hM
    by_cases hH : Cv.Heard i ⟨zn, zd, zp, za, zu, zt, zx, zg⟩ ⟨NK, NS, (m : Int), NT, NM, V⟩
    · have hherr : Cv.herr i ⟨zn, zd, zp, za, zu, zt, zx, zg⟩ ⟨NK, NS, (m : Int), NT, NM, V⟩ = 0 := if_pos hH
      have hhear : Cv.hear i ⟨zn, zd, zp, za, zu, zt, zx, zg⟩ ⟨NK, NS, (m : Int), NT, NM, V⟩ y (s.tell.st == 3) = Cv.next ⟨zn, zd, zp, za, zu, zt, zx, zg⟩ V y (s.st == 3) := if_pos hH
      refine ⟨0, { s with cr := Cy.gain s.cr ⟨zn, zd, zp, za, zu, zt, zx, zg⟩ (Cv.next ⟨zn, zd, zp, za, zu, zt, zx, zg⟩ V y (s.st == 3)), l := s.l.set m (Cv.next ⟨zn, zd, zp, za, zu, zt, zx, zg⟩ V y (s.st == 3)) }, fun W v hc => ?_, fun _ => ⟨hsta', rfl⟩⟩
      refine (hear_some (a := s.tell) (j := j) (m := 10000) i y zn zd zp za zu zt zx zg NK NS m NT NM V hc (by omega) hj2 hj1 (by omega) (by omega) (Lib.hid f1) (by omega) f2 (by rw [hhear]; exact hzn.fit hM)).mono ?_
      rintro e w' ⟨g1, _⟩
      rw [hhear] at g1
      rw [htell]
      exact News.ansk _ _ (g1 hherr)
    · obtain ⟨x, hx⟩ : ∃ x, Cv.herr i ⟨zn, zd, zp, za, zu, zt, zx, zg⟩ ⟨NK, NS, (m : Int), NT, NM, V⟩ = x := ⟨_, rfl⟩
      have hx0 : x ≠ 0 := by rw [← hx]; unfold Cv.herr; rw [if_neg hH]; decide
      refine ⟨x, s, fun W v hc => ?_, fun g => absurd g hx0⟩
      refine (hear_some (a := s.tell) (j := j) (m := 10000) i y zn zd zp za zu zt zx zg NK NS m NT NM V hc (by omega) hj2 hj1 (by omega) (by omega) (Lib.hid f1) (by omega) f2 (by unfold Cv.hear; rw [if_neg hH]; exact hf0)).mono ?_
      rintro e w' ⟨_, g2⟩
      rw [hx] at g2
      exact Refused.ansk hx0 _ _ (g2 hx0)
  · exact ⟨10, s, fun W v hc => (hear_none (a := s.tell) i y NK NS C NT NM V hc (by omega) (fun c hc2 he => hex ⟨c, hc2, he⟩)).mono (Refused.ansk (by decide)), fun g => absurd g (by decide)⟩
end
end Go.Proofs.Ytkdajjbhmmgbkaa
/-
  One subscription: another plan, days that go by, its first day. No conditions but the sizes.
-/
namespace Go.Proofs.Ytkdajjbhmmgbkaa
set_option linter.unusedVariables false
set_option linter.unusedSimpArgs false
set_option maxRecDepth 100000
open Go.ChangeShapes Go.WideShapes Go.ChangeAt Go.RowKit

section
variable {M L : Int} {p q : Pv} {y : Int} {s : Sv}
theorem sub_change {kp kq : Nat} (h : Sta M L p y s) (hM : M ≤ 100000000000) (hL : 0 ≤ L ∧ L ≤ 9000) (hp : p.Ok) (hp12 : p.e ≤ 12) (hq : q.Ok) (hpl : s.pl = (kp : Int)) (hy : 0 ≤ y ∧ y ≤ 2000000) : ∃ x s', (∀ (W : World) (v : Value), Cys W 0 W.heap.size v s.tell.l → Calls Try.prog 29 #[.agg (s.tell.arr v), .agg p.arr, .int .i64 (kq : Int), .agg q.arr, .int .i64 y] W (Ansk x s'.tell W)) ∧ (x = 0 → Sta (M + 1100000000) L q y s' ∧ s'.pl = (kq : Int)) := by
  have hl := (h.lens hL.2).2
  obtain ⟨f1, f2, f3, f4, f5⟩ := h.fits hM hL.2
  obtain ⟨k, d, c, hAt, hcn, hix, hic, hcL⟩ := h.ex
  by_cases hst : s.st = 1
  · by_cases hne : kq = kp
    · exact ⟨8, s, fun W v _ => (change_same (a := s.tell) (k := k) (d := d) _ _ hst (by show (kq : Int) = s.pl; rw [hpl, hne]) hAt hp.u hp.e (by omega)).mono (Refused.ansk (by decide)), fun g => absurd g (by decide)⟩
    have hnp : (kq : Int) ≠ s.pl := by omega
    have hixc := hix (by omega)
    by_cases hay : y < s.an
    · have hix0 : s.ix = 0 := by
        have := (Cal.Cnt.before (u := p.u) (e := p.e) hAt hay).one hcn
        omega
      exact ⟨0, { s with pl := (kq : Int), ix := 0 }, fun W v hc => (change_free (a := s.tell) (x1 := 0) (x2 := 0) (x3 := 2) _ _ hst hnp hc (by omega) (fun W => span_before _ k d _ _ _ W hAt hp.u.1 hp.u.2 hp.e.1 hp.e.2 (by omega) (by omega) hay) (by decide) (.inl (by decide))).mono News.ansk, fun _ => ⟨h.change_free (q := q) (kq : Int) hay hL.1, rfl⟩⟩
    · have hcn2 : Cal.Cnt p.u s.an k d p.e y s.ix := by rw [hixc]; exact hcn
      have hok := Cal.okN_near hAt ⟨hp.e.1, hp12⟩ hcn2 (by omega) (by omega)
      have hpos := hcn2.pos hAt (by omega)
      have hs' := h.change_go hp hq (kq : Int) hst (by omega) hL.1 hAt hcn2 hok
      refine ⟨0, _, fun W v hc => ?_, fun _ => ⟨hs', rfl⟩⟩
      have := (change_go (a := s.tell) (k := k) (d := d) (c := s.ix) (p := p) (q := q) (kq : Int) y hst hnp (by show s.ix ≠ 0; omega) hc (by omega) hAt hp.u hp.e (by omega) (by show s.an ≤ y; omega) hcn2 hok (by have := hp.a; omega) (by have := hq.a; omega) f5).mono News.ansk
      refine this.mono ?_
      intro e w' g
      unfold Av.changed Sv.tell at g
      unfold Sv.tell
      dsimp only at g ⊢
      rw [← Int.add_sub_assoc]
      exact g
  · have h23 := h.ok.st
    exact ⟨8, s, fun W v _ => (change_off (a := s.tell) (k := k) (d := d) _ _ hst hAt hp.u hp.e (by omega)).mono (Refused.ansk (by decide)), fun g => absurd g (by decide)⟩
/-- A subscription that has just been opened. -/
def Sv.begun (pl an : Int) : Sv := ⟨1, pl, an, 0, 0, false, []⟩
theorem Sv.begun_sta {pl an : Int} (h0 : 0 ≤ an) (h1 : an ≤ 3652058) (hy : y < an) : Sta 0 0 p y (Sv.begun pl an) := by
  obtain ⟨k, d, hAt⟩ := Cal.at_of an h0 h1
  exact ⟨⟨.inl rfl, fun k c h => by simp [Sv.begun] at h, fun c h => by simp [Sv.begun] at h, by show absI 0 + 0 ≤ 0; decide, Int.le_refl _, Int.le_refl _⟩, Int.le_refl _, k, d, 0, hAt, Cal.Cnt.before hAt hy, fun _ => rfl, Int.le_refl _, Int.le_refl _⟩
theorem Sv.begun_tell (pl an : Int) : (Sv.begun pl an).tell = Av.opened pl an := rfl
theorem sub_open {kn : Nat} (hp : p.Ok) (ht : 0 ≤ p.t ∧ p.t ≤ 1000) (hy : 0 ≤ y ∧ y + p.t ≤ 3652058) : ∃ s', (∀ W, Calls Try.prog 19 #[.agg ((Av.opened (kn : Int) (y + p.t)).arr (.slice none 0 0)), .agg p.arr, .int .i64 y] W (News W s'.tell)) ∧ Sta 1100000000 1 p y s' ∧ s'.pl = (kn : Int) := by
  obtain ⟨s', D⟩ := (Sv.begun_sta (p := p) (pl := (kn : Int)) (y := y - 1) (an := y + p.t) (by omega) (by omega) (by omega)).day (y' := y) hp (by omega) hy.1 (by omega) (by omega) (by omega) (by omega)
  refine ⟨s', fun W => ?_, D.sta.more (by omega) (by omega), D.pl⟩
  have := D.calls W (.slice none 0 0) Cys.nil
  rw [Sv.begun_tell] at this
  exact this
end
end Go.Proofs.Ytkdajjbhmmgbkaa
