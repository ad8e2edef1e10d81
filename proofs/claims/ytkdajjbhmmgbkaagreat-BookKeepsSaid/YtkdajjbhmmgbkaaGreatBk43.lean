/-
  One subscription, told something: what the account answers, and that its numbers stay small. No conditions but the sizes.
-/
import Derived.Test.YtkdajjbhmmgbkaaGreatBk21
import Derived.Test.YtkdajjbhmmgbkaaGreatBk26
import Derived.Test.YtkdajjbhmmgbkaaGreatBk32
import Derived.Test.YtkdajjbhmmgbkaaGreatBk39
import Derived.Test.YtkdajjbhmmgbkaaGreatBk41
import Derived.Test.YtkdajjbhmmgbkaaGreatBk42
set_option linter.unusedSimpArgs false
set_option linter.unusedVariables false
namespace Go.Proofs.YtkdajjbhmmgbkaaGreat
set_option linter.unusedVariables false
set_option linter.unusedSimpArgs false
set_option maxRecDepth 100000
open Go.ChangeShapes Go.WideShapes Go.ChangeAt Go.RowKit

section
variable {M L : Int} {p : Pv} {y : Int} {s : Sv}
theorem Sta.lens (h : Sta M L p y s) (hL : L ≤ 9000) : s.l.length ≤ 9000 ∧ s.tell.l.length ≤ 9000 := by
  have h1 := h.len
  have h2 := opn_len s.l
  have h3 : s.tell.l = opn s.l := rfl
  rw [h3]
  omega
theorem Sta.fits (h : Sta M L p y s) (hM : M ≤ 100000000000) (hL : L ≤ 9000) : s.tell.Fit 10000 ∧ (∀ c ∈ s.tell.l, c.Fit) ∧ (∀ c ∈ s.tell.l, (Cv.over c).Fit) ∧ (∀ c ∈ s.tell.l, (Cv.card c).Fit) ∧ (-100000000000 ≤ s.cr ∧ s.cr ≤ 100000000000) := by
  have hl := (h.lens hL).1
  have hcr := h.ok.cr
  have mem : ∀ c ∈ s.tell.l, c ∈ s.l := fun c hc => (opn_mem hc).1
  exact ⟨(h.ok.fit hM).more (by omega), fun c hc => (h.ok.cs c (mem c hc)).fit hM, fun c hc => (h.ok.cs c (mem c hc)).over.fit hM, fun c hc => (h.ok.cs c (mem c hc)).card.fit hM, by omega⟩
theorem Sta.live (h : Sta M L p y s) (hst : s.st ≠ 3) : s.tell.live = true := by
  have e1 : s.tell.st = s.st := rfl
  unfold Av.live
  rw [e1]
  rcases h.ok.st with g | g | g
  · rw [g]; rfl
  · rw [g]; rfl
  · exact absurd g hst
theorem Sta.dead (hst : s.st = 3) : s.tell.live = false := by
  have e1 : s.tell.st = s.st := rfl
  unfold Av.live
  rw [e1, hst]; rfl
/-- What an order makes of a subscription: x, and what it is behind it. -/
theorem sub_pause (h : Sta M L p y s) (hL : L ≤ 9000) : ∃ x s', (∀ (W : World) (v : Value), Cys W 0 W.heap.size v s.tell.l → Calls Tryz.prog 61 #[.agg (s.tell.arr v)] W (Ansk x s'.tell W)) ∧ (x = 0 → Sta M L p y s' ∧ s'.pl = s.pl) := by
  have hl := (h.lens hL).2
  by_cases hst : s.st = 1
  · exact ⟨0, { s with st := 2 }, fun W v hc => (pause_yes (a := s.tell) hst hc (by omega)).mono News.ansk, fun _ => ⟨h.state 2 (.inr rfl) (by omega), rfl⟩⟩
  · exact ⟨8, s, fun W v _ => (pause_no (a := s.tell) hst).mono (Refused.ansk (by decide)), fun g => absurd g (by decide)⟩
theorem sub_resume (h : Sta M L p y s) (hL : L ≤ 9000) : ∃ x s', (∀ (W : World) (v : Value), Cys W 0 W.heap.size v s.tell.l → Calls Tryz.prog 62 #[.agg (s.tell.arr v)] W (Ansk x s'.tell W)) ∧ (x = 0 → Sta M L p y s' ∧ s'.pl = s.pl) := by
  have hl := (h.lens hL).2
  by_cases hst : s.st = 2
  · exact ⟨0, { s with st := 1 }, fun W v hc => (resume_yes (a := s.tell) hst hc (by omega)).mono News.ansk, fun _ => ⟨h.state 1 (.inl rfl) (by omega), rfl⟩⟩
  · exact ⟨8, s, fun W v _ => (resume_no (a := s.tell) hst).mono (Refused.ansk (by decide)), fun g => absurd g (by decide)⟩
theorem sub_skip (h : Sta M L p y s) (hL : L ≤ 9000) : ∃ x s', (∀ (W : World) (v : Value), Cys W 0 W.heap.size v s.tell.l → Calls Tryz.prog 63 #[.agg (s.tell.arr v)] W (Ansk x s'.tell W)) ∧ (x = 0 → Sta M L p y s' ∧ s'.pl = s.pl) := by
  have hl := (h.lens hL).2
  by_cases hst : s.st = 3
  · exact ⟨8, s, fun W v _ => (skip_no (a := s.tell) (.inl (Sta.dead hst))).mono (Refused.ansk (by decide)), fun g => absurd g (by decide)⟩
  cases hsk : s.sk
  · exact ⟨0, { s with sk := true }, fun W v hc => (skip_yes (a := s.tell) (h.live hst) hsk hc (by omega)).mono News.ansk, fun _ => ⟨h.skips true, rfl⟩⟩
  · exact ⟨8, s, fun W v _ => (skip_no (a := s.tell) (.inr ⟨h.live hst, hsk⟩)).mono (Refused.ansk (by decide)), fun g => absurd g (by decide)⟩
theorem sub_cancel (h : Sta M L p y s) (hM : M ≤ 100000000000) (hL : L ≤ 9000) : ∃ x s', (∀ (W : World) (v : Value), Cys W 0 W.heap.size v s.tell.l → Calls Tryz.prog 64 #[.agg (s.tell.arr v)] W (Ansk x s'.tell W)) ∧ (x = 0 → Sta M L p y s' ∧ s'.pl = s.pl) := by
  have hl := (h.lens hL).2
  obtain ⟨f1, f2, f3, f4, f5⟩ := h.fits hM hL
  by_cases hst : s.st = 3
  · exact ⟨8, s, fun W v _ => (cancel_no (a := s.tell) (Sta.dead hst)).mono (Refused.ansk (by decide)), fun g => absurd g (by decide)⟩
  · refine ⟨0, { s with st := 3, cr := s.cr + gainOf (fun c => c.over) s.l, l := s.l.map (fun c => c.over) }, fun W v hc => ?_, fun _ => ⟨h.cancelled, rfl⟩⟩
    rw [h.ok.cancelled.2]
    exact (cancel_yes (a := s.tell) (m := 10000) (h.live hst) hc (by omega) f1 (by omega) f2 f3).mono News.ansk
theorem sub_card (h : Sta M L p y s) (hM : M ≤ 100000000000) (hL : L ≤ 9000) : ∃ x s', (∀ (W : World) (v : Value), Cys W 0 W.heap.size v s.tell.l → Calls Tryz.prog 65 #[.agg (s.tell.arr v)] W (Ansk x s'.tell W)) ∧ (x = 0 → Sta M L p y s' ∧ s'.pl = s.pl) := by
  have hl := (h.lens hL).2
  obtain ⟨f1, f2, f3, f4, f5⟩ := h.fits hM hL
  by_cases hst : s.st = 3
  · exact ⟨8, s, fun W v _ => (acard_no (a := s.tell) (Sta.dead hst)).mono (Refused.ansk (by decide)), fun g => absurd g (by decide)⟩
  · refine ⟨0, { s with l := s.l.map (fun c => c.card) }, fun W v hc => ?_, fun _ => ⟨h.carded, rfl⟩⟩
    rw [h.ok.carded.2]
    exact (acard_yes (a := s.tell) (m := 10000) (h.live hst) hc (by omega) f1 (by omega) f2 f4).mono News.ansk
theorem sub_hear (h : Sta M L p y s) (hM : M ≤ 100000000000) (hL : L ≤ 9000) (hy : 0 ≤ y ∧ y ≤ 3652058) (i NK NS C NT NM V : Int) : ∃ x s', (∀ (W : World) (v : Value), Cys W 0 W.heap.size v s.tell.l → Calls Tryz.prog 60 #[.int .i64 i, .agg (s.tell.arr v), .agg #[.int .u8 NK, .int .i64 NS, .int .i64 C, .int .i64 NT, .int .i64 NM, .int .u8 V], .int .i64 y] W (Ansk x s'.tell W)) ∧ (x = 0 → Sta M L p y s' ∧ s'.pl = s.pl) := by
  have hl := (h.lens hL).2
  obtain ⟨f1, f2, f3, f4, f5⟩ := h.fits hM hL
  by_cases hex : ∃ c ∈ s.tell.l, c.n = C
  · obtain ⟨z, hz, hzC⟩ := hex
    obtain ⟨hzs, hzp⟩ := opn_mem (l := s.l) hz
    obtain ⟨m, hm⟩ := List.getElem?_of_mem hzs
    have hmn := h.ok.num m z hm
    obtain rfl : C = (m : Int) := by omega
    have hzok := h.ok.cs z hzs
    have hzn := hzok.next V y (s.st == 3) (by omega)
    obtain ⟨hzu, hznn⟩ := next_same z V y (s.st == 3)
    obtain ⟨hsok, j, hj1, hj2, htell⟩ := h.ok.heard hm hzp hzn hzu hznn
    have hsta' := h.heard hm hzp hzn hzu hznn
    obtain ⟨zn, zd, zp, za, zu, zt, zx, zg⟩ := z
    have hf0 := hzok.fit hM
    by_cases hH : Cv.Heard i ⟨zn, zd, zp, za, zu, zt, zx, zg⟩ ⟨NK, NS, (m : Int), NT, NM, V⟩
    · have hherr : Cv.herr i ⟨zn, zd, zp, za, zu, zt, zx, zg⟩ ⟨NK, NS, (m : Int), NT, NM, V⟩ = 0 := if_pos hH
      have hhear : Cv.hear i ⟨zn, zd, zp, za, zu, zt, zx, zg⟩ ⟨NK, NS, (m : Int), NT, NM, V⟩ y (s.tell.st == 3) = Cv.next ⟨zn, zd, zp, za, zu, zt, zx, zg⟩ V y (s.st == 3) := if_pos hH
      refine ⟨0, { s with cr := Cy.gain s.cr ⟨zn, zd, zp, za, zu, zt, zx, zg⟩ (Cv.next ⟨zn, zd, zp, za, zu, zt, zx, zg⟩ V y (s.st == 3)), l := s.l.set m (Cv.next ⟨zn, zd, zp, za, zu, zt, zx, zg⟩ V y (s.st == 3)) }, fun W v hc => ?_, fun _ => ⟨hsta', rfl⟩⟩
      refine (hear_some (a := s.tell) (j := j) (m := 10000) i y zn zd zp za zu zt zx zg NK NS m NT NM V hc (by omega) hj2 hj1 (by omega) (by omega) (Lib.hid f1) (by omega) f2 (by rw [hhear]; exact hzn.fit hM)).mono ?_
      rintro e w' ⟨g1, _⟩
      rw [hhear] at g1
      rw [htell]
      exact News.ansk _ _ (g1 hherr)
    · obtain ⟨x, hx⟩ : ∃ x, Cv.herr i ⟨zn, zd, zp, za, zu, zt, zx, zg⟩ ⟨NK, NS, (m : Int), NT, NM, V⟩ = x := ⟨_, rfl⟩
      have hx0 : x ≠ 0 := by rw [← hx]; unfold Cv.herr; rw [if_neg hH]; decide
      refine ⟨x, s, fun W v hc => ?_, fun g => absurd g hx0⟩
      refine (hear_some (a := s.tell) (j := j) (m := 10000) i y zn zd zp za zu zt zx zg NK NS m NT NM V hc (by omega) hj2 hj1 (by omega) (by omega) (Lib.hid f1) (by omega) f2 (by unfold Cv.hear; rw [if_neg hH]; exact hf0)).mono ?_
      rintro e w' ⟨_, g2⟩
      rw [hx] at g2
      exact Refused.ansk hx0 _ _ (g2 hx0)
  · exact ⟨10, s, fun W v hc => (hear_none (a := s.tell) i y NK NS C NT NM V hc (by omega) (fun c hc2 he => hex ⟨c, hc2, he⟩)).mono (Refused.ansk (by decide)), fun g => absurd g (by decide)⟩
end
end Go.Proofs.YtkdajjbhmmgbkaaGreat
/-
  One subscription: another plan, days that go by, its first day. No conditions but the sizes.
-/
namespace Go.Proofs.YtkdajjbhmmgbkaaGreat
set_option linter.unusedVariables false
set_option linter.unusedSimpArgs false
set_option maxRecDepth 100000
open Go.ChangeShapes Go.WideShapes Go.ChangeAt Go.RowKit

section
variable {M L : Int} {p q : Pv} {y : Int} {s : Sv}
theorem sub_change {kp kq : Nat} (h : Sta M L p y s) (hM : M ≤ 100000000000) (hL : 0 ≤ L ∧ L ≤ 9000) (hp : p.Ok) (hp12 : p.e ≤ 12) (hq : q.Ok) (hpl : s.pl = (kp : Int)) (hy : 0 ≤ y ∧ y ≤ 2000000) : ∃ x s', (∀ (W : World) (v : Value), Cys W 0 W.heap.size v s.tell.l → Calls Tryz.prog 98 #[.agg (s.tell.arr v), .agg p.arr, .int .i64 (kq : Int), .agg q.arr, .int .i64 y] W (Ansk x s'.tell W)) ∧ (x = 0 → Sta (M + 1100000000) L q y s' ∧ s'.pl = (kq : Int)) := by
  have hl := (h.lens hL.2).2
  obtain ⟨f1, f2, f3, f4, f5⟩ := h.fits hM hL.2
  obtain ⟨k, d, c, hAt, hcn, hix, hic, hcL⟩ := h.ex
  by_cases hst : s.st = 1
  · by_cases hne : kq = kp
    · exact ⟨8, s, fun W v _ => (change_same (a := s.tell) (k := k) (d := d) _ _ hst (by show (kq : Int) = s.pl; rw [hpl, hne]) hAt hp.u hp.e (by omega)).mono (Refused.ansk (by decide)), fun g => absurd g (by decide)⟩
    have hnp : (kq : Int) ≠ s.pl := by omega
    have hixc := hix (by omega)
    by_cases hay : y < s.an
    · have hix0 : s.ix = 0 := by
        have := (Cal.Cnt.before (u := p.u) (e := p.e) hAt hay).one hcn
        omega
      exact ⟨0, { s with pl := (kq : Int), ix := 0 }, fun W v hc => (change_free (a := s.tell) (x1 := 0) (x2 := 0) (x3 := 2) _ _ hst hnp hc (by omega) (fun W => span_before _ k d _ _ _ W hAt hp.u.1 hp.u.2 hp.e.1 hp.e.2 (by omega) (by omega) hay) (by decide) (.inl (by decide))).mono News.ansk, fun _ => ⟨h.change_free (q := q) (kq : Int) hay hL.1, rfl⟩⟩
    · have hcn2 : Cal.Cnt p.u s.an k d p.e y s.ix := by rw [hixc]; exact hcn
      have hok := Cal.okN_near hAt ⟨hp.e.1, hp12⟩ hcn2 (by omega) (by omega)
      have hpos := hcn2.pos hAt (by omega)
      have hs' := h.change_go hp hq (kq : Int) hst (by omega) hL.1 hAt hcn2 hok
      refine ⟨0, _, fun W v hc => ?_, fun _ => ⟨hs', rfl⟩⟩
      have := (change_go (a := s.tell) (k := k) (d := d) (c := s.ix) (p := p) (q := q) (kq : Int) y hst hnp (by show s.ix ≠ 0; omega) hc (by omega) hAt hp.u hp.e (by omega) (by show s.an ≤ y; omega) hcn2 hok (by have := hp.a; omega) (by have := hq.a; omega) f5).mono News.ansk
      refine this.mono ?_
      intro e w' g
      unfold Av.changed Sv.tell at g
      unfold Sv.tell
      dsimp only at g ⊢
      rw [← Int.add_sub_assoc]
      exact g
  · have h23 := h.ok.st
    exact ⟨8, s, fun W v _ => (change_off (a := s.tell) (k := k) (d := d) _ _ hst hAt hp.u hp.e (by omega)).mono (Refused.ansk (by decide)), fun g => absurd g (by decide)⟩
/-- A subscription that has just been opened. -/
def Sv.begun (pl an : Int) : Sv := ⟨1, pl, an, 0, 0, false, []⟩
theorem Sv.begun_sta {pl an : Int} (h0 : 0 ≤ an) (h1 : an ≤ 3652058) (hy : y < an) : Sta 0 0 p y (Sv.begun pl an) := by
  obtain ⟨k, d, hAt⟩ := Cal.at_of an h0 h1
  exact ⟨⟨.inl rfl, fun k c h => by simp [Sv.begun] at h, fun c h => by simp [Sv.begun] at h, by show absI 0 + 0 ≤ 0; decide, Int.le_refl _, Int.le_refl _⟩, Int.le_refl _, k, d, 0, hAt, Cal.Cnt.before hAt hy, fun _ => rfl, Int.le_refl _, Int.le_refl _⟩
theorem Sv.begun_tell (pl an : Int) : (Sv.begun pl an).tell = Av.opened pl an := rfl
theorem sub_open {kn : Nat} (hp : p.Ok) (ht : 0 ≤ p.t ∧ p.t ≤ 1000) (hy : 0 ≤ y ∧ y + p.t ≤ 3652058) : ∃ s', (∀ W, Calls Tryz.prog 58 #[.agg ((Av.opened (kn : Int) (y + p.t)).arr (.slice none 0 0)), .agg p.arr, .int .i64 y] W (News W s'.tell)) ∧ Sta 1100000000 1 p y s' ∧ s'.pl = (kn : Int) := by
  obtain ⟨s', D⟩ := (Sv.begun_sta (p := p) (pl := (kn : Int)) (y := y - 1) (an := y + p.t) (by omega) (by omega) (by omega)).day (y' := y) hp (by omega) hy.1 (by omega) (by omega) (by omega) (by omega)
  refine ⟨s', fun W => ?_, D.sta.more (by omega) (by omega), D.pl⟩
  have := D.calls W (.slice none 0 0) Cys.nil
  rw [Sv.begun_tell] at this
  exact this
end
end Go.Proofs.YtkdajjbhmmgbkaaGreat
/-
  What a book asks, and a new book: package book's Asks, New. No conditions but the sizes.
-/
namespace Go.Proofs.YtkdajjbhmmgbkaaGreat
set_option linter.unusedVariables false
set_option linter.unusedSimpArgs false
set_option maxRecDepth 100000
open Go.ChangeShapes Go.WideShapes Go.ChangeAt Go.RowKit

/-- What the first subscriptions ask. -/
def asksK (a : Nat → Av) : Nat → List Nv
  | 0 => []
  | n + 1 => asksK a n ++ asksOf (n : Int) (a n).l
theorem asksK_len {a : Nat → Av} {m : Nat} (h : ∀ k, k < 32 → (a k).l.length ≤ m) : ∀ n, n ≤ 32 → (asksK a n).length ≤ n * m
  | 0, _ => Nat.zero_le _
  | n + 1, hn => by
    have h1 := asksK_len h n (by omega)
    have h2 := asksOf_len (n : Int) (a n).l
    have h3 := h n (by omega)
    rw [asksK, List.length_append, Nat.add_mul]
    omega
/-- A book with nothing in it. -/
def Kb.new (td : Int) : Kb := { Kb.zero with td := td }
theorem Kb.new_built (td : Int) : Tryz.prog.built 35 [(0, .int .i64 td)] = some (Kb.new td).arr := by
  rw [Kb.arr_row, rowF_list]
  kernel_rfl
theorem Kb.new_one (td : Int) : (Kb.new td).One := ⟨rfl, fun _ _ => rfl⟩
set_option maxHeartbeats 4000000 in
theorem bknew_any (td : Int) (w : World) : Calls Tryz.prog 10 #[.int .i64 td] w fun e w' => e = .returned (.agg (Kb.new td).arr) ∧ Below w.heap.size w w' := by
  go_enter Tryz.func10, Tryz.ntmps10
  go_wp2_with (((with_reducible_and_instances (show wpList _ _ _ (Oper.mk _ (Op.build 35 _) _ _ _ _ :: _) _ _)); refine stop_here ?_))
  refine ⟨?_⟩
  refine wpList_buildTo rfl 35 _ rfl _ rfl _ (Eq.trans (congrArg (Program.built _ _) (by simp [Act.eval])) (Kb.new_built td)) ?_
  go_wp2_with (((with_reducible_and_instances (show wpList _ _ _ (Oper.mk _ (Op.store 35 _ _) _ _ _ _ :: _) _ _)); refine stop_here ?_))
  refine ⟨?_⟩
  refine wl_store (g := w.heap.size) Kb.info rfl rfl rfl rfl (alloc_at (by simp)) Kb.zero_size (Kb.arr_size _) (Kb.new_one td).arr ?_
  go_wp2_with fail
  refine bodyPost_ret (results_cell_row rfl _ _ (w.heap.size) 35 _ (0, 0) _ rfl (boxed_at (by simp)) Tryz.underlying35 rfl (by rw [Kb.arr_size]; exact Kb.info)) rfl ?_
  exact ⟨rfl, boxed_below ((Below.refl _ w).alloc (by first | exact Nat.le_refl _ | (simp; done) | (simp; omega)) _) (by omega)⟩
set_option maxHeartbeats 8000000 in
theorem bkasks_any {w : World} {b : Kb} {ps : List Pv} (h : KbM w 0 w.heap.size b ps) (hl : ∀ k, k < 32 → (b.a k).l.length ≤ 100000) : Calls Tryz.prog 12 #[.agg b.arr] w fun e w' => ∃ v', e = .returned v' ∧ w'.ownsRow w.heap.size 46 6 v' (asksK b.a 32).length (ncs (asksK b.a 32)) ∧ Below w.heap.size w w' := by
  have H := Lib.hid h
  have HL := Lib.hid hl
  clear h hl
  go_enter Tryz.func12, Tryz.ntmps12
  go_upto_region 2 with fail
  have B2 : (w.alloc (.cells b.arr 35)).heap[w.heap.size]? = some (.cells b.arr 35 (0, 0)) := alloc_at rfl
  go_wp2_with (((with_reducible_and_instances (show wpList _ _ _ (Oper.mk _ (Op.load 33 _) _ _ _ _ :: _) _ _)); refine stop_here ?_))
  refine ⟨?_⟩
  refine wpList_load_mid rfl _ _ rfl w.heap.size 2 rfl b.subs.toList _ (Kb.range_subs B2) Tryz.underlying33 rfl Kb.infos_l ?_
  rw [Array.toArray_toList]
  go_wp2_with fail
  go_loopw [3, 8] (fun sl i wq => ∃ (j : Nat) (v' : Value), j ≤ 32 ∧ i = .int .i64 j ∧ sl = v' ∧ Hid (Below w.heap.size w wq) ∧ Hid (wq.ownsRow (w.heap.size + 1) 46 6 v' (asksK b.a j).length (ncs (asksK b.a j)))) (fun _ i _ => 32 - (intOf i).toNat)
  case atStart => exact ⟨0, _, by omega, rfl, rfl, (Below.refl _ w).alloc (Nat.le_refl _) _, World.ownsRow_nil _ _ _ _⟩
  case round =>
    clear B2
    obtain ⟨j, v', hj, rfl, rfl, HW, HO⟩ := hrel
    have hzw := HW.out.size
    by_cases hlt : j < 32
    case neg =>
      obtain rfl : j = 32 := by omega
      have dlt : decide (((32 : Nat) : Int) < 32) = false := by decide
      obtain ⟨An, cn, hvn, _⟩ := own_form HO.out
      subst hvn
      go_wp2
      go_ret
      exact ⟨_, rfl, ⟨HO.out.1, HO.out.2.elim .inl fun ⟨g, cap, cur, h1, h2, h3⟩ => .inr ⟨g, cap, cur, h1, by omega, h3⟩⟩, HW.out⟩
    case pos =>
      have dlt : decide ((j : Int) < 32) = true := by simp; omega
      have q := fun w => Kb.run_index b hlt w
      have hln := HL.out j hlt
      have hcy := H.out.cs j hlt
      have hal := asksK_len HL.out j hj
      have hM1 : asksK b.a (j + 1) = asksK b.a j ++ asksOf (j : Int) (b.a j).l := rfl
      obtain ⟨M, hM⟩ : ∃ M, asksK b.a j = M := ⟨_, rfl⟩
      rw [hM] at HO hal hM1
      have HM1 := Lib.hid hM1
      obtain ⟨a, ha⟩ : ∃ a, b.a j = a := ⟨_, rfl⟩
      obtain ⟨v, hv⟩ : ∃ v, b.v j = v := ⟨_, rfl⟩
      rw [ha, hv] at q hcy
      rw [ha] at hln HM1
      have HCY := Lib.hid hcy
      have hv1 : v.oneCell' = true := by obtain ⟨A, c, he, _⟩ := hcy; rw [he]; rfl
      obtain ⟨An, cn, hvn, _⟩ := own_form HO.out
      subst hvn
      have hjI : (j : Int) < 32 := by omega
      have hjJ : (0 : Int) ≤ (j : Int) := by omega
      clear ha hv hcy hM hM1
      go_wp2_with (((with_reducible_and_instances (show wpList _ _ _ (Oper.mk _ (Op.store 32 _ _) _ _ _ _ :: _) _ _)); refine stop_here ?_))
      refine ⟨?_⟩
      refine wl_store (g := wr.heap.size) info13 rfl rfl rfl rfl (alloc_at rfl) rfl rfl (Av.arr_one hv1) ?_
      obtain ⟨W3, hW3⟩ : ∃ W3, boxed (wr.alloc (.cells #[.int .u8 0, .int .i64 0, .int .i64 0, .int .i64 0, .int .i64 0, .int .i64 0, .bool false, .slice none 0 0, .int .i64 0, .int .i64 0, .int .i64 0, .int .i64 0, .int .i64 0] 32)) wr.heap.size (a.arr v) 32 = W3 := ⟨_, rfl⟩
      have s2 : W3.heap[wr.heap.size]? = some (.cells (a.arr v) 32 (0, 0)) := by rw [← hW3]; exact boxed_at (by simp)
      have hV3 : Below w.heap.size w W3 := by rw [← hW3]; exact boxed_below (HW.out.alloc HW.out.size _) (by omega)
      have HO3 : Hid (W3.ownsRow (w.heap.size + 1) 46 6 (.slice An M.length cn) M.length (ncs M)) := own_kept HO.out fun i hi => by
        have := (HO.out.lt i hi).2
        rw [← hW3, boxed_block_other (by omega), alloc_block_old this]
      rw [hW3]
      have hs3 : w.heap.size + 1 ≤ W3.heap.size := by rw [← hW3]; simp; omega
      obtain ⟨ab, hab⟩ : ∃ ab, wr.heap.size = ab := ⟨_, rfl⟩
      rw [hab] at s2 ⊢
      clear hW3 hab q HO HW hzw wr
      go_wp2_with (((with_reducible_and_instances (show wpList _ _ _ (Oper.mk _ (Op.load 32 _) _ _ _ _ :: _) _ _)); refine stop_here ?_))
      refine ⟨?_⟩
      refine wl_load (cs := a.arr v) (fr := (0, 0)) (g := ab) Tryz.underlying32 rfl info13 rfl rfl rfl s2 rfl ?_
      go_wp2_with fail
      refine (asks_any (a := a) (j : Int) ((HCY.out.kept fun i _ h2 => hV3.block i h2).more (Nat.le_refl _) hV3.size) hln).mono ?_
      rintro e W4 ⟨v4, rfl, ho4, hb4⟩
      have HV4 : Hid (Below w.heap.size w W4) := hV3.trans (hb4.mono hV3.size)
      have hs4 := hb4.size
      have HO4 : Hid (W4.ownsRow (w.heap.size + 1) 46 6 (.slice An M.length cn) M.length (ncs M)) := own_kept HO3.out fun i hi => hb4.block i (HO3.out.lt i hi).2
      have hla := asksOf_len (j : Int) a.l
      clear hb4 hV3 HO3
      go_wp2_with (at_builtin; refine stop_here ?_)
      refine ⟨?_⟩
      refine wpList_append_nvs nyty rfl _ _ rfl (l0 := M) (l := asksOf (j : Int) a.l) (base := w.heap.size + 1) (b := W3.heap.size) (B := W4.heap.size) rfl rfl HO4.out (Nvs.own ho4) (by omega) (by omega) ?_
      intro v5 w5 ho5 hg5 hat5
      rw [← HM1.out] at ho5
      obtain ⟨A5, c5, hv5, _, _⟩ := own_form ho5
      subst hv5
      have HO5 := Lib.hid ho5
      have HW5 : Hid (Below w.heap.size w w5) := by
        have hq := HV4.out
        refine ⟨hg5.os.trans hq.os, hg5.tape.trans hq.tape, hg5.output.trans hq.output, by have := hg5.size; omega, fun i hi => ?_⟩
        rw [hg5.block i (by omega) (fun e => by have := (HO4.out.lt _ e.symm).1; omega)]
        exact hq.block i hi
      clear hg5 hat5 ho5 ho4 HO4 HV4
      go_wp2_with fail
      go_roundw
      case rel => exact ⟨j + 1, _, by omega, by go_num, rfl, HW5, HO5.out⟩
      case measure => simp [intOf]; omega
end Go.Proofs.YtkdajjbhmmgbkaaGreat
