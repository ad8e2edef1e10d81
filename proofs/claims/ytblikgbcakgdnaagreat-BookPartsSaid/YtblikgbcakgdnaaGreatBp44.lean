/-
  A book's numbers are small enough for its bytes; any step, whatever it answers. No conditions but the sizes.
-/
import Derived.Test.YtblikgbcakgdnaaGreatBp39
import Derived.Test.YtblikgbcakgdnaaGreatBp43
set_option linter.unusedSimpArgs false
set_option linter.unusedVariables false
namespace Go.Proofs.YtblikgbcakgdnaaGreat
set_option linter.unusedVariables false
set_option linter.unusedSimpArgs false
set_option maxRecDepth 100000
open Go.ChangeShapes Go.WideShapes Go.ChangeAt Go.RowKit

theorem Kbe.cyc_ok {M : Int} {c : Cv} {n : Nat} (h : COk M c) (hM : 0 ≤ M ∧ M ≤ 100000000000) (hn : c.n = (n : Int)) (hn2 : n ≤ 100000) : Kbe.CSm c := by
  have := h.p0; have := h.p1; have := h.t0; have := h.t1; have := h.a0; have := h.a1; have := h.u0; have := h.u1; have := h.d0; have := h.d1; have := h.x0; have := h.x1
  constructor <;> (try unfold Kbe.Sm) <;> omega
theorem Kbe.zero_sm : Kbe.ASm Av.zero := by
  constructor <;> first | (intro c hc; cases hc; done) | (unfold Kbe.Sm; decide) | decide
theorem Kbe.sta_sm {M L : Int} {p : Pv} {y : Int} {s : Sv} {kp : Nat} (h : Sta M L p y s) (hM : 0 ≤ M ∧ M ≤ 100000000000) (hL : L ≤ 9000) (hk : s.pl = (kp : Int)) (hk2 : kp ≤ 1000) : Kbe.ASm s.tell := by
  obtain ⟨f, _, _, _, f5⟩ := h.fits hM.2 hL
  obtain ⟨k, d, c, hAt, _, _, hic, hcL⟩ := h.ex
  have hbd := hAt.bd
  have hst := h.ok.st
  have hix := h.ok.ix0
  have hlen := (h.lens hL).1
  have e0 := f.d0; have e1 := f.d1; have e2 := f.n0; have e3 := f.n1; have e4 := f.r0; have e5 := f.r1; have e6 := f.s0; have e7 := f.s1; have e8 := f.p0; have e9 := f.p1
  refine ⟨by show 0 ≤ s.st ∧ s.st < 256; omega, by show Kbe.Sm s.pl; unfold Kbe.Sm; omega, by show Kbe.Sm s.an; unfold Kbe.Sm; omega, by show Kbe.Sm s.ix; unfold Kbe.Sm; omega, by show Kbe.Sm (s.l.length : Int); unfold Kbe.Sm; omega, by show Kbe.Sm s.cr; unfold Kbe.Sm; omega, by unfold Kbe.Sm; omega, by unfold Kbe.Sm; omega, by unfold Kbe.Sm; omega, by unfold Kbe.Sm; omega, by unfold Kbe.Sm; omega, fun c hc => ?_⟩
  have hm := (opn_mem hc).1
  obtain ⟨n, hn⟩ := List.getElem?_of_mem hm
  exact Kbe.cyc_ok (n := n) (h.ok.cs c hm) hM (h.ok.num n c hn) (by have := (List.getElem?_eq_some_iff.1 hn).1; omega)
theorem Kbe.acc_len (a : Av) : (Kbe.acc a).length ≤ 13 + a.l.length * 8 := by
  unfold Kbe.acc
  split
  · show 1 ≤ _; omega
  · rw [List.length_append, flat_len]; simp
theorem Kbe.subs_len {a : Nat → Av} {m : Nat} (h1 : ∀ k, k < 3 → (a k).l.length ≤ m) (h2 : ∀ k, 3 ≤ k → k < 32 → a k = Av.zero) : ∀ n, n ≤ 32 → (Kbe.subs a n).length ≤ 3 * (13 + m * 8) + n
  | 0, _ => Nat.zero_le _
  | n + 1, hn => by
    rw [Kbe.subs, List.length_append]
    by_cases h3 : n < 3
    · have e : ∀ k, k ≤ 3 → (Kbe.subs a k).length ≤ k * (13 + m * 8) := fun k => by
        induction k with
        | zero => intro _; exact Nat.zero_le _
        | succ k ih =>
          intro hk
          rw [Kbe.subs, List.length_append]
          have g1 := ih (by omega)
          have g2 := Kbe.acc_len (a k)
          have g3 := h1 k (by omega)
          rw [Nat.add_mul]
          omega
      have g := e (n + 1) (by omega)
      rw [Kbe.subs, List.length_append] at g
      have : (n + 1) * (13 + m * 8) ≤ 3 * (13 + m * 8) := Nat.mul_le_mul_right _ (by omega)
      omega
    · have g := Kbe.subs_len h1 h2 n (by omega)
      have e : (Kbe.acc (a n)).length = 1 := by rw [h2 n (by omega) (by omega)]; rfl
      omega
theorem PBok.bsm {M L td : Int} {a : Nat → Av} {ps : List Pv} (h : PBok M L td a ps) (hM : 0 ≤ M ∧ M ≤ 100000000000) (hL : L ≤ 2000) : Kbe.BSm td ps a := by
  have hd := h.day
  have hln := h.len
  have hll : ∀ k, k < 32 → (a k).l.length ≤ 2000 := fun k hk => by
    rcases h.sub k hk with g | ⟨s, kp, P, _, _, g3, g⟩
    · rw [g]; exact Nat.zero_le _
    · rw [g]
      have h1 := g3.len
      have h2 := opn_len s.l
      show (opn s.l).length ≤ 2000
      omega
  refine ⟨by unfold Kbe.Sm; omega, fun p hp => ?_, by omega, fun k hk => ⟨?_, by have := hll k hk; omega⟩, ?_⟩
  · obtain ⟨g1, g2, g3, g4⟩ := h.pok p hp
    have ha := g1.a
    have hu := g1.u
    have he := g1.e
    exact ⟨by unfold Kbe.Sm; omega, by omega, by unfold Kbe.Sm; omega, by unfold Kbe.Sm; omega⟩
  · rcases h.sub k hk with g | ⟨s, kp, P, g1, g2, g3, g⟩
    · rw [g]; exact Kbe.zero_sm
    · rw [g]
      exact Kbe.sta_sm g3 hM (by omega) g1 (by have := (List.getElem?_eq_some_iff.1 g2).1; omega)
  · unfold Kbe.book
    rw [List.length_append, List.length_append, pln_len]
    have g := Kbe.subs_len (m := 2000) (fun k hk => hll k (by omega)) h.low 32 (Nat.le_refl _)
    simp only [List.length_cons, List.length_nil]
    omega
/-- A step, whatever it answers: a book of small numbers. -/
def Stepz (M L : Int) (W : World) (b : Kb) (o : Ov) (e : Ending) (w' : World) : Prop := ∃ (c : Kb) (x : Int), e = .returned (.tuple #[.agg c.arr, .int .i64 x]) ∧ c.One ∧ (∃ ps', KbM w' W.heap.size w'.heap.size c ps' ∧ PBok (M + 1100000000) (L + 40) c.td c.a ps' ∧ c.td ≤ b.td + 40) ∧ Below W.heap.size W w'
def Camz (M L : Int) (b : Kb) (_ : Ov) (D n : Nat) (c : Kb) (_ : Int) (w' : World) : Prop := ∃ ps' b0 c0, D + 1 ≤ b0 ∧ c0 ≤ w'.heap.size ∧ (n < b0 ∨ c0 ≤ n) ∧ KbM w' b0 c0 c ps' ∧ PBok (M + 1100000000) (L + 40) c.td c.a ps' ∧ c.td ≤ b.td + 40
theorem Camz.below {M L : Int} {b : Kb} {o : Ov} {D n : Nat} {c : Kb} {x : Int} {w w' : World} (h : Camz M L b o D n c x w) (hb : Below w.heap.size w w') : Camz M L b o D n c x w' := by
  obtain ⟨ps', b0, c0, h1, h2, h3, h4, h5⟩ := h
  exact ⟨ps', b0, c0, h1, Nat.le_trans h2 hb.size, h3, h4.below (hb.mono h2), h5⟩
theorem Camz.boxed {M L : Int} {b : Kb} {o : Ov} {D n : Nat} {c : Kb} {x : Int} {w : World} {cs : Array Value} {t : TypeId} (h : Camz M L b o D n c x w) : ∃ ps', KbM (Go.Proofs.YtblikgbcakgdnaaGreat.boxed w n cs t) (D + 1) (Go.Proofs.YtblikgbcakgdnaaGreat.boxed w n cs t).heap.size c ps' ∧ PBok (M + 1100000000) (L + 40) c.td c.a ps' ∧ c.td ≤ b.td + 40 := by
  obtain ⟨ps', b0, c0, h1, h2, h3, h4, h5, h6⟩ := h
  exact ⟨ps', (h4.boxed h3).more h1 (by rw [boxed_size]; exact h2), h5, h6⟩
section
variable {M L : Int} {w : World} {b : Kb} {ps : List Pv} {o : Ov}
end
end Go.Proofs.YtblikgbcakgdnaaGreat
/-
  A later day at once, or by a day between: where nothing waits, and no period is missed, it is the same. No conditions but the sizes.
-/
namespace Go.Proofs.YtblikgbcakgdnaaGreat
set_option linter.unusedVariables false
set_option linter.unusedSimpArgs false
set_option maxRecDepth 100000
open Go.ChangeShapes Go.WideShapes Go.ChangeAt Go.RowKit

theorem Cal.At.one {a k d k' d' : Int} (h : Cal.At a k d) (h' : Cal.At a k' d') : k = k' ∧ d = d' := by
  have h1 := h.le h' (Int.le_refl _)
  have h2 := h'.le h (Int.le_refl _)
  have e : k = k' := by omega
  subst e
  have := h.eq
  have := h'.eq
  exact ⟨rfl, by omega⟩
theorem Av.day_calm {N : Int → Int} {p : Pv} {c y : Int} {a : Av} (h : a.Calm) (hst : a.st ≠ 3) : Av.day N p c y a = Av.runs N p c (c - a.ix).toNat a := by
  unfold Av.day
  rw [if_neg hst, Av.each_id (fun z hz => ⟨(h z hz).wake y, (h z hz).open_⟩)]
theorem Sta.fine {M L : Int} {p : Pv} {y : Int} {s : Sv} (h : Sta M L p y s) (hM : M ≤ 100000000000) (hL : L ≤ 9000) (hc : s.tell.Calm) : s.tell.Fine 10000 := by
  obtain ⟨f1, _, _, _, f5⟩ := h.fits hM hL
  obtain ⟨l1, l2⟩ := h.lens hL
  exact ⟨hc, f1, by omega, by show 0 ≤ (s.l.length : Int) ∧ (s.l.length : Int) ≤ _; omega, f5.1, f5.2⟩
theorem Sta.day_stays {M L : Int} {p : Pv} {y y' : Int} {s : Sv} (h : Sta M L p y s) (hp : p.Ok) (hy : y ≤ y') (h0 : 0 ≤ y') (h1 : y' ≤ 3652058) (hM : M ≤ 100000000000) (hyy : y' - y ≤ 4000) (hL : L + (y' - y) ≤ 9000) (hst : s.st ≠ 3) (hc : s.tell.Calm) : ∃ s' k d c c', DayOk M (L + (y' - y)) p y' s s' ∧ Cal.At s.an k d ∧ Cal.Cnt p.u s.an k d p.e y c ∧ Cal.Cnt p.u s.an k d p.e y' c' ∧ c ≤ c' ∧ s.ix = c ∧ s'.tell = Av.runs (Cal.vN p.u s.an k d p.e) p c' (c' - c).toNat s.tell ∧ s'.tell.Calm ∧ s'.an = s.an := by
  obtain ⟨s', k, d, c, c', D, hA, hc0, hc1, hle, hix, ht, han⟩ := h.day_of hp hy h0 h1 hM hyy hL
  have e := hix hst
  rw [Av.day_calm hc hst] at ht
  have ht' : s'.tell = Av.runs (Cal.vN p.u s.an k d p.e) p c' (c' - c).toNat s.tell := by rw [ht, ← e]; rfl
  refine ⟨s', k, d, c, c', D, hA, hc0, hc1, hle, e, ht', ?_, han⟩
  rw [ht']
  exact (Av.Fine.runs (by have := hp.a; omega) _ _ _ (h.fine hM (by omega) hc)).calm
/-- A day between changes nothing. -/
theorem parts_sub {M L : Int} {p : Pv} {y y1 y2 : Int} {s : Sv} (h : Sta M L p y s) (hp : p.Ok) (hl : p.l = false) (hst : s.st ≠ 3) (hc : s.tell.Calm) (h01 : y ≤ y1) (h12 : y1 ≤ y2) (h0 : 0 ≤ y1) (h2 : y2 ≤ 3652058) (hM : M ≤ 100000000000) (hyy : y2 - y ≤ 4000) (hL : L + (y2 - y) ≤ 9000) :
    ∃ s1 s2 s3, DayOk M (L + (y1 - y)) p y1 s s1 ∧ DayOk M (L + (y1 - y) + (y2 - y1)) p y2 s1 s2 ∧ DayOk M (L + (y2 - y)) p y2 s s3 ∧ s2.tell = s3.tell := by
  obtain ⟨s1, k, d, c0, c1, D1, hA, hc0, hc1, hle1, hix0, ht1, hcm1, han1⟩ := h.day_stays hp h01 h0 (by omega) hM (by omega) (by omega) hst hc
  have st1 : s1.st ≠ 3 := by rw [D1.st]; exact hst
  obtain ⟨s2, k', d', c1', c2, D2, hA', hc1', hc2, hle2, hix1, ht2, _, _⟩ := D1.sta.day_stays hp h12 (by omega) h2 hM (by omega) (by omega) st1 hcm1
  obtain ⟨s3, k3, d3, c0', c2', D3, hA3, hc0', hc2', hle3, _, ht3, _, _⟩ := h.day_stays hp (Int.le_trans h01 h12) (by omega) h2 hM hyy hL hst hc
  rw [han1] at hA' hc1' hc2 ht2
  obtain ⟨rfl, rfl⟩ := hA.one hA'
  obtain ⟨rfl, rfl⟩ := hA.one hA3
  obtain rfl := hc1.one hc1'
  obtain rfl := hc2.one hc2'
  obtain rfl := hc0.one hc0'
  refine ⟨s1, s2, s3, D1, D2, D3, ?_⟩
  rw [ht2, ht3, ht1, Av.runs_any c1 c2 hl, ← Av.runs_add]
  congr 1
  omega
/-- A subscription that has just been opened is calm. -/
theorem sub_open_calm {p : Pv} {y : Int} {kn : Nat} (hp : p.Ok) (ht : 0 ≤ p.t ∧ p.t ≤ 1000) (hy : 0 ≤ y ∧ y + p.t ≤ 3652058) : ∃ s', (∀ W, Calls Tryz.prog 58 #[.agg ((Av.opened (kn : Int) (y + p.t)).arr (.slice none 0 0)), .agg p.arr, .int .i64 y] W (News W s'.tell)) ∧ Sta 1100000000 1 p y s' ∧ s'.pl = (kn : Int) ∧ s'.st = 1 ∧ s'.tell.Calm := by
  obtain ⟨s', k, d, c, c', D, _, _, _, _, _, _, hcm, _⟩ := (Sv.begun_sta (p := p) (pl := (kn : Int)) (y := y - 1) (an := y + p.t) (by omega) (by omega) (by omega)).day_stays (y' := y) hp (by omega) hy.1 (by omega) (by omega) (by omega) (by omega) (by show (1 : Int) ≠ 3; decide) (by rw [Sv.begun_tell]; exact (Av.opened_fine _ _).calm)
  refine ⟨s', fun W => ?_, D.sta.more (by omega) (by omega), D.pl, D.st, hcm⟩
  have := D.calls W (.slice none 0 0) Cys.nil
  rw [Sv.begun_tell] at this
  exact this
theorem Kbe.subs_congr {a a' : Nat → Av} : ∀ n, (∀ k, k < n → a k = a' k) → Kbe.subs a n = Kbe.subs a' n
  | 0, _ => rfl
  | n + 1, h => by rw [Kbe.subs, Kbe.subs, Kbe.subs_congr n (fun k hk => h k (by omega)), h n (by omega)]
theorem Kbe.book_congr {td : Int} {ps : List Pv} {a a' : Nat → Av} (h : ∀ k, k < 32 → a k = a' k) : Kbe.book td ps a = Kbe.book td ps a' := by
  unfold Kbe.book
  rw [Kbe.subs_congr 32 h]
theorem right_def {P : Pv} (h : Pn.right P.a P.u P.e P.t = 0) : Ov.right ⟨1, 0, 0, 0, P, Nv.zero⟩ = 0 := by
  unfold Ov.right
  rw [if_pos ⟨.inl rfl, by unfold Ov.named; exact (if_pos rfl).symm⟩]
  exact (if_pos rfl).trans h
theorem right_opn {i n : Nat} (hi : i < 32) (hn : n < 8) : Ov.right ⟨2, i, n, 0, Pv.zero, Nv.zero⟩ = 0 := by
  unfold Ov.right
  rw [if_pos ⟨.inr (.inl ⟨rfl, by dsimp only; omega⟩), by unfold Ov.named; exact ((if_neg (by show ¬ nm 2 = 1; decide)).trans (if_pos rfl)).symm⟩]
  exact if_neg (by show ¬ (2 : Int) = 1; decide)
theorem right_pass {n : Int} (h : 1 ≤ n ∧ n ≤ 60) : Ov.right ⟨9, 0, 0, n, Pv.zero, Nv.zero⟩ = 0 := by
  unfold Ov.right
  rw [if_pos ⟨.inr (.inr (.inr (.inl ⟨rfl, h⟩))), by unfold Ov.named; exact ((if_neg (by show ¬ nm 9 = 1; decide)).trans ((if_neg (by show ¬ nm 9 = 2; decide)).trans ((if_neg (by show ¬ nm 9 = 3; decide)).trans (if_pos rfl)))).symm⟩]
  exact if_neg (by show ¬ (9 : Int) = 1; decide)
theorem built_opn (s p : Int) : Tryz.prog.built 48 [(0, .int .u8 2), (1, .int .i64 s), (2, .int .i64 p)] = some (Ov.kb ⟨2, s, p, 0, Pv.zero, Nv.zero⟩) := by kernel_rfl
theorem built_pas (n : Int) : Tryz.prog.built 48 [(0, .int .u8 9), (3, .int .i64 n)] = some (Ov.kb ⟨9, 0, 0, n, Pv.zero, Nv.zero⟩) := by kernel_rfl
/-- A book of so many plans, of which the first ones have been opened. -/
structure Pq (m i : Nat) (td : Int) (a : Nat → Av) (ps : List Pv) : Prop where
  day : 700000 ≤ td ∧ td ≤ 800000
  len : ps.length = m
  pok : ∀ P ∈ ps, (P.Ok ∧ P.e ≤ 12 ∧ 0 ≤ P.t ∧ P.t ≤ 1000) ∧ P.l = false
  no : ∀ k, i ≤ k → k < 32 → a k = Av.zero
  yes : ∀ k, k < i → ∃ (s : Sv) (P : Pv), ps[k]? = some P ∧ s.pl = (k : Int) ∧ Sta 1100000000 1 P td s ∧ s.st = 1 ∧ s.tell.Calm ∧ a k = s.tell
theorem Pq.lens {m i : Nat} {td : Int} {a : Nat → Av} {ps : List Pv} (h : Pq m i td a ps) : ∀ k, k < 32 → (a k).l.length ≤ 9000 := fun k hk => by
  by_cases hi : k < i
  · obtain ⟨s, P, _, _, hs, _, _, g⟩ := h.yes k hi
    rw [g]; exact (hs.lens (by omega)).2
  · rw [h.no k (by omega) hk]; exact Nat.zero_le _
theorem Pq.congr {m i : Nat} {td td' : Int} {a a' : Nat → Av} {ps : List Pv} (h : Pq m i td a ps) (hi : i ≤ 32) (ht : td' = td) (he : ∀ k, k < 32 → a' k = a k) : Pq m i td' a' ps := by
  subst ht
  exact ⟨h.day, h.len, h.pok, fun k h1 h2 => (he k h2).trans (h.no k h1 h2), fun k hk => by
    obtain ⟨s, P, g1, g2, g3, g4, g5, g6⟩ := h.yes k hk
    exact ⟨s, P, g1, g2, g3, g4, g5, (he k (by omega)).trans g6⟩⟩
theorem Pq.def_ {m : Nat} {td : Int} {a : Nat → Av} {ps : List Pv} {P : Pv} (h : Pq m m td a ps) (hP : (P.Ok ∧ P.e ≤ 12 ∧ 0 ≤ P.t ∧ P.t ≤ 1000) ∧ P.l = false) : Pq (m + 1) m td a (ps ++ [P]) :=
  ⟨h.day, by rw [List.length_append, h.len]; rfl, fun Q hQ => by
    rcases List.mem_append.1 hQ with g | g
    · exact h.pok Q g
    · rw [List.mem_singleton.1 g]; exact hP, h.no, fun k hk => by
    obtain ⟨s, Q, g1, g2⟩ := h.yes k hk
    exact ⟨s, Q, by rw [List.getElem?_append_left (List.getElem?_eq_some_iff.1 g1).1]; exact g1, g2⟩⟩
section
variable {m i : Nat} {w : World} {b : Kb} {ps : List Pv}
theorem parts_def (h : Pq m m b.td b.a ps) (hm : m < 3) (hkm : KbM w 0 w.heap.size b ps) {P : Pv} (hpr : Pn.right P.a P.u P.e P.t = 0) : Calls Tryz.prog 14 #[.agg b.arr, .agg (Ov.kb ⟨1, 0, 0, 0, P, Nv.zero⟩)] w (StYes b.td b.a (ps ++ [P]) w) := by
  have hln := h.lens
  have hlen := h.len
  exact bkstep_def_yes (right_def hpr) rfl hkm (by omega) (fun k hk => by have := hln k hk; omega) hpr (by omega)
set_option maxHeartbeats 4000000 in
theorem parts_open (h : Pq (i + 1) i b.td b.a ps) (hi3 : i < 3) (hkm : KbM w 0 w.heap.size b ps) : ∃ s' : Sv, Pq (i + 1) (i + 1) b.td (fun k => if k = i then s'.tell else b.a k) ps ∧ Calls Tryz.prog 14 #[.agg b.arr, .agg (Ov.kb ⟨2, i, i, 0, Pv.zero, Nv.zero⟩)] w (StYes b.td (fun k => if k = i then s'.tell else b.a k) ps w) := by
  have hln := h.lens
  have hlen := h.len
  have htd := h.day
  have hi : i < 32 := by omega
  obtain ⟨P, hP⟩ : ∃ P, ps[i]? = some P := ⟨_, List.getElem?_eq_getElem (by omega)⟩
  obtain ⟨⟨p1, p2, p3, p4⟩, p5⟩ := h.pok P (List.mem_of_getElem? hP)
  have hst : (b.a i).st = 0 := by rw [h.no i (Nat.le_refl _) hi]; rfl
  obtain ⟨s', hd, hs, hpl, hs1, hcm⟩ := sub_open_calm (kn := i) (y := b.td) p1 ⟨p3, p4⟩ (by omega)
  refine ⟨s', ⟨h.day, h.len, h.pok, fun k hk hk2 => ?_, fun k hk => ?_⟩, ?_⟩
  · show (if k = i then s'.tell else b.a k) = _
    rw [if_neg (by omega)]; exact h.no k (by omega) hk2
  · by_cases e : k = i
    · exact ⟨s', P, by rw [e]; exact hP, by rw [e]; exact hpl, hs, hs1, hcm, if_pos e⟩
    · obtain ⟨s, Q, g1, g2, g3, g4, g5, g6⟩ := h.yes k (by omega)
      exact ⟨s, Q, g1, g2, g3, g4, g5, (if_neg e).trans g6⟩
  · exact (bkstep_open (x := 0) (A' := s'.tell) (right_opn hi (by omega)) rfl hkm (by omega) (fun k hk => by have := hln k hk; omega) hi rfl (Lib.hid fun W c _ ht ha hc => opened_yes hi hc.ps hP (by rw [ha]; exact hst) (by rw [ht]; omega) ⟨p3, p4⟩ (by rw [ht]; omega) (Lib.hid (by rw [ht]; exact hd)))).mono fun e w' g => g.2 rfl
/-- What a day makes of each subscription. -/
def Psd (M L td' : Int) (ps : List Pv) (a a' : Nat → Av) : Prop := ∀ k, k < 32 → (a k = Av.zero ∧ a' k = Av.zero) ∨ (k < 3 ∧ ∃ (s s' : Sv) (P : Pv), s.pl = (k : Int) ∧ ps[k]? = some P ∧ a k = s.tell ∧ a' k = s'.tell ∧ s.st = 1 ∧ DayOk M L P td' s s')
set_option maxHeartbeats 4000000 in
theorem pass_det (hkm : KbM w 0 w.heap.size b ps) (hlen : ps.length ≤ 8) (hln : ∀ k, k < 32 → (b.a k).l.length ≤ 9000) (htd : 0 ≤ b.td ∧ b.td ≤ 2000000) {n : Int} (hn : 1 ≤ n ∧ n ≤ 60) {M L : Int} {A' : Nat → Av} (hA : Psd M L (b.td + n) ps b.a A') : Calls Tryz.prog 14 #[.agg b.arr, .agg (Ov.kb ⟨9, 0, 0, n, Pv.zero, Nv.zero⟩)] w (StYes (b.td + n) A' ps w) := by
  refine bkstep_pass_yes (td' := b.td + n) (A' := A') (right_pass hn) rfl hkm (by omega) (fun k hk => by have := hln k hk; omega) (Lib.hid fun W c _ ht ha hc => ?_)
  have := passed_yes (A' := A') n hc.one hc.ps (by rw [ht]; omega) (by omega) (by rw [ht]; omega) (fun k hk h0 => ?_) (fun k hk h0 => ⟨?_⟩)
  · rw [ht] at this; exact this
  · rw [ha] at h0 ⊢
    rcases hA k hk with ⟨g1, g2⟩ | ⟨_, s, s', P, g1, g2, g3, g4, g5, _⟩
    · rw [g1, g2]
    · rw [g3] at h0
      have : s.st = 0 := h0
      omega
  · rw [ha] at h0
    rcases hA k hk with ⟨g1, _⟩ | ⟨_, s, s', P, g1, g2, g3, g4, g5, D⟩
    · rw [g1] at h0; exact absurd rfl h0
    · refine ⟨P, k, by rw [ha, g3]; exact g1, g2, fun W' hb => ?_⟩
      rw [ha, ht, g3, g4]
      exact D.calls W' _ (by have := hc.at_ hk hb; rwa [ha, g3] at this)
theorem Psd.bok {M L td : Int} {a a' : Nat → Av} (h : Psd M L td ps a a') (hlen : ps.length ≤ 8) (hpok : ∀ P ∈ ps, P.Ok ∧ P.e ≤ 12 ∧ 0 ≤ P.t ∧ P.t ≤ 1000) (htd : 0 ≤ td ∧ td ≤ 2000000) : PBok M L td a' ps :=
  ⟨htd, hlen, hpok, fun k hk => by
    rcases h k hk with ⟨_, g⟩ | ⟨_, s, s', P, g1, g2, g3, g4, g5, D⟩
    · exact .inl g
    · exact .inr ⟨s', k, P, by rw [D.pl, g1], g2, D.sta, g4⟩, fun k h3 hk => by
    rcases h k hk with ⟨_, g⟩ | ⟨g, _⟩
    · exact g
    · omega⟩
theorem Psd.from_ {M L td : Int} {a a0 a' : Nat → Av} (h : Psd M L td ps a a') (he : ∀ k, k < 32 → a0 k = a k) : Psd M L td ps a0 a' := fun k hk => by
  rcases h k hk with ⟨g1, g2⟩ | ⟨g0, s, s', P, g1, g2, g3, g4⟩
  · exact .inl ⟨(he k hk).trans g1, g2⟩
  · exact .inr ⟨g0, s, s', P, g1, g2, (he k hk).trans g3, g4⟩
theorem Psd.lens_to {M L td : Int} {a a' a0 : Nat → Av} (h : Psd M L td ps a a') (hL : L ≤ 9000) (he : ∀ k, k < 32 → a0 k = a' k) : ∀ k, k < 32 → (a0 k).l.length ≤ 9000 := fun k hk => by
  rw [he k hk]
  rcases h k hk with ⟨_, g⟩ | ⟨_, s, s', P, _, _, _, g, _, D⟩
  · rw [g]; exact Nat.zero_le _
  · rw [g]; exact (D.sta.lens hL).2
theorem PBok.day_ {M L td td' : Int} {a : Nat → Av} (h : PBok M L td a ps) (e : td' = td) : PBok M L td' a ps := by subst e; exact h
end
theorem region_frame2v {P : Program} {cd : Code} {Q : Exit → Act → World → Prop} {a : Act} {w : World} (Facts : World → Prop) (fr : Value → Value → Act)
    (h : cd.wp P (fun e a' w' => e = .normal ∧ ∃ u v, a' = fr u v ∧ Facts w') a w) (hk : ∀ u v w', Facts w' → Q .normal (fr u v) w') : cd.wp P Q a w :=
  wp_mono h (by rintro e a' w' ⟨rfl, u, v, rfl, hf⟩; exact hk _ _ _ hf)
/-- A book's bytes, as a string at any later world. -/
theorem encode_str {w : World} {b : Kb} {ps : List Pv} {EB : ByteArray} (h : KbM w 0 w.heap.size b ps) (hs : Kbe.BSm b.td ps b.a) (hE : bst (Pk.encs (Kbe.book b.td ps b.a)) = EB) : Calls Tryz.prog 17 #[.agg b.arr] w fun e w' => ∃ v, e = .returned v ∧ Hid (∀ V, Below w'.heap.size w' V → (convert 63 9 v).run Tryz.prog V = .ok (.string EB) V) ∧ Below w.heap.size w w' := by
  refine (encode_any h hs).mono ?_
  intro e w' hO
  obtain ⟨A, n, c, rfl, HN, _, HB, HR, _, _⟩ := hO.open_
  exact ⟨_, rfl, Lib.hid fun V hV => by rw [← hE]; exact conv_len V A _ c n _ (HR.out.below hV) HN.out, HB.out⟩
/-- Two days, and the later one at once. -/
theorem Pq.parts {td : Int} {a : Nat → Av} {ps : List Pv} (h : Pq 3 3 td a ps) {j k : Int} (hj : 1 ≤ j ∧ j ≤ 30) (hk : 1 ≤ k ∧ k ≤ 30) : ∃ A1 A2 A3 : Nat → Av, Psd 1100000000 (1 + j) (td + j) ps a A1 ∧ Psd 1100000000 (1 + j + k) (td + j + k) ps A1 A2 ∧ Psd 1100000000 (1 + (j + k)) (td + (j + k)) ps a A3 ∧ ∀ q, q < 32 → A2 q = A3 q := by
  have htd := h.day
  have each : ∀ q, ∃ x : Av × Av × Av, q < 32 → (a q = Av.zero ∧ x.1 = Av.zero ∧ x.2.1 = Av.zero ∧ x.2.2 = Av.zero) ∨ (q < 3 ∧ ∃ (s s1 s2 s3 : Sv) (P : Pv), s.pl = (q : Int) ∧ ps[q]? = some P ∧ a q = s.tell ∧ s.st = 1 ∧ DayOk 1100000000 (1 + j) P (td + j) s s1 ∧ DayOk 1100000000 (1 + j + k) P (td + j + k) s1 s2 ∧ DayOk 1100000000 (1 + (j + k)) P (td + (j + k)) s s3 ∧ s2.tell = s3.tell ∧ x = (s1.tell, s2.tell, s3.tell)) := fun q => by
    by_cases h3 : q < 3
    · obtain ⟨s, P, g1, g2, g3, g4, g5, g6⟩ := h.yes q h3
      obtain ⟨⟨p1, p2, p3, p4⟩, p5⟩ := h.pok P (List.mem_of_getElem? g1)
      obtain ⟨s1, s2, s3, D1, D2, D3, e⟩ := parts_sub (y1 := td + j) (y2 := td + (j + k)) g3 p1 p5 (by omega) g5 (by omega) (by omega) (by omega) (by omega) (by omega) (by omega) (by omega)
      rw [show (1 : Int) + (td + j - td) = 1 + j by omega] at D1 D2
      rw [show (1 : Int) + j + (td + (j + k) - (td + j)) = 1 + j + k by omega, show td + (j + k) = td + j + k by omega] at D2
      rw [show (1 : Int) + (td + (j + k) - td) = 1 + (j + k) by omega] at D3
      exact ⟨(s1.tell, s2.tell, s3.tell), fun _ => .inr ⟨h3, s, s1, s2, s3, P, g2, g1, g6, g4, D1, D2, D3, e, rfl⟩⟩
    · exact ⟨(Av.zero, Av.zero, Av.zero), fun hq => .inl ⟨h.no q (by omega) hq, rfl, rfl, rfl⟩⟩
  have spec := fun q => Classical.choose_spec (each q)
  generalize hX : (fun q => Classical.choose (each q)) = X at spec
  have spec2 : ∀ q, q < 32 → (a q = Av.zero ∧ (X q).1 = Av.zero ∧ (X q).2.1 = Av.zero ∧ (X q).2.2 = Av.zero) ∨ (q < 3 ∧ ∃ (s s1 s2 s3 : Sv) (P : Pv), s.pl = (q : Int) ∧ ps[q]? = some P ∧ a q = s.tell ∧ s.st = 1 ∧ DayOk 1100000000 (1 + j) P (td + j) s s1 ∧ DayOk 1100000000 (1 + j + k) P (td + j + k) s1 s2 ∧ DayOk 1100000000 (1 + (j + k)) P (td + (j + k)) s s3 ∧ s2.tell = s3.tell ∧ X q = (s1.tell, s2.tell, s3.tell)) := fun q hq => by rw [← hX]; exact spec q hq
  refine ⟨fun q => (X q).1, fun q => (X q).2.1, fun q => (X q).2.2, fun q hq => ?_, fun q hq => ?_, fun q hq => ?_, fun q hq => ?_⟩
  · rcases spec2 q hq with ⟨g0, g1, _⟩ | ⟨g3, s, s1, s2, s3, P, e1, e2, e3, e4, D1, _, _, _, ex⟩
    · exact .inl ⟨g0, g1⟩
    · exact .inr ⟨g3, s, s1, P, e1, e2, e3, by show (X q).1 = _; rw [ex], e4, D1⟩
  · rcases spec2 q hq with ⟨_, g1, g2, _⟩ | ⟨g3, s, s1, s2, s3, P, e1, e2, e3, e4, D1, D2, _, _, ex⟩
    · exact .inl ⟨g1, g2⟩
    · exact .inr ⟨g3, s1, s2, P, by rw [D1.pl, e1], e2, by show (X q).1 = _; rw [ex], by show (X q).2.1 = _; rw [ex], by rw [D1.st, e4], D2⟩
  · rcases spec2 q hq with ⟨g0, _, _, g1⟩ | ⟨g3, s, s1, s2, s3, P, e1, e2, e3, e4, _, _, D3, _, ex⟩
    · exact .inl ⟨g0, g1⟩
    · exact .inr ⟨g3, s, s3, P, e1, e2, e3, by show (X q).2.2 = _; rw [ex], e4, D3⟩
  · show (X q).2.1 = (X q).2.2
    rcases spec2 q hq with ⟨_, _, g1, g2⟩ | ⟨_, s, s1, s2, s3, P, _, _, _, _, _, _, _, e, ex⟩
    · rw [g1, g2]
    · rw [ex]; exact e
end Go.Proofs.YtblikgbcakgdnaaGreat
