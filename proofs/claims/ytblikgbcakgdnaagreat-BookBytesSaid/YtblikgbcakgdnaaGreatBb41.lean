/-
  A book out of any bytes, by values: what is told, what is left; bytes that are read whole are just the book's, and a book's bytes are read as it. No conditions but those that each law names.
-/
import Derived.Test.YtblikgbcakgdnaaGreatBb38
import Derived.Test.YtblikgbcakgdnaaGreatBb40
set_option linter.unusedSimpArgs false
set_option linter.unusedVariables false
namespace Go.Proofs.YtblikgbcakgdnaaGreat
set_option linter.unusedVariables false
set_option linter.unusedSimpArgs false
set_option maxRecDepth 20000
open Go.ChangeShapes Go.WideShapes Go.ChangeAt Go.RowKit

theorem Pk.Step.nz {lo hi f n f' : Int} {l l' : List Int} (h : Pk.Step lo hi l f n l' f') (hn : n ≠ 0) : f' = 0 := by
  unfold Pk.Step Pk.step at h
  split at h
  · injection h with h _; omega
  split at h
  · injection h with h _; omega
  split at h
  · injection h with h _; omega
  · injection h with _ h; injection h with _ h; exact h.symm
namespace Kbd
/-- The bounds of a cycle's numbers. -/
def cB (lo hi : Int) : List (Int × Int) := [(lo, hi), (0, 3652058), (1, 6), (0, 1125899906842624), (-1125899906842624, 1125899906842624), (0, 100), (0, 3652065), (0, 1)]
def Cyc (lo hi : Int) (l : List Int) (f : Int) (c : Cv) (l' : List Int) (f' : Int) : Prop := ∃ g : Int, Gets (cB lo hi) l f [c.n, c.d, c.p, c.a, c.u, c.t, c.x, g] l' f' ∧ c.g = (g == 1)
/-- A cycle within the bounds. -/
structure CIn (lo hi : Int) (c : Cv) : Prop where
  n : lo ≤ c.n ∧ c.n ≤ hi
  d : 0 ≤ c.d ∧ c.d ≤ 3652058
  p : 1 ≤ c.p ∧ c.p ≤ 6
  a : 0 ≤ c.a ∧ c.a ≤ 1125899906842624
  u : -1125899906842624 ≤ c.u ∧ c.u ≤ 1125899906842624
  t : 0 ≤ c.t ∧ c.t ≤ 100
  x : 0 ≤ c.x ∧ c.x ≤ 3652065
theorem Cyc.mem {lo hi f f' : Int} {l l' : List Int} {c : Cv} (h : Cyc lo hi l f c l' f') : ∀ x ∈ l', x ∈ l := by
  obtain ⟨g, h, _⟩ := h; exact h.mem
theorem Cyc.ok {lo hi f : Int} {l l' : List Int} {c : Cv} (h : Cyc lo hi l f c l' 0) (h0 : ∀ x ∈ l, 0 ≤ x) : f = 0 ∧ CIn lo hi c ∧ l = Pk.encs (Kbe.cyc c) ++ l' := by
  obtain ⟨g, h, hg⟩ := h
  obtain ⟨e, ⟨a1, a2, a3, a4, a5, a6, a7, a8, _⟩, hl⟩ := h.ok h0
  refine ⟨e, ⟨a1, a2, a3, a4, a5, a6, a7⟩, ?_⟩
  unfold Kbe.cyc
  rw [hg, one_of a8.1 a8.2]
  exact hl
theorem CIn.i64 {lo hi : Int} {c : Cv} (h : CIn lo hi c) (hlo : -10000000 ≤ lo) (hhi : hi ≤ 10000000) : ∀ n ∈ Kbe.cyc c, -9223372036854775808 ≤ n ∧ n ≤ 9223372036854775807 := by
  intro n hn
  have h1 := h.n; have h2 := h.d; have h3 := h.p; have h4 := h.a; have h5 := h.u; have h6 := h.t; have h7 := h.x
  have h8 := Pn.one_ok c.g
  unfold Kbe.cyc at hn
  simp only [List.mem_cons, List.not_mem_nil, or_false] at hn
  rcases hn with rfl | rfl | rfl | rfl | rfl | rfl | rfl | rfl <;> omega
theorem Cyc.go {lo hi f' : Int} {r l' : List Int} {c m : Cv} (h : Cyc lo hi (Pk.encs (Kbe.cyc m) ++ r) 0 c l' f') (hm : CIn lo hi m) (hlo : -10000000 ≤ lo) (hhi : hi ≤ 10000000) : c = m ∧ l' = r ∧ f' = 0 := by
  obtain ⟨g, h, hg⟩ := h
  obtain ⟨e, e1, e2⟩ := h.go (hm.i64 hlo hhi) ⟨hm.n, hm.d, hm.p, hm.a, hm.u, hm.t, hm.x, Pn.one_ok m.g, trivial⟩
  refine ⟨?_, e1, e2⟩
  obtain ⟨n, d, p, a, u, t, x, gg⟩ := c
  obtain ⟨n', d', p', a', u', t', x', gg'⟩ := m
  unfold Kbe.cyc at e
  dsimp only at e hg
  injection e with e1 e; injection e with e2 e; injection e with e3 e; injection e with e4 e; injection e with e5 e; injection e with e6 e; injection e with e7 e; injection e with e8 e
  subst e1 e2 e3 e4 e5 e6 e7 e8 hg
  rw [of_one]
/-- So many cycles, by rising numbers; nothing of them behind a fault. -/
def Run (hi : Int) : Nat → Int → List Int → List Cv → List Int → Int → Prop
  | 0, _, l, cs, l', f' => cs = [] ∧ l' = l ∧ f' = 0
  | k + 1, lo, l, cs, l', f' => ∃ c l1 f1, Cyc lo hi l 0 c l1 f1 ∧ ((f1 ≠ 0 ∧ cs = [] ∧ l' = l1 ∧ f' = f1) ∨ (f1 = 0 ∧ ∃ r, Run hi k (c.n + 1) l1 r l' f' ∧ cs = if f' = 0 then c :: r else []))
theorem Run.mem {hi : Int} : ∀ {k : Nat} {lo : Int} {l : List Int} {cs : List Cv} {l' : List Int} {f' : Int}, Run hi k lo l cs l' f' → ∀ x ∈ l', x ∈ l
  | 0, _, _, _, _, _, h => by rw [h.2.1]; exact fun _ g => g
  | k + 1, _, _, _, _, _, h => by
    obtain ⟨c, l1, f1, h1, h2⟩ := h
    rcases h2 with ⟨_, _, rfl, _⟩ | ⟨_, r, h3, _⟩
    · exact h1.mem
    · exact fun x hx => h1.mem x (h3.mem x hx)
theorem Run.no {hi : Int} : ∀ {k : Nat} {lo : Int} {l : List Int} {cs : List Cv} {l' : List Int} {f' : Int}, Run hi k lo l cs l' f' → f' ≠ 0 → cs = []
  | 0, _, _, _, _, _, h, hf => absurd h.2.2 hf
  | k + 1, _, _, _, _, _, h, hf => by
    obtain ⟨c, l1, f1, h1, h2⟩ := h
    rcases h2 with ⟨_, h3, _, _⟩ | ⟨_, r, _, h3⟩
    · exact h3
    · rw [if_neg hf] at h3; exact h3
/-- Cycles by rising numbers, within bounds. -/
def Rise (hi : Int) : Int → List Cv → Prop
  | _, [] => True
  | lo, c :: r => CIn lo hi c ∧ Rise hi (c.n + 1) r
theorem Run.ok {hi : Int} : ∀ {k : Nat} {lo : Int} {l : List Int} {cs : List Cv} {l' : List Int}, Run hi k lo l cs l' 0 → (∀ x ∈ l, 0 ≤ x) → cs.length = k ∧ Rise hi lo cs ∧ l = Pk.encs (cs.flatMap Kbe.cyc) ++ l'
  | 0, _, _, _, _, h, _ => by obtain ⟨rfl, rfl, _⟩ := h; exact ⟨rfl, trivial, rfl⟩
  | k + 1, _, _, _, _, h, h0 => by
    obtain ⟨c, l1, f1, h1, h2⟩ := h
    rcases h2 with ⟨h3, _, _, h4⟩ | ⟨rfl, r, h3, rfl⟩
    · exact absurd h4.symm h3
    · obtain ⟨_, g1, g2⟩ := h1.ok h0
      obtain ⟨g3, g4, g5⟩ := h3.ok fun x hx => h0 x (h1.mem x hx)
      rw [if_pos rfl]
      refine ⟨by rw [List.length_cons, g3], ⟨g1, g4⟩, ?_⟩
      rw [List.flatMap_cons, Pk.encs_append, List.append_assoc, ← g5]
      exact g2
theorem Run.go {hi : Int} (hhi : hi ≤ 10000000) : ∀ {ms : List Cv} {lo : Int} {r : List Int} {cs : List Cv} {l' : List Int} {f' : Int}, Run hi ms.length lo (Pk.encs (ms.flatMap Kbe.cyc) ++ r) cs l' f' → Rise hi lo ms → -10000000 ≤ lo → cs = ms ∧ l' = r ∧ f' = 0
  | [], _, _, _, _, _, h, _, _ => by obtain ⟨rfl, rfl, rfl⟩ := h; exact ⟨rfl, rfl, rfl⟩
  | m :: ms, _, _, _, _, _, h, hr, hlo => by
    obtain ⟨c, l1, f1, h1, h2⟩ := h
    rw [List.flatMap_cons, Pk.encs_append, List.append_assoc] at h1
    obtain ⟨rfl, rfl, rfl⟩ := h1.go hr.1 hlo hhi
    rcases h2 with ⟨h3, _⟩ | ⟨_, r, h3, rfl⟩
    · exact absurd rfl h3
    · have := hr.1.n
      obtain ⟨rfl, rfl, rfl⟩ := Run.go hhi h3 hr.2 (by omega)
      rw [if_pos rfl]
      exact ⟨rfl, rfl, rfl⟩
/-- The bounds of a subscription's first numbers, and of its sums. -/
def aB (plans : Int) : List (Int × Int) := [(0, plans - 1), (0, 3652058), (0, 3652059), (0, 3652059), (-9223372036854775808, 9223372036854775807), (0, 1)]
def sB (ct d u r : Int) : List (Int × Int) := [(0, ct), (0, ct - d), (0, ct - (d + u)), (0, ct - (d + u + r)), (0, 9223372036854775807)]
/-- A subscription out of any bytes. -/
def Acc (plans : Int) (l : List Int) (f : Int) (a : Av) (l' : List Int) (f' : Int) : Prop :=
  ∃ st l1 f1, Pk.Step 0 3 l f st l1 f1 ∧ ((st = 0 ∧ a = Av.zero ∧ l' = l1 ∧ f' = f1) ∨ (st ≠ 0 ∧ ∃ sk l2 f2, Gets (aB plans) l1 f1 [a.pl, a.an, a.ix, a.ct, a.cr, sk] l2 f2 ∧ a.st = st ∧ a.sk = (sk == 1) ∧
    ∃ l3 f3, Gets (sB a.ct a.dn a.un a.rf) l2 f2 [a.dn, a.un, a.rf, a.sp, a.pd] l3 f3 ∧
    ∃ n l4 f4, Pk.Step (a.ct - (a.dn + a.un + a.rf + a.sp)) (a.ct - (a.dn + a.un + a.rf + a.sp)) l3 f3 n l4 f4 ∧ ((f4 ≠ 0 ∧ a.l = [] ∧ l' = l4 ∧ f' = f4) ∨ (f4 = 0 ∧ Run (a.ct - 1) n.toNat 0 l4 a.l l' f'))))
/-- A subscription that may be: within bounds, of so many plans. -/
structure AIn (plans : Int) (a : Av) : Prop where
  st : 1 ≤ a.st ∧ a.st ≤ 3
  pl : 0 ≤ a.pl ∧ a.pl ≤ plans - 1
  an : 0 ≤ a.an ∧ a.an ≤ 3652058
  ix : 0 ≤ a.ix ∧ a.ix ≤ 3652059
  ct : 0 ≤ a.ct ∧ a.ct ≤ 3652059
  cr : -9223372036854775808 ≤ a.cr ∧ a.cr ≤ 9223372036854775807
  dn : 0 ≤ a.dn ∧ a.dn ≤ a.ct
  un : 0 ≤ a.un ∧ a.un ≤ a.ct - a.dn
  rf : 0 ≤ a.rf ∧ a.rf ≤ a.ct - (a.dn + a.un)
  sp : 0 ≤ a.sp ∧ a.sp ≤ a.ct - (a.dn + a.un + a.rf)
  pd : 0 ≤ a.pd ∧ a.pd ≤ 9223372036854775807
  len : (a.l.length : Int) = a.ct - (a.dn + a.un + a.rf + a.sp)
  l : Rise (a.ct - 1) 0 a.l
def AOk (plans : Int) (a : Av) : Prop := a = Av.zero ∨ AIn plans a
theorem Acc.mem {plans f f' : Int} {l l' : List Int} {a : Av} (h : Acc plans l f a l' f') : ∀ x ∈ l', x ∈ l := by
  obtain ⟨st, l1, f1, h1, h2⟩ := h
  rcases h2 with ⟨_, _, rfl, _⟩ | ⟨_, sk, l2, f2, h2, _, _, l3, f3, h3, n, l4, f4, h4, h5⟩
  · exact h1.mem
  · rcases h5 with ⟨_, _, rfl, _⟩ | ⟨_, h5⟩
    · exact fun x hx => h1.mem x (h2.mem x (h3.mem x (h4.mem x hx)))
    · exact fun x hx => h1.mem x (h2.mem x (h3.mem x (h4.mem x (h5.mem x hx))))
theorem Acc.ok {plans f : Int} {l l' : List Int} {a : Av} (h : Acc plans l f a l' 0) (h0 : ∀ x ∈ l, 0 ≤ x) : f = 0 ∧ AOk plans a ∧ l = Pk.encs (Kbe.acc a) ++ l' := by
  obtain ⟨st, l1, f1, h1, h2⟩ := h
  rcases h2 with ⟨rfl, rfl, rfl, rfl⟩ | ⟨hst, sk, l2, f2, h2, hs, hk, l3, f3, h3, n, l4, f4, h4, h5⟩
  · obtain ⟨e, _, _, hl⟩ := h1.ok h0
    refine ⟨e, .inl rfl, ?_⟩
    rw [hl, show Kbe.acc Av.zero = [0] from rfl, Pk.encs_one]
  · have m1 := fun x hx => h0 x (h1.mem x hx)
    have m2 := fun x hx => m1 x (h2.mem x hx)
    have m3 := fun x hx => m2 x (h3.mem x hx)
    have m4 := fun x hx => m3 x (h4.mem x hx)
    rcases h5 with ⟨h6, _, _, h7⟩ | ⟨rfl, h5⟩
    · exact absurd h7.symm h6
    · obtain ⟨g1, g2, g3⟩ := h5.ok m4
      obtain ⟨rfl, q0, q1, e4⟩ := h4.ok m3
      obtain ⟨rfl, ⟨b1, b2, b3, b4, b5, _⟩, e3⟩ := h3.ok m2
      obtain ⟨rfl, ⟨c1, c2, c3, c4, c5, c6, _⟩, e2⟩ := h2.ok m1
      obtain ⟨rfl, p0, p1, e1⟩ := h1.ok h0
      have hlen : (a.l.length : Int) = a.ct - (a.dn + a.un + a.rf + a.sp) := by omega
      refine ⟨rfl, .inr ⟨by omega, c1, c2, c3, c4, c5, b1, b2, b3, b4, b5, hlen, g2⟩, ?_⟩
      have hn : n = (a.l.length : Int) := by omega
      have e : Kbe.acc a = [st] ++ ([a.pl, a.an, a.ix, a.ct, a.cr, sk] ++ ([a.dn, a.un, a.rf, a.sp, a.pd] ++ ([n] ++ a.l.flatMap Kbe.cyc))) := by
        unfold Kbe.acc
        rw [if_neg (by omega), hs, hk, one_of c6.1 c6.2, ← hn]
        rfl
      rw [e, Pk.encs_append, Pk.encs_append, Pk.encs_append, Pk.encs_append, Pk.encs_one, Pk.encs_one, List.append_assoc, List.append_assoc, List.append_assoc, List.append_assoc, ← g3, ← e4, ← e3, ← e2]
      exact e1
theorem Acc.go {plans f' : Int} {r l' : List Int} {a m : Av} (h : Acc plans (Pk.encs (Kbe.acc m) ++ r) 0 a l' f') (hm : AOk plans m) (hpl : plans ≤ 1000) : a = m ∧ l' = r ∧ f' = 0 := by
  obtain ⟨st, l1, f1, h1, h2⟩ := h
  rcases hm with rfl | hm
  · rw [show Kbe.acc Av.zero = [0] from rfl, Pk.encs_one] at h1
    obtain ⟨rfl, rfl, rfl⟩ := h1.go (by omega) (by omega) (by omega) (by omega)
    rcases h2 with ⟨_, rfl, rfl, rfl⟩ | ⟨h3, _⟩
    · exact ⟨rfl, rfl, rfl⟩
    · exact absurd rfl h3
  · have i1 := hm.st; have i2 := hm.pl; have i3 := hm.an; have i4 := hm.ix; have i5 := hm.ct; have i6 := hm.cr; have i7 := hm.dn; have i8 := hm.un; have i9 := hm.rf; have i10 := hm.sp; have i11 := hm.pd; have i12 := hm.len
    have e : Kbe.acc m = [m.st] ++ ([m.pl, m.an, m.ix, m.ct, m.cr, Pn.one m.sk] ++ ([m.dn, m.un, m.rf, m.sp, m.pd] ++ ([(m.l.length : Int)] ++ m.l.flatMap Kbe.cyc))) := by
      unfold Kbe.acc
      rw [if_neg (by omega)]
      rfl
    rw [e, Pk.encs_append, Pk.encs_append, Pk.encs_append, Pk.encs_append, Pk.encs_one, Pk.encs_one, List.append_assoc, List.append_assoc, List.append_assoc, List.append_assoc] at h1
    obtain ⟨rfl, rfl, rfl⟩ := h1.go (by omega) (by omega) (by omega) (by omega)
    rcases h2 with ⟨h3, _⟩ | ⟨_, sk, l2, f2, h2, hs, hk, l3, f3, h3, n, l4, f4, h4, h5⟩
    · omega
    have hone := Pn.one_ok m.sk
    obtain ⟨e2, rfl, rfl⟩ := h2.go (by intro x hx; simp only [List.mem_cons, List.not_mem_nil, or_false] at hx; rcases hx with rfl | rfl | rfl | rfl | rfl | rfl <;> omega) ⟨i2, i3, i4, i5, i6, hone, trivial⟩
    obtain ⟨ast, apl, aan, aix, act, acr, ask, al, adn, aun, arf, asp, apd⟩ := a
    obtain ⟨mst, mpl, man, mix, mct, mcr, msk, ml, mdn, mun, mrf, msp, mpd⟩ := m
    dsimp only at *
    injection e2 with x1 e2; injection e2 with x2 e2; injection e2 with x3 e2; injection e2 with x4 e2; injection e2 with x5 e2; injection e2 with x6 e2
    subst x1 x2 x3 x4 x5 x6 hs hk
    rw [of_one]
    have h3' : Gets [(0, act), (0, act - adn), (0, act - (adn + aun)), (0, act - (adn + aun + arf)), (0, 9223372036854775807)] (Pk.encs [mdn, mun, mrf, msp, mpd] ++ (Pk.enc (Pk.zig (ml.length : Int)) ++ (Pk.encs (ml.flatMap Kbe.cyc) ++ r))) 0 [adn, aun, arf, asp, apd] l3 f3 := h3
    obtain ⟨la, fa, s1, lb, fb, s2, lc, fc, s3, ld, fd, s4, le, fe, s5, rfl, rfl⟩ := h3'
    rw [Pk.encs_cons, List.append_assoc] at s1
    obtain ⟨rfl, rfl, rfl⟩ := s1.go (by omega) (by omega) (by omega) (by omega)
    rw [Pk.encs_cons, List.append_assoc] at s2
    obtain ⟨rfl, rfl, rfl⟩ := s2.go (by omega) (by omega) (by omega) (by omega)
    rw [Pk.encs_cons, List.append_assoc] at s3
    obtain ⟨rfl, rfl, rfl⟩ := s3.go (by omega) (by omega) (by omega) (by omega)
    rw [Pk.encs_cons, List.append_assoc] at s4
    obtain ⟨rfl, rfl, rfl⟩ := s4.go (by omega) (by omega) (by omega) (by omega)
    rw [Pk.encs_cons, List.append_assoc] at s5
    obtain ⟨rfl, rfl, rfl⟩ := s5.go (by omega) (by omega) (by omega) (by omega)
    rw [Pk.encs_nil, List.nil_append] at h4
    obtain ⟨rfl, rfl, rfl⟩ := h4.go (by omega) (by omega) (by omega) (by omega)
    rcases h5 with ⟨h6, _⟩ | ⟨_, h5⟩
    · exact absurd rfl h6
    · rw [Int.toNat_natCast] at h5
      obtain ⟨rfl, rfl, rfl⟩ := Run.go (by omega) h5 hm.l (by omega)
      exact ⟨rfl, rfl, rfl⟩
/-- Plans one behind the other. -/
def Plans : Nat → List Int → Int → List Pv → List Int → Int → Prop
  | 0, l, f, ps, l', f' => ps = [] ∧ l' = l ∧ f' = f
  | k + 1, l, f, ps, l', f' => ∃ (p : Pv) (l1 : List Int) (f1 : Int) (r : List Pv), Pv.Got l f p l1 f1 ∧ Plans k l1 f1 r l' f' ∧ ps = p :: r
theorem Plans.mem : ∀ {k : Nat} {l : List Int} {f : Int} {ps : List Pv} {l' : List Int} {f' : Int}, Plans k l f ps l' f' → ∀ x ∈ l', x ∈ l
  | 0, _, _, _, _, _, h => by rw [h.2.1]; exact fun _ g => g
  | k + 1, _, _, _, _, _, h => by
    obtain ⟨p, l1, f1, r, h1, h2, _⟩ := h
    exact fun x hx => h1.mem x (h2.mem x hx)
theorem Plans.len : ∀ {k : Nat} {l : List Int} {f : Int} {ps : List Pv} {l' : List Int} {f' : Int}, Plans k l f ps l' f' → ps.length = k
  | 0, _, _, _, _, _, h => by rw [h.1]; rfl
  | k + 1, _, _, _, _, _, h => by
    obtain ⟨p, l1, f1, r, h1, h2, rfl⟩ := h
    rw [List.length_cons, h2.len]
theorem Plans.ok : ∀ {k : Nat} {l : List Int} {f : Int} {ps : List Pv} {l' : List Int}, Plans k l f ps l' 0 → (∀ x ∈ l, 0 ≤ x) → f = 0 ∧ (∀ p ∈ ps, p.Bok) ∧ l = Pk.encs (ps.flatMap Kbe.pln) ++ l'
  | 0, _, _, _, _, h, _ => by obtain ⟨rfl, rfl, h⟩ := h; exact ⟨h.symm, fun p hp => (by cases hp), rfl⟩
  | k + 1, _, _, _, _, h, h0 => by
    obtain ⟨p, l1, f1, r, h1, h2, rfl⟩ := h
    obtain ⟨rfl, g1, g2⟩ := h2.ok fun x hx => h0 x (h1.mem x hx)
    obtain ⟨rfl, g3, g4⟩ := h1.ok h0
    refine ⟨rfl, fun q hq => ?_, ?_⟩
    · rcases List.mem_cons.1 hq with rfl | hq
      · exact g3
      · exact g1 q hq
    · rw [List.flatMap_cons, Pk.encs_append, List.append_assoc, ← g2, g4]
      unfold Pv.bytes
      rw [Pn.bytes_eq]
      rfl
theorem Plans.go : ∀ {ms : List Pv} {r : List Int} {ps : List Pv} {l' : List Int} {f' : Int}, Plans ms.length (Pk.encs (ms.flatMap Kbe.pln) ++ r) 0 ps l' f' → (∀ p ∈ ms, p.Bok) → ps = ms ∧ l' = r ∧ f' = 0
  | [], _, _, _, _, h, _ => by obtain ⟨rfl, rfl, rfl⟩ := h; exact ⟨rfl, rfl, rfl⟩
  | m :: ms, _, _, _, _, h, hm => by
    obtain ⟨p, l1, f1, r, h1, h2, rfl⟩ := h
    have e : Pk.encs (Kbe.pln m) = m.bytes := by unfold Pv.bytes; rw [Pn.bytes_eq]; rfl
    rw [List.flatMap_cons, Pk.encs_append, List.append_assoc, e] at h1
    obtain ⟨rfl, rfl, rfl⟩ := h1.go (hm m (by simp))
    obtain ⟨rfl, rfl, rfl⟩ := Plans.go h2 fun p hp => hm p (by simp [hp])
    exact ⟨rfl, rfl, rfl⟩
/-- The first k subscriptions, one behind the other. -/
def Accs (plans : Int) (a : Nat → Av) : Nat → List Int → Int → List Int → Int → Prop
  | 0, l, f, l', f' => l' = l ∧ f' = f
  | k + 1, l, f, l', f' => ∃ l1 f1, Accs plans a k l f l1 f1 ∧ Acc plans l1 f1 (a k) l' f'
theorem Accs.congr {plans : Int} {a b : Nat → Av} : ∀ {k : Nat} {l : List Int} {f : Int} {l' : List Int} {f' : Int}, Accs plans a k l f l' f' → (∀ j, j < k → b j = a j) → Accs plans b k l f l' f'
  | 0, _, _, _, _, h, _ => h
  | k + 1, _, _, _, _, h, e => by
    obtain ⟨l1, f1, h1, h2⟩ := h
    exact ⟨l1, f1, h1.congr fun j hj => e j (by omega), by rw [e k (by omega)]; exact h2⟩
theorem Accs.mem {plans : Int} {a : Nat → Av} : ∀ {k : Nat} {l : List Int} {f : Int} {l' : List Int} {f' : Int}, Accs plans a k l f l' f' → ∀ x ∈ l', x ∈ l
  | 0, _, _, _, _, h => by rw [h.1]; exact fun _ g => g
  | k + 1, _, _, _, _, h => by
    obtain ⟨l1, f1, h1, h2⟩ := h
    exact fun x hx => h1.mem x (h2.mem x hx)
theorem Accs.ok {plans : Int} {a : Nat → Av} : ∀ {k : Nat} {l : List Int} {f : Int} {l' : List Int}, Accs plans a k l f l' 0 → (∀ x ∈ l, 0 ≤ x) → f = 0 ∧ (∀ j, j < k → AOk plans (a j)) ∧ l = Pk.encs (Kbe.subs a k) ++ l'
  | 0, _, _, _, h, _ => by obtain ⟨rfl, h⟩ := h; exact ⟨h.symm, fun j hj => absurd hj (Nat.not_lt_zero _), rfl⟩
  | k + 1, _, _, _, h, h0 => by
    obtain ⟨l1, f1, h1, h2⟩ := h
    obtain ⟨rfl, g1, g2⟩ := h2.ok fun x hx => h0 x (h1.mem x hx)
    obtain ⟨rfl, g3, g4⟩ := h1.ok h0
    refine ⟨rfl, fun j hj => ?_, ?_⟩
    · by_cases e : j = k
      · rw [e]; exact g1
      · exact g3 j (by omega)
    · rw [Kbe.subs, Pk.encs_append, List.append_assoc, ← g2]
      exact g4
theorem Accs.go {plans : Int} {a m : Nat → Av} (hpl : plans ≤ 1000) : ∀ {k : Nat} {r : List Int} {l' : List Int} {f' : Int}, Accs plans a k (Pk.encs (Kbe.subs m k) ++ r) 0 l' f' → (∀ j, j < k → AOk plans (m j)) → (∀ j, j < k → a j = m j) ∧ l' = r ∧ f' = 0
  | 0, _, _, _, h, _ => by obtain ⟨rfl, rfl⟩ := h; exact ⟨fun j hj => absurd hj (Nat.not_lt_zero _), rfl, rfl⟩
  | k + 1, r, _, _, h, hm => by
    obtain ⟨l1, f1, h1, h2⟩ := h
    rw [Kbe.subs, Pk.encs_append, List.append_assoc] at h1
    obtain ⟨g1, rfl, rfl⟩ := Accs.go hpl h1 fun j hj => hm j (by omega)
    obtain ⟨g2, rfl, rfl⟩ := h2.go (hm k (by omega)) hpl
    refine ⟨fun j hj => ?_, rfl, rfl⟩
    by_cases e : j = k
    · rw [e]; exact g2
    · exact g1 j (by omega)
/-- A book out of any bytes: what is left, and the fault. -/
def Book (l : List Int) (td : Int) (ps : List Pv) (a : Nat → Av) (l' : List Int) (f' : Int) : Prop :=
  ∃ l1 f1 n l2 f2 l3 f3, Pk.Step 0 3652058 l 0 td l1 f1 ∧ Pk.Step 0 8 l1 f1 n l2 f2 ∧ Plans n.toNat l2 f2 ps l3 f3 ∧ Accs (ps.length : Int) a 32 l3 f3 l' f'
/-- A book within the bounds. -/
structure In (td : Int) (ps : List Pv) (a : Nat → Av) : Prop where
  day : 0 ≤ td ∧ td ≤ 3652058
  len : ps.length ≤ 8
  pok : ∀ p ∈ ps, p.Bok
  sub : ∀ k, k < 32 → AOk (ps.length : Int) (a k)
/-- All within the bounds. -/
theorem Book.ok {l : List Int} {td : Int} {ps : List Pv} {a : Nat → Av} (h : Book l td ps a [] 0) (h0 : ∀ x ∈ l, 0 ≤ x) : In td ps a ∧ l = Pk.encs (Kbe.book td ps a) := by
  obtain ⟨l1, f1, n, l2, f2, l3, f3, h1, h2, h3, h4⟩ := h
  have m1 := fun x hx => h0 x (h1.mem x hx)
  have m2 := fun x hx => m1 x (h2.mem x hx)
  have m3 := fun x hx => m2 x (h3.mem x hx)
  obtain ⟨rfl, g1, g2⟩ := h4.ok m3
  obtain ⟨rfl, g3, g4⟩ := h3.ok m2
  obtain ⟨rfl, q0, q1, g5⟩ := h2.ok m1
  obtain ⟨_, q2, q3, g6⟩ := h1.ok h0
  have hl := h3.len
  have hn : n = (ps.length : Int) := by omega
  refine ⟨⟨⟨q2, q3⟩, by omega, g3, g1⟩, ?_⟩
  unfold Kbe.book
  rw [List.append_nil] at g2
  rw [Pk.encs_append, Pk.encs_append, Pk.encs_cons, Pk.encs_one, ← hn, ← g2, List.append_assoc, List.append_assoc, ← g4, ← g5]
  exact g6
theorem Book.go {l' : List Int} {f' : Int} {td td' : Int} {ps ps' : List Pv} {a a' : Nat → Av} (h : Book (Pk.encs (Kbe.book td ps a)) td' ps' a' l' f') (hm : In td ps a) : td' = td ∧ ps' = ps ∧ (∀ k, k < 32 → a' k = a k) ∧ l' = [] ∧ f' = 0 := by
  obtain ⟨l1, f1, n, l2, f2, l3, f3, h1, h2, h3, h4⟩ := h
  have i1 := hm.day; have i2 := hm.len
  unfold Kbe.book at h1
  rw [Pk.encs_append, Pk.encs_append, Pk.encs_cons, Pk.encs_one, List.append_assoc, List.append_assoc] at h1
  obtain ⟨rfl, rfl, rfl⟩ := h1.go (by omega) (by omega) (by omega) (by omega)
  obtain ⟨rfl, rfl, rfl⟩ := h2.go (by omega) (by omega) (by omega) (by omega)
  rw [Int.toNat_natCast] at h3
  obtain ⟨K, hK⟩ : ∃ K, 32 = K := ⟨_, rfl⟩
  have hs := hm.sub
  rw [hK] at h3 h4 hs ⊢
  clear hK
  obtain ⟨rfl, rfl, rfl⟩ := Plans.go h3 hm.pok
  obtain ⟨g1, rfl, rfl⟩ := Accs.go (r := []) (by omega) (by rw [List.append_nil]; exact h4) hs
  exact ⟨rfl, rfl, g1, rfl, rfl⟩
end Kbd
end Go.Proofs.YtblikgbcakgdnaaGreat
