/-
  A book out of any bytes, by values: what is told, what is left; bytes that are read whole are just the book's, and a book's bytes are read as it. No conditions but those that each law names.
-/
import Derived.Test.YtblikgbcakgdnaaGreatBr13
import Derived.Test.YtblikgbcakgdnaaGreatBr38
import Derived.Test.YtblikgbcakgdnaaGreatBr40
set_option linter.unusedSimpArgs false
set_option linter.unusedVariables false
namespace Go.Proofs.YtblikgbcakgdnaaGreat
set_option linter.unusedVariables false
set_option linter.unusedSimpArgs false
set_option maxRecDepth 20000
open Go.ChangeShapes Go.WideShapes Go.ChangeAt Go.RowKit

theorem Pk.Step.nz {lo hi f n f' : Int} {l l' : List Int} (h : Pk.Step lo hi l f n l' f') (hn : n ≠ 0) : f' = 0 := by
  unfold Pk.Step Pk.step at h
  split at h
  · injection h with h _; omega
  split at h
  · injection h with h _; omega
  split at h
  · injection h with h _; omega
  · injection h with _ h; injection h with _ h; exact h.symm
namespace Kbd
/-- The bounds of a cycle's numbers. -/
def cB (lo hi : Int) : List (Int × Int) := [(lo, hi), (0, 3652058), (1, 6), (0, 1125899906842624), (-1125899906842624, 1125899906842624), (0, 100), (0, 3652065), (0, 1)]
def Cyc (lo hi : Int) (l : List Int) (f : Int) (c : Cv) (l' : List Int) (f' : Int) : Prop := ∃ g : Int, Gets (cB lo hi) l f [c.n, c.d, c.p, c.a, c.u, c.t, c.x, g] l' f' ∧ c.g = (g == 1)
/-- A cycle within the bounds. -/
structure CIn (lo hi : Int) (c : Cv) : Prop where
  n : lo ≤ c.n ∧ c.n ≤ hi
  d : 0 ≤ c.d ∧ c.d ≤ 3652058
  p : 1 ≤ c.p ∧ c.p ≤ 6
  a : 0 ≤ c.a ∧ c.a ≤ 1125899906842624
  u : -1125899906842624 ≤ c.u ∧ c.u ≤ 1125899906842624
  t : 0 ≤ c.t ∧ c.t ≤ 100
  x : 0 ≤ c.x ∧ c.x ≤ 3652065
theorem Cyc.mem {lo hi f f' : Int} {l l' : List Int} {c : Cv} (h : Cyc lo hi l f c l' f') : ∀ x ∈ l', x ∈ l := by
  obtain ⟨g, h, _⟩ := h; exact h.mem
theorem Cyc.ok {lo hi f : Int} {l l' : List Int} {c : Cv} (h : Cyc lo hi l f c l' 0) (h0 : ∀ x ∈ l, 0 ≤ x) : f = 0 ∧ CIn lo hi c ∧ l = Pk.encs (Kbe.cyc c) ++ l' := by
  obtain ⟨g, h, hg⟩ := h
  obtain ⟨e, ⟨a1, a2, a3, a4, a5, a6, a7, a8, _⟩, hl⟩ := h.ok h0
  refine ⟨e, ⟨a1, a2, a3, a4, a5, a6, a7⟩, ?_⟩
  unfold Kbe.cyc
  rw [hg, one_of a8.1 a8.2]
  exact hl
theorem CIn.i64 {lo hi : Int} {c : Cv} (h : CIn lo hi c) (hlo : -10000000 ≤ lo) (hhi : hi ≤ 10000000) : ∀ n ∈ Kbe.cyc c, -9223372036854775808 ≤ n ∧ n ≤ 9223372036854775807 := by
  intro n hn
  have h1 := h.n; have h2 := h.d; have h3 := h.p; have h4 := h.a; have h5 := h.u; have h6 := h.t; have h7 := h.x
  have h8 := Pn.one_ok c.g
  unfold Kbe.cyc at hn
  simp only [List.mem_cons, List.not_mem_nil, or_false] at hn
  rcases hn with rfl | rfl | rfl | rfl | rfl | rfl | rfl | rfl <;> omega
/-- So many cycles, by rising numbers; nothing of them behind a fault. -/
def Run (hi : Int) : Nat → Int → List Int → List Cv → List Int → Int → Prop
  | 0, _, l, cs, l', f' => cs = [] ∧ l' = l ∧ f' = 0
  | k + 1, lo, l, cs, l', f' => ∃ c l1 f1, Cyc lo hi l 0 c l1 f1 ∧ ((f1 ≠ 0 ∧ cs = [] ∧ l' = l1 ∧ f' = f1) ∨ (f1 = 0 ∧ ∃ r, Run hi k (c.n + 1) l1 r l' f' ∧ cs = if f' = 0 then c :: r else []))
theorem Run.mem {hi : Int} : ∀ {k : Nat} {lo : Int} {l : List Int} {cs : List Cv} {l' : List Int} {f' : Int}, Run hi k lo l cs l' f' → ∀ x ∈ l', x ∈ l
  | 0, _, _, _, _, _, h => by rw [h.2.1]; exact fun _ g => g
  | k + 1, _, _, _, _, _, h => by
    obtain ⟨c, l1, f1, h1, h2⟩ := h
    rcases h2 with ⟨_, _, rfl, _⟩ | ⟨_, r, h3, _⟩
    · exact h1.mem
    · exact fun x hx => h1.mem x (h3.mem x hx)
theorem Run.no {hi : Int} : ∀ {k : Nat} {lo : Int} {l : List Int} {cs : List Cv} {l' : List Int} {f' : Int}, Run hi k lo l cs l' f' → f' ≠ 0 → cs = []
  | 0, _, _, _, _, _, h, hf => absurd h.2.2 hf
  | k + 1, _, _, _, _, _, h, hf => by
    obtain ⟨c, l1, f1, h1, h2⟩ := h
    rcases h2 with ⟨_, h3, _, _⟩ | ⟨_, r, _, h3⟩
    · exact h3
    · rw [if_neg hf] at h3; exact h3
/-- Cycles by rising numbers, within bounds. -/
def Rise (hi : Int) : Int → List Cv → Prop
  | _, [] => True
  | lo, c :: r => CIn lo hi c ∧ Rise hi (c.n + 1) r
theorem Run.ok {hi : Int} : ∀ {k : Nat} {lo : Int} {l : List Int} {cs : List Cv} {l' : List Int}, Run hi k lo l cs l' 0 → (∀ x ∈ l, 0 ≤ x) → cs.length = k ∧ Rise hi lo cs ∧ l = Pk.encs (cs.flatMap Kbe.cyc) ++ l'
  | 0, _, _, _, _, h, _ => by obtain ⟨rfl, rfl, _⟩ := h; exact ⟨rfl, trivial, rfl⟩
  | k + 1, _, _, _, _, h, h0 => by
    obtain ⟨c, l1, f1, h1, h2⟩ := h
    rcases h2 with ⟨h3, _, _, h4⟩ | ⟨rfl, r, h3, rfl⟩
    · exact absurd h4.symm h3
    · obtain ⟨_, g1, g2⟩ := h1.ok h0
      obtain ⟨g3, g4, g5⟩ := h3.ok fun x hx => h0 x (h1.mem x hx)
      rw [if_pos rfl]
      refine ⟨by rw [List.length_cons, g3], ⟨g1, g4⟩, ?_⟩
      rw [List.flatMap_cons, Pk.encs_append, List.append_assoc, ← g5]
      exact g2
/-- The bounds of a subscription's first numbers, and of its sums. -/
def aB (plans : Int) : List (Int × Int) := [(0, plans - 1), (0, 3652058), (0, 3652059), (0, 3652059), (-9223372036854775808, 9223372036854775807), (0, 1)]
def sB (ct d u r : Int) : List (Int × Int) := [(0, ct), (0, ct - d), (0, ct - (d + u)), (0, ct - (d + u + r)), (0, 9223372036854775807)]
/-- A subscription out of any bytes. -/
def Acc (plans : Int) (l : List Int) (f : Int) (a : Av) (l' : List Int) (f' : Int) : Prop :=
  ∃ st l1 f1, Pk.Step 0 3 l f st l1 f1 ∧ ((st = 0 ∧ a = Av.zero ∧ l' = l1 ∧ f' = f1) ∨ (st ≠ 0 ∧ ∃ sk l2 f2, Gets (aB plans) l1 f1 [a.pl, a.an, a.ix, a.ct, a.cr, sk] l2 f2 ∧ a.st = st ∧ a.sk = (sk == 1) ∧
    ∃ l3 f3, Gets (sB a.ct a.dn a.un a.rf) l2 f2 [a.dn, a.un, a.rf, a.sp, a.pd] l3 f3 ∧
    ∃ n l4 f4, Pk.Step (a.ct - (a.dn + a.un + a.rf + a.sp)) (a.ct - (a.dn + a.un + a.rf + a.sp)) l3 f3 n l4 f4 ∧ ((f4 ≠ 0 ∧ a.l = [] ∧ l' = l4 ∧ f' = f4) ∨ (f4 = 0 ∧ Run (a.ct - 1) n.toNat 0 l4 a.l l' f'))))
/-- A subscription that may be: within bounds, of so many plans. -/
structure AIn (plans : Int) (a : Av) : Prop where
  st : 1 ≤ a.st ∧ a.st ≤ 3
  pl : 0 ≤ a.pl ∧ a.pl ≤ plans - 1
  an : 0 ≤ a.an ∧ a.an ≤ 3652058
  ix : 0 ≤ a.ix ∧ a.ix ≤ 3652059
  ct : 0 ≤ a.ct ∧ a.ct ≤ 3652059
  cr : -9223372036854775808 ≤ a.cr ∧ a.cr ≤ 9223372036854775807
  dn : 0 ≤ a.dn ∧ a.dn ≤ a.ct
  un : 0 ≤ a.un ∧ a.un ≤ a.ct - a.dn
  rf : 0 ≤ a.rf ∧ a.rf ≤ a.ct - (a.dn + a.un)
  sp : 0 ≤ a.sp ∧ a.sp ≤ a.ct - (a.dn + a.un + a.rf)
  pd : 0 ≤ a.pd ∧ a.pd ≤ 9223372036854775807
  len : (a.l.length : Int) = a.ct - (a.dn + a.un + a.rf + a.sp)
  l : Rise (a.ct - 1) 0 a.l
def AOk (plans : Int) (a : Av) : Prop := a = Av.zero ∨ AIn plans a
theorem Acc.mem {plans f f' : Int} {l l' : List Int} {a : Av} (h : Acc plans l f a l' f') : ∀ x ∈ l', x ∈ l := by
  obtain ⟨st, l1, f1, h1, h2⟩ := h
  rcases h2 with ⟨_, _, rfl, _⟩ | ⟨_, sk, l2, f2, h2, _, _, l3, f3, h3, n, l4, f4, h4, h5⟩
  · exact h1.mem
  · rcases h5 with ⟨_, _, rfl, _⟩ | ⟨_, h5⟩
    · exact fun x hx => h1.mem x (h2.mem x (h3.mem x (h4.mem x hx)))
    · exact fun x hx => h1.mem x (h2.mem x (h3.mem x (h4.mem x (h5.mem x hx))))
theorem Acc.ok {plans f : Int} {l l' : List Int} {a : Av} (h : Acc plans l f a l' 0) (h0 : ∀ x ∈ l, 0 ≤ x) : f = 0 ∧ AOk plans a ∧ l = Pk.encs (Kbe.acc a) ++ l' := by
  obtain ⟨st, l1, f1, h1, h2⟩ := h
  rcases h2 with ⟨rfl, rfl, rfl, rfl⟩ | ⟨hst, sk, l2, f2, h2, hs, hk, l3, f3, h3, n, l4, f4, h4, h5⟩
  · obtain ⟨e, _, _, hl⟩ := h1.ok h0
    refine ⟨e, .inl rfl, ?_⟩
    rw [hl, show Kbe.acc Av.zero = [0] from rfl, Pk.encs_one]
  · have m1 := fun x hx => h0 x (h1.mem x hx)
    have m2 := fun x hx => m1 x (h2.mem x hx)
    have m3 := fun x hx => m2 x (h3.mem x hx)
    have m4 := fun x hx => m3 x (h4.mem x hx)
    rcases h5 with ⟨h6, _, _, h7⟩ | ⟨rfl, h5⟩
    · exact absurd h7.symm h6
    · obtain ⟨g1, g2, g3⟩ := h5.ok m4
      obtain ⟨rfl, q0, q1, e4⟩ := h4.ok m3
      obtain ⟨rfl, ⟨b1, b2, b3, b4, b5, _⟩, e3⟩ := h3.ok m2
      obtain ⟨rfl, ⟨c1, c2, c3, c4, c5, c6, _⟩, e2⟩ := h2.ok m1
      obtain ⟨rfl, p0, p1, e1⟩ := h1.ok h0
      have hlen : (a.l.length : Int) = a.ct - (a.dn + a.un + a.rf + a.sp) := by omega
      refine ⟨rfl, .inr ⟨by omega, c1, c2, c3, c4, c5, b1, b2, b3, b4, b5, hlen, g2⟩, ?_⟩
      have hn : n = (a.l.length : Int) := by omega
      have e : Kbe.acc a = [st] ++ ([a.pl, a.an, a.ix, a.ct, a.cr, sk] ++ ([a.dn, a.un, a.rf, a.sp, a.pd] ++ ([n] ++ a.l.flatMap Kbe.cyc))) := by
        unfold Kbe.acc
        rw [if_neg (by omega), hs, hk, one_of c6.1 c6.2, ← hn]
        rfl
      rw [e, Pk.encs_append, Pk.encs_append, Pk.encs_append, Pk.encs_append, Pk.encs_one, Pk.encs_one, List.append_assoc, List.append_assoc, List.append_assoc, List.append_assoc, ← g3, ← e4, ← e3, ← e2]
      exact e1
/-- Plans one behind the other. -/
def Plans : Nat → List Int → Int → List Pv → List Int → Int → Prop
  | 0, l, f, ps, l', f' => ps = [] ∧ l' = l ∧ f' = f
  | k + 1, l, f, ps, l', f' => ∃ (p : Pv) (l1 : List Int) (f1 : Int) (r : List Pv), Pv.Got l f p l1 f1 ∧ Plans k l1 f1 r l' f' ∧ ps = p :: r
theorem Plans.mem : ∀ {k : Nat} {l : List Int} {f : Int} {ps : List Pv} {l' : List Int} {f' : Int}, Plans k l f ps l' f' → ∀ x ∈ l', x ∈ l
  | 0, _, _, _, _, _, h => by rw [h.2.1]; exact fun _ g => g
  | k + 1, _, _, _, _, _, h => by
    obtain ⟨p, l1, f1, r, h1, h2, _⟩ := h
    exact fun x hx => h1.mem x (h2.mem x hx)
theorem Plans.len : ∀ {k : Nat} {l : List Int} {f : Int} {ps : List Pv} {l' : List Int} {f' : Int}, Plans k l f ps l' f' → ps.length = k
  | 0, _, _, _, _, _, h => by rw [h.1]; rfl
  | k + 1, _, _, _, _, _, h => by
    obtain ⟨p, l1, f1, r, h1, h2, rfl⟩ := h
    rw [List.length_cons, h2.len]
theorem Plans.ok : ∀ {k : Nat} {l : List Int} {f : Int} {ps : List Pv} {l' : List Int}, Plans k l f ps l' 0 → (∀ x ∈ l, 0 ≤ x) → f = 0 ∧ (∀ p ∈ ps, p.Bok) ∧ l = Pk.encs (ps.flatMap Kbe.pln) ++ l'
  | 0, _, _, _, _, h, _ => by obtain ⟨rfl, rfl, h⟩ := h; exact ⟨h.symm, fun p hp => (by cases hp), rfl⟩
  | k + 1, _, _, _, _, h, h0 => by
    obtain ⟨p, l1, f1, r, h1, h2, rfl⟩ := h
    obtain ⟨rfl, g1, g2⟩ := h2.ok fun x hx => h0 x (h1.mem x hx)
    obtain ⟨rfl, g3, g4⟩ := h1.ok h0
    refine ⟨rfl, fun q hq => ?_, ?_⟩
    · rcases List.mem_cons.1 hq with rfl | hq
      · exact g3
      · exact g1 q hq
    · rw [List.flatMap_cons, Pk.encs_append, List.append_assoc, ← g2, g4]
      unfold Pv.bytes
      rw [Pn.bytes_eq]
      rfl
/-- The first k subscriptions, one behind the other. -/
def Accs (plans : Int) (a : Nat → Av) : Nat → List Int → Int → List Int → Int → Prop
  | 0, l, f, l', f' => l' = l ∧ f' = f
  | k + 1, l, f, l', f' => ∃ l1 f1, Accs plans a k l f l1 f1 ∧ Acc plans l1 f1 (a k) l' f'
theorem Accs.congr {plans : Int} {a b : Nat → Av} : ∀ {k : Nat} {l : List Int} {f : Int} {l' : List Int} {f' : Int}, Accs plans a k l f l' f' → (∀ j, j < k → b j = a j) → Accs plans b k l f l' f'
  | 0, _, _, _, _, h, _ => h
  | k + 1, _, _, _, _, h, e => by
    obtain ⟨l1, f1, h1, h2⟩ := h
    exact ⟨l1, f1, h1.congr fun j hj => e j (by omega), by rw [e k (by omega)]; exact h2⟩
theorem Accs.mem {plans : Int} {a : Nat → Av} : ∀ {k : Nat} {l : List Int} {f : Int} {l' : List Int} {f' : Int}, Accs plans a k l f l' f' → ∀ x ∈ l', x ∈ l
  | 0, _, _, _, _, h => by rw [h.1]; exact fun _ g => g
  | k + 1, _, _, _, _, h => by
    obtain ⟨l1, f1, h1, h2⟩ := h
    exact fun x hx => h1.mem x (h2.mem x hx)
theorem Accs.ok {plans : Int} {a : Nat → Av} : ∀ {k : Nat} {l : List Int} {f : Int} {l' : List Int}, Accs plans a k l f l' 0 → (∀ x ∈ l, 0 ≤ x) → f = 0 ∧ (∀ j, j < k → AOk plans (a j)) ∧ l = Pk.encs (Kbe.subs a k) ++ l'
  | 0, _, _, _, h, _ => by obtain ⟨rfl, h⟩ := h; exact ⟨h.symm, fun j hj => absurd hj (Nat.not_lt_zero _), rfl⟩
  | k + 1, _, _, _, h, h0 => by
    obtain ⟨l1, f1, h1, h2⟩ := h
    obtain ⟨rfl, g1, g2⟩ := h2.ok fun x hx => h0 x (h1.mem x hx)
    obtain ⟨rfl, g3, g4⟩ := h1.ok h0
    refine ⟨rfl, fun j hj => ?_, ?_⟩
    · by_cases e : j = k
      · rw [e]; exact g1
      · exact g3 j (by omega)
    · rw [Kbe.subs, Pk.encs_append, List.append_assoc, ← g2]
      exact g4
/-- A book out of any bytes: what is left, and the fault. -/
def Book (l : List Int) (td : Int) (ps : List Pv) (a : Nat → Av) (l' : List Int) (f' : Int) : Prop :=
  ∃ l1 f1 n l2 f2 l3 f3, Pk.Step 0 3652058 l 0 td l1 f1 ∧ Pk.Step 0 8 l1 f1 n l2 f2 ∧ Plans n.toNat l2 f2 ps l3 f3 ∧ Accs (ps.length : Int) a 32 l3 f3 l' f'
/-- A book within the bounds. -/
structure In (td : Int) (ps : List Pv) (a : Nat → Av) : Prop where
  day : 0 ≤ td ∧ td ≤ 3652058
  len : ps.length ≤ 8
  pok : ∀ p ∈ ps, p.Bok
  sub : ∀ k, k < 32 → AOk (ps.length : Int) (a k)
/-- All within the bounds. -/
theorem Book.ok {l : List Int} {td : Int} {ps : List Pv} {a : Nat → Av} (h : Book l td ps a [] 0) (h0 : ∀ x ∈ l, 0 ≤ x) : In td ps a ∧ l = Pk.encs (Kbe.book td ps a) := by
  obtain ⟨l1, f1, n, l2, f2, l3, f3, h1, h2, h3, h4⟩ := h
  have m1 := fun x hx => h0 x (h1.mem x hx)
  have m2 := fun x hx => m1 x (h2.mem x hx)
  have m3 := fun x hx => m2 x (h3.mem x hx)
  obtain ⟨rfl, g1, g2⟩ := h4.ok m3
  obtain ⟨rfl, g3, g4⟩ := h3.ok m2
  obtain ⟨rfl, q0, q1, g5⟩ := h2.ok m1
  obtain ⟨_, q2, q3, g6⟩ := h1.ok h0
  have hl := h3.len
  have hn : n = (ps.length : Int) := by omega
  refine ⟨⟨⟨q2, q3⟩, by omega, g3, g1⟩, ?_⟩
  unfold Kbe.book
  rw [List.append_nil] at g2
  rw [Pk.encs_append, Pk.encs_append, Pk.encs_cons, Pk.encs_one, ← hn, ← g2, List.append_assoc, List.append_assoc, ← g4, ← g5]
  exact g6
end Kbd
end Go.Proofs.YtblikgbcakgdnaaGreat
/-
  A plan by a number: the document's own Plan. No conditions.
-/
namespace Go.Proofs.YtblikgbcakgdnaaGreat
set_option maxRecDepth 20000
open Go.ChangeShapes Go.WideShapes Go.ChangeAt Go.RowKit

def Pv.price (r : Nat) : Int := if r = 0 then 1000 else if r = 1 then 0 else if r = 2 then 2999 else 1
def Pv.free (r : Nat) : Int := if r = 2 then 10 else if r = 3 then 3 else 0
/-- A plan by a number. -/
def Pv.of (n : Int) : Pv := ⟨Pv.price (n % 4).toNat, n / 4 % 4, 1 + n / 16 % 3, Pv.free (n / 48 % 4).toNat, n % 3 == 1, n % 7 == 3⟩
theorem Pv.of_bd (n : Int) : (0 ≤ (Pv.of n).a ∧ (Pv.of n).a ≤ 2999) ∧ (0 ≤ (Pv.of n).u ∧ (Pv.of n).u ≤ 3) ∧ (1 ≤ (Pv.of n).e ∧ (Pv.of n).e ≤ 3) ∧ (0 ≤ (Pv.of n).t ∧ (Pv.of n).t ≤ 10) := by
  refine ⟨?_, ?_, ?_, ?_⟩
  · show 0 ≤ Pv.price _ ∧ Pv.price _ ≤ 2999
    unfold Pv.price; split <;> (try split) <;> (try split) <;> omega
  · show 0 ≤ n / 4 % 4 ∧ n / 4 % 4 ≤ 3
    omega
  · show 1 ≤ 1 + n / 16 % 3 ∧ 1 + n / 16 % 3 ≤ 3
    omega
  · show 0 ≤ Pv.free _ ∧ Pv.free _ ≤ 10
    unfold Pv.free; split <;> (try split) <;> omega
theorem price_cells {w : World} {t : TypeId} {g : Nat} (h : w.heap[g]? = some (.cells #[.int .i64 1000, .int .i64 0, .int .i64 2999, .int .i64 1] t (0, 0))) (r : Nat) (hr : r < 4) : w.cell? ⟨g, r, none⟩ = some (.int .i64 (Pv.price r)) := by
  rw [cell_of_row _ _ _ _ _ _ h]
  have : r = 0 ∨ r = 1 ∨ r = 2 ∨ r = 3 := by omega
  rcases this with rfl | rfl | rfl | rfl <;> rfl
theorem free_cells {w : World} {t : TypeId} {g : Nat} (h : w.heap[g]? = some (.cells #[.int .i64 0, .int .i64 0, .int .i64 10, .int .i64 3] t (0, 0))) (r : Nat) (hr : r < 4) : w.cell? ⟨g, r, none⟩ = some (.int .i64 (Pv.free r)) := by
  rw [cell_of_row _ _ _ _ _ _ h]
  have : r = 0 ∨ r = 1 ∨ r = 2 ∨ r = 3 := by omega
  rcases this with rfl | rfl | rfl | rfl <;> rfl
set_option maxHeartbeats 4000000 in
theorem plan12_any (n : Int) (h0 : 0 ≤ n) (h1 : n < 256) (w : World) : Calls Tryz.prog 21 #[.int .u8 n] w fun e w' => e = .returned (.agg (Pv.of n).arr) ∧ Below w.heap.size w w' := by
  have e1 := Int.tmod_eq_emod_of_nonneg (b := 4) h0
  have e2 : n.tdiv 4 = n / 4 := Int.tdiv_eq_ediv_of_nonneg h0
  have e3 : n.tdiv 16 = n / 16 := Int.tdiv_eq_ediv_of_nonneg h0
  have e4 : n.tdiv 48 = n / 48 := Int.tdiv_eq_ediv_of_nonneg h0
  have e5 : (n / 4).tmod 4 = n / 4 % 4 := Int.tmod_eq_emod_of_nonneg (by omega)
  have e6 : (n / 16).tmod 3 = n / 16 % 3 := Int.tmod_eq_emod_of_nonneg (by omega)
  have e7 : (n / 48).tmod 4 = n / 48 % 4 := Int.tmod_eq_emod_of_nonneg (by omega)
  have e8 := Int.tmod_eq_emod_of_nonneg (b := 3) h0
  have e9 := Int.tmod_eq_emod_of_nonneg (b := 7) h0
  have W1 : Hid (IntKind.u8.wrap (n / 16) = n / 16) := by show _ = _; simp [IntKind.wrap, IntKind.bits, IntKind.signed]; omega
  have W2 : Hid (IntKind.u8.wrap (n / 4) = n / 4) := by show _ = _; simp [IntKind.wrap, IntKind.bits, IntKind.signed]; omega
  have W3 : Hid (IntKind.u8.wrap (n / 48) = n / 48) := by show _ = _; simp [IntKind.wrap, IntKind.bits, IntKind.signed]; omega
  have W4 : Hid (IntKind.i64.wrap (n / 16 % 3) = n / 16 % 3) := by show _ = _; rw [IntKind.wrap_i64]; omega
  have W5 : Hid (IntKind.i64.wrap (1 + n / 16 % 3) = 1 + n / 16 % 3) := by show _ = _; rw [IntKind.wrap_i64]; omega
  go_enter Tryz.func21, Tryz.ntmps21
  go_wp2_with (fail)
  have HS0 : Hid ((fun _ : World => True) w) := trivial
  refine lane_start (ord := [1, 2, 5, 6, 7, 8, 9, 10, 11, 12, 14, 15, 16, 19, 20, 21, 22, 23, 24, 0, 3, 4, 13, 17, 18, 25, 26]) (S := fun _ => True) rfl (by kernel_rfl) trivial (fun _ => ?_)
  iterate 19 (refine lane_take (v := ?_) rfl (by kernel_rfl) (by kernel_rfl) (by rfl) ?_ (by exact HS0.out) ?_; rotate_left; (focus (intro W hSw; go_simp; try (with_reducible rfl))); simp only [Act.put, List.setIfInBounds_toArray, List.set_cons_zero, List.set_cons_succ])
  rw [W2.out, W1.out, W3.out, e5, e6, e7, W4.out, W5.out]
  obtain ⟨r, hr⟩ : ∃ r : Nat, n % 4 = r := ⟨(n % 4).toNat, by omega⟩
  obtain ⟨s, hs⟩ : ∃ s : Nat, n / 48 % 4 = s := ⟨(n / 48 % 4).toNat, by omega⟩
  have hof : Pv.of n = ⟨Pv.price r, n / 4 % 4, 1 + n / 16 % 3, Pv.free s, n % 3 == 1, n % 7 == 3⟩ := by unfold Pv.of; rw [hr, hs, Int.toNat_natCast, Int.toNat_natCast]
  have HOF := Lib.hid hof
  rw [hr, hs]
  have r0 : (0 : Int) ≤ (r : Int) := by omega
  have r1 : (r : Int) < 4 := by omega
  have s0 : (0 : Int) ≤ (s : Int) := by omega
  have s1 : (s : Int) < 4 := by omega
  have r2 : r < 4 := by omega
  have s2 : s < 4 := by omega
  have HE := Lib.hid h1
  clear e1 e2 e3 e4 e5 e6 e7 e8 e9 hof hr hs
  refine lane_two (i := 0) (j := 13) (ordI := [3, 4, 13, 17, 18, 25, 26]) (ordJ := [17, 18, 0, 3, 4, 25, 26]) rfl rfl (by kernel_rfl) rfl (by rfl) (by rfl) (fun K hK => ?_) (fun K hK => ?_)
  · go_simp
    have hA0 : (((w.alloc (.cells #[.int .i64 0, .int .u8 0, .int .i64 0, .int .i64 0, .bool false, .bool false] 44)).alloc (.cells #[.int .i64 1000, .int .i64 0, .int .i64 2999, .int .i64 1] 2))).heap[w.heap.size + 1]? = some (.cells #[.int .i64 1000, .int .i64 0, .int .i64 2999, .int .i64 1] 2 (0, 0)) := alloc_at (by simp)
    have hZ0 : (((w.alloc (.cells #[.int .i64 0, .int .u8 0, .int .i64 0, .int .i64 0, .bool false, .bool false] 44)).alloc (.cells #[.int .i64 1000, .int .i64 0, .int .i64 2999, .int .i64 1] 2))).heap[w.heap.size]? = some (.cells #[.int .i64 0, .int .u8 0, .int .i64 0, .int .i64 0, .bool false, .bool false] 44 (0, 0)) := alloc_old (by simp) (alloc_at rfl)
    have hW0 : Below w.heap.size w (((w.alloc (.cells #[.int .i64 0, .int .u8 0, .int .i64 0, .int .i64 0, .bool false, .bool false] 44)).alloc (.cells #[.int .i64 1000, .int .i64 0, .int .i64 2999, .int .i64 1] 2))).drew := (((Below.refl _ w).alloc (Nat.le_refl _) _).alloc (by simp) _).drew
    have hA : (((w.alloc (.cells #[.int .i64 0, .int .u8 0, .int .i64 0, .int .i64 0, .bool false, .bool false] 44)).alloc (.cells #[.int .i64 1000, .int .i64 0, .int .i64 2999, .int .i64 1] 2))).drew.heap[w.heap.size + 1]? = some (.cells #[.int .i64 1000, .int .i64 0, .int .i64 2999, .int .i64 1] 2 (0, 0)) := hA0
    have hZ : (((w.alloc (.cells #[.int .i64 0, .int .u8 0, .int .i64 0, .int .i64 0, .bool false, .bool false] 44)).alloc (.cells #[.int .i64 1000, .int .i64 0, .int .i64 2999, .int .i64 1] 2))).drew.heap[w.heap.size]? = some (.cells #[.int .i64 0, .int .u8 0, .int .i64 0, .int .i64 0, .bool false, .bool false] 44 (0, 0)) := hZ0
    have hsz : (((w.alloc (.cells #[.int .i64 0, .int .u8 0, .int .i64 0, .int .i64 0, .bool false, .bool false] 44)).alloc (.cells #[.int .i64 1000, .int .i64 0, .int .i64 2999, .int .i64 1] 2))).drew.heap.size = w.heap.size + 1 + 1 := by show (((w.alloc (.cells #[.int .i64 0, .int .u8 0, .int .i64 0, .int .i64 0, .bool false, .bool false] 44)).alloc (.cells #[.int .i64 1000, .int .i64 0, .int .i64 2999, .int .i64 1] 2))).heap.size = _; simp
    refine hK _ _ trivial (fun _ => ?_)
    clear hK K
    obtain ⟨X, hX⟩ : ∃ X, (((w.alloc (.cells #[.int .i64 0, .int .u8 0, .int .i64 0, .int .i64 0, .bool false, .bool false] 44)).alloc (.cells #[.int .i64 1000, .int .i64 0, .int .i64 2999, .int .i64 1] 2))).drew = X := ⟨_, rfl⟩
    rw [hX] at hA hZ hW0 hsz ⊢
    clear hX hA0 hZ0
    have HW := Lib.hid hW0
    have HA := Lib.hid hA
    have HZ := Lib.hid hZ
    have HSZ := Lib.hid hsz
    clear hA hZ hW0 hsz
    refine lane_into (S' := fun w' => (∀ r : Nat, r < 4 → w'.cell? ⟨w.heap.size + 1, r, none⟩ = some (.int .i64 (Pv.price r))) ∧ True) (fun _ _ => trivial) ⟨price_cells HA.out, trivial⟩ (fun hS1 => ?_)
    have HS1 := Lib.hid hS1
    clear hS1
    iterate 2 (refine lane_take (v := ?_) rfl (by kernel_rfl) (by kernel_rfl) (by rfl) ?_ (by exact HS1.out) ?_; rotate_left; (focus (intro W hSw; have q0 := hSw.1 r r2; go_simp; try (with_reducible rfl))); simp only [Act.put, List.setIfInBounds_toArray, List.set_cons_zero, List.set_cons_succ])
    refine lane_alone rfl (by kernel_rfl) (by rfl) (fun K hK => ?_)
    go_simp
    have hA : (X.alloc (.cells #[.int .i64 0, .int .i64 0, .int .i64 10, .int .i64 3] 3)).heap[w.heap.size + 1]? = some (.cells #[.int .i64 1000, .int .i64 0, .int .i64 2999, .int .i64 1] 2 (0, 0)) := alloc_old (by have := HSZ.out; omega) HA.out
    have hB : (X.alloc (.cells #[.int .i64 0, .int .i64 0, .int .i64 10, .int .i64 3] 3)).heap[w.heap.size + 1 + 1]? = some (.cells #[.int .i64 0, .int .i64 0, .int .i64 10, .int .i64 3] 3 (0, 0)) := alloc_at HSZ.out.symm
    have hZ : (X.alloc (.cells #[.int .i64 0, .int .i64 0, .int .i64 10, .int .i64 3] 3)).heap[w.heap.size]? = some (.cells #[.int .i64 0, .int .u8 0, .int .i64 0, .int .i64 0, .bool false, .bool false] 44 (0, 0)) := alloc_old (by have := HSZ.out; omega) HZ.out
    have hW : Below w.heap.size w (X.alloc (.cells #[.int .i64 0, .int .i64 0, .int .i64 10, .int .i64 3] 3)) := HW.out.alloc (by have := HSZ.out; omega) _
    refine hK _ _ ⟨price_cells hA, trivial⟩ (fun _ => ?_)
    clear hK K
    rw [HSZ.out]
    obtain ⟨Y, hY⟩ : ∃ Y, X.alloc (.cells #[.int .i64 0, .int .i64 0, .int .i64 10, .int .i64 3] 3) = Y := ⟨_, rfl⟩
    rw [hY] at hA hB hZ hW ⊢
    clear hY HA HZ HW HSZ HS1
    have hzz : w.heap.size < Y.heap.size := (Array.getElem?_eq_some_iff.1 hZ).1
    have HW := Lib.hid hW
    have HA := Lib.hid hA
    have HB := Lib.hid hB
    have HZ := Lib.hid hZ
    clear hA hB hZ hW
    refine lane_into (S' := fun w' => ((∀ r : Nat, r < 4 → w'.cell? ⟨w.heap.size + 1, r, none⟩ = some (.int .i64 (Pv.price r))) ∧ True) ∧ (∀ r : Nat, r < 4 → w'.cell? ⟨w.heap.size + 1 + 1, r, none⟩ = some (.int .i64 (Pv.free r)))) (fun _ h => h.1) ⟨⟨price_cells HA.out, trivial⟩, free_cells HB.out⟩ (fun hS2 => ?_)
    have HS2 := Lib.hid hS2
    clear hS2
    iterate 3 (refine lane_take (v := ?_) rfl (by kernel_rfl) (by kernel_rfl) (by rfl) ?_ (by exact HS2.out) ?_; rotate_left; (focus (intro W hSw; have q0 := hSw.2 s s2; go_simp; try (with_reducible rfl))); simp only [Act.put, List.setIfInBounds_toArray, List.set_cons_zero, List.set_cons_succ])
    refine lane_alone rfl (by kernel_rfl) (by rfl) (fun K hK => ?_)
    refine wp_store_row _ _ _ rfl w.heap.size (Pv.of n).arr rfl (by rw [HOF.out]; rfl) _ _ HZ.out (by exact info6p) rfl (Pv.arr_one _) ?_
    rw [row_boxed HZ.out]
    refine hK _ _ ⟨⟨price_cells ((boxed_block_other (by omega)).trans HA.out), trivial⟩, free_cells ((boxed_block_other (by omega)).trans HB.out)⟩ (fun _ => ?_)
    clear hK K
    refine lane_end (by kernel_rfl) ?_
    go_wp2
    refine bodyPost_ret (results_cell_row rfl _ _ w.heap.size 44 _ (0, 0) _ rfl (boxed_at hzz) Tryz.underlying44 rfl (by exact info6p)) rfl ?_
    exact ⟨rfl, boxed_below HW.out (Nat.le_refl _)⟩
  · go_simp
    have hA0 : (((w.alloc (.cells #[.int .i64 0, .int .u8 0, .int .i64 0, .int .i64 0, .bool false, .bool false] 44)).alloc (.cells #[.int .i64 0, .int .i64 0, .int .i64 10, .int .i64 3] 3))).heap[w.heap.size + 1]? = some (.cells #[.int .i64 0, .int .i64 0, .int .i64 10, .int .i64 3] 3 (0, 0)) := alloc_at (by simp)
    have hZ0 : (((w.alloc (.cells #[.int .i64 0, .int .u8 0, .int .i64 0, .int .i64 0, .bool false, .bool false] 44)).alloc (.cells #[.int .i64 0, .int .i64 0, .int .i64 10, .int .i64 3] 3))).heap[w.heap.size]? = some (.cells #[.int .i64 0, .int .u8 0, .int .i64 0, .int .i64 0, .bool false, .bool false] 44 (0, 0)) := alloc_old (by simp) (alloc_at rfl)
    have hW0 : Below w.heap.size w (((w.alloc (.cells #[.int .i64 0, .int .u8 0, .int .i64 0, .int .i64 0, .bool false, .bool false] 44)).alloc (.cells #[.int .i64 0, .int .i64 0, .int .i64 10, .int .i64 3] 3))).drew := (((Below.refl _ w).alloc (Nat.le_refl _) _).alloc (by simp) _).drew
    have hA : (((w.alloc (.cells #[.int .i64 0, .int .u8 0, .int .i64 0, .int .i64 0, .bool false, .bool false] 44)).alloc (.cells #[.int .i64 0, .int .i64 0, .int .i64 10, .int .i64 3] 3))).drew.heap[w.heap.size + 1]? = some (.cells #[.int .i64 0, .int .i64 0, .int .i64 10, .int .i64 3] 3 (0, 0)) := hA0
    have hZ : (((w.alloc (.cells #[.int .i64 0, .int .u8 0, .int .i64 0, .int .i64 0, .bool false, .bool false] 44)).alloc (.cells #[.int .i64 0, .int .i64 0, .int .i64 10, .int .i64 3] 3))).drew.heap[w.heap.size]? = some (.cells #[.int .i64 0, .int .u8 0, .int .i64 0, .int .i64 0, .bool false, .bool false] 44 (0, 0)) := hZ0
    have hsz : (((w.alloc (.cells #[.int .i64 0, .int .u8 0, .int .i64 0, .int .i64 0, .bool false, .bool false] 44)).alloc (.cells #[.int .i64 0, .int .i64 0, .int .i64 10, .int .i64 3] 3))).drew.heap.size = w.heap.size + 1 + 1 := by show (((w.alloc (.cells #[.int .i64 0, .int .u8 0, .int .i64 0, .int .i64 0, .bool false, .bool false] 44)).alloc (.cells #[.int .i64 0, .int .i64 0, .int .i64 10, .int .i64 3] 3))).heap.size = _; simp
    refine hK _ _ trivial (fun _ => ?_)
    clear hK K
    obtain ⟨X, hX⟩ : ∃ X, (((w.alloc (.cells #[.int .i64 0, .int .u8 0, .int .i64 0, .int .i64 0, .bool false, .bool false] 44)).alloc (.cells #[.int .i64 0, .int .i64 0, .int .i64 10, .int .i64 3] 3))).drew = X := ⟨_, rfl⟩
    rw [hX] at hA hZ hW0 hsz ⊢
    clear hX hA0 hZ0
    have HW := Lib.hid hW0
    have HA := Lib.hid hA
    have HZ := Lib.hid hZ
    have HSZ := Lib.hid hsz
    clear hA hZ hW0 hsz
    refine lane_into (S' := fun w' => (∀ r : Nat, r < 4 → w'.cell? ⟨w.heap.size + 1, r, none⟩ = some (.int .i64 (Pv.free r))) ∧ True) (fun _ _ => trivial) ⟨free_cells HA.out, trivial⟩ (fun hS1 => ?_)
    have HS1 := Lib.hid hS1
    clear hS1
    iterate 2 (refine lane_take (v := ?_) rfl (by kernel_rfl) (by kernel_rfl) (by rfl) ?_ (by exact HS1.out) ?_; rotate_left; (focus (intro W hSw; have q0 := hSw.1 s s2; go_simp; try (with_reducible rfl))); simp only [Act.put, List.setIfInBounds_toArray, List.set_cons_zero, List.set_cons_succ])
    refine lane_alone rfl (by kernel_rfl) (by rfl) (fun K hK => ?_)
    go_simp
    have hA : (X.alloc (.cells #[.int .i64 1000, .int .i64 0, .int .i64 2999, .int .i64 1] 2)).heap[w.heap.size + 1]? = some (.cells #[.int .i64 0, .int .i64 0, .int .i64 10, .int .i64 3] 3 (0, 0)) := alloc_old (by have := HSZ.out; omega) HA.out
    have hB : (X.alloc (.cells #[.int .i64 1000, .int .i64 0, .int .i64 2999, .int .i64 1] 2)).heap[w.heap.size + 1 + 1]? = some (.cells #[.int .i64 1000, .int .i64 0, .int .i64 2999, .int .i64 1] 2 (0, 0)) := alloc_at HSZ.out.symm
    have hZ : (X.alloc (.cells #[.int .i64 1000, .int .i64 0, .int .i64 2999, .int .i64 1] 2)).heap[w.heap.size]? = some (.cells #[.int .i64 0, .int .u8 0, .int .i64 0, .int .i64 0, .bool false, .bool false] 44 (0, 0)) := alloc_old (by have := HSZ.out; omega) HZ.out
    have hW : Below w.heap.size w (X.alloc (.cells #[.int .i64 1000, .int .i64 0, .int .i64 2999, .int .i64 1] 2)) := HW.out.alloc (by have := HSZ.out; omega) _
    refine hK _ _ ⟨free_cells hA, trivial⟩ (fun _ => ?_)
    clear hK K
    rw [HSZ.out]
    obtain ⟨Y, hY⟩ : ∃ Y, X.alloc (.cells #[.int .i64 1000, .int .i64 0, .int .i64 2999, .int .i64 1] 2) = Y := ⟨_, rfl⟩
    rw [hY] at hA hB hZ hW ⊢
    clear hY HA HZ HW HSZ HS1
    have hzz : w.heap.size < Y.heap.size := (Array.getElem?_eq_some_iff.1 hZ).1
    have HW := Lib.hid hW
    have HA := Lib.hid hA
    have HB := Lib.hid hB
    have HZ := Lib.hid hZ
    clear hA hB hZ hW
    refine lane_into (S' := fun w' => ((∀ r : Nat, r < 4 → w'.cell? ⟨w.heap.size + 1, r, none⟩ = some (.int .i64 (Pv.free r))) ∧ True) ∧ (∀ r : Nat, r < 4 → w'.cell? ⟨w.heap.size + 1 + 1, r, none⟩ = some (.int .i64 (Pv.price r)))) (fun _ h => h.1) ⟨⟨free_cells HA.out, trivial⟩, price_cells HB.out⟩ (fun hS2 => ?_)
    have HS2 := Lib.hid hS2
    clear hS2
    iterate 3 (refine lane_take (v := ?_) rfl (by kernel_rfl) (by kernel_rfl) (by rfl) ?_ (by exact HS2.out) ?_; rotate_left; (focus (intro W hSw; have q0 := hSw.2 r r2; go_simp; try (with_reducible rfl))); simp only [Act.put, List.setIfInBounds_toArray, List.set_cons_zero, List.set_cons_succ])
    refine lane_alone rfl (by kernel_rfl) (by rfl) (fun K hK => ?_)
    refine wp_store_row _ _ _ rfl w.heap.size (Pv.of n).arr rfl (by rw [HOF.out]; rfl) _ _ HZ.out (by exact info6p) rfl (Pv.arr_one _) ?_
    rw [row_boxed HZ.out]
    refine hK _ _ ⟨⟨free_cells ((boxed_block_other (by omega)).trans HA.out), trivial⟩, price_cells ((boxed_block_other (by omega)).trans HB.out)⟩ (fun _ => ?_)
    clear hK K
    refine lane_end (by kernel_rfl) ?_
    go_wp2
    refine bodyPost_ret (results_cell_row rfl _ _ w.heap.size 44 _ (0, 0) _ rfl (boxed_at hzz) Tryz.underlying44 rfl (by exact info6p)) rfl ?_
    exact ⟨rfl, boxed_below HW.out (Nat.le_refl _)⟩
end Go.Proofs.YtblikgbcakgdnaaGreat
