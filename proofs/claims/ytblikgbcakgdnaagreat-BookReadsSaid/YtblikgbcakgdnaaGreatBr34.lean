/-
  A book by values alone, and what an order makes of it: an error, or the next book. No conditions but the sizes.
-/
import Derived.Test.YtblikgbcakgdnaaGreatBr33
set_option linter.unusedSimpArgs false
set_option linter.unusedVariables false
namespace Go.Proofs.YtblikgbcakgdnaaGreat
set_option linter.unusedVariables false
set_option linter.unusedSimpArgs false
set_option maxRecDepth 100000
open Go.ChangeShapes Go.WideShapes Go.ChangeAt Go.RowKit

/-- The day, the plans, the subscriptions with all their cycles. -/
structure Bs where
  td : Int
  ps : List Pv
  s : Nat → Sv
def Bs.put (B : Bs) (i : Nat) (s : Sv) : Bs := { B with s := fun j => if j = i then s else B.s j }
theorem Bs.put_same (B : Bs) (i : Nat) (s : Sv) : (B.put i s).s i = s := if_pos rfl
theorem Bs.put_other (B : Bs) {i j : Nat} (s : Sv) (h : j ≠ i) : (B.put i s).s j = B.s j := if_neg h
def Bs.new (td : Int) : Bs := ⟨td, [], fun _ => Sv.zero⟩
/-- A subscription that is there, of a plan. -/
def SubIs (M L : Int) (ps : List Pv) (y : Int) (s : Sv) : Prop := ∃ (kp : Nat) (P : Pv), s.pl = (kp : Int) ∧ ps[kp]? = some P ∧ Sta M L P y s
theorem SubIs.more {M M' L L' : Int} {ps : List Pv} {y : Int} {s : Sv} (h : SubIs M L ps y s) (hm : M ≤ M') (hl : L ≤ L') : SubIs M' L' ps y s := by
  obtain ⟨kp, P, h1, h2, h3⟩ := h
  exact ⟨kp, P, h1, h2, h3.more hm hl⟩
theorem SubIs.st {M L : Int} {ps : List Pv} {y : Int} {s : Sv} (h : SubIs M L ps y s) : s.st ≠ 0 := by
  obtain ⟨kp, P, h1, h2, h3⟩ := h
  have := h3.ok.st
  omega
/-- A book whose numbers are small. -/
structure BsOk (M L : Int) (B : Bs) : Prop where
  day : 0 ≤ B.td ∧ B.td ≤ 3652058
  len : B.ps.length ≤ 8
  pok : ∀ P ∈ B.ps, P.Ok ∧ 0 ≤ P.t ∧ P.t ≤ 1000
  sub : ∀ k, k < 32 → B.s k = Sv.zero ∨ SubIs M L B.ps B.td (B.s k)
theorem BsOk.okAt {M L : Int} {B : Bs} (h : BsOk M L B) {k : Nat} {P : Pv} (hk : B.ps[k]? = some P) : P.Ok ∧ 0 ≤ P.t ∧ P.t ≤ 1000 := h.pok P (List.mem_of_getElem? hk)
theorem BsOk.more {M M' L L' : Int} {B : Bs} (h : BsOk M L B) (hm : M ≤ M') (hl : L ≤ L') : BsOk M' L' B := ⟨h.day, h.len, h.pok, fun k hk => (h.sub k hk).imp id fun g => g.more hm hl⟩
theorem BsOk.zero {M L : Int} {B : Bs} (h : BsOk M L B) {k : Nat} (hk : k < 32) (h0 : (B.s k).st = 0) : B.s k = Sv.zero := (h.sub k hk).resolve_right fun g => g.st h0
theorem BsOk.lens {M L : Int} {B : Bs} (h : BsOk M L B) (hL : L ≤ 9000) : ∀ k, k < 32 → (B.s k).l.length ≤ 9000 ∧ (B.s k).tell.l.length ≤ 9000 := fun k hk => by
  rcases h.sub k hk with g | ⟨kp, P, _, _, hs⟩
  · rw [g]; exact ⟨Nat.zero_le _, Nat.zero_le _⟩
  · exact hs.lens hL
theorem Bs.new_ok {td : Int} (h : 0 ≤ td ∧ td ≤ 3652058) : BsOk 0 1 (Bs.new td) := ⟨h, Nat.zero_le _, fun P hP => (nomatch hP), fun _ _ => .inl rfl⟩
theorem BsOk.put {M M' L L' : Int} {B : Bs} {i : Nat} {s : Sv} (h : BsOk M L B) (hs : SubIs M' L' B.ps B.td s) (hm : M ≤ M') (hl : L ≤ L') : BsOk M' L' (B.put i s) := ⟨h.day, h.len, h.pok, fun k hk => by
  by_cases e : k = i
  · subst e; right; rw [Bs.put_same]; exact hs
  · rw [Bs.put_other _ _ e]; exact (h.sub k hk).imp id fun g => g.more hm hl⟩
/-- The program's book is this one. -/
structure KbR (w : World) (b0 c0 : Nat) (b : Kb) (B : Bs) : Prop where
  td : b.td = B.td
  km : KbM w b0 c0 b B.ps
  a : ∀ k, k < 32 → b.a k = (B.s k).tell
/-- What an order of one subscription makes of it: the kind, the plan; the error; it behind that. -/
inductive Sub1 (ps : List Pv) (P : Pv) (y : Int) (s : Sv) : Nat → Nat → Int → Sv → Prop
  | pause_yes : s.st = 1 → Sub1 ps P y s 4 0 0 { s with st := 2 }
  | pause_no : s.st ≠ 1 → Sub1 ps P y s 4 0 8 s
  | resume_yes : s.st = 2 → Sub1 ps P y s 5 0 0 { s with st := 1 }
  | resume_no : s.st ≠ 2 → Sub1 ps P y s 5 0 8 s
  | skip_dead : s.st = 3 → Sub1 ps P y s 6 0 8 s
  | skip_twice : s.st ≠ 3 → s.sk = true → Sub1 ps P y s 6 0 8 s
  | skip_yes : s.st ≠ 3 → s.sk = false → Sub1 ps P y s 6 0 0 { s with sk := true }
  | cancel_no : s.st = 3 → Sub1 ps P y s 7 0 8 s
  | cancel_yes : s.st ≠ 3 → Sub1 ps P y s 7 0 0 { s with st := 3, cr := s.cr + gainOf (fun c => c.over) s.l, l := s.l.map (fun c => c.over) }
  | card_no : s.st = 3 → Sub1 ps P y s 8 0 8 s
  | card_yes : s.st ≠ 3 → Sub1 ps P y s 8 0 0 { s with l := s.l.map (fun c => c.card) }
  | change_none (n : Nat) : ps.length ≤ n → Sub1 ps P y s 3 n 2 s
  | change_off (n : Nat) : s.st ≠ 1 → n < ps.length → Sub1 ps P y s 3 n 8 s
  | change_same (n : Nat) : s.st = 1 → n < ps.length → s.pl = (n : Int) → Sub1 ps P y s 3 n 8 s
  | change_free (n : Nat) (Q : Pv) : s.st = 1 → ps[n]? = some Q → s.pl ≠ (n : Int) → y < s.an → Sub1 ps P y s 3 n 0 { s with pl := (n : Int), ix := 0 }
  | change_end (n : Nat) (Q : Pv) (k d : Int) : s.st = 1 → ps[n]? = some Q → s.pl ≠ (n : Int) → s.an ≤ y → Cal.At s.an k d → Cal.Cnt P.u s.an k d P.e y s.ix → Cal.okN P.u s.an k P.e s.ix = false → Sub1 ps P y s 3 n 8 s
  | change_go (n : Nat) (Q : Pv) (k d : Int) : s.st = 1 → ps[n]? = some Q → s.pl ≠ (n : Int) → s.an ≤ y → Cal.At s.an k d → Cal.Cnt P.u s.an k d P.e y s.ix → Cal.okN P.u s.an k P.e s.ix = true → Sub1 ps P y s 3 n 0 { s with cr := s.cr + (P.a * (Cal.vN P.u s.an k d P.e s.ix - y) / (Cal.vN P.u s.an k d P.e s.ix - Cal.vN P.u s.an k d P.e (s.ix - 1)) - Q.a * (Cal.vN P.u s.an k d P.e s.ix - y) / (Cal.vN P.u s.an k d P.e s.ix - Cal.vN P.u s.an k d P.e (s.ix - 1))), an := Cal.vN P.u s.an k d P.e s.ix, pl := (n : Int), ix := 0 }
/-- What an answer makes of it. -/
inductive Heard1 (i : Nat) (y : Int) (s : Sv) (n : Nv) : Int → Sv → Prop
  | none : (∀ c ∈ s.l, c.p < 7 → c.n ≠ n.c) → Heard1 i y s n 10 s
  | no (m : Nat) (c : Cv) : s.l[m]? = some c → c.p < 7 → n.c = (m : Int) → ¬ c.Heard i n → Heard1 i y s n 10 s
  | yes (m : Nat) (c : Cv) : s.l[m]? = some c → c.p < 7 → n.c = (m : Int) → c.Heard i n → Heard1 i y s n 0 { s with cr := Cy.gain s.cr c (c.next n.v y (s.st == 3)), l := s.l.set m (c.next n.v y (s.st == 3)) }
/-- What any order makes of a book: an error, or the book behind it. -/
inductive Outs (M L : Int) (B : Bs) : Ov → Int → Bs → Prop
  | def_no (P : Pv) : Pn.right P.a P.u P.e P.t = 0 → 8 ≤ B.ps.length → Outs M L B ⟨1, 0, 0, 0, P, Nv.zero⟩ 3 B
  | def_yes (P : Pv) : Pn.right P.a P.u P.e P.t = 0 → B.ps.length < 8 → Outs M L B ⟨1, 0, 0, 0, P, Nv.zero⟩ 0 { B with ps := B.ps ++ [P] }
  | opn_none (i n : Nat) : i < 32 → B.ps.length ≤ n → Outs M L B ⟨2, i, n, 0, Pv.zero, Nv.zero⟩ 2 B
  | opn_there (i n : Nat) (P : Pv) : i < 32 → B.ps[n]? = some P → (B.s i).st ≠ 0 → Outs M L B ⟨2, i, n, 0, Pv.zero, Nv.zero⟩ 11 B
  | opn_long (i n : Nat) (P : Pv) : i < 32 → B.ps[n]? = some P → B.s i = Sv.zero → 3652058 < B.td + P.t → Outs M L B ⟨2, i, n, 0, Pv.zero, Nv.zero⟩ 6 B
  | opn_yes (i n : Nat) (P : Pv) (s' : Sv) : i < 32 → B.ps[n]? = some P → B.s i = Sv.zero → B.td + P.t ≤ 3652058 → DayOk 0 1 P B.td (Sv.begun (n : Int) (B.td + P.t)) s' → Outs M L B ⟨2, i, n, 0, Pv.zero, Nv.zero⟩ 0 (B.put i s')
  | one_none (K : Nat) (i n : Nat) : i < 32 → 3 ≤ K ∧ K ≤ 8 → (K ≠ 3 → n = 0) → B.s i = Sv.zero → Outs M L B ⟨(K : Int), i, n, 0, Pv.zero, Nv.zero⟩ 2 B
  | one_no (K : Nat) (i n : Nat) (x : Int) (s' : Sv) (kp : Nat) (P : Pv) : i < 32 → 3 ≤ K ∧ K ≤ 8 → (B.s i).pl = (kp : Int) → B.ps[kp]? = some P → Sta M L P B.td (B.s i) → Sub1 B.ps P B.td (B.s i) K n x s' → x ≠ 0 → Outs M L B ⟨(K : Int), i, n, 0, Pv.zero, Nv.zero⟩ x B
  | one_yes (K : Nat) (i n : Nat) (s' : Sv) (kp : Nat) (P : Pv) : i < 32 → 3 ≤ K ∧ K ≤ 8 → (B.s i).pl = (kp : Int) → B.ps[kp]? = some P → Sta M L P B.td (B.s i) → Sub1 B.ps P B.td (B.s i) K n 0 s' → Outs M L B ⟨(K : Int), i, n, 0, Pv.zero, Nv.zero⟩ 0 (B.put i s')
  | hear_none (i : Nat) (NK C T A V : Int) : i < 32 → B.s i = Sv.zero → Outs M L B ⟨10, 0, 0, 0, Pv.zero, ⟨NK, i, C, T, A, V⟩⟩ 10 B
  | hear_no (i : Nat) (NK C T A V : Int) (s' : Sv) (kp : Nat) (P : Pv) : i < 32 → (B.s i).pl = (kp : Int) → B.ps[kp]? = some P → Sta M L P B.td (B.s i) → Heard1 i B.td (B.s i) ⟨NK, i, C, T, A, V⟩ 10 s' → Outs M L B ⟨10, 0, 0, 0, Pv.zero, ⟨NK, i, C, T, A, V⟩⟩ 10 B
  | hear_yes (i : Nat) (NK C T A V : Int) (s' : Sv) (kp : Nat) (P : Pv) : i < 32 → (B.s i).pl = (kp : Int) → B.ps[kp]? = some P → Sta M L P B.td (B.s i) → Heard1 i B.td (B.s i) ⟨NK, i, C, T, A, V⟩ 0 s' → Outs M L B ⟨10, 0, 0, 0, Pv.zero, ⟨NK, i, C, T, A, V⟩⟩ 0 (B.put i s')
  | pass_long (n : Int) : 1 ≤ n ∧ n ≤ 60 → 3652058 < B.td + n → Outs M L B ⟨9, 0, 0, n, Pv.zero, Nv.zero⟩ 6 B
  | pass_yes (n : Int) (D : Nat → Sv) : 1 ≤ n ∧ n ≤ 60 → B.td + n ≤ 3652058 → (∀ k, k < 32 → (B.s k = Sv.zero ∧ D k = Sv.zero) ∨ ∃ (kp : Nat) (P : Pv), (B.s k).pl = (kp : Int) ∧ B.ps[kp]? = some P ∧ Sta M L P B.td (B.s k) ∧ DayOk M (L + n) P (B.td + n) (B.s k) (D k)) → Outs M L B ⟨9, 0, 0, n, Pv.zero, Nv.zero⟩ 0 ⟨B.td + n, B.ps, D⟩
/-- An order that may be, by its forms. -/
theorem right_forms {o : Ov} (h : o.right = 0) : (∃ P, o = ⟨1, 0, 0, 0, P, Nv.zero⟩ ∧ Pn.right P.a P.u P.e P.t = 0) ∨ (∃ i n : Nat, i < 32 ∧ o = ⟨2, i, n, 0, Pv.zero, Nv.zero⟩) ∨ (∃ K i n : Nat, (3 ≤ K ∧ K ≤ 8) ∧ (K ≠ 3 → n = 0) ∧ i < 32 ∧ o = ⟨(K : Int), i, n, 0, Pv.zero, Nv.zero⟩) ∨ (∃ n : Int, (1 ≤ n ∧ n ≤ 60) ∧ o = ⟨9, 0, 0, n, Pv.zero, Nv.zero⟩) ∨ ∃ (i : Nat) (NK C T A V : Int), i < 32 ∧ (1 ≤ V ∧ V ≤ 3) ∧ 0 ≤ C ∧ o = ⟨10, 0, 0, 0, Pv.zero, ⟨NK, i, C, T, A, V⟩⟩ := by
  obtain ⟨k, s, p, n, P, A⟩ := o
  unfold Ov.right at h
  split at h
  case isFalse => cases h
  case isTrue hn =>
    obtain ⟨h1, h2⟩ := hn
    unfold Ov.Num at h1
    unfold Ov.named at h2
    dsimp only at h h1 h2
    have hk : nm k = 1 ∧ k = 1 ∨ nm k = 2 ∧ (k = 2 ∨ k = 3) ∨ nm k = 3 ∧ (4 ≤ k ∧ k ≤ 8) ∨ nm k = 4 ∧ k = 9 ∨ nm k = 5 ∧ k = 10 ∨ nm k = 0 := by
      unfold nm
      by_cases c1 : k = 1
      · exact .inl ⟨if_pos c1, c1⟩
      · rw [if_neg c1]
        by_cases c2 : k = 2 ∨ k = 3
        · exact .inr (.inl ⟨if_pos c2, c2⟩)
        · rw [if_neg c2]
          by_cases c3 : 4 ≤ k ∧ k ≤ 8
          · exact .inr (.inr (.inl ⟨if_pos c3, c3⟩))
          · rw [if_neg c3]
            by_cases c4 : k = 9
            · exact .inr (.inr (.inr (.inl ⟨if_pos c4, c4⟩)))
            · rw [if_neg c4]
              by_cases c5 : k = 10
              · exact .inr (.inr (.inr (.inr (.inl ⟨if_pos c5, c5⟩))))
              · exact .inr (.inr (.inr (.inr (.inr (if_neg c5)))))
    rcases hk with ⟨g, rfl⟩ | ⟨g, gk⟩ | ⟨g, gk⟩ | ⟨g, rfl⟩ | ⟨g, rfl⟩ | g
    · rw [if_pos rfl] at h
      rw [g, if_pos rfl] at h2
      injection h2 with _ e1 e2 e3 _ e5
      subst e1 e2 e3 e5
      exact .inl ⟨P, rfl, h⟩
    · rw [g] at h1 h2
      rw [if_neg (by decide), if_pos rfl] at h2
      injection h2 with _ _ _ e3 e4 e5
      subst e3 e4 e5
      have h3 : 0 ≤ s ∧ s < 32 ∧ 0 ≤ p ∧ p < 8 := by omega
      obtain ⟨i, rfl⟩ := Int.eq_ofNat_of_zero_le h3.1
      obtain ⟨m, rfl⟩ := Int.eq_ofNat_of_zero_le h3.2.2.1
      rcases gk with rfl | rfl
      · exact .inr (.inl ⟨i, m, by omega, rfl⟩)
      · exact .inr (.inr (.inl ⟨3, i, m, by omega, fun e => absurd rfl e, by omega, rfl⟩))
    · rw [g] at h1 h2
      rw [if_neg (by decide), if_neg (by decide), if_pos rfl] at h2
      injection h2 with _ _ e2 e3 e4 e5
      subst e2 e3 e4 e5
      have h3 : 0 ≤ s ∧ s < 32 := by omega
      obtain ⟨i, rfl⟩ := Int.eq_ofNat_of_zero_le h3.1
      obtain ⟨K, rfl⟩ := Int.eq_ofNat_of_zero_le (a := k) (by omega)
      exact .inr (.inr (.inl ⟨K, i, 0, by omega, fun _ => rfl, by omega, rfl⟩))
    · rw [g] at h1 h2
      rw [if_neg (by decide), if_neg (by decide), if_neg (by decide), if_pos rfl] at h2
      injection h2 with _ e1 e2 _ e4 e5
      subst e1 e2 e4 e5
      exact .inr (.inr (.inr (.inl ⟨n, by omega, rfl⟩)))
    · rw [g] at h1 h2
      rw [if_neg (by decide), if_neg (by decide), if_neg (by decide), if_neg (by decide), if_pos rfl] at h2
      injection h2 with _ e1 e2 e3 e4 _
      subst e1 e2 e3 e4
      have h3 : A.Ans := by
        rcases h1 with h1 | h1 | h1 | h1 | h1
        · omega
        · omega
        · omega
        · omega
        · exact h1.2
      obtain ⟨NK, S, C, T, M, V⟩ := A
      obtain ⟨_, _, h4, h5, h6, h7, h8, _⟩ := h3
      dsimp only at h4 h5 h6 h7 h8
      obtain ⟨i, rfl⟩ := Int.eq_ofNat_of_zero_le h6
      exact .inr (.inr (.inr (.inr ⟨i, NK, C, T, M, V, by omega, by omega, h8, rfl⟩)))
    · rw [g] at h1
      exfalso
      rcases h1 with h1 | h1 | h1 | h1 | h1 <;> omega
/-- A plan that may be. -/
theorem right_ok {P : Pv} (h : Pn.right P.a P.u P.e P.t = 0) (hu : 0 ≤ P.u) : P.Ok ∧ 0 ≤ P.t ∧ P.t ≤ 1000 := by
  have g := h
  unfold Pn.right at g
  refine ⟨⟨?_, ?_, ?_⟩, ?_⟩ <;> (repeat' split at g) <;> omega
/-- What one order of one subscription leaves. -/
theorem Sub1.sta {M L : Int} {ps : List Pv} {P : Pv} {y : Int} {s s' : Sv} {K n : Nat} {kp : Nat} (h : Sub1 ps P y s K n 0 s') (hs : Sta M L P y s) (hM : 0 ≤ M) (hL : 0 ≤ L) (hpl : s.pl = (kp : Int)) (hP : ps[kp]? = some P) (hps : ∀ Q ∈ ps, Q.Ok ∧ 0 ≤ Q.t ∧ Q.t ≤ 1000) : SubIs (M + 1100000000) L ps y s' := by
  have hpo := (hps P (List.mem_of_getElem? hP)).1
  cases h with
  | pause_yes h1 => exact ⟨kp, P, hpl, hP, (hs.state 2 (.inr rfl) (by omega)).more (by omega) (Int.le_refl _)⟩
  | resume_yes h1 => exact ⟨kp, P, hpl, hP, (hs.state 1 (.inl rfl) (by omega)).more (by omega) (Int.le_refl _)⟩
  | skip_yes h1 h2 => exact ⟨kp, P, hpl, hP, (hs.skips true).more (by omega) (Int.le_refl _)⟩
  | cancel_yes h1 => exact ⟨kp, P, hpl, hP, hs.cancelled.more (by omega) (Int.le_refl _)⟩
  | card_yes h1 => exact ⟨kp, P, hpl, hP, hs.carded.more (by omega) (Int.le_refl _)⟩
  | change_free n Q h1 h2 h3 h4 => exact ⟨n, Q, rfl, h2, hs.change_free (n : Int) h4 hL⟩
  | change_go n Q k d h1 h2 h3 h4 h5 h6 h7 => exact ⟨n, Q, rfl, h2, hs.change_go hpo (hps Q (List.mem_of_getElem? h2)).1 (n : Int) h1 h4 hL h5 h6 h7⟩
/-- What an order of one subscription makes of it. -/
theorem Sub1.total {M L : Int} {ps : List Pv} {P : Pv} {y : Int} {s : Sv} {K n : Nat} (hs : Sta M L P y s) (hK : 3 ≤ K ∧ K ≤ 8) (hn : K ≠ 3 → n = 0) : ∃ x s', Sub1 ps P y s K n x s' := by
  have hst := hs.ok.st
  obtain ⟨k, d, c, hAt, hcn, hix, hic, hcL⟩ := hs.ex
  rcases (by omega : K = 3 ∨ K = 4 ∨ K = 5 ∨ K = 6 ∨ K = 7 ∨ K = 8) with rfl | rfl | rfl | rfl | rfl | rfl
  · by_cases h1 : ps.length ≤ n
    · exact ⟨_, _, .change_none n h1⟩
    by_cases h2 : s.st = 1
    · by_cases h3 : s.pl = (n : Int)
      · exact ⟨_, _, .change_same n h2 (by omega) h3⟩
      obtain ⟨Q, hQ⟩ : ∃ Q, ps[n]? = some Q := ⟨_, List.getElem?_eq_getElem (by omega)⟩
      by_cases h4 : y < s.an
      · exact ⟨_, _, .change_free n Q h2 hQ h3 h4⟩
      · have hcn2 : Cal.Cnt P.u s.an k d P.e y s.ix := by rw [hix (by omega)]; exact hcn
        by_cases h5 : Cal.okN P.u s.an k P.e s.ix = true
        · exact ⟨_, _, .change_go n Q k d h2 hQ h3 (by omega) hAt hcn2 h5⟩
        · exact ⟨_, _, .change_end n Q k d h2 hQ h3 (by omega) hAt hcn2 (by simpa using h5)⟩
    · exact ⟨_, _, .change_off n h2 (by omega)⟩
  · obtain rfl := hn (by decide)
    by_cases h : s.st = 1
    · exact ⟨_, _, .pause_yes h⟩
    · exact ⟨_, _, .pause_no h⟩
  · obtain rfl := hn (by decide)
    by_cases h : s.st = 2
    · exact ⟨_, _, .resume_yes h⟩
    · exact ⟨_, _, .resume_no h⟩
  · obtain rfl := hn (by decide)
    by_cases h : s.st = 3
    · exact ⟨_, _, .skip_dead h⟩
    cases hk : s.sk
    · exact ⟨_, _, .skip_yes h hk⟩
    · exact ⟨_, _, .skip_twice h hk⟩
  · obtain rfl := hn (by decide)
    by_cases h : s.st = 3
    · exact ⟨_, _, .cancel_no h⟩
    · exact ⟨_, _, .cancel_yes h⟩
  · obtain rfl := hn (by decide)
    by_cases h : s.st = 3
    · exact ⟨_, _, .card_no h⟩
    · exact ⟨_, _, .card_yes h⟩
theorem Heard1.total {M L : Int} {P : Pv} {y : Int} {s : Sv} (hs : Sta M L P y s) (i : Nat) (n : Nv) : (∃ s', Heard1 i y s n 10 s') ∨ ∃ s', Heard1 i y s n 0 s' := by
  by_cases hex : ∃ c ∈ s.l, c.p < 7 ∧ c.n = n.c
  · obtain ⟨c, h1, h2, h3⟩ := hex
    obtain ⟨m, hm⟩ := List.getElem?_of_mem h1
    have hmn := hs.ok.num m c hm
    by_cases hh : c.Heard i n
    · exact .inr ⟨_, .yes m c hm h2 (by omega) hh⟩
    · exact .inl ⟨_, .no m c hm h2 (by omega) hh⟩
  · exact .inl ⟨_, .none fun c h1 h2 h3 => hex ⟨c, h1, h2, h3⟩⟩
theorem Heard1.sta {M L : Int} {P : Pv} {y : Int} {s s' : Sv} {i : Nat} {n : Nv} (h : Heard1 i y s n 0 s') (hs : Sta M L P y s) (hy : 0 ≤ y ∧ y ≤ 3652058) : Sta M L P y s' ∧ s'.pl = s.pl := by
  cases h with
  | yes m c h1 h2 h3 h4 =>
    have hok := hs.ok.cs c (List.mem_of_getElem? h1)
    have hzn := hok.next n.v y (s.st == 3) (by omega)
    obtain ⟨g1, g2⟩ := next_same c n.v y (s.st == 3)
    exact ⟨hs.heard h1 h2 hzn g1 g2, rfl⟩
/-- Any order that may be has an outcome, and leaves a book whose numbers are small. -/
theorem Outs.total {M L G : Int} {B : Bs} {o : Ov} (h : BsOk M L B) (hM : 0 ≤ M ∧ M ≤ 100000000000) (hG : 1 ≤ G) (hL : 1 ≤ L ∧ L + 60 ≤ 9000) (hr : o.right = 0) (hu : 0 ≤ o.P.u) (hng : o.n ≤ G) : ∃ x B', Outs M L B o x B' ∧ (x ≠ 0 → B' = B) ∧ (x = 0 → BsOk (M + 1100000000) (L + G) B') := by
  have hday := h.day
  rcases right_forms hr with ⟨P, rfl, hp⟩ | ⟨i, n, hi, rfl⟩ | ⟨K, i, n, hK, hn, hi, rfl⟩ | ⟨n, hn, rfl⟩ | ⟨i, NK, C, T, A, V, hi, hV, hC, rfl⟩
  · by_cases hf : 8 ≤ B.ps.length
    · exact ⟨_, _, .def_no P hp hf, fun _ => rfl, fun e => absurd e (by decide)⟩
    · refine ⟨_, _, .def_yes P hp (by omega), fun e => absurd rfl e, fun _ => ⟨h.day, ?_, fun Q hQ => ?_, fun k hk => ?_⟩⟩
      · show (B.ps ++ [P]).length ≤ 8
        rw [List.length_append, List.length_singleton]; omega
      · rcases List.mem_append.1 hQ with g | g
        · exact h.pok Q g
        · rw [List.mem_singleton.1 g]; exact right_ok hp hu
      · refine (h.sub k hk).imp id fun ⟨kp, Q, g1, g2, g3⟩ => ⟨kp, Q, g1, ?_, g3.more (by omega) (by omega)⟩
        show (B.ps ++ [P])[kp]? = some Q
        rw [List.getElem?_append_left (List.getElem?_eq_some_iff.1 g2).1]
        exact g2
  · by_cases hnl : B.ps.length ≤ n
    · exact ⟨_, _, .opn_none i n hi hnl, fun _ => rfl, fun e => absurd e (by decide)⟩
    obtain ⟨P, hP⟩ : ∃ P, B.ps[n]? = some P := ⟨_, List.getElem?_eq_getElem (by omega)⟩
    obtain ⟨p1, p3, p4⟩ := h.okAt hP
    by_cases hst : (B.s i).st = 0
    · have hz := h.zero hi hst
      by_cases hlong : 3652058 < B.td + P.t
      · exact ⟨_, _, .opn_long i n P hi hP hz hlong, fun _ => rfl, fun e => absurd e (by decide)⟩
      · obtain ⟨s', D⟩ := (Sv.begun_sta (p := P) (pl := (n : Int)) (y := B.td - 1) (an := B.td + P.t) (by omega) (by omega) (by omega)).day (y' := B.td) p1 (by omega) hday.1 hday.2 (by omega) (by omega) (by omega)
        rw [show (0 : Int) + (B.td - (B.td - 1)) = 1 by omega] at D
        exact ⟨_, _, .opn_yes i n P s' hi hP hz (by omega) D, fun e => absurd rfl e, fun _ => h.put ⟨n, P, D.pl, hP, D.sta.more (by omega) (by omega)⟩ (by omega) (by omega)⟩
    · exact ⟨_, _, .opn_there i n P hi hP hst, fun _ => rfl, fun e => absurd e (by decide)⟩
  · rcases h.sub i hi with hz | ⟨kp, P, g1, g2, g3⟩
    · exact ⟨_, _, .one_none K i n hi hK hn hz, fun _ => rfl, fun e => absurd e (by decide)⟩
    · obtain ⟨x, s', hs⟩ := Sub1.total (ps := B.ps) g3 hK hn
      by_cases hx : x = 0
      · subst hx
        exact ⟨_, _, .one_yes K i n s' kp P hi hK g1 g2 g3 hs, fun e => absurd rfl e, fun _ => h.put ((hs.sta g3 hM.1 (by omega) g1 g2 h.pok).more (Int.le_refl _) (by omega)) (by omega) (by omega)⟩
      · exact ⟨_, _, .one_no K i n x s' kp P hi hK g1 g2 g3 hs hx, fun _ => rfl, fun e => absurd e hx⟩
  · have hn2 : n ≤ G := hng
    by_cases hl : 3652058 < B.td + n
    · exact ⟨_, _, .pass_long n hn hl, fun _ => rfl, fun e => absurd e (by decide)⟩
    have each : ∀ k, ∃ s' : Sv, k < 32 → (B.s k = Sv.zero ∧ s' = Sv.zero) ∨ ∃ (kp : Nat) (P : Pv), (B.s k).pl = (kp : Int) ∧ B.ps[kp]? = some P ∧ Sta M L P B.td (B.s k) ∧ DayOk M (L + n) P (B.td + n) (B.s k) s' := fun k => by
      by_cases hk : k < 32
      · rcases h.sub k hk with g | ⟨kp, P, g1, g2, g3⟩
        · exact ⟨Sv.zero, fun _ => .inl ⟨g, rfl⟩⟩
        · obtain ⟨s', D⟩ := g3.day (y' := B.td + n) (h.okAt g2).1 (by omega) (by omega) (by omega) hM.2 (by omega) (by omega)
          rw [show L + (B.td + n - B.td) = L + n by omega] at D
          exact ⟨s', fun _ => .inr ⟨kp, P, g1, g2, g3, D⟩⟩
      · exact ⟨Sv.zero, fun g => absurd g hk⟩
    obtain ⟨D, hD⟩ : ∃ D : Nat → Sv, ∀ k, k < 32 → (B.s k = Sv.zero ∧ D k = Sv.zero) ∨ ∃ (kp : Nat) (P : Pv), (B.s k).pl = (kp : Int) ∧ B.ps[kp]? = some P ∧ Sta M L P B.td (B.s k) ∧ DayOk M (L + n) P (B.td + n) (B.s k) (D k) := ⟨fun k => Classical.choose (each k), fun k => Classical.choose_spec (each k)⟩
    clear each
    refine ⟨_, _, .pass_yes n D hn (by omega) hD, fun e => absurd rfl e, fun _ => ⟨by show 0 ≤ B.td + n ∧ B.td + n ≤ 3652058; omega, h.len, h.pok, fun k hk => ?_⟩⟩
    rcases hD k hk with ⟨_, g⟩ | ⟨kp, P, g1, g2, _, g3⟩
    · exact .inl g
    · exact .inr ⟨kp, P, by show (D k).pl = _; rw [g3.pl]; exact g1, g2, g3.sta.more (by omega) (by omega)⟩
  · rcases h.sub i hi with hz | ⟨kp, P, g1, g2, g3⟩
    · exact ⟨_, _, .hear_none i NK C T A V hi hz, fun _ => rfl, fun e => absurd e (by decide)⟩
    · rcases Heard1.total g3 i ⟨NK, i, C, T, A, V⟩ with ⟨s', hs⟩ | ⟨s', hs⟩
      · exact ⟨_, _, .hear_no i NK C T A V s' kp P hi g1 g2 g3 hs, fun _ => rfl, fun e => absurd e (by decide)⟩
      · obtain ⟨f1, f2⟩ := hs.sta g3 hday
        exact ⟨_, _, .hear_yes i NK C T A V s' kp P hi g1 g2 g3 hs, fun e => absurd rfl e, fun _ => h.put ⟨kp, P, by rw [f2]; exact g1, g2, f1.more (by omega) (by omega)⟩ (by omega) (by omega)⟩
end Go.Proofs.YtblikgbcakgdnaaGreat
/-
  What holds of the program's book from step to step: its subscriptions' numbers stay small; an order of one changes no other. No conditions but the sizes.
-/
namespace Go.Proofs.YtblikgbcakgdnaaGreat
set_option linter.unusedVariables false
set_option linter.unusedSimpArgs false
set_option maxRecDepth 100000
open Go.ChangeShapes Go.WideShapes Go.ChangeAt Go.RowKit

/-- A book whose numbers are small. -/
structure PBok (M L td : Int) (a : Nat → Av) (ps : List Pv) : Prop where
  day : 0 ≤ td ∧ td ≤ 2000000
  len : ps.length ≤ 8
  pok : ∀ P ∈ ps, P.Ok ∧ P.e ≤ 12 ∧ 0 ≤ P.t ∧ P.t ≤ 1000
  sub : ∀ k, k < 32 → a k = Av.zero ∨ ∃ (s : Sv) (kp : Nat) (P : Pv), s.pl = (kp : Int) ∧ ps[kp]? = some P ∧ Sta M L P td s ∧ a k = s.tell
  low : ∀ k, 3 ≤ k → k < 32 → a k = Av.zero
theorem PBok.okAt {M L td : Int} {a : Nat → Av} {ps : List Pv} (h : PBok M L td a ps) {k : Nat} {P : Pv} (hk : ps[k]? = some P) : P.Ok ∧ P.e ≤ 12 ∧ 0 ≤ P.t ∧ P.t ≤ 1000 := h.pok P (List.mem_of_getElem? hk)
theorem PBok.lens {M L td : Int} {a : Nat → Av} {ps : List Pv} (h : PBok M L td a ps) (hL : L ≤ 9000) : ∀ k, k < 32 → (a k).l.length ≤ 9000 := fun k hk => by
  rcases h.sub k hk with g | ⟨s, kp, P, _, _, hs, g⟩
  · rw [g]; exact Nat.zero_le _
  · rw [g]; exact (hs.lens hL).2
/-- Orders as the law makes them. -/
inductive OForm : Ov → Prop
  | def_ (P : Pv) (hP : P.Ok ∧ P.e ≤ 12 ∧ 0 ≤ P.t ∧ P.t ≤ 1000) (hpr : Pn.right P.a P.u P.e P.t = 0) : OForm ⟨1, 0, 0, 0, P, Nv.zero⟩
  | opn_ (i n : Nat) (hi : i < 3) : OForm ⟨2, i, n, 0, Pv.zero, Nv.zero⟩
  | chg (i n : Nat) (hi : i < 32) : OForm ⟨3, i, n, 0, Pv.zero, Nv.zero⟩
  | one (k : Int) (hk : 4 ≤ k ∧ k ≤ 8) (i : Nat) (hi : i < 32) : OForm ⟨k, i, 0, 0, Pv.zero, Nv.zero⟩
  | pass (n : Int) (hn : 0 ≤ n ∧ n ≤ 40) : OForm ⟨9, 0, 0, n, Pv.zero, Nv.zero⟩
  | hear (NK : Int) (i : Nat) (m T M V : Int) (hi : i < 32) : OForm ⟨10, 0, 0, 0, Pv.zero, ⟨NK, i, m, T, M, V⟩⟩
/-- An order of one subscription changes no other. -/
def Apart (o : Ov) (td : Int) (a : Nat → Av) (td' : Int) (a' : Nat → Av) : Prop := td' ≤ td + 40 ∧ (o.k ≠ 9 → td' = td ∧ ∀ k : Nat, k < 32 → (o.k = 1 ∨ (o.k = 10 ∧ (k : Int) ≠ o.A.s) ∨ (o.k ≠ 10 ∧ (k : Int) ≠ o.s)) → a' k = a k)
section
variable {M L : Int} {w : World} {b : Kb} {ps : List Pv} {o : Ov}
/-- The list of one subscription, at a later world. -/
theorem KbM.at_ {W W' : World} {c : Kb} {i : Nat} (hc : KbM W 0 W.heap.size c ps) (hi : i < 32) (hb : Below W.heap.size W W') : Cys W' 0 W'.heap.size (c.v i) (c.a i).l := ((hc.cs i hi).below hb).more (Nat.le_refl _) hb.size
end
end Go.Proofs.YtblikgbcakgdnaaGreat
/-
  Any order told to the program's book whose numbers are small: they stay so. No conditions but the sizes.
-/
namespace Go.Proofs.YtblikgbcakgdnaaGreat
set_option linter.unusedVariables false
set_option linter.unusedSimpArgs false
set_option maxRecDepth 100000
open Go.ChangeShapes Go.WideShapes Go.ChangeAt Go.RowKit

section
variable {M L : Int} {w : World} {b : Kb} {ps : List Pv} {o : Ov}
theorem KbM.psAt {W W' : World} {c : Kb} (hc : KbM W 0 W.heap.size c ps) (hb : Below W.heap.size W W') : Pys W' 0 W'.heap.size c.vp ps := (hc.ps.below hb).more (Nat.le_refl _) hb.size
end
end Go.Proofs.YtblikgbcakgdnaaGreat
